import PyProof.Rows.All
import Wide.All
import KE.KDictOf
import KE.KIntText
import KE.KFromBytes
import KE.KIsAll
import KE.RegMulBits
import KE.KRevIter
import KE.KStrOpen
import Wide.FinOn
import Lean
import PyProof.EqAt
import PyProof.EqKinds
import PyProof.TupleCall
import PySem.Challenge.RW_latefare_k49_rows_behind_open
set_option Elab.async false
set_option linter.all false
set_option compiler.extract_closed false
set_option tactic.hygienic false
set_option maxRecDepth 100000
set_option maxHeartbeats 8000000
noncomputable section
local macro_rules|`($x<|>$y)=>`(autoParam $x $y)
def J7z(a:True:=by rfl):True:=a
def J7:=J7z._auto_1
def J8z(a:True:=by decide):True:=a
def J8:=J8z._auto_1
def J9z(a:True:=by walk_at"o"):True:=a
def J9:=J9z._auto_1
def Q0z(a:True:=by intro _;rfl):True:=a
def Q0:=Q0z._auto_1
def Q1z(a:True:=by decide +kernel):True:=a
def Q1:=Q1z._auto_1
def Q2z(a:True:=by with_unfolding_all rfl):True:=a
def Q2:=Q2z._auto_1
def Q3z(a:True:=by exact z6q):True:=a
def Q3:=Q3z._auto_1
def Q4z(a:True:=by first|exact .inl rfl|exact .inr rfl|assumption):True:=a
def Q4:=Q4z._auto_1
abbrev K0:=PySem.W.Frag
local macro_rules|`(tactic| walk_at"o")=>`(tactic| first|exact .inl rfl|exact .inr rfl|exact .inr (.inl rfl)|exact .inr (.inr rfl))
def z9a:=@List.mem_cons_self
def z9b:=@List.length_cons
def z9c:=@List.length_map
def z9d:=@List.mem_cons_of_mem
def z9e:=@List.getElem?_eq_some_iff
def z9f:=@List.length_append
def z9g:=@List.getElem?_set_ne
def z9h:=@Option.bind_some
def z9i:=@List.length_nil
def z9j:=@PySem.wpAny_bind
def z9k:=@List.mem_cons
def z9l:=@Nat.le_refl
def z9m:=@PySem.Heap.get?_push_of_some
def z9n:=@PySem.Heap.lt_size
def z9o:=@List.getElem?_eq_getElem
def z9p:=@List.map_cons
def z9q:=@List.size_toArray
def z9r:=@List.getElem?_set_self
def z9s:=@List.mem_append_right
def z9t:=@List.all_eq_true
def z9u:=@List.getElem_mem
def z9v:=@Nat.lt_of_lt_of_le
def z9w:=@List.mem_singleton
def z9x:=@List.getElem?_map
def z9y:=@List.getElem?_append_right
def z9z:=@PySem.wpAny_pure
def z8a:=@List.length_take
def z8b:=@List.mem_of_getElem?
def z8c:=@List.drop_eq_getElem_cons
def z8d:=@decide_eq_true
def z8e:=@List.length_set
def z8f:=@List.getElem?_append_left
def z8g:=@Bool.false_ne_true
def z8h:=@decide_eq_false
def z8i:=@List.mem_append_left
def z8j:=@List.nodup_cons
def z8k:=@List.map_append
def z8l:=@PySem.Heap.get?_push_size
def z8m:=@Bool.and_eq_true
def z8n:=@PySem.wpAny_mono
def z8o:=@Nat.ne_of_lt
def z8p:=@List.take_succ_eq_append_getElem
def z8q:=@List.mem_append
def z8r:=@List.append_nil
def z8s:=@List.length_replicate
def z8t:=@beq_eq_false_iff_ne
def z8u:=@congrArg
def z8v:=@List.getD_eq_getElem?_getD
def z8w:=@List.lookup_cons
def z8x:=@List.length_range
def z8y:=@PyProof.Rows.callWith_type1
def z8z:=@List.mem_map
def z7a:=@Int.toNat_natCast
def z7b:=@Option.some.inj
def z7c:=@Option.map_some
def z7d:=@Option.getD_some
def z7e:=@List.sum_cons
def z7f:=@List.drop_eq_nil_of_le
def z7g:=@beq_iff_eq
def z7h:=@Nat.zero_le
def z7i:=@List.getElem?_replicate
def z7j:=@List.zip_cons_cons
def z7k:=@List.map_map
def z7l:=@List.length_drop
def z7m:=@List.not_mem_nil
def z7n:=@Int.mul_le_mul_of_nonneg_left
def z7o:=@Nat.le_trans
def z7p:=@List.mem_range
def z7q:=@PySem.sizeLine_eq
def z7r:=@List.take_of_length_le
def z7s:=@Int.mul_le_mul
def z7t:=@List.replicate_succ
def z7u:=@Nat.lt_irrefl
def z7v:=@List.all_cons
def z7w:=@Int.mul_nonneg
def z7x:=@List.append_assoc
def z7y:=@PySem.mem_of_lookup
def z7z:=@List.getElem_of_mem
def z6a:=@List.length_reverse
def z6b:=@Int.pow_succ
def z6c:=@List.drop_length
def z6d:=@PySem.wpAny_Call_Name_kw
def z6e:=@PySem.W.callWith_K
def z6f:=@Bool.false_eq_true
def z6g:=@PySem.W.kia_one
def z6h:=@PySem.wpAny_truthy_bool
def z6i:=@List.reverse_cons
def z6j:=@of_decide_eq_true
def z6k:=@List.any_cons
def z6l:=@List.cons_append
def z6m:=@List.drop_zero
def z6n:=@PySem.Heap.get?_update_other
def z6o:=@List.map_nil
def z6p:=@PySem.W.methodCall_KW
def z6q:=@PySem.PassesOwn.never
def z6r:=@PySem.W.mg_of
def z6s:=@List.flatten_cons
def z6t:=@Option.some.injEq
def z6u:=@List.getElem?_zip_eq_some
def z6v:=@Option.getD_none
def z6w:=@beq_self_eq_true
def z6x:=@List.take_length
def z6y:=@List.filterMap_cons
def z6z:=@List.drop_succ_cons
def z5a:=@List.map_congr_left
def z5b:=@List.mem_filter
def z5c:=@List.find?_cons
def z5d:=@if_false
def z5e:=@PySem.wpAny_loadPart_at
def z5f:=@PySem.codeAny_mono
def z5g:=@List.getElem?_eq_none
def z5h:=@PySem.W.looks_findIn
def z5i:=@PySem.call_meets
def z5j:=@List.map_reverse
def z5k:=@decide_eq_decide
def z5l:=@List.reverse_reverse
def z5m:=@or_false
def z5n:=@Bool.not_true
def z5o:=@Sum.inr.inj
def z5p:=@PySem.W.looks_mroIn
def z5q:=@PySem.wpAny_execs_nil
def z5r:=@PySem.wpAny_passesOwn
def z5s:=@List.foldl_cons
def z5t:=@Nat.min_eq_left
def z5u:=@List.mem_or_eq_of_mem_set
def z5v:=@List.pairwise_iff_getElem
def z5w:=@PySem.tupleKind_room_in1
def z5x:=@PySem.F.slot_list_append
def z5y:=@PySem.F.type_list_append
def z5z:=@PySem.wpAny_comprehension_free
def z4a:=@Nat.succ.inj
def z4b:=@PySem.typeIs_str
def z4c:=@PySem.F.plainAttrs_list
def z4d:=@List.getElem?_cons_succ
def z4e:=@Bool.not_eq_true'
def z4f:=@Array.getElem?_eq_none
def z4g:=@PySem.F.plainAttrs_str
def z4h:=@PySem.F.slot_str_split
def z4i:=@if_true
def z4j:=@List.length_singleton
def z4k:=@List.getElem?_reverse
def z4l:=@PySem.F.typeOf_object_class
def z4m:=@List.map_uncurry_zip_eq_zipWith
def z4n:=@Nat.le_of_lt
def z4o:=@Nat.ne_of_gt
def z4p:=@List.of_mem_zip
def z4q:=@PySem.Calls.evalArgs_plain
def z4r:=@List.nil_append
def z4s:=@Bool.eq_iff_iff
def z4t:=@Int.pow_zero
def z4u:=@List.headD_cons
def z4v:=@List.cons.injEq
def z4w:=@List.mem_of_mem_take
def z4x:=@PySem.W.plainGet_of
def z4y:=@PySem.W.callWith_K0
def z4z:=@List.length_pos_iff
def z3a:=@PySem.W.of_hideAll
def z3b:=@List.mem_filterMap
def z3c:=@PySem.F.args_str_split_2
def z3d:=@decide_eq_true_iff
def z3e:=@List.getElem_range
def z3f:=@List.length_zipIdx
def z3g:=@PySem.Paired.length
def z3h:=@PySem.wpAny_holding
def z3i:=@Option.isSome_map
def z3j:=@PySem.F.entry_str_split
local macro_rules|`(tactic| ext)=>`(tactic| first|decide|(with_reducible assumption)|(with_reducible exact Int.natCast_nonneg _)|(with_reducible exact z7o (by with_reducible assumption) (by decide))|(with_reducible exact Nat.lt_of_le_of_lt (by with_reducible assumption) (by decide))|(with_reducible exact z9v (by with_reducible assumption) (by decide))|(with_reducible exact Int.le_trans (by with_reducible assumption) (by decide))|(with_reducible exact Int.lt_of_le_of_lt (by with_reducible assumption) (by decide))|(with_reducible exact Int.lt_of_lt_of_le (by decide) (by with_reducible assumption))|lia (config:={})|omega)
local macro_rules|`(∅)=>`(by ext)
section
open PySem PySem.Spec
abbrev z8:=List Nat
abbrev z9:=List Int
abbrev j_:=List Str
abbrev k_:=List Value
abbrev l_:=List Expr
abbrev m_:=List Addr
abbrev n_:=List Keyword
abbrev o_:=List Stmt
abbrev p_:=List Bool
abbrev u_:=List (Addr×Obj)
abbrev v_:=Option Value
abbrev A_:=Option Int
abbrev B_:=Option Bool
end
namespace L2
open PySem PySem.Spec PyProof.Rows
abbrev Key:=Sum Int Str
noncomputable def j7:Key->Value->Bool
 |.inl k,v=>Value.isInt k v
 |.inr x,v=>Value.isStrOf x v
noncomputable def BV(w:World):Key->Int
 |.inl k=>hashInt k
 |.inr x=>hashStr w x
theorem fX:∀{k:Key} {v:Value},j7 k v=true->(∃i t,k=Sum.inl i/\v=Value.int i t)\/(∃x t,k=Sum.inr x/\v=Value.str x t)
 |.inl i,v,h=>by obtain⟨t,e⟩:=Value.isInt_shape (k:=i) (v:=v) h;exact .inl ⟨i,t,rfl,e⟩
 |.inr x,v,h=>by obtain⟨t,e⟩:=Value.isStrOf_shape (x:=x) (v:=v) h;exact .inr ⟨x,t,rfl,e⟩
def BW(i:Int)(t:Tok):j7 (.inl i) (.int i t)=true:=by simp[j7,Value.isInt]
def BX(x:Str)(t:Tok):j7 (.inr x) (.str x t)=true:=by simp[j7,Value.isStrOf]
def BY(a b:Int):decide ((Sum.inl a:Key)=Sum.inl b)=(a==b):=by
 by_cases e:a=b
 ·subst e;simp
 ·have h:¬(Sum.inl a:Key)=Sum.inl b:=λq=>e (Sum.inl.inj q)
  rw[z8h h];exact(z8t.mpr e).symm
def BZ(a b:Str):decide ((Sum.inr a:Key)=Sum.inr b)=decide (a=b):=by
 by_cases e:a=b
 ·subst e;simp
 ·have h:¬(Sum.inr a:Key)=Sum.inr b:=λq=>e (z5o q)
  rw[z8h h,z8h e]
def C0(a:Int)(b:Str):decide ((Sum.inl a:Key)=Sum.inr b)=false:=z8h (λq=>nomatch q)
def C2(a:Str)(b:Int):decide ((Sum.inr a:Key)=Sum.inl b)=false:=z8h (λq=>nomatch q)
def dc(prog:Program)(w:World):PySem.KeyKind prog w Key where
 is:=j7
 hash:=BV w
 inj:= λv a b ha hb=>by
  rcases fX ha with⟨i,t,rfl,rfl⟩|⟨x,t,rfl,rfl⟩
  ·rcases fX hb with⟨j,u,rfl,e⟩|⟨y,u,rfl,e⟩
   ·injection e with e1 _;rw[e1]
   ·exact nomatch e
  ·rcases fX hb with⟨j,u,rfl,e⟩|⟨y,u,rfl,e⟩
   ·exact nomatch e
   ·injection e with e1 _;rw[e1]
 byValue:=λk v h=>by rcases fX h with⟨i,t,rfl,rfl⟩|⟨x,t,rfl,rfl⟩<;>rfl
 pyHash:=λhv h=>by
  rcases fX hv with⟨i,t,rfl,rfl⟩|⟨x,t,rfl,rfl⟩
  ·exact wpAny_pyHash_int h
  ·exact wpAny_pyHash_str h
 eqBool:=λhu hv h=>by
  rcases fX hu with⟨i,t,rfl,rfl⟩|⟨x,t,rfl,rfl⟩
  ·rcases fX hv with⟨j,u,rfl,rfl⟩|⟨y,u,rfl,rfl⟩
   ·rw[BY]at h;exact wpAny_eqBool_int h
   ·rw[C0]at h;exact SeqAt.EqAt.int_str i t y u _ _ _ _ h
  ·rcases fX hv with⟨j,u,rfl,rfl⟩|⟨y,u,rfl,rfl⟩
   ·rw[C2]at h;exact SeqAt.EqAt.str_int x t j u _ _ _ _ h
   ·rw[BZ]at h;exact wpAny_eqBool_str h
 «strs»:= λk x t v h=>by
  rcases fX h with⟨i,u,rfl,e⟩|⟨y,u,rfl,e⟩
  ·exact nomatch e
  ·injection e with e1 _
   subst e1;cases v<;>rfl
def C3(prog:Program)(w:World)(i:Int)(t:Tok):(dc prog w).is (.inl i) (.int i t)=true:=BW i t
def C4(prog:Program)(w:World)(x:Str)(t:Tok):(dc prog w).is (.inr x) (.str x t)=true:=BX x t
inductive V where
 |non|bl (b:Bool)|int (i:Int)|str (x:Str)|byt (b:Array UInt8)|flt (b:UInt64)|ref (a:Addr)|ty (n:String)
 deriving DecidableEq
abbrev _root_.C_:=List V
abbrev _root_.D_:=Option V
def RelV:V->Value->Prop
 |.non,u=>u=Value.none
 |.bl b,u=>u=Value.bool b
 |.int i,u=>∃t,u=Value.int i t
 |.str x,u=>∃t,u=Value.str x t
 |.byt b,u=>∃t,u=Value.bytes b t
 |.flt b,u=>∃t,u=Value.float b t
 |.ref a,u=>u=Value.ref a
 |.ty n,u=>u=Value.type n
abbrev Vals:C_->k_->Prop:=Paired RelV
def Vals.length{xs:C_}{us:k_}(r:Vals xs us):xs.length=us.length:=z3g r
theorem Vals.get:∀{xs:C_} {us:k_} {i:Nat} {x:V},Vals xs us->xs[i]?=some x->∃u,us[i]?=some u/\RelV x u
 |_,_,_,_,.nil,e=>by simp at e
 |_,_,0,_,.cons r _,e=>by simp at e;subst e;exact⟨_,rfl,r⟩
 |_,_,i+1,x,.cons _ t,e=>by obtain⟨u,h1,h2⟩:=Vals.get (i:=i) (x:=x) t (by simpa using e);exact⟨u,by simpa using h1,h2⟩
theorem Vals.set{x:V}{u:Value}(r:RelV x u):∀{xs:C_} {us:k_} (i:Nat),Vals xs us->Vals (xs.set i x) (us.set i u)
 |_,_,_,.nil=>.nil
 |_,_,0,.cons _ t=>.cons r t
 |_,_,i+1,.cons q t=>.cons q (Vals.set r i t)
theorem Vals.append:∀{xs ys:C_} {us ws:k_},Vals xs us->Vals ys ws->Vals (xs++ys) (us++ws)
 |_,_,_,_,.nil,s=>s
 |_,_,_,_,.cons r t,s=>.cons r (Vals.append t s)
theorem Vals.take:∀{xs:C_} {us:k_} (n:Nat),Vals xs us->Vals (xs.take n) (us.take n)
 |_,_,0,_=>.nil
 |_,_,_+1,.nil=>.nil
 |_,_,n+1,.cons r t=>.cons r (Vals.take n t)
theorem Vals.drop:∀{xs:C_} {us:k_} (n:Nat),Vals xs us->Vals (xs.drop n) (us.drop n)
 |_,_,0,r=>r
 |_,_,_+1,.nil=>.nil
 |_,_,n+1,.cons _ t=>Vals.drop n t
def RelO:D_->v_->Prop
 |some v,some u=>RelV v u
 |none,none=>True
 |_,_=>False
def KV{κ:Type}:List (κ×V)->List (κ×Value)->Prop:=Paired λ(p:κ×V) (q:κ×Value)=>p.1=q.1/\RelV p.2 q.2
noncomputable def kV:Key->V
 |.inl i=>.int i
 |.inr x=>.str x
inductive HO where
 |lst (xs:C_)
 |tup (xs:C_)
 |dK (kvs:List (Key×V))|dT (kvs:List (List Key×V))
 |set (S:Int->Bool) (n:Nat)
 |ins (C dx:Addr) (fs:List (Str×V))
 |own (x:Addr)
 |xd (fs:List (Str×V))
 |met (f x:Addr)
 |rng (lo hi:Int)
 |frz (o:Obj) (u:HO)
 |tbl (ps:Array Value)
 |ext (φ:Heap->Prop)
abbrev Hp:=Addr->Option HO
noncomputable def upd(H:Hp)(a:Addr)(o:HO):Hp:=λb=>if b=a then some o else H b
def bj{H:Hp}{a:Addr}{o:HO}:upd H a o a=some o:=by unfold upd;rw[if_pos rfl]
def aH{H:Hp}{a b:Addr}{o:HO}(h:b≠a):upd H a o b=H b:=by unfold upd;rw[if_neg h]
def C5{H:Hp}{a b:Addr}{o u:HO}(h:H a=some o)(h':H b=some u)(d:o≠u):a≠b:=by intro e;subst e;rw[h]at h';exact d (z7b h')
def c6{H:Hp}{a b:Addr}{o:HO}(h:H a=some o)(h':H b=none):a≠b:=by intro e;subst e;rw[h]at h';cases h'
section
variable (P:Program)(w:World)
def ObjOk(H:Hp)(h:Heap)(a:Addr):HO->Prop
 |.lst xs=>xs.length<=sizeLine/\∃(its:k_) (n:Nat),Vals xs its/\h.get? a=some {cls:=.type "list",data:=.seq its.toArray n}
 |.tup xs=>xs.length<=sizeLine/\∃its:k_,Vals xs its/\IsTup h a its.toArray
 |.dK kvs=>kvs.length<=sizeLine/\(a==sysModules)=false/\∃vs,KV kvs vs/\h.DictOf (dc P w) a vs
 | .dT kvs=>kvs.length<=sizeLine/\(a==sysModules)=false/\∃xs:List (List Key×Addr×Value),
   Paired (λ(p:List Key×V) (q:List Key×Addr×Value)=>p.1=q.1/\H q.2.1=some (.tup (p.1.map kV))/\RelV p.2 q.2.2) kvs xs /\
   ∃o es ep,h.get? a=some o/\o.ExactDict/\o.data=.dict es ep/\es.toList=xs.map (entryOfKey (tupleKind (dc P w)))/\(xs.map (·.1)).Nodup
 |.set S n=>h.SetOf (intKind P w) a S n
 | .ins C dx fs=>H dx=some (.own a)/\fs.length<=1000/\dx≠a/\h.get? a=some (W.instObj C dx) /\
   ∃mA,h.Ns1 dx mA/\(∀f,RelO (fs.lookup f) (mA f))/\PySem.Within mA (fs.map (·.1))
 |.own _=>∃o,h.get? a=some o
 |.xd fs=>∃mA,h.Ns1 a mA/\∀f,RelO (fs.lookup f) (mA f)
 |.rng lo hi=>∃t u v,h.get? a=some {cls:=.type "range",data:=.fields #[.int lo t,.int hi u,.int 1 v]}
 |.frz o u=>h.get? a=some o/\ObjOk H h a u
 |.tbl ps=>h.get? a=some {cls:=.none,data:=.fields ps}
 |.met f x=>h.get? a=some (W.methodObj (.ref f) (.ref x))
 |.ext φ=>φ h/\(∃o,h.get? a=some o)/\∀h1 h2:Heap,φ h1->(∀o,h1.get? a=some o->h2.get? a=some o)->φ h2
def HOk(H:Hp)(h:Heap):Prop:=∀a o,H a=some o->ObjOk P w H h a o
end
section
variable {P:Program}{w:World}{H H':Hp}{h h':Heap}{a:Addr}{o:HO}
def ObjOk.lt(x:ObjOk P w H h a o):a<h.objs.size:=by
 cases o with
 |lst xs=>obtain⟨_,_,_,_,e⟩:=x;exact z9n e
 |tup xs=>obtain⟨_,_,_,p⟩:=x;exact p.lt
 |dK kvs=>obtain⟨_,_,_,_,o,_,_,e,_⟩:=x;exact z9n e
 |dT kvs=>obtain⟨_,_,_,_,o,_,_,e,_⟩:=x;exact z9n e
 |set S n=>obtain⟨o,_,_,_,e,_⟩:=x;exact z9n e
 |ins C dx fs=>obtain⟨_,_,_,e,_⟩:=x;exact z9n e
 |own y=>obtain⟨_,e⟩:=x;exact z9n e
 |xd fs=>obtain⟨_,⟨_,_,_,e,_⟩,_⟩:=x;exact z9n e
 |rng lo hi=>obtain⟨_,_,_,e⟩:=x;exact z9n e
 |frz ob u=>obtain⟨e,_⟩:=x;exact z9n e
 |tbl ps=>exact z9n (show h.get? a=some _ from x)
 |met f y=>exact z9n (show h.get? a=some _ from x)
 |ext φ=>obtain⟨_,⟨_,e⟩,_⟩:=x;exact z9n e
theorem Paired.mapP{α β:Type}{F G:α->β->Prop}:∀{y2:List α} {y3:List β},Paired F y2 y3->(∀a b,F a b->G a b)->Paired G y2 y3
 |_,_,.nil,_=>.nil
 |_,_,.cons r t,f=>.cons (f _ _ r) (Paired.mapP t f)
def ObjOk.stay(x:ObjOk P w H h a o)(k:∀b u,(b=a\/H b=some (.own a))->h.get? b=some u->h'.get? b=some u)(ho:∀b,H b=some (.own a)->H' b=some (.own a))(ht:∀b xs,H b=some (.tup xs)->H' b=some (.tup xs)):ObjOk P w H' h' a o:=by
 induction o with
 |lst xs=>obtain⟨z,its,n,r,e⟩:=x;exact⟨z,its,n,r,k _ _ (.inl rfl) e⟩
 |tup xs=>obtain⟨z,its,r,ob,e,c⟩:=x;exact⟨z,its,r,ob,k _ _ (.inl rfl) e,c⟩
 |dK kvs=>obtain⟨z,y,vs,r,ob,es,ep,e,c⟩:=x;exact⟨z,y,vs,r,ob,es,ep,k _ _ (.inl rfl) e,c⟩
 |dT kvs=>obtain⟨z,y,xs,r,ob,es,ep,e,c⟩:=x;exact⟨z,y,xs,Paired.mapP r λp q z=>⟨z.1,ht _ _ z.2.1,z.2.2⟩,ob,es,ep,k _ _ (.inl rfl) e,c⟩
 |set S n=>obtain⟨ob,es,ep,t,e,c⟩:=x;exact⟨ob,es,ep,t,k _ _ (.inl rfl) e,c⟩
 |ins C dx fs=>obtain⟨d,z,ne,e,mA,⟨od,es,ep,e2,c⟩,r⟩:=x;exact⟨ho _ d,z,ne,k _ _ (.inl rfl) e,mA,⟨od,es,ep,k _ _ (.inr d) e2,c⟩,r⟩
 |own y=>obtain⟨ob,e⟩:=x;exact⟨ob,k _ _ (.inl rfl) e⟩
 |xd fs=>obtain⟨mA,⟨od,es,ep,e,c⟩,r⟩:=x;exact⟨mA,⟨od,es,ep,k _ _ (.inl rfl) e,c⟩,r⟩
 |rng lo hi=>obtain⟨t,u,v,e⟩:=x;exact⟨t,u,v,k _ _ (.inl rfl) e⟩
 |frz ob u ih=>obtain⟨e,q⟩:=x;exact⟨k _ _ (.inl rfl) e,ih q⟩
 |tbl ps=>have e:h.get? a=some {cls:=.none,data:=.fields ps}:=x;show h'.get? a=some {cls:=.none,data:=.fields ps};exact k a _ (.inl rfl) e
 |met f y=>have e:h.get? a=some (W.methodObj (.ref f) (.ref y)):=x;show h'.get? a=some (W.methodObj (.ref f) (.ref y));exact k a _ (.inl rfl) e
 |ext φ=>obtain⟨p,⟨o,e⟩,st⟩:=x;exact⟨st _ _ p λo q=>k _ _ (.inl rfl) q,⟨o,k _ _ (.inl rfl) e⟩,st⟩
def HOk.lt(x:HOk P w H h)(e:H a=some o):a<h.objs.size:=(x a o e).lt
def HOk.fresh(x:HOk P w H h)(e:h.objs.size<=a):H a=none:=by
 cases q:H a with
 |none=>rfl
 |some u=>exact absurd (z9v (x.lt q) e) (z7u _)
def HOk.kept(x:HOk P w H h)(k:∀b u,h.get? b=some u->h'.get? b=some u):HOk P w H h':=λa o e=>(x a o e).stay (λb u _ q=>k b u q) (λ_ q=>q) λ_ _ q=>q
def HOk.laid(x:HOk P w H h)(k:∀b u,h.get? b=some u->h'.get? b=some u)(hp:h.objs.size<=a)(new:ObjOk P w (upd H a o) h' a o):HOk P w (upd H a o) h':=λb u e=>by
 have hn:=x.fresh hp;by_cases hb:b=a
 ·subst hb;rw[bj]at e;cases e;exact new
 ·rw[aH hb]at e
  exact(x b u e).stay (λc v _ q=>k c v q) (λc q=>by rw[aH (c6 q hn)];exact q) λc xs q=>by rw[aH (c6 q hn)];exact q
end
def Rd(H:Hp)(a:Addr)(u:HO):Prop:=H a=some u\/∃o,H a=some (.frz o u)
def Rd.ok{P:Program}{w:World}{H:Hp}{h:Heap}{a:Addr}{u:HO}(r:Rd H a u)(x:HOk P w H h):ObjOk P w H h a u:=by
 rcases r with r|⟨o,r⟩
 ·exact x a u r
 ·obtain⟨_,q⟩:=x a _ r
  exact q
def Mut:Option HO->Prop
 |some (.lst _)=>True
 |some (.dK _)=>True
 |some (.dT _)=>True
 |some (.set _ _)=>True
 |some (.ins _ _ _)=>True
 |some (.ext _)=>True
 |_=>False
section
variable {P:Program}{w:World}{H:Hp}{h h':Heap}{x e:Addr}{o':HO}
def HOk.write(ok:HOk P w H h)(mu:Mut (H x))(he:e=x\/H e=some (.own x))(k:∀b u,b≠e->h.get? b=some u->h'.get? b=some u)(heo:∃u,h'.get? e=some u)(new:ObjOk P w (upd H x o') h' x o'):HOk P w (upd H x o') h':=λb u q=>by
 have nown:∀c y,H c=some (.own y)->c≠x:=λc y r z=>by subst z;rw[r]at mu;exact mu
 have ntup:∀c xs,H c=some (.tup xs)->c≠x:=λc xs r z=>by subst z;rw[r]at mu;exact mu
 by_cases hb:b=x
 ·subst hb;rw[bj]at q;cases q;exact new
 ·rw[aH hb]at q
  by_cases hbe:b=e
  ·have q':H b=some (.own x):=by
    rcases he with z|z
    ·exact absurd (hbe.trans z) hb
    ·rw[hbe];exact z
   rw[q]at q';cases q';obtain⟨v,hv⟩:=heo;exact⟨v,by rw[hbe];exact hv⟩
  ·refine(ok b u q).stay (λc v hc r=>k c v ?_ r) (λc r=>by rw[aH (nown c b r)];exact r) λc xs r=>by rw[aH (ntup c xs r)];exact r
   rcases hc with rfl|hc
   ·exact hbe
   ·rintro rfl
    rcases he with z|z
    ·exact nown c b hc z
    ·rw[hc]at z;cases z;exact hb rfl
end
structure Un (fs ex:m_) (H H':Hp) (h h':Heap):Prop where
 keep:∀b o,h.get? b=some o->H b=none->b∉fs->b∉ex->h'.get? b=some o
 slot:∀b o,h.get? b=some o->H b=none->b∈fs->b∉ex->∃sl,h'.get? b=some {o with slots:=sl}
 free:∀b o,h.get? b=some o->H b=none->b∉ex->H' b=none
 there:∀b o,h.get? b=some o->b∉ex->∃o',h'.get? b=some o'
 tups:∀b xs,H b=some (.tup xs)->H' b=some (.tup xs)
 frzs:∀b o u,H b=some (.frz o u)->H' b=some (.frz o u)
 tbls:∀b ps,H b=some (.tbl ps)->∃more,H' b=some (.tbl (ps++more))
section
variable {fs ex:m_}{H H1:Hp}{h h1 h':Heap}{a x e:Addr}{o:HO}
def Un.any(u:Un fs ex H H1 h h1){b:Addr}{ob:Obj}(q:h.get? b=some ob)(n:H b=none)(hx:b∉ex):∃sl,h1.get? b=some {ob with slots:=sl}:=by
 by_cases hb:b∈fs
 ·exact u.slot b ob q n hb hx
 ·exact⟨ob.slots,u.keep b ob q n hb hx⟩
def Un.kept(k:∀b u,h.get? b=some u->h'.get? b=some u):Un fs ex H H h h':=
 ⟨λb ob q _ _ _=>k b ob q,λb ob q _ _ _=>⟨ob.slots,k b ob q⟩,λ_ _ _ n _=>n,λb ob q _=>⟨ob,k b ob q⟩,λ_ _ q=>q,λ_ _ _ q=>q,λ_ ps q=>⟨#[],by rw[q];simp⟩⟩
def Un.refl:Un fs ex H H h h:=Un.kept λ_ _ q=>q
def Un.laid(k:∀b u,h.get? b=some u->h'.get? b=some u)(hp:h.objs.size<=a)(hn:H a=none):Un fs ex H (upd H a o) h h' where
 keep:=λb u q _ _ _=>k b u q
 slot:=λb u q _ _ _=>⟨u.slots,k b u q⟩
 free:=λb u q n _=>by rw[aH (z8o (z9v (z9n q) hp))];exact n
 there:=λb u q _=>⟨u,k b u q⟩
 tups:=λb xs q=>by rw[aH (c6 q hn)];exact q
 frzs:=λb u xs q=>by rw[aH (c6 q hn)];exact q
 tbls:=λb ps q=>⟨#[],by rw[aH (c6 q hn),q];simp⟩
def Un.write(mu:Mut (H x))(he:e=x\/H e=some (.own x))(k:∀b u,b≠e->h.get? b=some u->h'.get? b=some u)(heo:∃u,h'.get? e=some u):Un fs ex H (upd H x o) h h':=by
 have hx:∀b,H b=none->b≠x:=λb n z=>by subst z;rw[n]at mu;exact mu
 have hb:∀b,H b=none->b≠e:=λb n z=>by
  subst z;rcases he with r|r
  ·exact hx b n r
  ·rw[n]at r;cases r
 have hm:∀b u,H b=some u->¬Mut (some u)->b≠x:=λb u q nm z=>by subst z;rw[q]at mu;exact nm mu
 refine⟨λb u q n _ _=>k b u (hb b n) q,λb u q n _ _=>⟨u.slots,k b u (hb b n) q⟩,λb u q n _=>by rw[aH (hx b n)];exact n,λb u q _=>?_,
  λb xs q=>by rw[aH (hm b _ q λz=>z)];exact q,λb u xs q=>by rw[aH (hm b _ q λz=>z)];exact q,λb ps q=>⟨#[],by rw[aH (hm b _ q λz=>z),q];simp⟩⟩
 by_cases hbe:b=e
 ·subst hbe;exact heo
 ·exact⟨u,k b u hbe q⟩
end
noncomputable def trk(h:Heap)(H:Hp):m_:=(List.range h.objs.size).filter λa=>(H a).isSome
def fY(h:Heap)(H:Hp):Heap:=W.hideAll h (trk h H)
def C6(h:Heap)(H:Hp):(fY h H).objs.size=h.objs.size:=W.hideAll_size _ _
def C7{h:Heap}{H:Hp}{b:Addr}{o:Obj}(e:h.get? b=some o)(n:H b=none):(fY h H).get? b=some o:=
 W.hideAll_get _ e λhm=>by have q:(H b).isSome=true:=(z5b.mp hm).2;rw[n]at q;simp at q
def C8{h:Heap}{H:Hp}{b:Addr}{o:Obj}(e:(fY h H).get? b=some o):h.get? b=some o/\H b=none:=by
 have e':h.get? b=some o:=z3a (trk h H) e;refine⟨e',?_⟩;cases q:H b with
 |none=>rfl
 |some x=>have hm:b∈trk h H:=z5b.mpr ⟨z7p.mpr (z9n e'),by simp[q]⟩;have z:(fY h H).get? b=none:=W.hideAll_none (trk h H) hm;rw[z]at e;cases e
noncomputable def C9(g h:Heap)(L:Addr):u_:=(List.range h.objs.size).filterMap λa=>if a=L\/(g.get? a).isSome=true then none else(h.get? a).map λo=>(a,o)
def rest(g h:Heap)(L d:Addr):u_:=(C9 g h L).filter λp=>decide (p.1≠d)
structure Mod (K:K0) (mg:Str->v_) (base:Heap):Prop where
 kin:K.In base
 glob:base.Ns mainGlobals mg
 blt:∃mb,base.Ns builtinsNs mb/\∀x:Str,x ≠ "__name__"->mb x=bootBuiltins x
 nolimit:base.NoLimit
structure Cx where
 prog:Program
 w:World
 K:K0
 mg:Str->v_
 base:Heap
 A:Around
 N:j_
 s₀:Shared
 H₀:Hp
 env:Env
 outer:List Env
 stack:List Env
 ex:m_
 fn:Str->Bool
 calm:Bool
 pn:u_
 xe:Value->Shared->Prop
abbrev SE(a:Expr)(l:l_)(X:Cx):Prop:=starEach (a::l) X.env=(false,eval a X.env)::starEach l X.env
abbrev BT(p:Pos)(l:l_)(X:Cx):Prop:=(backTo p (starEach l X.env)).any (·.1)=false
abbrev DB(x:Str):Prop:=(x==("__debug__" : Str))=false
noncomputable def frs(l:List Env):m_:=l.filterMap (·.frame)
abbrev Cx.fs(X:Cx):m_:=frs X.outer
def Vis(sc:Scope)(x:Str):Prop:=sc.names.lookup x=some .local\/sc.names.lookup x=some .cell\/sc.names.lookup x=some .free
def Loc(sc:Scope)(x:Str):Prop:=sc.names.lookup x=some .local\/sc.names.lookup x=some .cell
def Ca(env:Env)(h:Heap)(m:Str->v_)(x:Str)(u:Value):Prop:=
 (env.kindOf x=some .local/\m x=some u)\/((env.kindOf x=some .cell\/env.kindOf x=some .free)/\∃c,env.cells.lookup x=some c/\h.IsCell c (some u))
structure Cx.Ok (X:Cx):Prop where
 mod:Mod X.K X.mg X.base
 kind:X.env.scope.kind=.function
 glob:X.env.globals=mainGlobals
 blt:X.env.builtins=builtinsNs
 above:X.s₀.heap.objs.size<=X.env.locals
 inj:∀x y c,X.env.cells.lookup x=some c->X.env.cells.lookup y=some c->x=y
 has:∀x,(X.env.kindOf x=some .cell\/X.env.kindOf x=some .free)->∃c,X.env.cells.lookup x=some c
 cab:∀x c,X.fn x=true->X.env.cells.lookup x=some c->X.s₀.heap.objs.size<=c
 hd:X.calm=true->X.A.handled=none
 frames:X.A.frames=some X.stack
 stk:X.stack=X.outer\/(X.stack=X.env::X.outer/\X.env.frame=some X.env.locals)
 exf:∀b∈X.ex,b≠X.env.locals/\∀x c,X.env.cells.lookup x=some c->c≠b
 bs:∀b o,X.base.get? b=some o->X.s₀.heap.get? b=some o/\X.H₀ b=none
 bsz:X.base.objs.size<=X.s₀.heap.objs.size
 noex:∀b o,X.base.get? b=some o->b∉X.ex
 exfs:∀b∈X.ex,b∉X.fs
 funs:X.s₀.heap.FunFrames X.base X.outer
 frf:∀b∈X.fs,X.H₀ b=none
structure Inv (X:Cx) (G_:u_) (σ:List D_) (H:Hp) (s:Shared):Prop where
 ok:X.Ok
 os:s.os=X.s₀.os
 bare:AllBare s.gens
 base:Un X.fs X.ex X.H₀ H X.s₀.heap s.heap
 loc:∃m,s.heap.Ns X.env.locals m/\∀(i:Nat) (x:Str) (v:V),X.N[i]?=some x->σ[i]?=some (some v)->Vis X.env.scope x->∃u,RelV v u/\Ca X.env s.heap m x u
 cell:∀x c,X.env.cells.lookup x=some c->∃v,s.heap.IsCell c v
 free:H X.env.locals=none
 freeC:∀x c,X.env.cells.lookup x=some c->H c=none
 pin:∀p∈X.pn++G_,s.heap.get? p.1=some p.2/\H p.1=none/\p.1≠X.env.locals/\p.1∉X.fs/\∀v,p.2.data≠.cell v
 hok:HOk X.prog X.w H s.heap
 len:σ.length=X.N.length
section
variable {X:Cx}{G_:u_}{σ:List D_}{H H':Hp}{s:Shared}{h':Heap}
def Cx.Ok.nofr(ok:X.Ok){b:Addr}{o:Obj}(e:X.base.get? b=some o):b∉X.fs:=λhb=>by have:=(ok.funs.mem hb).1;rw[e]at this;cases this
def Inv.bs(I:Inv X G_ σ H s):∀b o,X.base.get? b=some o->s.heap.get? b=some o/\H b=none:=λb o e=>⟨I.base.keep b o (I.ok.bs b o e).1 (I.ok.bs b o e).2 (I.ok.nofr e) (I.ok.noex b o e),I.base.free b o (I.ok.bs b o e).1 (I.ok.bs b o e).2 (I.ok.noex b o e)⟩
def Inv.bk(I:Inv X G_ σ H s):∀b o,X.base.get? b=some o->s.heap.get? b=some o:=λb o e=>(I.bs b o e).1
def Inv.mod(I:Inv X G_ σ H s):Mod X.K X.mg X.base:=I.ok.mod
def Inv.kIn(I:Inv X G_ σ H s):X.K.In s.heap:=I.ok.mod.kin.keeps I.bk
def Inv.lt(I:Inv X G_ σ H s):X.env.locals<s.heap.objs.size:=let⟨_,hn,_⟩:=I.loc;hn.lt
def Inv.sz(I:Inv X G_ σ H s):X.s₀.heap.objs.size<=s.heap.objs.size:=z7o I.ok.above (z4n I.lt)
def Inv.nofs(I:Inv X G_ σ H s){a:Addr}(h:s.heap.objs.size<=a):a∉X.fs:=λhb=>by obtain⟨_,o,ho,_⟩:=I.ok.funs.mem hb;exact absurd (z9v (z9n ho) (z7o I.sz h)) (z7u _)
def Inv.cne(I:Inv X G_ σ H s):∀x c,X.env.cells.lookup x=some c->c≠X.env.locals:=λx c e z=>by obtain⟨v,o,ho,hd⟩:=I.cell x c e;obtain⟨m,⟨o',es,ep,ho',hd',_⟩,_⟩:=I.loc;rw[z,ho']at ho;cases ho;rw[hd']at hd;cases hd
def Inv.funs(I:Inv X G_ σ H s):s.heap.FunFrames X.base X.outer:=by
 have all:∀(l:List Env),(∀b∈frs l,b∈X.fs)->X.s₀.heap.FunFrames X.base l->s.heap.FunFrames X.base l:=by
  intro l
  induction l with
  |nil=>intro _ _;trivial
  | cons env r ih=>
    intro hs hl;obtain⟨hk,⟨L,o,hf,hn,ho,hd⟩,hr⟩:=hl;have hL:L∈X.fs:=hs L (by unfold frs;rw[z6y,hf];exact z9a);obtain⟨sl,e⟩:=I.base.slot L o ho (I.ok.frf L hL) hL λz=>I.ok.exfs L z hL
    exact⟨hk,⟨L,_,hf,hn,e,hd⟩,ih (λb hb=>hs b (by unfold frs;rw[z6y,hf];exact z9d _ hb)) hr⟩
 exact all X.outer (λ_ hb=>hb) I.ok.funs
def Inv.stack(I:Inv X G_ σ H s):s.heap.FunFrames X.base X.stack:=by
 rcases I.ok.stk with e|⟨e,hf⟩
 ·rw[e];exact I.funs
 ·rw[e]
  obtain⟨m,hn,_⟩:=I.loc;refine .cons (by rw[I.ok.kind];decide) hf hn ?_ I.funs;exact Heap.get?_none_of_le (z7o I.ok.bsz I.ok.above)
def Inv.stkSub(I:Inv X G_ σ H s):∀b∈frs X.stack,b∈X.env.locals::X.fs:=λb hb=>by
 rcases I.ok.stk with e|⟨e,hf⟩
 ·rw[e]at hb;exact z9d _ hb
 ·rw[e]at hb
  unfold frs at hb;rw[z6y,hf]at hb;exact hb
def Inv.stkFree(I:Inv X G_ σ H s):∀b∈frs X.stack,H b=none:=λb hb=>by
 rcases z9k.mp (I.stkSub b hb)with e|hb
 ·rw[e];exact I.free
 ·obtain⟨_,o,ho,_⟩:=I.ok.funs.mem hb
  exact I.base.free b o ho (I.ok.frf b hb) λz=>I.ok.exfs b z hb
def Inv.step{g':Array GenState}{t':Nat}{d':Drawn}{ch:m_}(I:Inv X G_ σ H s)(hch:∀b∈ch,(b∈X.ex\/X.s₀.heap.objs.size<=b)/\b≠X.env.locals/\(∀x c,X.env.cells.lookup x=some c->c≠b)/\∀p∈X.pn++G_,p.1≠b)(keep:∀b o,b≠X.env.locals->b∉X.fs->b∉ch->s.heap.get? b=some o->H b=none->h'.get? b=some o)(slot:∀b o,b≠X.env.locals->b∈X.fs->b∉ch->s.heap.get? b=some o->H b=none->∃sl,h'.get? b=some {o with slots:=sl})(free:∀b o,b∉ch->s.heap.get? b=some o->H b=none->H' b=none)(there:∀b o,b∉ch->s.heap.get? b=some o->∃o',h'.get? b=some o')(tups:∀b xs,H b=some (.tup xs)->H' b=some (.tup xs))(frzs:∀b o u,H b=some (.frz o u)->H' b=some (.frz o u))(tbls:∀b ps,H b=some (.tbl ps)->∃more,H' b=some (.tbl (ps++more)))(ns:∀m,s.heap.Ns X.env.locals m->h'.Ns X.env.locals m)(hok:HOk X.prog X.w H' h')(hg:AllBare g'):
  Inv X G_ σ H' {s with heap:=h',gens:=g',drawn:=d',toks:=t'}:=by
 have neL:∀b o,X.s₀.heap.get? b=some o->b≠X.env.locals:=λb o e=>z8o (z9v (z9n e) I.ok.above)
 have neC:∀b o,X.s₀.heap.get? b=some o->b∉X.ex->b∉ch:=λb o e hx hb=>by
  rcases(hch b hb).1 with z|z
  ·exact hx z
  ·exact absurd (z9v (z9n e) z) (z7u _)
 have cellK:∀x c,X.env.cells.lookup x=some c->∀v,s.heap.IsCell c v->h'.IsCell c v:=λx c e v y4=>by
  obtain⟨o,ho,hd⟩:=y4;have nch:c∉ch:=λz=>(hch c z).2.2.1 x c e rfl
  by_cases hc:c∈X.fs
  ·obtain⟨sl,q⟩:=slot c o (I.cne x c e) hc nch ho (I.freeC x c e)
   exact⟨_,q,hd⟩
  ·exact⟨o,keep c o (I.cne x c e) hc nch ho (I.freeC x c e),hd⟩
 refine⟨I.ok,I.os,hg,⟨λb o e n hb hx=>?_,λb o e n hb hx=>?_,λb o e n hx=>?_,λb o e hx=>?_,λb xs e=>tups b xs (I.base.tups b xs e),λb o xs e=>frzs b o xs (I.base.frzs b o xs e),λb ps e=>?_⟩,?_,λx c e=>?_,?_,λx c e=>?_,λp hp=>?_,hok,I.len⟩
 ·exact keep b o (neL b o e) hb (neC b o e hx) (I.base.keep b o e n hb hx) (I.base.free b o e n hx)
 ·obtain⟨sl,e1⟩:=I.base.slot b o e n hb hx
  obtain⟨sl',e2⟩:=slot b _ (neL b o e) hb (neC b o e hx) e1 (I.base.free b o e n hx);exact⟨sl',e2⟩
 ·obtain⟨o',e1⟩:=I.base.there b o e hx
  exact free b o' (neC b o e hx) e1 (I.base.free b o e n hx)
 ·obtain⟨o',e1⟩:=I.base.there b o e hx
  exact there b o' (neC b o e hx) e1
 ·obtain⟨m1,e1⟩:=I.base.tbls b ps e
  obtain⟨m2,e2⟩:=tbls b _ e1;exact⟨m1++m2,by rw[e2,Array.append_assoc]⟩
 ·obtain⟨m,hn,hl⟩:=I.loc
  refine⟨m,ns m hn,λi x v e1 e2 e3=>?_⟩;obtain⟨u,r,l⟩:=hl i x v e1 e2 e3;refine⟨u,r,?_⟩;rcases l with l|⟨k,c,e,z⟩
  ·exact .inl l
  ·exact .inr ⟨k,c,e,cellK x c e _ z⟩
 ·obtain⟨v,z⟩:=I.cell x c e
  exact⟨v,cellK x c e v z⟩
 ·obtain⟨m,⟨o,_,_,ho,_⟩,_⟩:=I.loc
  exact free _ o (λz=>(hch _ z).2.1 rfl) ho I.free
 ·obtain⟨v,o,ho,hd⟩:=I.cell x c e
  exact free c o (λz=>(hch c z).2.2.1 x c e rfl) ho (I.freeC x c e)
 ·obtain⟨e,n,ne,nf,d⟩:=I.pin p hp
  have nch:p.1∉ch:=λz=>(hch p.1 z).2.2.2 p hp rfl
  exact⟨keep p.1 p.2 ne nf nch e n,free p.1 p.2 nch e n,ne,nf,d⟩
def Inv.un{t':Nat}(I:Inv X G_ σ H s)(u:Un X.fs [] H H' s.heap h')(hok:HOk X.prog X.w H' h'):Inv X G_ σ H' {s with heap:=h',toks:=t'}:=by
 obtain⟨m,⟨o,es,ep,ho,r⟩,_⟩:=id I.loc;obtain⟨sl,hL⟩:=u.any ho I.free (by simp);exact I.step (g':=s.gens) (d':=s.drawn) (ch:=[]) (λ_ z=>nomatch z) (λb o _ hb _ e n=>u.keep b o e n hb (by simp)) (λb o _ hb _ e n=>u.slot b o e n hb (by simp)) (λb o _ e n=>u.free b o e n (by simp)) (λb o _ e=>u.there b o e (by simp)) u.tups u.frzs u.tbls (λm' hm=>by obtain⟨o',es',ep',ho',r'⟩:=hm;rw[ho]at ho';cases ho';exact⟨_,es',ep',hL,r'⟩) hok I.bare
def Inv.call{g':Array GenState}{t':Nat}{d':Drawn}{ch:m_}(I:Inv X G_ σ H s)(u:Un (frs X.stack) ch H H' s.heap h')(hok:HOk X.prog X.w H' h')(hg:AllBare g')(hch:∀b∈ch,(b∈X.ex\/X.s₀.heap.objs.size<=b)/\b≠X.env.locals/\(∀x c,X.env.cells.lookup x=some c->c≠b)/\∀p∈X.pn++G_,p.1≠b):
  Inv X G_ σ H' {s with heap:=h',gens:=g',drawn:=d',toks:=t'}:=by
 obtain⟨m,⟨o,es,ep,ho,r⟩,_⟩:=id I.loc;obtain⟨sl,hL⟩:=u.any ho I.free λz=>(hch _ z).2.1 rfl
 exact I.step (ch:=ch) hch (λb o hL hb hc e n=>u.keep b o e n (λz=>(z9k.mp (I.stkSub b z)).elim hL hb) hc) (λb o _ _ hc e n=>u.any e n hc) (λb o hc e n=>u.free b o e n hc) (λb o hc e=>u.there b o e hc) u.tups u.frzs u.tbls (λm' hm=>by obtain⟨o',es',ep',ho',r'⟩:=hm;rw[ho]at ho';cases ho';exact⟨_,es',ep',hL,r'⟩) hok hg
def Inv.turned{t':Nat}{it:Addr}(I:Inv X G_ σ H s)(k:∀b o,b≠it->s.heap.get? b=some o->h'.get? b=some o)(hn:H it=none)(hL:it≠X.env.locals)(h1:it∈X.ex\/X.s₀.heap.objs.size<=it)(h2:∀x c,X.env.cells.lookup x=some c->c≠it)(h3:∀p∈X.pn++G_,p.1≠it):Inv X G_ σ H {s with heap:=h',toks:=t'}:=by
 have nit:∀b u,H b=some u->b≠it:=λb u e z=>by rw[z,hn]at e;cases e
 refine I.step (g':=s.gens) (d':=s.drawn) (ch:=[it]) (λb hb=>?_) (λb o _ _ hc e _=>k b o (λz=>hc (by simp[z])) e) (λb o _ _ hc e _=>⟨o.slots,k b o (λz=>hc (by simp[z])) e⟩) (λ_ _ _ _ n=>n)
  (λb o hc e=>⟨o,k b o (λz=>hc (by simp[z])) e⟩) (λ_ _ e=>e) (λ_ _ _ e=>e) (λb ps e=>⟨#[],by rw[e];simp⟩) (λm hm=>?_) (λb u e=>?_) I.bare
 ·have e:b=it:=by simpa using hb
  subst e;exact⟨h1,hL,h2,h3⟩
 ·obtain⟨o,es,ep,ho,r⟩:=hm
  exact⟨o,es,ep,k _ o (Ne.symm hL) ho,r⟩
 ·refine(I.hok b u e).stay (λc v hc q=>k c v ?_ q) (λ_ q=>q) λ_ _ q=>q
  rcases hc with z|z
  ·rw[z];exact nit b u e
  ·exact nit c _ z
def Inv.tok(I:Inv X G_ σ H s)(t:Nat):Inv X G_ σ H {s with toks:=t}:=I.un (h':=s.heap) (t':=t) Un.refl I.hok
def Inv.kept{t':Nat}(I:Inv X G_ σ H s)(k:∀b u,s.heap.get? b=some u->h'.get? b=some u):Inv X G_ σ H {s with heap:=h',toks:=t'}:=I.un (Un.kept k) (I.hok.kept k)
def Inv.laid{a:Addr}{o:HO}{t':Nat}(I:Inv X G_ σ H s)(k:∀b u,s.heap.get? b=some u->h'.get? b=some u)(hp:s.heap.objs.size<=a)(new:ObjOk X.prog X.w (upd H a o) h' a o):
  Inv X G_ σ (upd H a o) {s with heap:=h',toks:=t'}:=I.un (Un.laid k hp (I.hok.fresh hp)) (I.hok.laid k hp new)
def Inv.write{x e:Addr}{o:HO}{t':Nat}(I:Inv X G_ σ H s)(mu:Mut (H x))(he:e=x\/H e=some (.own x))(k:∀b u,b≠e->s.heap.get? b=some u->h'.get? b=some u)(heo:∃u,h'.get? e=some u)(new:ObjOk X.prog X.w (upd H x o) h' x o):Inv X G_ σ (upd H x o) {s with heap:=h',toks:=t'}:=I.un (Un.write mu he k heo) (I.hok.write mu he k heo new)
def Inv.pins_of{pins':u_}(I:Inv X G_ σ H s)(h:∀p∈pins',s.heap.get? p.1=some p.2/\H p.1=none/\p.1≠X.env.locals/\p.1∉X.fs/\∀v,p.2.data≠.cell v):Inv X pins' σ H s:=
 ⟨I.ok,I.os,I.bare,I.base,I.loc,I.cell,I.free,I.freeC,λp hp=>(z8q.mp hp).elim (λz=>I.pin p (z8i _ z)) (h p),I.hok,I.len⟩
def pC{N:j_}(hN:N.Nodup){i j:Nat}{x:Str}(a:N[i]?=some x)(b:N[j]?=some x):i=j:=by obtain⟨h1,e1⟩:=z9e.mp a;obtain⟨h2,e2⟩:=z9e.mp b;exact(List.getElem_inj hN).mp (e1.trans e2.symm)
def tU{M:Model}{A:Around}{E:Value->Shared->Prop}{i:Nat}{x:Str}{v:V}{u:Value}{Q:Unit->Shared->Prop}(I:Inv X G_ σ H s)(hN:X.N.Nodup)(hi:X.N[i]?=some x)(hx:Loc X.env.scope x)(r:RelV v u)(h:∀s',Inv X G_ (σ.set i (some v)) H s'->(∃a,Heap.SameBut a s.heap s'.heap/\(a=X.env.locals\/X.env.cells.lookup x=some a))->Q () s')(hf:X.fn x=true\/X.env.scope.names.lookup x=some .local<|>Q4):wpAny M A (storeName X.env x u) Q E s:=by
 obtain⟨m,hn,hl⟩:=id I.loc;have hcls:(X.env.scope.kind==.class||(X.env.scope.kind==.module&&X.env.locals != X.env.globals))=false:=by rw[I.ok.kind];rfl
 have hiσ:i<σ.length:=by rw[I.len];exact(z9e.mp hi).1
 have cne:=I.cne;have tracked:∀{a:Addr} {h':Heap},(∃o,s.heap.get? a=some o/\H a=none)->Heap.SameBut a s.heap h'->HOk X.prog X.w H h':=λ{a h'} ha hs b ob e=>by
  obtain⟨_,_,hfree⟩:=ha;refine(I.hok b ob e).stay (λc w' hc q=>(hs.2 c ?_).trans q) (λ_ q=>q) λ_ _ q=>q
  rintro rfl;rcases hc with rfl|hc
  ·rw[hfree]at e;cases e
  ·rw[hfree]at hc;cases hc
 rcases hx with hk|hk
 ·refine wpAny_storeName_local hk hn (λh' hn' hs=>?_) hcls
  obtain⟨oL,_,_,hoL,_⟩:=id hn;refine h _ ⟨I.ok,I.os,I.bare,⟨λb o e n hb hx=>?_,λb o e n hb hx=>?_,I.base.free,λb o e hx=>?_,I.base.tups,I.base.frzs,I.base.tbls⟩,⟨_,hn',λj y v' e1 e2 e3=>?_⟩,λy c e=>?_,I.free,I.freeC,λp hp=>?_,tracked ⟨oL,hoL,I.free⟩ hs,by simpa using I.len⟩ ⟨_,hs,.inl rfl⟩
  ·exact(hs.2 b (z8o (z9v (z9n e) I.ok.above))).trans (I.base.keep b o e n hb hx)
  ·obtain⟨sl,e1⟩:=I.base.slot b o e n hb hx
   exact⟨sl,(hs.2 b (z8o (z9v (z9n e) I.ok.above))).trans e1⟩
  ·obtain⟨o',e1⟩:=I.base.there b o e hx
   exact⟨o',(hs.2 b (z8o (z9v (z9n e) I.ok.above))).trans e1⟩
  ·by_cases hj:j=i
   ·subst hj
    rw[hi]at e1;cases e1;rw[z9r hiσ]at e2;cases e2;exact⟨u,r,.inl ⟨hk,by simp⟩⟩
   ·rw[z9g (Ne.symm hj)]at e2
    obtain⟨u',r',q⟩:=hl j y v' e1 e2 e3;refine⟨u',r',?_⟩;rcases q with⟨k,e⟩|⟨k,c,e,z⟩
    ·refine .inl ⟨k,?_⟩
     have:y≠x:=λe=>hj (pC hN e1 (e▸hi))
     simp[this,e]
    ·exact .inr ⟨k,c,e,z.sameBut hs (cne y c e)⟩
  ·obtain⟨w',z⟩:=I.cell y c e
   exact⟨w',z.sameBut hs (cne y c e)⟩
  ·obtain⟨e,n,ne,nf,d⟩:=I.pin p hp
   exact⟨(hs.2 p.1 ne).trans e,n,ne,nf,d⟩
 ·have hfn:X.fn x=true:=by
   rcases hf with z|z
   ·exact z
   ·rw[z]at hk;cases hk
  obtain⟨c,hc⟩:=I.ok.has x (.inl hk);obtain⟨w',z⟩:=I.cell x c hc;refine wpAny_storeName_cell I.ok.kind hk hc z (λh' hc' hs=>?_);obtain⟨oc,hoc,hocd⟩:=id z;refine h {s with heap:=h'} ⟨I.ok,I.os,I.bare,⟨λb o e n hb hx=>?_,λb o e n hb hx=>?_,I.base.free,λb o e hx=>?_,I.base.tups,I.base.frzs,I.base.tbls⟩,⟨m,hn.sameBut hs (Ne.symm (cne x c hc)),λj y v' e1 e2 e3=>?_⟩,λy c' e=>?_,I.free,I.freeC,λp hp=>?_,tracked ⟨oc,hoc,I.freeC x c hc⟩ hs,by simpa using I.len⟩ ⟨c,hs,.inr hc⟩
  ·exact(hs.2 b (z8o (z9v (z9n e) (I.ok.cab x c hfn hc)))).trans (I.base.keep b o e n hb hx)
  ·obtain⟨sl,e1⟩:=I.base.slot b o e n hb hx
   exact⟨sl,(hs.2 b (z8o (z9v (z9n e) (I.ok.cab x c hfn hc)))).trans e1⟩
  ·obtain⟨o',e1⟩:=I.base.there b o e hx
   exact⟨o',(hs.2 b (z8o (z9v (z9n e) (I.ok.cab x c hfn hc)))).trans e1⟩
  ·by_cases hj:j=i
   ·subst hj
    rw[hi]at e1;cases e1;rw[z9r hiσ]at e2;cases e2;exact⟨u,r,.inr ⟨.inl hk,c,hc,hc'⟩⟩
   ·rw[z9g (Ne.symm hj)]at e2
    obtain⟨u',r',q⟩:=hl j y v' e1 e2 e3;refine⟨u',r',?_⟩;rcases q with q|⟨k,c',e,z'⟩
    ·exact .inl q
    ·refine .inr ⟨k,c',e,z'.sameBut hs ?_⟩
     rintro rfl;exact hj (pC hN e1 (I.ok.inj _ _ _ e hc▸hi))
  ·by_cases hcc:c'=c
   ·subst hcc;exact⟨_,hc'⟩
   ·obtain⟨w2,z2⟩:=I.cell y c' e
    exact⟨w2,z2.sameBut hs hcc⟩
  ·obtain⟨e,n,ne,nf,d⟩:=I.pin p hp
   refine⟨(hs.2 p.1 ?_).trans e,n,ne,nf,d⟩;intro q;rw[q,hoc]at e;have q':oc=p.2:=z7b e;exact d w' (by rw[<- q'];exact hocd)
def lY{M:Model}{A:Around}{E:Value->Shared->Prop}{i:Nat}{x:Str}{v:V}{u:Value}{Q:Unit->Shared->Prop}(I:Inv X G_ σ H s)(hN:X.N.Nodup)(hi:X.N[i]?=some x)(hx:Loc X.env.scope x)(r:RelV v u)(h:∀s',Inv X G_ (σ.set i (some v)) H s'->Q () s')(hf:X.fn x=true\/X.env.scope.names.lookup x=some .local<|>Q4):wpAny M A (storeName X.env x u) Q E s:=
 tU I hN hi hx r (λs' I' _=>h s' I') hf
def Inv.call'{s':Shared}{ch:m_}(I:Inv X G_ σ H s)(ho:s'.os=s.os)(u:Un (frs X.stack) ch H H' s.heap s'.heap)(hok:HOk X.prog X.w H' s'.heap)(hg:AllBare s'.gens)(hch:∀b∈ch,(b∈X.ex\/X.s₀.heap.objs.size<=b)/\b≠X.env.locals/\(∀x c,X.env.cells.lookup x=some c->c≠b)/\∀p∈X.pn++G_,p.1≠b):Inv X G_ σ H' s':=by obtain⟨h',g',d',t',o'⟩:=s';have e:o'=s.os:=ho;subst e;exact I.call (g':=g') (t':=t') (d':=d') u hok hg hch
end
abbrev XK:=Value->Option Addr->Hp->Prop
abbrev St:=List D_
abbrev VK:=V->Hp->Prop
abbrev TE:=St->Hp->VK->Prop
abbrev TT:=St->Hp->(Bool->Hp->Prop)->Prop
abbrev TA:=St->Hp->(C_->Hp->Prop)->Prop
structure Ends where
 nx:St->Hp->Prop
 rt:VK
 bk:St->Hp->Prop:=λ_ _=>False
 ct:St->Hp->Prop:=λ_ _=>False
abbrev TS:=Ends->St->Hp->Prop
def EP(X:Cx)(G_:u_)(σ:St)(Q:VK)(u:Value)(s':Shared):Prop:=∃v H',Inv X G_ σ H' s'/\RelV v u/\Q v H'
def TP(X:Cx)(G_:u_)(σ:St)(Q:Bool->Hp->Prop)(b:Bool)(s':Shared):Prop:=∃H',Inv X G_ σ H' s'/\Q b H'
def AP(X:Cx)(G_:u_)(σ:St)(Q:C_->Hp->Prop)(us:k_)(s':Shared):Prop:=∃vs H',Inv X G_ σ H' s'/\Vals vs us/\Q vs H'
def SP(X:Cx)(G_:u_)(D:Ends)(f:Flow)(s':Shared):Prop:=
 match f with
 |.next=>∃σ' H',Inv X G_ σ' H' s'/\D.nx σ' H'
 |.brk=>∃σ' H',Inv X G_ σ' H' s'/\D.bk σ' H'
 |.cont=>∃σ' H',Inv X G_ σ' H' s'/\D.ct σ' H'
 |.ret u=>∃v σ' H',Inv X G_ σ' H' s'/\RelV v u/\D.rt v H'
def PE(X:Cx)(e:Expr)(t:TE):Prop:=
 ∀(G_:u_) (s:Shared) (σ:St) (H:Hp) (Q:VK),Inv X G_ σ H s->t σ H Q->wpAny (model X.prog X.w) X.A (eval e X.env) (EP X G_ σ Q) X.xe s
def PT(X:Cx)(e:Expr)(t:TT):Prop:=
 ∀(G_:u_) (s:Shared) (σ:St) (H:Hp) (Q:Bool->Hp->Prop),Inv X G_ σ H s->t σ H Q->wpAny (model X.prog X.w) X.A (isTrue e X.env (eval e X.env)) (TP X G_ σ Q) X.xe s
def PW(X:Cx)(e:Expr)(t:TT):Prop:=
 ∀(whole:Sem Value) (G_:u_) (s:Shared) (σ:St) (H:Hp) (Q:Bool->Hp->Prop),Inv X G_ σ H s->t σ H Q->wpAny (model X.prog X.w) X.A (isTrue e X.env whole) (TP X G_ σ Q) X.xe s
def PW.pt{X:Cx}{e:Expr}{t:TT}(h:PW X e t):PT X e t:=h _
def PA(X:Cx)(es:l_)(t:TA):Prop:=
 ∀(pos:Pos) (G_:u_) (s:Shared) (σ:St) (H:Hp) (Q:C_->Hp->Prop),Inv X G_ σ H s->t σ H Q->wpAny (model X.prog X.w) X.A (spliced (backTo pos (starEach es X.env))) (AP X G_ σ Q) X.xe s
def PS(X:Cx)(st:Stmt)(t:TS):Prop:=
 ∀(G_:u_) (s:Shared) (σ:St) (H:Hp) (D:Ends),Inv X G_ σ H s->t D σ H->wpAny (model X.prog X.w) X.A (exec st X.env) (SP X G_ D) X.xe s
def PSs(X:Cx)(st:o_)(t:TS):Prop:=
 ∀(G_:u_) (s:Shared) (σ:St) (H:Hp) (D:Ends),Inv X G_ σ H s->t D σ H->wpAny (model X.prog X.w) X.A (execs st X.env) (SP X G_ D) X.xe s
def thn{α:Type}{t:Sem α}{Q Q':α->Shared->Prop}{M:Model}{A:Around}{E:Value->Shared->Prop}{s:Shared}(h:wpAny M A t Q E s)(hQ:∀a s,Q a s->Q' a s):wpAny M A t Q' E s:=z8n h hQ λ_ _ x=>x
def aZ{X:Cx}{G_:u_}{σ:St}{Q:VK}{t:Sem Value}{Q':Value->Shared->Prop}{M:Model}{A:Around}{E:Value->Shared->Prop}{s:Shared}(h:wpAny M A t (EP X G_ σ Q) E s)(hQ:∀u s' v H',Inv X G_ σ H' s'->RelV v u->Q v H'->Q' u s'):wpAny M A t Q' E s:=z8n h (λu s' y4=>by obtain⟨v,H',I,r,q⟩:=y4;exact hQ u s' v H' I r q) λ_ _ x=>x
def cF{X:Cx}{G_:u_}{σ:St}{Q:C_->Hp->Prop}{t:Sem k_}{Q':k_->Shared->Prop}{M:Model}{A:Around}{E:Value->Shared->Prop}{s:Shared}(h:wpAny M A t (AP X G_ σ Q) E s)(hQ:∀u s' v H',Inv X G_ σ H' s'->Vals v u->Q v H'->Q' u s'):wpAny M A t Q' E s:=z8n h (λu s' y4=>by obtain⟨v,H',I,r,q⟩:=y4;exact hQ u s' v H' I r q) λ_ _ x=>x
def kl{X:Cx}{G_:u_}{σ:St}{Q:Bool->Hp->Prop}{t:Sem Bool}{Q':Bool->Shared->Prop}{M:Model}{A:Around}{E:Value->Shared->Prop}{s:Shared}(h:wpAny M A t (TP X G_ σ Q) E s)(hQ:∀u s' H',Inv X G_ σ H' s'->Q u H'->Q' u s'):wpAny M A t Q' E s:=z8n h (λu s' y4=>by obtain⟨H',I,q⟩:=y4;exact hQ u s' H' I q) λ_ _ x=>x
section
variable {X:Cx}
def Cb(i:Nat):TE:=λσ H Q=>∃v,σ[i]?=some (some v)/\Q v H
def tC(v:V):TE:=λ_ H Q=>Q v H
def gG{i:Nat}{x:Str}{pos:Pos}(hN:X.N[i]?=some x)(hv:Vis X.env.scope x)(hd:DB x<|>J8)(hcd:(x==("__classdict__" : Str))=false<|>J8):PE X (.Name x pos) (Cb i):=by
 intro G_ s σ H Q I h;obtain⟨v,e,h⟩:=h;obtain⟨m,hn,hl⟩:=I.loc;obtain⟨u,r,l⟩:=hl i x v hN e hv;have fin:EP X G_ σ Q u s:=⟨v,H,I,r,h⟩;rcases l with⟨hk,hm⟩|⟨hk,c,hc,hcell⟩
 ·exact wpAny_Name (wpAny_loadName_local I.ok.kind hk hn hm fin) hd
 ·rcases hk with hk|hk
  ·exact wpAny_Name (wpAny_loadName_cell I.ok.kind hk hc hcell fin) hd
  ·exact wpAny_Name (wpAny_loadName_free I.ok.kind hk hc hcell fin hcd) hd
def tV{i j pos}:PE X (.Constant (.int i) j pos) (tC (.int i)):=λ_ _ _ H _ I h=>wpAny_Constant_int ⟨.int i,H,I.tok _,⟨_,rfl⟩,h⟩
def Cc{b j pos}:PE X (.Constant (.bool b) j pos) (tC (.bl b)):=λ_ _ _ H _ I h=>Constant_bool ⟨.bl b,H,I,rfl,h⟩
def Cd{j pos}:PE X (.Constant .none j pos) (tC .non):=λ_ _ _ H _ I h=>Constant_none ⟨.non,H,I,rfl,h⟩
def gH{x j pos}:PE X (.Constant (.str x) j pos) (tC (.str x)):=λ_ _ _ H _ I h=>Calls.Constant_str ⟨.str x,H,I.tok _,⟨_,rfl⟩,h⟩
def Gl(X:Cx)(x:Str):Prop:=X.env.kindOf x=some .globalImplicit
def fZ{E:Value->Shared->Prop}{G_:u_}{s:Shared}{σ:St}{H:Hp}{x:Str}{u:Value}{pos:Pos}{Q:Value->Shared->Prop}(I:Inv X G_ σ H s)(hg:Gl X x)(hm:X.mg x=some u)(h:Q u s)(hd:DB x<|>J8):wpAny (model X.prog X.w) X.A (eval (.Name x pos) X.env) Q E s:=
 Calls.Name_function_global I.ok.kind hg (Calls.loadGlobal_global (by rw[I.ok.glob];exact I.mod.glob.keeps I.bk) hm h) hd
def eV{E:Value->Shared->Prop}{G_:u_}{s:Shared}{σ:St}{H:Hp}{x:Str}{u:Value}{pos:Pos}{Q:Value->Shared->Prop}(I:Inv X G_ σ H s)(hg:Gl X x)(hm:X.mg x=none)(hv:bootBuiltins x=some u)(h:Q u s)(hn:x ≠ "__name__"<|>J8)(hd:DB x<|>J8):wpAny (model X.prog X.w) X.A (eval (.Name x pos) X.env) Q E s:=by obtain⟨mb,h1,h2⟩:=I.mod.blt;exact Calls.Name_function_global I.ok.kind hg (Calls.loadGlobal_builtin (by rw[I.ok.glob];exact I.mod.glob.keeps I.bk) hm (by rw[I.ok.blt];exact h1.keeps I.bk) ((h2 x hn).trans hv) h) hd
def pE{x:Str}{v:V}{u:Value}{pos:Pos}(hg:Gl X x)(hm:X.mg x=some u)(r:RelV v u)(hd:DB x<|>J8):PE X (.Name x pos) (tC v):=
 λ_ _ _ H _ I h=>fZ I hg hm ⟨v,H,I,r,h⟩ hd
def tW{x:Str}{v:V}{u:Value}{pos:Pos}(hg:Gl X x)(hm:X.mg x=none)(hv:bootBuiltins x=some u)(r:RelV v u)(hn:x ≠ "__name__"<|>J8)(hd:DB x<|>J8):PE X (.Name x pos) (tC v):=
 λ_ _ _ H _ I h=>eV I hg hm hv ⟨v,H,I,r,h⟩ hn hd
variable {a b:Expr}{ta tb:TE}{pos:Pos}
def PC(X:Cx)(op:CmpOp)(a b:Expr)(t:TE):Prop:=
 ∀(G_:u_) (s:Shared) (σ:St) (H:Hp) (Q:VK),Inv X G_ σ H s->t σ H Q ->
   wpAny (model X.prog X.w) X.A (eval a X.env) (λv y7=>wpAny (model X.prog X.w) X.A (eval b X.env) (λu y9=>wpAny (model X.prog X.w) X.A (compareOp op v u) (EP X G_ σ Q) X.xe y9) X.xe y7) X.xe s
def Ce(b:Expr){op:CmpOp}(h:op≠.In)(h2:op≠.NotIn):behindInMarks op b=false:=by
 have e1:(op==CmpOp.In)=false:=by cases op<;>first|rfl|exact absurd rfl h
 have e2:(op==CmpOp.NotIn)=false:=by cases op<;>first|rfl|exact absurd rfl h2
 cases b<;>simp[behindInMarks,e1,e2]
def tB(t:TE):TT:=λσ H Q=>t σ H λx H1=>∃c,x=.bl c/\Q c H1
def tX{op:CmpOp}{t:TE}(h:PC X op a b t)(h1:behindInMarks op b=false:=by first|exact Ce _ (by decide) (by decide)|rfl):PT X (.Compare a [op] [b] pos) (tB t):=by intro G_ s σ H Q I hw;refine wpAny_isTrue_Compare1 (thn (h G_ s σ H _ I hw) λv s1 h1=>thn h1 λu s2 h2=>aZ h2 λc s3 x H1 I1 r1 q1=>?_) h1;obtain⟨d,rfl,q⟩:=q1;cases r1;exact z6h ⟨H1,I1,q⟩
variable {tA tB':TT}{rest:l_}
def Cf(t u:TT):TT:=λσ H Q=>t σ H λc H1=>if c=true then u σ H1 Q else Q false H1
def tOr(t u:TT):TT:=λσ H Q=>t σ H λc H1=>if c=true then Q true H1 else u σ H1 Q
def Cg(t:TT):TT:=λσ H Q=>t σ H λc H1=>Q (!c) H1
def tY(ha:PT X a tA):PW X (.BoolOp .And [a] pos) tA:=by
 intro wh G_ s σ H Q I h;refine isTrue_and (thn (ha G_ s σ H Q I h) λc s1 e=>?_);cases c with
 |true=>exact isTrue_and_nil e
 |false=>exact e
def tZ(ha:PT X a tA):PW X (.BoolOp .Or [a] pos) tA:=by
 intro wh G_ s σ H Q I h;refine isTrue_or (thn (ha G_ s σ H Q I h) λc s1 e=>?_);cases c with
 |false=>exact isTrue_or_nil e
 |true=>exact e
def u0(ha:PT X a tA)(hb:PW X (.BoolOp .And (b::rest) pos) tB'):PW X (.BoolOp .And (a::b::rest) pos) (Cf tA tB'):=by
 intro wh G_ s σ H Q I h;refine isTrue_and (kl (ha G_ s σ H _ I h) λc s1 H1 I1 q1=>?_);cases c with
 |true=>exact hb wh G_ s1 σ H1 Q I1 q1
 |false=>exact⟨H1,I1,q1⟩
def u1(ha:PT X a tA)(hb:PW X (.BoolOp .Or (b::rest) pos) tB'):PW X (.BoolOp .Or (a::b::rest) pos) (tOr tA tB'):=by
 intro wh G_ s σ H Q I h;refine isTrue_or (kl (ha G_ s σ H _ I h) λc s1 H1 I1 q1=>?_);cases c with
 |true=>exact⟨H1,I1,q1⟩
 |false=>exact hb wh G_ s1 σ H1 Q I1 q1
def u2(ha:PT X a tA):PT X (.UnaryOp .Not a pos) (Cg tA):=by intro G_ s σ H Q I h;exact isTrue_not (ha G_ s σ H (λc H1=>Q (!c) H1) I h)
def Ch(ta tb:TE):TE:=λσ H Q=>ta σ H λx H1=>∃c,x=.bl c/\if c=true then tb σ H1 Q else Q (.bl false) H1
def Ci(ta:TE):TE:=λσ H Q=>ta σ H λx H1=>∃c,x=.bl c/\Q (.bl (!c)) H1
def u6{op}{t:TE}(h:PE X a t):PE X (.BoolOp op [a] pos) t:=λG_ s σ H Q I hw=>BoolOp_one (h G_ s σ H Q I hw)
def u7(ha:PE X a ta)(hb:PE X (.BoolOp .And (b::rest) pos) tb):PE X (.BoolOp .And (a::b::rest) pos) (Ch ta tb):=by
 intro G_ s σ H Q I h;refine BoolOp_and (aZ (ha G_ s σ H _ I h) λv s1 x H1 I1 r1 q1=>?_);obtain⟨c,rfl,q1⟩:=q1;cases r1;refine z6h ?_;cases c with
 |true=>exact hb G_ s1 σ H1 Q I1 q1
 |false=>exact⟨.bl false,H1,I1,rfl,q1⟩
def u8(ha:PE X a ta):PE X (.UnaryOp .Not a pos) (Ci ta):=by intro G_ s σ H Q I h;refine UnaryOp_ (aZ (ha G_ s σ H _ I h) λv s1 x H1 I1 r1 q1=>?_);obtain⟨c,rfl,q1⟩:=q1;cases r1;exact not_of (z6h ⟨.bl (!c),H1,I1,rfl,q1⟩)
def tIf(t:TT)(ta tb:TE):TE:=λσ H Q=>t σ H λc H1=>if c=true then ta σ H1 Q else tb σ H1 Q
def u9{c:Expr}(hc:PT X c tA)(ha:PE X a ta)(hb:PE X b tb):PE X (.IfExp c a b pos) (tIf tA ta tb):=by
 intro G_ s σ H Q I h;refine wpAny_IfExp (kl (hc G_ s σ H _ I h) λd s1 H1 I1 q1=>?_);cases d with
 |true=>exact ha G_ s1 σ H1 Q I1 q1
 |false=>exact hb G_ s1 σ H1 Q I1 q1
end
def SqL(K:K0)(H:Hp)(a:Addr)(xs:C_):Prop:=
 Rd H a (.lst xs) \/
  ∃(o:Obj) (its:Array Value) (n:Nat),K.lookup a=some o/\o.cls=.type "list"/\o.dict=none/\o.data=.seq its n/\its.size<=sizeLine/\Vals xs its.toList
def SqT(K:K0)(H:Hp)(a:Addr)(xs:C_):Prop:=
 Rd H a (.tup xs) \/
  ∃(o:Obj) (its:Array Value) (n:Nat),K.lookup a=some o/\o.cls=.type "tuple"/\o.data=.seq its n/\its.size<=sizeLine/\Vals xs its.toList
noncomputable def Cj:Value->D_
 |.none=>some .non
 |.bool b=>some (.bl b)
 |.int i _=>some (.int i)
 |.str x _=>some (.str x)
 |.bytes b _=>some (.byt b)
 |.float b _=>some (.flt b)
 |.ref a=>some (.ref a)
 |.type n=>some (.ty n)
 |_=>none
def RelV.abs{x:V}{u:Value}(r:RelV x u):Cj u=some x:=by
 cases x with
 |non=>cases r;rfl
 |bl _=>cases r;rfl
 |int _=>obtain⟨t,rfl⟩:=r;rfl
 |str _=>obtain⟨t,rfl⟩:=r;rfl
 |byt _=>obtain⟨t,rfl⟩:=r;rfl
 |flt _=>obtain⟨t,rfl⟩:=r;rfl
 |ref _=>cases r;rfl
 |ty _=>cases r;rfl
def RelV.inj{x y:V}{u:Value}(r:RelV x u)(q:RelV y u):x=y:=z7b (r.abs.symm.trans q.abs)
theorem Vals.inj:∀{xs ys:C_} {us:k_},Vals xs us->Vals ys us->xs=ys
 |_,_,_,.nil,.nil=>rfl
 |_,_,_,.cons r t,.cons r' t'=>by rw[r.inj r',Vals.inj t t']
section
variable {X:Cx}{G_:u_}{σ:St}{H:Hp}{s:Shared}{a:Addr}{xs ys:C_}
def SqL.of{K:K0}(h:H a=some (.lst xs)):SqL K H a xs:=.inl (.inl h)
def SqT.of{K:K0}(h:H a=some (.tup xs)):SqT K H a xs:=.inl (.inl h)
def Inv.list(I:Inv X G_ σ H s)(h:SqL X.K H a xs):∃its:k_,Vals xs its/\PlainL s.heap a its.toArray/\xs.length<=sizeLine:=by
 rcases h with h|⟨o,its,n,hk,hc,hd,hs,hz,r⟩
 ·obtain⟨z,its,n,r,e⟩:=h.ok I.hok
  exact⟨its,r,⟨_,n,e,rfl,rfl,rfl⟩,z⟩
 ·refine⟨its.toList,r,⟨o,n,I.kIn a o hk,hc,hd,by simpa using hs⟩,?_⟩
  have e:=r.length;simp only[Array.length_toList]at e;ext
def Inv.tuple(I:Inv X G_ σ H s)(h:SqT X.K H a xs):∃its:k_,Vals xs its/\IsTup s.heap a its.toArray/\xs.length<=sizeLine:=by
 rcases h with h|⟨o,its,n,hk,hc,hs,hz,r⟩
 ·obtain⟨z,its,r,p⟩:=h.ok I.hok
  exact⟨its,r,p,z⟩
 ·refine⟨its.toList,r,⟨o,I.kIn a o hk,hc,n,by simpa using hs⟩,?_⟩
  have e:=r.length;simp only[Array.length_toList]at e;ext
def Inv.list_inj(I:Inv X G_ σ H s)(h:SqL X.K H a xs)(h':SqL X.K H a ys):xs=ys:=by
 obtain⟨its,r,⟨o,n,e,_,_,d⟩,_⟩:=I.list h;obtain⟨its',r',⟨o',n',e',_,_,d'⟩,_⟩:=I.list h';rw[e]at e';cases e';rw[d]at d';injection d' with d1 _
 have:its=its':=by simpa using z8u Array.toList d1
 subst this;exact r.inj r'
def Inv.tuple_inj(I:Inv X G_ σ H s)(h:SqT X.K H a xs)(h':SqT X.K H a ys):xs=ys:=by
 obtain⟨its,r,⟨o,e,_,n,d⟩,_⟩:=I.tuple h;obtain⟨its',r',⟨o',e',_,n',d'⟩,_⟩:=I.tuple h';rw[e]at e';cases e';rw[d]at d';injection d' with d1 _
 have:its=its':=by simpa using z8u Array.toList d1
 subst this;exact r.inj r'
end
abbrev Cx.wish(X:Cx)(E:Value->Shared->Prop):Cx:={X with xe:=E}
abbrev Cx.nox(X:Cx):Cx:=X.wish λ_ _=>False
def Cx.Ok.wish{X:Cx}(ok:X.Ok)(E:Value->Shared->Prop):(X.wish E).Ok:=
 ⟨ok.mod,ok.kind,ok.glob,ok.blt,ok.above,ok.inj,ok.has,ok.cab,ok.hd,ok.frames,ok.stk,ok.exf,ok.bs,ok.bsz,ok.noex,ok.exfs,ok.funs,ok.frf⟩
def Cx.Ok.unwish{X:Cx}{E:Value->Shared->Prop}(ok:(X.wish E).Ok):X.Ok:=
 ⟨ok.mod,ok.kind,ok.glob,ok.blt,ok.above,ok.inj,ok.has,ok.cab,ok.hd,ok.frames,ok.stk,ok.exf,ok.bs,ok.bsz,ok.noex,ok.exfs,ok.funs,ok.frf⟩
section
variable {X:Cx}{G_:u_}{σ:St}{H:Hp}{s:Shared}{E:Value->Shared->Prop}
def Inv.wish(I:Inv X G_ σ H s)(E:Value->Shared->Prop):Inv (X.wish E) G_ σ H s:=⟨I.ok.wish E,I.os,I.bare,I.base,I.loc,I.cell,I.free,I.freeC,I.pin,I.hok,I.len⟩
def Inv.unwish(I:Inv (X.wish E) G_ σ H s):Inv X G_ σ H s:=⟨I.ok.unwish,I.os,I.bare,I.base,I.loc,I.cell,I.free,I.freeC,I.pin,I.hok,I.len⟩
def SP.unwish{D:Ends}{f:Flow}{s':Shared}(h:SP (X.wish E) G_ D f s'):SP X G_ D f s':=by
 cases f with
 |next=>obtain⟨σ',H',I,q⟩:=h;exact⟨σ',H',I.unwish,q⟩
 |brk=>obtain⟨σ',H',I,q⟩:=h;exact⟨σ',H',I.unwish,q⟩
 |cont=>obtain⟨σ',H',I,q⟩:=h;exact⟨σ',H',I.unwish,q⟩
 |ret u=>obtain⟨v,σ',H',I,r,q⟩:=h;exact⟨v,σ',H',I.unwish,r,q⟩
def PE.nox{e:Expr}{t:TE}(h:PE X.nox e t):PE X e t:=λG_ s σ H Q I hw=>z8n (h G_ s σ H Q (I.wish _) hw) (λ_ _ y4=>by obtain⟨v,H',I',r,q⟩:=y4;exact⟨v,H',I'.unwish,r,q⟩) λ_ _ z=>False.elim z
def PT.nox{e:Expr}{t:TT}(h:PT X.nox e t):PT X e t:=λG_ s σ H Q I hw=>z8n (h G_ s σ H Q (I.wish _) hw) (λ_ _ y4=>by obtain⟨H',I',q⟩:=y4;exact⟨H',I'.unwish,q⟩) λ_ _ z=>False.elim z
def PSs.nox{st:o_}{t:TS}(h:PSs X.nox st t):PSs X st t:=λG_ s σ H D I hw=>z8n (h G_ s σ H D (I.wish _) hw) (λ_ _ q=>q.unwish) λ_ _ z=>False.elim z
end
section
variable {X:Cx}{st:Stmt}{rest:o_}{t u:TS}{e:Expr}{te:TE}{pos:Pos}
def Ck:TS:=λD σ H=>D.nx σ H
def Cl(t u:TS):TS:=λD σ H=>t {D with nx:=u D} σ H
def pF:PSs X [] Ck:=λ_ _ σ H _ I h=>z5q ⟨σ,H,I,h⟩
def j8(h1:PS X st t)(h2:PSs X rest u):PSs X (st::rest) (Cl t u):=by
 intro G_ s σ H D I h;refine wpAny_execs_cons (thn (h1 G_ s σ H {D with nx:=u D} I h) λf s1 q=>?_);cases f with
 |next=>obtain⟨σ',H',I',q⟩:=q;exact h2 G_ s1 σ' H' D I' q
 |ret v=>exact q
 |brk=>exact q
 |cont=>exact q
def km(h1:PS X st t):PSs X [st] t:=by
 intro G_ s σ H D I h;refine wpAny_execs_cons (thn (h1 G_ s σ H D I h) λf s1 q=>?_);cases f with
 |next=>exact z5q q
 |ret v=>exact q
 |brk=>exact q
 |cont=>exact q
def Inv.quiet{G_:u_}{σ:St}{H:Hp}{s:Shared}(I:Inv X G_ σ H s):interactive X.env=false:=by simp[interactive,I.ok.kind]
def Cm(te:TE):TS:=λD σ H=>te σ H λ_ H1=>D.nx σ H1
def lZ(he:PE X e te)(hs:swapsWith e none pos.line X.env=pure false<|>J7):PS X (.Expr e pos) (Cm te):=by intro G_ s σ H D I h;exact wpAny_Expr_any (aZ (he G_ s σ H _ I h) λv s1 x H1 I1 r1 q1=>⟨σ,H1,I1,q1⟩) I.quiet hs
def Cn(te:TE):TS:=λD σ H=>te σ H D.rt
def i8(he:PE X e te):PS X (.Return (some e) pos) (Cn te):=by intro G_ s σ H D I h;exact wpAny_Return_some (aZ (he G_ s σ H _ I h) λv s1 x H1 I1 r1 q1=>⟨x,σ,H1,I1,r1,q1⟩)
def Co(c:TT)(t u:TS):TS:=λD σ H=>c σ H λb H1=>if b=true then t D σ H1 else u D σ H1
def pG{c:Expr}{a b:o_}{tc:TT}(hc:PT X c tc)(ha:PSs X a t)(hb:PSs X b u):PS X (.If c a b pos) (Co tc t u):=by
 intro G_ s σ H D I h;refine wpAny_If (kl (hc G_ s σ H _ I h) λd s1 H1 I1 q1=>?_);cases d with
 |true=>exact ha G_ s1 σ H1 D I1 q1
 |false=>exact hb G_ s1 σ H1 D I1 q1
def Cp:TS:=λ_ _ _=>False
def Cq:PS X st Cp:=λ_ _ _ _ _ _ h=>h.elim
end
abbrev TG:=V->St->Hp->(St->Hp->Prop)->Prop
abbrev TGs:=C_->St->Hp->(St->Hp->Prop)->Prop
def PG(X:Cx)(target:Expr)(t:TG):Prop:=
 ∀(G_:u_) (s:Shared) (σ:St) (H:Hp) (v:V) (u:Value) (Q:St->Hp->Prop),Inv X G_ σ H s->RelV v u->t v σ H Q ->
   wpAny (model X.prog X.w) X.A (assign target X.env u) (λ_ s'=>∃σ' H',Inv X G_ σ' H' s'/\Q σ' H') X.xe s
def PGs(X:Cx)(ts:l_)(t:TGs):Prop:=
 ∀(G_:u_) (s:Shared) (σ:St) (H:Hp) (vs:C_) (us:k_) (Q:St->Hp->Prop),Inv X G_ σ H s->Vals vs us->t vs σ H Q ->
   wpAny (model X.prog X.w) X.A (assignInOrder ((assignEach ts X.env).map (·.2)) us) (λ_ s'=>∃σ' H',Inv X G_ σ' H' s'/\Q σ' H') X.xe s
abbrev pH:=V->V->V->Hp->(Hp->Prop)->Prop
def ua(X:Cx)(t:pH):Prop:=
 ∀(G_:u_) (s:Shared) (σ:St) (H:Hp) (o i v:V) (ov iv u:Value) (Q:Hp->Prop),Inv X G_ σ H s->RelV o ov->RelV i iv->RelV v u->t o i v H Q ->
   wpAny (model X.prog X.w) X.A (setItem ov iv u) (λ_ s'=>∃H',Inv X G_ σ H' s'/\Q H') X.xe s
section
variable {X:Cx}{pos:Pos}
def cg(i:Nat):TG:=λv σ H Q=>Q (σ.set i (some v)) H
def gb{i:Nat}{x:Str}(hN:X.N.Nodup)(hi:X.N[i]?=some x)(hx:Loc X.env.scope x)(hf:X.fn x=true\/X.env.scope.names.lookup x=some .local<|>Q4):PG X (.Name x pos) (cg i):=by intro G_ s σ H v u Q I r h;exact wpAny_assign_Name (lY I hN hi hx r (λs' I'=>⟨_,H,I',h⟩) hf)
def ub:TGs:=λvs σ H Q=>vs=[]/\Q σ H
def uc(t:TG)(u:TGs):TGs:=λvs σ H Q=>∃v r,vs=v::r/\t v σ H λσ' H'=>u r σ' H' Q
def Cr:PGs X [] ub:=by intro G_ s σ H vs us Q I r h;obtain⟨e,h⟩:=h;subst e;cases r;exact assignInOrder_nil ⟨σ,H,I,h⟩
def Cs{e:Expr}{es:l_}{t:TG}{u:TGs}(h1:PG X e t)(h2:PGs X es u)(hs:(assignEach (e::es) X.env).map (·.2)=assign e X.env::(assignEach es X.env).map (·.2)<|>J7):PGs X (e::es) (uc t u):=by
 intro G_ s σ H vs us Q I r h;obtain⟨v,vr,e1,h⟩:=h;subst e1;cases r with
 |cons r rr=>rw[hs];refine assignInOrder_cons (thn (h1 G_ s σ H _ _ _ I r h) λ_ s1 y4=>?_);obtain⟨σ1,H1,I1,q1⟩:=y4;exact h2 G_ s1 σ1 H1 _ _ Q I1 rr q1
def ud(K:K0)(n:Nat)(t:TGs):TG:=λv σ H Q=>∃a xs,v=.ref a/\SqT K H a xs/\xs.length=n/\t xs σ H Q
def j9{es:l_}{k:Nat}{t:TGs}{n:Nat}(hc:X.calm=true)(h:PGs X es t)(hn:(assignEach es X.env).length=n<|>J7)(hst:(assignEach es X.env).findIdx? (·.1)=none<|>J7):PG X (.Tuple es k pos) (ud X.K n t):=by
 intro G_ s σ H v u Q I r hw;obtain⟨a,xs,e1,hq,hl,hw⟩:=hw;subst e1;cases r;obtain⟨its,rv,ht,hz⟩:=I.tuple hq;refine assign_Tuple_tuple (I.ok.hd hc) ht (by simp[hn,<- hl,rv.length]) hst λh' hx=>?_
 have I1:Inv X G_ σ H {s with heap:=h'}:=I.kept (t':=s.toks) λb o e=>hx b o (z8o (z9n e)) e
 exact h G_ _ σ H xs _ Q I1 (by simpa using rv) hw
def Ct(to ti:TE)(t:pH):TG:=λv σ H Q=>to σ H λo H1=>ti σ H1 λi H2=>t o i v H2 λH3=>Q σ H3
def Cu{o i:Expr}{to ti:TE}{t:pH}(ho:PE X o to)(hi:PE X i ti)(hs:ua X t)(ha:(∀v,assign (.Subscript o i pos) X.env v=(do
   let ov <- holding [v] (eval o X.env);let iv <- holding [v,ov] (eval i X.env)
   standAt pos
   holding [v,ov,iv] (setItem ov iv v)
   release [v,ov,iv] []))<|>Q0):PG X (.Subscript o i pos) (Ct to ti t):=by
 intro G_ s σ H v u Q I r h;rw[ha];refine z9j (z3h (aZ (ho G_ s σ H _ I h) λov s1 x H1 I1 r1 q1=>?_));refine z9j (z3h (aZ (hi G_ s1 σ H1 _ I1 q1) λiv s2 y H2 I2 r2 q2=>?_));refine z9j (wpAny_standAt (z9j (z3h (thn (hs G_ s2 σ H2 x y v ov iv u _ I2 r1 r2 r q2) λ_ s3 y4=>?_))));obtain⟨H3,I3,q3⟩:=y4;exact wpAny_release ⟨σ,H3,I3,q3⟩
def pI(te:TE)(g:TG):TS:=λD σ H=>te σ H λx H1=>g x σ H1 D.nx
def pJ{tg e:Expr}{te:TE}{g:TG}(he:PE X e te)(hg:PG X tg g)(hs:swapsWithSole [tg] e pos.line X.env=pure false<|>J7)(hw:swappedStores [tg] e X.env=pure none<|>J7)(h1:(assignEach [tg] X.env).map (·.2)=[assign tg X.env]<|>J7):PS X (.Assign [tg] e pos) (pI te g):=by intro G_ s σ H D I h;refine wpAny_Assign_stores (aZ (he G_ s σ H _ I h) λv s1 x H1 I1 r1 q1=>?_) hs hw;rw[h1];exact thn (hg G_ s1 σ H1 x v _ I1 r1 q1) λ_ s2 q=>q
def ja{i:Nat}{x:Str}{e:Expr}{te:TE}{pos':Pos}(hN:X.N.Nodup)(hi:X.N[i]?=some x)(hx:Loc X.env.scope x)(he:PE X e te)(hs:swapsWith e (some (.Name x pos')) pos.line X.env=pure false<|>J7)(hf:X.fn x=true\/X.env.scope.names.lookup x=some .local<|>Q4):
  PS X (.Assign [.Name x pos'] e pos) (pI te (cg i)):=by
 intro G_ s σ H D I h;refine wpAny_Assign_Name (aZ (he G_ s σ H _ I h) λv s1 y H1 I1 r1 q1=>?_) hs;exact lY I1 hN hi hx r1 (λs2 I2=>⟨_,H1,I2,q1⟩) hf
end
structure It where
 go:Nat->Hp->Prop
 yld:Nat->Hp->V->Hp->Prop
 stop:Nat->Hp->Prop
def cw(X:Cx)(G_:u_)(H:Hp)(b:Addr):Prop:=
 H b=none/\b≠X.env.locals/\b∉X.fs/\(b∈X.ex\/X.s₀.heap.objs.size<=b)/\(∀x c,X.env.cells.lookup x=some c->c≠b)/\∀p∈X.pn++G_,p.1≠b
def Inv.fpOk{X:Cx}{G_:u_}{σ:St}{H H':Hp}{s:Shared}{b:Addr}(I:Inv X G_ σ H s)(hb:s.heap.objs.size<=b)(hn:H' b=none):cw X G_ H' b:=by
 refine⟨hn,z4o (z9v I.lt hb),I.nofs hb,.inr (z7o I.sz hb),λx c e z=>?_,λp hp z=>?_⟩
 ·obtain⟨v,q⟩:=I.cell x c e
  exact absurd (z9v q.lt (by rw[z];exact hb)) (z7u _)
 ·exact absurd (z9v (z9n (I.pin p hp).1) (by rw[z];exact hb)) (z7u _)
structure Turn (P:Program) (w:World) (K:K0) (tg:Expr) (J:It) (fp:m_) (it:Addr) (tn:Nat->Heap->Prop):Prop where
 mem:it∈fp
 obj:∀i h,tn i h->∀b∈fp,∃o,h.get? b=some o/\∀v,o.data≠.cell v
 keep:∀i h h',tn i h->(∀b∈fp,∀o,h.get? b=some o->h'.get? b=some o)->tn i h'
 item:∀(X:Cx),X.prog=P->X.w=w->X.K=K->X.calm=true->∀(i:Nat) (G_:u_) (s:Shared) (σ:St) (H:Hp) (E:Value->Shared->Prop),Inv X G_ σ H s->(∀b∈fp,cw X G_ H b)->tn i s.heap->J.go i H ->
  wpAny (model P w) X.A (pyNext (.ref it)) (λr s1=>∃u,r=some u /\
   wpAny (model P w) X.A (letOwnedTupleGo tg (.ref it) u) (λ_ s2=>∃x H',Inv X G_ σ H' s2/\RelV x u/\J.yld i H x H'/\tn (i+1) s2.heap/\∀b∈fp,H' b=none) E s1) E s
 done:∀(X:Cx),X.prog=P->X.w=w->X.K=K->X.calm=true->∀(i:Nat) (G_:u_) (s:Shared) (σ:St) (H:Hp) (E:Value->Shared->Prop),Inv X G_ σ H s->(∀b∈fp,cw X G_ H b)->tn i s.heap->J.stop i H ->
  wpAny (model P w) X.A (pyNext (.ref it)) (λr s1=>r=none/\Inv X G_ σ H s1) E s
 self:∀(A:Around) (i:Nat) (s:Shared) (Q:Value->Shared->Prop) (E:Value->Shared->Prop),tn i s.heap->Q (.ref it) s->wpAny (model P w) A (pyIter (.ref it)) Q E s
abbrev TI:=St->Hp->(It->Hp->Prop)->Prop
def PIE(X:Cx)(G_:u_)(σ:St)(tg:Expr)(R:It->Hp->Prop)(itv:Value)(s2:Shared):Prop:=
 ∃(it:Addr) (fp:m_) (tn:Nat->Heap->Prop) (J:It) (H':Hp),itv=.ref it/\Inv X G_ σ H' s2/\Turn X.prog X.w X.K tg J fp it tn/\tn 0 s2.heap/\(∀b∈fp,cw X G_ H' b)/\R J H'
def PI(X:Cx)(tg iter:Expr)(wi:TI):Prop:=
 ∀(G_:u_) (s:Shared) (σ:St) (H:Hp) (R:It->Hp->Prop),Inv X G_ σ H s->wi σ H R ->
   wpAny (model X.prog X.w) X.A (eval iter X.env) (λv s1=>wpAny (model X.prog X.w) X.A (pyIter v) (PIE X G_ σ tg R) X.xe s1) X.xe s
def jb{M:Model}{A:Around}{E:Value->Shared->Prop}{s:Shared}{tg:Expr}{it:Addr}{u:Value}{o:Obj}{n:String}{vs:Array Value}{Q:Unit->Shared->Prop}(ho:s.heap.get? it=some o)(hc:o.cls=.type n)(hd:o.data=.fields vs)(hn:["enumerate","zip","dict_itemiterator","dict_reverseitemiterator","odict_iterator","itertools.zip_longest","itertools.pairwise"].contains n=false)(hQ:Q () s):wpAny M A (letOwnedTupleGo tg (.ref it) u) Q E s:=by
 unfold letOwnedTupleGo;cases tg<;>first
  |exact z9z hQ
  | (cases u<;>first
    |exact z9z hQ
    | (refine z9j (wpAny_load ho ?_)
       rw[hc,hd];show wpAny M A (if(["enumerate","zip","dict_itemiterator","dict_reverseitemiterator","odict_iterator","itertools.zip_longest","itertools.pairwise"].contains n&&vs[0]?==some (rawInt _))=true then _ else _) Q E s;rw[if_neg (by intro h;rw[hn,Bool.false_and]at h;cases h)];exact z9z hQ))
noncomputable def Itl(K:K0)(a:Addr):It:=
 ⟨λi H=>∃xs x,SqL K H a xs/\xs[i]?=some x,λi H x H'=>H'=H/\∀xs,SqL K H a xs->xs[i]?=some x,λi H=>∃xs,SqL K H a xs/\xs.length<=i⟩
noncomputable def Itt(K:K0)(a:Addr):It:=
 ⟨λi H=>∃xs x,SqT K H a xs/\xs[i]?=some x,λi H x H'=>H'=H/\∀xs,SqT K H a xs->xs[i]?=some x,λi H=>∃xs,SqT K H a xs/\xs.length<=i⟩
noncomputable def Itr(lo:Int)(n:Nat):It:=⟨λi _=>i<n,λi H x H'=>H'=H/\x=.int (lo+i),λi _=>n<=i⟩
def Cv{P:Program}{w:World}{K:K0}{tg:Expr}(a it:Addr):Turn P w K tg (Itl K a) [it] it (λi h=>h.IsListIter it a i) where
 mem:=by simp
 obj:=λi h st b hb=>by
  have e:b=it:=by simpa using hb
  subst e;obtain⟨o,e,c,d⟩:=st;exact⟨o,e,λv z=>by rw[d]at z;cases z⟩
 keep:=λi h h' st k=>st.at λo e=>k it (by simp) o e
 item:=by
  intro X hP hw hK hc i G_ s σ H E I hf st hg;subst hP hw hK;obtain⟨xs,x,hq,hx⟩:=hg;obtain⟨its,rv,p,hz⟩:=I.list hq;obtain⟨u,hu,ru⟩:=rv.get hx;obtain⟨f0,f1,f2,f3,f4,f5⟩:=hf it (by simp);refine wpAny_pyNext_list_item st p.isList (x:=u) (by simpa using hu) λh' st' sb=>?_
  have I1:Inv X G_ σ H {s with heap:=h'}:=I.turned (t':=s.toks) (λb o hb e=>(sb.2 b hb).trans e) f0 f1 f3 f4 f5;obtain⟨o,e,c,d⟩:=id st';exact⟨u,rfl,jb (s:={s with heap:=h'}) e c d (by decide) ⟨x,H,I1,ru,⟨rfl,λys hy=>by rw[I.list_inj hy hq];exact hx⟩,st',λb hb=>(hf b hb).1⟩⟩
 done:=by intro X hP hw hK hc i G_ s σ H E I hf st hg;subst hP hw hK;obtain⟨xs,hq,hx⟩:=hg;obtain⟨its,rv,p,hz⟩:=I.list hq;obtain⟨f0,f1,f2,f3,f4,f5⟩:=hf it (by simp);have hl:=rv.length;exact wpAny_pyNext_list_end (I.ok.hd hc) st p.isList (by simp;ext) λh' eb=>⟨rfl,I.turned (t':=s.toks) (λb o hb e=>eb b o hb e) f0 f1 f3 f4 f5⟩
 self:=λ_ _ _ _ _ st h=>wpAny_pyIter_listiter st h
def Cw{P:Program}{w:World}{K:K0}{tg:Expr}(a it:Addr):Turn P w K tg (Itt K a) [it] it (λi h=>h.IsTupleIter it a i) where
 mem:=by simp
 obj:=λi h st b hb=>by
  have e:b=it:=by simpa using hb
  subst e;obtain⟨o,e,c,d⟩:=st;exact⟨o,e,λv z=>by rw[d]at z;cases z⟩
 keep:=λi h h' st k=>st.at λo e=>k it (by simp) o e
 item:=by
  intro X hP hw hK hc i G_ s σ H E I hf st hg;subst hP hw hK;obtain⟨xs,x,hq,hx⟩:=hg;obtain⟨its,rv,p,hz⟩:=I.tuple hq;obtain⟨u,hu,ru⟩:=rv.get hx;obtain⟨f0,f1,f2,f3,f4,f5⟩:=hf it (by simp);refine wpAny_pyNext_tuple_item st (show s.heap.IsTuple a its.toArray from p) (x:=u) (by simpa using hu) λh' st' sb=>?_
  have I1:Inv X G_ σ H {s with heap:=h'}:=I.turned (t':=s.toks) (λb o hb e=>(sb.2 b hb).trans e) f0 f1 f3 f4 f5;obtain⟨o,e,c,d⟩:=id st';exact⟨u,rfl,jb (s:={s with heap:=h'}) e c d (by decide) ⟨x,H,I1,ru,⟨rfl,λys hy=>by rw[I.tuple_inj hy hq];exact hx⟩,st',λb hb=>(hf b hb).1⟩⟩
 done:=by intro X hP hw hK hc i G_ s σ H E I hf st hg;subst hP hw hK;obtain⟨xs,hq,hx⟩:=hg;obtain⟨its,rv,p,hz⟩:=I.tuple hq;obtain⟨f0,f1,f2,f3,f4,f5⟩:=hf it (by simp);have hl:=rv.length;exact wpAny_pyNext_tuple_end (I.ok.hd hc) st (show s.heap.IsTuple a its.toArray from p) (by simp;ext) λh' eb=>⟨rfl,I.turned (t':=s.toks) (λb o hb e=>eb b o hb e) f0 f1 f3 f4 f5⟩
 self:=λ_ _ _ _ _ st h=>wpAny_pyIter_tupleiter st h
def Cy{P:Program}{w:World}{K:K0}{tg:Expr}(it:Addr)(lo:Int)(n:Nat):Turn P w K tg (Itr lo n) [it] it (λi h=>IsRangeIter h it (lo+(i:Nat)*1) ((n:Int)-(i:Nat)) 1) where
 mem:=by simp
 obj:= λi h st b hb=>by
  have e:b=it:=by simpa using hb
  subst e;exact⟨_,st,λv z=>by have z':Data.fields _=Data.cell v:=z;cases z'⟩
 keep:=λi h h' st k=>k it (by simp) _ st
 item:=by
  intro X hP hw hK hc i G_ s σ H E I hf st hg;subst hP hw hK;obtain⟨f0,f1,f2,f3,f4,f5⟩:=hf it (by simp);have W:=Walks.range (prog:=X.prog) (w:=X.w) (I.ok.hd hc) it lo 1 n;refine W.item i s _ _ hg st λv h' tk hv st' kk=>?_
  obtain⟨t,rfl⟩:=hv;have I1:Inv X G_ σ H {s with heap:=h',toks:=tk}:=I.turned (λb o hb e=>kk b o (by simpa using hb) e) f0 f1 f3 f4 f5;refine⟨_,rfl,jb (s:={s with heap:=h',toks:=tk}) (n:="range_iterator") st' rfl rfl (by decide) ⟨.int (lo+i),H,I1,⟨t,?_⟩,⟨rfl,rfl⟩,st',λb hb=>(hf b hb).1⟩⟩;rw[Int.mul_one]
 done:=by intro X hP hw hK hc i G_ s σ H E I hf st hg;subst hP hw hK;obtain⟨f0,f1,f2,f3,f4,f5⟩:=hf it (by simp);exact wpAny_pyNext_range_end (I.ok.hd hc) st (by have:n<=i:=hg;ext) λh' eb=>⟨rfl,I.turned (t':=s.toks) (λb o hb e=>eb b o hb e) f0 f1 f3 f4 f5⟩
 self:=λ_ _ _ _ _ st h=>wpAny_pyIter_rangeiter st h
section
variable {X:Cx}{tg:Expr}
def ue(K:K0)(tl:TE):TI:=λσ H R=>tl σ H λx H1=>∃a,x=.ref a/\(∃xs,SqL K H1 a xs)/\R (Itl K a) H1
def Cz(K:K0)(tl:TE):TI:=λσ H R=>tl σ H λx H1=>∃a,x=.ref a/\(∃xs,SqT K H1 a xs)/\R (Itt K a) H1
def m7{l:Expr}{tl:TE}(hl:PE X l tl):PI X tg l (ue X.K tl):=by
 intro G_ s σ H R I h;refine aZ (hl G_ s σ H _ I h) λv s1 x H1 I1 r1 q1=>?_
 obtain⟨a,e,⟨xs,hq⟩,q⟩:=q1;subst e;cases r1;obtain⟨its,rv,p,hz⟩:=I1.list hq;refine wpAny_pyIter_list p.isList ?_;refine⟨s1.heap.objs.size,[s1.heap.objs.size],_,_,H1,rfl,I1.kept (t':=s1.toks) λb o e=>z9m _ e,Cv a _,⟨_,z8l _ rfl,rfl,rfl⟩,λb hb=>?_,q⟩;have e:b=s1.heap.objs.size:=by simpa using hb
 subst e;exact I1.fpOk (z9l _) (I1.hok.fresh (z9l _))
def pK{l:Expr}{tl:TE}(hl:PE X l tl):PI X tg l (Cz X.K tl):=by
 intro G_ s σ H R I h;refine aZ (hl G_ s σ H _ I h) λv s1 x H1 I1 r1 q1=>?_
 obtain⟨a,e,⟨xs,hq⟩,q⟩:=q1;subst e;cases r1;obtain⟨its,rv,p,hz⟩:=I1.tuple hq;refine wpAny_pyIter_tuple (show s1.heap.IsTuple a its.toArray from p) ?_;refine⟨s1.heap.objs.size,[s1.heap.objs.size],_,_,H1,rfl,I1.kept (t':=s1.toks) λb o e=>z9m _ e,Cw a _,⟨_,z8l _ rfl,rfl,rfl⟩,λb hb=>?_,q⟩;have e:b=s1.heap.objs.size:=by simpa using hb
 subst e;exact I1.fpOk (z9l _) (I1.hok.fresh (z9l _))
def uf{G_:u_}{σ:St}{H:Hp}{s:Shared}{R:It->Hp->Prop}{E:Value->Shared->Prop}{lo hi:Int}{t u v:Tok}{tk:Nat}(I:Inv X G_ σ H s)(h1:-(2 ^ 62)<=lo)(h2:lo<2 ^ 62)(h3:-(2 ^ 62)<=hi)(h4:hi<2 ^ 62)(q:R (Itr lo (hi-lo).toNat) H):wpAny (model X.prog X.w) X.A (pyIter (.ref s.heap.objs.size)) (PIE X G_ σ tg R) E {s with heap:=s.heap.push {cls:=.type "range",data:=.fields #[.int lo t,.int hi u,.int 1 v]},toks:=tk}:=by
 refine wpAny_pyIter_range (IsRange.new ..) (small_one h1 h2 h3 h4) ?_;have I1:Inv X G_ σ H {s with heap:=s.heap.push {cls:=.type "range",data:=.fields #[.int lo t,.int hi u,.int 1 v]},toks:=tk}:=I.kept λb o e=>z9m _ e
 refine⟨(s.heap.push {cls:=.type "range",data:=.fields #[.int lo t,.int hi u,.int 1 v]}).objs.size,[(s.heap.push {cls:=.type "range",data:=.fields #[.int lo t,.int hi u,.int 1 v]}).objs.size],_,_,H,rfl,
  I1.kept (t':=tk) λb o e=>z9m _ e,Cy _ lo (hi-lo).toNat,?_,λb hb=>?_,q⟩
 ·have e1:lo+((0:Nat):Int)*1=lo:=by simp
  have e2:(((hi-lo).toNat:Nat):Int)-((0:Nat):Int)=Builtin.Range.rangeSize lo hi 1:=by rw[rangeSize_one];split<;>ext
  show IsRangeIter _ _ (lo+((0:Nat):Int)*1) ((((hi-lo).toNat:Nat):Int)-((0:Nat):Int)) 1;rw[e1,e2];exact z8l _ rfl
 ·have e:b=(s.heap.push {cls:=.type "range",data:=.fields #[.int lo t,.int hi u,.int 1 v]}).objs.size:=by simpa using hb
  subst e;exact I1.fpOk (z9l _) (I1.hok.fresh (z9l _))
def ug(ta:TA):TI:=λσ H R=>ta σ H λvs H1=>∃j:Int,vs=[.int j]/\-(2 ^ 62)<=j/\j<2 ^ 62/\R (Itr 0 j.toNat) H1
def CA(ta:TA):TI:=λσ H R=>ta σ H λvs H1=>∃i j:Int,vs=[.int i,.int j]/\(-(2 ^ 62)<=i/\i<2 ^ 62/\-(2 ^ 62)<=j/\j<2 ^ 62)/\R (Itr i (j-i).toNat) H1
def m8{a:Expr}{ta:TA}{p pos:Pos}(hg:Gl X "range")(hm:X.mg "range"=none)(ha:PA X [a] ta)(hs:starEach [a] X.env=[(false,eval a X.env)]<|>J7):PI X tg (.Call (.Name "range" p) [a] [] pos) (ug ta):=by
 intro G_ s σ H R I h;refine Call_ (eV I hg hm boot_range (z8y (cF (ha pos G_ s σ H _ I h) λus s1 vs H1 I1 r1 q1=>?_) hs rfl));obtain⟨j,e,q1,q2,q⟩:=q1;subst e;cases r1 with
 |cons r rr=>cases rr;obtain⟨t,rfl⟩:=r;exact call_range_1 (uf I1 ∅ ∅ q1 q2 (by simpa using q))
def CB{a b:Expr}{ta:TA}{p pos:Pos}(hg:Gl X "range")(hm:X.mg "range"=none)(ha:PA X [a,b] ta)(hs:starEach [a,b] X.env=[(false,eval a X.env),(false,eval b X.env)]<|>J7)(hs2:starEach [b] X.env=[(false,eval b X.env)]<|>J7):
  PI X tg (.Call (.Name "range" p) [a,b] [] pos) (CA ta):=by
 intro G_ s σ H R I h;refine Call_ (eV I hg hm boot_range (z8y (cF (ha pos G_ s σ H _ I h) λus s1 vs H1 I1 r1 q1=>?_) (by rw[hs,hs2]) (by rw[hs2];rfl)));obtain⟨i,j,e,⟨q1,q2,q3,q4⟩,q⟩:=q1;subst e;cases r1 with
 | cons r rr=>
   cases rr with
   |cons r' rr=>cases rr;obtain⟨t,rfl⟩:=r;obtain⟨t',rfl⟩:=r';exact call_range_2 (uf I1 q1 q2 q3 q4 q)
def CC(wi:TI)(g:TG)(tb:TS):TS:=λD σ H=>wi σ H λJ H1=>∃W:Nat->Nat->St->Hp->Prop,(∃m,W 0 m σ H1)/\∀i m σ H,W i m σ H ->
 (J.stop i H/\D.nx σ H)\/(J.go i H/\∃N:St->Hp->Prop,(∀σ' H',N σ' H'->∃m',m'<m/\W (i+1) m' σ' H')/\∀x H',J.yld i H x H'->g x σ H' λσ2 H2=>tb {D with nx:=N,ct:=N,bk:=D.nx} σ2 H2)
noncomputable def kn(fp:m_)(h:Heap):u_:=fp.filterMap λb=>(h.get? b).map λo=>(b,o)
def m9{fp:m_}{h:Heap}{b:Addr}{o:Obj}(hb:b∈fp)(e:h.get? b=some o):(b,o)∈kn fp h:=z3b.mpr ⟨b,hb,by rw[e];rfl⟩
def CF{fp:m_}{h:Heap}{p:Addr×Obj}(hp:p∈kn fp h):p.1∈fp/\h.get? p.1=some p.2:=by
 obtain⟨b,hb,e⟩:=z3b.mp hp;cases q:h.get? b with
 |none=>rw[q]at e;cases e
 |some o=>rw[q]at e;have e':(b,o)=p:=z7b e;subst e';exact⟨hb,q⟩
def Inv.pinned{G_:u_}{σ:St}{H:Hp}{s:Shared}{fp:m_}(I:Inv X G_ σ H s)(hf:∀b∈fp,cw X G_ H b)(ho:∀b∈fp,∃o,s.heap.get? b=some o/\∀v,o.data≠.cell v):Inv X (G_++kn fp s.heap) σ H s:=
 I.pins_of λp hp=>(z8q.mp hp).elim (λz=>I.pin p (z9s _ z)) λz=>by obtain⟨hb,e⟩:=CF z;obtain⟨f0,f1,f2,_⟩:=hf p.1 hb;obtain⟨o,e',d⟩:=ho p.1 hb;rw[e]at e';cases e';exact⟨e,f0,f1,f2,d⟩
def Inv.unpinned{G_ pl:u_}{σ:St}{H:Hp}{s:Shared}(I:Inv X (G_++pl) σ H s):Inv X G_ σ H s:=I.pins_of λp hp=>I.pin p (z9s _ (z8i _ hp))
def i9{iter:Expr}{body:o_}{wi:TI}{g:TG}{tb:TS}{pos:Pos}(hp:PassesOwn (model X.prog X.w) X.A X.env X.xe)(hc:X.calm=true)(hi:PI X tg iter wi)(hg:PG X tg g)(hb:PSs X body tb)(hs:(∀x,foldedSetIterable iter X.env x=pure x)<|>Q0):PS X (.For tg iter body [] pos) (CC wi g tb):=by
 intro G_ s σ H D I h;refine wpAny_For (thn (hi G_ s σ H _ I h) λv s1 h1=>thn h1 λitv s2 h2=>?_) hs;obtain⟨it,fp,tn,J,H2,e,I2,T,st2,f2,W,⟨m0,w0⟩,turn⟩:=h2;subst e;have stat:∀{H':Hp},(∀b∈fp,H' b=none)->∀b∈fp,cw X G_ H' b:=λhn b hb=>⟨hn b hb,(f2 b hb).2⟩
 refine codeAny_forLoop_any (λn s'=>∃i σ' H',Inv X G_ σ' H' s'/\tn i s'.heap/\(∀b∈fp,H' b=none)/\W i n σ' H') ?_ m0 ⟨0,σ,H2,I2,st2,λb hb=>(f2 b hb).1,w0⟩;rintro n s3 ⟨i,σ3,H3,I3,st3,fr3,w3⟩;rcases turn i n σ3 H3 w3 with⟨stop,qn⟩|⟨go,N,hN,step⟩
 ·refine z5r hp (thn (T.done X rfl rfl rfl hc i G_ s3 σ3 H3 X.xe I3 (stat fr3) st3 stop) λr s4 y4=>?_)
  obtain⟨hr,I4⟩:=y4;subst hr;exact z5q ⟨σ3,H3,I4,qn⟩
 ·refine z5r hp (thn (T.item X rfl rfl rfl hc i G_ s3 σ3 H3 X.xe I3 (stat fr3) st3 go) λr s4 y4=>?_)
  obtain⟨u,hr,h4⟩:=y4;subst hr;refine z5r hp (thn h4 λ_ s5 y4=>?_);obtain⟨x,H5,I5,r5,y5,st5,fr5⟩:=y4;have I5':=I5.pinned (stat fr5) (T.obj _ _ st5);refine z5r hp (thn (hg _ s5 σ3 H5 x u _ I5' r5 (step x H5 y5)) λ_ s6 y4=>?_);obtain⟨σ6,H6,I6,q6⟩:=y4;refine z5r hp (thn (hb _ s6 σ6 H6 _ I6 q6) λf s7 q7=>?_);have again:∀{σ7:St} {H7:Hp},Inv X (G_++kn fp s5.heap) σ7 H7 s7->N σ7 H7->∃m,m<n/\∃i σ' H',Inv X G_ σ' H' s7/\tn i s7.heap/\(∀b∈fp,H' b=none)/\W i m σ' H':=λ{σ7 H7} I7 n7=>by obtain⟨m',hm,w7⟩:=hN σ7 H7 n7;refine⟨m',hm,i+1,σ7,H7,I7.unpinned,T.keep _ _ _ st5 λb hb o e=>(I7.pin (b,o) (z9s _ (z9s _ (m9 hb e)))).1,λb hb=>?_,w7⟩;obtain⟨o,e,d⟩:=T.obj _ _ st5 b hb;exact(I7.pin (b,o) (z9s _ (z9s _ (m9 hb e)))).2.1
  cases f with
  |next=>obtain⟨σ7,H7,I7,n7⟩:=q7;exact again I7 n7
  |cont=>obtain⟨σ7,H7,I7,n7⟩:=q7;exact again I7 n7
  |brk=>obtain⟨σ7,H7,I7,q7⟩:=q7;exact⟨σ7,H7,I7.unpinned,q7⟩
  |ret v=>obtain⟨x7,σ7,H7,I7,r7,q7⟩:=q7;exact⟨x7,σ7,H7,I7.unpinned,r7,q7⟩
end
def uh{K:K0}{a:Addr}{xs:C_}{g:TG}{tb:TS}{D:Ends}{σ:St}{H:Hp}(Pv:Nat->St->Hp->Prop)(h0:Pv 0 σ H)(hl:∀i σ H,i<=xs.length->Pv i σ H->SqL K H a xs)(hs:∀i x σ H,xs[i]?=some x->Pv i σ H->g x σ H λσ2 H2=>tb {D with nx:=Pv (i+1),ct:=Pv (i+1),bk:=D.nx} σ2 H2)(hd:∀σ H,Pv xs.length σ H->D.nx σ H):
  ∃W:Nat->Nat->St->Hp->Prop,(∃m,W 0 m σ H)/\∀i m σ H,W i m σ H ->
    ((Itl K a).stop i H/\D.nx σ H)\/((Itl K a).go i H/\∃N:St->Hp->Prop,(∀σ' H',N σ' H'->∃m',m'<m/\W (i+1) m' σ' H')/\∀x H',(Itl K a).yld i H x H'->g x σ H' λσ2 H2=>tb {D with nx:=N,ct:=N,bk:=D.nx} σ2 H2):=by
 refine⟨λi m σ H=>m=xs.length-i/\i<=xs.length/\Pv i σ H,⟨xs.length,by simp,z7h _,h0⟩,?_⟩;rintro i m σ H ⟨rfl,hi,p⟩;have q:=hl i σ H hi p;by_cases hlt:i<xs.length
 ·refine .inr ⟨⟨xs,xs[i],q,by simp[hlt]⟩,Pv (i+1),λσ' H' p'=>⟨xs.length-(i+1),by ext,rfl,hlt,p'⟩,λx H' y=>?_⟩
  obtain⟨e,y⟩:=y;subst e;exact hs i x σ _ (y xs q) p
 ·have e:i=xs.length:=by ext
  subst e;exact .inl ⟨⟨xs,q,z9l _⟩,hd σ H p⟩
def ui{lo:Int}{n:Nat}{g:TG}{tb:TS}{D:Ends}{σ:St}{H:Hp}(Pv:Nat->St->Hp->Prop)(h0:Pv 0 σ H)(hs:∀i σ H,i<n->Pv i σ H->g (.int (lo+i)) σ H λσ2 H2=>tb {D with nx:=Pv (i+1),ct:=Pv (i+1),bk:=D.nx} σ2 H2)(hd:∀σ H,Pv n σ H->D.nx σ H):
  ∃W:Nat->Nat->St->Hp->Prop,(∃m,W 0 m σ H)/\∀i m σ H,W i m σ H ->
    ((Itr lo n).stop i H/\D.nx σ H)\/((Itr lo n).go i H/\∃N:St->Hp->Prop,(∀σ' H',N σ' H'->∃m',m'<m/\W (i+1) m' σ' H')/\∀x H',(Itr lo n).yld i H x H'->g x σ H' λσ2 H2=>tb {D with nx:=N,ct:=N,bk:=D.nx} σ2 H2):=by
 refine⟨λi m σ H=>m=n-i/\i<=n/\Pv i σ H,⟨n,by simp,z7h _,h0⟩,?_⟩;rintro i m σ H ⟨rfl,hi,p⟩;by_cases hlt:i<n
 ·refine .inr ⟨hlt,Pv (i+1),λσ' H' p'=>⟨n-(i+1),by ext,rfl,hlt,p'⟩,λx H' y=>?_⟩
  obtain⟨e,y⟩:=y;subst e y;exact hs i σ _ hlt p
 ·have e:i=n:=by ext
  subst e;exact .inl ⟨z9l _,hd σ H p⟩
abbrev R2:=V->V->Hp->VK->Prop
def OpR(X:Cx)(f:Value->Value->Sem Value)(r:R2):Prop:=
 ∀(G_:u_) (s:Shared) (σ:St) (H:Hp) (x y:V) (v u:Value) (Q:VK),Inv X G_ σ H s->RelV x v->RelV y u->r x y H Q ->
   wpAny (model X.prog X.w) X.A (f v u) (EP X G_ σ Q) X.xe s
def UnR(X:Cx)(f:Value->Sem Value)(r:V->Hp->VK->Prop):Prop:=
 ∀(G_:u_) (s:Shared) (σ:St) (H:Hp) (x:V) (v:Value) (Q:VK),Inv X G_ σ H s->RelV x v->r x H Q ->
   wpAny (model X.prog X.w) X.A (f v) (EP X G_ σ Q) X.xe s
def cN(X:Cx)(f:Value)(r:C_->Hp->VK->Prop):Prop:=
 ∀(G_:u_) (s:Shared) (σ:St) (H:Hp) (xs:C_) (us:k_) (Q:VK),Inv X G_ σ H s->Vals xs us->r xs H Q ->
   wpAny (model X.prog X.w) X.A (call f us) (EP X G_ σ Q) X.xe s
def CG(X:Cx)(r:V->Hp->(Bool->Hp->Prop)->Prop):Prop:=
 ∀(G_:u_) (s:Shared) (σ:St) (H:Hp) (x:V) (v:Value) (Q:Bool->Hp->Prop),Inv X G_ σ H s->RelV x v->r x H Q ->
   wpAny (model X.prog X.w) X.A (truthy v) (TP X G_ σ Q) X.xe s
def tOp(r:R2)(ta tb:TE):TE:=λσ H Q=>ta σ H λx H1=>tb σ H1 λy H2=>r x y H2 Q
def tUn(r:V->Hp->VK->Prop)(ta:TE):TE:=λσ H Q=>ta σ H λx H1=>r x H1 Q
def rI(C:Int->Int->Prop)(g:Int->Int->V):R2:=λx y H Q=>∃i j,x=.int i/\y=.int j/\C i j/\Q (g i j) H
def rI0(g:Int->Int->V):R2:=λx y H Q=>∃i j,x=.int i/\y=.int j/\Q (g i j) H
def rU(g:Int->V):V->Hp->VK->Prop:=λx H Q=>∃i,x=.int i/\Q (g i) H
section
variable {X:Cx}{a b:Expr}{ta tb:TE}{pos:Pos}
def pL(ha:PE X a ta)(hb:PE X b tb){G_:u_}{s:Shared}{σ:St}{H:Hp}{R:V->V->Hp->Prop}(I:Inv X G_ σ H s)(h:ta σ H λx H1=>tb σ H1 λy H2=>R x y H2){Q:Value->Shared->Prop}{f:Value->Value->Sem Value}(hf:∀v u s2 x y H2,Inv X G_ σ H2 s2->RelV x v->RelV y u->R x y H2->wpAny (model X.prog X.w) X.A (f v u) Q X.xe s2):
  wpAny (model X.prog X.w) X.A (eval a X.env) (λv y7=>wpAny (model X.prog X.w) X.A (eval b X.env) (λu y9=>wpAny (model X.prog X.w) X.A (f v u) Q X.xe y9) X.xe y7) X.xe s:=by
 refine aZ (ha G_ s σ H _ I h) λv s1 x H1 I1 r1 q1=>?_
 refine aZ (hb G_ s1 σ H1 _ I1 q1) λu s2 y H2 I2 r2 q2=>?_
 exact hf v u s2 x y H2 I2 r1 r2 q2
def jc{op:Operator}{r:R2}(ho:OpR X (binaryOp op) r)(ha:PE X a ta)(hb:PE X b tb):PE X (.BinOp a op b pos) (tOp r ta tb):=by intro G_ s σ H Q I h;exact wpAny_BinOp (pL ha hb I h λv u s2 x y H2 I2 rx ry q=>ho G_ s2 σ H2 x y v u Q I2 rx ry q)
def CH{op:UnaryOp}{r:V->Hp->VK->Prop}(ho:UnR X (unaryOp op) r)(ha:PE X a ta):PE X (.UnaryOp op a pos) (tUn r ta):=by intro G_ s σ H Q I h;exact UnaryOp_ (aZ (ha G_ s σ H _ I h) λv s1 x H1 I1 r1 q1=>ho G_ s1 σ H1 x v Q I1 r1 q1)
def opI{f:Value->Value->Sem Value}{C:Int->Int->Prop}{g:Int->Int->Int}(rule:∀(i j:Int) (t u:Tok) (s:Shared) (Q:Value->Shared->Prop) (E:Value->Shared->Prop),C i j->Q (.int (g i j) s.toks) {s with toks:=s.toks+1}->wpAny (model X.prog X.w) X.A (f (.int i t) (.int j u)) Q E s):
  OpR X f (rI C λi j=>.int (g i j)):=by
 intro G_ s σ H x y v u Q I rx ry h;obtain⟨i,j,rfl,rfl,hc,q⟩:=h;obtain⟨t,rfl⟩:=rx;obtain⟨t',rfl⟩:=ry;exact rule i j t t' s _ _ hc ⟨.int (g i j),H,I.tok _,⟨_,rfl⟩,q⟩
def uj{f:Value->Value->Sem Value}{g:Int->Int->Int}(rule:∀(i j:Int) (t u:Tok) (s:Shared) (Q:Value->Shared->Prop) (E:Value->Shared->Prop),Q (.int (g i j) s.toks) {s with toks:=s.toks+1}->wpAny (model X.prog X.w) X.A (f (.int i t) (.int j u)) Q E s):
  OpR X f (rI0 λi j=>.int (g i j)):=by
 intro G_ s σ H x y v u Q I rx ry h;obtain⟨i,j,rfl,rfl,q⟩:=h;obtain⟨t,rfl⟩:=rx;obtain⟨t',rfl⟩:=ry;exact rule i j t t' s _ _ ⟨.int (g i j),H,I.tok _,⟨_,rfl⟩,q⟩
def pM{f:Value->Value->Sem Value}{g:Int->Int->Bool}(rule:∀(i j:Int) (t u:Tok) (s:Shared) (Q:Value->Shared->Prop) (E:Value->Shared->Prop),Q (.bool (g i j)) s->wpAny (model X.prog X.w) X.A (f (.int i t) (.int j u)) Q E s):
  OpR X f (rI0 λi j=>.bl (g i j)):=by
 intro G_ s σ H x y v u Q I rx ry h;obtain⟨i,j,rfl,rfl,q⟩:=h;obtain⟨t,rfl⟩:=rx;obtain⟨t',rfl⟩:=ry;exact rule i j t t' s _ _ ⟨.bl (g i j),H,I,rfl,q⟩
def uk:OpR X (binaryOp .Add) (rI0 λi j=>.int (i+j)):=uj λ_ _ _ _ _ _ _ q=>add_int q
def ul:OpR X (binaryOp .Sub) (rI0 λi j=>.int (i-j)):=uj λ_ _ _ _ _ _ _ q=>sub_int q
def CI:OpR X (binaryOp .Mod) (rI (λ_ j=>0<j) λi j=>.int (i % j)):=opI λi j _ _ _ _ _ hc q=>by have h1:(0:Int)<j:=hc;exact mod_int' ∅ (by rw[Int.fmod_eq_emod_of_nonneg i ∅];exact q)
def unI{f:Value->Sem Value}{g:Int->Int}(rule:∀(i:Int) (t:Tok) (s:Shared) (Q:Value->Shared->Prop) (E:Value->Shared->Prop),Q (.int (g i) s.toks) {s with toks:=s.toks+1}->wpAny (model X.prog X.w) X.A (f (.int i t)) Q E s):
  UnR X f (rU λi=>.int (g i)):=by
 intro G_ s σ H x v Q I rx h;obtain⟨i,rfl,q⟩:=h;obtain⟨t,rfl⟩:=rx;exact rule i t s _ _ ⟨.int (g i),H,I.tok _,⟨_,rfl⟩,q⟩
def CJ:UnR X (unaryOp .USub) (rU λi=>.int (-i)):=unI λ_ _ _ _ _ q=>neg_int q
end
section
variable {X:Cx}{a b c:Expr}{ta tb tc:TE}{pos:Pos}
def pN{G_:u_}{σ:St}{H:Hp}{s:Shared}{Q:VK}{k k':Bool}(I:Inv X G_ σ H s)(q:Q (.bl k) H)(e:k=k'):EP X G_ σ Q (.bool k') s:=by subst e;exact⟨.bl k,H,I,rfl,q⟩
def pO:OpR X (compareOp .LtE) (rI0 λi j=>.bl (decide (i<=j))):=pM λ_ _ _ _ _ _ _ q=>le_int q
def pP:OpR X (compareOp .Gt) (rI0 λi j=>.bl (decide (j<i))):=pM λ_ _ _ _ _ _ _ q=>gt_int q
def CK:OpR X (compareOp .GtE) (rI0 λi j=>.bl (decide (j<=i))):=pM λ_ _ _ _ _ _ _ q=>ge_int q
def CL:OpR X (compareOp .In) (λx y H Q=>∃i j,x=.str i/\y=.str j/\Q (.bl (!(Builtin.Str.occurrences j i 0 j.length 1).isEmpty)) H):=by intro G_ s σ H x y v u Q I rx ry h;obtain⟨i,j,rfl,rfl,q⟩:=h;obtain⟨t,rfl⟩:=rx;obtain⟨t',rfl⟩:=ry;exact in_str (pN I q rfl)
def um:OpR X (compareOp .Is) (λx y H Q=>y=.non/\Q (.bl (decide (x=.non))) H):=by
 intro G_ s σ H x y v u Q I rx ry h;obtain⟨rfl,q⟩:=h;cases ry;refine is_none_gen (pN I q ?_);cases x<;>first
  |(cases rx;rfl)
  |(obtain⟨t,rfl⟩:=rx;rfl)
def pQ:OpR X (compareOp .IsNot) (λx y H Q=>y=.non/\Q (.bl (!decide (x=.non))) H):=by
 intro G_ s σ H x y v u Q I rx ry h;obtain⟨rfl,q⟩:=h;cases ry;refine isnot_none_gen (pN I q ?_);cases x<;>first
  |(cases rx;rfl)
  |(obtain⟨t,rfl⟩:=rx;rfl)
noncomputable def CM:HO->Bool
 |.lst _=>true
 |.ins _ _ _=>true
 |_=>false
def jd{G_:u_}{s:Shared}{σ:St}{H:Hp}{a:Addr}{o:HO}(I:Inv X G_ σ H s)(h:H a=some o)(p:CM o=true):∃ob,s.heap.get? a=some ob/\ob.cls≠.type "tuple":=by
 cases o with
 |lst xs=>obtain⟨_,its,n,_,e⟩:xs.length<=sizeLine/\∃(its:k_) (n:Nat),Vals xs its/\s.heap.get? a=some {cls:=.type "list",data:=.seq its.toArray n}:=I.hok a _ h;exact⟨_,e,(by show Value.type "list" ≠ .type "tuple";decide +kernel)⟩
 |ins C dx fs=>have x:=I.hok a _ h;obtain⟨_,_,_,e,_⟩:=x;exact⟨_,e,(by show Value.ref C≠.type "tuple";exact λz=>by cases z)⟩
 |_=>exact absurd (show false=true from p) z8g
def de(b:Expr){op:CmpOp}(h:op≠.In<|>J8)(h2:op≠.NotIn<|>J8):behindInMarks op b=false:=by
 have e1:(op==CmpOp.In)=false:=by cases op<;>first|rfl|exact absurd rfl h
 have e2:(op==CmpOp.NotIn)=false:=by cases op<;>first|rfl|exact absurd rfl h2
 cases b<;>simp[behindInMarks,e1,e2]
def uo{op:CmpOp}{r:R2}(ho:OpR X (compareOp op) r)(ha:PE X a ta)(hb:PE X b tb)(hm:behindInMarks op b=false):PE X (.Compare a [op] [b] pos) (tOp r ta tb):=by intro G_ s σ H Q I h;exact wpAny_Compare1 (pL ha hb I h λv u s2 x y H2 I2 rx ry q=>ho G_ s2 σ H2 x y v u Q I2 rx ry q) hm
def CN(t:TE):TT:=λσ H Q=>t σ H λx H'=>∃k,x=.bl k/\Q k H'
def pR{op:CmpOp}{r:R2}(ho:OpR X (compareOp op) r)(ha:PE X a ta)(hb:PE X b tb)(hm:behindInMarks op b=false):PT X (.Compare a [op] [b] pos) (CN (tOp r ta tb)):=by
 intro G_ s σ H Q I h;refine wpAny_isTrue_Compare1 (aZ (ha G_ s σ H _ I h) λv s1 x H1 I1 r1 q1=>aZ (hb G_ s1 σ H1 _ I1 q1) λu s2 y H2 I2 r2 q2=>aZ (ho G_ s2 σ H2 x y v u _ I2 r1 r2 q2) λc s3 z H3 I3 r3 ⟨k,e,q3⟩=>?_) hm
 subst e;cases r3;exact z6h ⟨H3,I3,q3⟩
def uq(r r':R2)(ta tb tc:TE):TE:=λσ H Q=>ta σ H λx H1=>tb σ H1 λy H2=>r x y H2 λz H3=>∃k,z=.bl k /\
 (if k=true then tc σ H3 λw' H4=>r' y w' H4 Q else Q (.bl false) H3)
def CO{op op':CmpOp}{r r':R2}(ho:OpR X (compareOp op) r)(ho':OpR X (compareOp op') r')(ha:PE X a ta)(hb:PE X b tb)(hc:PE X c tc)(hm:lastMarks [op,op'] [b,c]=false<|>Q2):PE X (.Compare a [op,op'] [b,c] pos) (uq r r' ta tb tc):=by
 intro G_ s σ H Q I h;refine Compare_chain (aZ (ha G_ s σ H _ I h) λv s1 x H1 I1 r1 q1=>chain_link (aZ (hb G_ s1 σ H1 _ I1 q1) λu s2 y H2 I2 r2 q2=>aZ (ho G_ s2 σ H2 x y v u _ I2 r1 r2 q2) λd s3 z H3 I3 r3 ⟨k,e,q3⟩=>?_)) hm
 subst e;cases r3;refine z6h ?_;cases k with
 |false=>exact ite_ff ⟨.bl false,H3,I3,rfl,q3⟩
 |true=>exact ite_tt (chain_last (aZ (hc G_ s3 σ H3 _ I3 q3) λw' s4 z' H4 I4 r4 q4=>ho' G_ s4 σ H4 y z' u w' Q I4 r2 r4 q4))
def pS(K:K0)(x:V)(H:Hp)(k:Bool):Prop:=
 match x with
 |.non=>k=false
 |.bl b=>k=b
 |.int i=>k=(i != 0)
 |.str y=>y.length<=sizeLine/\k=((y.length:Int) != 0)
 |.byt y=>y.size<=sizeLine/\k=((y.size:Int) != 0)
 |.ref p=>(∃xs,SqL K H p xs/\k = !xs.isEmpty)\/(∃xs,SqT K H p xs/\k = !xs.isEmpty)\/∃kvs,H p=some (.dK kvs)/\k = !kvs.isEmpty
 |_=>False
def CP{κ:Type}{kvs:List (κ×V)}{vs:List (κ×Value)}(r:KV kvs vs):(!vs.isEmpty) = !kvs.isEmpty:=by cases r<;>rfl
def ur{xs:C_}{its:k_}(r:Vals xs its):(!its.toArray.isEmpty) = !xs.isEmpty:=by cases r<;>simp
def ia:(sizeLine:Nat)<2 ^ 63:=by rw[z7q];decide
def CQ:CG X (λx H Q=>∃k,pS X.K x H k/\Q k H):=by
 intro G_ s σ H x v Q I rx h;obtain⟨k,e,q⟩:=h;have hl:=ia;have hs:sizeLine=16777216:=z7q;cases x with
 |non=>cases rx;have e':k=false:=e;subst e';exact truthy_none ⟨H,I,q⟩
 |bl b=>cases rx;have e':k=b:=e;subst e';exact z6h ⟨H,I,q⟩
 |int i=>obtain⟨t,rfl⟩:=rx;have e':k=(i != 0):=e;subst e';exact PySem.P.truthy_int ⟨H,I,q⟩
 |str y=>obtain⟨t,rfl⟩:=rx;obtain⟨hy,e'⟩:y.length<=sizeLine/\k=((y.length:Int) != 0):=e;subst e';exact PySem.P.truthy_str ∅ ⟨H,I.tok _,q⟩
 |byt y=>obtain⟨t,rfl⟩:=rx;obtain⟨hy,e'⟩:y.size<=sizeLine/\k=((y.size:Int) != 0):=e;subst e';exact W.truthy_bytes ∅ ⟨H,I.tok _,q⟩
 | ref p=>
   cases rx;have e':(∃xs,SqL X.K H p xs/\k = !xs.isEmpty)\/(∃xs,SqT X.K H p xs/\k = !xs.isEmpty)\/∃kvs,H p=some (.dK kvs)/\k = !kvs.isEmpty:=e;rcases e' with⟨xs,hx,e'⟩|⟨xs,hx,e'⟩|⟨kvs,hx,e'⟩
   ·subst e'
    obtain⟨its,r,pl,hz⟩:=I.list hx;have hlen:=r.length;exact wpAny_truthy_list pl.isList (by simp only[z9q];ext) ⟨H,I.tok _,by rw[ur r];exact q⟩
   ·subst e'
    obtain⟨its,r,pl,hz⟩:=I.tuple hx;have hlen:=r.length;exact truthy_tuple pl (by simp only[z9q];ext) ⟨H,I.tok _,by rw[ur r];exact q⟩
   ·subst e'
    obtain⟨hz,hS,vs,r,m⟩:kvs.length<=sizeLine/\(p==sysModules)=false/\∃vs,KV kvs vs/\s.heap.DictOf (dc X.prog X.w) p vs:=I.hok p _ hx;have hlen:kvs.length=vs.length:=z3g r;exact wpAny_truthy_dict hS m ∅ ⟨H,I.tok _,by rw[CP r];exact q⟩
 |_=>exact(show False from e).elim
def ut(ha:PE X a ta)(he:∀whole,isTrue a X.env whole=(do let v <- whole;standAt a.pos;holding [v] (truthy v))):
  PT X a (λσ H Q=>ta σ H λx H'=>∃k,pS X.K x H' k/\Q k H'):=by
 intro G_ s σ H Q I h;exact isTrue_plain (aZ (ha G_ s σ H _ I h) λv s1 x H1 I1 r1 q1=>CQ G_ s1 σ H1 x v Q I1 r1 q1) (he _)
def uv:OpR X (binaryOp .Add) (λx y H Q=>∃i j,x=.str i/\y=.str j/\i.length+j.length<=sizeLine/\Q (.str (i++j)) H):=by intro G_ s σ H x y v u Q I rx ry h;obtain⟨i,j,rfl,rfl,hz,q⟩:=h;obtain⟨t,rfl⟩:=rx;obtain⟨t',rfl⟩:=ry;exact add_str (λt' tk=>⟨.str (i++j),H,I.tok _,⟨_,rfl⟩,q⟩) hz
def df{x:V}{us:k_}(r:Vals [x] us):∃u,us=[u]/\RelV x u:=by
 cases r with
 |cons r1 r2=>cases r2;exact⟨_,rfl,r1⟩
def ko{x y:V}{us:k_}(r:Vals [x,y] us):∃u w',us=[u,w']/\RelV x u/\RelV y w':=by
 cases r with
 | cons r1 r2=>
   cases r2 with
   |cons r3 r4=>cases r4;exact⟨_,_,rfl,r1,r3⟩
def uw(hc:X.calm=true):cN X (.builtin "max") (λxs H Q=>∃i j,xs=[.int i,.int j]/\Q (.int (if j > i then j else i)) H):=by
 intro G_ s σ H xs us Q I r h;obtain⟨i,j,rfl,q⟩:=h;obtain⟨u,w',rfl,⟨t,rfl⟩,⟨t',rfl⟩⟩:=ko r;refine max_two_ints (I.ok.hd hc) λh' tk k=>⟨_,H,I.kept k,?_,q⟩
 by_cases hj:j > i
 ·rw[if_pos hj,if_pos hj];exact⟨_,rfl⟩
 ·rw[if_neg hj,if_neg hj];exact⟨_,rfl⟩
def CS(hc:X.calm=true):cN X (.builtin "min") (λxs H Q=>∃i j,xs=[.int i,.int j]/\Q (.int (if j<i then j else i)) H):=by
 intro G_ s σ H xs us Q I r h;obtain⟨i,j,rfl,q⟩:=h;obtain⟨u,w',rfl,⟨t,rfl⟩,⟨t',rfl⟩⟩:=ko r;refine min_two_ints (I.ok.hd hc) λh' tk k=>⟨_,H,I.kept k,?_,q⟩
 by_cases hj:j<i
 ·rw[if_pos hj,if_pos hj];exact⟨_,rfl⟩
 ·rw[if_neg hj,if_neg hj];exact⟨_,rfl⟩
def CT:cN X (.type "int") (λxs H Q=>(∃i,xs=[.int i]/\Q (.int i) H)\/∃k,xs=[.bl k]/\Q (.int (if k then 1 else 0)) H):=by
 intro G_ s σ H xs us Q I r h;rcases h with⟨i,rfl,q⟩|⟨k,rfl,q⟩
 ·obtain⟨u,rfl,t,rfl⟩:=df r
  exact call_int_int ⟨.int i,H,I,⟨_,rfl⟩,q⟩
 ·obtain⟨u,rfl,r1⟩:=df r
  cases r1;exact call_int_bool ⟨.int (if k then 1 else 0),H,I.tok _,⟨_,rfl⟩,q⟩
def pT:cN X (.type "str") (λxs H Q=>∃i,xs=[.int i]/\i.natAbs.log2<1920/\Q (.str (toString i)) H):=by intro G_ s σ H xs us Q I r h;obtain⟨i,rfl,hz,q⟩:=h;obtain⟨u,rfl,t,rfl⟩:=df r;exact PySem.P.str_of_int hz ⟨.str _,H,I.tok _,⟨_,rfl⟩,q⟩
end
structure ObjM (h:Heap) (x dx C:Addr) (mA:Str->v_):Prop where
 obj:h.get? x=some (W.instObj C dx)
 ns:h.Ns1 dx mA
 ne:dx≠x
def CU{h:Heap}{dx:Addr}{mA:Str->v_}(n:h.Ns1 dx mA):∃od,h.get? dx=some od/\∀name,W.lookIn name od=some (mA name):=by
 obtain⟨o,es,ep,ho,hd,hk,_,hm⟩:=n;refine⟨o,ho,λname=>?_⟩;have e:=hm name;unfold nsFind findBy at e;rw[<- Array.find?_toList]at e;unfold W.lookIn;rw[hd];dsimp only
 set_option tactic.hygienic true in split
 ·rename_i y q
  rw[q]at e;exact z8u some e
 ·rename_i q
  rw[q]at e;have a:es.toList.any (·.refKey)=false:=by rw[List.any_eq_false];intro y hy;obtain⟨z,t,hkey⟩:=hk y (Array.mem_toList_iff.mp hy);simp[DictEntry.refKey,hkey]
  have a':¬es.toList.any (·.refKey)=true:=by rw[a];exact z8g
  rw[if_neg a'];exact z8u some e
def ObjM.look{h:Heap}{x dx C:Addr}{mA:Str->v_}(I:ObjM h x dx C mA):∃od,W.InstAt h x (W.instObj C dx) C (some od)/\∀name,W.lookIn name od=some (mA name):=
 let⟨od,ho,hl⟩:=CU I.ns
 ⟨od,⟨I.obj,rfl,rfl,ho⟩,hl⟩
section
variable {prog:Program}{w:World}{A:Around}{E:Value->Shared->Prop}{s:Shared}{K:K0}{x dx C f:Addr}{mA:Str->v_}{name:Str}{v:Value}
def CV{expr:Bool}{Q:Value->Shared->Prop}(X:K.In s.heap)(I:ObjM s.heap x dx C mA)(hg:W.plainGet K C name=true)(hh:W.hasDictIn K C=true)(ha:W.findIn K (.ref C) name=some none)(hv:mA name=some v)(hv':W.handedIn v=true)(h:Q v {s with toks:=s.toks+1}):
  wpAny (model prog w) A (getAttr (.ref x) name expr) Q E s:=by
 obtain⟨od,J,hl⟩:=I.look;exact W.get_value X J (z4x hg).1 (W.findObj_own hh ha rfl (by rw[hl,hv])) hv' h
def CW{pl:Sem Bool}{Q:Value×k_->Shared->Prop}(X:K.In s.heap)(I:ObjM s.heap x dx C mA)(hg:W.plainGet K C name=true)(hf:W.findIn K (.ref C) name=some (some (.ref f)))(ht:W.isFn K (.ref f)=true)(hv:mA name=none)(h:Q (.ref f,[.ref x]) s):
  wpAny (model prog w) A (getMethod (.ref x) name pl) Q E s:=by
 obtain⟨od,J,hl⟩:=I.look;exact W.method_fn X J (z4x hg).1 (z4x hg).2 hf (z7g.mp ht) (by show(W.lookIn name od).map (·.isSome)=some false;rw[hl,hv];rfl) h
def ux{ns:j_}{Q:Unit->Shared->Prop}(X:K.In s.heap)(I:ObjM s.heap x dx C mA)(hs:W.findIn K (.ref C) "__setattr__"=some (some (.builtin "object.__setattr__")))(hp:W.plainOver K C=true)(ht:W.takerIn K C name=some none)(hh:W.hasDictIn K C=true)(hw:PySem.Within mA ns)(hsz:ns.length<=sizeLine)(h:∀h',ObjM h' x dx C (λy=>if y=name then some v else mA y)->Heap.SameBut dx s.heap h'->Q () {s with heap:=h',toks:=s.toks+2}):
  wpAny (model prog w) A (setAttr (.ref x) name v) Q E s:=by
 obtain⟨od,J,hl⟩:=I.look;refine W.set_plain X J hs (W.osa_open (s:={s with toks:=s.toks+1}) (r:=none) X J hp ht λb=>?_);obtain⟨cd,hc,hd'⟩:=W.any_some hh;have hx:s.heap.get? x=some ⟨.ref C,some dx,.plain,#[]⟩:=I.obj;refine z9j (z9z (z9j (z9j (wpAny_loadPart hx (z9j (W.Looks.here (s:={s with toks:=s.toks+1}) (W.looks_clsIn X hc) ?_))))));rw[hd'];refine z9z (a:=some dx) (z9j (z9z (z9j ?_)));refine wpAny_nsSet1 (s:={s with toks:=s.toks+1}) I.ns λh' hn2 hs2=>?_
 obtain⟨oD,esD,epD,hoD,hdD,hcD⟩:=hn2.count (PySem.Within.cons name v hw);refine z9j (wpAny_lookBehind hoD (by rw[hdD];exact pastItsLine_dict (z7o hcD (by rw[z9b];ext))) ?_);exact z9z (h _ ⟨(hs2.2 _ (Ne.symm I.ne)).trans I.obj,hn2,I.ne⟩ hs2)
def uy{R:Result->Shared->Prop}{vs:k_}{kw:List (Str×Value)}(X:K.In s.heap)(hm:W.makesIn K C=true)(hi:W.findIn K (.ref C) "__init__"=some (some (.ref f)))(hf:W.typeIn K (.ref f)=some (.type "function"))(h:codeAny (model prog w) (A.under (.builtin "type.__call__" ⟨.ref C::vs,kw⟩)) (.call (.ref f) ⟨.ref (s.heap.objs.size+1)::vs,kw⟩) (W.InitBack (s.heap.objs.size+1) R)
   {s with heap:=(s.heap.push W.emptyDict).push (W.instObj C s.heap.objs.size)}):
  codeAny (model prog w) A (.call (.ref C) ⟨vs,kw⟩) R s:=by
 obtain⟨hh,g,d,t,os⟩:=s;exact W.make_core (W.makes_of X hm) (z5h X hi) (λself=>W.bind_fn X self hf) (.inl rfl) h
end
noncomputable def cx(f:Str)(v:V):List (Str×V)->List (Str×V)
 |[]=>[(f,v)]
 |(g,x)::r=>if g=f then(g,v)::r else(g,x)::cx f v r
theorem uz(f g:Str)(v:V):∀fs:List (Str×V),(cx f v fs).lookup g=if g=f then some v else fs.lookup g
 | []=>by
   show List.lookup g [(f,v)]=_;by_cases h:g=f
   ·have hb:(g==f)=true:=z7g.mpr h
    simp only[List.lookup,hb,if_pos h]
   ·have hb:(g==f)=false:=z8t.mpr h
    simp only[List.lookup,hb,if_neg h]
 | (k, x)::r=>by
   have ih:=uz f g v r;rw[show cx f v ((k,x)::r)=(if k=f then(k,v)::r else(k,x)::cx f v r)from rfl];by_cases hk:k=f
   ·rw[if_pos hk]
    by_cases h:g=k
    ·have hb:(g==k)=true:=z7g.mpr h
     simp only[List.lookup,hb,if_pos (h.trans hk)]
    ·have hb:(g==k)=false:=z8t.mpr h
     simp only[List.lookup,hb,if_neg (λe:g=f=>h (e.trans hk.symm))]
   ·rw[if_neg hk]
    by_cases h:g=k
    ·have hb:(g==k)=true:=z7g.mpr h
     simp only[List.lookup,hb,if_neg (λe:g=f=>hk (h.symm.trans e))]
    ·have hb:(g==k)=false:=z8t.mpr h
     simp only[List.lookup,hb];exact ih
theorem pU(f:Str)(v:V):∀fs:List (Str×V),f∈(cx f v fs).map (·.1)/\∀g,g∈fs.map (·.1)->g∈(cx f v fs).map (·.1)
 |[]=>⟨by simp[cx],λg h=>by simp at h⟩
 | (k, x)::r=>by
   obtain⟨i1,i2⟩:=pU f v r;rw[show cx f v ((k,x)::r)=(if k=f then(k,v)::r else(k,x)::cx f v r)from rfl];by_cases hk:k=f
   ·rw[if_pos hk]
    subst hk;exact⟨by simp,λg h=>by simpa using h⟩
   ·rw[if_neg hk]
    refine⟨?_,λg h=>?_⟩
    ·rw[z9p]
     exact z9d _ i1
    ·rw[z9p]at h ⊢
     rcases z9k.mp h with e|e
     ·exact z9k.mpr (.inl e)
     ·exact z9d _ (i2 g e)
theorem uA(f:Str)(v:V):∀fs:List (Str×V),(cx f v fs).length<=fs.length+1
 |[]=>by simp[cx]
 | (k,x)::r=>by
   have ih:=uA f v r;rw[show cx f v ((k,x)::r)=(if k=f then(k,v)::r else(k,x)::cx f v r)from rfl];by_cases hk:k=f
   ·rw[if_pos hk,z9b,z9b];ext
   ·rw[if_neg hk,z9b,z9b];ext
def RelO.some_of{v:V}{o:v_}(r:RelO (some v) o):∃u,o=some u/\RelV v u:=by
 cases o with
 |none=>exact(show False from r).elim
 |some u=>exact⟨u,rfl,r⟩
def RelO.none_of{o:v_}(r:RelO none o):o=none:=by
 cases o with
 |none=>rfl
 |some u=>exact(show False from r).elim
def CY{v:V}{u:Value}(r:RelV v u):W.handedIn u=true:=by
 cases v with
 |non=>cases(show u=Value.none from r);rfl
 |bl b=>cases(show u=Value.bool b from r);rfl
 |int i=>obtain⟨t,e⟩:=(show ∃t,u=Value.int i t from r);cases e;rfl
 |str x=>obtain⟨t,e⟩:=(show ∃t,u=Value.str x t from r);cases e;rfl
 |byt b=>obtain⟨t,e⟩:=(show ∃t,u=Value.bytes b t from r);cases e;rfl
 |flt b=>obtain⟨t,e⟩:=(show ∃t,u=Value.float b t from r);cases e;rfl
 |ref a=>cases(show u=Value.ref a from r);rfl
 |ty n=>cases(show u=Value.type n from r);rfl
section
variable {P:Program}{w:World}{H:Hp}{h:Heap}{a C dx:Addr}{fs:List (Str×V)}
def pV(hok:HOk P w H h)(e:H a=some (.ins C dx fs)):∃mA,ObjM h a dx C mA/\(∀f,RelO (fs.lookup f) (mA f))/\PySem.Within mA (fs.map (·.1))/\fs.length<=1000/\H dx=some (.own a):=by obtain⟨d,z,ne,ob,mA,n,r,q⟩:=(show ObjOk P w H h a (.ins C dx fs)from hok a _ e);exact⟨mA,⟨ob,n,ne⟩,r,q,z,d⟩
end
structure Cls (K:K0) (C:Addr):Prop where
 pg:W.plainGet K C Str.empty=true
 hd:W.hasDictIn K C=true
 po:W.plainOver K C=true
 sa:W.findIn K (.ref C) "__setattr__"=some (some (.builtin "object.__setattr__"))
def Cls.get{K:K0}{C:Addr}(c:Cls K C)(f:Str):W.plainGet K C f=true:=c.pg
def NoAttr(K:K0)(C:Addr)(f:Str):Prop:=W.findIn K (.ref C) f=some none
def NoAttr.taker{K:K0}{C:Addr}{f:Str}(n:NoAttr K C f):W.takerIn K C f=some none:=by unfold W.takerIn;rw[show W.findIn K (.ref C) f=some none from n];rfl
structure Meth (K:K0) (C:Addr) (m:Str) (f:Addr):Prop where
 at_:W.findIn K (.ref C) m=some (some (.ref f))
 fn:W.isFn K (.ref f)=true
 kp:W.keepIn K (.ref f)=true
section
variable {X:Cx}{G_:u_}{σ:St}{H:Hp}{s:Shared}{a C dx:Addr}{fs:List (Str×V)}{f:Str}{v:V}{A:Around}{E:Value->Shared->Prop}
def CZ{b:Bool}{Q:Value->Shared->Prop}(I:Inv X G_ σ H s)(e:H a=some (.ins C dx fs))(c:Cls X.K C)(n:NoAttr X.K C f)(l:fs.lookup f=some v)(h:∀u s',Inv X G_ σ H s'->RelV v u->Q u s'):wpAny (model X.prog X.w) A (getAttr (.ref a) f b) Q E s:=by obtain⟨mA,O,r,_,_,_⟩:=pV I.hok e;obtain⟨u,hu,ru⟩:=RelO.some_of (v:=v) (o:=mA f) (by rw[<- l];exact r f);exact CV I.kIn O (c.get f) c.hd n hu (CY ru) (h u _ (I.tok _) ru)
def kq{m:Str}{g:Addr}{pl:Sem Bool}{Q:Value×k_->Shared->Prop}(I:Inv X G_ σ H s)(e:H a=some (.ins C dx fs))(c:Cls X.K C)(k:Meth X.K C m g)(l:fs.lookup m=none)(h:Q (.ref g,[.ref a]) s):wpAny (model X.prog X.w) A (getMethod (.ref a) m pl) Q E s:=by obtain⟨mA,O,r,_,_,_⟩:=pV I.hok e;have hn:mA m=none:=RelO.none_of (by rw[<- l];exact r m);exact CW I.kIn O (c.get m) k.at_ k.fn hn h
def D0{y:V}{u:Value}{Q:Unit->Shared->Prop}(I:Inv X G_ σ H s)(e:H a=some (.ins C dx fs))(c:Cls X.K C)(n:NoAttr X.K C f)(hl:fs.length<1000)(ry:RelV y u)(h:∀s',Inv X G_ σ (upd H a (.ins C dx (cx f y fs))) s'->Q () s'):wpAny (model X.prog X.w) A (setAttr (.ref a) f u) Q E s:=by
 obtain⟨mA,O,r,wi,_,ho⟩:=pV I.hok e;have hz:(fs.map (·.1)).length<=sizeLine:=by rw[z9c,z7q];ext
 refine ux I.kIn O c.sa c.po n.taker c.hd wi hz λh' O' sb=>h _ ?_
 have hd:∃o,h'.get? dx=some o:=let⟨o,_,_,e',_⟩:=O'.ns;⟨o,e'⟩;refine I.write (x:=a) (e:=dx) (by rw[e];exact True.intro) (.inr ho) (λb q hb z=>(sb.2 b hb).trans z) hd ?_;refine⟨by rw[aH O.ne];exact ho,?_,O.ne,O'.obj,_,O'.ns,λg=>?_,λg hg=>?_⟩
 ·have:=uA f y fs;ext
 ·show RelO ((cx f y fs).lookup g) (if g=f then some u else mA g)
  rw[uz];by_cases q:g=f
  ·rw[if_pos q,if_pos q];exact ry
  ·rw[if_neg q,if_neg q];exact r g
 ·by_cases q:g=f
  ·rw[q];exact(pU f y fs).1
  ·refine(pU f y fs).2 g (wi g λz=>hg ?_)
   show(if g=f then some u else mA g)=none;rw[if_neg q];exact z
def Inv.made(I:Inv X G_ σ H s):Inv X G_ σ (upd (upd H s.heap.objs.size (.own (s.heap.objs.size+1))) (s.heap.objs.size+1) (.ins C s.heap.objs.size []))
  {s with heap:=(s.heap.push W.emptyDict).push (W.instObj C s.heap.objs.size)}:=by
 have e1:(s.heap.push W.emptyDict).get? s.heap.objs.size=some W.emptyDict:=z8l s.heap rfl;have e2:((s.heap.push W.emptyDict).push (W.instObj C s.heap.objs.size)).get? (s.heap.objs.size+1)=some (W.instObj C s.heap.objs.size):=by
  have:=z8l (s.heap.push W.emptyDict) (o:=W.instObj C s.heap.objs.size) rfl
  rwa [Heap.size_push]at this
 have e3:(s.heap.push W.emptyDict).Ns s.heap.objs.size (λ_=>none):=⟨W.emptyDict,#[],_,e1,rfl,(λe he=>absurd he (by simp)),λ_=>rfl⟩;have I1:=I.laid (a:=s.heap.objs.size) (o:=.own (s.heap.objs.size+1)) (h':=s.heap.push W.emptyDict) (t':=s.toks) (λb u q=>z9m _ q) (z9l _) ⟨_,e1⟩;refine I1.laid (a:=s.heap.objs.size+1) (o:=.ins C s.heap.objs.size []) (t':=s.toks) (λb u q=>z9m _ q) (Nat.le_of_eq (Heap.size_push _ _)) ?_;have ne:s.heap.objs.size≠s.heap.objs.size+1:=z8o (Nat.lt_succ_self _);refine⟨by rw[aH ne,bj],z7h _,ne,e2,λ_=>none,(Heap.Ns1.of_empty e3).at λo q=>z9m _ q,λ_=>True.intro,λy hy=>absurd rfl hy⟩
def D1{prog:Program}{w:World}{env:Env}{e:Expr}{f:Str}{pos:Pos}{s:Shared}{Q:Value->Shared->Prop}(hb:attributeBase e f env (eval e env)=eval e env)(h:wpAny (model prog w) A (eval e env) (λo y7=>wpAny (model prog w) A (getAttr o f true) Q E y7) E s):wpAny (model prog w) A (eval (.Attribute e f pos) env) Q E s:=
 Attribute_any_ h (by rw[arm_eval_Attribute,hb])
end
def D2(K:K0)(ta:TE)(f:Str):TE:=λσ H Q=>ta σ H λx H1=>∃a C dx fs v,x=.ref a/\H1 a=some (.ins C dx fs)/\Cls K C/\NoAttr K C f/\fs.lookup f=some v/\Q v H1
def D3(K:K0)(ta tv:TE)(f:Str):TS:=λD σ H=>tv σ H λy H1=>ta σ H1 λx H2=>∃a C dx fs,x=.ref a/\H2 a=some (.ins C dx fs)/\Cls K C/\NoAttr K C f/\fs.length<1000 /\
 D.nx σ (upd H2 a (.ins C dx (cx f y fs)))
section
variable {X:Cx}{o e value:Expr}{f:Str}{pos pos':Pos}{ta tv:TE}
def D4(he:PE X e ta)(hb:attributeBase e f X.env (eval e X.env)=eval e X.env):PE X (.Attribute e f pos) (D2 X.K ta f):=by intro G_ s σ H Q I h;refine D1 hb (aZ (he G_ s σ H _ I h) λu s1 x H1 I1 rx y4=>?_);obtain⟨a,C,dx,fs,v,ex,ea,c,n,l,q⟩:=y4;subst ex;obtain rfl:u=Value.ref a:=rx;exact CZ I1 ea c n l λu' s2 I2 ru=>⟨v,H1,I2,ru,q⟩
def pW(ha:PE X o ta)(hv:PE X value tv)(hs:swapsWith value (some (.Attribute o f pos')) pos.line X.env=pure false):PS X (.Assign [.Attribute o f pos'] value pos) (D3 X.K ta tv f):=by intro G_ s σ H D I h;refine plainObj_wpAny_Assign_Attribute (aZ (hv G_ s σ H _ I h) λu s1 y H1 I1 ry q=>aZ (ha G_ s1 σ H1 _ I1 q) λov s2 x H2 I2 rx y4=>?_) hs;obtain⟨a,C,dx,fs,ex,ea,c,n,l,q2⟩:=y4;subst ex;obtain rfl:ov=Value.ref a:=rx;exact D0 I2 ea c n l ry λs3 I3=>⟨σ,_,I3,q2⟩
end
structure Room (k:Nat) (A:Around):Prop where
 hd:A.handled=none
 dp:A.depth+3*k+5<recursionLimit
 un:A.units+16*k+200<cLine
def Room.mono{j k:Nat}{A:Around}(r:Room k A)(h:j<=k):Room j A:=⟨r.hd,by have:=r.dp;ext,by have:=r.un;ext⟩
def Room.deeper{k:Nat}{A:Around}(r:Room (k+1) A)(env:Env):Room k (A.deeper env):=
 ⟨r.hd,by have:=r.dp;show A.depth+1+3*k+5<_;ext,by have:=r.un;show A.units+3+16*k+200<_;ext⟩
def D5{A:Around}{C:Addr}{us:k_}{kw:List (Str×Value)}:(A.under (.builtin "type.__call__" ⟨.ref C::us,kw⟩)).depth=A.depth+1:=by first|rfl|simp[Around.under,Code.weight,Code.isCreation,Code.isGuard,Code.isCaller,Code.frames,Code.isFrame,guardIds]
def D6{A:Around}{C:Addr}{us:k_}{kw:List (Str×Value)}:(A.under (.builtin "type.__call__" ⟨.ref C::us,kw⟩)).units=A.units+1:=by first|rfl|simp[Around.under,Code.cUnits,Code.frames,Code.isFrame]
def Room.make{k:Nat}{A:Around}(r:Room (k+1) A)(C:Addr)(us:k_)(kw:List (Str×Value)):Room k (A.under (.builtin "type.__call__" ⟨.ref C::us,kw⟩)):=
 ⟨r.hd,by have:=r.dp;rw[D5];ext,by have:=r.un;rw[D6];ext⟩
def Room.depth{k:Nat}{A:Around}(r:Room k A):A.depth<recursionLimit:=by have:=r.dp;ext
def Room.units{k:Nat}{A:Around}(r:Room k A):A.units+64<cLine:=by have:=r.un;ext
def ma:TA:=λ_ H Q=>Q [] H
def uB(ta:TE)(tr:TA):TA:=λσ H Q=>ta σ H λx H1=>tr σ H1 λxs H2=>Q (x::xs) H2
section
variable {X:Cx}{e:Expr}{es:l_}{te:TE}{t:TA}{pos:Pos}
def c5:PA X [] ma:=λ_ _ _ _ H Q I h=>Calls.spliced_nil ⟨[],H,I,.nil,h⟩
def bP(ha:PE X e te)(hr:PA X es t)(hs:SE e es X<|>J7):PA X (e::es) (uB te t):=by intro pos G_ s σ H Q I h;rw[hs];show wpAny _ _ (spliced ((false,eval e X.env)::backTo pos (starEach es X.env))) _ _ s;refine Calls.spliced_cons (aZ (ha G_ s σ H _ I h) λu s1 x H1 I1 r1 q1=>?_);exact cF (hr pos G_ s1 σ H1 _ I1 q1) λus s2 xs H2 I2 r2 q2=>⟨x::xs,H2,I2,.cons r1 r2,q2⟩
def D7(t:TA):TE:=λσ H Q=>t σ H λxs H1=>xs.length<=sizeLine/\∀p,H1 p=none->Q (.ref p) (upd H1 p (.tup xs))
def D8(t:TA):TE:=λσ H Q=>t σ H λxs H1=>xs.length<=sizeLine/\∀p,H1 p=none->Q (.ref p) (upd H1 p (.lst xs))
def uC{x1}(h:PA X es t):PE X (.Tuple es x1 pos) (D7 t):=by intro G_ s σ H Q I hq;refine wpAny_Tuple_spliced (cF (h pos G_ s σ H _ I hq) λus s1 xs H1 I1 r ⟨z,q⟩=>⟨by rw[<- r.length];exact z,?_⟩);have hf:H1 s1.heap.objs.size=none:=I1.hok.fresh (z9l _);refine⟨.ref s1.heap.objs.size,upd H1 s1.heap.objs.size (.tup xs),I1.laid (t':=s1.toks) (λb u e=>z9m _ e) (z9l _) ?_,rfl,q _ hf⟩;exact⟨z,us,r,⟨_,z8l _ rfl,rfl,_,rfl⟩⟩
def md(h:PA X es t):PE X (.List es pos) (D8 t):=by intro G_ s σ H Q I hq;refine wpAny_List_spliced (cF (h pos G_ s σ H _ I hq) λus s1 xs H1 I1 r ⟨z,q⟩=>⟨by rw[<- r.length];exact z,?_⟩);have hf:H1 s1.heap.objs.size=none:=I1.hok.fresh (z9l _);refine⟨.ref s1.heap.objs.size,upd H1 s1.heap.objs.size (.lst xs),I1.laid (t':=s1.toks) (λb u e=>z9m _ e) (z9l _) ?_,rfl,q _ hf⟩;exact⟨z,us,0,r,z8l _ rfl⟩
end
abbrev Sp:=C_->Hp->VK->XK->Prop
abbrev CXT:=List Env->Hp->Shared->XK->Value->Shared->Prop
structure Env0 (P:Program) (w:World) (K:K0) (mg:Str->v_) (base:Heap) (A:Around) (outer:List Env) (s:Shared) (H:Hp):Prop where
 frames:A.frames=some outer
 mod:Mod K mg base
 bs:∀b o,base.get? b=some o->s.heap.get? b=some o/\H b=none
 bsz:base.objs.size<=s.heap.objs.size
 funs:s.heap.FunFrames base outer
 frf:∀b∈frs outer,H b=none
 hok:HOk P w H s.heap
 bare:AllBare s.gens
def CE(outer:List Env)(P:Program)(w:World)(H:Hp)(s:Shared)(Q:VK)(u:Value)(s':Shared):Prop:=
 ∃v H',s'.os=s.os/\AllBare s'.gens/\Un (frs outer) [] H H' s.heap s'.heap/\HOk P w H' s'.heap/\RelV v u/\Q v H'
def CR(CX:CXT)(outer:List Env)(P:Program)(w:World)(H:Hp)(s:Shared)(Q:VK)(E:XK)(r:Result)(s':Shared):Prop:=
 match r with
 |.ok (.ret u)=>CE outer P w H s Q u s'
 |.ok _=>False
 |.error e=>CX outer H s E e s'
structure FnOk (P:Program) (w:World) (K:K0) (mg:Str->v_) (base:Heap) (CX:CXT) (k:Nat) (f:Addr) (fd:FuncData) (ps:j_) (sp:Sp):Prop where
 len:∀vs H Q E,sp vs H Q E->vs.length=ps.length
 run:∀(A:Around) (outer:List Env) (s:Shared) (H:Hp) (args:Args) (us:k_) (vs:C_) (Q:VK) (E:XK),Room k A->Env0 P w K mg base A outer s H->BindsTo s fd args (ps.zip us)->Vals vs us->sp vs H Q E ->
  codeAny (model P w) A (.call (.ref f) args) (CR CX outer P w H s Q E) s
theorem FnOk.mono{P:Program}{w:World}{K:K0}{mg:Str->v_}{base:Heap}{CX:CXT}{j k:Nat}{f:Addr}{fd:FuncData}{ps:j_}{sp:Sp}(F:FnOk P w K mg base CX j f fd ps sp)(h:j<=k):
  FnOk P w K mg base CX k f fd ps sp:=⟨F.len,λA outer s H args us vs Q E hr=>F.run A outer s H args us vs Q E (hr.mono h)⟩
theorem FnOk.imp{P:Program}{w:World}{K:K0}{mg:Str->v_}{base:Heap}{CX:CXT}{k:Nat}{f:Addr}{fd:FuncData}{ps:j_}{sp sp':Sp}(F:FnOk P w K mg base CX k f fd ps sp)(h:∀vs H Q E,sp' vs H Q E->sp vs H Q E):FnOk P w K mg base CX k f fd ps sp':=
 ⟨λvs H Q E q=>F.len vs H Q E (h _ _ _ _ q),λA outer s H args us vs Q E hr he hb hv hs=>F.run A outer s H args us vs Q E hr he hb hv (h _ _ _ _ hs)⟩
def Env0.make{P:Program}{w:World}{K:K0}{mg:Str->v_}{base:Heap}{A:Around}{outer:List Env}{s:Shared}{H:Hp}(e:Env0 P w K mg base A outer s H)(C:Addr)(us:k_)(kw:List (Str×Value)):
  Env0 P w K mg base (A.under (.builtin "type.__call__" ⟨.ref C::us,kw⟩)) outer s H:=⟨by first|exact e.frames|(simpa [Around.under,Code.envs,Code.isFrame,pushEnvs]using e.frames),e.mod,e.bs,e.bsz,e.funs,e.frf,e.hok,e.bare⟩
section
variable {X:Cx}{G_:u_}{σ:St}{H:Hp}{s s':Shared}
def Inv.env0(I:Inv X G_ σ H s):Env0 X.prog X.w X.K X.mg X.base X.A X.stack s H:=
 ⟨I.ok.frames,I.ok.mod,I.bs,z7o I.ok.bsz I.sz,I.stack,I.stkFree,I.hok,I.bare⟩
def Inv.after{Q:VK}{u:Value}(I:Inv X G_ σ H s)(h:CE X.stack X.prog X.w H s Q u s'):EP X G_ σ Q u s':=by obtain⟨v,H',os,bare,un,hok,r,q⟩:=h;obtain⟨hh,g,d,t,os'⟩:=s';obtain rfl:os'=s.os:=os;exact⟨v,H',I.call (h':=hh) (g':=g) (d':=d) (t':=t) (ch:=[]) un hok bare (λb z=>absurd z (by simp)),r,q⟩
end
def D9(sp:Sp)(dvs:C_)(E:XK)(t:TA):TE:=λσ H Q=>t σ H λvs H1=>sp (vs++dvs) H1 Q E
def uD(C:Addr)(m:Str)(sp:Sp)(dvs:C_)(E:XK)(ta:TE)(t:TA):TE:=λσ H Q=>ta σ H λx H1=>∃a dx fs,x=.ref a/\H1 a=some (.ins C dx fs)/\fs.lookup m=none /\
 t σ H1 λvs H2=>sp (x::(vs++dvs)) H2 Q E
def uE(C:Addr)(sp:Sp)(dvs:C_)(E:XK)(t:TA):TE:=λσ H Q=>t σ H λvs H1=>∀x dx,H1 x=none->H1 dx=none->dx≠x ->
 sp (.ref x::(vs++dvs)) (upd (upd H1 dx (.own x)) x (.ins C dx [])) (λv H2=>v=.non/\Q (.ref x) H2) E
def Binds(K:K0)(fd:FuncData)(ps:j_)(ds:k_):Prop:=
 ∀(s:Shared) (us:k_),K.In s.heap->(us++ds).length=ps.length->BindsTo s fd ⟨us,[]⟩ (ps.zip (us++ds))
def Binds.all{K:K0}{fd:FuncData}{ps:j_}(h:∀us:k_,us.length=ps.length->bindArgs fd ⟨us,[]⟩=pure (ps.zip us)):Binds K fd ps []:=λs us _ hl=>by rw[z8r]at hl ⊢;exact .of_eq (h us hl)
def fA(CX:CXT)(X:Cx)(E:XK):Prop:=∀(G_:u_) (σ:St) (H:Hp) (s:Shared) (e:Value) (s':Shared),Inv X G_ σ H s->CX X.stack H s E e s'->X.xe e s'
section
variable {X:Cx}{CX:CXT}{k:Nat}{f C:Addr}{fd:FuncData}{ps:j_}{sp:Sp}{dvs:C_}{ds:k_}{E:XK}{x m:Str}{p pos apos:Pos}{e o:Expr}{es:l_}{ta:TE}{t:TA}
theorem pX{G_:u_}{σ:St}{H:Hp}{s:Shared}{Q:VK}{us:k_}{vs:C_}(F:FnOk X.prog X.w X.K X.mg X.base CX k f fd ps sp)(hr:Room k X.A)(hb:Binds X.K fd ps ds)(hd:Vals dvs ds)(hx:fA CX X E)(I:Inv X G_ σ H s)(r:Vals vs us)(h:sp (vs++dvs) H Q E):wpAny (model X.prog X.w) X.A (call (.ref f) us) (EP X G_ σ Q) X.xe s:=by
 have r2:Vals (vs++dvs) (us++ds):=r.append hd;have hl:(us++ds).length=ps.length:=by rw[<- r2.length];exact F.len _ _ _ _ h
 refine wpAny_call (z5f (F.run X.A X.stack s H ⟨us,[]⟩ (us++ds) (vs++dvs) Q E hr I.env0 (hb s us I.kIn hl) r2 h) λr s' hq=>?_);cases r with
 |error e=>exact hx G_ σ H s e s' I hq
 | ok fl=>
   cases fl with
   |ret u=>exact I.after hq
   |next=>exact False.elim hq
   |brk=>exact False.elim hq
   |cont=>exact False.elim hq
def gJ(F:FnOk X.prog X.w X.K X.mg X.base CX k f fd ps sp)(hr:Room k X.A)(hg:Gl X x)(hm:X.mg x=some (.ref f))(hk:W.keepIn X.K (.ref f)=true)(hb:Binds X.K fd ps ds)(hd:Vals dvs ds)(hx:fA CX X E)(ha:PA X (e::es) t)(hdb:DB x<|>J8)(he:SE e es X<|>J7)(hpl:BT pos es X<|>J7):
  PE X (.Call (.Name x p) (e::es) [] pos) (D9 sp dvs E t):=by
 intro G_ s σ H Q I h;refine z6d (fZ I hg hm ?_ hdb);refine z6e (h₀:=X.base) I.ok.mod.kin hk (cF (ha pos G_ s σ H _ I h) λus s1 vs H1 I1 r q=>⟨I1.kIn,?_⟩) he hpl;exact pX F hr hb hd hx I1 r q
def Da{pl:Sem Bool}(he:PE X o ta)(c:Cls X.K C)(hm:Meth X.K C m f)(F:FnOk X.prog X.w X.K X.mg X.base CX k f fd ps sp)(hr:Room k X.A)(hb:Binds X.K fd ps ds)(hd:Vals dvs ds)(hx:fA CX X E)(ha:PA X (e::es) t)(hst:SE e es X<|>J7)(hpl:BT pos es X<|>J7)(ht:(eval (.Call (.Attribute o m apos) (e::es) [] pos) X.env=(do
   let ov <- eval o X.env
   standAt apos.atName
   let(f,first) <- holding [ov] (getMethod ov m pl)
   callWith pos f first (backTo pos (starEach (e::es) X.env)) (backToKw pos (keywordEach [] X.env))))<|>J7):
  PE X (.Call (.Attribute o m apos) (e::es) [] pos) (uD C m sp dvs E ta t):=by
 intro G_ s σ H Q I h;refine z6p (pl:=pl) (aZ (he G_ s σ H _ I h) λu s1 x H1 I1 rx y4=>?_) ht;obtain⟨a,dx,fs,ex,ea,l,q⟩:=y4;subst ex;obtain rfl:u=Value.ref a:=rx;refine kq I1 ea c hm l ?_;refine z6e (first:=[.ref a]) (h₀:=X.base) I.ok.mod.kin hm.kp (cF (ha pos G_ s1 σ H1 _ I1 q) λus s2 vs H2 I2 r q2=>⟨I2.kIn,?_⟩) hst hpl;exact pX (us:=.ref a::us) (vs:=.ref a::vs) F hr hb hd hx I2 (.cons rfl r) q2
def Db{pl:Sem Bool}(he:PE X o ta)(c:Cls X.K C)(hm:Meth X.K C m f)(F:FnOk X.prog X.w X.K X.mg X.base CX k f fd ps sp)(hr:Room k X.A)(hb:Binds X.K fd ps ds)(hd:Vals dvs ds)(hx:fA CX X E)(ht:(eval (.Call (.Attribute o m apos) [] [] pos) X.env=(do
   let ov <- eval o X.env
   standAt apos.atName
   let(f,first) <- holding [ov] (getMethod ov m pl)
   callWith pos f first (backTo pos (starEach [] X.env)) (backToKw pos (keywordEach [] X.env))))<|>J7):
  PE X (.Call (.Attribute o m apos) [] [] pos) (uD C m sp dvs E ta ma):=by
 intro G_ s σ H Q I h;refine z6p (pl:=pl) (aZ (he G_ s σ H _ I h) λu s1 x H1 I1 rx y4=>?_) ht;obtain⟨a,dx,fs,ex,ea,l,q⟩:=y4;subst ex;obtain rfl:u=Value.ref a:=rx;refine kq I1 ea c hm l ?_;exact z4y (first:=[.ref a]) I1.kIn hm.kp (pX (us:=[.ref a]) (vs:=[.ref a]) F hr hb hd hx I1 (.cons rfl .nil) q)
structure Mk (K:K0) (C f:Addr):Prop where
 makes:W.makesIn K C=true
 init:W.findIn K (.ref C) "__init__"=some (some (.ref f))
 fn:W.isFn K (.ref f)=true
 kp:W.keepIn K (.ref C)=true
theorem uF{G_:u_}{σ:St}{H:Hp}{s:Shared}{Q:VK}{us:k_}{vs:C_}(M:Mk X.K C f)(F:FnOk X.prog X.w X.K X.mg X.base CX k f fd ps sp)(hr:Room (k+1) X.A)(hb:Binds X.K fd ps ds)(hd:Vals dvs ds)(hx:fA CX X E)(I:Inv X G_ σ H s)(r:Vals vs us)(h:∀x dx,H x=none->H dx=none->dx≠x->sp (.ref x::(vs++dvs)) (upd (upd H dx (.own x)) x (.ins C dx [])) (λv H2=>v=.non/\Q (.ref x) H2) E):
  wpAny (model X.prog X.w) X.A (call (.ref C) us) (EP X G_ σ Q) X.xe s:=by
 have hq:=h (s.heap.objs.size+1) s.heap.objs.size (I.hok.fresh (Nat.le_succ _)) (I.hok.fresh (z9l _)) (z8o (Nat.lt_succ_self _));have I2:=Inv.made (C:=C) I;have r2:Vals (V.ref (s.heap.objs.size+1)::(vs++dvs)) (Value.ref (s.heap.objs.size+1)::(us++ds)):=.cons rfl (r.append hd);have hl:(Value.ref (s.heap.objs.size+1)::us++ds).length=ps.length:=by have e:=r2.length;rw[F.len _ _ _ _ hq]at e;exact e.symm
 refine wpAny_call (uy (f:=f) I.kIn M.makes M.init (z7g.mp M.fn) (z5f (F.run _ X.stack _ _ ⟨Value.ref (s.heap.objs.size+1)::us,[]⟩ (Value.ref (s.heap.objs.size+1)::(us++ds)) _ _ E (hr.make C us [])
  (I2.env0.make C us []) (hb _ (Value.ref (s.heap.objs.size+1)::us) I2.kIn hl) r2 hq) λr s' hq'=>?_))
 cases r with
 |error e=>exact hx G_ σ _ _ e s' I2 hq'
 | ok fl=>
   cases fl with
   |ret u=>obtain⟨v,H',I3,rv,ev,q3⟩:=I2.after hq';subst ev;exact⟨rv,⟨V.ref (s.heap.objs.size+1),H',I3,rfl,q3⟩⟩
   |next=>exact False.elim hq'
   |brk=>exact False.elim hq'
   |cont=>exact False.elim hq'
def Dc(M:Mk X.K C f)(F:FnOk X.prog X.w X.K X.mg X.base CX k f fd ps sp)(hr:Room (k+1) X.A)(hg:Gl X x)(hm:X.mg x=some (.ref C))(hb:Binds X.K fd ps ds)(hd:Vals dvs ds)(hx:fA CX X E)(ha:PA X (e::es) t)(hdb:DB x<|>J8)(he:SE e es X<|>J7)(hpl:BT pos es X<|>J7):
  PE X (.Call (.Name x p) (e::es) [] pos) (uE C sp dvs E t):=by
 intro G_ s σ H Q I h;refine z6d (fZ I hg hm ?_ hdb);refine z6e (h₀:=X.base) I.ok.mod.kin M.kp (cF (ha pos G_ s σ H _ I h) λus s1 vs H1 I1 r q=>⟨I1.kIn,?_⟩) he hpl;exact uF M F hr hb hd hx I1 r q
def Dd(M:Mk X.K C f)(F:FnOk X.prog X.w X.K X.mg X.base CX k f fd ps sp)(hr:Room (k+1) X.A)(hg:Gl X x)(hm:X.mg x=some (.ref C))(hb:Binds X.K fd ps ds)(hd:Vals dvs ds)(hx:fA CX X E)(hdb:DB x<|>J8):PE X (.Call (.Name x p) [] [] pos) (uE C sp dvs E ma):=by intro G_ s σ H Q I h;refine z6d (fZ I hg hm ?_ hdb);exact z4y I.kIn M.kp (uF (us:=[]) M F hr hb hd hx I .nil h)
end
structure FnScope (N P:j_) (sc:Scope):Prop where
 kind:sc.kind=.function
 co:sc.isCoroutine=false
 gen:sc.isGenerator=false
 nd:N.Nodup
 pre:N.take P.length=P
 par:∀x∈P,sc.names.lookup x=some .local\/sc.names.lookup x=some .cell
 nofree:∀y∈sc.names,y.2≠.free
theorem uG{kindOf:Str->Option NameKind}{x:Str}:∀{binds:List (Str×Value)} {m:Str->v_},(∀v,(x,v)∉binds)->bindL kindOf binds m x=m x
 |[],_,_=>rfl
 | (n,v)::r,m,h=>by
   unfold bindL;rw[uG λw hw=>h w (z9d _ hw)];split
   ·have:x≠n:=by rintro rfl;exact h v z9a
    simp[this]
   ·rfl
theorem uH{kindOf:Str->Option NameKind}{x:Str}:∀{binds:List (Str×Value)} {m:Str->v_},(∀v,(x,v)∉binds)->bindC kindOf binds m x=m x
 |[],_,_=>rfl
 | (n,v)::r,m,h=>by
   unfold bindC;rw[uH λw hw=>h w (z9d _ hw)];split
   ·rfl
   ·have:x≠n:=by rintro rfl;exact h v z9a
    simp[this]
theorem uI{kindOf:Str->Option NameKind}{x:Str}{v:Value}:∀{P:j_} {vs:k_} {i:Nat} {m:Str->v_},P.Nodup->P[i]?=some x->vs[i]?=some v->kindOf x=some .local ->
  bindL kindOf (P.zip vs) m x=some v
 |[],_,_,_,_,h,_,_=>by simp at h
 |_::_,[],_,_,_,_,h,_=>by simp at h
 |p::P,w::vs,0,m,nd,h1,h2,hk=>by simp at h1 h2;subst h1;subst h2;show bindL kindOf ((p,w)::P.zip vs) m p=_;unfold bindL;rw[uG λv hv=>(z8j.mp nd).1 (z4p hv).1,if_pos hk];simp
 |p::P,w::vs,i+1,m,nd,h1,h2,hk=>by show bindL kindOf ((p,w)::P.zip vs) m x=_;unfold bindL;exact uI (i:=i) (z8j.mp nd).2 (by simpa using h1) (by simpa using h2) hk
theorem uJ{kindOf:Str->Option NameKind}{x:Str}{v:Value}:∀{P:j_} {vs:k_} {i:Nat} {m:Str->v_},P.Nodup->P[i]?=some x->vs[i]?=some v->kindOf x≠some .local ->
  bindC kindOf (P.zip vs) m x=some v
 |[],_,_,_,_,h,_,_=>by simp at h
 |_::_,[],_,_,_,_,h,_=>by simp at h
 |p::P,w::vs,0,m,nd,h1,h2,hk=>by simp at h1 h2;subst h1;subst h2;show bindC kindOf ((p,w)::P.zip vs) m p=_;unfold bindC;rw[uH λv hv=>(z8j.mp nd).1 (z4p hv).1,if_neg hk];simp
 |p::P,w::vs,i+1,m,nd,h1,h2,hk=>by show bindC kindOf ((p,w)::P.zip vs) m x=_;unfold bindC;exact uJ (i:=i) (z8j.mp nd).2 (by simpa using h1) (by simpa using h2) hk
noncomputable def start(N:j_)(vs:C_):St:=vs.map some++List.replicate (N.length-vs.length) none
noncomputable def cG(CX:CXT)(P:Program)(w:World)(K:K0)(mg:Str->v_)(base:Heap)(N:j_)(qual:Str)(scope:Scope)(f:Addr)(cd:Value)(A:Around)(outer:List Env)(s:Shared)(H:Hp)(E:XK):Cx where
 prog:=P
 w:=w
 K:=K
 mg:=mg
 base:=base
 A:=A.deeper (envOfC qual scope s.heap.objs.size f cd)
 N:=N
 s₀:=s
 H₀:=H
 env:=envOfC qual scope s.heap.objs.size f cd
 outer:=outer
 stack:=envOfC qual scope s.heap.objs.size f cd::outer
 ex:=[]
 calm:=true
 fn:=λ_=>true
 pn:=[]
 xe:=λe s'=>wpAny (model P w) (A.deeper (envOfC qual scope s.heap.objs.size f cd)) (leaving (envOfC qual scope s.heap.objs.size f cd) e) (λ_ s''=>CX outer H s E e s'') (λe' s''=>CX outer H s E e' s'') s'
def uK{sc:Scope}{n:Nat}{x:Str}(h:sc.names.lookup x=some .cell):∃c,(cellsFrom n sc.names []).lookup x=some c:=by have q:=W.cellsFrom_some sc.names n [] (.inl h);exact Option.isSome_iff_exists.mp q
def Df{CX:CXT}{P:Program}{w:World}{K:K0}{mg:Str->v_}{base:Heap}{N ps:j_}{qual:Str}{scope:Scope}{f:Addr}{cd:Value}{A:Around}{outer:List Env}{s s1:Shared}{H:Hp}{E:XK}{us:k_}{vs:C_}(S:FnScope N ps scope)(hd:A.handled=none)(e0:Env0 P w K mg base A outer s H)(hl:vs.length=ps.length)(r:Vals vs us)(x:InCallC s s.heap.objs.size (bindL (envOfC qual scope s.heap.objs.size f cd).kindOf (ps.zip us) λ_=>none) (cellsFrom (s.heap.objs.size+1) scope.names []) (bindC (envOfC qual scope s.heap.objs.size f cd).kindOf (ps.zip us) λ_=>none) s1):
  Inv (cG CX P w K mg base N qual scope f cd A outer s H E) [] (start N vs) H s1:=by
 have hpl:ps.length<=N.length:=by have:=z8u List.length S.pre;rw[z8a]at this;ext
 obtain⟨h1,tk,rfl,hk⟩:=x.done;have noA:∀b:Addr,b∉(cG CX P w K mg base N qual scope f cd A outer s H E).ex:=λb z=>absurd (show b∈([]:m_)from z) (by simp)
 refine⟨⟨e0.mod,S.kind,rfl,rfl,z9l _,λy z c h1 h2=>?_,λy hy=>?_,λy c _ h=>?_,λ_=>hd,Around.frames_deeper e0.frames,.inr ⟨rfl,rfl⟩,λb z=>absurd z (noA b),e0.bs,e0.bsz,λb _ _=>noA b,λb z=>absurd z (noA b),e0.funs,e0.frf⟩,
  rfl,e0.bare,Un.kept hk,⟨_,x.toInCall.ns,λi y v h1 h2 h3=>?_⟩,λy c h=>⟨_,x.cell y c h⟩,e0.hok.fresh (z9l _),λy c h=>?_,λp hp=>absurd (show p∈([]:u_)from hp) (by simp),e0.hok.kept hk,?_⟩
 ·exact name_of_addr x.apart (z7y h1) (z7y h2)
 ·have hy:scope.names.lookup y=some .cell\/scope.names.lookup y=some .free:=hy
  rcases hy with hy|hy
  ·exact uK hy
  ·exact absurd rfl (S.nofree _ (z7y hy))
 ·exact z4n (x.above y c (z7y h))
 ·have hi:i<vs.length:=by
   unfold start at h2;by_cases hi:i<vs.length
   ·exact hi
   ·rw[z9y (by simpa using hi)]at h2
    rw[z7i]at h2;split at h2<;>cases h2
  have ha:vs[i]?=some v:=by
   unfold start at h2;rw[z8f (by simpa using hi),z9x]at h2;cases e:vs[i]? with
   |none=>rw[e]at h2;cases h2
   |some a=>rw[e]at h2;cases h2;rfl
  obtain⟨u,hu,rv⟩:=r.get ha;have hp:ps[i]?=some y:=by rw[<- S.pre,List.getElem?_take_of_lt ∅];exact h1
  have ndP:ps.Nodup:=by rw[<- S.pre];exact S.nd.sublist (List.take_sublist _ _)
  refine⟨u,rv,?_⟩;rcases S.par y (z8b hp)with k|k
  ·exact .inl ⟨k,uI ndP hp hu k⟩
  ·obtain⟨c,e⟩:=uK (n:=s.heap.objs.size+1) k
   refine .inr ⟨.inl k,c,e,?_⟩;have q:=x.cell y c e;rw[uJ ndP hp hu (by show scope.names.lookup y≠_;rw[k];decide)]at q;exact q
 ·exact e0.hok.fresh (z4n (x.above y c (z7y h)))
 ·unfold start
  show _=N.length;rw[z9f,z9c,z8s];ext
def uL{CX:CXT}{P:Program}{w:World}{K:K0}{mg:Str->v_}{base:Heap}{k:Nat}{f:Addr}{name qual:Str}{params:Arguments}{body:o_}{scope:Scope}{dV kV doc pm cdv ct oc:Value}{an od:Option Addr}{osl:Array v_}{N ps:j_}{sp:Sp}(lk:K.lookup f=some ⟨oc,od,.func (W.fnOf name qual params body scope dV kV doc pm an cdv ct),osl⟩)(hcd:W.codeIn K cdv qual=true)(S:FnScope N ps scope)(len:∀vs H Q E,sp vs H Q E->vs.length=ps.length)(hbody:∀(A:Around) (outer:List Env) (s:Shared) (H:Hp) (vs:C_) (Q:VK) (E:XK),Room k (A.deeper (envOfC qual scope s.heap.objs.size f cdv))->sp vs H Q E ->
   ∃t,PSs (cG CX P w K mg base N qual scope f cdv A outer s H E) body t/\t {nx:=λ_ H'=>Q .non H',rt:=Q} (start N vs) H):
  FnOk P w K mg base CX (k+1) f (W.fnOf name qual params body scope dV kV doc pm an cdv ct) ps sp:=by
 refine⟨len,λA outer s H args us vs Q E hr e0 hb r hsp=>?_⟩;have hl:=len _ _ _ _ hsp;have KX:K.In s.heap:=e0.mod.kin.keeps λb o e=>(e0.bs b o e).1
 have lim:s.heap.NoLimit:=e0.mod.nolimit.keeps λb o e=>(e0.bs b o e).1
 have hkind:∀y∈ps.zip us,scope.names.lookup y.1=some .local\/(scope.names.lookup y.1=some .cell/\((cellsFrom (s.heap.objs.size+1) scope.names []).lookup y.1).isSome=true):=λy4 hy=>by
  obtain⟨n,v⟩:=y4;rcases S.par n (z4p hy).1 with q|q
  ·exact .inl q
  ·exact .inr ⟨q,W.cellsFrom_some _ _ _ (.inl q)⟩
 refine codeAny_call_function hr.depth (KX _ _ lk) rfl S.co S.gen rfl (W.codeRec_of KX hcd) (hb _ _ _ _ ?_);refine wpAny_newFunctionEnv_cells S.kind hkind λenv he s1 x=>?_
 subst he;refine⟨lim.keeps x.toInCall.keep,codeAny_func ?_⟩;obtain⟨t,ht,hq⟩:=hbody A outer s H vs Q E (hr.deeper _) hsp;have I:Inv (cG CX P w K mg base N qual scope f cdv A outer s H E) [] (start N vs) H s1:=Df S hr.hd e0 hl r x;refine z8n (ht [] s1 (start N vs) H _ I hq) (λfl s' hs=>?_) λe s' hs=>hs
 have fin:∀{σ':St} {H':Hp} {v:V} {u:Value},Inv (cG CX P w K mg base N qual scope f cdv A outer s H E) [] σ' H' s'->RelV v u->Q v H'->CE outer P w H s Q u s':=
  λ{σ' H' v u} J rv q=>⟨v,H',J.os,J.bare,J.base,J.hok,rv,q⟩
 cases fl with
 |ret u=>obtain⟨v,σ',H',J,rv,q⟩:=hs;exact fin J rv q
 |next=>obtain⟨σ',H',J,q⟩:=hs;exact fin (v:=V.non) (u:=Value.none) J rfl q
 |brk=>obtain⟨_,_,_,q⟩:=hs;exact False.elim q
 |cont=>obtain⟨_,_,_,q⟩:=hs;exact False.elim q
section
variable {X:Cx}{x:Str}{p pos:Pos}{e:Expr}{es:l_}{t:TA}{id T:String}{r:C_->Hp->VK->Prop}
def tCB(r:C_->Hp->VK->Prop)(t:TA):TE:=λσ H Q=>t σ H λvs H1=>r vs H1 Q
def kr(hc:cN X (.builtin id) r)(hg:Gl X x)(hm:X.mg x=none)(hv:bootBuiltins x=some (.builtin id))(ha:PA X (e::es) t)(hn:x ≠ "__name__"<|>J8)(hdb:DB x<|>J8)(he:SE e es X<|>J7)(hpl:BT pos es X<|>J7):PE X (.Call (.Name x p) (e::es) [] pos) (tCB r t):=by intro G_ s σ H Q I h;refine z6d (eV I hg hm hv ?_ hn hdb);exact PyProof.Rows.callWith_builtin1 (cF (ha pos G_ s σ H _ I h) λus s1 vs H1 I1 r1 q1=>hc G_ s1 σ H1 vs us Q I1 r1 q1) he hpl
def gK(hc:cN X (.type T) r)(hg:Gl X x)(hm:X.mg x=none)(hv:bootBuiltins x=some (.type T))(ha:PA X (e::es) t)(hn:x ≠ "__name__"<|>J8)(hdb:DB x<|>J8)(he:SE e es X<|>J7)(hpl:BT pos es X<|>J7):PE X (.Call (.Name x p) (e::es) [] pos) (tCB r t):=by intro G_ s σ H Q I h;refine z6d (eV I hg hm hv ?_ hn hdb);exact z8y (cF (ha pos G_ s σ H _ I h) λus s1 vs H1 I1 r1 q1=>hc G_ s1 σ H1 vs us Q I1 r1 q1) he hpl
end
end L2
variable {xs vs ys:List L2.V}{us its its':List PySem.Value}{H H' H1 H2:L2.Hp}{a b e c tg iter value elt:PySem.Expr}{o o':L2.HO}{u cd doc pm cdv ct oc:PySem.Value}{P prog q:PySem.Program}{w:PySem.World}{h base h' B w_:PySem.Heap}{t' i j n tk nown np ek:Nat}{d':PySem.Drawn}{ch fp ex:List PySem.Addr}{it f l C dx:PySem.Addr}{x m qual name z:PySem.Str}{pins' G_:List (PySem.Addr×PySem.Obj)}{N ns ps loose cn own:List PySem.Str}{A:PySem.Around}{E Er:PySem.Value->PySem.Shared->Prop}{v y:L2.V}{Q:L2.VK}{s' s s1:PySem.Shared}{X:L2.Cx}{t to tl:L2.TE}{σ:L2.St}{pos pos' p p2 ap cp pr pn ep pos2 pc pa ph pf apos cpos spos p3 p1:PySem.Pos}{op op':PySem.CmpOp}{K:K0}{st:PySem.Stmt}{R:PySem.Result->PySem.Shared->Prop}{lo dep:Int}{hi:Option PySem.Expr}{pl:PySem.Sem Bool}{body:List PySem.Stmt}{wi:L2.TI}{r r':L2.R2}{mA mg:PySem.Str->Option PySem.Value}{kw:List (PySem.Str×PySem.Value)}{env:PySem.Env}{CX:L2.CXT}{fd:PySem.FuncData}{sp:L2.Sp}{outer:List PySem.Env}{scope:PySem.Scope}{an od:Option PySem.Addr}{osl:Array (Option PySem.Value)}{XP:(PySem.Str->Option PySem.Value)->PySem.Heap->Prop}{kvs:List (List L2.Key×L2.V)}{trs:List (L2.TE×L2.TE)}{keys:List (Option PySem.Expr)}{fz fr:Bool}{C':Int->Int->Prop}{kv:Int->Int->L2.V}{O O' OL OL' J3 is O1 O2:z8}{De:L2.Ends}{cl:List (PySem.Str×PySem.Addr)}{elts es' ifs:List PySem.Expr}{names:List (PySem.Str×PySem.NameKind)}{S:Nat->Prop}{ls:List z8}{tt:L2.TT}
namespace HT
open PySem PyProof.Rows
noncomputable def sIx(n d:Nat):A_->Nat
 |none=>d
 |some v=>if v<0 then(v+(n:Int)).toNat else min v.toNat n
end HT
namespace L2
open PySem PySem.Spec PyProof.Rows
abbrev TO:=St->Hp->(A_->Hp->Prop)->Prop
def PO(X:Cx)(e:Option Expr)(t:TO):Prop:=
 ∀(G_:u_) (s:Shared) (σ:St) (H:Hp) (Q:A_->Hp->Prop),Inv X G_ σ H s->t σ H Q ->
   wpAny (model X.prog X.w) X.A (evalPart e X.env) (λu s'=>∃o H',Inv X G_ σ H' s'/\IsPart u o/\Q o H') X.xe s
def Dg:TO:=λ_ H Q=>Q none H
def Dh(t:TE):TO:=λσ H Q=>t σ H λx H1=>∃i,x=.int i/\Q (some i) H1
def Di{ns:z9}:∀{us:k_},Vals (ns.map V.int) us->IntsAre us ns:=by
 induction ns with
 |nil=>intro us r;rw[z6o]at r;cases r;exact .nil
 | cons n ns ih=>
   intro us r;rw[z9p]at r;cases r with
   |cons r1 r2=>obtain⟨t,e⟩:=r1;subst e;exact .cons n t (ih r2)
section
variable {te:TE}{lo:Option Expr}{tl th:TO}
def me:PO X none Dg:=by intro G_ s σ H Q I h;rw[evalPart_none];exact z9z ⟨none,H,I,.none,h⟩
def mf(h:PE X e te):PO X (some e) (Dh te):=by
 intro G_ s σ H Q I hw;rw[evalPart_some];refine aZ (h G_ s σ H _ I hw) λu s1 x H1 I1 r1 q1=>?_
 obtain⟨i,rfl,q⟩:=q1;obtain⟨t,rfl⟩:=r1;exact⟨some i,H1,I1,.int i t,q⟩
def SlR(X:Cx)(r:V->A_->A_->Hp->VK->Prop):Prop:=
 ∀(G_:u_) (s:Shared) (σ:St) (H:Hp) (x:V) (v vl vu:Value) (lo hi:A_) (sl:Addr) (Q:VK),Inv X G_ σ H s->RelV x v->s.heap.IsSliceOf sl vl vu .none->IsPart vl lo->IsPart vu hi->r x lo hi H Q ->
   ∃T id,typeLookup (.type T) "__getitem__"=pure (some (.builtin id))/\s.TypeIs v T/\wpAny (model X.prog X.w) X.A (getItem v (.ref sl)) (EP X G_ σ Q) X.xe s
def tSl(r:V->A_->A_->Hp->VK->Prop)(te:TE)(tl th:TO):TE:=λσ H Q=>te σ H λx H1=>tl σ H1 λl H2=>th σ H2 λu H3=>r x l u H3 Q
def kt{r:V->A_->A_->Hp->VK->Prop}(hr:SlR X r)(he:PE X e te)(hl:PO X lo tl)(hu:PO X hi th):PE X (.Subscript e (.Slice lo hi none p2) pos) (tSl r te tl th):=by
 intro G_ s σ H Q I h;refine Subscript_ (aZ (he G_ s σ H _ I h) λv s1 x H1 I1 r1 q1=>?_);refine wpAny_Slice (thn (hl G_ s1 σ H1 _ I1 q1) λvl s2 ⟨l,H2,I2,pl,q2⟩=>thn (hu G_ s2 σ H2 _ I2 q2) λvu s3 ⟨u,H3,I3,pu,q3⟩=>?_);rw[evalPart_none];refine z9z ?_;have I4:Inv X G_ σ H3 {s3 with heap:=s3.heap.push {cls:=.type "slice",data:=.fields #[vl,vu,.none]}}:=I3.kept (t':=s3.toks) λb ob q=>z9m _ q
 obtain⟨T,id,hT,ht,hg⟩:=hr G_ {s3 with heap:=s3.heap.push {cls:=.type "slice",data:=.fields #[vl,vu,.none]}} σ H3 x v vl vu l u s3.heap.objs.size Q I4 r1 (Heap.IsSliceOf.new ..) pl pu q3;show wpAny (model X.prog X.w) X.A (subscriptTail e (.Slice lo hi none p2) v (.ref s3.heap.objs.size)) (EP X G_ σ Q) X.xe {s3 with heap:=s3.heap.push {cls:=.type "slice",data:=.fields #[vl,vu,.none]}};exact tail_any (ops:=[.ref s3.heap.objs.size,v]) ht hT hg (by with_unfolding_all rfl)
def je(xs:C_)(lo hi:A_):C_:=(xs.drop (HT.sIx xs.length 0 lo)).take (HT.sIx xs.length xs.length hi-HT.sIx xs.length 0 lo)
def Dj(xs:C_)(lo hi:A_):(je xs lo hi).length<=xs.length:=by unfold je;rw[z8a,z7l];ext
end
noncomputable def ixN(n:Nat)(i:Int):Option Nat:=if 0<=i then(if i<n then some i.toNat else none)else if -(n:Int)<=i then some (i+n).toNat else none
def atI{α:Type}(xs:List α)(i:Int):Option α:=(ixN xs.length i).bind λj=>xs[j]?
def uM{i:Int}(h:ixN n i=some j):seqIndex? i n=some j/\j<n/\-(n:Int)<=i/\i<n:=by
 unfold ixN at h;by_cases h0:0<=i
 ·rw[if_pos h0]at h
  by_cases h1:i<n
  ·rw[if_pos h1]at h
   have e:i.toNat=j:=z7b h;exact⟨by rw[seqIndex_of h0 h1,e],by ext,by ext,h1⟩
  ·rw[if_neg h1]at h;cases h
 ·rw[if_neg h0]at h
  by_cases h1:-(n:Int)<=i
  ·rw[if_pos h1]at h
   have e:(i+n).toNat=j:=z7b h;exact⟨by rw[seqIndex_neg ∅ h1,e],by ext,h1,by ext⟩
  ·rw[if_neg h1]at h;cases h
def ku{α:Type}{xs:List α}{i:Int}{v:α}(h:atI xs i=some v):∃j,seqIndex? i xs.length=some j/\xs[j]?=some v/\j<xs.length/\-(xs.length:Int)<=i/\i<xs.length:=by
 unfold atI at h;cases e:ixN xs.length i with
 |none=>rw[e]at h;cases h
 |some j=>rw[e]at h;obtain⟨h1,h2,h3,h4⟩:=uM e;exact⟨j,h1,h,h2,h3,h4⟩
def ib(b:Expr):Prop:=∀o i,subscripted b false o i=operate [o,i] (getItem o i)
def IxR(X:Cx)(r:R2):Prop:=
 ∀(value slice:Expr) (G_:u_) (s:Shared) (σ:St) (H:Hp) (x y:V) (v u:Value) (Q:VK),Inv X G_ σ H s->RelV x v->RelV y u->r x y H Q ->
   subscripted slice false v u=operate [v,u] (getItem v u)->wpAny (model X.prog X.w) X.A (subscriptTail value slice v u) (EP X G_ σ Q) X.xe s
def MtR(X:Cx)(id:String)(r:V->C_->Hp->VK->Prop):Prop:=
 ∀(G_:u_) (s:Shared) (σ:St) (H:Hp) (x:V) (xs:C_) (v:Value) (us:k_) (Q:VK),Inv X G_ σ H s->RelV x v->Vals xs us->r x xs H Q ->
   wpAny (model X.prog X.w) X.A (call (.builtin id) (v::us)) (EP X G_ σ Q) X.xe s
section
variable {ta tb:TE}
def IxR.or(h:IxR X r)(h':IxR X r'):IxR X (λx y H Q=>r x y H Q\/r' x y H Q):=by
 intro value slice G_ s σ H x y v u Q I rx ry q hs;rcases q with q|q
 ·exact h value slice G_ s σ H x y v u Q I rx ry q hs
 ·exact h' value slice G_ s σ H x y v u Q I rx ry q hs
def jf(hr:IxR X r)(ha:PE X a ta)(hb:PE X b tb)(hs:ib b):PE X (.Subscript a b pos) (tOp r ta tb):=by intro G_ s σ H Q I h;exact Subscript_ (pL ha hb I h λv u s2 x y H2 I2 rx ry q=>hr a b G_ s2 σ H2 x y v u Q I2 rx ry q (hs _ _))
def Dk(K:K0):R2:=λx y H Q=>∃p xs i v,x=.ref p/\y=.int i/\SqL K H p xs/\atI xs i=some v/\Q v H
def Dl(K:K0):R2:=λx y H Q=>∃p xs i v,x=.ref p/\y=.int i/\SqT K H p xs/\atI xs i=some v/\Q v H
def uN:R2:=λx y H Q=>∃z i c,x=.str z/\y=.int i/\z.length<=sizeLine/\atI z.cps.toList i=some c/\Q (.str ⟨#[c]⟩) H
def ix_list:IxR X (Dk X.K):=by
 intro value slice G_ s σ H x y v u Q I rx ry h hs;obtain⟨p,xs,i,z,rfl,rfl,hq,he,q⟩:=h;cases rx;obtain⟨t,rfl⟩:=ry;obtain⟨its,r,pl,hz⟩:=I.list hq;obtain⟨j,h1,h2,h3,h4,h5⟩:=ku he;obtain⟨w,ew,rw'⟩:=r.get h2;have hl:=r.length;have hn:=ia;have fin:EP X G_ σ Q w s:=⟨z,H,I,rw',q⟩;by_cases h0:0<=i
 ·have hj:i.toNat=j:=by rw[seqIndex_of h0 h5]at h1;exact z7b h1
  exact item_listR pl.isList h0 ∅ (by rw[hj];simpa using ew) fin hs
 ·have hj:(i+(its.toArray.size:Int)).toNat=j:=by rw[seqIndex_neg ∅ h4]at h1;rw[z9q,<- hl];exact z7b h1
  exact subscriptTail_builtinR (x:=w) pl.isList.typeIs slot_list_getitem.lookup
   (wpAny_getItem_list_neg (Q:=λr s'=>r=w/\EP X G_ σ Q r s') pl.isList ∅ (by rw[z9q]<;>ext) ∅ (by rw[hj];simpa using ew) ⟨rfl,fin⟩) hs
def mh:IxR X (Dl X.K):=by
 intro value slice G_ s σ H x y v u Q I rx ry h hs;obtain⟨p,xs,i,z,rfl,rfl,hq,he,q⟩:=h;cases rx;obtain⟨t,rfl⟩:=ry;obtain⟨its,r,pl,hz⟩:=I.tuple hq;obtain⟨j,h1,h2,h3,h4,h5⟩:=ku he;obtain⟨w,ew,rw'⟩:=r.get h2;have hl:=r.length;have hn:=ia;have fin:EP X G_ σ Q w s:=⟨z,H,I,rw',q⟩;exact subscriptTail_builtinR (x:=w) pl.typeIs slot_tuple_getitem.lookup
  (getItem_tuple (j:=j) (Q:=λr s'=>r=w/\EP X G_ σ Q r s') pl ∅ ∅ (by rw[z9q,<- hl];exact h1) (by simpa using ew) ⟨rfl,fin⟩) hs
def uO:IxR X uN:=by
 intro value slice G_ s σ H x y v u Q I rx ry h hs;obtain⟨z,i,c,rfl,rfl,hz,he,q⟩:=h;obtain⟨t,rfl⟩:=rx;obtain⟨t',rfl⟩:=ry;obtain⟨j,h1,h2,h3,h4,h5⟩:=ku he;have hl:z.cps.toList.length=z.length:=by simp[Str.length]
 rw[hl]at h1 h4 h5;have hn:=ia;exact tail_any (z4b s z t) slot_str_getitem.lookup (getItem_str (c:=c) (by
  have e1:decide (i < -(2 ^ 63:Int))=false:=z8h ∅;have e2:decide (i≥2 ^ 63)=false:=z8h ∅;rw[e1,e2,Bool.or_false]) (by rw[h1];simpa using h2) ⟨.str ⟨#[c]⟩,H,I.tok _,⟨_,rfl⟩,q⟩) hs
def Dm(its:k_)(n j:Nat)(u:Value):Obj.mapSeq (·.setIfInBounds j u) {cls:=.type "list",data:=.seq its.toArray n}={cls:=.type "list",data:=.seq (its.set j u).toArray n}:=by simp[Obj.mapSeq]
def Inv.lst{G_:u_}{σ:St}{H:Hp}{s:Shared}{p:Addr}{xs:C_}(I:Inv X G_ σ H s)(h:H p=some (.lst xs)):
  ∃(its:k_) (n:Nat),Vals xs its/\s.heap.get? p=some {cls:=.type "list",data:=.seq its.toArray n}/\xs.length<=sizeLine:=by
 obtain⟨z,its,n,r,e⟩:=I.hok p _ h;exact⟨its,n,r,e,z⟩
def Inv.lstUpd{p:Addr}{n':Nat}{f:Obj->Obj}(I:Inv X G_ σ H s)(h:H p=some (.lst xs))(ho:s.heap.get? p=some {cls:=.type "list",data:=.seq its.toArray n})(hf:f {cls:=.type "list",data:=.seq its.toArray n}={cls:=.type "list",data:=.seq its'.toArray n'})(r:Vals ys its')(hz:ys.length<=sizeLine)(t:Nat):
  Inv X G_ σ (upd H p (.lst ys)) {s with heap:=s.heap.update p f,toks:=t}:=by
 have e:(s.heap.update p f).get? p=some {cls:=.type "list",data:=.seq its'.toArray n'}:=by rw[Heap.get?_update_self f ho (by rw[hf]<;>rfl),hf]
 refine I.write (x:=p) (e:=p) (by rw[h];trivial) (.inl rfl) (λb u hb q=>(z6n _ _ (Ne.symm hb)).trans q) ⟨_,e⟩ ?_;exact⟨hz,its',n',r,e⟩
def Dn:V->V->V->Hp->(Hp->Prop)->Prop:=λo i v H Q=>∃p xs k j,o=.ref p/\i=.int k/\H p=some (.lst xs)/\ixN xs.length k=some j/\Q (upd H p (.lst (xs.set j v)))
def Do:ua X Dn:=by
 intro G_ s σ H o i v ov iv u Q I ro ri rv h;obtain⟨p,xs,k,j,rfl,rfl,hp,hj,q⟩:=h;cases ro;obtain⟨t,rfl⟩:=ri;obtain⟨its,n,r,ho,hz⟩:=I.lst hp;obtain⟨h1,h2,h3,h4⟩:=uM hj;have hl:=r.length;have hn:=ia;have I':Inv X G_ σ (upd H p (.lst (xs.set j v))) {s with heap:=s.heap.update p (Obj.mapSeq (·.setIfInBounds j u))}:=
  I.lstUpd hp ho (Dm its n j u) (r.set rv j) (by rw[z8e];exact hz) s.toks
 by_cases h0:0<=k
 ·have hk:k.toNat=j:=by rw[seqIndex_of h0 h4]at h1;exact z7b h1
  exact W.ki_setAt ho h0 ∅ (by rw[z9q,<- hl];exact h4) (by rw[hk];exact⟨_,I',q⟩)
 ·have hk:(k+(its.toArray.size:Int)).toNat=j:=by rw[seqIndex_neg ∅ h3]at h1;rw[z9q,<- hl];exact z7b h1
  exact W.ki_setBack ho ∅ (by rw[z9q,<- hl];exact h3) ∅ (by rw[hk];exact⟨_,I',q⟩)
def Dp(lo hi:A_)(n:Nat):(sliceBounds lo hi none n).1=((HT.sIx n 0 lo:Nat):Int)/\(sliceBounds lo hi none n).2.1=((HT.sIx n n hi:Nat):Int)/\(sliceBounds lo hi none n).2.2=1:=by
 refine⟨?_,?_,rfl⟩
 ·cases lo with
  |none=>simp[sliceBounds,HT.sIx]
  | some i=>
    simp only[sliceBounds,HT.sIx,z6v,show(1:Int) > 0 by decide,z4i];by_cases h:i<0
    ·simp only[h,z4i]<;>ext
    ·simp only[h,z5d]<;>ext
 ·cases hi with
  |none=>simp[sliceBounds,HT.sIx]
  | some i=>
    simp only[sliceBounds,HT.sIx,z6v,show(1:Int) > 0 by decide,z4i];by_cases h:i<0
    ·simp only[h,z4i]<;>ext
    ·simp only[h,z5d]<;>ext
def Dq(its:k_)(lo hi:A_):slicePick its.toArray lo hi none=((its.drop (HT.sIx its.length 0 lo)).take (HT.sIx its.length its.length hi-HT.sIx its.length 0 lo)).toArray:=by obtain⟨h1,h2,h3⟩:=Dp lo hi its.toArray.size;unfold slicePick;rw[h1,h2,h3];simp only[sliceRange_one,pick_run,z9q]<;>rfl
def Dr(K:K0):V->A_->A_->Hp->VK->Prop:=λx lo hi H Q=>∃a xs,x=.ref a/\SqL K H a xs/\∀p,H p=none->Q (.ref p) (upd H p (.lst (je xs lo hi)))
def uP:SlR X (Dr X.K):=by intro G_ s σ H x v vl vu lo hi sl Q I rx hs pl pu h;obtain⟨a,xs,rfl,hx,q⟩:=h;cases rx;obtain⟨its,r,ht,hz⟩:=I.list hx;have hlen:=r.length;refine⟨"list",_,slot_list_getitem.lookup,ht.isList.typeIs,?_⟩;refine wpAny_getItem_list_slice ht.isList hs pl pu .none (by simp) ?_ (by rw[z9q]<;>ext);rw[Dq,<- hlen];refine⟨.ref s.heap.objs.size,_,I.laid (t':=s.toks) (o:=.lst (je xs lo hi)) (λb ob q=>z9m _ q) (z9l _) ?_,rfl,q _ (I.hok.fresh (z9l _))⟩;exact⟨z7o (Dj xs lo hi) hz,_,0,(r.drop (HT.sIx xs.length 0 lo)).take (HT.sIx xs.length xs.length hi-HT.sIx xs.length 0 lo),z8l _ rfl⟩
noncomputable def fB:V->Bool
 |.non=>true
 |.bl _=>true
 |.int _=>true
 |.str _=>true
 |_=>false
noncomputable def eqV:V->V->Bool
 |.non,.non=>true
 |.bl a,.bl b=>a==b
 |.bl a,.int b=>(if a then 1 else 0)==b
 |.int a,.bl b=>a==(if b then 1 else 0)
 |.int a,.int b=>a==b
 |.str a,.str b=>a==b
 |_,_=>false
def Ds{x:V}{v:Value}(ry:RelV y u)(rx:RelV x v)(fy:fB y=true)(fx:fB x=true):SeqAt.EqAt A s u v (eqV y x):=by
 cases y with
 | non=>
   cases ry;cases x with
   |non=>cases rx;exact SeqAt.EqAt.same _
   |bl b=>cases rx;exact SeqAt.EqAt.none_bool b
   |int b=>obtain⟨t,rfl⟩:=rx;exact SeqAt.EqAt.none_int b t
   |str b=>obtain⟨t,rfl⟩:=rx;exact SeqAt.EqAt.none_str b t
   |_=>exact absurd (show false=true from fx) z8g
 | bl a=>
   cases ry;cases x with
   |non=>cases rx;exact SeqAt.EqAt.bool_none a
   |bl b=>cases rx;exact SeqAt.EqAt.bool_bool a b
   |int b=>obtain⟨t,rfl⟩:=rx;exact SeqAt.EqAt.bool_int a b t
   |str b=>obtain⟨t,rfl⟩:=rx;exact SeqAt.EqAt.bool_str a b t
   |_=>exact absurd (show false=true from fx) z8g
 | int a=>
   obtain⟨t',rfl⟩:=ry;cases x with
   |non=>cases rx;exact SeqAt.EqAt.int_none a t'
   |bl b=>cases rx;exact SeqAt.EqAt.int_bool a t' b
   |int b=>obtain⟨t,rfl⟩:=rx;exact SeqAt.EqAt.int_int a t' b t
   |str b=>obtain⟨t,rfl⟩:=rx;exact SeqAt.EqAt.int_str a t' b t
   |_=>exact absurd (show false=true from fx) z8g
 | str a=>
   obtain⟨t',rfl⟩:=ry;cases x with
   |non=>cases rx;exact SeqAt.EqAt.str_none a t'
   |bl b=>cases rx;exact SeqAt.EqAt.str_bool a t' b
   |int b=>obtain⟨t,rfl⟩:=rx;exact SeqAt.EqAt.str_int a t' b t
   |str b=>obtain⟨t,rfl⟩:=rx;exact SeqAt.EqAt.str_str a t' b t
   |_=>exact absurd (show false=true from fx) z8g
 |_=>exact absurd (show false=true from fy) z8g
def eqU(x:V)(u:Value):Bool:=match u with
 |.none=>eqV .non x
 |.bool b=>eqV (.bl b) x
 |.int i _=>eqV (.int i) x
 |.str z _=>eqV (.str z) x
 |_=>false
def uQ{x:V}(r:RelV y u)(f:fB y=true):eqU x u=eqV y x:=by
 cases y with
 |non=>cases r;rfl
 |bl b=>cases r;rfl
 |int i=>obtain⟨t,rfl⟩:=r;rfl
 |str z=>obtain⟨t,rfl⟩:=r;rfl
 |_=>exact absurd (show false=true from f) z8g
theorem ky{x:V}:∀{xs:C_} {us:k_},Vals xs us->xs.all fB=true->us.any (eqU x)=xs.any λy=>eqV y x
 |_,_,.nil,_=>rfl
 |y::xs,u::us,.cons r t,f=>by rw[z7v,z8m]at f;rw[z6k,z6k,uQ r f.1,ky t f.2]
theorem kz{A:Around}{s:Shared}{x:V}{v:Value}(rx:RelV x v)(fx:fB x=true):∀{xs:C_} {us:k_},Vals xs us->xs.all fB=true->∀u∈us,SeqAt.EqAt A s u v (eqU x u)
 |_,_,.nil,_=>λu hu=>by cases hu
 | y::xs,u::us,.cons r t,f=>λu' hu=>by
   rw[z7v,z8m]at f;rcases z9k.mp hu with rfl|hu
   ·rw[uQ r f.1];exact Ds r rx f.1 fx
   ·exact kz rx fx t f.2 u' hu
def inV(x:V)(xs:C_):Bool:=xs.any λy=>eqV y x
def rIn(K:K0)(neg:Bool):R2:=λx y H Q=>∃p xs,y=.ref p/\(SqL K H p xs\/SqT K H p xs)/\fB x=true/\xs.all fB=true/\Q (.bl (if neg then !inV x xs else inV x xs)) H
def Dt:OpR X (compareOp .In) (rIn X.K false):=by
 intro G_ s σ H x y v u Q I rx ry h;obtain⟨p,xs,rfl,hq,fx,fs,q⟩:=h;cases ry;rcases hq with hq|hq
 ·obtain⟨its,r,pl,hz⟩:=I.list hq
  refine SeqAt.in_listAt (eqU x) pl.isList (λw hw=>kz rx fx r fs w (by simpa using hw)) ⟨.bl _,H,I,rfl,?_⟩;rw[show its.toArray.any (eqU x)=its.any (eqU x)by simp,ky r fs];exact q
 ·obtain⟨its,r,pl,hz⟩:=I.tuple hq
  refine SeqAt.in_tupleAt (eqU x) pl (λw hw=>kz rx fx r fs w (by simpa using hw)) ⟨.bl _,H,I,rfl,?_⟩;rw[show its.toArray.any (eqU x)=its.any (eqU x)by simp,ky r fs];exact q
def uR:OpR X (compareOp .NotIn) (rIn X.K true):=by
 intro G_ s σ H x y v u Q I rx ry h;obtain⟨p,xs,rfl,hq,fx,fs,q⟩:=h;cases ry;rcases hq with hq|hq
 ·obtain⟨its,r,pl,hz⟩:=I.list hq
  refine SeqAt.notIn_listAt (eqU x) pl.isList (λw hw=>kz rx fx r fs w (by simpa using hw)) ⟨.bl _,H,I,rfl,?_⟩;rw[show its.toArray.any (eqU x)=its.any (eqU x)by simp,ky r fs];exact q
 ·obtain⟨its,r,pl,hz⟩:=I.tuple hq
  refine SeqAt.notIn_tupleAt (eqU x) pl (λw hw=>kz rx fx r fs w (by simpa using hw)) ⟨.bl _,H,I,rfl,?_⟩;rw[show its.toArray.any (eqU x)=its.any (eqU x)by simp,ky r fs];exact q
def uS:cN X (.builtin "len") (λxs H Q=>∃p ys,xs=[.ref p]/\(SqL X.K H p ys\/SqT X.K H p ys)/\Q (.int ys.length) H):=by
 intro G_ s σ H xs us Q I r h;obtain⟨p,ys,rfl,hq,q⟩:=h;obtain⟨u,rfl,rx⟩:=df r;cases rx;have hn:=ia;rcases hq with hq|hq
 ·obtain⟨its,r',pl,hz⟩:=I.list hq
  have hlen:=r'.length;exact Calls.call_len_list pl.isList (by simp only[z9q]<;>ext) ⟨.int ys.length,H,I.tok _,⟨s.toks+1,by rw[z9q,hlen]⟩,q⟩
 ·obtain⟨its,r',pl,hz⟩:=I.tuple hq
  have hlen:=r'.length;exact len_tuple pl (by simp only[z9q]<;>ext) ⟨.int ys.length,H,I.tok _,⟨s.toks+1,by rw[z9q,hlen]⟩,q⟩
def Du:cN X (.builtin "len") (λxs H Q=>∃z,xs=[.str z]/\z.length<=sizeLine/\Q (.int z.length) H):=by intro G_ s σ H xs us Q I r h;obtain⟨z,rfl,hz,q⟩:=h;obtain⟨u,rfl,t,rfl⟩:=df r;have hn:=ia;exact len_str ∅ ⟨.int z.length,H,I.tok _,⟨_,rfl⟩,q⟩
def uT:cN X (.type "list") (λxs H Q=>∃p ys,xs=[.ref p]/\(SqL X.K H p ys\/SqT X.K H p ys)/\∀l,H l=none->Q (.ref l) (upd H l (.lst ys))):=by
 intro G_ s σ H xs us Q I r h;obtain⟨p,ys,rfl,hq,q⟩:=h;obtain⟨u,rfl,rx⟩:=df r;cases rx;have fin:∀(its:k_),Vals ys its->ys.length<=sizeLine->∀(h':Heap) (c':Nat),(∀b o',s.heap.get? b=some o'->h'.get? b=some o') ->
   h'.get? s.heap.objs.size=some {cls:=.type "list",dict:=none,data:=.seq its.toArray c',slots:=#[]}->EP X G_ σ Q (.ref s.heap.objs.size) {s with heap:=h'}:=λits r' hz h' c' kp e=>
  ⟨.ref s.heap.objs.size,_,I.laid (t':=s.toks) kp (z9l _) (show ObjOk X.prog X.w _ h' _ (.lst ys)from⟨hz,its,c',r',e⟩),rfl,q _ (I.hok.fresh (z9l _))⟩
 rcases hq with hq|hq
 ·obtain⟨its,r',pl,hz⟩:=I.list hq
  have hlen:=r'.length;obtain⟨o,ho,hc,n,hd⟩:=pl.isList;exact call_list_seq p (.inl rfl) ho hc hd (λh' c' kp e=>fin its r' hz h' c' kp e) (by simp only[z9q]<;>ext)
 ·obtain⟨its,r',pl,hz⟩:=I.tuple hq
  have hlen:=r'.length;obtain⟨o,ho,hc,n,hd⟩:=pl;exact call_list_seq p (.inr rfl) ho hc hd (λh' c' kp e=>fin its r' hz h' c' kp e) (by simp only[z9q]<;>ext)
def Dv:cN X (.type "tuple") (λxs H Q=>∃p ys,xs=[.ref p]/\((SqL X.K H p ys/\∀l,H l=none->Q (.ref l) (upd H l (.tup ys)))\/(SqT X.K H p ys/\Q (.ref p) H))):=by
 intro G_ s σ H xs us Q I r h;obtain⟨p,ys,rfl,h⟩:=h;obtain⟨u,rfl,rx⟩:=df r;cases rx;rcases h with⟨hq,q⟩|⟨hq,q⟩
 ·obtain⟨its,r',pl,hz⟩:=I.list hq
  have hlen:=r'.length;refine call_tuple_list pl.isList (λh' kp=>?_) (by simp only[z9q]<;>ext);have I1:Inv X G_ σ H {s with heap:=h'}:=I.kept (t':=s.toks) kp;have I2:Inv X G_ σ (upd H h'.objs.size (.tup ys)) {s with heap:=h'.push {cls:=.type "tuple",data:=.seq its.toArray}}:=
   I1.laid (t':=s.toks) (λb o e=>z9m _ e) (z9l _) (show ObjOk X.prog X.w _ _ _ (.tup ys)from⟨hz,its,r',IsTup.new _ _⟩)
  exact⟨.ref h'.objs.size,_,I2,rfl,q _ (I1.hok.fresh (z9l _))⟩
 ·obtain⟨its,r',pl,hz⟩:=I.tuple hq
  exact call_tuple_same pl ⟨.ref p,H,I,rfl,q⟩
def tyV(K:K0)(T:String)(x:V)(H:Hp):Prop:=match x with
 |.str _=>T="str"
 |.int _=>T="int"
 | .ref p=>(T="list"/\∃xs,SqL K H p xs)\/(T="tuple"/\∃o,K.lookup p=some o/\o.cls=.type "tuple"/\o.dict=none) \/
   (T="dict"/\((∃kvs,H p=some (.dK kvs))\/∃kvs,H p=some (.dT kvs)))\/(T="set"/\∃S n,H p=some (.set S n))
 |_=>False
def uU{T:String}{x:V}{v:Value}(I:Inv X G_ σ H s)(r:RelV x v)(ty:tyV X.K T x H):
  s.TypeIs v T/\∀a,v=.ref a->∃ob,s.heap.get? a=some ob/\ob.dict=none:=by
 cases x with
 |str z=>obtain⟨t,rfl⟩:=r;cases(show T="str" from ty);exact⟨z4b s z t,λ_ e=>nomatch e⟩
 |int i=>obtain⟨t,rfl⟩:=r;cases(show T="int" from ty);exact⟨typeIs_int s i t,λ_ e=>nomatch e⟩
 | ref p=>
   cases r;rcases ty with⟨rfl,xs,hq⟩|⟨rfl,o,hk,hc,hd⟩|⟨rfl,hk⟩|⟨rfl,S,n,hk⟩
   ·obtain⟨its,_,pl,_⟩:=I.list hq
    refine⟨pl.isList.typeIs,λa e=>?_⟩;cases e;obtain⟨o,n,e,c,hd,_⟩:=pl;exact⟨o,e,hd⟩
   ·refine⟨⟨o,I.kIn p o hk,hc⟩,λa e=>?_⟩
    cases e;exact⟨o,I.kIn _ o hk,hd⟩
   ·have z:∃o,s.heap.get? p=some o/\o.ExactDict:=by
     rcases hk with⟨kvs,hk⟩|⟨kvs,hk⟩
     ·obtain⟨_,_,_,_,o,_,_,e,ex,_⟩:=I.hok p _ hk
      exact⟨o,e,ex⟩
     ·obtain⟨_,_,_,_,o,_,_,e,ex,_⟩:=I.hok p _ hk
      exact⟨o,e,ex⟩
    obtain⟨o,e,ex⟩:=z;refine⟨⟨o,e,ex.1⟩,λa e2=>?_⟩;cases e2;exact⟨o,e,ex.2.1⟩
   ·obtain⟨o,_,_,_,e,ex,_⟩:=I.hok p _ hk
    refine⟨⟨o,e,ex.1⟩,λa e2=>?_⟩;cases e2;exact⟨o,e,ex.2.1⟩
 |_=>exact False.elim ty
def Dw(K:K0)(T:String)(r:V->C_->Hp->VK->Prop)(to:TE):TE:=λσ H Q=>to σ H λx H1=>tyV K T x H1/\r x [] H1 Q
def tBM(K:K0)(T:String)(r:V->C_->Hp->VK->Prop)(to:TE)(t:TA):TE:=λσ H Q=>to σ H λx H1=>tyV K T x H1/\t σ H1 λxs H2=>r x xs H2 Q
variable {o:Expr}{es:l_}{t:TA}{T id:String}{r:V->C_->Hp->VK->Prop}
def Dx(pa:PlainAttrs T)(slot:Slot T name id)(hty:typeOf (.builtin id)=pure (.type "method_descriptor"))(hm:MtR X id r)(ho:PE X o to)(hbase:attributeBase o name X.env (eval o X.env)=eval o X.env<|>J7)(hline:(apos.endLine==cpos.line)=true<|>J7):PE X (.Call (.Attribute o name apos) [] [] cpos) (Dw X.K T r to):=by intro G_ s σ H Q I h;refine wpAny_Call_method0_late hbase hline (aZ (ho G_ s σ H _ I h) λv s1 x H1 I1 r1 y4=>?_);obtain⟨ty,q1⟩:=y4;obtain⟨h1,h2⟩:=uU I1 r1 ty;exact⟨T,id,pa,slot,hty,h1,h2,Calls.callWith_builtin rfl (PySem.evalArgs_none (hm G_ s1 σ H1 x [] v [] Q I1 r1 .nil q1))⟩
def ic(pa:PlainAttrs T)(slot:Slot T name id)(hty:typeOf (.builtin id)=pure (.type "method_descriptor"))(hm:MtR X id r)(ho:PE X o to)(ha:PA X (e::es) t)(hbase:attributeBase o name X.env (eval o X.env)=eval o X.env<|>J7)(hfew:(((backTo cpos (starEach (e::es) X.env)).all (λx=>!x.1)&&(backToKw cpos (keywordEach [] X.env)).all (λx=>x.1.isSome)
   && decide ((e::es).length+([]:n_).length+(if([]:n_).isEmpty then 0 else 1)<30))=true)<|>J7)(hline:(apos.endLine==cpos.line)=true<|>J7)(hs:SE e es X<|>J7)(hplain:BT cpos es X<|>J7):
  PE X (.Call (.Attribute o name apos) (e::es) [] cpos) (tBM X.K T r to t):=by
 intro G_ s σ H Q I h;refine wpAny_Call_method_late hbase hfew hline rfl (aZ (ho G_ s σ H _ I h) λv s1 x H1 I1 r1 y4=>?_);obtain⟨ty,q1⟩:=y4;obtain⟨h1,h2⟩:=uU I1 r1 ty;refine⟨T,id,pa,slot,hty,h1,h2,?_⟩;have hA:=ha cpos G_ s1 σ H1 _ I1 q1;rw[hs]at hA ⊢;refine Calls.callWith_builtin (by show(false||(backTo cpos (starEach es X.env)).any (·.1))=false;rw[hplain]<;>rfl) (z4q ?_);exact cF hA λus s2 vs H2 I2 r2 q2=>hm G_ s2 σ H2 x vs v us Q I2 r1 r2 q2
end
def MtM(X:Cx)(id:String)(r:V->C_->Hp->VK->Prop):Prop:=
 ∀(G_:u_) (s:Shared) (σ:St) (H:Hp) (x:V) (xs:C_) (v:Value) (us:k_) (Q:VK),Inv X G_ σ H s->RelV x v->Vals xs us->r x xs H Q ->
   wpAny (model X.prog X.w) X.A (call (.builtin id) (v::us)) (EP X G_ σ Q) X.xe s
theorem Vals.one:∀{x:V} {us:k_},Vals [x] us->∃u,us=[u]/\RelV x u
 |_,_,.cons r .nil=>⟨_,rfl,r⟩
def Vals.reverse(h:Vals xs us):Vals xs.reverse us.reverse:=by
 induction h with
 |nil=>exact .nil
 |cons r t ih=>rw[z6i,z6i];exact Vals.append ih (.cons r .nil)
theorem Vals.rep{xs:C_}{us:k_}(h:Vals xs us):∀k:Nat,Vals (List.replicate k xs).flatten (List.replicate k us).flatten
 |0=>.nil
 |k+1=>by rw[z7t,z7t,z6s,z6s];exact Vals.append h (Vals.rep h k)
theorem uV(its:k_):∀(k:Nat) (acc:k_),
  List.foldl (λx1 x2=>x1++x2) acc.toArray (List.replicate k its.toArray)=(acc++(List.replicate k its).flatten).toArray
 |0,acc=>by simp
 | k + 1,acc=>by
   have e:acc.toArray++its.toArray=(acc++its).toArray:=by simp
   have e2:(acc++its)++(List.replicate k its).flatten=acc++(List.replicate (k+1) its).flatten:=by rw[z7t,z6s,z7x]
   rw[<- e2,<- uV its k (acc++its),<- e,z7t,z5s]
def Inv.lset{f:Array Value->Array Value}(I:Inv X G_ σ H s)(hH:H l=some (.lst xs))(e:s.heap.get? l=some {cls:=.type "list",data:=.seq its.toArray n})(hf:f its.toArray=its'.toArray)(hv:Vals ys its')(hz:ys.length<=sizeLine):
  Inv X G_ σ (upd H l (.lst ys)) {s with heap:=s.heap.update l (Obj.mapSeq f),toks:=t'}:=by
 have q:=PySem.IsL.update e f;rw[hf]at q;refine I.write (x:=l) (e:=l) (by rw[hH];exact trivial) (.inl rfl) (λb' u hb hu=>(z6n s.heap (Obj.mapSeq f) (Ne.symm hb)).trans hu) ⟨_,q⟩ ?_;exact⟨hz,its',_,hv,q⟩
def Inv.lnew(I:Inv X G_ σ H s)(hv:Vals ys its)(hz:ys.length<=sizeLine):
  Inv X G_ σ (upd H s.heap.objs.size (.lst ys)) {s with heap:=s.heap.push {cls:=.type "list",data:=.seq its.toArray},toks:=t'}:=
 I.laid (λ_ _ q=>z9m _ q) (z9l _) ⟨hz,its,0,hv,z8l _ rfl⟩
def Inv.fresh(I:Inv X G_ σ H s):H s.heap.objs.size=none:=I.hok.fresh (z9l _)
def Inv.lstM(I:Inv X G_ σ H s)(hH:H l=some (.lst xs)):xs.length<=sizeLine/\∃(its:k_) (n:Nat),Vals xs its/\xs.length=its.length/\s.heap.get? l=some {cls:=.type "list",data:=.seq its.toArray n}:=by obtain⟨z,its,n,r,e⟩:=I.hok l _ hH;exact⟨z,its,n,r,r.length,e⟩
def Dy(h:n<=sizeLine):Builtin.List.listTooLong n=false:=by unfold Builtin.List.listTooLong;exact z8h ∅
def Dz:V->C_->Hp->VK->Prop:=λx vs H Q=>∃l xs y,x=.ref l/\vs=[y]/\H l=some (.lst xs)/\xs.length<sizeLine/\Q .non (upd H l (.lst (xs++[y])))
theorem pY:MtM X "list.append" Dz:=by intro G_ s σ H x vs v us Q I rx rv h;obtain⟨l,xs,y,rfl,rfl,hH,hz,q⟩:=h;cases rx;obtain⟨u,rfl,ru⟩:=rv.one;obtain⟨z,its,n,r,hl,e⟩:=I.lstM hH;refine z5i F.slot_list_append ⟨_,e,rfl⟩ F.entry_list_append (F.args_list_append_2 _ _) (PySem.list_append l its.toArray n u (by rw[z9q];ext)) ⟨e,?_⟩;refine⟨.non,_,I.lset (its':=its++[u]) hH e (by simp) (r.append (.cons ru .nil)) ?_,rfl,q⟩;rw[z9f,z4j];ext
def DA:R2:=λx y H Q=>∃l k xs,x=.ref l/\y=.int k/\H l=some (.lst xs)/\-(2 ^ 63)<=k/\k<2 ^ 63/\xs.length*k.toNat<=sizeLine /\
 ∀p,H p=none->Q (.ref p) (upd H p (.lst (List.replicate k.toNat xs).flatten))
def DC{α:Type}(xs:List α)(k:Nat):(List.replicate k xs).flatten.length=k*xs.length:=by
 induction k with
 |zero=>simp
 |succ k ih=>rw[z7t,z6s,z9f,ih,Nat.succ_mul,Nat.add_comm]
theorem DD:OpR X (binaryOp .Mult) DA:=by
 intro G_ s σ H x y v u Q I rx ry h;obtain⟨l,k,xs,rfl,rfl,hH,h1,h2,hz,q⟩:=h;cases rx;obtain⟨t,rfl⟩:=ry;obtain⟨z,its,n,r,hl,e⟩:=I.lstM hH;have hlen:its.toArray.size*k.toNat<=sizeLine:=by rw[z9q,<- hl];exact hz
 have hcap:¬its.toArray.size*k.toNat > (2 ^ 63-1) / 8:=by
  have:(sizeLine:Nat)<=(2 ^ 63-1) / 8:=by decide
  ext
 have hfit:¬(!Builtin.List.listFitsIndex k)=true:=by rw[fitsIndex_both h1 h2];exact z8g
 have hlong:¬Builtin.List.listTooLong (its.toArray.size*k.toNat)=true:=by rw[Dy hlen];exact z8g
 have hnew:List.foldl (λx1 x2=>x1++x2) #[] (List.replicate (if its.toArray.isEmpty=true then 0 else k.toNat) its.toArray)=(List.replicate k.toNat its).flatten.toArray:=by
  have f0:∀m:Nat,List.foldl (λx1 x2=>x1++x2) #[] (List.replicate m its.toArray)=(List.replicate m its).flatten.toArray:=λm=>by have:=uV its m [];rw[z4r]at this;exact this
  rw[f0];cases its with
  |nil=>simp
  |cons a r'=>rw[if_neg (by simp)]
 refine wpAny_binaryOp_repeat_ref (T:="list") (U:="int") (by decide) ⟨_,e,rfl⟩ (λs'=>typeIs_int s' k t) noFill_list_mul F.fills_int_mul F.slot_int_rmul repeat_list F.slot_int_index.lookup
  (z5i F.slot_int_rmul (typeIs_int s k t) F.entry_int_rmul (F.args_int_rmul_2 _ _) (int___rmul___int_list k t l its.toArray n)
   ⟨e,rfl,⟨_,e,rfl⟩,z5i F.slot_list_mul ⟨_,e,rfl⟩ F.entry_list_mul (F.args_list_mul_2 _ _) (AutoListH.list___mul___list_int_3 l its.toArray n k t hfit hcap hlong) ⟨e,?_⟩⟩)
 rw[hnew];exact⟨.ref _,_,I.lnew (t':=s.toks) (r.rep k.toNat) (by rw[DC,Nat.mul_comm];exact hz),rfl,q _ I.fresh⟩
end L2
namespace Att
open PySem PySem.W PySem.Calls PyProof.Rows
def DE{P:Params}:∀(ns:z9) (vs:k_),WellAll P h vs (ns.map WData.int)->IntsAre vs ns:=by
 intro ns
 induction ns with
 |nil=>intro vs w;rw[z6o]at w;cases w;exact .nil
 | cons n ns ih=>
   intro vs w;rw[z9p]at w;cases w with
   |cons a b=>cases a;exact .cons _ _ (ih _ b)
def DF{l:OpenLaw}(hn:l.most=some n){P:Params}{args:List WData}{vals:k_}(hpre:l.row.toRowW.claim.pre args=true)(hwl:WellAll P h vals args):
  ∃a vs ns,vals=[Value.ref a]/\args=[WData.list (ns.map WData.int)]/\h.get? a=some {cls:=.type "list",data:=.seq vs.toArray}/\IntsAre vs ns/\ns.length<=n:=by
 have hsh:WShape.hasAll [] args [.list .int]=true:=(pre_splitW hpre).1;have hc:l.pre.holds [] {args:=args}=true:=(pre_splitW hpre).2;obtain⟨d,r,rfl,h1,h2⟩:=hasAllW_cons hsh;obtain rfl:=hasAllW_nil h2;obtain⟨xs,rfl,h3⟩:=hasW_list h1;obtain⟨ns,rfl⟩:=items_int h3;have hlen:ns.length<=n:=by
  unfold OpenLaw.pre at hc;have h4:(WTm.not (.lt (.lit (.int (n:Int))) (.len (.arg 0)))).holds [] {args:=[.list (ns.map .int)]}=true:=by have h4:=(holds_andW hc).1;rw[hn]at h4;exact h4
  have h5:=condW_of h4 (w_not (w_lt w_lit (w_len_list (w_arg rfl))));rw[z9c]at h5;refine Nat.le_of_not_lt λq=>?_
  have q':(n:Int)<((ns.length:Nat):Int):=by ext
  first
   |(rw[z8d q']at h5;exact absurd h5 (by decide))
   |(simp at h5;ext)
 cases hwl with
 | cons w1 w2=>
   cases w2;cases w1 with
   |list ho hall=>exact⟨_,_,ns,rfl,rfl,ho,DE ns _ hall,hlen⟩
def DG(l:OpenLaw)(args:List WData):l.row.toRowW.claim.post args (.bool true) args=true:=
 postW_of (r:=l.row.toRowW) (X:=(true==true))
  (show WShape.has [] (.bool true) .bool=true by first|rfl|decide|simp[WShape.has,WShape.arms,WShape.armsAll])
  (show(WTm.eq .res (.lit (.bool true))).value [] {args:=args,res:=some (.bool true),after:=args}=some (.bool (true==true))from w_eq_bool (w_res rfl) w_lit) rfl
def attach_call{l:OpenLaw}{YP:World->Heap->Prop}{d:DefRec}(hn:l.most=some n)(hdf:d.params.defaults=[])(call:∀(w:World) (s₀ y7:Shared) (mg mb:Str->v_) (fa:Addr) (o:Obj) (pm cd doc:Value) (a:Addr) (vs:k_) (ns:z9),
   Ground q loose [] XP w s₀ mg mb y7.heap->YP w y7.heap ->
   y7.heap.get? fa=some o->o.data=.func (docDef d.name d.params d.body d.scope pm cd doc)->y7.heap.CodeRec cd d.name->mg d.name=some (.ref fa) ->
   y7.heap.get? a=some {cls:=.type "list",data:=.seq vs.toArray}->IntsAre vs ns->ns.length<=n->y7.gens=#[] ->
   codeAny (model l.prog w) callerA (.call (.ref fa) ⟨[.ref a],[]⟩) (λr s'=>r=.ok (.ret (.bool true))/\OldK y7.heap s'.heap/\s'.os=y7.os/\AllBare s'.gens) y7):
  WalkO q loose XP YP l.row.toRowW d [] (λf vs=>PySem.call f vs):=by
 intro w s₀ y7 mg mb G Y fa o pm cd doc dV kV ho hd hcd hD hmg hg args vals as hpre hlay hrd hwl hlo;obtain rfl:dV=.none:=Dflts.none hD hdf;obtain rfl:kV=.none:=Dflts.noKw hD;obtain⟨a,vs,ns,rfl,rfl,hobj,hints,hlen⟩:=DF hn hpre hwl;refine enter_call (z5f (call w s₀ y7 mg mb fa o pm cd doc a vs ns G Y ho (fd_plain hd) hcd hmg hobj hints hlen hg) λr s' hq=>?_);obtain⟨rfl,h2,h3,h4⟩:=hq;exact⟨.inl ⟨.bool true,.bool true,[],rfl,λ_=>rfl,.bool true,DG l _,λ_=>⟨List.Pairwise.nil,λ_ hm=>(nomatch hm)⟩⟩,h2,h3,h4⟩
end Att
namespace L2
open PySem PySem.Spec PyProof.Rows
theorem uW:∀{vs:k_} {ns:z9},IntsAre vs ns->Vals (ns.map V.int) vs
 |_,_,.nil=>.nil
 |_,_,.cons n t h=>.cons ⟨t,rfl⟩ (uW h)
def pZ(H:Hp):Prop:=∀b,H b=none\/∃o xs,H b=some (.frz o (.lst xs))
def DH{mb:Str->v_}{k:Nat}{fa a:Addr}{y7:Shared}{vs:k_}{ns:z9}(KX:K.In y7.heap)(hns:y7.heap.Ns mainGlobals mg)(hb:y7.heap.Ns builtinsNs mb)(hbb:∀x:Str,x ≠ "__name__"->mb x=bootBuiltins x)(hlim:y7.heap.NoLimit)(hg:y7.gens=#[])(ha:y7.heap.get? a=some {cls:=.type "list",data:=.seq vs.toArray})(hi:IntsAre vs ns)(hl:ns.length<=sizeLine)(hr:Room k callerA)(F:∀base:Heap,K.In base->base.Ns mainGlobals mg->FnOk P w K mg base CX k fa fd [x] sp)(hbind:∀(s:Shared) (u:Value),BindsTo s fd ⟨[u],[]⟩ [(x,u)])(hsp:∀H:Hp,pZ H->SqL K H a (ns.map V.int)->sp [.ref a] H (λv _=>v=.bl true) λ_ _ _=>False)(hCX:∀H e s',CX [] H y7 (λ_ _ _=>False) e s'->False):
  codeAny (model P w) callerA (.call (.ref fa) ⟨[.ref a],[]⟩) (λr s'=>r=.ok (.ret (.bool true))/\OldK y7.heap s'.heap/\s'.os=y7.os/\AllBare s'.gens) y7:=by
 have rv:=uW hi;have lenV:=hi.length;have core : ∀H:Hp,pZ H->SqL K H a (ns.map V.int)->HOk P w H y7.heap->(∀b,H b≠none->b=a)->(H a≠none->K.lookup a=none) ->
   codeAny (model P w) callerA (.call (.ref fa) ⟨[.ref a],[]⟩) (λr s'=>r=.ok (.ret (.bool true))/\OldK y7.heap s'.heap/\s'.os=y7.os/\AllBare s'.gens) y7:=by
  intro H hO hS hok hA hK;have base_of:∀{b:Addr} {o:Obj},y7.heap.get? b=some o->H b=none->(fY y7.heap H).get? b=some o:=λe n=>C7 e n
  have noA:∀{b:Addr} {o:Obj} {es:Array DictEntry} {ep:Nat},y7.heap.get? b=some o->o.data=.dict es ep->H b=none:=λ{b o es ep} e d=>by
   cases q:H b with
   |none=>rfl
   |some u=>have e':b=a:=hA b (by rw[q];simp);subst e';rw[ha]at e;cases e;have d':Data.seq vs.toArray _=Data.dict es ep:=d;cases d'
  have nsK:∀{b:Addr} {m:Str->v_},y7.heap.Ns b m->(fY y7.heap H).Ns b m:=λ{b m} ⟨o,es,ep,e,d,r⟩=>⟨o,es,ep,base_of e (noA e d),d,r⟩
  have hKb:K.In (fY y7.heap H):=λb o e=>base_of (KX b o e) (by
   cases q:H b with
   |none=>rfl
   |some u=>have e':b=a:=hA b (by rw[q];simp);subst e';rw[hK (by rw[q];simp)]at e;cases e)
  have hM:Mod K mg (fY y7.heap H):=⟨hKb,nsK hns,⟨mb,nsK hb,hbb⟩,let⟨mc,h1,h2⟩:=hlim;⟨mc,nsK h1,h2⟩⟩;have e0:Env0 P w K mg (fY y7.heap H) callerA [] y7 H:=⟨rfl,hM,λb o e=>C8 e,Nat.le_of_eq (C6 _ _),trivial,λb hb=>absurd (show b∈([]:m_)from hb) (by simp),hok,.of_eq hg⟩;refine z5f ((F _ hKb (nsK hns)).run callerA [] y7 H ⟨[.ref a],[]⟩ [.ref a] [.ref a] _ _ hr e0 (hbind y7 (.ref a)) (.cons rfl .nil) (hsp H hO hS)) λr s' h=>?_
  cases r with
  |error e=>exact(hCX H e s' h).elim
  | ok fl=>
    cases fl with
    |next=>exact False.elim h
    |brk=>exact False.elim h
    |cont=>exact False.elim h
    | ret u=>
      obtain⟨v,H',os,bare,un,hok',r',q⟩:=h;have q':v=.bl true:=q;subst q';obtain rfl:u=Value.bool true:=r';refine⟨rfl,OldK.of_keep λb o e=>?_,os,bare⟩;cases q:H b with
      |none=>exact un.keep b o e q (by intro z;exact absurd (show b∈([]:m_)from z) (by simp)) (by simp)
      | some u=>
        rcases hO b with z|⟨ob,xs,z⟩
        ·rw[q]at z;cases z
        ·have z2:=un.frzs b ob _ z
         obtain⟨e1,_⟩:=hok b _ z;obtain⟨e2,_⟩:=hok' b _ z2;rw[e]at e1;cases e1;exact e2
 cases hk:K.lookup a with
 |some o=>have e:=KX a o hk;rw[ha]at e;cases e;refine core (λ_=>none) (λ_=>.inl rfl) (.inr ⟨_,vs.toArray,_,hk,rfl,rfl,rfl,by rw[z9q,lenV];exact hl,by simpa using rv⟩) (λb u z=>by have z':(none:Option HO)=some u:=z;cases z') (λb z=>absurd rfl z) λz=>absurd rfl z
 | none=>
   refine core (λb=>if b=a then some (.frz {cls:=.type "list",data:=.seq vs.toArray} (.lst (ns.map V.int)))else none) (λb=>?_) (.inl (.inr ⟨{cls:=.type "list",data:=.seq vs.toArray},if_pos rfl⟩)) (λb u z=>?_) (λb z=>?_) λ_=>hk
   ·by_cases hb:b=a
    ·exact .inr ⟨_,_,if_pos hb⟩
    ·exact .inl (if_neg hb)
   ·by_cases hb:b=a
    ·have z':=(if_pos hb).symm.trans z
     cases z';subst hb;exact⟨ha,by rw[z9c];exact hl,vs,_,rv,ha⟩
    ·have z':=(if_neg hb).symm.trans z
     cases z'
   ·by_cases hb:b=a
    ·exact hb
    ·exact absurd (if_neg hb) z
def walk_of{l:W.OpenLaw}{k:Nat}{YP:World->Heap->Prop}{d:DefRec}{K:Params->K0}{CX:World->CXT}{sp:World->Sp}(hn:l.most=some n)(hn2:n<=sizeLine)(hdf:d.params.defaults=[])(hr:Room k callerA)(hY:∀(w:World) (h:Heap),YP w h->(K w.params).In h)(F:∀(w:World) (mg:Str->v_) (fa:Addr) (h:Heap),(K w.params).In h->h.Ns mainGlobals mg->mg d.name=some (.ref fa) ->
   ∃fd:FuncData,(∀(s:Shared) (u:Value),BindsTo s fd ⟨[u],[]⟩ [(x,u)]) /\
     ∀base:Heap,(K w.params).In base->base.Ns mainGlobals mg->FnOk l.prog w (K w.params) mg base (CX w) k fa fd [x] (sp w))(hsp:∀(w:World) (H:Hp) (a:Addr) (ns:z9),ns.length<=n->pZ H->SqL (K w.params) H a (ns.map V.int)->sp w [.ref a] H (λv _=>v=.bl true) λ_ _ _=>False)(hCX:∀(w:World) (H:Hp) (s:Shared) (e:Value) (s':Shared),CX w [] H s (λ_ _ _=>False) e s'->False):
  W.WalkO q loose XP YP l.row.toRowW d [] (λf vs=>PySem.call f vs):=by
 refine Att.attach_call hn hdf λw s₀ y7 mg mb fa o pm cd doc a vs ns G Y ho hd hcd hmg hobj hints hlen hg=>?_
 have KX:=hY w _ Y;obtain⟨fd,hb,hF⟩:=F w mg fa _ KX G.T.g hmg;exact DH KX G.T.g G.T.b G.T.builtins G.T.nolimit hg hobj hints (z7o hlen hn2) hr hF hb (λH hO hS=>hsp w H a ns hlen hO hS) λH e s'=>hCX w H y7 e s'
noncomputable def ck(s:Stmt)(j:Nat):Stmt:=match s with
 |.ClassDef _ _ _ body _ _ _ _ _ _ _=>body.getD j (.Pass ⟨0,0,0,0⟩)
 |_=>.Pass ⟨0,0,0,0⟩
noncomputable def gL(s:Stmt):Arguments:=match s with
 |.FunctionDef _ a _ _ _ _ _ _ _ _=>a
 |_=>{posonlyargs:=[],args:=[],vararg:=none,kwonlyargs:=[],kw_defaults:=[],kwarg:=none,defaults:=[]}
noncomputable def cO(s:Stmt):o_:=match s with
 |.FunctionDef _ _ b _ _ _ _ _ _ _=>b
 |_=>[]
noncomputable def ao(s:Stmt):Scope:=match s with
 |.FunctionDef _ _ _ _ _ _ sc _ _ _=>sc
 |_=>{kind:=.function,names:=[],isGenerator:=false,isCoroutine:=false}
abbrev CX0:CXT:=λ_ _ _ _ _ _=>False
abbrev E0:XK:=λ_ _ _=>False
def eg:fA CX0 X E0:=λ_ _ _ _ _ _ _ h=>h.elim
structure Fun (K:K0) (x qual:Str) (st:Stmt) (f:Addr) (fd:FuncData):Prop where
 ex:∃(oc:Value) (od:Option Addr) (kV doc pm:Value) (an:Option Addr) (cdv ct:Value) (osl:Array v_),
  fd=W.fnOf x qual (gL st) (cO st) (ao st) .none kV doc pm an cdv ct/\K.lookup f=some ⟨oc,od,.func fd,osl⟩/\W.codeIn K cdv qual=true
 kp:W.keepIn K (.ref f)=true
theorem Fun.ok{k:Nat}(F:Fun K x qual st f fd)(S:FnScope N ps (ao st))(len:∀vs H Q E,sp vs H Q E->vs.length=ps.length)(hbody:∀(cdv:Value) (A:Around) (outer:List Env) (s:Shared) (H:Hp) (vs:C_) (Q:VK) (E:XK),Room k (A.deeper (envOfC qual (ao st) s.heap.objs.size f cdv))->sp vs H Q E ->
   ∃t,PSs (cG CX0 P w K mg base N qual (ao st) f cdv A outer s H E).nox (cO st) t/\t {nx:=λ_ H'=>Q .non H',rt:=Q} (start N vs) H):FnOk P w K mg base CX0 (k+1) f fd ps sp:=by
 obtain⟨oc,od,kV,doc,pm,an,cdv,ct,osl,rfl,lk,hcd⟩:=F.ex;refine uL lk hcd S len λA outer s H vs Q E hr hsp=>?_
 obtain⟨t,h,q⟩:=hbody cdv A outer s H vs Q E hr hsp;exact⟨t,h.nox,q⟩
theorem Fun.binds(F:Fun K x qual st f fd)(h:∀(kV doc pm:Value) (an:Option Addr) (cdv ct:Value) (us:k_),us.length=ps.length->bindArgs (W.fnOf x qual (gL st) (cO st) (ao st) .none kV doc pm an cdv ct) ⟨us,[]⟩=pure (ps.zip us)):Binds K fd ps []:=by obtain⟨oc,od,kV,doc,pm,an,cdv,ct,osl,rfl,lk,hcd⟩:=F.ex;exact .all (h kV doc pm an cdv ct)
def q9{kV:Value}(l:K.lookup f=some ⟨oc,od,.func (W.fnOf x qual (gL st) (cO st) (ao st) .none kV doc pm an cdv ct),osl⟩)(c:W.codeIn K cdv qual=true)(k:W.keepIn K (.ref f)=true):Fun K x qual st f (W.fnOf x qual (gL st) (cO st) (ao st) .none kV doc pm an cdv ct):=⟨⟨oc,od,kV,doc,pm,an,cdv,ct,osl,rfl,l,c⟩,k⟩
def DJ(h:n<=1000):n<sizeLine:=Nat.lt_of_le_of_lt h (by decide)
def dW{A B:Prop}(h:B):if false=true then A else B:=by rw[if_neg z8g];exact h
def dX{A B:Prop}(h:A):if true=true then A else B:=by rw[if_pos rfl];exact h
def Same(H H':Hp):Prop:=∀b o,H b=some o->H' b=some o
def Same.refl(H:Hp):Same H H:=λ_ _ h=>h
def Same.trans(a:Same H H1)(b:Same H1 H2):Same H H2:=λc o h=>b c o (a c o h)
def Same.free(e:Same H H')(h:H' l=Option.none):H l=Option.none:=by
 cases q:H l with
 |none=>rfl
 |some o=>rw[e l o q]at h;cases h
def Same.seq{a:Addr}(e:Same H H')(h:SqL K H a xs):SqL K H' a xs:=by
 rcases h with(h|⟨o,h⟩)|h
 ·exact .inl (.inl (e _ _ h))
 ·exact .inl (.inr ⟨o,e _ _ h⟩)
 ·exact .inr h
section
variable {κ:Type}[DecidableEq κ]
noncomputable def bQ(kvs:List (κ×V))(k:κ):D_:=(kvs.find? λkv=>decide (kv.1=k)).map (·.2)
noncomputable def cJ(kvs:List (κ×V))(k:κ)(v:V):List (κ×V):=
 if(kvs.any λkv=>decide (kv.1=k))=true then kvs.map (λkv=>if kv.1=k then(kv.1,v)else kv)else kvs++[(k,v)]
def DK{k:κ}:bQ ([]:List (κ×V)) k=none:=rfl
def mj{p:κ×V}{r:List (κ×V)}{k:κ}(e:p.1=k):bQ (p::r) k=some p.2:=by simp[bQ,z5c,e]
def mm{p:κ×V}{r:List (κ×V)}{k:κ}(e:¬p.1=k):bQ (p::r) k=bQ r k:=by simp[bQ,z5c,e]
theorem mn(k:κ):∀kvs:List (κ×V),(kvs.any λkv=>decide (kv.1=k))=(bQ kvs k).isSome
 |[]=>rfl
 | p::r=>by
   rw[z6k];by_cases e:p.1=k
   ·simp only[mj e,z8d e,Bool.true_or,Option.isSome_some]
   ·rw[mm e,z8h e,Bool.false_or];exact mn k r
def qa(kvs:List (κ×V))(k:κ)(v:V):(cJ kvs k v).length<=kvs.length+1:=by
 unfold cJ;split
 ·rw[z9c];ext
 ·rw[z9f,z9b,z9i];ext
def uX{kvs:List (κ×V)}{k:κ}(v:V)(h:bQ kvs k=none):cJ kvs k v=kvs++[(k,v)]:=by unfold cJ;rw[mn,h];exact if_neg (by decide)
def RelO.isSome_eq{o:D_}{u:v_}(r:RelO o u):o.isSome=u.isSome:=by
 cases o with
 | none=>cases u with
   |none=>rfl
   |some _=>exact(show False from r).elim
 | some _=>cases u with
   |none=>exact(show False from r).elim
   |some _=>rfl
def KV.val{kvs:List (κ×V)}{vs:List (κ×Value)}(r:KV kvs vs)(k:κ):RelO (bQ kvs k) (valueAt vs k):=by
 unfold KV at r
 induction r with
 |nil=>exact True.intro
 | @cons p q ps qs h t ih=>
   obtain⟨h1,h2⟩:=h;by_cases e:p.1=k
   ·have e':q.1=k:=h1.symm.trans e
    have b:valueAt (q::qs) k=some q.2:=by simp[valueAt,z5c,e']
    rw[mj e,b];exact h2
   ·have e':¬q.1=k:=λz=>e (h1.trans z)
    have b:valueAt (q::qs) k=valueAt qs k:=by simp[valueAt,z5c,e']
    rw[mm e,b];exact ih
def KV.any{kvs:List (κ×V)}{vs:List (κ×Value)}(r:KV kvs vs)(k:κ):(kvs.any λkv=>decide (kv.1=k))=vs.any λkv=>decide (kv.1=k):=by
 unfold KV at r
 induction r with
 |nil=>rfl
 |cons h t ih=>rw[z6k,z6k,ih,h.1]
def KV.repl{kvs:List (κ×V)}{vs:List (κ×Value)}(r:KV kvs vs)(k:κ)(ry:RelV y u):
  KV (kvs.map λkv=>if kv.1=k then(kv.1,y)else kv) (vs.map λkv=>if kv.1=k then(kv.1,u)else kv):=by
 unfold KV at r ⊢
 induction r with
 |nil=>exact .nil
 | @cons p q ps qs h t ih=>
   rw[z9p,z9p];refine .cons ?_ ih;obtain⟨h1,h2⟩:=h;by_cases e:p.1=k
   ·rw[if_pos e,if_pos (h1.symm.trans e)];exact⟨h1,ry⟩
   ·rw[if_neg e,if_neg (λz=>e (h1.trans z))];exact⟨h1,h2⟩
def KV.put{kvs:List (κ×V)}{vs:List (κ×Value)}(r:KV kvs vs)(k:κ)(ry:RelV y u):KV (cJ kvs k y) (stored vs k u):=by
 unfold cJ stored;rw[r.any k];by_cases e:(vs.any λkv=>decide (kv.1=k))=true
 ·rw[if_pos e,if_pos e];exact r.repl k ry
 ·rw[if_neg e,if_neg e];exact Paired.snoc r ⟨rfl,ry⟩
def KV.length{kvs:List (κ×V)}{vs:List (κ×Value)}(r:KV kvs vs):kvs.length=vs.length:=z3g r
end
def jh{k:Key}(r:RelV (kV k) u):(dc P w).is k u=true:=by
 cases k with
 |inl i=>obtain⟨t,e⟩:=(show ∃t,u=Value.int i t from r);subst e;exact C3 P w i t
 |inr x=>obtain⟨t,e⟩:=(show ∃t,u=Value.str x t from r);subst e;exact C4 P w x t
theorem uY{P:Program}{w:World}:∀{ks:List Key} {us:k_},Vals (ks.map kV) us->ItemsAre (dc P w) ks us
 |[],_,r=>by rw[z6o]at r;cases r;exact .nil
 | k::ks,_,r=>by
   rw[z9p]at r;cases r with
   |cons h t=>exact .cons (jh h) (uY t)
abbrev KT(H:Hp):List (List Key×V)->List (List Key×Addr×Value)->Prop:=Paired λp q=>p.1=q.1/\H q.2.1=some (.tup (p.1.map kV))/\RelV p.2 q.2.2
def KT.val{xs:List (List Key×Addr×Value)}(r:KT H kvs xs)(k:List Key):RelO (bQ kvs k) ((atKey xs k).map (·.2)):=by
 induction r with
 |nil=>exact True.intro
 | @cons p q ps qs h t ih=>
   obtain⟨h1,_,h2⟩:=h;by_cases e:p.1=k
   ·have e':q.1=k:=h1.symm.trans e
    have b:atKey (q::qs) k=some q.2:=by simp[atKey,z5c,e']
    rw[mj e,b];exact h2
   ·have e':¬q.1=k:=λz=>e (h1.trans z)
    have b:atKey (q::qs) k=atKey qs k:=by simp[atKey,z5c,e']
    rw[mm e,b];exact ih
def KT.repl{xs:List (List Key×Addr×Value)}(r:KT H kvs xs)(k:List Key)(ry:RelV y u):
  KT H (kvs.map λkv=>if kv.1=k then(kv.1,y)else kv) (xs.map (putAt k u)):=by
 induction r with
 |nil=>exact .nil
 | @cons p q ps qs h t ih=>
   rw[z9p,z9p];refine .cons ?_ ih;obtain⟨h1,h2,h3⟩:=h;unfold putAt;by_cases e:p.1=k
   ·rw[if_pos e,if_pos (h1.symm.trans e)];exact⟨h1,h2,ry⟩
   ·rw[if_neg e,if_neg (λz=>e (h1.trans z))];exact⟨h1,h2,h3⟩
def KT.put{xs:List (List Key×Addr×Value)}(r:KT H kvs xs)(k:List Key){b:Addr}(hb:H b=some (.tup (k.map kV)))(ry:RelV y u):
  KT H (cJ kvs k y) (storedH xs k b u):=by
 have e:(kvs.any λkv=>decide (kv.1=k))=(atKey xs k).isSome:=by rw[mn,(r.val k).isSome_eq,z3i]
 unfold cJ storedH;rw[e];by_cases q:(atKey xs k).isSome=true
 ·rw[if_pos q,if_pos q];exact r.repl k ry
 ·rw[if_neg q,if_neg q];exact Paired.snoc r ⟨rfl,hb,ry⟩
def KT.keeps{xs:List (List Key×Addr×Value)}(r:KT H kvs xs)(ht:∀b ys,H b=some (.tup ys)->H' b=some (.tup ys)):KT H' kvs xs:=
 Paired.mapP r λ_ _ z=>⟨z.1,ht _ _ z.2.1,z.2.2⟩
section
variable {a:Addr}
def uZ{u:HO}(ok:HOk P w H h)(e:Rd H a u):ObjOk P w H h a u:=e.ok ok
def ji{kvs:List (Key×V)}(ok:HOk P w H h)(e:Rd H a (.dK kvs)):kvs.length<=sizeLine/\(a==sysModules)=false/\∃vs,KV kvs vs/\h.DictOf (dc P w) a vs:=
 show ObjOk P w H h a (.dK kvs)from uZ ok e
def v4{kvs:List (Key×V)}(ok:HOk P w H h)(e:H a=some (.dK kvs)):kvs.length<=sizeLine/\(a==sysModules)=false/\∃vs,KV kvs vs/\h.DictOf (dc P w) a vs:=ji ok (.inl e)
def kA{ks:List Key}(ok:HOk P w H h)(e:H a=some (.tup (ks.map kV))):(tupleKind (dc P w)).is h ks a:=by obtain⟨_,its,r,o,h1,h2,n,h3⟩:=(show ObjOk P w H h a (.tup (ks.map kV))from ok a _ e);exact⟨o,its.toArray,n,h1,h2,h3,by simpa using uY r⟩
def kB(ok:HOk P w H h)(e:Rd H a (.dT kvs)):kvs.length<=sizeLine/\(a==sysModules)=false /\
  ∃xs,KT H kvs xs/\h.DictOfH (tupleKind (dc P w)) a xs:=by
 obtain⟨z,y,xs,r,o,es,ep,h1,h2,h3,h4,h5⟩:=(show ObjOk P w H h a (.dT kvs)from uZ ok e);refine⟨z,y,xs,r,o,es,ep,h1,h2,h3,h4,λx hx=>?_,h5⟩;have all:∀{l:List (List Key×V)} {m:List (List Key×Addr×Value)},KT H l m->∀x∈m,(tupleKind (dc P w)).is h x.1 x.2.1:=by
  intro l m q
  induction q with
  |nil=>intro x hx;exact nomatch hx
  | @cons p q ps qs hq t ih=>
    intro x hx;rcases z9k.mp hx with e|hx
    ·subst e
     exact kA ok (by rw[<- hq.1];exact hq.2.1)
    ·exact ih x hx
 exact all r x hx
def DL(ok:HOk P w H h)(e:H a=some (.dT kvs)):kvs.length<=sizeLine/\(a==sysModules)=false /\
  ∃xs,KT H kvs xs/\h.DictOfH (tupleKind (dc P w)) a xs:=kB ok (.inl e)
end
def DGet(H:Hp)(a:Addr)(y:V)(r:D_):Prop:=
 (∃kvs k,Rd H a (.dK kvs)/\y=kV k/\r=bQ kvs k)\/∃kvs k b,Rd H a (.dT kvs)/\y=.ref b/\H b=some (.tup (k.map kV))/\r=bQ kvs k
def v5(H:Hp)(a:Addr)(y v:V)(H':Hp):Prop:=
 (∃kvs k,H a=some (.dK kvs)/\y=kV k/\kvs.length<sizeLine/\H'=upd H a (.dK (cJ kvs k v))) \/
 ∃kvs k b,H a=some (.dT kvs)/\y=.ref b/\H b=some (.tup (k.map kV))/\kvs.length<sizeLine/\H'=upd H a (.dT (cJ kvs k v))
def DGet.k{a:Addr}{kvs:List (Key×V)}{k:Key}(e:H a=some (.dK kvs)):DGet H a (kV k) (bQ kvs k):=.inl ⟨kvs,k,.inl e,rfl,rfl⟩
section
variable {a:Addr}{r:Value}{o:D_}
def Inv.big(I:Inv X G_ σ H s):sysModules<s.heap.objs.size:=by have h:mainGlobals<s.heap.objs.size:=(I.mod.glob.keeps I.bk).lt;exact Nat.lt_trans (by decide) h
def DM{Q:Value->Shared->Prop}(hu:A.units+1<cLine)(I:Inv X G_ σ H s)(g:DGet H a y (some v))(ry:RelV y u)(h:∀w' s',Inv X G_ σ H s'->RelV v w'->Q w' s'):
  wpAny (model X.prog X.w) A (getItem (.ref a) u) Q E s:=by
 rcases g with⟨kvs,k,e,ey,l⟩|⟨kvs,k,b,e,ey,eb,l⟩
 ·subst ey
  obtain⟨z,hd,vs,rel,dd⟩:=ji I.hok e;obtain⟨w',hw,rw'⟩:=RelO.some_of (v:=v) (o:=valueAt vs k) (by rw[l];exact rel.val k);exact wpAny_getItem_of (jh ry) dd.mapOf hw (h w' _ (I.tok _) rw')
 ·subst ey
  cases(show u=Value.ref b from ry);obtain⟨z,hd,xs,rel,dd⟩:=kB I.hok e;obtain⟨w',hw,rw'⟩:=RelO.some_of (v:=v) (o:=(atKey xs k).map (·.2)) (by rw[l];exact rel.val k);obtain⟨p,hp,hp2⟩:=Option.map_eq_some_iff.mp hw;refine wpAny_getItem_heap (z5w hu) (kA I.hok eb) dd hp ?_;rw[hp2];exact h w' _ (I.tok _) rw'
def DN{Q:Value->Shared->Prop}(hu:A.units+1<cLine)(I:Inv X G_ σ H s)(g:DGet H a y o)(ry:RelV y u)(h:∀s',Inv X G_ σ H s'->Q (.bool o.isSome) s'):
  wpAny (model X.prog X.w) A (compareOp .In u (.ref a)) Q E s:=by
 rcases g with⟨kvs,k,e,ey,l⟩|⟨kvs,k,b,e,ey,eb,l⟩
 ·subst ey
  obtain⟨z,hd,vs,rel,dd⟩:=ji I.hok e;refine wpAny_in_of (jh ry) hd dd.mapOf ?_;rw[<- (rel.val k).isSome_eq,<- l];exact h _ (I.tok _)
 ·subst ey
  cases(show u=Value.ref b from ry);obtain⟨z,hd,xs,rel,dd⟩:=kB I.hok e;refine wpAny_in_heap (z5w hu) (kA I.hok eb) hd dd ?_;have q:=(rel.val k).isSome_eq;rw[z3i]at q;rw[<- q,<- l];exact h _ (I.tok _)
def DO{Q:Value->Shared->Prop}(hu:A.units+1<cLine)(I:Inv X G_ σ H s)(g:DGet H a y o)(ry:RelV y u)(h:∀s',Inv X G_ σ H s'->Q (.bool (!o.isSome)) s'):
  wpAny (model X.prog X.w) A (compareOp .NotIn u (.ref a)) Q E s:=by
 rcases g with⟨kvs,k,e,ey,l⟩|⟨kvs,k,b,e,ey,eb,l⟩
 ·subst ey
  obtain⟨z,hd,vs,rel,dd⟩:=ji I.hok e;refine wpAny_notIn_of (jh ry) hd dd.mapOf ?_;rw[<- (rel.val k).isSome_eq,<- l];exact h _ (I.tok _)
 ·subst ey
  cases(show u=Value.ref b from ry);obtain⟨z,hd,xs,rel,dd⟩:=kB I.hok e;refine wpAny_notIn_heap (z5w hu) (kA I.hok eb) hd dd ?_;have q:=(rel.val k).isSome_eq;rw[z3i]at q;rw[<- q,<- l];exact h _ (I.tok _)
def qb{ob:HO}(I:Inv X G_ σ H s)(mu:Mut (H a))(hs:Heap.SameBut a s.heap h')(he:∃q,h'.get? a=some q)(new:ObjOk X.prog X.w (upd H a ob) h' a ob):
  Inv X G_ σ (upd H a ob) {s with heap:=h',toks:=t'}:=
 I.write (x:=a) (e:=a) mu (.inl rfl) (λb q hb z=>(hs.2 b hb).trans z) he new
def v6{kvs:List (Key×V)}{vs:List (Key×Value)}(z:kvs.length<=sizeLine)(hd:(a==sysModules)=false)(rel:KV kvs vs)(dd:h'.DictOf (dc P w) a vs):
  ObjOk P w H' h' a (.dK kvs):=⟨z,hd,vs,rel,dd⟩
def DP{Q:Unit->Shared->Prop}(hu:A.units+1<cLine)(I:Inv X G_ σ H s)(g:v5 H a y v H')(ry:RelV y u)(rv:RelV v r)(h:∀s',Inv X G_ σ H' s'->Q () s'):
  wpAny (model X.prog X.w) A (setItem (.ref a) u r) Q E s:=by
 rcases g with⟨kvs,k,e,ey,l,eH⟩|⟨kvs,k,b,e,ey,eb,l,eH⟩
 ·subst ey eH
  obtain⟨z,hd,vs,rel,dd⟩:=v4 I.hok e;have hz:vs.length<=sizeLine:=by rw[<- rel.length];exact z
  have hl:(cJ kvs k v).length<=sizeLine:=by have:=qa kvs k v;ext
  refine wpAny_setItem_pairs (hsz:=hz) (jh ry) dd λh' dd' hs=>h _ ?_
  have he:∃q,h'.get? a=some q:=let⟨q,_,_,hq,_⟩:=dd';⟨q,hq⟩;exact qb I (by rw[e];exact True.intro) hs he (v6 hl hd (rel.put k rv) dd')
 ·subst ey eH
  cases(show u=Value.ref b from ry);obtain⟨z,hd,xs,rel,dd⟩:=DL I.hok e;have hz:xs.length<=sizeLine:=by rw[<- z3g rel];exact z
  have hl:(cJ kvs k v).length<=sizeLine:=by have:=qa kvs k v;ext
  refine wpAny_setItem_heap (hsz:=hz) (z5w hu) (kA I.hok eb) dd λh' dd' hs=>h _ ?_
  obtain⟨q,es,ep,hq,h2,h3,h4,_,h5⟩:=dd';refine qb I (by rw[e];exact True.intro) hs ⟨q,hq⟩ ⟨hl,hd,_,(rel.put k eb rv).keeps λc ys ec=>?_,q,es,ep,hq,h2,h3,h4,h5⟩;rw[aH (C5 ec e (λz=>nomatch z))];exact ec
end
def mo(i:Expr):Prop:=∀ov iv,subscripted i false ov iv=operate [ov,iv] (getItem ov iv)
def DQ{slice:Expr}{T id:String}{Q:Value->Shared->Prop}(hl:typeLookup (.type T) "__getitem__"=pure (some (.builtin id)))(hs:mo slice)(h:wpAny (model prog w) A (eval value env) (λo y7=>wpAny (model prog w) A (eval slice env) (λi y9=>y9.TypeIs o T/\wpAny (model prog w) A (getItem o i) Q E y9) E y7) E s):
  wpAny (model prog w) A (eval (.Subscript value slice pos) env) Q E s:=by
 refine Subscript_ (z8n h (λo y7 w_=>z8n w_ (λi y9 x0=>?_) λ_ _ x=>x) λ_ _ x=>x);obtain⟨hT,x0⟩:=x0;unfold subscriptTail;refine z9j ?_;rw[getitemInPython_of_ne hT.not_modules];refine z9j (wpAny_specialOf hT hl ?_);have fin:wpAny (model prog w) A (subscripted slice false o i) (λr z_=>wpAny (model prog w) A (letTemporaryGo value o r >>= λ_=>pure r) Q E z_) E y9:=by rw[hs o i];exact wpAny_operating (z8n x0 (λr z_ x3=>z9j (wpAny_letTemporaryGo (z9z x3))) λ_ _ x=>x)
 first
  |exact z9z (z9j fin)
  |exact z9j (z9z (z9j fin))
  |exact z9j fin
def DR{a:Addr}{o:D_}(I:Inv X G_ σ H s)(g:DGet H a y o):s.TypeIs (.ref a) "dict":=by
 rcases g with⟨kvs,k,e,_,_⟩|⟨kvs,k,b,e,_,_,_⟩
 ·obtain⟨_,_,vs,_,dd⟩:=ji I.hok e
  exact dd.typeIs
 ·obtain⟨_,_,xs,_,dd⟩:=kB I.hok e
  exact dd.typeIs
def DS(td ty:TE):TE:=λσ H Q=>td σ H λx H1=>ty σ H1 λy H2=>∃a v,x=.ref a/\DGet H2 a y (some v)/\Q v H2
def v7(ty td:TE):TE:=λσ H Q=>ty σ H λy H1=>td σ H1 λx H2=>∃a o,x=.ref a/\DGet H2 a y o/\Q (.bl o.isSome) H2
def v8(ty td:TE):TE:=λσ H Q=>ty σ H λy H1=>td σ H1 λx H2=>∃a o,x=.ref a/\DGet H2 a y o/\Q (.bl (!o.isSome)) H2
def DT(td ty tv:TE):TS:=λD σ H=>tv σ H λv H1=>td σ H1 λx H2=>ty σ H2 λy H3=>∃a H4,x=.ref a/\v5 H3 a y v H4/\D.nx σ H4
section
variable {o i:Expr}{td ty tv:TE}
def v9(hu:X.A.units+1<cLine)(ho:PE X o td)(hi:PE X i ty)(hs:mo i):PE X (.Subscript o i pos) (DS td ty):=by intro G_ s σ H Q I h;refine DQ PySem.F.slot_dict_getitem.lookup hs (aZ (ho G_ s σ H _ I h) λu s1 x H1 I1 rx q1=>aZ (hi G_ s1 σ H1 _ I1 q1) λiv s2 y H2 I2 ry y4=>?_);obtain⟨a,v,ex,g,q2⟩:=y4;subst ex;obtain rfl:u=Value.ref a:=rx;exact⟨DR I2 g,DM hu I2 g ry λw' s3 I3 rw'=>⟨v,H2,I3,rw',q2⟩⟩
def DU(hu:X.A.units+1<cLine)(hi:PE X i ty)(ho:PE X o td):PC X .In i o (v7 ty td):=by
 intro G_ s σ H Q I h;refine aZ (hi G_ s σ H _ I h) λiv s1 y H1 I1 ry q1=>aZ (ho G_ s1 σ H1 _ I1 q1) λu s2 x H2 I2 rx y4=>?_
 obtain⟨a,ov,ex,g,q2⟩:=y4;subst ex;obtain rfl:u=Value.ref a:=rx;exact DN hu I2 g ry λs3 I3=>⟨.bl ov.isSome,H2,I3,rfl,q2⟩
def DV(hu:X.A.units+1<cLine)(hi:PE X i ty)(ho:PE X o td):PC X .NotIn i o (v8 ty td):=by
 intro G_ s σ H Q I h;refine aZ (hi G_ s σ H _ I h) λiv s1 y H1 I1 ry q1=>aZ (ho G_ s1 σ H1 _ I1 q1) λu s2 x H2 I2 rx y4=>?_
 obtain⟨a,ov,ex,g,q2⟩:=y4;subst ex;obtain rfl:u=Value.ref a:=rx;exact DO hu I2 g ry λs3 I3=>⟨.bl (!ov.isSome),H2,I3,rfl,q2⟩
def va(hu:X.A.units+1<cLine)(ho:PE X o td)(hi:PE X i ty)(hv:PE X value tv)(hs:swapsWith value (some (.Subscript o i pos')) pos.line X.env=pure false):
  PS X (.Assign [.Subscript o i pos'] value pos) (DT td ty tv):=by
 intro G_ s σ H D I h;refine wpAny_Assign_Subscript (aZ (hv G_ s σ H _ I h) λr s1 v H1 I1 rv q1=>aZ (ho G_ s1 σ H1 _ I1 q1) λu s2 x H2 I2 rx q2=>aZ (hi G_ s2 σ H2 _ I2 q2) λiv s3 y H3 I3 ry y4=>?_) hs;obtain⟨a,H4,ex,g,q3⟩:=y4;subst ex;obtain rfl:u=Value.ref a:=rx;exact DP hu I3 g ry rv λs4 I4=>⟨σ,H4,I4,q3⟩
end
def vb(h:Heap)(hb:sysModules<h.objs.size):ObjOk P w H (h.push {cls:=.type "dict",data:=.dict #[]}) h.objs.size (.dK []):=
 ⟨z7h _,z8t.mpr (Ne.symm (z8o hb)),[],.nil,Heap.DictOf.new h⟩
def DW:TE:=λ_ H Q=>∀p,H p=none->Q (.ref p) (upd H p (.dK []))
def DX:PE X (.Dict [] [] pos) DW:=λG_ s σ H Q I h=>wpAny_Dict_empty ⟨.ref s.heap.objs.size,_,I.laid (a:=s.heap.objs.size) (o:=.dK []) (t':=s.toks) (λ_ _ q=>z9m _ q) (z9l _) (vb s.heap I.big),rfl,h _ (I.hok.fresh (z9l _))⟩
def mq:List (TE×TE)->St->Hp->(List (V×V)->Hp->Prop)->Prop
 |[],_,H,Q=>Q [] H
 |(tk,tv)::r,σ,H,Q=>tk σ H λx H1=>tv σ H1 λy H2=>mq r σ H2 λps H3=>Q ((x,y)::ps) H3
abbrev VV:List (V×V)->List (Value×Value)->Prop:=Paired λp q=>RelV p.1 q.1/\RelV p.2 q.2
def PPs(X:Cx)(pos:Pos)(keys:List (Option Expr))(values:l_)(trs:List (TE×TE)):Prop:=
 ∀(G_:u_) (s:Shared) (σ:St) (H:Hp) (Q:List (V×V)->Hp->Prop),Inv X G_ σ H s->mq trs σ H Q ->
   wpAny (model X.prog X.w) X.A (evalPairs (pairTrees keys values X.env pos)) (λvs s'=>∃ps H',Inv X G_ σ H' s'/\VV ps vs/\Q ps H') X.xe s
def DY:PPs X pos [] [] []:=λG_ s σ H Q I h=>pairTrees_nil_walk ⟨[],H,I,.nil,h⟩
def DZ{k v:Expr}{ks:List (Option Expr)}{vs:l_}{tk tv:TE}(hk:PE X k tk)(hv:PE X v tv)(hr:PPs X pos ks vs trs):
  PPs X pos (some k::ks) (v::vs) ((tk,tv)::trs):=λG_ s σ H Q I h=>
 pairTrees_cons_walk (aZ (hk G_ s σ H _ I h) λu s1 x H1 I1 rx q1=>aZ (hv G_ s1 σ H1 _ I1 q1) λw2 s2 y H2 I2 ry q2=>thn (hr G_ s2 σ H2 _ I2 q2) λws s3 y4=>by obtain⟨ps,H3,I3,rel,q3⟩:=y4;exact⟨(x,y)::ps,H3,I3,.cons ⟨rx,ry⟩ rel,q3⟩)
def gd(kvs more:List (Key×V)):List (Key×V):=more.foldl (λacc kv=>cJ acc kv.1 kv.2) kvs
def KV.merge:∀{more:List (Key×V)} {rs:List (Key×Value)} {kvs:List (Key×V)} {vs:List (Key×Value)},KV more rs->KV kvs vs->KV (gd kvs more) (merged vs rs):=by
 intro more rs kvs vs r;unfold KV at r
 induction r generalizing kvs vs with
 |nil=>intro q;exact q
 | @cons p q ps qs h t ih=>
   intro r0;have e:KV (cJ kvs p.1 p.2) (stored vs q.1 q.2):=by have:=r0.put p.1 h.2;rw[<- h.1];exact this
   exact ih e
theorem vc:∀(more kvs:List (Key×V)),(gd kvs more).length<=kvs.length+more.length
 |[],kvs=>by show kvs.length<=kvs.length+0;ext
 |p::r,kvs=>by have h1:=vc r (cJ kvs p.1 p.2);have h2:=qa kvs p.1 p.2;show(gd (cJ kvs p.1 p.2) r).length<=_;rw[z9b];ext
theorem vd{P:Program}{w:World}:∀{kvs:List (Key×V)} {ws:List (Value×Value)},VV (kvs.map λkv=>(kV kv.1,kv.2)) ws->∃rs,Carries (dc P w) ws rs/\KV kvs rs
 |[],_,r=>by rw[z6o]at r;cases r;exact⟨[],True.intro,.nil⟩
 | p::kvs,_,r=>by
   rw[z9p]at r;cases r with
   |@cons a b as bs h t=>obtain⟨rs,c,q⟩:=vd (P:=P) (w:=w) t;obtain⟨b1,b2⟩:=b;exact⟨(p.1,b2)::rs,⟨jh h.1,rfl,c⟩,.cons ⟨rfl,h.2⟩ q⟩
def E2(trs:List (TE×TE)):TE:=λσ H Q=>∀p,H p=none->mq trs σ (upd H p (.dK [])) λps H2=>H2 p=some (.dK [])/\∃kvs:List (Key×V),ps=kvs.map (λkv=>(kV kv.1,kv.2))/\kvs.length<=15/\Q (.ref p) (upd H2 p (.dK (gd [] kvs)))
def E3{values:l_}(h:PPs X pos keys values trs)(hall:keys.all (·.isSome)=true)(hl:keys.length=values.length)(h0:keys≠[])(h15:keys.length<=15):PE X (.Dict keys values pos) (E2 trs):=by
 intro G_ s σ H Q I q;have hn:=I.hok.fresh (z9l s.heap.objs.size);have I1:=I.laid (a:=s.heap.objs.size) (o:=.dK []) (h':=s.heap.push {cls:=.type "dict",data:=.dict #[]}) (t':=s.toks) (λ_ _ q=>z9m _ q) (z9l _) (vb s.heap I.big);refine wpAny_Dict_walk (knd:=dc X.prog X.w) hall hl h0 h15 (thn (h G_ _ σ _ _ I1 (q _ hn)) λws s2 y4=>?_);obtain⟨ps,H2,I2,rel,e,kvs,ep,lk,q2⟩:=y4;subst ep;obtain⟨rs,c,rk⟩:=vd (P:=X.prog) (w:=X.w) rel;obtain⟨z,hd,vs0,r0,dd⟩:=v4 I2.hok e;cases r0;refine⟨rs,c,dd,λh' dd' hs=>⟨.ref s.heap.objs.size,_,?_,rfl,q2⟩⟩;have hz:(gd [] kvs).length<=sizeLine:=by have h1:=vc kvs [];rw[z9i]at h1;rw[z7q];ext
 have he:∃q,h'.get? s.heap.objs.size=some q:=let⟨q,_,_,hq,_⟩:=dd';⟨q,hq⟩;exact qb I2 (by rw[e];exact True.intro) hs he (v6 hz hd (rk.merge .nil) dd')
structure M1 (X:Cx) (o:Expr) (m:Str) (apos:Pos) (e:Expr) (cpos:Pos):Prop where
 base:attributeBase o m X.env (eval o X.env)=eval o X.env
 few:((backTo cpos (starEach [e] X.env)).all (λx=>!x.1)&&(backToKw cpos (keywordEach [] X.env)).all (λx=>x.1.isSome)
  && decide (([e]:l_).length+([]:n_).length+(if([]:n_).isEmpty then 0 else 1)<30))=true
 line:(apos.endLine==cpos.line)=true
 trees:backTo cpos (starEach [e] X.env)=[(false,eval e X.env)]
structure M2 (X:Cx) (o:Expr) (m:Str) (apos:Pos) (e f:Expr) (cpos:Pos):Prop where
 base:attributeBase o m X.env (eval o X.env)=eval o X.env
 few:((backTo cpos (starEach [e,f] X.env)).all (λx=>!x.1)&&(backToKw cpos (keywordEach [] X.env)).all (λx=>x.1.isSome)
  && decide (([e,f]:l_).length+([]:n_).length+(if([]:n_).isEmpty then 0 else 1)<30))=true
 line:(apos.endLine==cpos.line)=true
 trees:backTo cpos (starEach [e,f] X.env)=[(false,eval e X.env),(false,eval f X.env)]
section
variable {κ:Type}[DecidableEq κ]
def mw{kvs:List (κ×V)}{k:κ}(h:bQ kvs k=some v):k∈kvs.map (·.1):=by
 have q:(kvs.any λkv=>decide (kv.1=k))=true:=by
  rw[mn,h]
  all_goals rfl
 obtain⟨p,hp,e⟩:=List.any_eq_true.mp q;exact z8z.mpr ⟨p,hp,z6j e⟩
end
end L2
namespace VL
open PySem PySem.Spec PyProof.Rows L2
abbrev St:=L2.St
inductive D where
 |non|bl (b:Bool)|int (i:Int)|str (x:Str)|lst (xs:List D)|tup (xs:List D)
 |scr (ns:z9)
 |dct (fz:Bool) (kvs:List (Int×Int))
 |ptr (a:Nat)
abbrev _root_.E_:=List D
abbrev _root_.F_:=Option D
noncomputable def kC(kvs:List (Int×Int)):List (Key×V):=kvs.map λp=>(Sum.inl p.1,V.int p.2)
def DRd(H:Hp)(a:Addr)(fz:Bool)(kvs:List (Int×Int)):Prop:=(fz=true/\∃o,H a=some (.frz o (.dK (kC kvs))))\/(fz=false/\H a=some (.dK (kC kvs)))
def DRd.same{a:Addr}{kvs:List (Int×Int)}(e:Same H H')(h:DRd H a fz kvs):DRd H' a fz kvs:=by
 rcases h with⟨z,o,h⟩|⟨z,h⟩
 ·exact .inl ⟨z,o,e _ _ h⟩
 ·exact .inr ⟨z,e _ _ h⟩
def DRd.rd{a:Addr}{kvs:List (Int×Int)}(h:DRd H a fz kvs):Rd H a (.dK (kC kvs)):=by
 rcases h with⟨_,o,h⟩|⟨_,h⟩
 ·exact .inr ⟨o,h⟩
 ·exact .inl h
mutual
inductive Rep (K:K0) (H:Hp):V->D->Prop where
 |non:Rep K H V.non D.non
 |bl (b:Bool):Rep K H (V.bl b) (D.bl b)
 |int (i:Int):Rep K H (V.int i) (D.int i)
 |str (x:Str):Rep K H (V.str x) (D.str x)
 |lst {a:Addr} {xs:C_} {ds:E_}:Rd H a (.lst xs)->Reps K H xs ds->Rep K H (V.ref a) (D.lst ds)
 |tup {a:Addr} {xs:C_} {ds:E_}:H a=some (.tup xs)->Reps K H xs ds->Rep K H (V.ref a) (D.tup ds)
 |scr {a:Addr} {ns:z9}:SqL K H a (ns.map V.int)->Rep K H (V.ref a) (D.scr ns)
 |dct {a:Addr} {fz:Bool} {kvs:List (Int×Int)}:DRd H a fz kvs->Rep K H (V.ref a) (D.dct fz kvs)
 |ptr (a:Addr):Rep K H (V.ref a) (D.ptr a)
inductive Reps (K:K0) (H:Hp):C_->E_->Prop where
 |nil:Reps K H [] []
 |cons {v:V} {d:D} {vs:C_} {ds:E_}:Rep K H v d->Reps K H vs ds->Reps K H (v::vs) (d::ds)
end
def cW{a:Addr}{u:HO}(e:Same H H')(h:Rd H a u):Rd H' a u:=by
 rcases h with h|⟨o,h⟩
 ·exact .inl (e _ _ h)
 ·exact .inr ⟨o,e _ _ h⟩
def eh{a:Addr}{u:HO}(h:H a=some u):Rd H a u:=.inl h
def gM{a:Addr}(h:Rd H a (.lst xs))(h':Rd H a (.lst ys)):xs=ys:=by rcases h with h|⟨o,h⟩<;>rcases h' with h' | ⟨o',h'⟩<;>rw[h]at h'<;>cases h'<;>rfl
def kD{a:Addr}(h:Rd H a (.tup xs))(h':Rd H a (.tup ys)):xs=ys:=by rcases h with h|⟨o,h⟩<;>rcases h' with h' | ⟨o',h'⟩<;>rw[h]at h'<;>cases h'<;>rfl
def vf{a:Addr}(h:Rd H a (.lst xs))(h':Rd H a (.tup ys)):False:=by rcases h with h|⟨o,h⟩<;>rcases h' with h' | ⟨o',h'⟩<;>rw[h]at h'<;>cases h'
def aw(e:Same H H'){d:D}(h:Rep K H v d):Rep K H' v d:=
 Rep.rec (motive_1:=λv d _=>Rep K H' v d) (motive_2:=λvs ds _=>Reps K H' vs ds)
  .non (λb=>.bl b) (λi=>.int i) (λx=>.str x) (λh _ ih=>.lst (cW e h) ih) (λh _ ih=>.tup (e _ _ h) ih) (λh=>.scr (e.seq h)) (λh=>.dct (h.same e)) (λa=>.ptr a)
  .nil (λ_ _ ih1 ih2=>.cons ih1 ih2) h
def aQ(e:Same H H'){ds:E_}(h:Reps K H vs ds):Reps K H' vs ds:=
 Reps.rec (motive_1:=λv d _=>Rep K H' v d) (motive_2:=λvs ds _=>Reps K H' vs ds)
  .non (λb=>.bl b) (λi=>.int i) (λx=>.str x) (λh _ ih=>.lst (cW e h) ih) (λh _ ih=>.tup (e _ _ h) ih) (λh=>.scr (e.seq h)) (λh=>.dct (h.same e)) (λa=>.ptr a)
  .nil (λ_ _ ih1 ih2=>.cons ih1 ih2) h
theorem Reps.length:∀{vs:C_} {ds:E_},Reps K H vs ds->vs.length=ds.length
 |[],_,h=>by cases h;rfl
 |_::vs,_,h=>by cases h with|cons _ t=>simp[Reps.length t]
theorem Reps.append:∀{vs ws:C_} {ds es:E_},Reps K H vs ds->Reps K H ws es->Reps K H (vs++ws) (ds++es)
 |[],_,_,_,h,h2=>by cases h;exact h2
 |_::_,_,_,_,h,h2=>by cases h with|cons a t=>exact .cons a (Reps.append t h2)
theorem Reps.get:∀{vs:C_} {ds:E_} {i:Nat} {d:D},Reps K H vs ds->ds[i]?=some d->∃v,vs[i]?=some v/\Rep K H v d
 |[],_,_,_,h,e=>by cases h;simp at e
 |_::_,_,0,_,h,e=>by cases h with|cons a t=>simp at e;subst e;exact⟨_,rfl,a⟩
 | _::_,_,i+1,_,h,e=>by
   cases h with
   |cons a t=>obtain⟨v,e1,r⟩:=Reps.get (i:=i) t (by simpa using e);exact⟨v,by simpa using e1,r⟩
theorem Reps.getV:∀{vs:C_} {ds:E_} {i:Nat} {v:V},Reps K H vs ds->vs[i]?=some v->∃d,ds[i]?=some d/\Rep K H v d
 |[],_,_,_,h,e=>by simp at e
 |_::_,_,0,_,h,e=>by cases h with|cons a t=>simp at e;subst e;exact⟨_,rfl,a⟩
 | _::_,_,i+1,_,h,e=>by
   cases h with
   |cons a t=>obtain⟨v,e1,r⟩:=Reps.getV (i:=i) t (by simpa using e);exact⟨v,by simpa using e1,r⟩
theorem Reps.take:∀{vs:C_} {ds:E_} (n:Nat),Reps K H vs ds->Reps K H (vs.take n) (ds.take n)
 |_,_,0,_=>by simpa using Reps.nil
 |[],_,n+1,h=>by cases h;simpa using Reps.nil
 |_::_,_,n+1,h=>by cases h with|cons a t=>exact .cons a (Reps.take n t)
theorem Reps.drop:∀{vs:C_} {ds:E_} (n:Nat),Reps K H vs ds->Reps K H (vs.drop n) (ds.drop n)
 |_,_,0,h=>by simpa using h
 |[],_,n+1,h=>by cases h;simpa using Reps.nil
 |_::_,_,n+1,h=>by cases h with|cons a t=>exact Reps.drop n t
theorem Reps.set{v:V}{d:D}(r:Rep K H v d):∀{vs:C_} {ds:E_} (i:Nat),Reps K H vs ds->Reps K H (vs.set i v) (ds.set i d)
 |[],_,_,h=>by cases h;simpa using Reps.nil
 |_::_,_,0,h=>by cases h with|cons a t=>exact .cons r t
 |_::_,_,i+1,h=>by cases h with|cons a t=>exact .cons a (Reps.set r i t)
theorem Reps.reverse:∀{vs:C_} {ds:E_},Reps K H vs ds->Reps K H vs.reverse ds.reverse
 |[],_,h=>by cases h;exact .nil
 | _::_,_,h=>by
   cases h with
   |cons a t=>rw[z6i,z6i];exact Reps.append (Reps.reverse t) (.cons a .nil)
theorem Reps.ints:∀ns:z9,Reps K H (ns.map V.int) (ns.map D.int)
 |[]=>.nil
 |n::ns=>.cons (.int n) (Reps.ints ns)
theorem Reps.rep{vs:C_}{ds:E_}(h:Reps K H vs ds):∀k:Nat,Reps K H (List.replicate k vs).flatten (List.replicate k ds).flatten
 |0=>.nil
 |k+1=>by rw[z7t,z7t,z6s,z6s];exact h.append (Reps.rep h k)
noncomputable def aq(H:Hp)(A:Addr->Prop):Hp:=λb=>@ite _ (A b) (Classical.propDecidable _) none (H b)
def E4{A:Addr->Prop}{b:Addr}(h:A b):aq H A b=none:=by unfold aq;rw[if_pos h]
def c7{A:Addr->Prop}{b:Addr}(h:¬A b):aq H A b=H b:=by unfold aq;rw[if_neg h]
def er{A:Addr->Prop}{b:Addr}(h:aq H A b=some o):¬A b/\H b=some o:=by
 by_cases q:A b
 ·rw[E4 q]at h;cases h
 ·rw[c7 q]at h;exact⟨q,h⟩
def aR(H:Hp)(A:Addr->Prop):Same (aq H A) H:=λ_ _ h=>(er h).2
def cH{A B:Addr->Prop}(e:Same H H')(s:∀b,B b->A b):Same (aq H A) (aq H' B):=λb o h=>by obtain⟨n,h⟩:=er h;rw[c7 λq=>n (s b q)];exact e b o h
def vg{A:Addr->Prop}(e:Same H H')(n:∀b,A b->H b=none):Same H (aq H' A):=λb o h=>by rw[c7 λq=>by rw[n b q]at h;cases h];exact e b o h
abbrev eW:Addr->Prop:=λ_=>False
def jj(H:Hp):Same H (aq H eW):=vg (λ_ _ h=>h) λ_ h=>h.elim
def bg{p:Addr}(h:H p=none)(o:HO):Same H (upd H p o):=λb u q=>by rw[aH (c6 q h)];exact q
def Dom(H:Hp)(A:Addr->Prop):Prop:=∀b,A b->H b≠none
def Dom.mono{A:Addr->Prop}(d:Dom H A)(e:Same H H'):Dom H' A:=λb h n=>d b h (e.free n)
def Dom.none(H:Hp):Dom H eW:=λ_ h=>h.elim
def Dom.not_new{A:Addr->Prop}(d:Dom H A)(h:H l=Option.none):¬A l:=λq=>d l q h
noncomputable def aS:D->Bool
 |.lst _=>false
 |.tup _=>false
 |.scr _=>false
 |.dct _ _=>false
 |.ptr _=>false
 |_=>true
def kE{d:D}(s:aS d=true)(h:Rep K H v d):Rep K H' v d:=by
 cases h with
 |non=>exact .non
 |bl b=>exact .bl b
 |int i=>exact .int i
 |str x=>exact .str x
 |lst _ _=>cases s
 |tup _ _=>cases s
 |scr _=>cases s
 |dct _=>cases s
 |ptr a=>cases s
abbrev ah:=List F_
abbrev FE:=ah->F_
inductive Es where
 |full (j:Nat)
 |el (j:Nat)
abbrev _root_.J_:=List Es
def EnvR(K:K0)(H:Hp)(σ:St)(ρ:ah):Prop:=∀(i:Nat) (d:D),ρ[i]?=some (some d)->∃v,σ[i]?=some (some v)/\Rep K H v d
def EnvR.mono{ρ:ah}(h:EnvR K H σ ρ)(e:Same H H'):EnvR K H' σ ρ:=λi d q=>by obtain⟨v,h1,h2⟩:=h i d q;exact⟨v,h1,aw e h2⟩
noncomputable def E5:D->Option Unit
 |.scr _=>some ()
 |.dct _ _=>some ()
 |.ptr _=>some ()
 |_=>none
def ElR(K:K0)(H:Hp)(A:Addr->Prop)(v:V)(d:D):Prop:=
 (aS d=true\/∃u,E5 d=some u)\/∃p xs ds,v=V.ref p/\((d=.lst ds/\Rd H p (.lst xs))\/(d=.tup ds/\Rd H p (.tup xs)))/\Reps K (aq H A) xs ds
def Av(K:K0)(H:Hp)(σ:St)(ρ:ah)(A:Addr->Prop):Es->Prop
 |.full j=>∀v d,σ[j]?=some (some v)->ρ[j]?=some (some d)->Rep K (aq H A) v d
 |.el j=>∀v d,σ[j]?=some (some v)->ρ[j]?=some (some d)->ElR K H A v d
def cy{A:Addr->Prop}(e:Same H H'):Same (aq H A) (aq H' A):=cH e λ_ h=>h
def ElR.mono{A:Addr->Prop}{d:D}(e:Same H H')(h:ElR K H A v d):ElR K H' A v d:=by
 rcases h with h|⟨p,xs,ds,h1,h2,h3⟩
 ·exact .inl h
 ·refine .inr ⟨p,xs,ds,h1,?_,aQ (cy e) h3⟩
  rcases h2 with⟨h2,h4⟩|⟨h2,h4⟩
  ·exact .inl ⟨h2,cW e h4⟩
  ·exact .inr ⟨h2,cW e h4⟩
def Av.mono{ρ:ah}{A:Addr->Prop}{x:Es}(e:Same H H')(h:Av K H σ ρ A x):Av K H' σ ρ A x:=by
 cases x with
 |full j=>exact λv d h1 h2=>aw (cy e) (h v d h1 h2)
 |el j=>exact λv d h1 h2=>(h v d h1 h2).mono e
def Rep.el{A:Addr->Prop}{d:D}(h:Rep K (aq H A) v d):ElR K H A v d:=by
 cases h with
 |non=>exact .inl (.inl rfl)
 |bl b=>exact .inl (.inl rfl)
 |int i=>exact .inl (.inl rfl)
 |str x=>exact .inl (.inl rfl)
 |lst h1 h2=>exact .inr ⟨_,_,_,rfl,.inl ⟨rfl,cW (aR H A) h1⟩,h2⟩
 |tup h1 h2=>exact .inr ⟨_,_,_,rfl,.inr ⟨rfl,cW (aR H A) (eh h1)⟩,h2⟩
 |scr h1=>exact .inl (.inr ⟨_,rfl⟩)
 |dct h1=>exact .inl (.inr ⟨_,rfl⟩)
 |ptr a=>exact .inl (.inr ⟨_,rfl⟩)
structure Post (K:K0) (σ:St) (ρ:ah) (H:Hp) (es:J_) (d:D) (v:V) (H':Hp):Prop where
 same:Same H H'
 rep:Rep K H' v d
 av:∀A,Dom H A->(∀e∈es,Av K H σ ρ A e)->Rep K (aq H' A) v d
structure PostF (K:K0) (σ:St) (ρ:ah) (H:Hp) (es:J_) (d:D) (v:V) (H':Hp):Prop where
 same:Same H H'
 new:∃l xs ds,v=V.ref l/\d=.lst ds/\H l=none/\H' l=some (.lst xs)/\∀A,Dom H A->(∀e∈es,Av K H σ ρ A e)->Reps K (aq H' λb=>A b\/b=l) xs ds
def Av.none{ρ:ah}(hE:EnvR K H σ ρ)(e:Es):Av K H σ ρ eW e:=by
 have full:∀(j:Nat) (v:V) (d:D),σ[j]?=some (some v)->ρ[j]?=some (some d)->Rep K (aq H eW) v d:=λj v d h1 h2=>by obtain⟨v',h3,h4⟩:=hE j d h2;rw[h1]at h3;cases h3;exact aw (jj H) h4
 cases e with
 |full j=>exact full j
 |el j=>exact λv d h1 h2=>(full j v d h1 h2).el
def PostF.post{ρ:ah}{es:J_}{d:D}(h:PostF K σ ρ H es d v H')(hE:EnvR K H σ ρ):Post K σ ρ H es d v H':=by
 obtain⟨l,xs,ds,rfl,rfl,hl,hl',h3⟩:=h.new;have av:∀A,Dom H A->(∀e∈es,Av K H σ ρ A e)->Rep K (aq H' A) (V.ref l) (.lst ds):=λA hA ha=>.lst (.inl (by rw[c7 (hA.not_new hl)];exact hl')) (aQ (cH (λ_ _ q=>q) λb q=>.inl q) (h3 A hA ha))
 exact⟨h.same,aw (aR H' _) (av eW (Dom.none H) λe _=>Av.none hE e),av⟩
def tv(K:K0)(f:FE)(es:J_):TE:=λσ H Q=>∃ρ d,EnvR K H σ ρ/\f ρ=some d/\∀v H',Post K σ ρ H es d v H'->Q v H'
def tvF(K:K0)(f:FE)(es:J_):TE:=λσ H Q=>∃ρ d,EnvR K H σ ρ/\f ρ=some d/\∀v H',PostF K σ ρ H es d v H'->Q v H'
def tvT(K:K0)(f:ah->B_):TT:=λσ H Q=>∃ρ b,EnvR K H σ ρ/\f ρ=some b/\∀H',Same H H'->Q b H'
abbrev FEs:=ah->Option E_
structure Posts (K:K0) (σ:St) (ρ:ah) (H:Hp) (es:J_) (ds:E_) (vs:C_) (H':Hp):Prop where
 same:Same H H'
 rep:Reps K H' vs ds
 av:∀A,Dom H A->(∀e∈es,Av K H σ ρ A e)->Reps K (aq H' A) vs ds
def tvA(K:K0)(f:FEs)(es:J_):TA:=λσ H Q=>∃ρ ds,EnvR K H σ ρ/\f ρ=some ds/\∀vs H',Posts K σ ρ H es ds vs H'->Q vs H'
abbrev VE(X:Cx)(e:Expr)(f:FE)(es:J_):Prop:=PE X e (tv X.K f es)
structure JE (X:Cx) (e:Expr) (f:FE) (es:J_):Prop where
 h:VE X e f es
abbrev VF(X:Cx)(e:Expr)(f:FE)(es:J_):Prop:=PE X e (tvF X.K f es)
structure JF (X:Cx) (e:Expr) (f:FE) (es:J_):Prop where
 h:VF X e f es
abbrev VT(X:Cx)(e:Expr)(f:ah->B_):Prop:=PT X e (tvT X.K f)
structure JT (X:Cx) (e:Expr) (f:ah->B_):Prop where
 h:VT X e f
abbrev VW(X:Cx)(e:Expr)(f:ah->B_):Prop:=PW X e (tvT X.K f)
structure JW (X:Cx) (e:Expr) (f:ah->B_):Prop where
 h:VW X e f
abbrev VA(X:Cx)(e:l_)(f:FEs)(es:J_):Prop:=PA X e (tvA X.K f es)
structure JA (X:Cx) (e:l_) (f:FEs) (es:J_):Prop where
 h:VA X e f es
def cP{t':TE}(h:PE X e t)(i:∀σ H Q,t' σ H Q->t σ H Q):PE X e t':=λG_ s σ H Q I q=>h G_ s σ H Q I (i σ H Q q)
def mz{t t':TT}(h:PT X e t)(i:∀σ H Q,t' σ H Q->t σ H Q):PT X e t':=λG_ s σ H Q I q=>h G_ s σ H Q I (i σ H Q q)
def qc{t t':TT}(h:PW X e t)(i:∀σ H Q,t' σ H Q->t σ H Q):PW X e t':=λw G_ s σ H Q I q=>h w G_ s σ H Q I (i σ H Q q)
def kF{e:l_}{t t':TA}(h:PA X e t)(i:∀σ H Q,t' σ H Q->t σ H Q):PA X e t':=λpos G_ s σ H Q I q=>h pos G_ s σ H Q I (i σ H Q q)
def eB{f:FE}{es:J_}(h:PE X e t)(i:∀σ H Q ρ d,EnvR X.K H σ ρ->f ρ=some d->(∀v H',Post X.K σ ρ H es d v H'->Q v H')->t σ H Q):PE X e (tv X.K f es):=cP h λσ H Q y4=>by obtain⟨ρ,d,hE,hf,hQ⟩:=y4;exact i σ H Q ρ d hE hf hQ
def ie{f:FE}{es:J_}(h:PE X e t)(i:∀σ H Q ρ d,EnvR X.K H σ ρ->f ρ=some d->(∀v H',PostF X.K σ ρ H es d v H'->Q v H')->t σ H Q):PE X e (tvF X.K f es):=cP h λσ H Q y4=>by obtain⟨ρ,d,hE,hf,hQ⟩:=y4;exact i σ H Q ρ d hE hf hQ
def qd{t:TT}{f:ah->B_}(h:PT X e t)(i:∀σ H Q ρ d,EnvR X.K H σ ρ->f ρ=some d->(∀H',Same H H'->Q d H')->t σ H Q):PT X e (tvT X.K f):=mz h λσ H Q y4=>by obtain⟨ρ,d,hE,hf,hQ⟩:=y4;exact i σ H Q ρ d hE hf hQ
section
variable {es ea eb ec:J_}{fa fb fc:FE}
def VF.ve{f:FE}(h:VF X a f es):VE X a f es:=eB h λσ H Q ρ d hE hf hQ=>⟨ρ,d,hE,hf,λv H' p=>hQ v H' (p.post hE)⟩
noncomputable def a5(i:Nat):FE:=λρ=>(ρ[i]?).getD none
def ig{ρ:ah}{d:D}(h:a5 i ρ=some d):ρ[i]?=some (some d):=by
 unfold a5 at h;cases e:ρ[i]? with
 |none=>rw[e]at h;cases h
 |some o=>rw[e]at h;simp only[z7d]at h;rw[h]
def a6(i:Nat)(hN:X.N[i]?=some x<|>J7)(hv:Vis X.env.scope x<|>J9)(hd:DB x<|>J8)(hcd:(x==("__classdict__" : Str))=false<|>J8):JE X (.Name x pos) (a5 i) [.full i]:=⟨
 eB (gG hN hv hd hcd) λσ H Q ρ d hE hf hQ=>by have h:=ig hf;obtain⟨v,hv,r⟩:=hE i d h;exact⟨v,hv,hQ v H ⟨Same.refl H,r,λA _ av=>av (.full i) (z9w.mpr rfl) v d hv h⟩⟩⟩
noncomputable def eC(d:D):FE:=λ_=>some d
def jk{d:D}(h:PE X e (tC v))(r:∀H,Rep X.K H v d):VE X e (eC d) []:=
 eB h λσ H Q ρ d' hE hf hQ=>by cases hf;exact hQ v H ⟨Same.refl H,r H,λA _ _=>r _⟩
def ae{i j pos}:JE X (.Constant (.int i) j pos) (eC (.int i)) []:=⟨jk tV λ_=>.int i⟩
def kG{i j pos}:JE X (.Constant (.bool i) j pos) (eC (.bl i)) []:=⟨jk Cc λ_=>.bl i⟩
def jl{j pos}:VE X (.Constant .none j pos) (eC .non) []:=jk Cd λ_=>.non
def aD{x j pos}:JE X (.Constant (.str x) j pos) (eC (.str x)) []:=⟨jk gH λ_=>.str x⟩
def eD{i:Int}{t:Tok}(hm:X.mg x=some (.int i t))(hg:Gl X x<|>J7)(hd:DB x<|>J8):JE X (.Name x pos) (eC (.int i)) []:=⟨
 jk (pE (v:=.int i) hg hm ⟨t,rfl⟩ hd) λ_=>.int i⟩
noncomputable def e2(g:D->D->F_)(a b:FE):FE:=λρ=>(a ρ).bind λx=>(b ρ).bind λy=>g x y
noncomputable def e1(g:D->F_)(a:FE):FE:=λρ=>(a ρ).bind g
def bind_some{α β:Type}{o:Option α}{f:α->Option β}{b:β}(h:o.bind f=some b):∃a,o=some a/\f a=some b:=by
 cases o with
 |none=>cases h
 |some a=>exact⟨a,rfl,h⟩
def Post.up{ρ:ah}{es:J_}{d:D}(h:Post K σ ρ H es d v H1)(e:Same H1 H2):Post K σ ρ H es d v H2:=
 ⟨h.same.trans e,aw e h.rep,λA hA ha=>aw (cy e) (h.av A hA ha)⟩
def Post.down{ρ:ah}{es:J_}{d:D}(h:Post K σ ρ H1 es d v H2)(e:Same H H1):Post K σ ρ H es d v H2:=
 ⟨e.trans h.same,h.rep,λA hA ha=>h.av A (hA.mono e) λx hx=>(ha x hx).mono e⟩
def OpV(K:K0)(r:R2)(g:D->D->F_):Prop:=
 ∀(x y:V) (H:Hp) (dx dy d:D) (Q:VK),Rep K H x dx->Rep K H y dy->g dx dy=some d ->
   (∀v H',Same H H'->Rep K H' v d->(∀A,Dom H A->Rep K (aq H A) x dx->Rep K (aq H A) y dy->Rep K (aq H' A) v d)->Q v H')->r x y H Q
def UnV(K:K0)(r:V->Hp->VK->Prop)(g:D->F_):Prop:=
 ∀(x:V) (H:Hp) (dx d:D) (Q:VK),Rep K H x dx->g dx=some d ->
   (∀v H',Same H H'->Rep K H' v d->(∀A,Dom H A->Rep K (aq H A) x dx->Rep K (aq H' A) v d)->Q v H')->r x H Q
def mB{g:D->D->F_}(hr:OpV K r g)(h:tv K (e2 g fa fb) (ea++eb) σ H Q):tOp r (tv K fa ea) (tv K fb eb) σ H Q:=by
 obtain⟨ρ,d,hE,hf,hQ⟩:=h;obtain⟨dx,h1,hf⟩:=bind_some hf;obtain⟨dy,h2,hf⟩:=bind_some hf;refine⟨ρ,dx,hE,h1,λx H1 p1=>⟨ρ,dy,hE.mono p1.same,h2,λy H2 p2=>?_⟩⟩;have q1:=p1.up p2.same;have q2:=p2.down p1.same;refine hr x y H2 dx dy d Q q1.rep q2.rep hf λv H' e r' av=>hQ v H' ⟨q1.same.trans e,r',λA hA ha=>?_⟩
 exact av A (hA.mono q1.same) (q1.av A hA λz hz=>ha z (z8i _ hz)) (q2.av A hA λz hz=>ha z (z9s _ hz))
def E6{r:V->Hp->VK->Prop}{g:D->F_}(hr:UnV K r g)(h:tv K (e1 g fa) ea σ H Q):tUn r (tv K fa ea) σ H Q:=by obtain⟨ρ,d,hE,hf,hQ⟩:=h;obtain⟨dx,h1,hf⟩:=bind_some hf;refine⟨ρ,dx,hE,h1,λx H1 p1=>?_⟩;exact hr x H1 dx d Q p1.rep hf λv H' e r' av=>hQ v H' ⟨p1.same.trans e,r',λA hA ha=>av A (hA.mono p1.same) (p1.av A hA ha)⟩
def qe{op:Operator}{g:D->D->F_}(ho:OpR X (binaryOp op) r)(hr:OpV X.K r g)(ha:VE X a fa ea)(hb:VE X b fb eb):VE X (.BinOp a op b pos) (e2 g fa fb) (ea++eb):=
 cP (jc ho ha hb) λ_ _ _ h=>mB hr h
def ij{f:FE}(h:VE X a f es)(hs:∀ρ d,f ρ=some d->aS d=true):VE X a f []:=
 eB h λσ H Q ρ d hE hf hQ=>⟨ρ,d,hE,hf,λv H' p=>hQ v H' ⟨p.same,p.rep,λA _ _=>kE (hs ρ d hf) p.rep⟩⟩
def kH{g:D->D->F_}(h:∀x y d,g x y=some d->aS d=true)(fa fb:FE)(ρ:ah)(d:D)(e:e2 g fa fb ρ=some d):aS d=true:=by obtain⟨x,_,e⟩:=bind_some e;obtain⟨y,_,e⟩:=bind_some e;exact h x y d e
def E7{g:D->F_}(h:∀x d,g x=some d->aS d=true)(fa:FE)(ρ:ah)(d:D)(e:e1 g fa ρ=some d):aS d=true:=by obtain⟨x,_,e⟩:=bind_some e;exact h x d e
noncomputable def gI(C:Int->Int->Prop)[∀i j,Decidable (C i j)](k:Int->Int->D):D->D->F_
 |.int i,.int j=>if C i j then some (k i j)else none
 |_,_=>none
def vh{C:Int->Int->Prop}[∀i j,Decidable (C i j)]{k:Int->Int->D}{x y d:D}(h:gI C k x y=some d):∃i j,x=.int i/\y=.int j/\C i j/\k i j=d:=by
 unfold gI at h;split at h
 ·split at h
  ·cases h;exact⟨_,_,rfl,rfl,‹_›,rfl⟩
  ·cases h
 ·cases h
def kI{C:Int->Int->Prop}[∀i j,Decidable (C' i j)]{k:Int->Int->D}(K:K0)(hC:∀i j,C' i j->C i j)(hk:∀i j H,Rep K H (kv i j) (k i j)):OpV K (rI C kv) (gI C' k):=by intro x y H dx dy d Q rx ry hg hQ;obtain⟨i,j,rfl,rfl,c,rfl⟩:=vh hg;cases rx;cases ry;exact⟨i,j,rfl,rfl,hC i j c,hQ _ H (Same.refl H) (hk i j H) λA _ _ _=>hk i j _⟩
def kJ[∀i j,Decidable (C' i j)]{k:Int->Int->D}(K:K0)(hk:∀i j H,Rep K H (kv i j) (k i j)):OpV K (rI0 kv) (gI C' k):=by intro x y H dx dy d Q rx ry hg hQ;obtain⟨i,j,rfl,rfl,c,rfl⟩:=vh hg;cases rx;cases ry;exact⟨i,j,rfl,rfl,hQ _ H (Same.refl H) (hk i j H) λA _ _ _=>hk i j _⟩
abbrev kK(_ _:Int):Prop:=True
def small(i:Int):Prop:=-18446744073709551616<i/\i<18446744073709551616
instance (i:Int):Decidable (small i):=inferInstanceAs (Decidable (_/\_))
def mid(i:Int):Prop:=i.natAbs.log2<4000
instance (i:Int):Decidable (mid i):=inferInstanceAs (Decidable (_<_))
def okMul(i j:Int):Prop:=small i\/small j\/(mid i/\mid j)
instance (i j:Int):Decidable (okMul i j):=inferInstanceAs (Decidable (_\/_))
def kL(_ j:Int):Prop:=0<j/\mid j
instance (i j:Int):Decidable (kL i j):=inferInstanceAs (Decidable (_/\_))
def mC(_ j:Int):Prop:=0<j
instance (i j:Int):Decidable (mC i j):=inferInstanceAs (Decidable (_<_))
def kM(i j:Int):Prop:=(0<=j/\j<=1000000)/\small i
instance (i j:Int):Decidable (kM i j):=inferInstanceAs (Decidable (_/\_))
def vi{i:Int}(h:mid i):Builtin.Int.intBits i<=4000:=by
 unfold Builtin.Int.intBits;split
 ·exact z7h _
 ·exact h
def okMul.ok{i j:Int}(h:okMul i j):IntMulOk i j:=by
 rcases h with h|h|⟨h1,h2⟩
 ·exact .of_left (intBits_le_64 h.1 h.2)
 ·exact .of_right (intBits_le_64 h.1 h.2)
 ·exact PyProof.Rows.mulOk_of_bits (vi h1) (vi h2) (by decide)
abbrev bL:=gI kK λi j=>.int (i+j)
abbrev cX:=gI kK λi j=>.int (i-j)
abbrev dg:=gI okMul λi j=>.int (i*j)
abbrev jm:=gI kL λi j=>.int (i / j)
abbrev eE:=gI mC λi j=>.int (i % j)
abbrev mD:=gI kM λi j=>.int (i ^ j.toNat)
def kN{C:Int->Int->Prop}[∀i j,Decidable (C i j)]{k:Int->Int->D}(hk:∀i j,aS (k i j)=true)(x y d:D)(h:gI C k x y=some d):aS d=true:=by
 unfold gI at h;split at h
 ·split at h
  ·cases h;exact hk _ _
  ·cases h
 ·cases h
def vj:OpR X (binaryOp .Mult) (rI okMul λi j=>.int (i*j)):=opI λ_ _ _ _ _ _ _ hc q=>mul_int q hc.ok
def E8:OpR X (binaryOp .FloorDiv) (rI kL λi j=>.int (i / j)):=opI λi j _ _ _ _ _ hc q=>by have h1:(0:Int)<j:=hc.1;have h2:j.natAbs.log2<4000:=hc.2;exact floordiv_int ∅ (by rw[Int.fdiv_eq_ediv_of_nonneg i ∅];exact q) (.inl (PyProof.noPylong_of_log2 ∅))
def E9:OpR X (binaryOp .Pow) (rI kM λi j=>.int (i ^ j.toNat)):=opI λi j _ _ _ _ _ hc q=>by have h1:-18446744073709551616<i/\i<18446744073709551616:=hc.2;exact pow_int_small hc.1.1 hc.1.2 ∅ q
def jo{op:Operator}{C:Int->Int->Prop}[∀i j,Decidable (C i j)]{k:Int->Int->D}(ho:OpR X (binaryOp op) r)(hr:OpV X.K r (gI C k))(hk:∀i j,aS (k i j)=true)(ha:VE X a fa ea)(hb:VE X b fb eb):
  VE X (.BinOp a op b pos) (e2 (gI C k) fa fb) []:=ij (qe ho hr ha hb) (kH (kN hk) fa fb)
def cQ(ha:JE X a fa ea)(hb:JE X b fb eb):JE X (.BinOp a .Add b pos) (e2 bL fa fb) []:=⟨have ha:=ha.h;have hb:=hb.h;jo uk (kJ X.K λ_ _ _=>.int _) (λ_ _=>rfl) ha hb⟩
def ge(ha:JE X a fa ea)(hb:JE X b fb eb):JE X (.BinOp a .Sub b pos) (e2 cX fa fb) []:=⟨have ha:=ha.h;have hb:=hb.h;jo ul (kJ X.K λ_ _ _=>.int _) (λ_ _=>rfl) ha hb⟩
def eX(ha:JE X a fa ea)(hb:JE X b fb eb):JE X (.BinOp a .Mult b pos) (e2 dg fa fb) []:=⟨have ha:=ha.h;have hb:=hb.h;jo vj (kI X.K (λ_ _ h=>h) λ_ _ _=>.int _) (λ_ _=>rfl) ha hb⟩
def mE(ha:JE X a fa ea)(hb:JE X b fb eb):JE X (.BinOp a .FloorDiv b pos) (e2 jm fa fb) []:=⟨have ha:=ha.h;have hb:=hb.h;jo E8 (kI X.K (λ_ _ h=>h) λ_ _ _=>.int _) (λ_ _=>rfl) ha hb⟩
def fC(ha:JE X a fa ea)(hb:JE X b fb eb):JE X (.BinOp a .Mod b pos) (e2 eE fa fb) []:=⟨have ha:=ha.h;have hb:=hb.h;jo CI (kI X.K (λ_ _ h=>h) λ_ _ _=>.int _) (λ_ _=>rfl) ha hb⟩
def vk(ha:JE X a fa ea)(hb:JE X b fb eb):JE X (.BinOp a .Pow b pos) (e2 mD fa fb) []:=⟨have ha:=ha.h;have hb:=hb.h;jo E9 (kI X.K (λ_ _ h=>h) λ_ _ _=>.int _) (λ_ _=>rfl) ha hb⟩
noncomputable def eF:D->F_
 |.int i=>some (.int (-i))
 |_=>none
def Ea(x d:D)(h:eF x=some d):aS d=true:=by
 cases x<;>simp only[eF]at h<;>cases h
 rfl
def ik(ha:JE X a fa ea):JE X (.UnaryOp .USub a pos) (e1 eF fa) []:=⟨have ha:=ha.h;
 ij (es:=ea) (cP (CH CJ ha) λ_ _ _ h=>E6 (λx H dx d Q rx hg hQ=>by
  cases rx<;>simp only[eF]at hg<;>cases hg
  exact⟨_,rfl,hQ _ H (Same.refl H) (.int _) λA _ _=>.int _⟩) h) (E7 Ea fa)⟩
abbrev leI:=gI kK λi j=>.bl (decide (i<=j))
abbrev gtI:=gI kK λi j=>.bl (decide (j<i))
abbrev geI:=gI kK λi j=>.bl (decide (j<=i))
def jp{g:D->D->F_}(ho:OpR X (compareOp op) r)(hr:OpV X.K r g)(ha:VE X a fa ea)(hb:VE X b fb eb)(hm:behindInMarks op b=false)(hs:∀x y d,g x y=some d->aS d=true):
  VE X (.Compare a [op] [b] pos) (e2 g fa fb) []:=ij (es:=ea++eb) (cP (uo ho ha hb hm) λ_ _ _ h=>mB hr h) (kH hs fa fb)
noncomputable def tru:D->B_
 |.bl b=>some b
 |.int i=>some (i != 0)
 |.non=>some false
 |.lst xs=>some (!xs.isEmpty)
 |.tup xs=>some (!xs.isEmpty)
 |.str _=>none
 |.scr ns=>some (!ns.isEmpty)
 |.dct _ _=>none
 |.ptr _=>none
noncomputable def eT(f:FE):ah->B_:=λρ=>(f ρ).bind λd=>match d with | .bl b=>some b|_=>none
def jq{g:D->D->F_}(ho:OpR X (compareOp op) r)(hr:OpV X.K r g)(ha:VE X a fa ea)(hb:VE X b fb eb)(hm:behindInMarks op b=false):VT X (.Compare a [op] [b] pos) (eT (e2 g fa fb)):=
 qd (pR ho ha hb hm) λσ H Q ρ b hE hf hQ=>by
  obtain⟨d,h1,h2⟩:=bind_some hf;refine mB hr ⟨ρ,d,hE,h1,λv H' p=>?_⟩;cases d<;>simp only at h2<;>cases h2
  cases p.rep;exact⟨b,rfl,hQ H' p.same⟩
def il[∀i j,Decidable (C' i j)]{k:Int->Int->Bool}(K:K0):OpV K (rI0 λi j=>.bl (k i j)) (gI C' λi j=>.bl (k i j)):=kJ K λ_ _ _=>.bl _
def Eb(ha:JE X a fa ea)(hb:JE X b fb eb):JE X (.Compare a [.LtE] [b] pos) (e2 leI fa fb) []:=⟨have ha:=ha.h;have hb:=hb.h;jp pO (il X.K) ha hb (de _) (kN λ_ _=>rfl)⟩
def vm(ha:JE X a fa ea)(hb:JE X b fb eb):JE X (.Compare a [.Gt] [b] pos) (e2 gtI fa fb) []:=⟨have ha:=ha.h;have hb:=hb.h;jp pP (il X.K) ha hb (de _) (kN λ_ _=>rfl)⟩
def Ec(ha:JE X a fa ea)(hb:JE X b fb eb):JE X (.Compare a [.GtE] [b] pos) (e2 geI fa fb) []:=⟨have ha:=ha.h;have hb:=hb.h;jp CK (il X.K) ha hb (de _) (kN λ_ _=>rfl)⟩
def vo(ha:JE X a fa ea)(hb:JE X b fb eb):JT X (.Compare a [.Gt] [b] pos) (eT (e2 gtI fa fb)):=⟨have ha:=ha.h;have hb:=hb.h;jq pP (il X.K) ha hb (de _)⟩
noncomputable def e3c(g g':D->D->F_)(a b c:FE):FE:=λρ=>(a ρ).bind λx=>(b ρ).bind λy=>(g x y).bind λz=>match z with
 |.bl true=>(c ρ).bind λw=>g' y w
 |.bl false=>some (.bl false)
 |_=>none
def Ed{g g':D->D->F_}(hr:OpV K r g)(hr':OpV K r' g')(hs:∀x y d,g' x y=some d->aS d=true)(h:tv K (e3c g g' fa fb fc) [] σ H Q):
  uq r r' (tv K fa ea) (tv K fb eb) (tv K fc ec) σ H Q:=by
 obtain⟨ρ,d,hE,hf,hQ⟩:=h;obtain⟨dx,h1,hf⟩:=bind_some hf;obtain⟨dy,h2,hf⟩:=bind_some hf;obtain⟨dz,h3,hf⟩:=bind_some hf;refine⟨ρ,dx,hE,h1,λx H1 p1=>⟨ρ,dy,hE.mono p1.same,h2,λy H2 p2=>?_⟩⟩;have q1:=p1.up p2.same;have q2:=p2.down p1.same;refine hr x y H2 dx dy dz _ q1.rep q2.rep h3 λv H3 e3 r3 _=>?_
 have e03:=q1.same.trans e3;cases dz with
 | bl k=>
   cases r3;refine⟨k,rfl,?_⟩;cases k with
   |false=>cases hf;exact dW (hQ _ H3 ⟨e03,.bl _,λA _ _=>.bl _⟩)
   |true=>obtain⟨dw,h4,hf⟩:=bind_some hf;refine dX ⟨ρ,dw,hE.mono e03,h4,λw H4 p4=>?_⟩;refine hr' y w H4 dy dw d Q (aw (e3.trans p4.same) q2.rep) p4.rep hf λv' H' e r' _=>hQ v' H' ⟨(e03.trans p4.same).trans e,r',λA _ _=>kE (hs _ _ _ hf) r'⟩
 |_=>cases hf
def Ee{g g':D->D->F_}(ho:OpR X (compareOp op) r)(ho':OpR X (compareOp op') r')(hr:OpV X.K r g)(hr':OpV X.K r' g')(hs:∀x y d,g' x y=some d->aS d=true)(ha:VE X a fa ea)(hb:VE X b fb eb)(hc:VE X c fc ec)(hm:lastMarks [op,op'] [b,c]=false<|>Q2):VE X (.Compare a [op,op'] [b,c] pos) (e3c g g' fa fb fc) []:=
 cP (CO ho ho' ha hb hc hm) λ_ _ _ h=>Ed hr hr' hs h
def qf(ha:JE X a fa ea)(hb:JE X b fb eb)(hc:JE X c fc ec)(hm:lastMarks [.LtE,.LtE] [b,c]=false<|>Q2):JE X (.Compare a [.LtE,.LtE] [b,c] pos) (e3c leI leI fa fb fc) []:=⟨have ha:=ha.h;have hb:=hb.h;have hc:=hc.h;Ee pO pO (il X.K) (il X.K) (kN λ_ _=>rfl) ha hb hc hm⟩
def eY(f:FE):ah->B_:=λρ=>(f ρ).bind tru
def vp{d:D}{k:Bool}(r:Rep K H v d)(h:tru d=some k):pS K v H k:=by
 cases r with
 |non=>cases h;rfl
 |bl b=>cases h;rfl
 |int i=>cases h;rfl
 |str x=>cases h
 |lst h1 h2=>cases h;refine .inl ⟨_,.inl h1,?_⟩;cases h2<;>rfl
 |tup h1 h2=>cases h;refine .inr (.inl ⟨_,.inl (eh h1),?_⟩);cases h2<;>rfl
 |@scr a ns h1=>cases h;exact .inl ⟨_,h1,by cases ns<;>rfl⟩
 |dct h1=>cases h
 |ptr a=>cases h
def gN{f:FE}(h:JE X a f es)(he:(∀whole,isTrue a X.env whole=(do let v <- whole;standAt a.pos;holding [v] (truthy v)))<|>Q0):JT X a (eY f):=⟨have h:=h.h;
 qd (ut h he) λσ H Q ρ b hE hf hQ=>by obtain⟨d,h1,h2⟩:=bind_some hf;exact⟨ρ,d,hE,h1,λv H' p=>⟨b,vp p.rep h2,hQ H' p.same⟩⟩⟩
noncomputable def eZ(f g:ah->B_):ah->B_:=λρ=>(f ρ).bind λb=>if b=true then g ρ else some false
noncomputable def bOr(f g:ah->B_):ah->B_:=λρ=>(f ρ).bind λb=>if b=true then some true else g ρ
noncomputable def fD(f:ah->B_):ah->B_:=λρ=>(f ρ).map (!·)
variable {ta tb:ah->B_}{rest:l_}
def im(ha:JT X a ta):JW X (.BoolOp .And [a] pos) ta:=⟨have ha:=ha.h;tY ha⟩
def qg(ha:JT X a ta):JW X (.BoolOp .Or [a] pos) ta:=⟨have ha:=ha.h;tZ ha⟩
theorem io(ha:JT X a ta)(hb:JW X (.BoolOp .And (b::rest) pos) tb):JW X (.BoolOp .And (a::b::rest) pos) (eZ ta tb):=⟨have ha:=ha.h;have hb:=hb.h;
 qc (u0 ha hb) λσ H Q y4=>by
  obtain⟨ρ,b,hE,hf,hQ⟩:=y4;obtain⟨k,h1,h2⟩:=bind_some hf;refine⟨ρ,k,hE,h1,λH1 e1=>?_⟩;cases k with
  |true=>exact dX ⟨ρ,b,hE.mono e1,h2,λH2 e2=>hQ H2 (e1.trans e2)⟩
  |false=>cases h2;exact dW (hQ H1 e1)⟩
theorem qh(ha:JT X a ta)(hb:JW X (.BoolOp .Or (b::rest) pos) tb):JW X (.BoolOp .Or (a::b::rest) pos) (bOr ta tb):=⟨have ha:=ha.h;have hb:=hb.h;
 qc (u1 ha hb) λσ H Q y4=>by
  obtain⟨ρ,b,hE,hf,hQ⟩:=y4;obtain⟨k,h1,h2⟩:=bind_some hf;refine⟨ρ,k,hE,h1,λH1 e1=>?_⟩;cases k with
  |false=>exact dW ⟨ρ,b,hE.mono e1,h2,λH2 e2=>hQ H2 (e1.trans e2)⟩
  |true=>cases h2;exact dX (hQ H1 e1)⟩
def fE(h:JW X a ta):JT X a ta:=⟨have h:=h.h;h.pt⟩
theorem jr(ha:JT X a ta):JT X (.UnaryOp .Not a pos) (fD ta):=⟨have ha:=ha.h;
 qd (u2 ha) λσ H Q ρ b hE hf hQ=>by
  unfold fD at hf;cases h1:ta ρ with
  |none=>rw[h1]at hf;cases hf
  |some k=>rw[h1]at hf;cases hf;exact⟨ρ,k,hE,h1,hQ⟩⟩
noncomputable def dh(f g:FE):FE:=λρ=>(f ρ).bind λd=>match d with | .bl true=>g ρ | .bl false=>some (.bl false)|_=>none
noncomputable def mF(f:FE):FE:=λρ=>(f ρ).bind λd=>match d with | .bl b=>some (.bl (!b))|_=>none
def gf{op}{f:FE}(h:JE X a f es):JE X (.BoolOp op [a] pos) f es:=⟨have h:=h.h;u6 h⟩
theorem eG(ha:JE X a fa ea)(hb:JE X (.BoolOp .And (b::rest) pos) fb eb):JE X (.BoolOp .And (a::b::rest) pos) (dh fa fb) eb:=⟨have ha:=ha.h;have hb:=hb.h;
 eB (u7 ha hb) λσ H Q ρ d hE hf hQ=>by
  obtain⟨k,h1,h2⟩:=bind_some hf;refine⟨ρ,k,hE,h1,λx H1 p1=>?_⟩;cases k with
  | bl b=>
    cases p1.rep;refine⟨b,rfl,?_⟩;cases b with
    |true=>exact dX ⟨ρ,d,hE.mono p1.same,h2,λv H2 p2=>hQ v H2 (p2.down p1.same)⟩
    |false=>cases h2;exact dW (hQ _ H1 ⟨p1.same,.bl _,λA _ _=>.bl _⟩)
  |_=>cases h2⟩
theorem Ef(ha:JE X a fa ea):JE X (.UnaryOp .Not a pos) (mF fa) []:=⟨have ha:=ha.h;
 eB (u8 ha) λσ H Q ρ d hE hf hQ=>by
  obtain⟨k,h1,h2⟩:=bind_some hf;refine⟨ρ,k,hE,h1,λx H1 p1=>?_⟩;cases k with
  |bl b=>cases p1.rep;cases h2;exact⟨b,rfl,hQ _ H1 ⟨p1.same,.bl _,λA _ _=>.bl _⟩⟩
  |_=>cases h2⟩
noncomputable def eIf(t:ah->B_)(f g:FE):FE:=λρ=>(t ρ).bind λb=>if b=true then f ρ else g ρ
theorem qi(hc:JT X c ta)(ha:JE X a fa ea)(hb:JE X b fb eb):JE X (.IfExp c a b pos) (eIf ta fa fb) (ea++eb):=⟨have hc:=hc.h;have ha:=ha.h;have hb:=hb.h;
 eB (u9 hc ha hb) λσ H Q ρ d hE hf hQ=>by
  obtain⟨k,h1,h2⟩:=bind_some hf;refine⟨ρ,k,hE,h1,λH1 e1=>?_⟩;have fin:∀{es':J_} {v H2},(∀z∈es',z∈ea++eb)->Post X.K σ ρ H1 es' d v H2->Q v H2:=λ{es' v H2} hs p2=>hQ v H2 ⟨e1.trans p2.same,p2.rep,λA hA hz=>p2.av A (hA.mono e1) λz q=>(hz z (hs z q)).mono e1⟩
  cases k with
  |true=>exact dX ⟨ρ,d,hE.mono e1,h2,λv H2 p2=>fin (λz q=>z8i _ q) p2⟩
  |false=>exact dW ⟨ρ,d,hE.mono e1,h2,λv H2 p2=>fin (λz q=>z9s _ q) p2⟩⟩
noncomputable def aj:FEs:=λ_=>some []
noncomputable def aa(f:FE)(g:FEs):FEs:=λρ=>(f ρ).bind λd=>(g ρ).bind λds=>some (d::ds)
def am:JA X [] aj []:=⟨kF c5 λσ H Q y4=>by obtain⟨ρ,ds,hE,hf,hQ⟩:=y4;cases hf;exact hQ [] H ⟨Same.refl H,.nil,λ_ _ _=>.nil⟩⟩
def ad{xs:l_}{fs:FEs}(ha:JE X a fa ea)(hr:JA X xs fs eb)(hs:SE a xs X<|>J7):JA X (a::xs) (aa fa fs) (ea++eb):=⟨have ha:=ha.h;have hr:=hr.h;
 kF (bP ha hr hs) λσ H Q y4=>by obtain⟨ρ,ds,hE,hf,hQ⟩:=y4;obtain⟨d,h1,hf⟩:=bind_some hf;obtain⟨dr,h2,hf⟩:=bind_some hf;cases hf;refine⟨ρ,d,hE,h1,λv H1 p1=>⟨ρ,dr,hE.mono p1.same,h2,λvs H2 p2=>hQ _ H2 ⟨p1.same.trans p2.same,.cons (aw p2.same p1.rep) p2.rep,λA hA hz=>?_⟩⟩⟩;exact .cons (aw (cy p2.same) (p1.av A hA λz q=>hz z (z8i _ q))) (p2.av A (hA.mono p1.same) λz q=>(hz z (z9s _ q)).mono p1.same)⟩
noncomputable def c8(f:FEs):FE:=λρ=>(f ρ).bind λds=>if ds.length<=1000 then some (.lst ds)else none
noncomputable def ip(f:FEs):FE:=λρ=>(f ρ).bind λds=>if ds.length<=1000 then some (.tup ds)else none
def kO(h:n<=1000):n<=sizeLine:=z4n (DJ h)
def bz{α:Type}{c:Prop}[Decidable c]{a b:α}(h:(if c then some a else none)=some b):c/\a=b:=by
 by_cases q:c
 ·rw[if_pos q]at h;exact⟨q,z7b h⟩
 ·rw[if_neg q]at h;cases h
def cY{xs:l_}{fs:FEs}(h:JA X xs fs es):JF X (.List xs pos) (c8 fs) es:=⟨have h:=h.h;
 ie (md h) λσ H Q ρ d hE hf hQ=>by obtain⟨ds,h1,hf⟩:=bind_some hf;obtain⟨hl,rfl⟩:=bz hf;refine⟨ρ,ds,hE,h1,λvs H1 p=>⟨by rw[p.rep.length];exact kO hl,λl hl1=>hQ _ _ ⟨p.same.trans (bg hl1 _),⟨l,vs,ds,rfl,rfl,p.same.free hl1,bj,λA hA hz=>?_⟩⟩⟩⟩;refine aQ (λb o q=>?_) (p.av A hA hz);obtain⟨n,q⟩:=er q;have ne:b≠l:=c6 q hl1;rw[c7 (λz=>z.elim n ne),aH ne];exact q⟩
def mG{xs:l_}{fs:FEs}{x1}(h:JA X xs fs es):JE X (.Tuple xs x1 pos) (ip fs) es:=⟨have h:=h.h;
 eB (uC h) λσ H Q ρ d hE hf hQ=>by obtain⟨ds,h1,hf⟩:=bind_some hf;obtain⟨hl,rfl⟩:=bz hf;refine⟨ρ,ds,hE,h1,λvs H1 p=>⟨by rw[p.rep.length];exact kO hl,λl hl1=>hQ _ _ ⟨p.same.trans (bg hl1 _),.tup bj (aQ (bg hl1 _) p.rep),λA hA hz=>?_⟩⟩⟩;have hA1:=hA.mono p.same;refine .tup ?_ (aQ (cy (bg hl1 _)) (p.av A hA hz));rw[c7 (hA1.not_new hl1)];exact bj⟩
end
structure PostB (K:K0) (σ:St) (ρ:ah) (H:Hp) (es:J_) (d:D) (v:V) (H':Hp):Prop where
 same:Same H H'
 rep:Rep K H' v d
 av:∀A,Dom H A->(∀e∈es,Av K H σ ρ A e)->ElR K H' A v d
def tvB(K:K0)(f:FE)(es:J_):TE:=λσ H Q=>∃ρ d,EnvR K H σ ρ/\f ρ=some d/\∀v H',PostB K σ ρ H es d v H'->Q v H'
abbrev VB(X:Cx)(e:Expr)(f:FE)(es:J_):Prop:=PE X e (tvB X.K f es)
structure JB (X:Cx) (e:Expr) (f:FE) (es:J_):Prop where
 h:VB X e f es
def vq{f:FE}{es:J_}(h:PE X e t)(i:∀σ H Q ρ d,EnvR X.K H σ ρ->f ρ=some d->(∀v H',PostB X.K σ ρ H es d v H'->Q v H')->t σ H Q):PE X e (tvB X.K f es):=cP h λσ H Q y4=>by obtain⟨ρ,d,hE,hf,hQ⟩:=y4;exact i σ H Q ρ d hE hf hQ
def PostB.up{ρ:ah}{es:J_}{d:D}(h:PostB K σ ρ H es d v H1)(e:Same H1 H2):PostB K σ ρ H es d v H2:=
 ⟨h.same.trans e,aw e h.rep,λA hA ha=>(h.av A hA ha).mono e⟩
def PostB.down{ρ:ah}{es:J_}{d:D}(h:PostB K σ ρ H1 es d v H2)(e:Same H H1):PostB K σ ρ H es d v H2:=
 ⟨e.trans h.same,h.rep,λA hA ha=>h.av A (hA.mono e) λx hx=>(ha x hx).mono e⟩
section
variable {es ea eb:J_}{fa fb:FE}
def dE(h:JE X a fa es):JB X a fa es:=⟨have h:=h.h;vq h λσ H Q ρ d hE hf hQ=>⟨ρ,d,hE,hf,λv H' p=>hQ v H' ⟨p.same,p.rep,λA hA ha=>(p.av A hA ha).el⟩⟩⟩
def aM(i:Nat)(hN:X.N[i]?=some x<|>J7)(hv:Vis X.env.scope x<|>J9)(hd:DB x<|>J8)(hcd:(x==("__classdict__" : Str))=false<|>J8):JB X (.Name x pos) (a5 i) [.el i]:=⟨
 vq (gG hN hv hd hcd) λσ H Q ρ d hE hf hQ=>by have h:=ig hf;obtain⟨v,hv,r⟩:=hE i d h;exact⟨v,hv,hQ v H ⟨Same.refl H,r,λA _ av=>av (.el i) (z9w.mpr rfl) v d hv h⟩⟩⟩
noncomputable def items:D->Option E_
 |.lst ds=>some ds
 |.tup ds=>some ds
 |.scr ns=>some (ns.map .int)
 |_=>none
def iq{d:D}{ds:E_}(r:Rep K H v d)(h:items d=some ds):∃p xs,v=V.ref p/\(SqL K H p xs\/SqT K H p xs)/\Reps K H xs ds/\∀A,ElR K H A v d->Reps K (aq H A) xs ds:=by
 cases r with
 | @lst p xs ds' h1 h2=>
   cases h;refine⟨p,xs,rfl,.inl (.inl h1),h2,λA e=>?_⟩;rcases e with(e|⟨_,e⟩)|⟨q,ys,es',e,⟨e1,e2⟩|⟨e1,e2⟩,e3⟩
   ·cases e
   ·cases e
   ·cases e;cases e1;rw[gM h1 e2];exact e3
   ·cases e1
 | @tup p xs ds' h1 h2=>
   cases h;have h1:=eh h1;refine⟨p,xs,rfl,.inr (.inl h1),h2,λA e=>?_⟩;rcases e with(e|⟨_,e⟩)|⟨q,ys,es',e,⟨e1,e2⟩|⟨e1,e2⟩,e3⟩
   ·cases e
   ·cases e
   ·cases e1
   ·cases e;cases e1;rw[kD h1 e2];exact e3
 |@scr p ns h1=>cases h;exact⟨p,_,rfl,.inl h1,Reps.ints ns,λA _=>Reps.ints ns⟩
 |_=>cases h
noncomputable def di:D->Bool
 |.tup _=>true
 |_=>false
def fF{d:D}{ds:E_}(r:Rep K H v d)(h:items d=some ds)(n:di d=false):∃p xs,v=V.ref p/\SqL K H p xs/\Reps K H xs ds/\∀A,ElR K H A v d->Reps K (aq H A) xs ds:=by
 cases r with
 | @lst p xs ds' h1 h2=>
   cases h;refine⟨p,xs,rfl,.inl h1,h2,λA e=>?_⟩;rcases e with(e|⟨_,e⟩)|⟨q,ys,es',e,⟨e1,e2⟩|⟨e1,e2⟩,e3⟩
   ·cases e
   ·cases e
   ·cases e;cases e1;rw[gM h1 e2];exact e3
   ·cases e1
 |@scr p ns h1=>cases h;exact⟨p,_,rfl,h1,Reps.ints ns,λA _=>Reps.ints ns⟩
 |tup _ _=>cases n
 |_=>cases h
def eI{ds:E_}(r:Rep K H v (.lst ds)):∃p xs,v=V.ref p/\Rd H p (.lst xs)/\Reps K H xs ds/\∀A,ElR K H A v (.lst ds)->Reps K (aq H A) xs ds:=by
 cases r with
 | @lst p xs _ h1 h2=>
   refine⟨p,xs,rfl,h1,h2,λA e=>?_⟩;rcases e with(e|⟨_,e⟩)|⟨q,ys,es',e,⟨e1,e2⟩|⟨e1,e2⟩,e3⟩
   ·cases e
   ·cases e
   ·cases e;cases e1;rw[gM h1 e2];exact e3
   ·cases e1
def ixD:D->D->F_
 |x,.int i=>(items x).bind λds=>atI ds i
 |_,_=>none
def kP{ds:E_}{i:Int}{d:D}(r:Reps K H xs ds)(h:atI ds i=some d):∃v,atI xs i=some v/\Rep K H v d:=by unfold atI at h ⊢;rw[r.length];obtain⟨j,h1,h2⟩:=bind_some h;obtain⟨v,h3,h4⟩:=r.get h2;exact⟨v,by rw[h1];exact h3,h4⟩
theorem bn(ha:JB X a fa ea)(hb:JE X b fb eb)(hs:ib b):JE X (.Subscript a b pos) (e2 ixD fa fb) ea:=⟨have ha:=ha.h;have hb:=hb.h;
 eB (jf (ix_list.or mh) ha hb hs) λσ H Q ρ d hE hf hQ=>by
  obtain⟨dx,h1,hf⟩:=bind_some hf;obtain⟨dy,h2,hf⟩:=bind_some hf;refine⟨ρ,dx,hE,h1,λx H1 p1=>⟨ρ,dy,hE.mono p1.same,h2,λy H2 p2=>?_⟩⟩;have q1:=p1.up p2.same;cases dy with
  | int i=>
    cases p2.rep;obtain⟨ds,h3,h4⟩:=bind_some hf;obtain⟨p,xs,rfl,hp,hx,hA⟩:=iq q1.rep h3;obtain⟨v,h5,h6⟩:=kP hx h4;have fin:Q v H2:=hQ v H2 ⟨q1.same,h6,λA hD hz=>by obtain⟨v',h7,h8⟩:=kP (hA A (q1.av A hD hz)) h4;rw[h5]at h7;cases h7;exact h8⟩
    rcases hp with hp|hp
    ·exact .inl ⟨p,xs,i,v,rfl,rfl,hp,h5,fin⟩
    ·exact .inr ⟨p,xs,i,v,rfl,rfl,hp,h5,fin⟩
  |_=>cases hf⟩
def ir{ρ:ah}{es:J_}{ds:E_}(e:Same H H1)(hl:H1 l=none)(h:∀A,Dom H A->(∀z∈es,Av K H σ ρ A z)->Reps K (aq H1 A) xs ds):PostF K σ ρ H es (.lst ds) (.ref l) (upd H1 l (.lst xs)):=by refine⟨e.trans (bg hl _),⟨l,xs,ds,rfl,rfl,e.free hl,bj,λA hA hz=>?_⟩⟩;refine aQ (λb o q=>?_) (h A hA hz);obtain⟨n,q⟩:=er q;have ne:b≠l:=c6 q hl;rw[c7 (λz=>z.elim n ne),aH ne];exact q
def dO{α:Type}(xs:List α)(lo hi:A_):List α:=(xs.drop (HT.sIx xs.length 0 lo)).take (HT.sIx xs.length xs.length hi-HT.sIx xs.length 0 lo)
def vt{ds:E_}(r:Reps K H xs ds)(lo hi:A_):Reps K H (je xs lo hi) (dO ds lo hi):=by unfold je dO;rw[r.length];exact(r.drop _).take _
abbrev FO:=ah->Option A_
def tvO(K:K0)(f:FO):TO:=λσ H Q=>∃ρ o,EnvR K H σ ρ/\f ρ=some o/\∀H',Same H H'->Q o H'
abbrev VO(X:Cx)(e:Option Expr)(f:FO):Prop:=PO X e (tvO X.K f)
structure JO (X:Cx) (e:Option Expr) (f:FO):Prop where
 h:VO X e f
def vz{e:Option Expr}{t t':TO}(h:PO X e t)(i:∀σ H Q,t' σ H Q->t σ H Q):PO X e t':=λG_ s σ H Q I q=>h G_ s σ H Q I (i σ H Q q)
noncomputable def eJ:FO:=λ_=>some none
noncomputable def dF(f:FE):FO:=λρ=>(f ρ).bind λd=>match d with | .int i=>some (some i)|_=>none
def gg:JO X none eJ:=⟨vz me λσ H Q y4=>by obtain⟨ρ,o,hE,hf,hQ⟩:=y4;cases hf;exact hQ H (Same.refl H)⟩
def f8(h:JE X a fa ea):JO X (some a) (dF fa):=⟨have h:=h.h;vz (mf h) λσ H Q y4=>by
 obtain⟨ρ,o,hE,hf,hQ⟩:=y4;obtain⟨d,h1,hf⟩:=bind_some hf;refine⟨ρ,d,hE,h1,λv H' p=>?_⟩;cases d<;>simp only at hf<;>cases hf
 cases p.rep;exact⟨_,rfl,hQ H' p.same⟩⟩
def eSl(fa:FE)(lo hi:FO):FE:=λρ=>(fa ρ).bind λx=>(lo ρ).bind λl=>(hi ρ).bind λh=>if di x=true then none else(items x).bind λds=>some (.lst (dO ds l h))
theorem vA{lo:Option Expr}{flo fhi:FO}(ha:JB X a fa ea)(hl:JO X lo flo)(hh:JO X hi fhi):JF X (.Subscript a (.Slice lo hi none p2) pos) (eSl fa flo fhi) ea:=⟨have ha:=ha.h;have hl:=hl.h;have hh:=hh.h;
 ie (kt uP ha hl hh) λσ H Q ρ d hE hf hQ=>by
  obtain⟨dx,h1,hf⟩:=bind_some hf;obtain⟨l,h2,hf⟩:=bind_some hf;obtain⟨h,h3,hf⟩:=bind_some hf;refine⟨ρ,dx,hE,h1,λx H1 p1=>⟨ρ,l,hE.mono p1.same,h2,λH2 e2=>⟨ρ,h,hE.mono (p1.same.trans e2),h3,λH3 e3=>?_⟩⟩⟩;have q:=p1.up (e2.trans e3);cases ht:di dx with
  |true=>rw[if_pos ht]at hf;cases hf
  |false=>rw[if_neg (by rw[ht];exact z8g)]at hf;obtain⟨ds,h4,hf⟩:=bind_some hf;cases hf;obtain⟨p,xs,rfl,hp,hx,hA⟩:=fF q.rep h4 ht;exact⟨p,xs,rfl,hp,λr hr=>hQ _ _ (ir q.same hr λA hD hz=>vt (hA A (q.av A hD hz)) l h)⟩⟩
def vB:R2:=λx y H Q=>∃l b xs zs,x=.ref l/\y=.ref b/\Rd H l (.lst xs)/\Rd H b (.lst zs)/\xs.length+zs.length<=sizeLine/\∀p,H p=none->Q (.ref p) (upd H p (.lst (xs++zs)))
def mH(I:Inv X G_ σ H s)(h:Rd H l (.lst xs)):xs.length<=sizeLine/\∃(its:k_) (n:Nat),Vals xs its/\xs.length=its.length/\s.heap.get? l=some {cls:=.type "list",data:=.seq its.toArray n}:=by obtain⟨z,its,n,r,e⟩:=h.ok I.hok;exact⟨z,its,n,r,r.length,e⟩
def mI:OpR X (binaryOp .Add) vB:=by
 intro G_ s σ H x y v u Q I rx ry h;obtain⟨l,b,xs,zs,rfl,rfl,hH,hB,hz,q⟩:=h;cases rx;cases ry;obtain⟨z,its,n,r,hl,e⟩:=mH I hH;obtain⟨z2,its2,n2,r2,hl2,e2⟩:=mH I hB;refine PySem.P.add_list e e2 ?_ (by rw[z9q,z9q];ext);have ea:its.toArray++its2.toArray=(its++its2).toArray:=by simp
 rw[ea];exact⟨.ref _,_,I.lnew (t':=s.toks) (r.append r2) (by rw[z9f];ext),rfl,q _ I.fresh⟩
noncomputable def dP:D->D->F_
 |.lst xs,.lst ys=>if xs.length+ys.length<=100000 then some (.lst (xs++ys))else none
 |_,_=>none
def cR(h:n<=100000):n<=sizeLine:=z7o h (by decide)
theorem js(ha:JB X a fa ea)(hb:JB X b fb eb):JF X (.BinOp a .Add b pos) (e2 dP fa fb) (ea++eb):=⟨have ha:=ha.h;have hb:=hb.h;
 ie (jc mI ha hb) λσ H Q ρ d hE hf hQ=>by
  obtain⟨dx,h1,hf⟩:=bind_some hf;obtain⟨dy,h2,hf⟩:=bind_some hf;refine⟨ρ,dx,hE,h1,λx H1 p1=>⟨ρ,dy,hE.mono p1.same,h2,λy H2 p2=>?_⟩⟩;have q1:=p1.up p2.same;have q2:=p2.down p1.same;cases dx with
  | lst ds=>
    cases dy with
    |lst es'=>obtain⟨hl,rfl⟩:=bz hf;obtain⟨p,xs,rfl,hp,hx,hA⟩:=eI q1.rep;obtain⟨p',ys,rfl,hp',hy,hA'⟩:=eI q2.rep;refine⟨p,p',xs,ys,rfl,rfl,hp,hp',by rw[hx.length,hy.length];exact cR hl,λr hr=>hQ _ _ (ir q1.same hr λA hD hz=>?_)⟩;exact(hA A (q1.av A hD λz w=>hz z (z8i _ w))).append (hA' A (q2.av A hD λz w=>hz z (z9s _ w)))
    |_=>cases hf
  |_=>cases hf⟩
noncomputable def mJ:D->D->F_
 |.lst xs,.int k=>if xs.length*k.toNat<=100000/\k<100000/\-100000<k then some (.lst (List.replicate k.toNat xs).flatten)else none
 |_,_=>none
theorem vC(ha:JF X a fa ea)(hb:JE X b fb eb):JF X (.BinOp a .Mult b pos) (e2 mJ fa fb) ea:=⟨have ha:=ha.h;have hb:=hb.h;
 ie (jc DD ha hb) λσ H Q ρ d hE hf hQ=>by
  obtain⟨dx,h1,hf⟩:=bind_some hf;obtain⟨dy,h2,hf⟩:=bind_some hf;refine⟨ρ,dx,hE,h1,λx H1 p1=>⟨ρ,dy,hE.mono p1.same,h2,λy H2 p2=>?_⟩⟩;obtain⟨l,xs,ds,rfl,rfl,hl0,hl1,hA⟩:=p1.new;cases dy with
  |int k=>cases p2.rep;obtain⟨⟨hl,hk1,hk2⟩,rfl⟩:=bz hf;have hx:Reps X.K H1 xs ds:=aQ (aR _ _) (hA eW (Dom.none H) λe _=>Av.none hE e);refine⟨l,k,xs,rfl,rfl,p2.same _ _ hl1,by ext,by ext,by rw[hx.length];exact cR hl,λr hr=>hQ _ _ (ir (p1.same.trans p2.same) hr λA hD hz=>?_)⟩;exact(aQ (cH p2.same λ_ q=>.inl q) (hA A hD hz)).rep k.toNat
  |_=>cases hf⟩
def bC:D->F_:=λd=>(items d).bind λds=>some (.int ds.length)
noncomputable def ar(g:D->F_):E_->F_
 |[x]=>g x
 |_=>none
noncomputable def dj(g:D->D->F_):E_->F_
 |[x,y]=>g x y
 |_=>none
noncomputable def eA(f:E_->F_)(as:FEs):FE:=λρ=>(as ρ).bind f
def fG(K:K0)(r:C_->Hp->VK->Prop)(g:E_->F_):Prop:=
 ∀(xs:C_) (H:Hp) (ds:E_) (d:D) (Q:VK),Reps K H xs ds->g ds=some d->(∀v,(∀H',Rep K H' v d)->Q v H)->r xs H Q
def jt{id:String}{r:C_->Hp->VK->Prop}{g:E_->F_}{xs:l_}{as:FEs}(hc:cN X (.builtin id) r)(hv:fG X.K r g)(hm:X.mg x=none)(hb:bootBuiltins x=some (.builtin id))(ha:VA X (a::xs) as es)(hg:Gl X x<|>J7)(hn:x ≠ "__name__"<|>J8)(hdb:DB x<|>J8)(he:SE a xs X<|>J7)(hpl:BT pos xs X<|>J7):
  VE X (.Call (.Name x p) (a::xs) [] pos) (eA g as) []:=
 eB (kr hc hg hm hb ha hn hdb he hpl) λσ H Q ρ d hE hf hQ=>by obtain⟨ds,h1,hf⟩:=bind_some hf;exact⟨ρ,ds,hE,h1,λvs H1 p=>hv vs H1 ds d Q p.rep hf λv hr=>hQ v H1 ⟨p.same,hr _,λA _ _=>hr _⟩⟩
def fH{d:D}(h:Reps K H vs [d]):∃v,vs=[v]/\Rep K H v d:=by
 cases h with
 |cons h1 h2=>cases h2;exact⟨_,rfl,h1⟩
def qj{d e:D}(h:Reps K H vs [d,e]):∃v w,vs=[v,w]/\Rep K H v d/\Rep K H w e:=by
 cases h with
 | cons h1 h2=>
   cases h2 with
   |cons h3 h4=>cases h4;exact⟨_,_,rfl,h1,h3⟩
def iu{g:D->F_}{ds:E_}{d:D}(h:ar g ds=some d):∃x,ds=[x]/\g x=some d:=by
 match ds,h with
 |[x],h=>exact⟨x,rfl,h⟩
def qk{g:D->D->F_}{ds:E_}{d:D}(h:dj g ds=some d):∃x y,ds=[x,y]/\g x y=some d:=by
 match ds,h with
 |[x,y],h=>exact⟨x,y,rfl,h⟩
def vD:fG X.K (λxs H Q=>∃p ys,xs=[.ref p]/\(SqL X.K H p ys\/SqT X.K H p ys)/\Q (.int ys.length) H) (ar bC):=by intro xs H ds d Q r hg hQ;obtain⟨x,rfl,hg1⟩:=iu hg;obtain⟨v,rfl,r1⟩:=fH r;obtain⟨es,h1,hg2⟩:=bind_some hg1;cases hg2;obtain⟨p,ys,rfl,hp,hx,_⟩:=iq r1 h1;exact⟨p,ys,rfl,hp,hQ _ λH'=>by rw[hx.length];exact .int _⟩
def cS{as:FEs}(ml:X.mg "len"=none)(ha:JA X [a] as es)(hg:Gl X "len"<|>J7)(he:SE a [] X<|>J7)(hpl:BT pos [] X<|>J7):
  JE X (.Call (.Name "len" p) [a] [] pos) (eA (ar bC) as) []:=⟨have ha:=ha.h;jt uS vD ml PySem.boot_len ha hg (by decide) (by decide) he hpl⟩
def gh:D->F_:=λd=>(items d).bind λds=>some (.lst ds)
def kQ(ml:X.mg "list"=none)(ha:JB X a fa ea)(hg:Gl X "list"<|>J7)(he:SE a [] X<|>J7)(hpl:BT pos [] X<|>J7):
  JF X (.Call (.Name "list" p) [a] [] pos) (e1 gh fa) ea:=⟨have ha:=ha.h;
 ie (gK uT hg ml (by decide +kernel) (bP ha c5 he) (by decide) (by decide) he hpl) λσ H Q ρ d hE hf hQ=>by obtain⟨dx,h1,hf⟩:=bind_some hf;obtain⟨ds,h2,hf⟩:=bind_some hf;cases hf;refine⟨ρ,dx,hE,h1,λx H1 p1=>?_⟩;obtain⟨p,xs,rfl,hp,hx,hA⟩:=iq p1.rep h2;exact⟨p,xs,rfl,hp,λl hl=>hQ _ _ (ir p1.same hl λA hD hz=>hA A (p1.av A hD hz))⟩⟩
noncomputable def iw:E_->Option z9
 |[]=>some []
 |.int i::r=>(iw r).map (i::·)
 |_::_=>none
theorem vE:∀{ds:E_} {ns:z9},iw ds=some ns->ds=ns.map D.int
 |[],ns,h=>by cases h;rfl
 | .int i::r,ns,h=>by
   simp only[iw]at h;cases e:iw r with
   |none=>rw[e]at h;cases h
   |some ms=>rw[e]at h;cases h;rw[vE e];rfl
 |.non::_,_,h=>by cases h
 |.bl _::_,_,h=>by cases h
 |.str _::_,_,h=>by cases h
 |.lst _::_,_,h=>by cases h
 |.tup _::_,_,h=>by cases h
 |.scr _::_,_,h=>by cases h
theorem vF{K:K0}{H:Hp}:∀{ns:z9} {xs:C_},Reps K H xs (ns.map D.int)->xs=ns.map V.int
 |[],xs,h=>by cases h;rfl
 | n::ns,xs,h=>by
   cases h with
   |cons h1 h2=>cases h1;rw[vF h2];rfl
def vG(hc:X.calm=true):cN X (.builtin "sum") (λxs H Q=>∃(p:Addr) (ns:z9),xs=[.ref p]/\SqL X.K H p (ns.map V.int)/\Q (.int ns.sum) H):=by
 intro G_ s σ H xs us Q I r h;obtain⟨p,ns,rfl,hp,q⟩:=h;obtain⟨u,rfl,ru⟩:=df r;cases ru;obtain⟨its,rv,pl,hz⟩:=I.list hp;have hi:=Di rv;obtain⟨ys,e⟩:=hi.allInts.items;have hl:=pl.isList;rw[e]at hl;refine sum_intListG (I.ok.hd hc) hl λh' tk t' hk=>?_
 have e2:preSum (numAt ys) ys.size=ns.sum:=by rw[preSum_eq,z7r (by simp),<- hi.numsOf];rw[show its=its.toArray.toList from rfl,e,nums_intItems]
 rw[e2];exact⟨.int ns.sum,H,I.kept (t':=tk) hk,⟨_,rfl⟩,q⟩
def f9:D->F_:=λd=>if di d=true then none else(items d).bind λds=>(iw ds).bind λns=>some (.int ns.sum)
def vH:fG X.K (λxs H Q=>∃(p:Addr) (ns:z9),xs=[.ref p]/\SqL X.K H p (ns.map V.int)/\Q (.int ns.sum) H) (ar f9):=by
 intro xs H ds d Q r hg hQ;obtain⟨x,rfl,hg1⟩:=iu hg;obtain⟨v,rfl,r1⟩:=fH r;unfold f9 at hg1;cases ht:di x with
 |true=>rw[if_pos ht]at hg1;cases hg1
 |false=>rw[if_neg (by rw[ht];exact z8g)]at hg1;obtain⟨es,h1,hg2⟩:=bind_some hg1;obtain⟨ns,h2,hg3⟩:=bind_some hg2;cases hg3;obtain⟨p,ys,rfl,hp,hx,_⟩:=fF r1 h1 ht;rw[vE h2]at hx;rw[vF hx]at hp;exact⟨p,ns,rfl,hp,hQ _ λH'=>.int _⟩
def ql{as:FEs}(hc:X.calm=true)(ml:X.mg "sum"=none)(ha:JA X [a] as es)(hg:Gl X "sum"<|>J7)(he:SE a [] X<|>J7)(hpl:BT pos [] X<|>J7):
  JE X (.Call (.Name "sum" p) [a] [] pos) (eA (ar f9) as) []:=⟨have ha:=ha.h;jt (vG hc) vH ml PyProof.Rows.boot_sum ha hg (by decide) (by decide) he hpl⟩
noncomputable def ff:D->D->F_
 |.int i,.int j=>some (.int (if j > i then j else i))
 |_,_=>none
noncomputable def iy:D->D->F_
 |.int i,.int j=>some (.int (if j<i then j else i))
 |_,_=>none
def vI:fG X.K (λxs H Q=>∃i j,xs=[.int i,.int j]/\Q (.int (if j > i then j else i)) H) (dj ff):=by
 intro xs H ds d Q r hg hQ;obtain⟨x,y,rfl,hg1⟩:=qk hg;obtain⟨v,w,rfl,r1,r2⟩:=qj r;clear hg r;unfold ff at hg1;split at hg1
 ·cases hg1;cases r1;cases r2;exact⟨_,_,rfl,hQ _ λH'=>.int _⟩
 ·cases hg1
def Eg:fG X.K (λxs H Q=>∃i j,xs=[.int i,.int j]/\Q (.int (if j<i then j else i)) H) (dj iy):=by
 intro xs H ds d Q r hg hQ;obtain⟨x,y,rfl,hg1⟩:=qk hg;obtain⟨v,w,rfl,r1,r2⟩:=qj r;clear hg r;unfold iy at hg1;split at hg1
 ·cases hg1;cases r1;cases r2;exact⟨_,_,rfl,hQ _ λH'=>.int _⟩
 ·cases hg1
def qm{as:FEs}(hc:X.calm=true)(ml:X.mg "max"=none)(ha:JA X [a,b] as es)(hg:Gl X "max"<|>J7)(he:SE a [b] X<|>J7)(hpl:BT pos [b] X<|>J7):
  JE X (.Call (.Name "max" p) [a,b] [] pos) (eA (dj ff) as) []:=⟨have ha:=ha.h;jt (uw hc) vI ml PyProof.Rows.boot_max ha hg (by decide) (by decide) he hpl⟩
def vJ{as:FEs}(hc:X.calm=true)(ml:X.mg "min"=none)(ha:JA X [a,b] as es)(hg:Gl X "min"<|>J7)(he:SE a [b] X<|>J7)(hpl:BT pos [b] X<|>J7):
  JE X (.Call (.Name "min" p) [a,b] [] pos) (eA (dj iy) as) []:=⟨have ha:=ha.h;jt (CS hc) Eg ml PyProof.Rows.boot_min ha hg (by decide) (by decide) he hpl⟩
noncomputable def tyD:D->String
 |.non=>"NoneType" | .bl _=>"bool" | .int _=>"int" | .str _=>"str" | .lst _=>"list" | .tup _=>"tuple" | .scr _=>"list" | .dct _ _=>"dict" | .ptr _=>"list"
noncomputable def iz(T:String)(t:String):Bool:=t==T||(T=="int" && t=="bool")
end
inductive Out where
 |nx (ρ:ah)
 |rt (d:D)
 |bk (ρ:ah)
 |ct (ρ:ah)
abbrev FS:=ah->Option Out
def Eh(σ:St)(O:z8):Addr->Prop:=λa=>∃i∈O,σ[i]?=some (some (V.ref a))
structure Fr0 where
 H0:Hp
 PA:(Addr->Prop)->Prop
 n:Nat
 dom:∀A,PA A->Dom H0 A
 none:PA eW
structure Hd where
 P:Hp->Prop
 up:∀H H',Same H H'->P H->P H'
def HdOk(K:K0)(H:Hp)(p:Hd):Prop:=p.P H
def HdOk.mono{p:Hd}(e:Same H H')(h:HdOk K H p):HdOk K H' p:=p.up H H' e h
noncomputable def hdL(K:K0)(q:Addr)(xs:C_)(ds:E_):Hd:=⟨λH=>SqL K H q xs/\Reps K H xs ds,λ_ _ e h=>⟨e.seq h.1,aQ e h.2⟩⟩
def hdD(q:Addr)(o:Obj)(kvs:List (Int×Int)):Hd:=⟨λH=>H q=some (.frz o (.dK (kC kvs))),λ_ _ e h=>e _ _ h⟩
def OwnC(K:K0)(H:Hp)(o:HO)(d:D):Prop:=(∃xs ds,o=.lst xs/\d=.lst ds/\Reps K H xs ds)\/∃kvs,o=.dK (kC kvs)/\d=.dct false kvs
def OwnC.mono{d:D}(e:Same H H')(h:OwnC K H o d):OwnC K H' o d:=by
 rcases h with⟨xs,ds,h1,h2,h3⟩|h
 ·exact .inl ⟨xs,ds,h1,h2,aQ e h3⟩
 ·exact .inr h
def OwnC.rep{a:Addr}{d:D}(ha:H a=some o)(h:OwnC K H' o d)(e:Same H' H):Rep K H (.ref a) d:=by
 rcases h with⟨xs,ds,rfl,rfl,h3⟩|⟨kvs,rfl,rfl⟩
 ·exact .lst (.inl ha) (aQ e h3)
 ·exact .dct (.inr ⟨rfl,ha⟩)
def OwnC.el{A:Addr->Prop}{a:Addr}{d:D}(ha:H a=some o)(h:OwnC K (aq H A) o d):ElR K H A (.ref a) d:=by
 rcases h with⟨xs,ds,rfl,rfl,h3⟩|⟨kvs,rfl,rfl⟩
 ·exact .inr ⟨a,xs,ds,rfl,.inl ⟨rfl,.inl ha⟩,h3⟩
 ·exact .inl (.inr ⟨_,rfl⟩)
def Off(σ:St)(O:z8)(A:Addr->Prop):Addr->Prop:=λb=>Eh σ O b\/A b
structure EnvO (K:K0) (F:Fr0) (J2:List Hd) (O:z8) (σ:St) (ρ:ah) (H:Hp):Prop where
 same:Same F.H0 H
 lσ:σ.length=F.n
 lρ:ρ.length=F.n
 val:∀i d,ρ[i]?=some (some d)->i∉O->∃v,σ[i]?=some (some v)/\∀A,F.PA A->Rep K (aq H (Off σ O A)) v d
 hld:∀p∈J2,∀A,F.PA A->HdOk K (aq H (Off σ O A)) p
 own:∀i∈O,∃a o d,σ[i]?=some (some (V.ref a))/\ρ[i]?=some (some d)/\H a=some o/\F.H0 a=Option.none/\∀A,F.PA A->OwnC K (aq H (Off σ O A)) o d
 inj:∀i∈O,∀j∈O,∀a,σ[i]?=some (some (V.ref a))->σ[j]?=some (some (V.ref a))->i=j
section
variable {F:Fr0}{J2:List Hd}{ρ:ah}
theorem EnvO.envR(h:EnvO K F J2 O σ ρ H):EnvR K H σ ρ:=λi d e=>by
 by_cases hi:i∈O
 ·obtain⟨a,xs,ds,h1,h2,h3,_,h5⟩:=h.own i hi
  rw[h2]at e;cases e;exact⟨_,h1,(h5 _ F.none).rep h3 (aR _ _)⟩
 ·obtain⟨v,h1,h2⟩:=h.val i d e hi
  exact⟨v,h1,aw (aR _ _) (h2 _ F.none)⟩
def kR(hs:∀i∈O',i∈O){A:Addr->Prop}:∀b,Off σ O' A b->Off σ O A b:=λb h=>by
 rcases h with⟨i,hi,e⟩|h
 ·exact .inl ⟨i,hs i hi,e⟩
 ·exact .inr h
theorem EnvO.weaken(h:EnvO K F J2 O σ ρ H)(hs:∀i∈O',i∈O):EnvO K F J2 O' σ ρ H:=by
 have up:∀{A:Addr->Prop},Same (aq H (Off σ O A)) (aq H (Off σ O' A)):=cH (λ_ _ q=>q) (kR hs);refine⟨h.same,h.lσ,h.lρ,λi d e hi=>?_,λp hp A hA=>(h.hld p hp A hA).mono up,λi hi=>?_,λi hi j hj=>h.inj i (hs i hi) j (hs j hj)⟩
 ·by_cases hi':i∈O
  ·obtain⟨a,xs,ds,h1,h2,h3,h4,h5⟩:=h.own i hi'
   rw[h2]at e;cases e;refine⟨_,h1,λA hA=>(h5 A hA).rep ?_ up⟩;rw[c7]
   ·exact h3
   ·rintro(⟨j,hj,ej⟩|q)
    ·exact hi (h.inj i hi' j (hs j hj) a h1 ej▸hj)
    ·exact F.dom A hA a q h4
  ·obtain⟨v,h1,h2⟩:=h.val i d e hi'
   exact⟨v,h1,λA hA=>aw up (h2 A hA)⟩
 ·obtain⟨a,xs,ds,h1,h2,h3,h4,h5⟩:=h.own i (hs i hi)
  exact⟨a,xs,ds,h1,h2,h3,h4,λA hA=>(h5 A hA).mono up⟩
def EnvO.up(h:EnvO K F J2 O σ ρ H)(e:Same H H'):EnvO K F J2 O σ ρ H':=
 ⟨h.same.trans e,h.lσ,h.lρ,λi d q hi=>let⟨v,h1,h2⟩:=h.val i d q hi;⟨v,h1,λA hA=>aw (cy e) (h2 A hA)⟩,λp hp A hA=>(h.hld p hp A hA).mono (cy e),
  λi hi=>let⟨a,xs,ds,h1,h2,h3,h4,h5⟩:=h.own i hi;⟨a,xs,ds,h1,h2,e _ _ h3,h4,λA hA=>(h5 A hA).mono (cy e)⟩,h.inj⟩
theorem EnvO.dom(h:EnvO K F J2 O σ ρ H){A:Addr->Prop}(hA:F.PA A):Dom H (Off σ O A):=λb q=>by
 rcases q with⟨i,hi,e⟩|q
 ·obtain⟨a,xs,ds,h1,h2,h3,_⟩:=h.own i hi
  rw[e]at h1;cases h1;rw[h3];exact λz=>nomatch z
 ·exact((F.dom A hA).mono h.same) b q
noncomputable def iA(O:z8):Es->Bool
 |.full j=>!O.contains j
 |.el _=>true
theorem EnvO.av(h:EnvO K F J2 O σ ρ H){A:Addr->Prop}(hA:F.PA A){e:Es}(he:iA O e=true):Av K H σ ρ (Off σ O A) e:=by
 have out:∀(j:Nat) (v:V) (d:D),j∉O->σ[j]?=some (some v)->ρ[j]?=some (some d)->Rep K (aq H (Off σ O A)) v d:=λj v d hj h1 h2=>by obtain⟨v',h3,h4⟩:=h.val j d h2 hj;rw[h1]at h3;cases h3;exact h4 A hA
 cases e with
 |full j=>exact λv d=>out j v d (by simpa [iA]using he)
 | el j=>
   intro v d h1 h2;by_cases hj:j∈O
   ·obtain⟨a,xs,ds,h3,h4,h5,_,h6⟩:=h.own j hj
    rw[h1]at h3;cases h3;rw[h2]at h4;cases h4;exact(h6 A hA).el h5
   ·exact(out j v d hj h1 h2).el
def cZ(O:z8)(es:J_):z8:=O.filter λi=>es.all (iA [i])
def mK{es:J_}:∀i∈cZ O es,i∈O:=λi h=>(z5b.mp h).1
def qo{es:J_}{e:Es}(he:e∈es):iA (cZ O es) e=true:=by
 cases e with
 |el j=>rfl
 |full j=>show(!(cZ O es).contains j)=true;rw[z4e,Bool.eq_false_iff];intro q;have q':=List.contains_iff_mem.mp q;have:=z9t.mp (z5b.mp q').2 _ he;simp[iA]at this
theorem EnvO.eval(h:EnvO K F J2 O σ ρ H){es:J_}{d:D}(p:Post K σ ρ H es d v H'):EnvO K F J2 (cZ O es) σ ρ H'/\∀A,F.PA A->Rep K (aq H' (Off σ (cZ O es) A)) v d:=by have h1:=h.weaken (O':=cZ O es) mK;exact⟨h1.up p.same,λA hA=>p.av _ (h1.dom hA) λe he=>h1.av hA (qo he)⟩
def vK{v:D_}{A:Addr->Prop}(hi:i∉O)(b:Addr):Off (σ.set i v) O A b↔Off σ O A b:=by
 have:∀j∈O,(σ.set i v)[j]?=σ[j]?:=λj hj=>z9g (λ(e:i=j)=>hi (e▸hj))
 constructor
 ·rintro(⟨j,hj,e⟩|q)
  ·exact .inl ⟨j,hj,by rw[this j hj]at e;exact e⟩
  ·exact .inr q
 ·rintro(⟨j,hj,e⟩|q)
  ·exact .inl ⟨j,hj,by rw[this j hj];exact e⟩
  ·exact .inr q
theorem EnvO.set(h:EnvO K F J2 O σ ρ H){d:D}(hi:i∉O)(hv:∀A,F.PA A->Rep K (aq H (Off σ O A)) v d):EnvO K F J2 O (σ.set i (some v)) (ρ.set i (some d)) H:=by
 have ne:∀{j:Nat},j∈O->i≠j:=λhj e=>hi (e▸hj)
 have up:∀{A:Addr->Prop},Same (aq H (Off σ O A)) (aq H (Off (σ.set i (some v)) O A)):=cH (λ_ _ q=>q) λb q=>(vK hi b).mp q
 refine⟨h.same,by rw[z8e];exact h.lσ,by rw[z8e];exact h.lρ,λj e q hj=>?_,λp hp A hA=>(h.hld p hp A hA).mono up,λj hj=>?_,λj hj k hk a e1 e2=>?_⟩
 ·by_cases e1:j=i
  ·subst e1
   have hl:j<ρ.length:=by
    have:=(z9e.mp q).1
    rwa [z8e]at this
   rw[z9r hl]at q;cases q;exact⟨v,z9r (by rw[h.lσ,<- h.lρ];exact hl),λA hA=>aw up (hv A hA)⟩
  ·rw[z9g (Ne.symm e1)]at q
   obtain⟨v',h1,h2⟩:=h.val j e q hj;exact⟨v',by rw[z9g (Ne.symm e1)];exact h1,λA hA=>aw up (h2 A hA)⟩
 ·obtain⟨a,xs,ds,h1,h2,h3,h4,h5⟩:=h.own j hj
  exact⟨a,xs,ds,by rw[z9g (ne hj)];exact h1,by rw[z9g (ne hj)];exact h2,h3,h4,λA hA=>(h5 A hA).mono up⟩
 ·rw[z9g (ne hj)]at e1
  rw[z9g (ne hk)]at e2;exact h.inj j hj k hk a e1 e2
theorem EnvO.setF(h:EnvO K F J2 O σ ρ H){es:J_}{d:D}(p:PostF K σ ρ H es d v H')(hn:i<F.n)(hi:i∉O)(he:∀e∈es,iA O e=true):EnvO K F J2 (i::O) (σ.set i (some v)) (ρ.set i (some d)) H':=by
 obtain⟨l,xs,ds,rfl,rfl,hl,hl',hr⟩:=p.new;have ne:∀{j:Nat},j∈O->i≠j:=λhj e=>hi (e▸hj)
 have at_i:(σ.set i (some (V.ref l)))[i]?=some (some (V.ref l)):=z9r (by rw[h.lσ];exact hn);have off:∀{A:Addr->Prop} (b:Addr),Off (σ.set i (some (V.ref l))) (i::O) A b↔(Off σ O A b\/b=l):=λ{A} b=>by
  constructor
  ·rintro(⟨j,hj,e⟩|q)
   ·rcases z9k.mp hj with e1|hj
    ·subst e1;rw[at_i]at e;cases e;exact .inr rfl
    ·rw[z9g (ne hj)]at e;exact .inl (.inl ⟨j,hj,e⟩)
   ·exact .inl (.inr q)
  ·rintro((⟨j,hj,e⟩|q)|rfl)
   ·exact .inl ⟨j,z9d _ hj,by rw[z9g (ne hj)];exact e⟩
   ·exact .inr q
   ·exact .inl ⟨i,z9a,at_i⟩
 have up:∀{A:Addr->Prop},Same (aq H (Off σ O A)) (aq H' (Off (σ.set i (some (V.ref l))) (i::O) A)):=λ{A} b o q=>by obtain⟨n,q⟩:=er q;rw[c7 λz=>((off b).mp z).elim n (c6 q hl)];exact p.same b o q
 refine⟨h.same.trans p.same,by rw[z8e];exact h.lσ,by rw[z8e];exact h.lρ,λj e q hj=>?_,λz hz A hA=>(h.hld z hz A hA).mono up,λj hj=>?_,λj hj k hk a e1 e2=>?_⟩
 ·have e1:j≠i:=λe=>hj (e▸z9a)
  rw[z9g (Ne.symm e1)]at q;obtain⟨v',h1,h2⟩:=h.val j e q λz=>hj (z9d _ z)
  exact⟨v',by rw[z9g (Ne.symm e1)];exact h1,λA hA=>aw up (h2 A hA)⟩
 ·by_cases e1:j=i
  ·subst e1
   refine⟨l,_,_,at_i,z9r (by rw[h.lρ];exact hn),hl',h.same.free hl,λA hA=>.inl ⟨xs,ds,rfl,rfl,?_⟩⟩;exact aQ (cH (λ_ _ q=>q) λb q=>(off b).mp q) (hr _ (h.dom hA) λe q=>h.av hA (he e q))
  ·have hj:j∈O:=(z9k.mp hj).resolve_left e1
   obtain⟨a,ys,es',h1,h2,h3,h4,h5⟩:=h.own j hj;exact⟨a,ys,es',by rw[z9g (Ne.symm e1)];exact h1,by rw[z9g (Ne.symm e1)];exact h2,p.same _ _ h3,h4,λA hA=>(h5 A hA).mono up⟩
 ·have key:∀{m:Nat} {b:Addr},m∈O->(σ.set i (some (V.ref l)))[m]?=some (some (V.ref b))->b≠l:=λ{m b} hm e z=>by subst z;rw[z9g (ne hm)]at e;obtain⟨a',_,_,h1,_,h3,_⟩:=h.own m hm;rw[e]at h1;cases h1;rw[hl]at h3;cases h3
  rcases z9k.mp hj with e3|hj'<;>rcases z9k.mp hk with e4|hk'
  ·rw[e3,e4]
  ·rw[e3,at_i]at e1;cases e1;exact absurd rfl (key hk' e2)
  ·rw[e4,at_i]at e2;cases e2;exact absurd rfl (key hj' e1)
  ·rw[z9g (ne hj')]at e1
   rw[z9g (ne hk')]at e2;exact h.inj j hj' k hk' a e1 e2
theorem EnvO.putC(h:EnvO K F J2 O σ ρ H){a:Addr}{d':D}(hi:i∈O)(ha:σ[i]?=some (some (V.ref a)))(hr:∀A,F.PA A->OwnC K (aq H (Off σ O A)) o' d'):
  EnvO K F J2 O σ (ρ.set i (some d')) (upd H a o'):=by
 obtain⟨a',xs,ds,h1,h2,h3,h4,h5⟩:=h.own i hi;rw[ha]at h1;cases h1;have up:∀{A:Addr->Prop},Same (aq H (Off σ O A)) (aq (upd H a o') (Off σ O A)):=λ{A} b o q=>by
  obtain⟨n,q⟩:=er q;have ne:b≠a:=λe=>n (.inl ⟨i,hi,e▸ha⟩)
  rw[c7 n,aH ne];exact q
 have hl:i<ρ.length:=(z9e.mp h2).1;refine⟨λb o q=>?_,h.lσ,by rw[z8e];exact h.lρ,λj e q hj=>?_,λp hp A hA=>(h.hld p hp A hA).mono up,λj hj=>?_,h.inj⟩
 ·rw[aH (c6 q h4)]
  exact h.same b o q
 ·have e1:j≠i:=λe=>hj (e▸hi)
  rw[z9g (Ne.symm e1)]at q;obtain⟨v',k1,k2⟩:=h.val j e q hj;exact⟨v',k1,λA hA=>aw up (k2 A hA)⟩
 ·by_cases e1:j=i
  ·subst e1
   exact⟨a,_,_,ha,z9r hl,bj,h4,λA hA=>(hr A hA).mono up⟩
  ·obtain⟨b,zs,es',k1,k2,k3,k4,k5⟩:=h.own j hj
   have ne:b≠a:=λe=>e1 (h.inj j hj i hi a (e▸k1) ha)
   exact⟨b,zs,es',k1,by rw[z9g (Ne.symm e1)];exact k2,by rw[aH ne];exact k3,k4,λA hA=>(k5 A hA).mono up⟩
theorem EnvO.put(h:EnvO K F J2 O σ ρ H){a:Addr}{es:E_}(hi:i∈O)(ha:σ[i]?=some (some (V.ref a)))(hr:∀A,F.PA A->Reps K (aq H (Off σ O A)) ys es):
  EnvO K F J2 O σ (ρ.set i (some (.lst es))) (upd H a (.lst ys)):=h.putC hi ha λA hA=>.inl ⟨ys,es,rfl,rfl,hr A hA⟩
theorem EnvO.ownL(h:EnvO K F J2 O σ ρ H)(hi:i∈O){ds0:E_}(hd:ρ[i]?=some (some (.lst ds0))):∃a xs ds,σ[i]?=some (some (V.ref a))/\ρ[i]?=some (some (.lst ds))/\H a=some (.lst xs)/\F.H0 a=Option.none/\∀A,F.PA A->Reps K (aq H (Off σ O A)) xs ds:=by
 obtain⟨a,o,d,h1,h2,h3,h4,h5⟩:=h.own i hi;rw[hd]at h2;cases h2;rcases h5 _ F.none with⟨xs,ds,rfl,e,_⟩|⟨kvs,_,e⟩
 ·cases e
  refine⟨a,xs,ds0,h1,hd,h3,h4,λA hA=>?_⟩;rcases h5 A hA with⟨xs',ds',e1,e2,h6⟩|⟨kvs,e1,_⟩
  ·cases e1;cases e2;exact h6
  ·cases e1
 ·cases e
theorem EnvO.hold{p:Hd}(h:EnvO K F J2 O σ ρ H)(hv:∀A,F.PA A->HdOk K (aq H (Off σ O A)) p):EnvO K F (p::J2) O σ ρ H:=
 ⟨h.same,h.lσ,h.lρ,h.val,λq hq=>(z9k.mp hq).elim (λe=>e▸hv) (h.hld q),h.own,h.inj⟩
def EnvO.unhold{p:Hd}(h:EnvO K F (p::J2) O σ ρ H):EnvO K F J2 O σ ρ H:=⟨h.same,h.lσ,h.lρ,h.val,λq hq=>h.hld q (z9d _ hq),h.own,h.inj⟩
end
structure Ret (K:K0) (F:Fr0) (fr:Bool) (d:D) (v:V) (H':Hp):Prop where
 same:Same F.H0 H'
 rep:∀A,F.PA A->Rep K (aq H' A) v d
 new:fr=true->∃l xs ds,v=V.ref l/\d=.lst ds/\F.H0 l=none/\H' l=some (.lst xs)/\∀A,F.PA A->Reps K (aq H' λb=>A b\/b=l) xs ds
def tsP(K:K0)(F:Fr0)(J2:List Hd)(O' OL:z8)(fr:Bool)(De:Ends):Out->Prop
 |.nx ρ'=>∀σ' H',EnvO K F J2 O' σ' ρ' H'->De.nx σ' H'
 |.bk ρ'=>∀σ' H',EnvO K F J2 OL σ' ρ' H'->De.bk σ' H'
 |.ct ρ'=>∀σ' H',EnvO K F J2 OL σ' ρ' H'->De.ct σ' H'
 |.rt d=>∀v H',Ret K F fr d v H'->De.rt v H'
def ts(K:K0)(F:Fr0)(J2:List Hd)(O O' OL:z8)(fr:Bool)(f:FS):TS:=λDe σ H=>∃ρ o,EnvO K F J2 O σ ρ H/\f ρ=some o/\tsP K F J2 O' OL fr De o
abbrev VS(X:Cx)(F:Fr0)(O:z8)(st:Stmt)(f:FS)(O' OL:z8)(fr:Bool):Prop:=∀J2,PS X st (ts X.K F J2 O O' OL fr f)
structure JS (X:Cx) (F:Fr0) (O:z8) (st:Stmt) (f:FS) (O' OL:z8) (fr:Bool):Prop where
 h:VS X F O st f O' OL fr
abbrev VSs(X:Cx)(F:Fr0)(O:z8)(st:o_)(f:FS)(O' OL:z8)(fr:Bool):Prop:=∀J2,PSs X st (ts X.K F J2 O O' OL fr f)
structure JSs (X:Cx) (F:Fr0) (O:z8) (st:o_) (f:FS) (O' OL:z8) (fr:Bool):Prop where
 h:VSs X F O st f O' OL fr
def dG{e:Stmt}{t t':TS}(h:PS X e t)(i:∀De σ H,t' De σ H->t De σ H):PS X e t':=λG_ s σ H De I q=>h G_ s σ H De I (i De σ H q)
def fg{e:o_}{t t':TS}(h:PSs X e t)(i:∀De σ H,t' De σ H->t De σ H):PSs X e t':=λG_ s σ H De I q=>h G_ s σ H De I (i De σ H q)
def gO{e:Stmt}{t:TS}{F:Fr0}{J2:List Hd}{f:FS}(h:PS X e t)(i:∀De σ H ρ o,EnvO X.K F J2 O σ ρ H->f ρ=some o->tsP X.K F J2 O' OL fr De o->t De σ H):PS X e (ts X.K F J2 O O' OL fr f):=dG h λDe σ H y4=>by obtain⟨ρ,o,hE,hf,hQ⟩:=y4;exact i De σ H ρ o hE hf hQ
def qp{e:o_}{t:TS}{F:Fr0}{J2:List Hd}{f:FS}(h:PSs X e t)(i:∀De σ H ρ o,EnvO X.K F J2 O σ ρ H->f ρ=some o->tsP X.K F J2 O' OL fr De o->t De σ H):PSs X e (ts X.K F J2 O O' OL fr f):=fg h λDe σ H y4=>by obtain⟨ρ,o,hE,hf,hQ⟩:=y4;exact i De σ H ρ o hE hf hQ
section
variable {F:Fr0}{f g:FS}{rest:o_}{fe:FE}{es:J_}
noncomputable def mL:FS:=λρ=>some (.nx ρ)
noncomputable def bA(f g:FS):FS:=λρ=>(f ρ).bind λo=>match o with
 |.nx ρ'=>g ρ'
 |.rt d=>some (.rt d)
 |.bk ρ'=>some (.bk ρ')
 |.ct ρ'=>some (.ct ρ')
def vL:JSs X F O [] mL O OL fr:=⟨λJ2=>qp pF λDe σ H ρ o hE hf hQ=>by cases hf;exact hQ σ H hE⟩
theorem cq(h1:JS X F O st f O1 OL fr)(h2:JSs X F O1 rest g O2 OL fr):JSs X F O (st::rest) (bA f g) O2 OL fr:=⟨have h1:=h1.h;have h2:=h2.h;λJ2=>qp (j8 (h1 J2) (h2 J2)) λDe σ H ρ o hE hf hQ=>by
 obtain⟨o1,h1,hf⟩:=bind_some hf;refine⟨ρ,o1,hE,h1,?_⟩;cases o1 with
 |nx ρ'=>exact λσ' H' hE'=>⟨ρ',o,hE',hf,hQ⟩
 |rt d=>cases hf;exact hQ
 |bk ρ'=>cases hf;exact hQ
 |ct ρ'=>cases hf;exact hQ⟩
def bD(h1:JS X F O st f O1 OL fr):JSs X F O [st] f O1 OL fr:=⟨have h1:=h1.h;λJ2=>fg (km (h1 J2)) λDe σ H h=>h⟩
theorem kS(h:VSs X F O rest f O1 OL fr)(hs:∀i∈O',i∈O1):VSs X F O rest f O' OL fr:=λJ2=>qp (h J2) λDe σ H ρ o hE hf hQ=>⟨ρ,o,hE,hf,by
 cases o with
 |nx ρ'=>exact λσ' H' hE'=>hQ σ' H' (hE'.weaken hs)
 |rt d=>exact hQ
 |bk ρ'=>exact hQ
 |ct ρ'=>exact hQ⟩
noncomputable def sIf(t:ah->B_)(f g:FS):FS:=λρ=>(t ρ).bind λb=>if b=true then f ρ else g ρ
theorem vM{tc:ah->B_}{a b:o_}(hc:JT X c tc)(ha:JSs X F O a f O1 OL fr)(hb:JSs X F O b g O2 OL fr)(h1:(∀i∈O',i∈O1)<|>J8)(h2:(∀i∈O',i∈O2)<|>J8):JS X F O (.If c a b pos) (sIf tc f g) O' OL fr:=⟨have hc:=hc.h;have ha:=ha.h;have hb:=hb.h;λJ2=>
 gO (pG hc (kS ha h1 J2) (kS hb h2 J2)) λDe σ H ρ o hE hf hQ=>by
  obtain⟨k,h1,hf⟩:=bind_some hf;refine⟨ρ,k,hE.envR,h1,λH1 e1=>?_⟩;cases k with
  |true=>exact dX ⟨ρ,o,hE.up e1,hf,hQ⟩
  |false=>exact dW ⟨ρ,o,hE.up e1,hf,hQ⟩⟩
noncomputable def br(f:FE):FS:=λρ=>(f ρ).map .rt
def qq{f:FE}{ρ:ah}{o:Out}(h:br f ρ=some o):∃d,f ρ=some d/\o=.rt d:=by
 unfold br at h;cases e:f ρ with
 |none=>rw[e]at h;cases h
 |some d=>rw[e]at h;cases h;exact⟨d,rfl,rfl⟩
def qr{A:Addr->Prop}:Same (aq H (Off σ O A)) (aq H A):=cH (λ_ _ q=>q) λ_ q=>.inr q
def c9(he:JE X e fe es):JS X F O (.Return (some e) pos) (br fe) O' OL false:=⟨have he:=he.h;λJ2=>gO (i8 he) λDe σ H ρ o hE hf hQ=>by obtain⟨d,h1,rfl⟩:=qq hf;refine⟨ρ,d,hE.envR,h1,λv H' p=>hQ v H' ?_⟩;obtain⟨hE',hr⟩:=hE.eval p;exact⟨hE'.same,λA hA=>aw qr (hr A hA),λz=>nomatch z⟩⟩
def mM(he:JF X e fe es):JS X F O (.Return (some e) pos) (br fe) O' OL fr:=⟨have he:=he.h;λJ2=>gO (i8 he) λDe σ H ρ o hE hf hQ=>by obtain⟨d,h1,rfl⟩:=qq hf;refine⟨ρ,d,hE.envR,h1,λv H' p=>hQ v H' ?_⟩;obtain⟨hE',hr⟩:=hE.eval (p.post hE.envR);refine⟨hE'.same,λA hA=>aw qr (hr A hA),λ_=>?_⟩;obtain⟨l,xs,ds,e1,e2,hl,hl',hA⟩:=p.new;have h1:=hE.weaken (O':=cZ O es) mK;exact⟨l,xs,ds,e1,e2,hE.same.free hl,hl',λA hPA=>aQ (cH (λ_ _ q=>q) λb q=>q.elim (λz=>.inl (.inr z)) .inr) (hA _ (h1.dom hPA) λe he=>h1.av hPA (qo he))⟩⟩
noncomputable def eL(f:FE):FE:=λρ=>(f ρ).bind λd=>match d with
 |.lst ds=>some (.lst ds)
 |_=>none
def Ei{f:FE}{ρ:ah}{d:D}(h:eL f ρ=some d):∃ds,d=.lst ds/\f ρ=some (.lst ds):=by
 obtain⟨x,h1,h2⟩:=bind_some h;cases x with
 |lst ds=>cases h2;exact⟨ds,rfl,h1⟩
 |_=>cases h2
theorem Ej(i:Nat)(hi:i∈O<|>J8)(hN:X.N[i]?=some x<|>J7)(hv:Vis X.env.scope x<|>J9)(hd:DB x<|>J8)(hcd:(x==("__classdict__" : Str))=false<|>J8):JS X F O (.Return (some (.Name x p2)) pos) (br (eL (a5 i))) O' OL fr:=⟨λJ2=>gO (i8 (gG hN hv hd hcd)) λDe σ H ρ o hE hf hQ=>by
 obtain⟨d,h1,rfl⟩:=qq hf;obtain⟨ds0,e0,h10⟩:=Ei h1;subst e0;have h2:=ig h10;obtain⟨a,xs,ds,k1,k2,k3,k4,k5⟩:=hE.ownL hi h2;rw[k2]at h2;cases h2;refine⟨_,k1,hQ _ H ⟨hE.same,λA hA=>?_,λ_=>⟨a,xs,_,rfl,rfl,k4,k3,λA hA=>?_⟩⟩⟩
 ·refine .lst (.inl ?_) (aQ qr (k5 A hA))
  rw[c7 λq=>F.dom A hA a q k4];exact k3
 ·exact aQ (cH (λ_ _ q=>q) λb q=>q.elim .inr λz=>.inl ⟨i,hi,z▸k1⟩) (k5 A hA)⟩
noncomputable def bV(i:Nat)(f:FE):FS:=λρ=>(f ρ).map λd=>.nx (ρ.set i (some d))
def mO{f:FE}{ρ:ah}{o:Out}(h:bV i f ρ=some o):∃d,f ρ=some d/\o=.nx (ρ.set i (some d)):=by
 unfold bV at h;cases e:f ρ with
 |none=>rw[e]at h;cases h
 |some d=>rw[e]at h;cases h;exact⟨d,rfl,rfl⟩
noncomputable def mP(O:z8)(i:Nat):z8:=O.filter λj=>j != i
def mQ:∀j∈mP O i,j∈O:=λj h=>(z5b.mp h).1
def vN:i∉mP O i:=λh=>by simpa using(z5b.mp h).2
def fj(i:Nat)(hN:X.N.Nodup)(he:JE X e fe es)(hi:X.N[i]?=some x<|>J7)(hx:Loc X.env.scope x<|>J9)(hs:swapsWith e (some (.Name x p2)) pos.line X.env=pure false<|>J7)(hfn:X.fn x=true\/X.env.scope.names.lookup x=some .local<|>J9):JS X F O (.Assign [.Name x p2] e pos) (bV i fe) (mP (cZ O es) i) OL fr:=⟨have he:=he.h;λJ2=>
 gO (ja hN hi hx he hs hfn) λDe σ H ρ o hE hf hQ=>by obtain⟨d,h1,rfl⟩:=mO hf;refine⟨ρ,d,hE.envR,h1,λv H' p=>hQ _ _ ?_⟩;obtain⟨hE',hr⟩:=hE.eval p;exact(hE'.weaken mQ).set vN λA hA=>aw (cH (λ_ _ q=>q) (kR mQ)) (hr A hA)⟩
theorem iB(i:Nat)(hN:X.N.Nodup)(he:JF X e fe es)(hn:i<F.n)(hi:X.N[i]?=some x<|>J7)(hx:Loc X.env.scope x<|>J9)(hs:swapsWith e (some (.Name x p2)) pos.line X.env=pure false<|>J7)(hfn:X.fn x=true\/X.env.scope.names.lookup x=some .local<|>J9):JS X F O (.Assign [.Name x p2] e pos) (bV i fe) (i::mP (cZ O es) i) OL fr:=⟨have he:=he.h;λJ2=>
 gO (ja hN hi hx he hs hfn) λDe σ H ρ o hE hf hQ=>by
  obtain⟨d,h1,rfl⟩:=mO hf;refine⟨ρ,d,hE.envR,h1,λv H' p=>hQ _ _ ?_⟩;refine(hE.weaken λj hj=>mK j (mQ j hj)).setF p hn vN λz hz=>?_
  have:=qo (O:=O) hz;cases z with
  |el j=>rfl
  |full j=>simp only[iA,z4e,List.contains_eq_mem,decide_eq_false_iff_not]at this ⊢;exact λq=>this (mQ j q)⟩
end
section
variable {F:Fr0}{f g:FS}{fe:FE}{es:J_}
def kU(i:Nat)(f:FE):FS:=λρ=>(a5 i ρ).bind λx=>match x with
 |.lst ds=>(f ρ).bind λd=>if ds.length<100000 then some (.nx (ρ.set i (some (.lst (ds++[d])))))else none
 |_=>none
theorem Ek(i:Nat)(he:VE X e fe es)(hi:i∈cZ O es)(hN:X.N[i]?=some x)(hv:Vis X.env.scope x<|>J9)(hd:DB x)(hcd:(x==("__classdict__" : Str))=false)(hbase:attributeBase (.Name x p2) "append" X.env (eval (.Name x p2) X.env)=eval (.Name x p2) X.env)(hfew:(((backTo cp (starEach [e] X.env)).all (λx=>!x.1)&&(backToKw cp (keywordEach [] X.env)).all (λx=>x.1.isSome)
   && decide (([e]:l_).length+([]:n_).length+(if([]:n_).isEmpty then 0 else 1)<30))=true)<|>J7)(hline:(ap.endLine==cp.line)=true<|>J7)(hs:SE e [] X<|>J7)(hplain:BT cp [] X<|>J7)(hsw:swapsWith (.Call (.Attribute (.Name x p2) "append" ap) [e] [] cp) none pos.line X.env=pure false<|>J7):
  VS X F O (.Expr (.Call (.Attribute (.Name x p2) "append" ap) [e] [] cp) pos) (kU i fe) (cZ O es) OL fr:=λJ2=>
 gO (lZ (ic z4c z5x z5y pY (gG hN hv hd hcd) (bP he c5 hs) hbase hfew hline hs hplain) hsw) λDe σ H ρ o hE hf hQ=>by
  obtain⟨x,h1,hf⟩:=bind_some hf;have h1:=ig h1;obtain⟨ds0,rfl⟩:∃ds0,x=.lst ds0:=by cases x<;>first|exact⟨_,rfl⟩|cases hf
  obtain⟨a,xs,ds,k1,k2,k3,k4,k5⟩:=hE.ownL (mK i hi) h1;rw[k2]at h1;cases h1;obtain⟨d,h2,hf⟩:=bind_some hf;obtain⟨hl,rfl⟩:=bz hf;refine⟨_,k1,.inl ⟨rfl,xs,.inl (.inl k3)⟩,ρ,d,hE.envR,h2,λv H1 p=>?_⟩;obtain⟨hE1,hr⟩:=hE.eval p;obtain⟨a',ys,ds',m1,m2,m3,m4,m5⟩:=hE1.ownL hi k2;rw[k1]at m1;cases m1;rw[k2]at m2;cases m2;have e3:=p.same _ _ k3;have e4:xs=ys:=by rw[m3]at e3;cases e3;rfl
  subst e4;have len:=(m5 _ F.none).length;refine⟨a,xs,v,rfl,rfl,m3,z9v (show xs.length<100000 by ext) (by decide),hQ σ _ ?_⟩;exact hE1.put hi k1 λA hA=>(m5 A hA).append (.cons (hr A hA) .nil)
noncomputable def mR(is:z8)(f:FE):FS:=λρ=>(f ρ).bind λd=>match d with
 |.tup ds=>if ds.length=is.length then some (.nx ((is.zip ds).foldl (λr p=>r.set p.1 (some p.2)) ρ))else none
 |_=>none
inductive Tgs (X:Cx):l_->z8->Prop where
 |nil:Tgs X [] []
 | cons {i:Nat} {x:Str} {p:Pos} {es:l_} {is:z8} (hi:X.N[i]?=some x) (hx:Loc X.env.scope x) (hf:X.fn x=true\/X.env.scope.names.lookup x=some .local) (t:Tgs X es is)
   (hs:(assignEach (.Name x p::es) X.env).map (·.2)=assign (.Name x p) X.env::(assignEach es X.env).map (·.2)):Tgs X (.Name x p::es) (i::is)
def ju:z8->TGs
 |[]=>ub
 |i::is=>uc (cg i) (ju is)
theorem Tgs.ok(hN:X.N.Nodup):∀{es:l_} {is:z8},Tgs X es is->PGs X es (ju is)
 |_,_,.nil=>Cr
 |_,_,.cons hi hx hf t hs=>Cs (gb hN hi hx hf) (Tgs.ok hN t) hs
theorem vO{K:K0}{J2:List Hd}{Q:St->Hp->Prop}:∀{is:z8} {xs:C_} {ds:E_} {σ:St} {ρ:ah} {H:Hp},EnvO K F J2 O σ ρ H->(∀i∈is,i∉O)->is.length=ds.length->(∀A,F.PA A->Reps K (aq H (Off σ O A)) xs ds) ->
  (∀σ' H',EnvO K F J2 O σ' ((is.zip ds).foldl (λr p=>r.set p.1 (some p.2)) ρ) H'->Q σ' H')->ju is xs σ H Q
 | [],xs,ds,σ,ρ,H,hE,_,hl,hr,hQ=>by
   cases ds with
   |nil=>cases hr _ F.none;exact⟨rfl,hQ σ H hE⟩
   |cons _ _=>cases hl
 | i::is,xs,ds,σ,ρ,H,hE,hO,hl,hr,hQ=>by
   cases ds with
   |nil=>cases hl
   | cons d ds=>
     cases xs with
     |nil=>cases hr _ F.none
     | cons v xs=>
       have hi:=hO i z9a;have h1:∀A,F.PA A->Rep K (aq H (Off σ O A)) v d:=λA hA=>by cases hr A hA with|cons h _=>exact h
       have h2:∀A,F.PA A->Reps K (aq H (Off (σ.set i (some v)) O A)) xs ds:=λA hA=>aQ (cH (λ_ _ q=>q) λb q=>(vK hi b).mp q) (by cases hr A hA with|cons _ h=>exact h)
       exact⟨v,xs,rfl,vO (hE.set hi h1) (λj hj=>hO j (z9d _ hj)) (by simpa using hl) h2 hQ⟩
def qt{ds:E_}(r:Rep K H v (.tup ds)):∃p xs,v=V.ref p/\Rd H p (.tup xs)/\Reps K H xs ds:=by
 cases r with
 |@tup p xs _ h1 h2=>exact⟨p,xs,rfl,.inl h1,h2⟩
def vP{A:Addr->Prop}{p:Addr}{ds:E_}(h1:Rd H p (.tup xs))(r:Rep K (aq H A) (.ref p) (.tup ds)):Reps K (aq H A) xs ds:=by
 cases r with
 |tup h2 h3=>rw[kD h1 (cW (aR H A) (.inl h2))];exact h3
def vQ{A:Addr->Prop}{p:Addr}{ds:E_}(h1:Rd H p (.lst xs))(r:Rep K (aq H A) (.ref p) (.lst ds)):Reps K (aq H A) xs ds:=by
 cases r with
 |lst h2 h3=>rw[gM h1 (cW (aR H A) h2)];exact h3
theorem El(is:z8){ts:l_}{k:Nat}(hc:X.calm=true)(hN:X.N.Nodup)(he:JE X e fe es)(ht:Tgs X ts is)(hO:∀i∈is,i∉O')(hO2:∀i∈O',i∈cZ O es)(hn:(assignEach ts X.env).length=is.length<|>J7)(hst:(assignEach ts X.env).findIdx? (·.1)=none<|>J7)(hs:swapsWithSole [.Tuple ts k p2] e pos.line X.env=pure false<|>J7)(hw:swappedStores [.Tuple ts k p2] e X.env=pure none<|>J7)(h1:(assignEach [.Tuple ts k p2] X.env).map (·.2)=[assign (.Tuple ts k p2) X.env]<|>J7):JS X F O (.Assign [.Tuple ts k p2] e pos) (mR is fe) O' OL fr:=⟨have he:=he.h;λJ2=>
 gO (pJ he (j9 hc (Tgs.ok hN ht) hn hst) hs hw h1) λDe σ H ρ o hE hf hQ=>by
  obtain⟨d,h2,hf⟩:=bind_some hf;refine⟨ρ,d,hE.envR,h2,λv H1 p=>?_⟩;obtain⟨hE1,hr⟩:=hE.eval p;cases d with
  |tup ds=>obtain⟨hl,rfl⟩:=bz hf;obtain⟨q,xs,rfl,hq,hx⟩:=qt p.rep;have up:∀{A:Addr->Prop},Same (aq H1 (Off σ (cZ O es) A)) (aq H1 (Off σ O' A)):=cH (λ_ _ q=>q) (kR hO2);refine⟨q,xs,rfl,.inl hq,by rw[hx.length];exact hl,vO (hE1.weaken hO2) hO hl.symm (λA hA=>aQ up (vP hq (hr A hA))) hQ⟩
  |_=>cases hf⟩
noncomputable def bW(body:D->FS):E_->FS
 |[],ρ=>some (.nx ρ)
 | x::r,ρ=>(body x ρ).bind λo=>match o with
   |.nx ρ'=>bW body r ρ'
   |.ct ρ'=>bW body r ρ'
   |.bk ρ'=>some (.nx ρ')
   |.rt d=>some (.rt d)
theorem kW{body:D->FS}{x:D}{r:E_}{ρ:ah}:bW body (x::r) ρ=(body x ρ).bind λo=>match o with
  |.nx ρ'=>bW body r ρ'
  |.ct ρ'=>bW body r ρ'
  |.bk ρ'=>some (.nx ρ')
  |.rt d=>some (.rt d):=rfl
def qu{J2 held':List Hd}{d:D}{ds:E_}{o:Out}{ρ:ah}{body:D->FS}{N:St->Hp->Prop}{o1:Out}(h1:body d ρ=some o1)(hf:bW body (d::ds) ρ=some o)(hQ:tsP K F J2 OL OL' fr De o)(hh:∀σ ρ H,EnvO K F held' OL σ ρ H->EnvO K F J2 OL σ ρ H)(hN:∀σ' H' ρ',EnvO K F held' OL σ' ρ' H'->bW body ds ρ'=some o->N σ' H'):tsP K F held' OL OL fr {De with nx:=N,ct:=N,bk:=De.nx} o1:=by
 rw[kW,h1]at hf;cases o1 with
 |nx ρ'=>exact λσ' H' hE'=>hN σ' H' ρ' hE' hf
 |ct ρ'=>exact λσ' H' hE'=>hN σ' H' ρ' hE' hf
 |bk ρ'=>cases hf;exact λσ' H' hE'=>hQ σ' H' (hh _ _ _ hE')
 |rt d'=>cases hf;exact hQ
theorem vR{d:D}{ds:E_}(hr:∀A,F.PA A->Rep K (aq H (Off σ O A)) v d)(hds:items d=some ds)(ht:di d=false):
  ∃q xs,v=V.ref q/\∀A,F.PA A->HdOk K (aq H (Off σ O A)) (hdL K q xs ds):=by
 have h0:=hr _ F.none;cases h0 with
 | @lst q xs ds' h1 h2=>
   cases hds;refine⟨q,xs,rfl,λA hA=>?_⟩;cases hr A hA with
   |@lst _ ys _ h3 h4=>have e:=gM (cW (aR _ _) h1) (cW (aR _ _) h3);subst e;exact⟨.inl h3,h4⟩
 | @scr q ns h1=>
   cases hds;refine⟨q,ns.map V.int,rfl,λA hA=>?_⟩;cases hr A hA with
   |scr h3=>exact⟨h3,Reps.ints ns⟩
 |tup _ _=>cases ht
 |_=>cases hds
def mS(t:Nat)(it:FE)(tb:FS):FS:=λρ=>(it ρ).bind λd=>if di d=true then none else(items d).bind λds=>bW (λx ρ=>tb (ρ.set t (some x))) ds ρ
theorem Em(t:Nat){fi:FE}{ei:J_}{tb:FS}(Ol:z8)(hN:X.N.Nodup)(hc:X.calm=true)(hi:JE X iter fi ei)(hb:JSs X F Ol body tb O2 Ol fr)(h1:(∀i∈Ol,i∈cZ O ei)<|>J8)(h2:(∀i∈Ol,i∈O2)<|>J8)(h3:t∉Ol<|>J8)(hp:PassesOwn (model X.prog X.w) X.A X.env X.xe<|>Q3)(hxN:X.N[t]?=some x<|>J7)(hx:Loc X.env.scope x<|>J9)(hfn:X.fn x=true\/X.env.scope.names.lookup x=some .local<|>J9)(hs:(∀x,foldedSetIterable iter X.env x=pure x)<|>Q0):JS X F O (.For (.Name x p2) iter body [] pos) (mS t fi tb) Ol OL fr:=⟨have hi:=hi.h;have hb:=hb.h;λJ2=>by
 have hb':PSs X body (λDe σ H=>∃p:Hd,ts X.K F (p::J2) Ol Ol Ol fr tb De σ H):=λG_ s σ H De I y4=>by obtain⟨p,h⟩:=y4;exact kS hb h2 (p::J2) G_ s σ H De I h
 refine dG (i9 hp hc (m7 hi) (gb hN hxN hx hfn) hb' hs) λDe σ H h=>?_
 obtain⟨ρ,o,hE,hf,hQ⟩:=h;obtain⟨d,hd,hf⟩:=bind_some hf;cases ht:di d with
 |true=>rw[if_pos ht]at hf;cases hf
 | false=>
   rw[if_neg (by rw[ht];exact z8g)]at hf;obtain⟨ds,hds,hf⟩:=bind_some hf;refine⟨ρ,d,hE.envR,hd,λv H1 p=>?_⟩;obtain⟨hE1,hr⟩:=hE.eval p;have hE2:=hE1.weaken h1;have hr2:∀A,F.PA A->Rep X.K (aq H1 (Off σ Ol A)) v d:=λA hA=>aw (cH (λ_ _ q=>q) (kR h1)) (hr A hA)
   obtain⟨q,xs,rfl,hq⟩:=vR hr2 hds ht;have len:xs.length=ds.length:=(hq _ F.none).2.length;refine⟨q,rfl,⟨xs,(aR _ _).seq (hq _ F.none).1⟩,?_⟩;refine uh (K:=X.K) (a:=q) (xs:=xs) (g:=cg t) (tb:=λDe σ H=>∃p:Hd,ts X.K F (p::J2) Ol Ol Ol fr tb De σ H) (D:=De) (λi σ' H'=>∃ρ',EnvO X.K F (hdL X.K q xs ds::J2) Ol σ' ρ' H'/\bW (λx ρ=>tb (ρ.set t (some x))) (ds.drop i) ρ'=some o) ⟨ρ,hE2.hold hq,by simpa using hf⟩ ?_ ?_ ?_
   ·rintro i σ' H' _ ⟨ρ',hE',_⟩
    exact(aR _ _).seq (hE'.hld _ z9a _ F.none).1
   ·rintro i y σ' H' hy ⟨ρ',hE',hf'⟩
    obtain⟨dy,h4,_⟩:=(hE'.hld _ z9a _ F.none).2.getV hy;have h5:∀A,F.PA A->Rep X.K (aq H' (Off σ' Ol A)) y dy:=λA hA=>by obtain⟨dy',h6,h7⟩:=(hE'.hld _ z9a A hA).2.getV hy;rw[h4]at h6;cases h6;exact h7
    have hi':i<ds.length:=(z9e.mp h4).1;have ed:ds.drop i=dy::ds.drop (i+1):=by rw[z8c hi'];have e2:ds[i]=dy:=(z9e.mp h4).2;rw[e2]
    rw[ed]at hf';have hf2:=hf';rw[kW]at hf2;obtain⟨o1,h8,_⟩:=bind_some hf2;refine⟨hdL X.K q xs ds,ρ'.set t (some dy),o1,hE'.set h3 h5,h8,?_⟩;exact qu h8 hf' hQ (λ_ _ _ z=>z.unhold) λσ'' H'' ρ'' hE'' hf''=>⟨ρ'',hE'',hf''⟩
   ·rintro σ' H' ⟨ρ',hE',hf'⟩
    rw[len,z6c]at hf';cases hf';exact hQ σ' H' hE'.unhold⟩
noncomputable def d9(lo:Int)(n:Nat):E_:=(List.range n).map λ(k:Nat)=>.int (lo+k)
def En(h:i<n):(d9 lo n).drop i=.int (lo+i)::(d9 lo n).drop (i+1):=by
 have hl:i<(d9 lo n).length:=by simpa [d9]using h
 rw[z8c hl];simp[d9]
def okR(j:Int):Prop:=-4611686018427387904<=j/\j<4611686018427387904
instance (j:Int):Decidable (okR j):=inferInstanceAs (Decidable (_/\_))
def kX(t:Nat)(as:FEs)(tb:FS):FS:=λρ=>(as ρ).bind λds=>match ds with
 |[.int j]=>if okR j then bW (λx ρ=>tb (ρ.set t (some x))) (d9 0 j.toNat) ρ else none
 |_=>none
def Eo{J2:List Hd}{o:Out}{ρ:ah}{t:Nat}{Ol:z8}{tb:FS}(hE:EnvO K F J2 Ol σ ρ H)(h3:t∉Ol)(hf:bW (λx ρ=>tb (ρ.set t (some x))) (d9 lo n) ρ=some o)(hQ:tsP K F J2 Ol OL' fr De o):
  ∃W:Nat->Nat->St->Hp->Prop,(∃m,W 0 m σ H)/\∀i m σ H,W i m σ H ->
    ((Itr lo n).stop i H/\De.nx σ H)\/((Itr lo n).go i H/\∃N:St->Hp->Prop,(∀σ' H',N σ' H'->∃m',m'<m/\W (i+1) m' σ' H')/\∀x H',(Itr lo n).yld i H x H'->cg t x σ H' λσ2 H2=>ts K F J2 Ol Ol Ol fr tb {De with nx:=N,ct:=N,bk:=De.nx} σ2 H2):=by
 refine ui (lo:=lo) (n:=n) (g:=cg t) (tb:=ts K F J2 Ol Ol Ol fr tb) (D:=De) (λi σ' H'=>∃ρ',EnvO K F J2 Ol σ' ρ' H'/\bW (λx ρ=>tb (ρ.set t (some x))) ((d9 lo n).drop i) ρ'=some o) ⟨ρ,hE,by simpa using hf⟩ ?_ ?_
 ·rintro i σ' H' hi ⟨ρ',hE',hf'⟩
  rw[En hi]at hf';have hf2:=hf';rw[kW]at hf2;obtain⟨o1,h8,_⟩:=bind_some hf2;refine⟨ρ'.set t (some (.int (lo+i))),o1,hE'.set h3 λA hA=>.int _,h8,?_⟩;exact qu h8 hf' hQ (λ_ _ _ z=>z) λσ'' H'' ρ'' hE'' hf''=>⟨ρ'',hE'',hf''⟩
 ·rintro σ' H' ⟨ρ',hE',hf'⟩
  rw[z7f (by simp[d9])]at hf';cases hf';exact hQ σ' H' hE'
def EnvO.evals{J2:List Hd}{ρ:ah}(h:EnvO K F J2 O σ ρ H){ds:E_}(p:Posts K σ ρ H es ds vs H'):EnvO K F J2 O σ ρ H':=h.up p.same
theorem vS(t:Nat){as:FEs}{ei:J_}{tb:FS}(Ol:z8)(hN:X.N.Nodup)(hc:X.calm=true)(mr:X.mg "range"=none)(hi:JA X [a] as ei)(hb:JSs X F Ol body tb O2 Ol fr)(h1:(∀i∈Ol,i∈O)<|>J8)(h2:(∀i∈Ol,i∈O2)<|>J8)(h3:t∉Ol<|>J8)(hp:PassesOwn (model X.prog X.w) X.A X.env X.xe<|>Q3)(hg:Gl X "range"<|>J7)(hst:starEach [a] X.env=[(false,eval a X.env)]<|>J7)(hxN:X.N[t]?=some x<|>J7)(hx:Loc X.env.scope x<|>J9)(hfn:X.fn x=true\/X.env.scope.names.lookup x=some .local<|>J9)(hs:(∀x,foldedSetIterable (.Call (.Name "range" pn) [a] [] pr) X.env x=pure x)<|>Q0):JS X F O (.For (.Name x p2) (.Call (.Name "range" pn) [a] [] pr) body [] pos) (kX t as tb) Ol OL fr:=⟨have hi:=hi.h;have hb:=hb.h;λJ2=>by
 refine dG (i9 hp hc (m8 hg mr hi hst) (gb hN hxN hx hfn) (kS hb h2 J2) hs) λDe σ H h=>?_
 obtain⟨ρ,o,hE,hf,hQ⟩:=h;obtain⟨ds,hd,hf⟩:=bind_some hf;refine⟨ρ,ds,hE.envR,hd,λvs H1 p=>?_⟩;have hE1:=(hE.evals p).weaken h1
 match ds,hf,p with
 | [.int j],hf,p=>
   by_cases hj:okR j
   ·simp only[if_pos hj]at hf
    obtain⟨v,rfl,r⟩:=fH p.rep;cases r;exact⟨j,rfl,hj.1,hj.2,Eo hE1 h3 hf hQ⟩
   ·simp only[if_neg hj]at hf
    cases hf⟩
end
structure RetC (K:K0) (H:Hp) (vs:C_) (ds:E_) (fr:Bool) (d:D) (v:V) (H':Hp):Prop where
 same:Same H H'
 rep:∀A,Dom H A->Reps K (aq H A) vs ds->Rep K (aq H' A) v d
 new:fr=true->∃l xs es,v=V.ref l/\d=.lst es/\H l=none/\H' l=some (.lst xs)/\∀A,Dom H A->Reps K (aq H A) vs ds->Reps K (aq H' λb=>A b\/b=l) xs es
def spF(K:K0)(G:E_->F_)(fr:Bool):Sp:=λvs H Q _=>∃ds d,Reps K H vs ds/\G ds=some d/\∀v H',RetC K H vs ds fr d v H'->Q v H'
noncomputable def mkF(fr:Bool)(np n:Nat)(body:FS):E_->F_:=λds=>if ds.length=np then(body (ds.map some++List.replicate (n-np) none)).bind λo=>match o with
 |.rt d=>some d
 |.nx _=>if fr=true then none else some .non
 |_=>none
 else none
theorem Ep{k:Nat}{body:FS}(Fn:Fun K x qual st f fd)(S:FnScope N ps (ao st))(h:∀(cdv:Value) (A:Around) (outer:List PySem.Env) (s:Shared) (H:Hp) (E:XK) (F:Fr0),F.n=N.length->Room k (A.deeper (envOfC qual (ao st) s.heap.objs.size f cdv)) ->
   VSs (cG CX0 P w K mg base N qual (ao st) f cdv A outer s H E).nox F [] (cO st) body O' OL fr):
  FnOk P w K mg base CX0 (k+1) f fd ps (spF K (mkF fr ps.length N.length body) fr):=by
 have hpl:ps.length<=N.length:=by have:=z8u List.length S.pre;rw[z8a]at this;ext
 refine Fn.ok S (λvs H Q E h=>?_) (λcdv A outer s H vs Q E hr h'=>?_)
 ·obtain⟨ds,d,r,hg,_⟩:=h
  unfold mkF at hg;by_cases hl:ds.length=ps.length
  ·rw[r.length,hl]
  ·rw[if_neg hl]at hg;cases hg
 ·obtain⟨ds,d,r,hg,hQ⟩:=h'
  unfold mkF at hg;by_cases hl:ds.length=ps.length
  ·rw[if_pos hl]at hg
   obtain⟨o,ho,hg⟩:=bind_some hg;let F:Fr0:=⟨H,λA=>Dom H A/\Reps K (aq H A) vs ds,N.length,λA h=>h.1,⟨Dom.none H,aQ (jj H) r⟩⟩;refine⟨_,h cdv A outer s H E F rfl hr [],ds.map some++List.replicate (N.length-ps.length) none,o,?_,ho,?_⟩
   ·have lv:=r.length
    have get:∀(i:Nat) (d:D),(ds.map some++List.replicate (N.length-ps.length) none)[i]?=some (some d)->ds[i]?=some d:=λi d q=>by
     by_cases hi:i<ds.length
     ·rw[z8f (by simpa using hi),z9x]at q
      cases e:ds[i]? with
      |none=>rw[e]at q;cases q
      |some z=>rw[e]at q;simpa using q
     ·rw[z9y (by simpa using hi),z7i]at q
      split at q<;>cases q
    refine⟨Same.refl H,?_,?_,λi d q _=>?_,λp hp=>absurd hp (by simp),λi hi=>absurd hi (by simp),λi hi=>absurd hi (by simp)⟩
    ·show(L2.start N vs).length=N.length
     unfold L2.start;rw[z9f,z9c,z8s];ext
    ·show _=N.length
     rw[z9f,z9c,z8s];ext
    ·have h1:=get i d q
     obtain⟨v,h2,_⟩:=r.get h1;refine⟨v,?_,λA hA=>?_⟩
     ·unfold L2.start
      have hi:i<vs.length:=(z9e.mp h2).1;rw[z8f (by simpa using hi),z9x,h2];rfl
     ·obtain⟨v',h3,h4⟩:=hA.2.get h1
      rw[h2]at h3;cases h3;exact aw (cH (λ_ _ z=>z) λb z=>z.elim (λy4=>by obtain⟨_,hj,_⟩:=y4;exact absurd hj (by simp)) id) h4
   ·cases o with
    |rt d'=>cases hg;exact λv H' rt=>hQ v H' ⟨rt.same,λA hA hr=>rt.rep A ⟨hA,hr⟩,λe=>let⟨l,xs,es,e1,e2,e3,e4,e5⟩:=rt.new e;⟨l,xs,es,e1,e2,e3,e4,λA hA hr=>e5 A ⟨hA,hr⟩⟩⟩
    | nx ρ'=>
      cases fr with
      |true=>cases hg
      |false=>cases hg;exact λσ' H' hE=>hQ _ H' ⟨hE.same,λA hA hr=>.non,λe=>nomatch e⟩
    |_=>cases hg
  ·rw[if_neg hl]at hg;cases hg
section
variable {k:Nat}{G:E_->F_}{as:FEs}{es:J_}
def Et(Gk:FnOk X.prog X.w X.K X.mg X.base CX0 k f fd ps (spF X.K G fr))(hr:Room k X.A)(hm:X.mg x=some (.ref f))(hk:W.keepIn X.K (.ref f)=true)(hb:Binds X.K fd ps [])(ha:VA X (e::es') as es)(hg:Gl X x<|>J7)(hdb:DB x<|>J8)(he:SE e es' X<|>J7)(hpl:BT pos es' X<|>J7):
  VE X (.Call (.Name x p) (e::es') [] pos) (eA G as) es:=
 eB (gJ Gk hr hg hm hk hb .nil eg ha hdb he hpl) λσ H Q ρ d hE hf hQ=>by obtain⟨ds,h1,hf⟩:=bind_some hf;refine⟨ρ,ds,hE,h1,λvs H1 p=>?_⟩;show spF X.K G fr (vs++[]) H1 Q E0;rw[z8r];refine⟨ds,d,p.rep,hf,λv H' r=>hQ v H' ⟨p.same.trans r.same,aw (aR _ _) (r.rep eW (Dom.none _) (aQ (jj _) p.rep)),λA hA hz=>r.rep A (hA.mono p.same) (p.av A hA hz)⟩⟩
def Eu(Gk:FnOk X.prog X.w X.K X.mg X.base CX0 k f fd ps (spF X.K G true))(hr:Room k X.A)(hm:X.mg x=some (.ref f))(hk:W.keepIn X.K (.ref f)=true)(hb:Binds X.K fd ps [])(ha:VA X (e::es') as es)(hg:Gl X x<|>J7)(hdb:DB x<|>J8)(he:SE e es' X<|>J7)(hpl:BT pos es' X<|>J7):
  VF X (.Call (.Name x p) (e::es') [] pos) (eA G as) es:=
 ie (gJ Gk hr hg hm hk hb .nil eg ha hdb he hpl) λσ H Q ρ d hE hf hQ=>by obtain⟨ds,h1,hf⟩:=bind_some hf;refine⟨ρ,ds,hE,h1,λvs H1 p=>?_⟩;show spF X.K G true (vs++[]) H1 Q E0;rw[z8r];refine⟨ds,d,p.rep,hf,λv H' r=>hQ v H' ⟨p.same.trans r.same,?_⟩⟩;obtain⟨l,xs,es,e1,e2,e3,e4,e5⟩:=r.new rfl;exact⟨l,xs,es,e1,e2,p.same.free e3,e4,λA hA hz=>e5 A (hA.mono p.same) (p.av A hA hz)⟩
end
theorem qv(env:PySem.Env):∀(names:List (Str×NameKind)) (acc:List (Str×Addr)),(∀x∈names,x.2=.free->∃c,env.cells.lookup x.1=some c) ->
  ∃cl,(forIn names acc λx r=>(if(x.2==NameKind.free)=true then(do let c <- cellOf env x.1;pure (ForInStep.yield ((x.1,c)::r)))else pure (ForInStep.yield r):Sem (ForInStep (List (Str×Addr)))))=pure cl /\
    (∀x c,cl.lookup x=some c->acc.lookup x=some c\/env.cells.lookup x=some c)/\(∀x,(∃c,acc.lookup x=some c)->∃c,cl.lookup x=some c)/\(∀x∈names,x.2=.free->∃c,cl.lookup x.1=some c)
 |[],acc,_=>⟨acc,rfl,λ_ _ h=>.inl h,λ_ h=>h,λ_ h=>nomatch h⟩
 | (n, k)::r,acc,h=>by
   have hr:∀x∈r,x.2=.free->∃c,env.cells.lookup x.1=some c:=λx hx=>h x (z9d _ hx)
   by_cases hk:k=.free
   ·subst hk
    obtain⟨c,hc⟩:=h (n,.free) z9a rfl;obtain⟨cl,e,h1,h2,h3⟩:=qv env r ((n,c)::acc) hr;refine⟨cl,?_,λx c' hx=>?_,λx ⟨c',hx⟩=>?_,λx hx hf=>?_⟩
    ·rw[List.forIn_cons]
     have e1:cellOf env n=pure c:=by unfold cellOf;rw[hc]
     simp only[z6w,z4i,e1,pure_bind];exact e
    ·rcases h1 x c' hx with q|q
     ·rw[z8w]at q
      cases hxn:x==n with
      | true=>
        rw[hxn]at q;have e2:x=n:=by simpa using hxn
        cases q;rw[e2];exact .inr hc
      |false=>rw[hxn]at q;exact .inl q
     ·exact .inr q
    ·refine h2 x ?_
     rw[z8w];cases x==n with
     |true=>exact⟨_,rfl⟩
     |false=>exact⟨c',hx⟩
    ·rcases z9k.mp hx with q|q
     ·subst q
      refine h2 n ⟨c,?_⟩;rw[z8w];simp
     ·exact h3 x q hf
   ·obtain⟨cl,e,h1,h2,h3⟩:=qv env r acc hr
    refine⟨cl,?_,h1,h2,λx hx hf=>?_⟩
    ·rw[List.forIn_cons]
     have e1:(k==NameKind.free)=false:=by simpa using hk
     simp only[e1,z6f,z5d,pure_bind];exact e
    ·rcases z9k.mp hx with q|q
     ·subst q;exact absurd hf hk
     ·exact h3 x q hf
def qw{env:PySem.Env}(h:∀x∈scope.names,x.2=.free->∃c,env.cells.lookup x.1=some c):
  ∃cl,closureFor scope env=pure cl/\(∀x c,cl.lookup x=some c->env.cells.lookup x=some c)/\(∀x∈scope.names,x.2=.free->∃c,cl.lookup x.1=some c):=by
 obtain⟨cl,e,h1,h2,h3⟩:=qv env scope.names [] h;refine⟨cl,?_,λx c q=>(h1 x c q).resolve_left (λz=>by simp at z),h3⟩;simp only[closureFor];rw[e]
 first|rfl|simp
def Ev{elt target iter:Expr}{ifs:l_}{scope:Scope}{pos:Pos}{it acc:Value}{env:PySem.Env}(I:Nat->Shared->Prop)(turn : ∀n s,I n s->wpAny (model prog w) A (pyNext it) (λr y7=>match r with
   |none=>R (.ok .next) y7
   | some v=>wpAny (model prog w) A (letOwnedTupleGo target it v) (λ_ y8=>wpAny (model prog w) A (assign target env v) (λ_ y9=>
     wpAny (model prog w) A (forIn ifs true λc r=>if r=true then do let ok <- isTrue c env (eval c env);pure (ForInStep.yield ok)else pure (ForInStep.yield r)) (λok z_=>
      if ok=true then wpAny (model prog w) A (eval elt env) (λx z6=>wpAny (model prog w) A (call (.builtin "list.append") [acc,x]) (λ_ z7=>∃m,m<n/\I m z7) (λ_ _=>False) z6) (λ_ _=>False) z_
      else ∃m,m<n/\I m z_) (λ_ _=>False) y9) (λ_ _=>False) y8) (λ_ _=>False) y7) (λ_ _=>False) s)(n:Nat)(h:I n s):codeAny (model prog w) A (.compLoop (.ListComp elt [⟨target,iter,ifs,0⟩] scope pos) 0 it acc env) R s:=by
 refine codeAny_loop rfl I (λn s hI=>?_) n h;show wpAny _ A ((compTurn (.ListComp elt [⟨target,iter,ifs,0⟩] scope pos) 0 it acc env).onRaise (λx=>do noteFrame x env;theTreesLotGoes x)) _ _ s;refine wpAny_noted ?_;rw[compTurn_list];refine z9j (wpAny_standAt (z9j (z8n (turn n s hI) (λr y7 w_=>?_) λ_ _ h'=>h'.elim)));cases r with
 |none=>exact z9z w_
 | some v=>
   refine z9j (z8n w_ (λ_ y8 x_=>?_) λ_ _ h'=>h'.elim);refine z9j (z8n x_ (λ_ y9 x0=>z9j (z8n x0 (λok z_ x3=>?_) λ_ _ h'=>h'.elim)) λ_ _ h'=>h'.elim);cases ok with
   |false=>exact z9z ⟨rfl,x3⟩
   |true=>exact z9j (z9j (z8n x3 (λx z6 x9=>z9j (z8n x9 (λ_ z7 y_=>z9z (z9z ⟨rfl,y_⟩)) λ_ _ h'=>h'.elim)) λ_ _ h'=>h'.elim))
noncomputable def blk(X:Cx)(N:j_)(s:Shared)(H:Hp)(scope:Scope)(cl:List (Str×Addr))(ex:m_):Cx:=
 {X with N:=N,s₀:=s,H₀:=H,env:=compEnvC scope cl s.heap.objs.size X.env,outer:=X.stack,ex:=ex,fn:=λ_=>false,pn:=[],xe:=λ_ _=>False}
structure BlkOk (X:Cx) (scope:Scope) (own:j_) (J3:z8) (cn:j_):Prop where
 kind:scope.kind=.function
 nocell:∀x∈scope.names,x.2≠.cell
 locals:∀x∈scope.names,x.2=.local->scope.names.lookup x.1=some .local
 free:∀x∈scope.names,x.2=.free->(X.env.kindOf x.1=some .cell\/X.env.kindOf x.1=some .free)
 names:J3.map (λj=>X.N[j]?)=cn.map some
 capf:∀x∈cn,scope.names.lookup x=some .free
 nd:(own++cn).Nodup
theorem qz{env:PySem.Env}:∀{names:List (Str×NameKind)} {x:Str} {k:NameKind},(names.map λ(n,k)=>if(k==NameKind.free&&env.scope.kind==.function&&env.kindOf n==some .cell)then(n,NameKind.cell)else(n,k)).lookup x=some k ->
  (∀y∈names,y.2≠.cell)->(k=.cell\/k=.free)->(x,NameKind.free)∈names
 |[],_,_,h,_,_=>by simp at h
 | (n, k')::r,x,k,h,hc,hk=>by
   have ih:=@qz env r x k;have h:List.lookup x ((if(k'==NameKind.free&&env.scope.kind==.function&&env.kindOf n==some .cell)=true then(n,NameKind.cell)else(n,k'))::(r.map λ(n,k)=>if(k==NameKind.free&&env.scope.kind==.function&&env.kindOf n==some .cell)then(n,NameKind.cell)else(n,k)))=some k:=h;have hr:∀y∈r,y.2≠.cell:=λy hy=>hc y (z9d _ hy)
   by_cases hcd:(k'==NameKind.free&&env.scope.kind==.function&&env.kindOf n==some .cell)=true
   ·have hk':k'=.free:=by rw[z8m,z8m]at hcd;simpa using hcd.1.1
    rw[if_pos hcd,z8w]at h;cases hx:x==n with
    | true=>
      have e:x=n:=by simpa using hx
      rw[e,hk'];exact z9a
    |false=>rw[hx]at h;exact z9d _ (ih h hr hk)
   ·rw[if_neg hcd,z8w]at h
    cases hx:x==n with
    | true=>
      have e:x=n:=by simpa using hx
      rw[hx]at h;cases h;rcases hk with hk|hk
      ·exact absurd hk (hc (n,k') z9a)
      ·rw[e,<- hk];exact z9a
    |false=>rw[hx]at h;exact z9d _ (ih h hr hk)
theorem vT{env:PySem.Env}:∀{names:List (Str×NameKind)} {x:Str},names.lookup x=some .free ->
  (names.map λ(n,k)=>if(k==NameKind.free&&env.scope.kind==.function&&env.kindOf n==some .cell)then(n,NameKind.cell)else(n,k)).lookup x≠some .local
 |[],_,h=>by simp at h
 | (n,k)::r,x,h=>by
   have ih:=@vT env r x;show List.lookup x ((if(k==NameKind.free&&env.scope.kind==.function&&env.kindOf n==some .cell)=true then(n,NameKind.cell)else(n,k))::(r.map λ(n,k)=>if(k==NameKind.free&&env.scope.kind==.function&&env.kindOf n==some .cell)then(n,NameKind.cell)else(n,k)))≠some .local;rw[z8w]at h;by_cases hcd:(k==NameKind.free&&env.scope.kind==.function&&env.kindOf n==some .cell)=true
   ·rw[if_pos hcd,z8w]
    cases hx:x==n with
    |true=>exact λz=>by cases z
    |false=>rw[hx]at h;exact ih h
   ·rw[if_neg hcd,z8w]
    cases hx:x==n with
    |true=>rw[hx]at h;cases h;exact λz=>by cases z
    |false=>rw[hx]at h;exact ih h
noncomputable def cI(σ:St)(J3:z8):St:=J3.map λj=>(σ[j]?).getD none
def Ex(I:L2.Inv X G_ σ H s)(B:BlkOk X scope own J3 cn)(hcl:∀x c,cl.lookup x=some c->X.env.cells.lookup x=some c)(hha:∀x∈scope.names,x.2=.free->∃c,cl.lookup x.1=some c)(hex:∀b∈ex,cw X G_ H b/\b<s.heap.objs.size)(hns:w_.Ns s.heap.objs.size (λ_=>none))(hk:∀b o,s.heap.get? b=some o->w_.get? b=some o):
  L2.Inv (blk X (own++cn) s H scope cl ex) [] (List.replicate own.length none++cI σ J3) H {s with heap:=w_,toks:=tk}:=by
 have hcap:cn.length=J3.length:=by have:=z8u List.length B.names;simpa using this.symm
 refine⟨⟨I.ok.mod,B.kind,I.ok.glob,I.ok.blt,z9l _,λx y c h1 h2=>I.ok.inj x y c (hcl x c h1) (hcl y c h2),λx hx=>?_,λx c h=>(nomatch h),I.ok.hd,I.ok.frames,.inl rfl,λb hb=>?_,λb o e=>I.bs b o e,z7o I.ok.bsz I.sz,λb o e hb=>?_,λb hb hfs=>?_,I.stack,I.stkFree⟩,
  rfl,I.bare,Un.kept hk,⟨_,hns,λi x v h1 h2 h3=>?_⟩,λx c h=>?_,I.hok.fresh (z9l _),λx c h=>I.freeC x c (hcl x c h),λp hp=>absurd hp (by simp[blk]),I.hok.kept hk,?_⟩
 ·have hx':(relabel scope X.env).names.lookup x=some .cell\/(relabel scope X.env).names.lookup x=some .free:=hx
  have m:(x,NameKind.free)∈scope.names:=by
   rcases hx' with q|q
   ·exact qz q B.nocell (.inl rfl)
   ·exact qz q B.nocell (.inr rfl)
  exact hha _ m rfl
 ·obtain⟨f,lt⟩:=hex b hb
  exact⟨z8o lt,λx c h=>f.2.2.2.2.1 x c (hcl x c h)⟩
 ·obtain⟨f,lt⟩:=hex b hb
  rcases f.2.2.2.1 with q|q
  ·exact I.ok.noex b o e q
  ·exact absurd (z9v (z9n e) I.ok.bsz) (Nat.not_lt.mpr q)
 ·obtain⟨f,lt⟩:=hex b hb
  rcases z9k.mp (I.stkSub b hfs)with q|q
  ·exact f.2.1 q
  ·exact f.2.2.1 q
 ·
  have hlen:(List.replicate own.length (none:D_)).length=own.length:=z8s;by_cases hi:i<own.length
  ·rw[z8f (by rw[hlen];exact hi),z7i,if_pos hi]at h2
   cases h2
  ·rw[z9y (by rw[hlen];ext),hlen]at h2
   have h1':cn[i-own.length]?=some x:=by
    have h1'':(own++cn)[i]?=some x:=h1
    rwa [z9y ∅]at h1''
   unfold cI at h2;rw[z9x]at h2;cases hj:J3[i-own.length]? with
   |none=>rw[hj]at h2;cases h2
   | some j=>
     rw[hj]at h2;have hN:X.N[j]?=some x:=by have q:=z8u (λl=>l[i-own.length]?) B.names;simp only[z9x,hj,h1',z7c]at q;exact z7b q
     have hσ:σ[j]?=some (some v):=by
      simp only[z7c,z6t]at h2;cases e:σ[j]? with
      |none=>rw[e]at h2;cases h2
      |some o=>rw[e]at h2;simp only[z7d]at h2;rw[h2]
     have hxf:scope.names.lookup x=some .free:=B.capf x (z8b h1');have hkind:=B.free (x,.free) (z7y hxf) rfl;have hvis:Vis X.env.scope x:=hkind.elim (λq=>.inr (.inl q)) λq=>.inr (.inr q)
     obtain⟨m,hm,hl⟩:=I.loc;obtain⟨u,r,look⟩:=hl j x v hN hσ hvis;rcases look with⟨hloc,_⟩|⟨_,c,hc,hcell⟩
     ·rcases hkind with q|q<;>rw[q]at hloc<;>cases hloc
     ·obtain⟨c',hc'⟩:=hha (x,.free) (z7y hxf) rfl
      have e:=hcl x c' hc';rw[hc]at e;cases e;refine⟨u,r,.inr ⟨?_,c,hc',?_⟩⟩
      ·rcases h3 with q|q|q
       ·exfalso
        have:(relabel scope X.env).names.lookup x=some .local:=q;unfold relabel at this;have z:=@vT X.env scope.names x hxf;exact z this
       ·exact .inl q
       ·exact .inr q
      ·obtain⟨oc,ho,hd⟩:=hcell
       exact⟨oc,hk _ _ ho,hd⟩
 ·obtain⟨v,oc,ho,hd⟩:=I.cell x c (hcl x c h)
  exact⟨v,oc,hk _ _ ho,hd⟩
 ·show(List.replicate own.length none++cI σ J3).length=(own++cn).length
  simp[cI,hcap]
def Inv.track{d:Addr}(I:L2.Inv X G_ σ H s)(e:s.heap.get? d=some {cls:=.type "list",data:=.seq its.toArray n})(hv:Vals ys its)(hz:ys.length<=sizeLine)(f:cw X G_ H d)(f3:X.s₀.heap.objs.size<=d):L2.Inv X G_ σ (upd H d (.lst ys)) s:=by
 obtain⟨f0,f1,f2,_,f4,f5⟩:=f;have old:∀b o,X.s₀.heap.get? b=some o->b≠d:=λb o q z=>absurd (z9v (z9n q) (by rw[z];exact f3)) (z7u _)
 have nd:∀b u,H b=some u->b≠d:=λb u q z=>by rw[z,f0]at q;cases q
 refine⟨I.ok,I.os,I.bare,⟨I.base.keep,I.base.slot,λb o q n hx=>?_,I.base.there,λb xs q=>?_,λb o u q=>?_,λb ps q=>?_⟩,I.loc,I.cell,?_,λx c q=>?_,λp hp=>?_,λb o q=>?_,I.len⟩
 ·rw[aH (old b o q)];exact I.base.free b o q n hx
 ·have z:=I.base.tups b xs q;rw[aH (nd b _ z)];exact z
 ·have z:=I.base.frzs b o u q;rw[aH (nd b _ z)];exact z
 ·obtain⟨more,z⟩:=I.base.tbls b ps q;exact⟨more,by rw[aH (nd b _ z)];exact z⟩
 ·rw[aH (Ne.symm f1)];exact I.free
 ·rw[aH (f4 x c q)];exact I.freeC x c q
 ·obtain⟨k1,k2,k3,k4,k5⟩:=I.pin p hp
  exact⟨k1,by rw[aH (f5 p hp)];exact k2,k3,k4,k5⟩
 ·by_cases hb:b=d
  ·subst hb
   rw[bj]at q;cases q;exact⟨hz,its,n,hv,e⟩
  ·rw[aH hb]at q
   refine(I.hok b o q).stay (λc v _ z=>z) (λc z=>?_) λc xs z=>?_
   ·rw[aH (nd c _ z)];exact z
   ·rw[aH (nd c _ z)];exact z
def PTs(X:Cx)(ifs:l_)(t:TT):Prop:=
 ∀(G_:u_) (s:Shared) (σ:St) (H:Hp) (Q:Bool->Hp->Prop),L2.Inv X G_ σ H s->t σ H Q ->
   wpAny (model X.prog X.w) X.A (forIn ifs true λc r=>if r=true then do let ok <- isTrue c X.env (eval c X.env);pure (ForInStep.yield ok)else pure (ForInStep.yield r)) (TP X G_ σ Q) X.xe s
def kY:PTs X [] (λ_ H Q=>Q true H):=λG_ s σ H Q I h=>wpAny_tests_nil ⟨H,I,h⟩
def kZ(nown:Nat)(J3:z8)(wi:TI)(g:TG)(tt:TT)(te:TE):TE:=λσ H Q=>wi σ H λJ H1=>∃W:Nat->Nat->C_->St->Hp->Prop,
 (∃m, W 0 m [] (List.replicate nown none++cI σ J3) H1)/\∀i m ys σb H2,W i m ys σb H2->ys.length<sizeLine /\
  ((J.stop i H2/\∀d,H2 d=none->Q (.ref d) (upd H2 d (.lst ys))) \/
   (J.go i H2/\∀x H3,J.yld i H2 x H3->g x σb H3 λσb' H4=>tt σb' H4 λb H5=>if b=true then te σb' H5 λy H6=>∃m',m'<m/\W (i+1) m' (ys++[y]) σb' H6 else ∃m',m'<m/\W (i+1) m' ys σb' H5))
section
variable {g:TG}{te:TE}
structure After (X:Cx) (G_:u_) (σ:St) (H:Hp) (d c:Addr) (ys:C_) (s:Shared):Prop where
 inv:L2.Inv X G_ σ (upd H d (.lst ys)) s
 ns:∃m,s.heap.Ns c m
 new:H d=none
 cf:cw X G_ (upd H d (.lst ys)) c
theorem Ey(B:BlkOk X scope own J3 cn)(hc:X.calm=true)(hg:∀s H cl ex,PG (blk X (own++cn) s H scope cl ex) tg g)(ht:∀s H cl ex,PTs (blk X (own++cn) s H scope cl ex) ifs tt)(he:∀s H cl ex,PE (blk X (own++cn) s H scope cl ex) elt te){s3:Shared}{d:Addr}{tn:Nat->Heap->Prop}{J:It}{W:Nat->Nat->C_->St->Hp->Prop}{m0:Nat}(I3:L2.Inv X G_ σ H2 s3)(hcl:∀x c,cl.lookup x=some c->X.env.cells.lookup x=some c)(hha:∀x∈scope.names,x.2=.free->∃c,cl.lookup x.1=some c)(T:Turn X.prog X.w X.K tg J fp it tn)(st:tn 0 s3.heap)(f2:∀b∈fp,cw X G_ H2 b)(fpd:cw X G_ H2 d)(fd3:X.s₀.heap.objs.size<=d)(dnf:∀b∈fp,b≠d)(hd3:s3.heap.get? d=some {cls:=.type "list",data:=.seq #[] 0})(w0:W 0 m0 [] (List.replicate own.length none++cI σ J3) H2)(turn : ∀i m ys σb H2,W i m ys σb H2->ys.length<sizeLine /\
   ((J.stop i H2/\∀d,H2 d=none->Q (.ref d) (upd H2 d (.lst ys))) \/
    (J.go i H2/\∀x H3,J.yld i H2 x H3->g x σb H3 λσb' H4=>tt σb' H4 λb H5=>if b=true then te σb' H5 λy H6=>∃m',m'<m/\W (i+1) m' (ys++[y]) σb' H6 else ∃m',m'<m/\W (i+1) m' ys σb' H5)))(hns:w_.Ns s3.heap.objs.size (λ_=>none))(hk:∀b o,s3.heap.get? b=some o->w_.get? b=some o){RR:Value->Addr->Result->Shared->Prop}(hRR:∀d c ys H' s',After X G_ σ H' d c ys s'->Q (.ref d) (upd H' d (.lst ys))->RR (.ref d) c (.ok .next) s'):
  codeAny (model X.prog X.w) X.A (.compStart (.ListComp elt [⟨tg,iter,ifs,0⟩] scope pos) 0 (.ref it) (.ref d) (compEnvC scope cl s3.heap.objs.size X.env)) (RR (.ref d) s3.heap.objs.size) {s3 with heap:=w_,toks:=tk}:=by
 have lt3:∀b∈d::fp,b<s3.heap.objs.size:=λb hb=>by
  rcases z9k.mp hb with e|hb
  ·rw[e];exact z9n hd3
  ·obtain⟨o,e,_⟩:=T.obj _ _ st b hb;exact z9n e
 have fex:∀b∈d::fp,cw X G_ H2 b:=λb hb=>(z9k.mp hb).elim (λe=>e▸fpd) (f2 b)
 have IB:=Ex (ex:=d::fp) (tk:=tk) I3 B hcl hha (λb hb=>⟨fex b hb,lt3 b hb⟩) hns hk;have fpB:∀{P:u_} {H':Hp},(∀b∈fp,H' b=none)->(∀p∈P,p.1=d)->∀b∈fp,cw (blk X (own++cn) s3 H2 scope cl (d::fp)) P H' b:=λ{P H'} hn hP b hb=>by
  refine⟨hn b hb,z8o (lt3 b (z9d _ hb)),λz=>?_,.inl (z9d _ hb),λx c q=>(f2 b hb).2.2.2.2.1 x c (hcl x c q),λp hp=>?_⟩
  ·rcases z9k.mp (I3.stkSub b z)with q|q
   ·exact(f2 b hb).2.1 q
   ·exact(f2 b hb).2.2.1 q
  ·have hp':p∈P:=by simpa [blk]using hp
   rw[hP p hp'];exact Ne.symm (dnf b hb)
 have dB:∀{P:u_} {H':Hp},H' d=none->(∀p∈P,p.1∈fp)->cw (blk X (own++cn) s3 H2 scope cl (d::fp)) P H' d:=λ{P H'} hn hP=>by
  refine⟨hn,z8o (lt3 d z9a),λz=>?_,.inl z9a,λx c q=>fpd.2.2.2.2.1 x c (hcl x c q),λp hp=>?_⟩
  ·rcases z9k.mp (I3.stkSub d z)with q|q
   ·exact fpd.2.1 q
   ·exact fpd.2.2.1 q
  ·have hp':p∈P:=by simpa [blk]using hp
   exact λe=>dnf p.1 (hP p hp') e
 have loop:∀s':Shared,s'={s3 with heap:=w_,toks:=tk}->codeAny (model X.prog X.w) X.A (.compLoop (.ListComp elt [⟨tg,iter,ifs,0⟩] scope pos) 0 (.ref it) (.ref d) (compEnvC scope cl s3.heap.objs.size X.env)) (RR (.ref d) s3.heap.objs.size) s':=by
  rintro s' rfl;refine Ev (λn s'=>∃(i:Nat) (ys:C_) (σb:St) (H':Hp) (its:k_) (nn:Nat),L2.Inv (blk X (own++cn) s3 H2 scope cl (d::fp)) [] σb H' s'/\tn i s'.heap/\(∀b∈fp,H' b=none)/\H' d=none/\s'.heap.get? d=some {cls:=.type "list",data:=.seq its.toArray nn}/\Vals ys its/\W i n ys σb H') ?_ m0
   ⟨0,[],_,H2,[],0,IB,T.keep _ _ _ st λb _ o e=>hk b o e,λb hb=>(f2 b hb).1,fpd.1,hk _ _ hd3,.nil,w0⟩
  rintro n s4 ⟨i,ys,σb,H',its,nn,I4,st4,fr4,hd4,o4,r4,w4⟩;have I4p:L2.Inv (blk X (own++cn) s3 H2 scope cl (d::fp)) [(d,{cls:=.type "list",data:=.seq its.toArray nn})] σb H' s4:=I4.pins_of λp hp=>by
   have e:p=(d,{cls:=.type "list",data:=.seq its.toArray nn}):=by simpa using hp
   subst e;obtain⟨a0,a1,a2,_⟩:=dB (P:=[]) hd4 (by simp);exact⟨o4,a0,a1,a2,λv z=>by cases z⟩
  obtain⟨hys,alt⟩:=turn i n ys σb H' w4;rcases alt with⟨stop,q⟩|⟨go,step⟩
  ·refine thn (T.done (blk X (own++cn) s3 H2 scope cl (d::fp)) rfl rfl rfl hc i [(d,{cls:=.type "list",data:=.seq its.toArray nn})] s4 σb H' _ I4p (fpB fr4 (by simp)) st4 stop) λr s5 y4=>?_
   obtain⟨hr,I5⟩:=y4;subst hr;obtain⟨o5,_⟩:=I5.pin (d,{cls:=.type "list",data:=.seq its.toArray nn}) (by simp[blk]);have IX:L2.Inv X G_ σ H' s5:=I3.call' (ch:=d::fp) I5.os I5.base I5.hok I5.bare λb hb=>⟨(fex b hb).2.2.2.1,(fex b hb).2.1,(fex b hb).2.2.2.2.1,(fex b hb).2.2.2.2.2⟩
   have fpd':cw X G_ H' d:=⟨hd4,fpd.2⟩;have IT:=Inv.track IX o5 r4 (z4n hys) fpd' fd3;refine hRR d s3.heap.objs.size ys H' s5 ⟨IT,?_,hd4,?_⟩ (q d hd4)
   ·obtain⟨m,hm,_⟩:=I5.loc;exact⟨m,hm⟩
   ·have cf:H' s3.heap.objs.size=none:=I5.free
    refine I3.fpOk (z9l _) ?_;rw[aH (Ne.symm (z8o (lt3 d z9a)))];exact cf
  ·refine thn (T.item (blk X (own++cn) s3 H2 scope cl (d::fp)) rfl rfl rfl hc i [(d,{cls:=.type "list",data:=.seq its.toArray nn})] s4 σb H' _ I4p (fpB fr4 (by simp)) st4 go) λr s5 y4=>?_
   obtain⟨u,hr,h5⟩:=y4;subst hr;refine thn h5 λ_ s6 y4=>?_
   obtain⟨x,H6,I6,r6,y6,st6,fr6⟩:=y4;have I6':=I6.pinned (fpB fr6 (by simp)) (T.obj _ _ st6);refine thn (hg s3 H2 cl (d::fp) _ s6 σb H6 x u _ I6' r6 (step x H6 y6)) λ_ s7 y4=>?_
   obtain⟨σ7,H7,I7,q7⟩:=y4;refine kl (ht s3 H2 cl (d::fp) _ s7 σ7 H7 _ I7 q7) λb s8 H8 I8 q8=>?_
   have fin:∀{H9:Hp} {s9:Shared},L2.Inv (blk X (own++cn) s3 H2 scope cl (d::fp)) ([(d,{cls:=.type "list",data:=.seq its.toArray nn})]++kn fp s6.heap) σ7 H9 s9 ->
     L2.Inv (blk X (own++cn) s3 H2 scope cl (d::fp)) [] σ7 H9 s9/\tn (i+1) s9.heap/\(∀b∈fp,H9 b=none)/\H9 d=none/\s9.heap.get? d=some {cls:=.type "list",data:=.seq its.toArray nn}:=λ{H9 s9} I9=>by
    have pd:=I9.pin (d,{cls:=.type "list",data:=.seq its.toArray nn}) (by simp[blk]);refine⟨I9.pins_of λp hp=>absurd hp (by simp),T.keep _ _ _ st6 λb hb o e=>(I9.pin (b,o) (z9s _ (z9s _ (m9 hb e)))).1,λb hb=>?_,pd.2.1,pd.1⟩;obtain⟨o,e,_⟩:=T.obj _ _ st6 b hb;exact(I9.pin (b,o) (z9s _ (z9s _ (m9 hb e)))).2.1
   cases b with
   |false=>obtain⟨m',hm,w'⟩:=q8;obtain⟨k1,k2,k3,k4,k5⟩:=fin I8;exact⟨m',hm,i+1,ys,σ7,H8,its,nn,k1,k2,k3,k4,k5,r4,w'⟩
   | true=>
     refine aZ (he s3 H2 cl (d::fp) _ s8 σ7 H8 _ I8 q8) λv s9 y H9 I9 r9 y4=>?_
     obtain⟨m',hm,w'⟩:=y4;obtain⟨k1,k2,k3,k4,k5⟩:=fin I9;have lv:=r4.length;refine z5i F.slot_list_append ⟨_,k5,rfl⟩ F.entry_list_append (F.args_list_append_2 _ _) (PySem.list_append d its.toArray nn v (by rw[z9q];ext)) ⟨k5,?_⟩;have up:=PySem.IsL.update k5 (λa=>a.push v);have ep:its.toArray.push v=(its++[v]).toArray:=by simp
     rw[ep]at up;refine⟨m',hm,i+1,ys++[y],σ7,H9,its++[v],_,?_,?_,k3,k4,up,r4.append (.cons r9 .nil),w'⟩
     ·exact k1.turned (it:=d) (λb o hb e=>(z6n s9.heap _ (Ne.symm hb)).trans e) k4 (dB (P:=[]) k4 (by simp)).2.1 (.inl z9a) (dB (P:=[]) k4 (by simp)).2.2.2.2.1 λp hp=>absurd hp (by simp[blk])
     ·exact T.keep _ _ _ k2 λb hb o e=>(z6n s9.heap _ (Ne.symm (dnf b hb))).trans e
 exact codeAny_compStart_list (loop _ rfl) (T.self X.A 0 _ _ _ (T.keep _ _ _ st λb _ o e=>hk b o e) (loop _ rfl))
def qA(B:BlkOk X scope own J3 cn)(hc:X.calm=true)(hi:PI X tg iter wi)(hg:∀s H cl ex,PG (blk X (own++cn) s H scope cl ex) tg g)(ht:∀s H cl ex,PTs (blk X (own++cn) s H scope cl ex) ifs tt)(he:∀s H cl ex,PE (blk X (own++cn) s H scope cl ex) elt te)(I:L2.Inv X G_ σ H s)(h:kZ own.length J3 wi g tt te σ H Q)(hcl:∀x c,cl.lookup x=some c->X.env.cells.lookup x=some c)(hha:∀x∈scope.names,x.2=.free->∃c,cl.lookup x.1=some c){RR:Value->Addr->Result->Shared->Prop}(hRR:∀d c ys H' s',After X G_ σ H' d c ys s'->Q (.ref d) (upd H' d (.lst ys))->RR (.ref d) c (.ok .next) s'):
  wpAny (model X.prog X.w) X.A (eval iter X.env) (λx y7=>wpAny (model X.prog X.w) X.A (pyIter x) (λit y9=>wpAny (model X.prog X.w) X.A (newList []) (λacc z_=>
   wpAny (model X.prog X.w) X.A (newFunctionEnv scope X.env.globals cl [] X.env.qual none .none (some X.env)) (λcenv z6=>codeAny (model X.prog X.w) X.A (.compStart (.ListComp elt [⟨tg,iter,ifs,0⟩] scope pos) 0 it acc {cenv with scope:=relabel scope X.env}) (RR acc cenv.locals) z6) X.xe z_) X.xe y9) X.xe y7) X.xe s:=by
 refine thn (hi G_ s σ H _ I h) λx s1 h1=>thn h1 λitv s2 h2=>?_
 obtain⟨it,fp,tn,J,H2,rfl,I2,T,st2,f2,W,⟨m0,w0⟩,turn⟩:=h2;refine wpAny_newObj_type (wpAny_newFunctionEnv B.nocell (by intro y hy;simp at hy) (λw_ s_ t_=>?_) B.kind);dsimp only at s_ t_ ⊢;generalize hd:s2.heap.objs.size=d at s_ t_ ⊢;have hfd:H2 d=none:=by rw[<- hd];exact I2.hok.fresh (z9l _)
 have fpd:cw X G_ H2 d:=I2.fpOk (by rw[hd];exact z9l _) hfd;have fpl:∀b∈fp,b<s2.heap.objs.size:=λb hb=>by obtain⟨o,e,_⟩:=T.obj _ _ st2 b hb;exact z9n e
 have dnf:∀b∈fp,b≠d:=λb hb e=>absurd (fpl b hb) (by rw[e,hd];exact z7u _)
 have I3:L2.Inv X G_ σ H2 {s2 with heap:=s2.heap.push {cls:=.type "list",dict:=none,data:=.seq ([]:k_).toArray}}:=I2.kept (t':=s2.toks) λb o e=>z9m _ e
 exact Ey (s3:={s2 with heap:=s2.heap.push {cls:=.type "list",dict:=none,data:=.seq ([]:k_).toArray}}) B hc hg ht he I3 hcl hha T (T.keep _ _ _ st2 λb _ o e=>z9m _ e) f2 fpd (by rw[<- hd];exact I2.sz) dnf
  (by rw[<- hd];exact z8l _ rfl) w0 turn s_ (λb o e=>t_.extBut b o (z8o (z9n e)) (z9m _ e)) hRR
end
structure PostI (K:K0) (σ:St) (ρ:ah) (H:Hp) (es:J_) (ds:E_) (J:It) (H1:Hp):Prop where
 same:Same H H1
 go:∀(i:Nat) (d:D) (H':Hp),ds[i]?=some d->Same H1 H'->J.go i H'/\∀x H'',J.yld i H' x H''->Same H' H''/\Rep K H'' x d/\∀A,Dom H A->(∀e∈es,Av K H σ ρ A e)->Rep K (aq H'' A) x d
 stop:∀H',Same H1 H'->J.stop ds.length H'
def tvI(K:K0)(f:FEs)(es:J_):TI:=λσ H R=>∃ρ ds,EnvR K H σ ρ/\f ρ=some ds/\∀J H1,PostI K σ ρ H es ds J H1->R J H1
abbrev VI(X:Cx)(tg iter:Expr)(f:FEs)(es:J_):Prop:=PI X tg iter (tvI X.K f es)
structure JI (X:Cx) (tg iter:Expr) (f:FEs) (es:J_):Prop where
 h:VI X tg iter f es
def qB{t t':TI}(h:PI X tg e t)(i:∀σ H R,t' σ H R->t σ H R):PI X tg e t':=λG_ s σ H R I q=>h G_ s σ H R I (i σ H R q)
def mT{t:TI}{f:FEs}{es:J_}(h:PI X tg e t)(i:∀σ H R ρ ds,EnvR X.K H σ ρ->f ρ=some ds->(∀J H1,PostI X.K σ ρ H es ds J H1->R J H1)->t σ H R):PI X tg e (tvI X.K f es):=qB h λσ H R y4=>by obtain⟨ρ,d,hE,hf,hQ⟩:=y4;exact i σ H R ρ d hE hf hQ
section
variable {fi:FE}{as:FEs}{ei:J_}
def dY(f:FE):FEs:=λρ=>(f ρ).bind λd=>if di d=true then none else items d
theorem gi(h:JB X iter fi ei):JI X tg iter (dY fi) ei:=⟨have h:=h.h;mT (m7 h) λσ H R ρ ds hE hf hR=>by
 obtain⟨d,h1,hf⟩:=bind_some hf;cases ht:di d with
 |true=>rw[if_pos ht]at hf;cases hf
 |false=>rw[if_neg (by rw[ht];exact z8g)]at hf;refine⟨ρ,d,hE,h1,λv H1 p=>?_⟩;obtain⟨q,xs,rfl,hq,hx,hA⟩:=fF p.rep hf ht;have len:=hx.length;refine⟨q,rfl,⟨xs,hq⟩,hR _ _ ⟨p.same,λi d' H' hd e=>?_,λH' e=>⟨xs,e.seq hq,by ext⟩⟩⟩;obtain⟨x,h2,h3⟩:=hx.get hd;refine⟨⟨xs,x,e.seq hq,h2⟩,λy H'' y4=>?_⟩;obtain⟨eq,hy⟩:=y4;subst eq;have e2:=hy xs (e.seq hq);rw[h2]at e2;cases e2;refine⟨Same.refl _,aw e h3,λA hD hz=>?_⟩;obtain⟨x',h4,h5⟩:=(hA A (p.av A hD hz)).get hd;rw[h2]at h4;cases h4;exact aw (cy e) h5⟩
def Ez{ρ:ah}(e:Same H H1):PostI K σ ρ H [] (d9 lo n) (Itr lo n) H1:=by
 refine⟨e,λi d H' hd _=>?_,λH' _=>?_⟩
 ·have hi:i<n:=by have:=(z9e.mp hd).1;simpa [d9]using this
  have ed:d=.int (lo+i):=by have:=(z9e.mp hd).2;rw[<- this];simp[d9]
  subst ed;refine⟨hi,λx H'' y4=>?_⟩;obtain⟨e1,e2⟩:=y4;subst e1 e2;exact⟨Same.refl _,.int _,λA _ _=>.int _⟩
 ·show n<=(d9 lo n).length
  simp[d9]
def iR1(as:FEs):FEs:=λρ=>(as ρ).bind λds=>match ds with
 |[.int j]=>if okR j then some (d9 0 j.toNat)else none
 |_=>none
theorem vU(mr:X.mg "range"=none)(hi:JA X [a] as ei)(hg:Gl X "range"<|>J7)(hst:starEach [a] X.env=[(false,eval a X.env)]<|>J7):JI X tg (.Call (.Name "range" pn) [a] [] pr) (iR1 as) []:=⟨have hi:=hi.h;
 mT (m8 hg mr hi hst) λσ H R ρ ds hE hf hR=>by
  obtain⟨vs,h1,hf⟩:=bind_some hf;refine⟨ρ,vs,hE,h1,λxs H1 p=>?_⟩
  match vs,hf,p with
  |[.int j],hf,p=>obtain⟨hj,rfl⟩:=bz hf;obtain⟨v,rfl,r⟩:=fH p.rep;cases r;exact⟨j,rfl,hj.1,hj.2,hR _ _ (Ez p.same)⟩⟩
end
noncomputable def bJ{α:Type}(σ:List (Option α))(is:z8)(xs:List α):List (Option α):=(is.zip xs).foldl (λr p=>r.set p.1 (some p.2)) σ
structure TgV (K:K0) (g:TG) (is:z8) (un:D->Option E_):Prop where
 ok:∀(x:V) (σ:St) (H:Hp) (Q:St->Hp->Prop) (d:D) (ds:E_),Rep K H x d->un d=some ds->(∀xs:C_,Reps K H xs ds->(∀A,Rep K (aq H A) x d->Reps K (aq H A) xs ds)->Q (bJ σ is xs) H)->g x σ H Q
 len:∀d ds,un d=some ds->ds.length=is.length
noncomputable def un1(d:D):Option E_:=some [d]
def dZ(t:Nat):TgV K (cg t) [t] un1 where
 ok:=λx σ H Q d ds r hd h=>by cases hd;exact h [x] (.cons r .nil) λA r'=>.cons r' .nil
 len:=λd ds h=>by cases h;rfl
noncomputable def unT(n:Nat):D->Option E_
 |.tup ds=>if ds.length=n then some ds else none
 |_=>none
theorem vV{Q:St->Hp->Prop}{H:Hp}:∀{is:z8} {xs:C_} {σ:St},is.length=xs.length->Q (bJ σ is xs) H->ju is xs σ H Q
 |[],[],_,_,h=>⟨rfl,h⟩
 |[],_::_,_,h,_=>by cases h
 |_::_,[],_,h,_=>by cases h
 |i::is,x::xs,σ,hl,h=>⟨x,xs,rfl,vV (σ:=σ.set i (some x)) (by simpa using hl) h⟩
theorem mU(is:z8):TgV K (ud K is.length (ju is)) is (unT is.length) where
 ok:=λx σ H Q d ds r hd h=>by
  cases d with
  |tup es=>obtain⟨hl,rfl⟩:=bz hd;obtain⟨p,xs,rfl,hp,hx⟩:=qt r;have len:=hx.length;exact⟨p,xs,rfl,.inl hp,by ext,vV ∅ (h xs hx λA r'=>vP hp r')⟩
  |_=>cases hd
 len:=λd ds h=>by
  cases d with
  |tup es=>obtain⟨hl,rfl⟩:=bz h;exact hl
  |_=>cases h
noncomputable def bt(nown:Nat)(J3:z8)(ρ:ah):ah:=List.replicate nown none++J3.map λj=>(ρ[j]?).getD none
theorem mV{P:Nat->V->D->Prop}:∀{is:z8} {xs:C_} {ds:E_} {σ:St} {ρ:ah},σ.length=ρ.length->xs.length=ds.length->(∀(j:Nat) v d,σ[j]?=some (some v)->ρ[j]?=some (some d)->P j v d) ->
  (∀(k:Nat) j v d,is[k]?=some j->xs[k]?=some v->ds[k]?=some d->P j v d)->∀(j:Nat) v d,(bJ σ is xs)[j]?=some (some v)->(bJ ρ is ds)[j]?=some (some d)->P j v d
 |[],_,_,_,_,_,_,h0,_=>by simpa [bJ]using h0
 |i::is,[],[],_,_,_,_,h0,_=>by simpa [bJ]using h0
 |i::is,[],_::_,_,_,_,h,_,_=>by cases h
 |i::is,_::_,[],_,_,_,h,_,_=>by cases h
 | i::is,x::xs,d::ds,σ,ρ,hl,hx,h0,h1=>by
   refine mV (is:=is) (xs:=xs) (ds:=ds) (σ:=σ.set i (some x)) (ρ:=ρ.set i (some d)) (by simpa using hl) (by simpa using hx) (λj v d' e1 e2=>?_) λk j v d' a1 a2 a3=>h1 (k+1) j v d' (by simpa using a1) (by simpa using a2) (by simpa using a3)
   by_cases hj:j=i
   ·subst hj
    have l1:j<σ.length:=by have:=(z9e.mp e1).1;simpa using this
    rw[z9r l1]at e1;rw[z9r ∅]at e2;cases e1;cases e2;exact h1 0 j x d rfl rfl rfl
   ·rw[z9g (Ne.symm hj)]at e1 e2
    exact h0 j v d' e1 e2
theorem vW{α β:Type}:∀{is:z8} {xs:List α} {ds:List β} {σ:List (Option α)} {ρ:List (Option β)},σ.length=ρ.length->xs.length=ds.length->(∀(j:Nat) d,ρ[j]?=some (some d)->∃v,σ[j]?=some (some v)) ->
  ∀(j:Nat) d,(bJ ρ is ds)[j]?=some (some d)->∃v,(bJ σ is xs)[j]?=some (some v)
 |[],_,_,_,_,_,_,h0=>by simpa [bJ]using h0
 |i::is,[],[],_,_,_,_,h0=>by simpa [bJ]using h0
 |i::is,[],_::_,_,_,_,h,_=>by cases h
 |i::is,_::_,[],_,_,_,h,_=>by cases h
 | i::is,x::xs,d::ds,σ,ρ,hl,hx,h0=>by
   refine vW (is:=is) (xs:=xs) (ds:=ds) (σ:=σ.set i (some x)) (ρ:=ρ.set i (some d)) (by simpa using hl) (by simpa using hx) λj d' e2=>?_
   by_cases hj:j=i
   ·subst hj
    have l1:j<ρ.length:=by have:=(z9e.mp e2).1;simpa using this
    exact⟨x,z9r ∅⟩
   ·rw[z9g (Ne.symm hj)]at e2 ⊢
    exact h0 j d' e2
theorem vX{α:Type}:∀{is:z8} {xs:List α} {σ:List (Option α)},(bJ σ is xs).length=σ.length
 |[],_,_=>by simp[bJ]
 |_::_,[],_=>by simp[bJ]
 |i::is,x::xs,σ=>by have:=vX (is:=is) (xs:=xs) (σ:=σ.set i (some x));simpa [bJ]using this
theorem vY{α:Type}{n:Nat}:∀{is:z8} {xs:List α} {σ:List (Option α)},(∀i∈is,i<n)->∀j,n<=j->(bJ σ is xs)[j]?=σ[j]?
 |[],_,_,_,_,_=>by simp[bJ]
 |_::_,[],_,_,_,_=>by simp[bJ]
 |i::is,x::xs,σ,h,j,hj=>by have:=vY (is:=is) (xs:=xs) (σ:=σ.set i (some x)) (λk hk=>h k (z9d _ hk)) j hj;have hi:=h i z9a;rw[z9g ∅]at this;simpa [bJ]using this
noncomputable def esC(nown:Nat)(J3:z8)(ei:J_):J_->J_
 |[]=>[]
 |.full j::r=>(if j<nown then ei else [.full (J3.getD (j-nown) 0)])++esC nown J3 ei r
 |.el j::r=>(if j<nown then ei else [.el (J3.getD (j-nown) 0)])++esC nown J3 ei r
theorem mW{nown:Nat}{J3:z8}{ei:J_}:∀{ee:J_} {e:Es},e∈ee->(∀j,e=.full j\/e=.el j->j<nown)->∀z∈ei,z∈esC nown J3 ei ee
 | .full j::r,e,he,hj,z,hz=>by
   rcases z9k.mp he with q|q
   ·have:=hj j (.inl q)
    show z∈(if j<nown then ei else _)++_;rw[if_pos this];exact z8i _ hz
   ·exact z9s _ (mW q hj z hz)
 | .el j::r,e,he,hj,z,hz=>by
   rcases z9k.mp he with q|q
   ·have:=hj j (.inr q)
    show z∈(if j<nown then ei else _)++_;rw[if_pos this];exact z8i _ hz
   ·exact z9s _ (mW q hj z hz)
theorem qC{nown:Nat}{J3:z8}{ei:J_}{j:Nat}(hj:¬j<nown):∀{ee:J_},Es.full j∈ee->Es.full (J3.getD (j-nown) 0)∈esC nown J3 ei ee
 | .full k::r,he=>by
   rcases z9k.mp he with q|q
   ·cases q
    show _∈(if j<nown then ei else _)++_;rw[if_neg hj];exact z8i _ z9a
   ·exact z9s _ (qC hj q)
 | .el k::r,he=>by
   rcases z9k.mp he with q|q
   ·cases q
   ·exact z9s _ (qC hj q)
theorem qD{nown:Nat}{J3:z8}{ei:J_}{j:Nat}(hj:¬j<nown):∀{ee:J_},Es.el j∈ee->Es.el (J3.getD (j-nown) 0)∈esC nown J3 ei ee
 | .full k::r,he=>by
   rcases z9k.mp he with q|q
   ·cases q
   ·exact z9s _ (qD hj q)
 | .el k::r,he=>by
   rcases z9k.mp he with q|q
   ·cases q
    show _∈(if j<nown then ei else _)++_;rw[if_neg hj];exact z8i _ z9a
   ·exact z9s _ (qD hj q)
noncomputable def gj(g:D->Option F_):E_->Option E_
 |[]=>some []
 |x::r=>(g x).bind λo=>(gj g r).bind λds=>some (match o with|some d=>d::ds|none=>ds)
def iC(is:z8)(un:D->Option E_)(c:ah->B_)(fe:FE)(ρ:ah):D->Option F_:=λd=>(un d).bind λds=>(c (bJ ρ is ds)).bind λb=>if b=true then(fe (bJ ρ is ds)).map some else some none
def bR(nown:Nat)(J3:z8)(is:z8)(un:D->Option E_)(fi:FEs)(c:ah->B_)(fe:FE):FE:=λρ=>(fi ρ).bind λds=>if ds.length<100000 then(gj (iC is un c fe (bt nown J3 ρ)) ds).map .lst else none
noncomputable def bX:ah->B_:=λ_=>some true
def vZ{un:D->Option E_}{fi:FEs}{ei ee:J_}{g:TG}{c:ah->B_}{fe:FE}(hg:TgV K g is un)(his:∀i∈is,i<nown)(h:tvF K (bR nown J3 is un fi c fe) (esC nown J3 ei ee) σ H Q):kZ nown J3 (tvI K fi ei) g (tvT K c) (tv K fe ee) σ H Q:=by
 obtain⟨ρ,dd,hE,hf,hQ⟩:=h;obtain⟨ds,h1,hf⟩:=bind_some hf;by_cases hl:ds.length<100000
 ·rw[if_pos hl]at hf
  cases htot:gj (iC is un c fe (bt nown J3 ρ)) ds with
  |none=>rw[htot]at hf;cases hf
  | some tot=>
    rw[htot]at hf;cases hf;refine⟨ρ,ds,hE,h1,λJ H1 p=>?_⟩;refine⟨λi m ys σb H2=>m=ds.length-i/\i<=ds.length/\Same H1 H2/\(σb.length=nown+J3.length/\∀k,nown<=k->σb[k]?=(cI σ J3)[k-nown]?) /\
     ∃done rest,gj (iC is un c fe (bt nown J3 ρ)) (ds.drop i)=some rest/\tot=done++rest/\done.length<=i/\Reps K H2 ys done/\∀A,Dom H A->(∀e∈esC nown J3 ei ee,Av K H σ ρ A e)->Reps K (aq H2 A) ys done,?_,?_⟩
    ·refine⟨ds.length,by simp,z7h _,Same.refl _,⟨by simp[cI],λk hk=>?_⟩,[],tot,by simpa using htot,rfl,z9l _,.nil,λ_ _ _=>.nil⟩
     rw[z9y (by simpa using hk)];simp
    ·rintro i m ys σb H2 ⟨rfl,hi,e2,⟨hlen,hcap⟩,done,rest,hgo,htot',hdl,hr,hA⟩
     have lys:=hr.length;refine⟨z9v (show ys.length<100000 by ext) (by decide),?_⟩;by_cases hlt:i<ds.length
     ·obtain⟨d,hd⟩:∃d,ds[i]?=some d:=⟨ds[i],by simp[hlt]⟩
      have ed:ds.drop i=d::ds.drop (i+1):=by rw[z8c hlt];have q:=(z9e.mp hd).2;rw[q]
      rw[ed]at hgo;obtain⟨o,ho,hgo⟩:=bind_some hgo;obtain⟨rest',hgo',hgo⟩:=bind_some hgo;cases hgo;obtain⟨ts,hun,ho⟩:=bind_some ho;obtain⟨b,hb,ho⟩:=bind_some ho;obtain⟨jg,jy⟩:=p.go i d H2 hd e2;refine .inr ⟨jg,λx H3 y=>?_⟩;obtain⟨e3,rx,ax⟩:=jy x H3 y;refine hg.ok x σb H3 _ d ts rx hun λxs rxs axs=>?_
      have e13:Same H H3:=(p.same.trans e2).trans e3;have lx:=rxs.length;have lts:=hg.len d ts hun;have lb:σb.length=(bt nown J3 ρ).length:=by rw[hlen];simp[bt]
      have base:∀(j:Nat) v d',σb[j]?=some (some v)->(bt nown J3 ρ)[j]?=some (some d')->¬j<nown/\∃k,J3[j-nown]?=some k/\σ[k]?=some (some v)/\ρ[k]?=some (some d'):=λj v d' q1 q2=>by
       by_cases hj:j<nown
       ·unfold bt at q2
        rw[z8f (by simpa using hj),z7i,if_pos hj]at q2;cases q2
       ·rw[hcap j ∅]at q1
        unfold bt at q2;rw[z9y (by simp;ext)]at q2;simp only[z8s,z9x]at q2;unfold cI at q1;rw[z9x]at q1;cases hk:J3[j-nown]? with
        |none=>rw[hk]at q1;cases q1
        | some k=>
          rw[hk]at q1 q2;refine⟨hj,k,rfl,?_,?_⟩
          ·simp only[z7c,z6t]at q1
           cases e:σ[k]? with
           |none=>rw[e]at q1;cases q1
           |some o'=>rw[e]at q1;simp only[z7d]at q1;rw[q1]
          ·simp only[z7c,z6t]at q2
           cases e:ρ[k]? with
           |none=>rw[e]at q2;cases q2
           |some o'=>rw[e]at q2;simp only[z7d]at q2;rw[q2]
      have hE':EnvR K H3 (bJ σb is xs) (bJ (bt nown J3 ρ) is ts):=λj d' q=>by
       obtain⟨v,hv⟩:=vW lb lx (λj' d'' q'=>by
        by_cases hj:j'<nown
        ·unfold bt at q'
         rw[z8f (by simpa using hj),z7i,if_pos hj]at q';cases q'
        ·have q0:=q'
         unfold bt at q';rw[z9y (by simp;ext)]at q';simp only[z8s,z9x]at q';cases hk:J3[j'-nown]? with
         |none=>rw[hk]at q';cases q'
         | some k=>
           rw[hk]at q';simp only[z7c,z6t]at q';cases e:ρ[k]? with
           |none=>rw[e]at q';cases q'
           |some o'=>rw[e]at q';simp only[z7d]at q';subst q';obtain⟨v,hv,_⟩:=hE k d'' e;refine⟨v,?_⟩;rw[hcap j' ∅];unfold cI;rw[z9x,hk];simp[hv]) j d' q
       refine⟨v,hv,mV (P:=λ_ v d=>Rep K H3 v d) lb lx (λj v d' q1 q2=>?_) (λk j v d' a1 a2 a3=>?_) j v d' hv q⟩
       ·obtain⟨_,k,_,k1,k2⟩:=base j v d' q1 q2
        obtain⟨v',k3,k4⟩:=hE k d' k2;rw[k1]at k3;cases k3;exact aw e13 k4
       ·obtain⟨v',k3,k4⟩:=rxs.get a3
        rw[a2]at k3;cases k3;exact k4
      have av:∀A,Dom H A->(∀e∈esC nown J3 ei ee,Av K H σ ρ A e)->∀H5,Same H3 H5->∀e∈ee,Av K H5 (bJ σb is xs) (bJ (bt nown J3 ρ) is ts) A e:=λA hD hz H5 e5 e he=>by
       have item:(∀z∈ei,z∈esC nown J3 ei ee)->Reps K (aq H3 A) xs ts:=λhsub=>axs A (ax A hD λz hz'=>hz z (hsub z hz'))
       refine Av.mono e5 ?_;cases e with
       | full j0=>
         intro v d' q1 q2;refine mV (P:=λj v d=>j=j0->Rep K (aq H3 A) v d) lb lx (λj v d' q3 q4 ej=>?_) (λk j v d' a1 a2 a3 ej=>?_) j0 v d' q1 q2 rfl
         ·rw[<- ej]at he
          obtain⟨hj,k,hk,k1,k2⟩:=base j v d' q3 q4;have:=hz _ (qC hj he);rw[z8v,hk]at this;exact aw (cy e13) (this v d' k1 k2)
         ·rw[<- ej]at he
          have hj:=his j (z8b a1);obtain⟨v',k3,k4⟩:=(item (mW he λj' hj'=>by rcases hj' with q|q<;>cases q;exact hj)).get a3;rw[a2]at k3;cases k3;exact k4
       | el j0=>
         intro v d' q1 q2;refine mV (P:=λj v d=>j=j0->ElR K H3 A v d) lb lx (λj v d' q3 q4 ej=>?_) (λk j v d' a1 a2 a3 ej=>?_) j0 v d' q1 q2 rfl
         ·rw[<- ej]at he
          obtain⟨hj,k,hk,k1,k2⟩:=base j v d' q3 q4;have:=hz _ (qD hj he);rw[z8v,hk]at this;exact(this v d' k1 k2).mono e13
         ·rw[<- ej]at he
          have hj:=his j (z8b a1);obtain⟨v',k3,k4⟩:=(item (mW he λj' hj'=>by rcases hj' with q|q<;>cases q;exact hj)).get a3;rw[a2]at k3;cases k3;exact k4.el
      have shape:(bJ σb is xs).length=nown+J3.length/\∀k,nown<=k->(bJ σb is xs)[k]?=(cI σ J3)[k-nown]?:=⟨by rw[vX];exact hlen,λk hk=>by rw[vY his k hk];exact hcap k hk⟩;refine⟨_,b,hE',hb,λH5 e5=>?_⟩;have e25:Same H2 H5:=e3.trans e5;cases b with
      |false=>cases ho;refine dW ⟨ds.length-(i+1),by ext,rfl,hlt,e2.trans e25,shape,done,rest',hgo',htot',by ext,aQ e25 hr,λA hD hz=>aQ (cy e25) (hA A hD hz)⟩
      | true=>
        have ho':(fe (bJ (bt nown J3 ρ) is ts)).map some=some o:=ho;cases hfe:fe (bJ (bt nown J3 ρ) is ts)with
        |none=>rw[hfe]at ho';cases ho'
        |some dv=>rw[hfe]at ho';cases ho';refine dX ⟨_,dv,hE'.mono e5,hfe,λv H6 p6=>?_⟩;have e26:Same H2 H6:=e25.trans p6.same;refine⟨ds.length-(i+1),by ext,rfl,hlt,e2.trans e26,shape,done++[dv],rest',hgo',by rw[htot'];simp,by simp;ext,(aQ e26 hr).append (.cons p6.rep .nil),λA hD hz=>?_⟩;exact(aQ (cy e26) (hA A hD hz)).append (.cons (p6.av A (hD.mono (e13.trans e5)) (av A hD hz H5 e5)) .nil)
     ·have ei':i=ds.length:=by ext
      subst ei';rw[z6c]at hgo;cases hgo;rw[z8r]at htot';subst htot';exact .inl ⟨p.stop H2 e2,λd hd=>hQ _ _ (ir (p.same.trans e2) hd λA hD hz=>hA A hD hz)⟩
 ·rw[if_neg hl]at hf;cases hf
noncomputable def b2z(b:Bool):Int:=if b then 1 else 0
def dm:D->D->Bool
 |.non,.non=>true
 |.bl a,.bl b=>a==b
 |.int i,.int j=>i==j
 |.str x,.str y=>x==y
 |.bl a,.int j=>b2z a==j
 |.int i,.bl b=>i==b2z b
 |_,_=>false
noncomputable def bo:Nat->D->D->Bool
 |k+1,.lst xs,.lst ys=>xs.length==ys.length&&(xs.zip ys).all λp=>bo k p.1 p.2
 |k+1,.tup xs,.tup ys=>xs.length==ys.length&&(xs.zip ys).all λp=>bo k p.1 p.2
 |_,d,e=>dm d e
noncomputable def bE:Nat->D->Bool
 |_,.scr _=>false
 |_,.dct _ _=>false
 |_,.ptr _=>false
 |0,.lst _=>false
 |0,.tup _=>false
 |k+1,.lst xs=>xs.all (bE k)
 |k+1,.tup xs=>xs.all (bE k)
 |_,_=>true
structure Cmp3 (A:Around) (s:Shared) (v u:Value) (b:Bool):Prop where
 eq:SeqAt.EqAt A s v u b
 rc:SeqAt.RcAt A s v u b
 ne:SeqAt.RcNeAt A s v u (!b)
theorem qE(f:D->D->Bool):∀(xs ys:E_),xs.length=ys.length ->
  (List.range xs.length).all (λj=>match xs[j]?,ys[j]? with|some a,some b=>f a b|_,_=>false)=(xs.zip ys).all λp=>f p.1 p.2
 |[],[],_=>rfl
 |[],_::_,h=>by cases h
 |_::_,[],h=>by cases h
 |x::xs,y::ys,h=>by have ih:=qE f xs ys (by simpa using h);rw[z9b,List.range_succ_eq_map,z7v,List.all_map,z7j,z7v,<- ih];simp[Function.comp_def]
noncomputable def qF:D->Bool
 |.scr _=>true
 |.dct _ _=>true
 |.ptr _=>true
 |_=>false
noncomputable def mX:D->D->Bool
 |.lst _,.lst _=>true
 |.tup _,.tup _=>true
 |_,_=>false
def w5(I:L2.Inv X G_ σ H s)(A:Around)(v u:V)(vv uu:Value)(d e:D)(hu:A.units<cLine)(nd:qF d=false)(ne:qF e=false)(nl:mX d e=false)(rd:Rep X.K H v d)(re:Rep X.K H u e)(rv:RelV v vv)(ru:RelV u uu):Cmp3 A s vv uu (dm d e):=by
 cases rd with
 |scr _=>cases nd
 |dct _=>cases nd
 |ptr _=>cases nd
 | non=>
   cases rv;cases re with
   |scr _=>cases ne
   |dct _=>cases ne
   |ptr _=>cases ne
   |non=>cases ru;exact⟨.same _,.none_none,.none_none⟩
   |bl b2=>cases ru;exact⟨.none_bool b2,.none_bool b2,.none_bool b2⟩
   |int i2=>obtain⟨t2,rfl⟩:=ru;exact⟨.none_int i2 t2,.none_int i2 t2,.none_int i2 t2⟩
   |str x2=>obtain⟨t2,rfl⟩:=ru;exact⟨.none_str x2 t2,.none_str x2 t2,.none_str x2 t2⟩
   |@lst p2 xs2 ds2 h2 r2=>cases ru;obtain⟨its2,q2,pl2,z2⟩:=I.list (.inl h2);have l2:=pl2.isList;exact⟨.none_list l2 hu,.none_list l2 hu,.none_list l2 hu⟩
   |@tup p2 xs2 ds2 h2 r2=>have h2:=eh h2;cases ru;obtain⟨its2,q2,l2,z2⟩:=I.tuple (.inl h2);exact⟨.none_tuple l2 hu,.none_tuple l2 hu,.none_tuple l2 hu⟩
 | bl b1=>
   cases rv;cases re with
   |scr _=>cases ne
   |dct _=>cases ne
   |ptr _=>cases ne
   |non=>cases ru;exact⟨.bool_none b1,.bool_none b1,.bool_none b1⟩
   |bl b2=>cases ru;exact⟨.bool_bool b1 b2,.bool_bool b1 b2,.bool_bool b1 b2⟩
   |int i2=>obtain⟨t2,rfl⟩:=ru;exact⟨.bool_int b1 i2 t2,.bool_int b1 i2 t2,.bool_int b1 i2 t2⟩
   |str x2=>obtain⟨t2,rfl⟩:=ru;exact⟨.bool_str b1 x2 t2,.bool_str b1 x2 t2,.bool_str b1 x2 t2⟩
   |@lst p2 xs2 ds2 h2 r2=>cases ru;obtain⟨its2,q2,pl2,z2⟩:=I.list (.inl h2);have l2:=pl2.isList;exact⟨.bool_list b1 l2 hu,.bool_list b1 l2 hu,.bool_list b1 l2 hu⟩
   |@tup p2 xs2 ds2 h2 r2=>have h2:=eh h2;cases ru;obtain⟨its2,q2,l2,z2⟩:=I.tuple (.inl h2);exact⟨.bool_tuple b1 l2 hu,.bool_tuple b1 l2 hu,.bool_tuple b1 l2 hu⟩
 | int i1=>
   obtain⟨t1,rfl⟩:=rv;cases re with
   |scr _=>cases ne
   |dct _=>cases ne
   |ptr _=>cases ne
   |non=>cases ru;exact⟨.int_none i1 t1,.int_none i1 t1,.int_none i1 t1⟩
   |bl b2=>cases ru;exact⟨.int_bool i1 t1 b2,.int_bool i1 t1 b2,.int_bool i1 t1 b2⟩
   |int i2=>obtain⟨t2,rfl⟩:=ru;exact⟨.int_int i1 t1 i2 t2,.int_int i1 t1 i2 t2,.int_int i1 t1 i2 t2⟩
   |str x2=>obtain⟨t2,rfl⟩:=ru;exact⟨.int_str i1 t1 x2 t2,.int_str i1 t1 x2 t2,.int_str i1 t1 x2 t2⟩
   |@lst p2 xs2 ds2 h2 r2=>cases ru;obtain⟨its2,q2,pl2,z2⟩:=I.list (.inl h2);have l2:=pl2.isList;exact⟨.int_list i1 t1 l2 hu,.int_list i1 t1 l2 hu,.int_list i1 t1 l2 hu⟩
   |@tup p2 xs2 ds2 h2 r2=>have h2:=eh h2;cases ru;obtain⟨its2,q2,l2,z2⟩:=I.tuple (.inl h2);exact⟨.int_tuple i1 t1 l2 hu,.int_tuple i1 t1 l2 hu,.int_tuple i1 t1 l2 hu⟩
 | str x1=>
   obtain⟨t1,rfl⟩:=rv;cases re with
   |scr _=>cases ne
   |dct _=>cases ne
   |ptr _=>cases ne
   |non=>cases ru;exact⟨.str_none x1 t1,.str_none x1 t1,.str_none x1 t1⟩
   |bl b2=>cases ru;exact⟨.str_bool x1 t1 b2,.str_bool x1 t1 b2,.str_bool x1 t1 b2⟩
   |int i2=>obtain⟨t2,rfl⟩:=ru;exact⟨.str_int x1 t1 i2 t2,.str_int x1 t1 i2 t2,.str_int x1 t1 i2 t2⟩
   |str x2=>obtain⟨t2,rfl⟩:=ru;exact⟨.str_str x1 t1 x2 t2,.str_str x1 t1 x2 t2,.str_str x1 t1 x2 t2⟩
   |@lst p2 xs2 ds2 h2 r2=>cases ru;obtain⟨its2,q2,pl2,z2⟩:=I.list (.inl h2);have l2:=pl2.isList;exact⟨.str_list x1 t1 l2 hu,.str_list x1 t1 l2 hu,.str_list x1 t1 l2 hu⟩
   |@tup p2 xs2 ds2 h2 r2=>have h2:=eh h2;cases ru;obtain⟨its2,q2,l2,z2⟩:=I.tuple (.inl h2);exact⟨.str_tuple x1 t1 l2 hu,.str_tuple x1 t1 l2 hu,.str_tuple x1 t1 l2 hu⟩
 | @lst p1 xs1 ds1 h1 r1=>
   cases rv;obtain⟨its1,q1,pl1,z1⟩:=I.list (.inl h1);have l1:=pl1.isList;cases re with
   |scr _=>cases ne
   |dct _=>cases ne
   |ptr _=>cases ne
   |non=>cases ru;exact⟨.list_none l1 hu,.list_none l1 hu,.list_none l1 hu⟩
   |bl b2=>cases ru;exact⟨.list_bool b2 l1 hu,.list_bool b2 l1 hu,.list_bool b2 l1 hu⟩
   |int i2=>obtain⟨t2,rfl⟩:=ru;exact⟨.list_int i2 t2 l1 hu,.list_int i2 t2 l1 hu,.list_int i2 t2 l1 hu⟩
   |str x2=>obtain⟨t2,rfl⟩:=ru;exact⟨.list_str x2 t2 l1 hu,.list_str x2 t2 l1 hu,.list_str x2 t2 l1 hu⟩
   |lst _ _=>cases nl
   |@tup p2 xs2 ds2 h2 r2=>have h2:=eh h2;cases ru;obtain⟨its2,q2,l2,z2⟩:=I.tuple (.inl h2);exact⟨.list_tuple l1 l2 hu,.list_tuple l1 l2 hu,.list_tuple l1 l2 hu⟩
 | @tup p1 xs1 ds1 h1 r1=>
   have h1:=eh h1;cases rv;obtain⟨its1,q1,l1,z1⟩:=I.tuple (.inl h1);cases re with
   |scr _=>cases ne
   |dct _=>cases ne
   |ptr _=>cases ne
   |non=>cases ru;exact⟨.tuple_none l1 hu,.tuple_none l1 hu,.tuple_none l1 hu⟩
   |bl b2=>cases ru;exact⟨.tuple_bool b2 l1 hu,.tuple_bool b2 l1 hu,.tuple_bool b2 l1 hu⟩
   |int i2=>obtain⟨t2,rfl⟩:=ru;exact⟨.tuple_int i2 t2 l1 hu,.tuple_int i2 t2 l1 hu,.tuple_int i2 t2 l1 hu⟩
   |str x2=>obtain⟨t2,rfl⟩:=ru;exact⟨.tuple_str x2 t2 l1 hu,.tuple_str x2 t2 l1 hu,.tuple_str x2 t2 l1 hu⟩
   |@lst p2 xs2 ds2 h2 r2=>cases ru;obtain⟨its2,q2,pl2,z2⟩:=I.list (.inl h2);have l2:=pl2.isList;exact⟨.tuple_list l1 l2 hu,.tuple_list l1 l2 hu,.tuple_list l1 l2 hu⟩
   |tup _ _=>cases nl
def w6:∀(k:Nat) (H:Hp) {xs:C_} {j:Nat} {d e:D},(∃v,xs[j]?=some v/\Rep K H v d)->(∃v,xs[j]?=some v/\Rep K H v e)->bE k d=true->bE k e=true->bo k d e=true:=by
 intro k H;have main:∀(k:Nat) {v:V} {d e:D},Rep K H v d->Rep K H v e->bE k d=true->bE k e=true->bo k d e=true:=by
  intro k
  induction k with
  |zero=>intro v d e h1 h2 f1 f2;cases h1<;>cases h2<;>first|(cases f1;done)|(cases f2;done)|simp[bo,dm]
  | succ k ih=>
    intro v d e h1 h2 f1 f2;have seq:∀{xs:C_} {ds es:E_},Reps K H xs ds->Reps K H xs es->ds.all (bE k)=true->es.all (bE k)=true->(ds.length==es.length&&(ds.zip es).all λp=>bo k p.1 p.2)=true:=by
     intro xs ds es r1 r2 g1 g2;rw[z8m];refine⟨by rw[<- r1.length,r2.length];simp,z9t.mpr λz hz=>?_⟩;obtain⟨j,hj,ej⟩:=z7z hz;have ej':(ds.zip es)[j]?=some z:=by rw[z9o hj,ej]
     rw[z6u]at ej';obtain⟨a,a1,a2⟩:=r1.get ej'.1;obtain⟨b,b1,b2⟩:=r2.get ej'.2;rw[a1]at b1;cases b1;exact ih a2 b2 (z9t.mp g1 _ (z8b ej'.1)) (z9t.mp g2 _ (z8b ej'.2))
    cases h1 with
    | lst a1 a2=>
      cases h2 with
      |lst b1 b2=>rw[gM a1 b1]at a2;exact seq a2 b2 f1 f2
      |tup b1 b2=>exact(vf a1 (.inl b1)).elim
      |scr _=>cases f2
      |dct _=>cases f2
      |ptr _=>cases f2
    | tup a1 a2=>
      cases h2 with
      |tup b1 b2=>rw[kD (.inl a1) (.inl b1)]at a2;exact seq a2 b2 f1 f2
      |lst b1 b2=>exact(vf b1 (.inl a1)).elim
      |scr _=>cases f2
      |dct _=>cases f2
      |ptr _=>cases f2
    |scr _=>cases f1
    |dct _=>cases f1
    |ptr _=>cases f1
    |_=>cases h2;simp[bo,dm]
 intro xs j d e ⟨v,h1,r1⟩ ⟨w,h2,r2⟩ f1 f2;rw[h1]at h2;cases h2;exact main k r1 r2 f1 f2
def w8{k:Nat}{d e:D}(h:mX d e=false):bo k d e=dm d e:=by cases k<;>cases d<;>cases e<;>first|rfl|cases h
def mY{k:Nat}{d:D}(h:bE k d=true):qF d=false:=by cases d<;>first|rfl|(cases k<;>cases h)
def w9{X: Cx}(I:L2.Inv X G_ σ H s):∀(k:Nat) (A:Around) (v u:V) (vv uu:Value) (d e:D),A.units+k<cLine->bE k d=true->bE k e=true ->
  Rep X.K H v d->Rep X.K H u e->RelV v vv->RelV u uu->Cmp3 A s vv uu (bo k d e):=by
 intro k
 induction k with
 | zero=>
   intro A v u vv uu d e hA fd fe rd re rv ru;have nb:mX d e=false:=by cases d<;>cases e<;>first|rfl|cases fd
   rw[w8 nb];exact w5 I A v u vv uu d e ∅ (mY fd) (mY fe) nb rd re rv ru
 | succ k ih=>
   intro A v u vv uu d e hA fd fe rd re rv ru;have hu:A.units<cLine:=by ext
   have hin:A.in1.units+k<cLine:=by show A.units+1+k<cLine;ext
   cases nb:mX d e with
   |false=>rw[w8 nb];exact w5 I A v u vv uu d e hu (mY fd) (mY fe) nb rd re rv ru
   | true=>
     have items:∀{ds es:E_} {xs ys:C_} {its its2:k_},ds.all (bE k)=true->es.all (bE k)=true->Reps X.K H xs ds->Reps X.K H ys es->Vals xs its->Vals ys its2 ->
       ∀j (h1:j<its.toArray.size) (h2:j<its2.toArray.size),SeqAt.EqAt A.in1 s its.toArray[j] its2.toArray[j] (match ds[j]?,es[j]? with|some a,some b=>bo k a b|_,_=>false):=by
      intro ds es xs ys its its2 hd he rx ry vx vy j h1 h2;have lx:=rx.length;have ly:=ry.length;have mx:=vx.length;have my:=vy.length;have k1:j<ds.length:=by simp only[z9q]at h1;ext
      have k2:j<es.length:=by simp only[z9q]at h2;ext
      obtain⟨a,ea⟩:∃a,ds[j]?=some a:=⟨_,z9o k1⟩;obtain⟨b,eb⟩:∃b,es[j]?=some b:=⟨_,z9o k2⟩;obtain⟨x,ex,qx⟩:=rx.get ea;obtain⟨y,ey,qy⟩:=ry.get eb;obtain⟨w1,e1,r1⟩:=vx.get ex;obtain⟨w2,e2,r2⟩:=vy.get ey;have f1:its.toArray[j]=w1:=by have:=(z9e.mp e1).2;simpa using this
      have f2:its2.toArray[j]=w2:=by have:=(z9e.mp e2).2;simpa using this
      rw[f1,f2,ea,eb];exact(ih A.in1 x y w1 w2 a b hin (z9t.mp hd a (z8b ea)) (z9t.mp he b (z8b eb)) qx qy r1 r2).eq
     cases rd with
     | @lst p xs ds h1 h2=>
       cases rv;cases re with
       | @lst q ys es h3 h4=>
         cases ru;obtain⟨its,vx,pl,hz⟩:=I.list (.inl h1);obtain⟨its2,vy,pl2,hz2⟩:=I.list (.inl h3);have e1:its.toArray.size=ds.length:=by rw[z9q,<- vx.length,h2.length]
         have e2:its2.toArray.size=es.length:=by rw[z9q,<- vy.length,h4.length]
         have core:SeqAt.RcAt A s (.ref p) (.ref q) (bo (k+1) (.lst ds) (.lst es))/\SeqAt.RcNeAt A s (.ref p) (.ref q) (!bo (k+1) (.lst ds) (.lst es)):=by
          by_cases hl:ds.length=es.length
          ·have val:bo (k+1) (.lst ds) (.lst es)=(List.range its.toArray.size).all (λj=>match ds[j]?,es[j]? with|some a,some b=>bo k a b|_,_=>false):=by rw[e1,qE (bo k) ds es hl];show(ds.length==es.length&&_)=_;rw[hl];simp
           rw[val];exact⟨.lists pl.isList pl2.isList ∅ hu (items fd fe h2 h4 vx vy),.lists pl.isList pl2.isList ∅ hu (items fd fe h2 h4 vx vy)⟩
          ·have val:bo (k+1) (.lst ds) (.lst es)=false:=by show(ds.length==es.length&&_)=false;rw[show(ds.length==es.length)=false by simpa using hl];rfl
           rw[val];have hne:(its.toArray.size != its2.toArray.size)=true:=by rw[e1,e2];simpa using hl
           exact⟨.lists_lengths pl.isList pl2.isList hne hu,.lists_lengths pl.isList pl2.isList hne hu⟩
         refine⟨?_,core.1,core.2⟩;by_cases hpq:p=q
         ·subst hpq
          have ev:bo (k+1) (.lst ds) (.lst es)=true:=by
           have exy:=gM h1 h3;subst exy;show(ds.length==es.length&&(ds.zip es).all λp=>bo k p.1 p.2)=true;rw[z8m];refine⟨by rw[<- h2.length,h4.length];simp,z9t.mpr λz hz=>?_⟩;obtain⟨j,hj,ej⟩:=z7z hz;have ej':(ds.zip es)[j]?=some z:=by rw[z9o hj,ej]
           rw[z6u]at ej';exact w6 k H (h2.get ej'.1) (h4.get ej'.2) (z9t.mp fd _ (z8b ej'.1)) (z9t.mp fe _ (z8b ej'.2))
          rw[ev];exact .same _
         ·exact .of_refs hpq core.1
       |tup _ _=>cases nb
       |_=>cases nb
     | @tup p xs ds h1 h2=>
       have h1:=eh h1;cases rv;cases re with
       | @tup q ys es h3 h4=>
         have h3:=eh h3;cases ru;obtain⟨its,vx,pl,hz⟩:=I.tuple (.inl h1);obtain⟨its2,vy,pl2,hz2⟩:=I.tuple (.inl h3);have e1:its.toArray.size=ds.length:=by rw[z9q,<- vx.length,h2.length]
         have e2:its2.toArray.size=es.length:=by rw[z9q,<- vy.length,h4.length]
         have core:SeqAt.RcAt A s (.ref p) (.ref q) (bo (k+1) (.tup ds) (.tup es))/\SeqAt.RcNeAt A s (.ref p) (.ref q) (!bo (k+1) (.tup ds) (.tup es)):=by
          have val:bo (k+1) (.tup ds) (.tup es)=((List.range (min its.toArray.size its2.toArray.size)).all (λj=>match ds[j]?,es[j]? with|some a,some b=>bo k a b|_,_=>false)&&its.toArray.size==its2.toArray.size):=by
           rw[e1,e2];by_cases hl:ds.length=es.length
           ·rw[<- hl,Nat.min_self,qE (bo k) ds es hl]
            show(ds.length==es.length&&_)=_;rw[hl];simp
           ·show(ds.length==es.length&&_)=_
            rw[show(ds.length==es.length)=false by simpa using hl];simp
          rw[val];exact⟨.tuples pl pl2 hu (items fd fe h2 h4 vx vy),.tuples pl pl2 hu (items fd fe h2 h4 vx vy)⟩
         refine⟨?_,core.1,core.2⟩;by_cases hpq:p=q
         ·subst hpq
          have ev:bo (k+1) (.tup ds) (.tup es)=true:=by
           have exy:=kD h1 h3;subst exy;show(ds.length==es.length&&(ds.zip es).all λp=>bo k p.1 p.2)=true;rw[z8m];refine⟨by rw[<- h2.length,h4.length];simp,z9t.mpr λz hz=>?_⟩;obtain⟨j,hj,ej⟩:=z7z hz;have ej':(ds.zip es)[j]?=some z:=by rw[z9o hj,ej]
           rw[z6u]at ej';exact w6 k H (h2.get ej'.1) (h4.get ej'.2) (z9t.mp fd _ (z8b ej'.1)) (z9t.mp fe _ (z8b ej'.2))
          rw[ev];exact .same _
         ·exact .of_refs hpq core.1
       |lst _ _=>cases nb
       |_=>cases nb
     |_=>cases e<;>cases nb
section
variable {es ea eb:J_}{fa fb:FE}{k:Nat}
def wa(K:K0):R2:=λx y H Q=>∃d e,Rep K H x d/\Rep K H y e/\bE 4 d=true/\bE 4 e=true/\Q (.bl (bo 4 d e)) H
def wb(K:K0):R2:=λx y H Q=>∃d e,Rep K H x d/\Rep K H y e/\bE 4 d=true/\bE 4 e=true/\Q (.bl (!bo 4 d e)) H
def mZ(hr:Room k X.A):OpR X (compareOp .Eq) (wa X.K):=by intro G_ s σ H x y v u Q I rx ry h;obtain⟨d,e,r1,r2,f1,f2,q⟩:=h;have hu:=hr.units;exact(w9 I 4 X.A x y v u d e ∅ f1 f2 r1 r2 rx ry).rc X.prog X.w X.xe _ ⟨.bl _,H,I,rfl,q⟩
def wc(hr:Room k X.A):OpR X (compareOp .NotEq) (wb X.K):=by intro G_ s σ H x y v u Q I rx ry h;obtain⟨d,e,r1,r2,f1,f2,q⟩:=h;have hu:=hr.units;exact(w9 I 4 X.A x y v u d e ∅ f1 f2 r1 r2 rx ry).ne X.prog X.w X.xe _ ⟨.bl _,H,I,rfl,q⟩
def eqD(d e:D):F_:=if bE 4 d=true/\bE 4 e=true then some (.bl (bo 4 d e))else none
def neD(d e:D):F_:=if bE 4 d=true/\bE 4 e=true then some (.bl (!bo 4 d e))else none
def n9(K:K0):OpV K (wa K) eqD:=by intro x y H dx dy d Q rx ry hg hQ;obtain⟨⟨h1,h2⟩,rfl⟩:=bz hg;exact⟨dx,dy,rx,ry,h1,h2,hQ _ H (Same.refl H) (.bl _) λA _ _ _=>.bl _⟩
def wd(K:K0):OpV K (wb K) neD:=by intro x y H dx dy d Q rx ry hg hQ;obtain⟨⟨h1,h2⟩,rfl⟩:=bz hg;exact⟨dx,dy,rx,ry,h1,h2,hQ _ H (Same.refl H) (.bl _) λA _ _ _=>.bl _⟩
def EA(x y d:D)(h:eqD x y=some d):aS d=true:=by obtain⟨_,rfl⟩:=bz h;rfl
def EB(hr:Room k X.A)(ha:JE X a fa ea)(hb:JE X b fb eb):JE X (.Compare a [.Eq] [b] pos) (e2 eqD fa fb) []:=⟨have ha:=ha.h;have hb:=hb.h;jp (mZ hr) (n9 X.K) ha hb (de _) EA⟩
def bM(hr:Room k X.A)(ha:JE X a fa ea)(hb:JE X b fb eb):JT X (.Compare a [.Eq] [b] pos) (eT (e2 eqD fa fb)):=⟨have ha:=ha.h;have hb:=hb.h;jq (mZ hr) (n9 X.K) ha hb (de _)⟩
def nc(hr:Room k X.A)(ha:JE X a fa ea)(hb:JE X b fb eb):JT X (.Compare a [.NotEq] [b] pos) (eT (e2 neD fa fb)):=⟨have ha:=ha.h;have hb:=hb.h;jq (wc hr) (wd X.K) ha hb (de _)⟩
def EC(K:K0)(d:D):W.kitOne K (.type (tyD d)) (.type "int")=some (iz "int" (tyD d)):=by cases d<;>first|rfl|kernel_rfl
def ED(K:K0)(d:D):W.kitOne K (.type (tyD d)) (.type "bool")=some (iz "bool" (tyD d)):=by cases d<;>first|rfl|kernel_rfl
noncomputable def qG:D->Bool
 |.ptr _=>true
 |_=>false
def EE{T:String}(hk:∀K d,W.kitOne K (.type (tyD d)) (.type T)=some (iz T (tyD d))):cN X (.builtin "isinstance") (λxs H Q=>∃x d,xs=[x,.ty T]/\Rep X.K H x d/\qG d=false/\Q (.bl (iz T (tyD d))) H):=by
 intro G_ s σ H xs us Q I r h;obtain⟨x,d,rfl,rx,np,q⟩:=h;obtain⟨u,w,rfl,ru,rw'⟩:=ko r;cases rw';have fin:∀tk,EP X G_ σ Q (.bool (iz T (tyD d))) {s with toks:=tk}:=λtk=>⟨.bl _,H,I.tok tk,rfl,q⟩
 have e:=hk X.K d;cases rx with
 |non=>cases ru;exact z6g W.kitx_none I.kIn True.intro e (λz=>nomatch z) fin
 |bl b=>cases ru;exact z6g W.kitx_bool I.kIn True.intro e (λz=>nomatch z) fin
 |int i=>obtain⟨t,rfl⟩:=ru;exact z6g W.kitx_int I.kIn True.intro e (λz=>nomatch z) fin
 |str i=>obtain⟨t,rfl⟩:=ru;exact z6g W.kitx_str I.kIn True.intro e (λz=>nomatch z) fin
 |lst h1 h2=>cases ru;obtain⟨its,_,⟨o,n,e1,e2,_⟩,_⟩:=I.list (.inl h1);exact z6g W.kitx_list I.kIn ⟨o,e1,e2⟩ e (λz=>nomatch z) fin
 |scr h1=>cases ru;obtain⟨its,_,⟨o,n,e1,e2,_⟩,_⟩:=I.list h1;exact z6g W.kitx_list I.kIn ⟨o,e1,e2⟩ e (λz=>nomatch z) fin
 |tup h1 h2=>cases ru;obtain⟨its,_,⟨o,e1,e2,_⟩,_⟩:=I.tuple (.inl (eh h1));exact z6g W.kitx_tuple I.kIn ⟨o,e1,e2⟩ e (λz=>nomatch z) fin
 |dct h1=>cases ru;obtain⟨_,_,vs,_,o,es,ep,e1,e2,_⟩:=ji I.hok h1.rd;exact z6g W.kitx_dict I.kIn ⟨o,e1,e2.1⟩ e (λz=>nomatch z) fin
 |ptr a=>cases np
def iD(T:String):D->F_:=λd=>if qG d=true then none else some (.bl (iz T (tyD d)))
theorem we{T:Str}{TS:String}(hk:∀K d,W.kitOne K (.type (tyD d)) (.type TS)=some (iz TS (tyD d)))(hT:bootBuiltins T=some (.type TS))(mi:X.mg "isinstance"=none)(mt:X.mg T=none)(ha:JE X a fa ea)(hg:Gl X "isinstance"<|>J7)(hgT:Gl X T<|>J7)(hn:T ≠ "__name__"<|>J8)(hd:DB T<|>J8)(hs:SE a [.Name T p2] X<|>J7)(hs2:starEach [.Name T p2] X.env=(false,eval (.Name T p2) X.env)::starEach [] X.env<|>J7)(hpl:BT pos [.Name T p2] X<|>J7):
  JE X (.Call (.Name "isinstance" p) [a,.Name T p2] [] pos) (e1 (iD TS) fa) []:=⟨have ha:=ha.h;
 eB (kr (EE hk) hg mi (by decide +kernel) (bP ha (bP (tW (v:=.ty TS) hgT mt hT rfl hn hd) c5 hs2) hs) (by decide) (by decide) hs hpl) λσ H Q ρ d hE hf hQ=>by
  obtain⟨dx,h1,hf⟩:=bind_some hf;cases np:qG dx with
  |true=>simp only[iD,np]at hf;cases hf
  |false=>
  simp only[iD,np]at hf;cases hf;exact⟨ρ,dx,hE,h1,λx H1 p1=>⟨x,dx,rfl,p1.rep,np,hQ _ H1 ⟨p1.same,.bl _,λA _ _=>.bl _⟩⟩⟩⟩
noncomputable def iE:E_->Option p_
 |[]=>some []
 |.bl b::r=>(iE r).map (b::·)
 |_::_=>none
theorem wf:∀{ds:E_} {bs:p_},iE ds=some bs->ds=bs.map D.bl
 |[],bs,h=>by cases h;rfl
 | .bl i::r,bs,h=>by
   simp only[iE]at h;cases e:iE r with
   |none=>rw[e]at h;cases h
   |some ms=>rw[e]at h;cases h;rw[wf e];rfl
 |.non::_,_,h=>by cases h
 |.int _::_,_,h=>by cases h
 |.str _::_,_,h=>by cases h
 |.lst _::_,_,h=>by cases h
 |.tup _::_,_,h=>by cases h
 |.scr _::_,_,h=>by cases h
theorem wg{K:K0}{H:Hp}:∀{bs:p_} {xs:C_},Reps K H xs (bs.map D.bl)->xs=bs.map V.bl
 |[],xs,h=>by cases h;rfl
 | n::ns,xs,h=>by
   cases h with
   |cons h1 h2=>cases h1;rw[wg h2];rfl
def EF{bs:p_}(h:Vals (bs.map V.bl) us):us=bs.map Value.bool:=by
 induction bs generalizing us with
 |nil=>cases h;rfl
 | cons b r ih=>
   cases h with
   |cons h1 h2=>cases h1;rw[ih h2];rfl
def EG(bs:p_):((List.range bs.length).all λi=>(bs[i]?).getD true)=bs.all id:=by
 rw[z4s,z9t,z9t];constructor
 ·intro h b hb
  obtain⟨i,hi,rfl⟩:=z7z hb;have:=h i (z7p.mpr hi);simpa [z9o hi]using this
 ·intro h i hi
  have hi':=z7p.mp hi;simpa [z9o hi']using h _ (z9u hi')
def EH(hc:X.calm=true):cN X (.builtin "all") (λxs H Q=>∃(q:Addr) (bs:p_),xs=[.ref q]/\SqL X.K H q (bs.map V.bl)/\Q (.bl (bs.all id)) H):=by
 intro G_ s σ H xs us Q I r h;obtain⟨q,bs,rfl,hq,hQ⟩:=h;obtain⟨u,rfl,ru⟩:=df r;cases ru;obtain⟨its,rv,pl,hz⟩:=I.list hq;have ei:=EF rv;have hl:=pl.isList;have hlt:q<s.heap.objs.size:=by obtain⟨_,e,_⟩:=hl;exact z9n e
 refine call_all_walk (wpAny_pyIter_list hl ⟨s.heap.objs.size,[s.heap.objs.size,q],[s.heap.objs.size],its.toArray.size,_,_,λi=>(bs[i]?).getD true,rfl,Walks.list (A:=X.A.in1) (I.ok.hd hc) _ q (z8o hlt) its.toArray,
  ⟨⟨_,z8l _ rfl,rfl,rfl⟩,hl.push _⟩,λi v s' Q' E' hP hQ'=>?_,λh' tk hk=>?_⟩)
 ·have hP':its[i]?=some v:=by simpa using hP
  rw[ei,z9x]at hP';cases e:bs[i]? with
  |none=>rw[e]at hP';cases hP'
  |some b=>rw[e]at hP';cases hP';simp only[e,z7d]at hQ';exact z6h hQ'
 ·have e:its.toArray.size=bs.length:=by rw[z9q,ei,z9c]
  rw[e,EG];refine⟨.bl _,H,I.kept (t':=tk) λb o z=>hk b o (λhm=>?_) (z9m _ z),rfl,hQ⟩;rw[z9w.mp hm]at z;exact z7u _ (z9n z)
def gP(g:p_->Bool):D->F_
 |.lst ds=>(iE ds).bind λbs=>some (.bl (g bs))
 |_=>none
def EI(g:p_->Bool):fG X.K (λxs H Q=>∃(q:Addr) (bs:p_),xs=[.ref q]/\SqL X.K H q (bs.map V.bl)/\Q (.bl (g bs)) H) (ar (gP g)):=by
 intro xs H ds d Q r hg hQ;obtain⟨x,rfl,hg1⟩:=iu hg;obtain⟨v,rfl,r1⟩:=fH r;cases x with
 |lst es=>obtain⟨bs,h2,hg3⟩:=bind_some hg1;cases hg3;obtain⟨q,ys,rfl,hq,hx,_⟩:=eI r1;rw[wf h2]at hx;rw[wg hx]at hq;exact⟨q,bs,rfl,.inl hq,hQ _ λH'=>.bl _⟩
 |_=>cases hg1
def ng{as:FEs}(hc:X.calm=true)(ml:X.mg "all"=none)(ha:JA X [a] as es)(hg:Gl X "all"<|>J7)(he:SE a [] X<|>J7)(hpl:BT pos [] X<|>J7):
  JE X (.Call (.Name "all" p) [a] [] pos) (eA (ar (gP λbs=>bs.all id)) as) []:=⟨have ha:=ha.h;jt (EH hc) (EI _) ml PyProof.Rows.boot_all ha hg (by decide) (by decide) he hpl⟩
end
section
variable {g:TG}{un:D->Option E_}{fi:FEs}{ei ee:J_}{c:ah->B_}{fe:FE}
def da:PTs X [] (tvT X.K bX):=λG_ s σ H Q I h=>by obtain⟨ρ,b,_,hb,hQ⟩:=h;cases hb;exact kY G_ s σ H Q I (hQ H (Same.refl H))
def dq(B:BlkOk X scope own J3 cn)(hc:X.calm=true)(hi:JI X tg iter fi ei)(hg:∀s H cl ex,PG (blk X (own++cn) s H scope cl ex) tg g)(hgv:TgV X.K g is un)(his:∀i∈is,i<own.length)(ht:∀s H cl ex,PTs (blk X (own++cn) s H scope cl ex) ifs (tvT X.K c))(he:∀s H cl ex,JE (blk X (own++cn) s H scope cl ex) elt fe ee)(hs:(∀x,foldedSetIterable iter X.env x=pure x)<|>Q0):
  JF X (.ListComp elt [⟨tg,iter,ifs,0⟩] scope pos) (bR own.length J3 is un fi c fe) (esC own.length J3 ei ee):=⟨by
 have hi:=hi.h;have he:=(λs H cl ex=>(he s H cl ex).h);intro G_ s σ H Q I h;obtain⟨cl,hclos,hcl,hha⟩:=qw (scope:=scope) (env:=X.env) λx hx hf=>I.ok.has x.1 (B.free x hx hf)
 rw[eval_ListComp];refine z5z (use:=none) rfl hs hclos B.kind B.locals (qA B hc hi hg ht he I (vZ hgv his h) hcl hha (RR:=λacc C=>compPost (model X.prog X.w) X.A X.xe none (EP X G_ σ Q) acc C) λd c ys H' s' af q=>?_);obtain⟨m,hm⟩:=af.ns;obtain⟨f0,f1,_,f3,f4,f5⟩:=af.cf;refine⟨m,hm,λh' sb=>⟨.ref d,_,af.inv.turned (t':=s'.toks) (it:=c) (λb o hb e=>(sb.2 b hb).trans e) f0 f1 f3 f4 f5,rfl,q⟩⟩⟩
def EJ(i:Nat)(hN:X.N.Nodup)(B:BlkOk X scope own J3 cn)(hc:X.calm=true)(hi:VI X tg iter fi ei)(hg:∀s H cl ex,PG (blk X (own++cn) s H scope cl ex) tg g)(hgv:TgV X.K g is un)(his:∀i∈is,i<own.length)(ht:∀s H cl ex,PTs (blk X (own++cn) s H scope cl ex) ifs (tvT X.K c))(he:∀s H cl ex,VE (blk X (own++cn) s H scope cl ex) elt fe ee)(hsw:swapsWith (.ListComp elt [⟨tg,iter,ifs,0⟩] scope pos) (some (.Name x p2)) spos.line X.env=pure true)(hxi:X.N[i]?=some x)(hx:Loc X.env.scope x)(hfn:X.fn x=true\/X.env.scope.names.lookup x=some .local)(hs:(∀x,foldedSetIterable iter X.env x=pure x)<|>Q0):
  PS X (.Assign [.Name x p2] (.ListComp elt [⟨tg,iter,ifs,0⟩] scope pos) spos) (pI (tvF X.K (bR own.length J3 is un fi c fe) (esC own.length J3 ei ee)) (cg i)):=by
 intro G_ s σ H De I h;obtain⟨cl,hclos,hcl,hha⟩:=qw (scope:=scope) (env:=X.env) λx hx hf=>I.ok.has x.1 (B.free x hx hf)
 rw[exec_Assign_Name_used _ _ _ _ hsw];refine z9j (wpAny_standAt (z9j ?_));show wpAny _ X.A (do let _ <- comprehension (.ListComp elt [⟨tg,iter,ifs,0⟩] scope pos) scope X.env _ (newList []) false (eval iter X.env) (some (assign (.Name x p2) X.env))) _ _ s;refine z9j (z8n (z5z (use:=some (assign (.Name x p2) X.env)) (Q:=λ_ s'=>SP X G_ De .next s') rfl hs hclos B.kind B.locals
  (qA B hc hi hg ht he I (vZ hgv his h) hcl hha (RR:=λacc C=>compPost (model X.prog X.w) X.A X.xe (some (assign (.Name x p2) X.env)) (λ_ s'=>SP X G_ De .next s') acc C) λd c ys H' s' af q=>?_)) (λ_ s' hq=>z9z (z9z hq)) λ_ _ e=>e)
 obtain⟨m,hm⟩:=af.ns;obtain⟨f0,f1,_,f3,f4,f5⟩:=af.cf;show wpAny _ X.A (assign (.Name x p2) X.env (.ref d)) _ _ _;refine wpAny_assign_Name (tU af.inv hN hxi hx (show RelV (.ref d) (.ref d)from rfl) (λs2 I2 y4=>?_) hfn);obtain⟨a,sb,ha⟩:=y4;have ac:c≠a:=by
  rcases ha with z|z
  ·exact λe=>f1 (e.trans z)
  ·exact λe=>f4 x a z e.symm
 refine⟨m,hm.sameBut sb ac,λh' sb'=>⟨_,_,I2.turned (t':=s2.toks) (it:=c) (λb o hb e=>(sb'.2 b hb).trans e) f0 f1 f3 f4 f5,q⟩⟩
end
def Def(P:Program)(w:World)(K:K0)(mg:Str->v_)(base:Heap)(x:Str)(k:Nat)(ps:j_)(G:E_->F_)(fr:Bool):Prop:=
 ∃f fd,FnOk P w K mg base CX0 k f fd ps (spF K G fr)/\mg x=some (.ref f)/\W.keepIn K (.ref f)=true/\Binds K fd ps []
def scF(G:E_->F_):E_->F_:=λds=>(G ds).bind λd=>if aS d=true then some d else none
def wj{G:E_->F_}{ds:E_}{d:D}(h:scF G ds=some d):G ds=some d/\aS d=true:=by obtain⟨e,h1,h2⟩:=bind_some h;obtain⟨h3,rfl⟩:=bz h2;exact⟨h1,h3⟩
section
variable {k:Nat}{G:E_->F_}
theorem Def.sc(h:Def P w K mg base x k ps G fr):Def P w K mg base x k ps (scF G) fr:=
 let⟨f,fd,F,m,kp,b⟩:=h
 ⟨f,fd,F.imp λvs H Q E y4=>by obtain⟨ds,d,r,hg,q⟩:=y4;exact⟨ds,d,r,(wj hg).1,q⟩,m,kp,b⟩
theorem Def.mono(h:Def P w K mg base x j ps G fr)(hk:j<=k<|>J8):Def P w K mg base x k ps G fr:=
 let⟨f,fd,F,m,kp,b⟩:=h
 ⟨f,fd,F.mono hk,m,kp,b⟩
theorem EK{body:FS}(O' OL:z8)(h1:ps.length=np)(h2:N.length=n)(h3:G=mkF fr np n body)(Fn:Fun K x qual st f fd)(S:FnScope N ps (ao st))(h:∀(cdv:Value) (A:Around) (outer:List PySem.Env) (s:Shared) (H:Hp) (E:XK) (F:Fr0),F.n=n->Room k (A.deeper (envOfC qual (ao st) s.heap.objs.size f cdv)) ->
   VSs (cG CX0 P w K mg base N qual (ao st) f cdv A outer s H E).nox F [] (cO st) body O' OL fr):
  FnOk P w K mg base CX0 (k+1) f fd ps (spF K G fr):=by
 subst h1 h2 h3;exact Ep Fn S h
end
section
variable {k:Nat}{G:E_->F_}{as:FEs}{es:J_}
def EL(d:Def X.prog X.w X.K X.mg X.base x k ps G fr)(hr:Room k X.A)(ha:VA X (e::es') as es)(hg:Gl X x<|>J7)(hdb:DB x<|>J8)(he:SE e es' X<|>J7)(hpl:BT pos es' X<|>J7):
  VE X (.Call (.Name x p) (e::es') [] pos) (eA G as) es:=
 let⟨_,_,F,m,kp,b⟩:=d
 Et F hr m kp b ha hg hdb he hpl
def gQ(d:Def X.prog X.w X.K X.mg X.base x k ps G true)(hr:Room k X.A)(ha:JA X (e::es') as es)(hg:Gl X x<|>J7)(hdb:DB x<|>J8)(he:SE e es' X<|>J7)(hpl:BT pos es' X<|>J7):
  JF X (.Call (.Name x p) (e::es') [] pos) (eA G as) es:=⟨have ha:=ha.h;
 let⟨_,_,F,m,kp,b⟩:=d
 Eu F hr m kp b ha hg hdb he hpl⟩
def bF(d:Def X.prog X.w X.K X.mg X.base x k ps (scF G) fr)(hr:Room k X.A)(ha:JA X (e::es') as es)(hg:Gl X x<|>J7)(hdb:DB x<|>J8)(he:SE e es' X<|>J7)(hpl:BT pos es' X<|>J7):
  JE X (.Call (.Name x p) (e::es') [] pos) (eA (scF G) as) []:=⟨have ha:=ha.h;
 ij (EL d hr ha hg hdb he hpl) λρ d h=>by obtain⟨ds,_,h2⟩:=bind_some h;exact(wj h2).2⟩
end
noncomputable def qH:D->Bool
 |.non=>true
 |_=>false
def cz:D->F_:=λd=>some (.bl (qH d))
def e7:D->F_:=λd=>some (.bl (!qH d))
def qI:D->D->F_
 |d,.non=>cz d
 |_,_=>none
def nh:D->D->F_
 |d,.non=>e7 d
 |_,_=>none
def wk{d:D}(r:Rep K H v d):decide (v=.non)=qH d:=by cases r<;>rfl
def wm(K:K0):OpV K (λx y H Q=>y=.non/\Q (.bl (decide (x=.non))) H) qI:=λx y H dx dy d Q rx ry hg q=>by
 cases dy<;>first|(cases hg;done)|skip
 cases ry;have hg:some (D.bl _)=some d:=hg;cases hg;refine⟨rfl,q _ _ (Same.refl H) ?_ λA _ _ _=>?_⟩<;>(rw[wk rx];exact .bl _)
def qJ(K:K0):OpV K (λx y H Q=>y=.non/\Q (.bl (!decide (x=.non))) H) nh:=λx y H dx dy d Q rx ry hg q=>by
 cases dy<;>first|(cases hg;done)|skip
 cases ry;have hg:some (D.bl _)=some d:=hg;cases hg;refine⟨rfl,q _ _ (Same.refl H) ?_ λA _ _ _=>?_⟩<;>(rw[wk rx];exact .bl _)
section
variable {fa:FE}{ea:J_}
def EM(x y d:D)(h:nh x y=some d):aS d=true:=by cases y<;>first|(cases h;done)|(have h:some (D.bl _)=some d:=h;cases h;rfl)
def EN(fa:FE):e2 qI fa (eC .non)=e1 cz fa:=by funext ρ;unfold e2 e1 eC;cases fa ρ<;>rfl
def wn(fa:FE):e2 nh fa (eC .non)=e1 e7 fa:=by funext ρ;unfold e2 e1 eC;cases fa ρ<;>rfl
def ni{j}(ha:JE X a fa ea):JT X (.Compare a [.Is] [.Constant .none j p2] pos) (eT (e1 cz fa)):=⟨by have ha:=ha.h;rw[<- EN];exact jq um (wm X.K) ha jl (de _)⟩
def EO{j}(ha:JE X a fa ea):JE X (.Compare a [.IsNot] [.Constant .none j p2] pos) (e1 e7 fa) []:=⟨by have ha:=ha.h;rw[<- wn];exact jp pQ (qJ X.K) ha jl (de _) EM⟩
def EQ{j}(ha:JE X a fa ea):JT X (.Compare a [.IsNot] [.Constant .none j p2] pos) (eT (e1 e7 fa)):=⟨by have ha:=ha.h;rw[<- wn];exact jq pQ (qJ X.K) ha jl (de _)⟩
def wo{ds:E_}(r:Rep K H v (.tup ds)):∃p xs,v=V.ref p/\H p=some (.tup xs)/\Reps K H xs ds:=by
 cases r with
 |@tup p xs _ h1 h2=>exact⟨p,xs,rfl,h1,h2⟩
def ER{ds:E_}(r:Rep K H v (.tup ds)):∃p xs,v=V.ref p/\Rd H p (.tup xs)/\Reps K H xs ds:=by
 cases r with
 |@tup p xs _ h1 h2=>exact⟨p,xs,rfl,.inl h1,h2⟩
def ES{p:Addr}{ds:E_}{A:Addr->Prop}(h:Rd H p (.tup xs))(r:Rep K (aq H A) (.ref p) (.tup ds)):Reps K (aq H A) xs ds:=by obtain⟨q,ys,e,h1,h2⟩:=ER r;cases e;rw[kD h (cW (aR _ _) h1)];exact h2
end
def cA(d:D):Option E_:=if di d=true then none else items d
def nj(t:Nat)(it:FE)(tb:FS):FS:=λρ=>(it ρ).bind λd=>(cA d).bind λds=>bW (λx ρ=>tb (ρ.set t (some x))) ds.reverse ρ
def qK:D->F_:=λd=>(cA d).bind λds=>some (.lst ds.reverse)
noncomputable def gR(ds:E_):E_:=ds.zipIdx.map λp=>.tup [.int (p.2:Nat),p.1]
noncomputable def gS(ds es:E_):E_:=(ds.zip es).map λp=>.tup [p.1,p.2]
def l3(a:FE):FEs:=λρ=>(a ρ).bind λd=>(cA d).bind λds=>some (gR ds)
def l4(a b:FE):FEs:=λρ=>(a ρ).bind λd=>(b ρ).bind λe=>(cA d).bind λds=>(cA e).bind λes=>some (gS ds es)
def qL(I:Inv X G_ σ H s)(k:∀b o,b∉ch->s.heap.get? b=some o->h'.get? b=some o)(hf:∀b∈ch,cw X G_ H b):
  Inv X G_ σ H {s with heap:=h',toks:=t'}:=by
 have nit:∀b u,H b=some u->b∉ch:=λb u e z=>by rw[(hf b z).1]at e;cases e
 have hL:X.env.locals∉ch:=λz=>(hf _ z).2.1 rfl
 refine I.step (g':=s.gens) (d':=s.drawn) (ch:=ch) (λb hb=>?_) (λb o _ _ hc e _=>k b o hc e) (λb o _ _ hc e _=>⟨o.slots,k b o hc e⟩) (λ_ _ _ _ n=>n)
  (λb o hc e=>⟨o,k b o hc e⟩) (λ_ _ e=>e) (λ_ _ _ e=>e) (λb ps e=>⟨#[],by rw[e];simp⟩) (λm hm=>?_) (λb u e=>?_) I.bare
 ·obtain⟨f0,f1,f2,f3,f4,f5⟩:=hf b hb
  exact⟨f3,f1,f4,f5⟩
 ·obtain⟨o,es,ep,ho,r⟩:=hm
  exact⟨o,es,ep,k _ o hL ho,r⟩
 ·refine(I.hok b u e).stay (λc v hc q=>k c v ?_ q) (λ_ q=>q) λ_ _ q=>q
  rcases hc with z|z
  ·rw[z];exact nit b u e
  ·exact nit c _ z
def qM{T:Addr}(I:Inv X G_ σ H s)(hf:cw X G_ H T)(new:ObjOk X.prog X.w (upd H T o) s.heap T o):Inv X G_ σ (upd H T o) s:=by
 obtain⟨f0,f1,f2,f3,f4,f5⟩:=hf;have key:=I.step (h':=s.heap) (H':=upd H T o) (g':=s.gens) (d':=s.drawn) (t':=s.toks) (ch:=[T]) (λb hb=>?_) (λb o _ _ hc e _=>e) (λb o _ _ hc e _=>⟨o.slots,e⟩) (λb o' hc e n=>by rw[aH (by simpa using hc)];exact n)
  (λb o hc e=>⟨o,e⟩) (λb xs e=>by rw[aH (c6 e f0)];exact e) (λb o u e=>by rw[aH (c6 e f0)];exact e) (λb ps e=>⟨#[],by rw[aH (c6 e f0),e];simp⟩) (λm hm=>hm) (λb u e=>?_) I.bare
 ·exact key
 ·have e:b=T:=by simpa using hb
  subst e;exact⟨f3,f1,f4,f5⟩
 ·by_cases hb:b=T
  ·subst hb;rw[bj]at e;cases e;exact new
  ·rw[aH hb]at e
   exact(I.hok b u e).stay (λc v _ q=>q) (λc q=>by rw[aH (c6 q f0)];exact q) λc xs q=>by rw[aH (c6 q f0)];exact q
noncomputable def Itv(K:K0)(a:Addr)(n:Nat):It:=
 ⟨λi H=>∃xs x,SqL K H a xs/\xs.length=n/\i<n/\xs[n-1-i]?=some x,λi H x H'=>H'=H/\∀xs,SqL K H a xs->xs[n-1-i]?=some x,λi H=>i=n⟩
def ET(a it:Addr)(n:Nat):Turn P w K tg (Itv K a n) [it] it (λi h=>h.IsRevIter it a ((n:Int)-1-(i:Nat))) where
 mem:=by simp
 obj:=λi h st b hb=>by
  have e:b=it:=by simpa using hb
  subst e;obtain⟨o,e,c,d⟩:=st;exact⟨o,e,λv z=>by rw[d]at z;cases z⟩
 keep:=λi h h' st k=>st.at λo e=>k it (by simp) o e
 item:=by
  intro X hP hw hK hc i G_ s σ H E I hf st hg;subst hP hw hK;obtain⟨xs,x,hq,hn,hi,hx⟩:=hg;obtain⟨its,rv,p,hz⟩:=I.list hq;obtain⟨u,hu,ru⟩:=rv.get hx;obtain⟨f0,f1,f2,f3,f4,f5⟩:=hf it (by simp);have st':s.heap.IsRevIter it a ((n-1-i:Nat):Int):=by
   have e:((n-1-i:Nat):Int)=(n:Int)-1-(i:Nat):=by ext
   rw[e];exact st
  refine wpAny_pyNext_rev_item st' p.isList (x:=u) (by simpa using hu) λh' st2 sb=>?_
  have I1:Inv X G_ σ H {s with heap:=h'}:=I.turned (t':=s.toks) (λb o hb e=>(sb.2 b hb).trans e) f0 f1 f3 f4 f5;obtain⟨o,e,c,d⟩:=id st2;refine⟨u,rfl,jb (s:={s with heap:=h'}) e c d (by decide) ⟨x,H,I1,ru,⟨rfl,λys hy=>by rw[I.list_inj hy hq];exact hx⟩,?_,λb hb=>(hf b hb).1⟩⟩;have e:(n:Int)-1-((i+1:Nat):Int)=((n-1-i:Nat):Int)-1:=by ext
  show h'.IsRevIter it a ((n:Int)-1-((i+1:Nat):Int));rw[e];exact st2
 done:=by
  intro X hP hw hK hc i G_ s σ H E I hf st hg;subst hP hw hK;have hg:i=n:=hg;subst hg;obtain⟨f0,f1,f2,f3,f4,f5⟩:=hf it (by simp);have st':s.heap.IsRevIter it a (-1):=by
   have e:(-1:Int)=(i:Int)-1-(i:Nat):=by ext
   rw[e];exact st
  exact wpAny_pyNext_rev_end (I.ok.hd hc) st' λh' eb=>⟨rfl,I.turned (t':=s.toks) (λb o hb e=>eb b o hb e) f0 f1 f3 f4 f5⟩
 self:=λ_ _ _ _ _ st h=>wpAny_pyIter_revIter st h
def Ite(K:K0)(a:Addr):It:=
 ⟨λi H=>∃xs x,SqL K H a xs/\xs[i]?=some x,λi H x H'=>∃T y,H T=none/\x=.ref T/\H'=upd H T (.tup [.int (i:Nat),y])/\∀xs,SqL K H a xs->xs[i]?=some y,λi H=>∃xs,SqL K H a xs/\xs.length<=i⟩
def qN(I:Inv X G_ σ H s):cw X G_ H s.heap.objs.size:=I.fpOk (z9l _) (I.hok.fresh (z9l _))
def EU(a e it:Addr)(hei:e≠it):Turn P w K (.Tuple elts ek ep) (Ite K a) [e,it] e (λi h=>(∃old,IsEnum h e it (i:Nat) old)/\h.IsListIter it a i) where
 mem:=by simp
 obj:= λi h st b hb=>by
  obtain⟨⟨old,he⟩,hit⟩:=st;have e:b=e\/b=it:=by simpa using hb
  rcases e with rfl|rfl
  ·exact⟨_,he,λv z=>by have z':Data.fields _=Data.cell v:=z;cases z'⟩
  ·obtain⟨o,e,c,d⟩:=hit
   exact⟨o,e,λv z=>by rw[d]at z;cases z⟩
 keep:=λi h h' st k=>⟨let⟨old,he⟩:=st.1;⟨old,k e (by simp) _ he⟩,st.2.at λo q=>k it (by simp) o q⟩
 item:=by
  intro X hP hw hK hc i G_ s σ H E I hf st hg;subst hP hw hK;obtain⟨⟨old,he⟩,hit⟩:=st;obtain⟨xs,x,hq,hx⟩:=hg;obtain⟨its,rv,p,hz⟩:=I.list hq;obtain⟨u,hu,ru⟩:=rv.get hx;have fT:=qN I;have hsz:∀b∈[e,it],b<s.heap.objs.size:=λb hb=>by
   have:b=e\/b=it:=by simpa using hb
   rcases this with rfl|rfl
   ·exact z9n he
   ·obtain⟨o,q,_⟩:=hit;exact z9n q
  refine wpAny_pyNext_enum_item he hit p.isList (x:=u) (by simpa using hu) hei λh' ho hit' hT hs' hk=>?_
  refine⟨_,rfl,wpAny_letOwnedTupleGo_enum (s:={s with heap:=h',toks:=s.toks+1}) ho λh2 he2 hs2=>?_⟩;have hT2:h2.get? s.heap.objs.size=some {cls:=.type "tuple",data:=.seq #[.int i s.toks,u]}:=(hs2.2 _ (z4o (hsz e (by simp)))).trans hT;have I1:Inv X G_ σ H {s with heap:=h2,toks:=s.toks+1}:=qL I (λb o hb q=>(hs2.2 b λz=>hb (by simp[z])).trans (hk b o (λz=>hb (by simp[z])) (λz=>hb (by simp[z])) q)) hf;have I2:=qM (o:=.tup [.int (i:Nat),x]) I1 fT ⟨show 2<=sizeLine by decide,[.int i s.toks,u],.cons ⟨_,rfl⟩ (.cons ru .nil),⟨_,hT2,rfl,_,rfl⟩⟩;refine⟨.ref s.heap.objs.size,_,I2,rfl,⟨s.heap.objs.size,x,fT.1,rfl,rfl,λys hy=>by rw[I.list_inj hy hq];exact hx⟩,⟨⟨u,?_⟩,?_⟩,λb hb=>?_⟩
  ·have q:((i+1:Nat):Int)=(i:Int)+1:=by ext
   show IsEnum h2 e it ((i+1:Nat):Int) u;rw[q];exact he2
  ·exact hit'.at λo q=>(hs2.2 it hei.symm).trans q
  ·rw[aH (z8o (hsz b hb))];exact(hf b hb).1
 done:=by intro X hP hw hK hc i G_ s σ H E I hf st hg;subst hP hw hK;obtain⟨⟨old,he⟩,hit⟩:=st;obtain⟨xs,hq,hx⟩:=hg;obtain⟨its,rv,p,hz⟩:=I.list hq;have hl:=rv.length;obtain⟨f0,f1,f2,f3,f4,f5⟩:=hf it (by simp);exact wpAny_pyNext_enum_end (I.ok.hd hc) he hit p.isList (z4f (by simp;ext)) λh' eb=>⟨rfl,I.turned (t':=s.toks) (λb o hb e=>eb b o hb e) f0 f1 f3 f4 f5⟩
 self:=λ_ _ _ _ _ st h=>let⟨⟨_,he⟩,_⟩:=st;wpAny_pyIter_enum he h
def Itz(K:K0)(l1 l2:Addr):It:=
 ⟨λi H=>∃xs ys x y,SqL K H l1 xs/\SqL K H l2 ys/\xs[i]?=some x/\ys[i]?=some y,
  λi H v H'=>∃T x y,H T=none/\v=.ref T/\H'=upd H T (.tup [x,y])/\∀xs ys,SqL K H l1 xs->SqL K H l2 ys->xs[i]?=some x/\ys[i]?=some y,
  λi H=>∃xs ys,SqL K H l1 xs/\SqL K H l2 ys/\(xs.length<=i\/ys.length<=i)⟩
def EV(l1 l2 z TI TO i1 i2:Addr)(D:ZipApart z TI TO i1 i2 l1 l2):
  Turn P w K (.Tuple elts ek ep) (Itz K l1 l2) [z,TI,TO,i1,i2] z (λi h=>IsZip h z TI TO .none/\IsPair h TI (.ref i1) (.ref i2)/\(∃a b,IsPair h TO a b)/\h.IsListIter i1 l1 i/\h.IsListIter i2 l2 i) where
 mem:=by simp
 obj:= λi h st b hb=>by
  obtain⟨hz,hTI,⟨a,b',hTO⟩,h1,h2⟩:=st;have e:b=z\/b=TI\/b=TO\/b=i1\/b=i2:=by simpa using hb
  rcases e with rfl|rfl|rfl|rfl|rfl
  ·exact⟨_,hz,λv z=>by have z':Data.fields _=Data.cell v:=z;cases z'⟩
  ·exact⟨_,hTI,λv z=>by have z':Data.seq _ _=Data.cell v:=z;cases z'⟩
  ·exact⟨_,hTO,λv z=>by have z':Data.seq _ _=Data.cell v:=z;cases z'⟩
  ·obtain⟨o,e,c,d⟩:=h1
   exact⟨o,e,λv z=>by rw[d]at z;cases z⟩
  ·obtain⟨o,e,c,d⟩:=h2
   exact⟨o,e,λv z=>by rw[d]at z;cases z⟩
 keep:=λi h h' st k=>by obtain⟨hz,hTI,⟨a,b',hTO⟩,h1,h2⟩:=st;exact⟨k z (by simp) _ hz,k TI (by simp) _ hTI,⟨a,b',k TO (by simp) _ hTO⟩,h1.at λo q=>k i1 (by simp) o q,h2.at λo q=>k i2 (by simp) o q⟩
 item:=by
  intro X hP hw hK hc i G_ s σ H E I hf st hg;subst hP hw hK;obtain⟨hz,hTI,⟨a,b',hTO⟩,h1,h2⟩:=st;obtain⟨xs,ys,x,y,hq1,hq2,hx,hy⟩:=hg;obtain⟨its1,rv1,p1,hz1⟩:=I.list hq1;obtain⟨its2,rv2,p2,hz2⟩:=I.list hq2;obtain⟨u,hu,ru⟩:=rv1.get hx;obtain⟨v,hv,rv⟩:=rv2.get hy;have fT:=qN I;have hsz:∀b∈[z,TI,TO,i1,i2],b<s.heap.objs.size:=λb hb=>by
   have e:b=z\/b=TI\/b=TO\/b=i1\/b=i2:=by simpa using hb
   rcases e with rfl|rfl|rfl|rfl|rfl
   ·exact z9n hz
   ·exact z9n hTI
   ·exact z9n hTO
   ·obtain⟨o,q,_⟩:=h1;exact z9n q
   ·obtain⟨o,q,_⟩:=h2;exact z9n q
  refine wpAny_pyNext_zip_item D hz hTI hTO h1 h2 p1.isList p2.isList (x:=u) (y:=v) (by simpa using hu) (by simpa using hv) λh' hz' hTO' h1' h2' hT hs' hk=>?_
  refine⟨_,rfl,wpAny_letOwnedTupleGo_zip (s:={s with heap:=h'}) hz' λh3 hz3 hs3=>?_⟩;have hT3:IsPair h3 s.heap.objs.size u v:=(hs3.2 _ (z4o (hsz z (by simp)))).trans hT;have I1:Inv X G_ σ H {s with heap:=h3,toks:=s.toks}:=qL I (λb o hb q=>(hs3.2 b λz=>hb (by simp[z])).trans (hk b o (λz=>hb (by simp[z])) (λz=>hb (by simp[z])) (λz=>hb (by simp[z])) (λz=>hb (by simp[z])) q)) hf;have I2:=qM (o:=.tup [x,y]) I1 fT ⟨show 2<=sizeLine by decide,[u,v],.cons ru (.cons rv .nil),⟨_,hT3,rfl,_,rfl⟩⟩;refine⟨.ref s.heap.objs.size,_,I2,rfl,⟨s.heap.objs.size,x,y,fT.1,rfl,rfl,λas bs ha hb=>⟨by rw[I.list_inj ha hq1];exact hx,by rw[I.list_inj hb hq2];exact hy⟩⟩,⟨hz3,?_,⟨u,v,?_⟩,?_,?_⟩,λb hb=>?_⟩
  ·exact(hs3.2 TI D.TIz).trans (hk TI _ D.TIz D.TITO D.TIi1 D.TIi2 hTI)
  ·exact(hs3.2 TO D.TOz).trans hTO'
  ·exact h1'.at λo q=>(hs3.2 i1 D.i1z).trans q
  ·exact h2'.at λo q=>(hs3.2 i2 D.i2z).trans q
  ·rw[aH (z8o (hsz b hb))];exact(hf b hb).1
 done:=by
  intro X hP hw hK hc i G_ s σ H E I hf st hg;subst hP hw hK;obtain⟨hz,hTI,⟨a,b',hTO⟩,h1,h2⟩:=st;obtain⟨xs,ys,hq1,hq2,hx⟩:=hg;obtain⟨its1,rv1,p1,hz1⟩:=I.list hq1;obtain⟨its2,rv2,p2,hz2⟩:=I.list hq2;have l1:=rv1.length;have l2:=rv2.length;refine wpAny_pyNext_zip_end (I.ok.hd hc) D hz hTI hTO h1 h2 p1.isList p2.isList (hx.imp (λq=>z4f (by simp;ext)) λq=>z4f (by simp;ext)) λh' hk=>⟨rfl,?_⟩
  exact qL (t':=s.toks) I (λb o hb q=>hk b o (λz=>hb (by simp[z])) (λz=>hb (by simp[z])) (λz=>hb (by simp[z])) (λz=>hb (by simp[z])) q) hf
 self:=λ_ _ _ _ _ st h=>wpAny_pyIter_zip st.1 h
section
variable {ta:TA}
def EW(K:K0)(ta:TA):TI:=λσ H R=>ta σ H λvs H1=>∃p xs,vs=[.ref p]/\SqL K H1 p xs/\R (Itv K p xs.length) H1
def EY(hg:Gl X "reversed")(hm:X.mg "reversed"=none)(ha:PA X [a] ta)(hs:starEach [a] X.env=[(false,eval a X.env)]<|>J7):PI X tg (.Call (.Name "reversed" pn) [a] [] pr) (EW X.K ta):=by
 intro G_ s σ H R I h;refine Call_ (eV I hg hm boot_reversed (z8y (cF (ha pr G_ s σ H _ I h) λus s1 vs H1 I1 r1 q1=>?_) hs rfl));obtain⟨p,xs,rfl,hq,q⟩:=q1;obtain⟨u,rfl,ru⟩:=df r1;cases ru;obtain⟨its,rv,pl,hz⟩:=I1.list hq;have hl:=rv.length;refine call_reversed_list pl.isList ?_;have e0:(s1.heap.push (revObj p ((its.toArray.size:Int)-1))).get? s1.heap.objs.size=some (revObj p ((its.toArray.size:Int)-1)):=z8l _ rfl;refine wpAny_pyIter_revIter ⟨_,e0,rfl,rfl⟩ ?_;refine⟨s1.heap.objs.size,[s1.heap.objs.size],_,_,H1,rfl,I1.kept (t':=s1.toks) λb o e=>z9m _ e,ET p _ xs.length,⟨_,e0,rfl,?_⟩,λb hb=>?_,q⟩
 ·rw[hl];simp[revObj]
 have e:b=s1.heap.objs.size:=by simpa using hb
 subst e;exact I1.fpOk (z9l _) (I1.hok.fresh (z9l _))
def EZ(K:K0)(ta:TA):TI:=λσ H R=>ta σ H λvs H1=>∃p xs,vs=[.ref p]/\SqL K H1 p xs/\R (Ite K p) H1
def F0(hg:Gl X "enumerate")(hm:X.mg "enumerate"=none)(ha:PA X [a] ta)(hs:starEach [a] X.env=[(false,eval a X.env)]<|>J7):PI X (.Tuple elts ek ep) (.Call (.Name "enumerate" pn) [a] [] pr) (EZ X.K ta):=by
 intro G_ s σ H R I h;refine Call_ (eV I hg hm boot_enumerate (z8y (cF (ha pr G_ s σ H _ I h) λus s1 vs H1 I1 r1 q1=>?_) hs rfl));obtain⟨p,xs,rfl,hq,q⟩:=q1;obtain⟨u,rfl,ru⟩:=df r1;cases ru;obtain⟨its,rv,pl,hz⟩:=I1.list hq;refine call_enumerate_list pl.isList λh' he hit hsz hk=>?_
 refine wpAny_pyIter_enum he ?_;refine⟨s1.heap.objs.size+1,[s1.heap.objs.size+1,s1.heap.objs.size],_,_,H1,rfl,I1.kept (t':=s1.toks) λb o e=>hk b o e,EU p _ _ (by simp),⟨⟨_,he⟩,hit⟩,λb hb=>?_,q⟩;have e:b=s1.heap.objs.size+1\/b=s1.heap.objs.size:=by simpa using hb
 rcases e with rfl|rfl
 ·exact I1.fpOk ∅ (I1.hok.fresh ∅)
 ·exact I1.fpOk (z9l _) (I1.hok.fresh (z9l _))
def F1(K:K0)(ta:TA):TI:=λσ H R=>ta σ H λvs H1=>∃p p' xs ys,vs=[.ref p,.ref p']/\SqL K H1 p xs/\SqL K H1 p' ys/\R (Itz K p p') H1
def F2(hg:Gl X "zip")(hm:X.mg "zip"=none)(ha:PA X [a,b] ta)(hs:starEach [a,b] X.env=[(false,eval a X.env),(false,eval b X.env)]<|>J7)(hs2:starEach [b] X.env=[(false,eval b X.env)]<|>J7):
  PI X (.Tuple elts ek ep) (.Call (.Name "zip" pn) [a,b] [] pr) (F1 X.K ta):=by
 intro G_ s σ H R I h;refine Call_ (eV I hg hm boot_zip (z8y (cF (ha pr G_ s σ H _ I h) λus s1 vs H1 I1 r1 q1=>?_) (by rw[hs,hs2]) (by rw[hs2];rfl)));obtain⟨p,p',xs,ys,rfl,hq,hq',q⟩:=q1;cases r1 with
 | cons ru rr=>
   cases rr with
   | cons rv' rr=>
     cases rr;cases ru;cases rv';obtain⟨its,rv,pl,hz⟩:=I1.list hq;obtain⟨its',rv',pl',hz'⟩:=I1.list hq';have lt1:p<s1.heap.objs.size:=by obtain⟨o,e,_⟩:=pl.isList;exact z9n e
     have lt2:p'<s1.heap.objs.size:=by obtain⟨o,e,_⟩:=pl'.isList;exact z9n e
     refine call_zip_2 pl.isList pl'.isList λh' hz hTI hTO hit1 hit2 hsz hk=>?_
     refine wpAny_pyIter_zip hz ?_;refine⟨s1.heap.objs.size+4,[s1.heap.objs.size+4,s1.heap.objs.size+2,s1.heap.objs.size+3,s1.heap.objs.size,s1.heap.objs.size+1],_,_,H1,rfl,I1.kept (t':=s1.toks) λb o e=>hk b o e,
      EV p p' _ _ _ _ _ (zipApart_new lt1 lt2),⟨hz,hTI,⟨_,_,hTO⟩,hit1,hit2⟩,λb hb=>?_,q⟩
     have e:b=s1.heap.objs.size+4\/b=s1.heap.objs.size+2\/b=s1.heap.objs.size+3\/b=s1.heap.objs.size\/b=s1.heap.objs.size+1:=by simpa using hb
     rcases e with rfl|rfl|rfl|rfl|rfl<;>exact I1.fpOk ∅ (I1.hok.fresh ∅)
end
def l5{d:D}{ds:E_}(h:cA d=some ds):di d=false/\items d=some ds:=by
 unfold cA at h;cases ht:di d with
 |true=>rw[if_pos ht]at h;cases h
 |false=>rw[if_neg (by rw[ht];exact z8g)]at h;exact⟨rfl,h⟩
def F3{ds:E_}{d:D}(h:(gR ds)[i]?=some d):∃e,ds[i]?=some e/\d=.tup [.int (i:Nat),e]:=by
 unfold gR at h;rw[z9x,List.getElem?_zipIdx]at h;cases e:ds[i]? with
 |none=>rw[e]at h;cases h
 |some x=>rw[e]at h;simp at h;exact⟨x,rfl,h.symm⟩
def F4{ds es:E_}{d:D}(h:(gS ds es)[i]?=some d):∃a b,ds[i]?=some a/\es[i]?=some b/\d=.tup [a,b]:=by
 unfold gS at h;rw[z9x]at h;cases e:(ds.zip es)[i]? with
 |none=>rw[e]at h;cases h
 |some p=>rw[e]at h;obtain⟨h1,h2⟩:=z6u.mp e;simp at h;exact⟨p.1,p.2,h1,h2,h.symm⟩
def F5(ds:E_):(gR ds).length=ds.length:=by simp[gR]
def F6(ds es:E_):(gS ds es).length=min ds.length es.length:=by simp[gS]
section
variable {fa fb:FE}{ea eb:J_}
def wp(mr:X.mg "enumerate"=none)(h:JB X a fa ea)(hg:Gl X "enumerate"<|>J7)(hst:starEach [a] X.env=[(false,eval a X.env)]<|>J7):JI X (.Tuple elts ek ep) (.Call (.Name "enumerate" pn) [a] [] pr) (l3 fa) ea:=⟨have h:=h.h;
 mT (F0 hg mr (bP h c5 hst) hst) λσ H R ρ ds hE hf hR=>by obtain⟨d,h1,hf⟩:=bind_some hf;obtain⟨es,h2,hf⟩:=bind_some hf;cases hf;obtain⟨ht,hi⟩:=l5 h2;refine⟨ρ,d,hE,h1,λv H1 p=>?_⟩;obtain⟨q,xs,rfl,hq,hx,hA⟩:=fF p.rep hi ht;have len:=hx.length;refine⟨q,xs,rfl,hq,hR _ _ ⟨p.same,λi d' H' hd e=>?_,λH' e=>⟨xs,e.seq hq,by rw[F5];ext⟩⟩⟩;obtain⟨e',hd2,rfl⟩:=F3 hd;obtain⟨x,h3,h4⟩:=hx.get hd2;refine⟨⟨xs,x,e.seq hq,h3⟩,λy H'' y4=>?_⟩;obtain⟨T,y',hT,ey,eH,hy⟩:=y4;subst ey eH;have e2:=hy xs (e.seq hq);rw[h3]at e2;cases e2;have sn:=bg hT (.tup [.int (i:Nat),x]);refine⟨sn,.tup bj (.cons (.int _) (.cons (aw (e.trans sn) h4) .nil)),λA hD hz=>?_⟩;obtain⟨x',h5,h6⟩:=(hA A (p.av A hD hz)).get hd2;rw[h3]at h5;cases h5;refine .tup ?_ (.cons (.int _) (.cons (aw (cy (e.trans sn)) h6) .nil));rw[c7 ((hD.mono (p.same.trans e)).not_new hT)];exact bj⟩
def wq(mr:X.mg "zip"=none)(ha:JB X a fa ea)(hb:JB X b fb eb)(hg:Gl X "zip"<|>J7)(hst:starEach [a,b] X.env=[(false,eval a X.env),(false,eval b X.env)]<|>J7)(hst2:starEach [b] X.env=[(false,eval b X.env)]<|>J7):
  JI X (.Tuple elts ek ep) (.Call (.Name "zip" pn) [a,b] [] pr) (l4 fa fb) (ea++eb):=⟨have ha:=ha.h;have hb:=hb.h;
 mT (F2 hg mr (bP ha (bP hb c5 hst2) (by unfold SE;rw[hst,hst2])) hst hst2) λσ H R ρ ds hE hf hR=>by obtain⟨d,h1,hf⟩:=bind_some hf;obtain⟨d2,h1',hf⟩:=bind_some hf;obtain⟨es,h2,hf⟩:=bind_some hf;obtain⟨es2,h2',hf⟩:=bind_some hf;cases hf;obtain⟨ht,hi⟩:=l5 h2;obtain⟨ht',hi'⟩:=l5 h2';refine⟨ρ,d,hE,h1,λv H1 p1=>⟨ρ,d2,hE.mono p1.same,h1',λv2 H2 p2=>?_⟩⟩;have p:=p1.up p2.same;have p':=p2.down p1.same;obtain⟨q,xs,rfl,hq,hx,hA⟩:=fF p.rep hi ht;obtain⟨q',ys,rfl,hq',hy,hA'⟩:=fF p'.rep hi' ht';have len:=hx.length;have len':=hy.length;refine⟨q,q',xs,ys,rfl,hq,hq',hR _ _ ⟨p.same,λi d' H' hd e=>?_,λH' e=>⟨xs,ys,e.seq hq,e.seq hq',by rw[F6];ext⟩⟩⟩;obtain⟨e1,e2,hd1,hd2,rfl⟩:=F4 hd;obtain⟨x,h3,h4⟩:=hx.get hd1;obtain⟨y,h3',h4'⟩:=hy.get hd2;refine⟨⟨xs,ys,x,y,e.seq hq,e.seq hq',h3,h3'⟩,λw H'' y4=>?_⟩;obtain⟨T,x',y',hT,ey,eH,hxy⟩:=y4;subst ey eH;obtain⟨g1,g2⟩:=hxy xs ys (e.seq hq) (e.seq hq');rw[h3]at g1;cases g1;rw[h3']at g2;cases g2;have sn:=bg hT (.tup [x,y]);refine⟨sn,.tup bj (.cons (aw (e.trans sn) h4) (.cons (aw (e.trans sn) h4') .nil)),λA hD hz=>?_⟩;obtain⟨x'',h5,h6⟩:=(hA A (p.av A hD λz hz'=>hz z (z8i _ hz'))).get hd1;rw[h3]at h5;cases h5;obtain⟨y'',h5',h6'⟩:=(hA' A (p'.av A hD λz hz'=>hz z (z9s _ hz'))).get hd2;rw[h3']at h5';cases h5';refine .tup ?_ (.cons (aw (cy (e.trans sn)) h6) (.cons (aw (cy (e.trans sn)) h6') .nil));rw[c7 ((hD.mono (p.same.trans e)).not_new hT)];exact bj⟩
end
def F7{a:Addr}{g:TG}{tb:TS}{D:Ends}(Pv:Nat->St->Hp->Prop)(h0:Pv 0 σ H)(hl:∀i σ H,i<=xs.length->Pv i σ H->SqL K H a xs)(hs:∀i x σ H,xs.reverse[i]?=some x->Pv i σ H->g x σ H λσ2 H2=>tb {D with nx:=Pv (i+1),ct:=Pv (i+1),bk:=D.nx} σ2 H2)(hd:∀σ H,Pv xs.length σ H->D.nx σ H):
  ∃W:Nat->Nat->St->Hp->Prop,(∃m,W 0 m σ H)/\∀i m σ H,W i m σ H ->
    ((Itv K a xs.length).stop i H/\D.nx σ H)\/((Itv K a xs.length).go i H/\∃N:St->Hp->Prop,(∀σ' H',N σ' H'->∃m',m'<m/\W (i+1) m' σ' H')/\∀x H',(Itv K a xs.length).yld i H x H'->g x σ H' λσ2 H2=>tb {D with nx:=N,ct:=N,bk:=D.nx} σ2 H2):=by
 refine⟨λi m σ H=>m=xs.length-i/\i<=xs.length/\Pv i σ H,⟨xs.length,by simp,z7h _,h0⟩,?_⟩;rintro i m σ H ⟨rfl,hi,p⟩;have q:=hl i σ H hi p;by_cases hlt:i<xs.length
 ·have hlt':xs.length-1-i<xs.length:=by ext
  refine .inr ⟨⟨xs,xs[xs.length-1-i],q,rfl,hlt,by simp[hlt']⟩,Pv (i+1),λσ' H' p'=>⟨xs.length-(i+1),by ext,rfl,hlt,p'⟩,λx H' y=>?_⟩;obtain⟨e,y⟩:=y;subst e;exact hs i x σ _ (by rw[z4k hlt];exact y xs q) p
 ·have e:i=xs.length:=by ext
  subst e;exact .inl ⟨rfl,hd σ H p⟩
section
variable {F:Fr0}{fa:FE}{ea:J_}{tb:FS}
theorem F8(t:Nat)(Ol:z8)(hN:X.N.Nodup)(hc:X.calm=true)(mr:X.mg "reversed"=none)(hi:JE X a fa ea)(hb:JSs X F Ol body tb O2 Ol fr)(h1:(∀i∈Ol,i∈cZ O ea)<|>J8)(h2:(∀i∈Ol,i∈O2)<|>J8)(h3:t∉Ol<|>J8)(hp:PassesOwn (model X.prog X.w) X.A X.env X.xe<|>Q3)(hg:Gl X "reversed"<|>J7)(hst:starEach [a] X.env=[(false,eval a X.env)]<|>J7)(hxN:X.N[t]?=some x<|>J7)(hx:Loc X.env.scope x<|>J9)(hfn:X.fn x=true\/X.env.scope.names.lookup x=some .local<|>J9)(hs:(∀x,foldedSetIterable (.Call (.Name "reversed" pn) [a] [] pr) X.env x=pure x)<|>Q0):JS X F O (.For (.Name x p2) (.Call (.Name "reversed" pn) [a] [] pr) body [] pos) (nj t fa tb) Ol OL fr:=⟨have hi:=hi.h;have hb:=hb.h;λJ2=>by
 have hb':PSs X body (λDe σ H=>∃p:Hd,ts X.K F (p::J2) Ol Ol Ol fr tb De σ H):=λG_ s σ H De I y4=>by obtain⟨p,h⟩:=y4;exact kS hb h2 (p::J2) G_ s σ H De I h
 refine dG (i9 hp hc (EY hg mr (bP hi c5 hst) hst) (gb hN hxN hx hfn) hb' hs) λDe σ H h=>?_
 obtain⟨ρ,o,hE,hf,hQ⟩:=h;obtain⟨d,hd,hf⟩:=bind_some hf;obtain⟨ds,hsq,hf⟩:=bind_some hf;obtain⟨ht,hds⟩:=l5 hsq;refine⟨ρ,d,hE.envR,hd,λv H1 p=>?_⟩;obtain⟨hE1,hr⟩:=hE.eval p;have hE2:=hE1.weaken h1;have hr2:∀A,F.PA A->Rep X.K (aq H1 (Off σ Ol A)) v d:=λA hA=>aw (cH (λ_ _ q=>q) (kR h1)) (hr A hA)
 obtain⟨q,xs,rfl,hq⟩:=vR hr2 hds ht;have len:xs.length=ds.length:=(hq _ F.none).2.length;refine⟨q,xs,rfl,(aR _ _).seq (hq _ F.none).1,?_⟩;refine F7 (K:=X.K) (a:=q) (xs:=xs) (g:=cg t) (tb:=λDe σ H=>∃p:Hd,ts X.K F (p::J2) Ol Ol Ol fr tb De σ H) (D:=De) (λi σ' H'=>∃ρ',EnvO X.K F (hdL X.K q xs ds::J2) Ol σ' ρ' H'/\bW (λx ρ=>tb (ρ.set t (some x))) (ds.reverse.drop i) ρ'=some o) ⟨ρ,hE2.hold hq,by simpa using hf⟩ ?_ ?_ ?_
 ·rintro i σ' H' _ ⟨ρ',hE',_⟩
  exact(aR _ _).seq (hE'.hld _ z9a _ F.none).1
 ·rintro i y σ' H' hy ⟨ρ',hE',hf'⟩
  obtain⟨dy,h4,_⟩:=(hE'.hld _ z9a _ F.none).2.reverse.getV hy;have h5:∀A,F.PA A->Rep X.K (aq H' (Off σ' Ol A)) y dy:=λA hA=>by obtain⟨dy',h6,h7⟩:=(hE'.hld _ z9a A hA).2.reverse.getV hy;rw[h4]at h6;cases h6;exact h7
  have h4:ds.reverse[i]?=some dy:=h4;have hi':i<ds.reverse.length:=(z9e.mp h4).1;have ed:ds.reverse.drop i=dy::ds.reverse.drop (i+1):=by rw[z8c hi'];have e2:ds.reverse[i]=dy:=(z9e.mp h4).2;rw[e2]
  rw[ed]at hf';have hf2:=hf';rw[kW]at hf2;obtain⟨o1,h8,_⟩:=bind_some hf2;refine⟨hdL X.K q xs ds,ρ'.set t (some dy),o1,hE'.set h3 h5,h8,?_⟩;exact qu h8 hf' hQ (λ_ _ _ z=>z.unhold) λσ'' H'' ρ'' hE'' hf''=>⟨ρ'',hE'',hf''⟩
 ·rintro σ' H' ⟨ρ',hE',hf'⟩
  rw[len,<- z6a,z6c]at hf';cases hf';exact hQ σ' H' hE'.unhold⟩
end
def F9:typeLookup (.type "list_reverseiterator") "__len__"=pure none:=by rw[typeLookup_type,builtinLookup_eq_fast];kernel_rfl
def Fa:typeLookup (.type "list_reverseiterator") "__length_hint__"=pure (some (.builtin "list_reverseiterator.__length_hint__")):=by rw[typeLookup_type,builtinLookup_eq_fast];kernel_rfl
section
variable {I:Addr}{wr:m_}{G:Array GenState->Array GenState->Prop}{P:Nat->Value->Prop}{St:Nat->Shared->Prop}
theorem Fb(W:WalksS prog w A.in1 I fp wr G n P St)(hT:∀i s,St i s->s.TypeIs (.ref I) "list_reverseiterator")(S:Addr)(res:Value)(q_:Nat)(hst:St 0 s)(hSf:S∉fp)(hI:I∈fp)(hS:s.heap.get? S=some {cls:=.type "list",data:=.seq #[] q_})(hR:∀s' acc' c',Moved (S::wr) G s s'->s'.heap.get? S=some {cls:=.type "list",dict:=none,data:=.seq acc' c',slots:=#[]}->ItemsOf P acc' n->R (.ok (.ret res)) s')(hn:n<=sizeLine):
  wpAny (model prog w) A.in1 (Builtin.List.listExtendWith (.ref S) (.ref I) res)
   (λfin s'=>match fin with | .done f=>R (.ok f) s' | .again c'=>c'.quiet=true/\codeAny (model prog w) A c' R s') (λe s'=>R (.error e) s') s:=by
 have hSI:S≠I:=λe=>hSf (e▸hI)
 unfold Builtin.List.listExtendWith;refine z9j (wpAny_typeOf (hT 0 _ hst) ?_);have h1:Builtin.List.listSameRef (.ref S) (.ref I)=false:=by simp[Builtin.List.listSameRef,hSI]
 rw[if_neg (by rw[h1];decide)];refine z9j (W.self 0 _ _ _ hst ?_);refine z9j (z3h ?_);unfold Builtin.List.listLengthHint;refine z9j (wpAny_specialOf (hT 0 _ hst) F9 ?_);show wpAny _ A.in1 (specialOf (Value.ref I) (Str.ofString "__length_hint__") >>= _) _ _ _;refine z9j (wpAny_specialOf (hT 0 _ hst) Fa ?_)
 (generalize hid:("list_reverseiterator.__length_hint__" : String)=id0;(fail_if_success (clear hid id0));wp_delta;rw[show splitId id0=some ("list_reverseiterator","__length_hint__")from by subst hid;decide +kernel];subst hid)
 refine z9j (wpAny_isInstance (b:=true) (hT 0 _ hst) (by rw[isSubtype_type];kernel_rfl) ?_);refine z9z ?_;rw[if_neg (by decide)];exact z9z ⟨plainId_quiet F.plain_extend_loop _,codeAny_extend_loopS W hn _ hSf _ n 0 _ _ _ rfl (z7h _) hst hS (ItemsOf.nil P) λs' acc' c' hm hS' hacc=>hR s' acc' c' hm hS' hacc⟩
def Fc(W:WalksS prog w A.in1 I fp wr G n P St)(hT:∀i s,St i s->s.TypeIs (.ref I) "list_reverseiterator")(S:Addr)(hst:St 0 s)(hSf:S∉fp)(hI:I∈fp)(hS:s.heap.get? S=some {cls:=.type "list",data:=.seq #[]})(hR:∀s' acc' c',Moved (S::wr) G s s'->s'.heap.get? S=some {cls:=.type "list",dict:=none,data:=.seq acc' c',slots:=#[]}->ItemsOf P acc' n->R (.ok (.ret .none)) s')(hn:n<=sizeLine):
  wpAny (model prog w) A.in1 (Builtin.«list.__init__» ⟨[.ref S,.ref I],[]⟩)
   (λfin s'=>match fin with | .done f=>R (.ok f) s' | .again c'=>c'.quiet=true/\codeAny (model prog w) A c' R s') (λe s'=>R (.error e) s') s:=by
 show wpAny _ A.in1 (do let old <- Builtin.List.listItems (.ref S);Builtin.List.listUpdate (.ref S) (λ_=>#[]);letGo old.toList.reverse;Builtin.List.listExtendWith (.ref S) (.ref I) .none) _ _ s;refine z9j ?_;unfold Builtin.List.listItems;refine z9j (wpAny_seqItems hS rfl (z9z ?_));show wpAny _ A.in1 (updateSeq S (λ_=>#[]) >>= λ_=>letGo (#[]:Array Value).toList.reverse >>= λ_=>Builtin.List.listExtendWith (.ref S) (.ref I) .none) _ _ s;refine z9j (wpAny_updateSeq hS rfl ?_);have r_:=Heap.get?_update_self (Obj.mapSeq (λ_=>(#[]:Array Value))) hS rfl;have oth:∀b o,b≠S->s.heap.get? b=some o->(s.heap.update S (Obj.mapSeq (λ_=>(#[]:Array Value)))).get? b=some o:=
  λb o hb e=>(z6n _ _ (Ne.symm hb)).trans e
 refine z9j (wpAny_letGo ?_);refine Fb (hn:=hn) W hT S .none _ (W.frame 0 s _ s.toks hst (z9l _) λb hb o e=>oth b o (λh=>hSf (h▸hb)) e) hSf hI r_ λs' acc' c' hm hS' hacc=>?_
 exact hR s' acc' c' (Moved.trans W.gtrans ((Moved.refl W.grefl).then_heap (z9l _) λb o hb e=>oth b o (λh=>hb (h▸z9a)) e) hm) hS' hacc
end
theorem Fd{items:Array Value}{Q:Value->Shared->Prop}(hh:A.handled=none)(hit:s.heap.IsRevIter it l ((items.size:Int)-1))(hl:s.heap.IsList l items)(hne:l≠it)(hn:items.size<=sizeLine)(hQ:∀(h':Heap) (tk:Nat) (acc':Array Value) (c':Nat),(∀b o,b≠it->s.heap.get? b=some o->h'.get? b=some o) ->
   h'.get? s.heap.objs.size=some {cls:=.type "list",dict:=none,data:=.seq acc' c',slots:=#[]}->ItemsOf (λi v=>items[items.size-1-i]?=some v) acc' items.size->Q (.ref s.heap.objs.size) {s with heap:=h',toks:=tk}):
  wpAny (model prog w) A (call (.type "list") [.ref it]) Q E s:=by
 refine callType_codes (Q₁:=λobj y7=>obj=.ref s.heap.objs.size/\y7={s with heap:=s.heap.push {cls:=.type "list",data:=.seq #[]}}) F.called_list (F.typeCall_list_1 _) F.entry_list_init
  (code_list_new _ ⟨rfl,rfl⟩) λobj y7 w_=>?_
 obtain⟨rfl,rfl⟩:=w_;have hS:(s.heap.push {cls:=.type "list",data:=.seq #[]}).get? s.heap.objs.size=some {cls:=.type "list",data:=.seq #[]}:=z8l _ rfl;have lt1:it<s.heap.objs.size:=by obtain⟨o,e,_⟩:=hit;exact z9n e
 have lt2:l<s.heap.objs.size:=by obtain⟨o,e,_⟩:=hl;exact z9n e
 have W:=(Walks.listRev (prog:=prog) (w:=w) (A:=A.in1.in1) hh it l hne items).toS;refine⟨⟨_,hS,rfl⟩,F.args_list_init_2 _ _,Fc (A:=A.in1) W (λi s st=>let⟨o,ho,hc,_⟩:=st.2.1;⟨o,ho,hc⟩) _ ?_ ?_ (by simp) hS (λs' acc' c' hm hS' hacc=>?_) hn⟩
 ·refine⟨z7h _,?_,hl.at λo e=>z9m _ e⟩
  have:(items.size:Int)-1-((0:Nat):Int)=(items.size:Int)-1:=by ext
  rw[this];exact hit.at λo e=>z9m _ e
 ·intro hm
  have e:s.heap.objs.size=it\/s.heap.objs.size=l:=by simpa using hm
  rcases e with e|e
  ·exact absurd e (z4o lt1)
  ·exact absurd e (z4o lt2)
 ·rw[Moved.eq_with hm]
  refine⟨rfl,hQ s'.heap s'.toks acc' c' (λb o hb e=>hm.heap b o (λhmem=>?_) (z9m _ e)) hS' hacc⟩;have lt:=z9n e;have e':b=s.heap.objs.size\/b=it:=by simpa using hmem
  rcases e' with e' | e'
  ·exact absurd e' (z8o lt)
  ·exact hb e'
section
variable {fa:FE}{ea:J_}{ta:TA}
def Fe(K:K0)(ta:TA):TE:=λσ H Q=>ta σ H λvs H1=>∃q xs,vs=[.ref q]/\SqL K H1 q xs/\∀l,H1 l=none->Q (.ref l) (upd H1 l (.lst xs.reverse))
def wu(hc:X.calm=true)(hgl:Gl X "list")(ml:X.mg "list"=none)(hgr:Gl X "reversed")(mr:X.mg "reversed"=none)(ha:PA X [a] ta)(hs:starEach [a] X.env=[(false,eval a X.env)])(hs2:starEach [.Call (.Name "reversed" p2) [a] [] pos2] X.env=[(false,eval (.Call (.Name "reversed" p2) [a] [] pos2) X.env)]):
  PE X (.Call (.Name "list" p) [.Call (.Name "reversed" p2) [a] [] pos2] [] pos) (Fe X.K ta):=by
 intro G_ s σ H Q I h;refine Call_ (eV I hgl ml PyProof.Rows.boot_list (z8y ?_ hs2 rfl));rw[hs2];show wpAny _ _ (spliced ((false,eval (.Call (.Name "reversed" p2) [a] [] pos2) X.env)::backTo pos [])) _ _ s;refine Calls.spliced_cons ?_;refine Call_ (eV I hgr mr boot_reversed (z8y (cF (ha pos2 G_ s σ H _ I h) λus s1 vs H1 I1 r1 q1=>?_) hs rfl));obtain⟨q,xs,rfl,hq,hQ⟩:=q1;obtain⟨u,rfl,ru⟩:=df r1;cases ru;obtain⟨its,rv,pl,hz⟩:=I1.list hq;have hl:=rv.length;have lt:q<s1.heap.objs.size:=by obtain⟨o,e,_⟩:=pl.isList;exact z9n e
 refine call_reversed_list pl.isList ?_;refine Calls.spliced_nil ?_;have e0:(s1.heap.push (revObj q ((its.toArray.size:Int)-1))).get? s1.heap.objs.size=some (revObj q ((its.toArray.size:Int)-1)):=z8l _ rfl;have I2:Inv X G_ σ H1 {s1 with heap:=s1.heap.push (revObj q ((its.toArray.size:Int)-1)),toks:=s1.toks}:=I1.kept λb o e=>z9m _ e
 have fp:cw X G_ H1 s1.heap.objs.size:=I1.fpOk (z9l _) (I1.hok.fresh (z9l _));refine Fd (it:=s1.heap.objs.size) (l:=q) (items:=its.toArray) (I.ok.hd hc) ⟨_,e0,rfl,rfl⟩ (pl.isList.at λo e=>z9m _ e) (z8o lt) (by simpa using(show its.length<=sizeLine by ext)) λh' tk acc c hk hS hacc=>?_
 have fS:cw X G_ H1 (s1.heap.push (revObj q ((its.toArray.size:Int)-1))).objs.size:=qN I2;obtain⟨f0,f1,f2,f3,f4,f5⟩:=fp;have I3:Inv X G_ σ H1 {s1 with heap:=h',toks:=tk}:=I2.turned (t':=tk) (λb o hb e=>hk b o hb e) f0 f1 f3 f4 f5;obtain⟨al,hal⟩:=hacc;have hv:Vals xs.reverse acc.toList:=by
  have:acc.toList=its.reverse:=by
   refine List.ext_getElem (by simp[al]) λi h1 h2=>?_
   have hi:i<its.toArray.size:=by simpa using h2
   have q1:=hal i (acc.toList[i]) (by simp);have hi2:its.length-1-i<its.length:=by simp at hi;ext
   rw[List.getElem_reverse];simp[hi2]at q1;exact q1.symm
  rw[this];exact rv.reverse
 have I4:=qM (o:=.lst xs.reverse) I3 fS ⟨by rw[z6a];ext,acc.toList,c,hv,by simpa using hS⟩;exact⟨.ref _,_,I4,rfl,hQ _ fS.1⟩
def Ff(ml:X.mg "list"=none)(mr:X.mg "reversed"=none)(ha:JB X a fa ea)(hc:X.calm=true<|>J7)(hgl:Gl X "list"<|>J7)(hgr:Gl X "reversed"<|>J7)(hs:starEach [a] X.env=[(false,eval a X.env)]<|>J7)(hs2:starEach [.Call (.Name "reversed" p2) [a] [] pos2] X.env=[(false,eval (.Call (.Name "reversed" p2) [a] [] pos2) X.env)]<|>J7):
  JF X (.Call (.Name "list" p) [.Call (.Name "reversed" p2) [a] [] pos2] [] pos) (e1 qK fa) ea:=⟨have ha:=ha.h;
 ie (wu hc hgl ml hgr mr (bP ha c5 hs) hs hs2) λσ H Q ρ d hE hf hQ=>by obtain⟨dx,h1,hf⟩:=bind_some hf;obtain⟨ds,h2,hf⟩:=bind_some hf;cases hf;obtain⟨ht,hi⟩:=l5 h2;refine⟨ρ,dx,hE,h1,λx H1 p1=>?_⟩;obtain⟨p,xs,rfl,hp,hx,hA⟩:=fF p1.rep hi ht;exact⟨p,xs,rfl,hp,λl hl=>hQ _ _ (ir p1.same hl λA hD hz=>(hA A (p1.av A hD hz)).reverse)⟩⟩
end
noncomputable def ww(sc:Scope)(names:List (Str×NameKind)):Bool:=names.all λx=>!(x.2==.free)||sc.names.lookup x.1==some .cell||sc.names.lookup x.1==some .free
def Fg(sc:Scope)(hs:X.env.scope=sc)(h:ww sc names=true):∀x∈names,x.2=.free->(X.env.kindOf x.1=some .cell\/X.env.kindOf x.1=some .free):=λx hx hf=>by have:=z9t.mp h x hx;unfold PySem.Env.kindOf;rw[hs];simp only[hf,z6w,z5n,Bool.false_or,Bool.or_eq_true,z7g]at this;exact this
section
variable {fa fb:FE}{ea eb:J_}
def inD:D->D->F_:=λx y=>(items y).bind λds=>if aS x=true/\ds.all aS=true then some (.bl (ds.any λd=>dm d x))else none
def iF:D->D->F_:=λx y=>(items y).bind λds=>if aS x=true/\ds.all aS=true then some (.bl (!ds.any λd=>dm d x))else none
def qO{d:D}(r:Rep K H v d)(h:aS d=true):fB v=true:=by cases r<;>first|rfl|cases h
theorem qP{K:K0}{H:Hp}:∀{vs:C_} {ds:E_},Reps K H vs ds->ds.all aS=true->vs.all fB=true
 |[],_,h,_=>by cases h;rfl
 | _::_,_,h,hs=>by
   cases h with
   |cons a t=>rw[z7v,z8m]at hs;rw[z7v,qO a hs.1,qP t hs.2];rfl
def Fh{w:V}{d e:D}(r:Rep K H v d)(r':Rep K H w e)(h:aS d=true)(h':aS e=true):eqV v w=dm d e:=by cases r<;>cases r'<;>first|rfl|cases h|cases h'
theorem qQ{K:K0}{H:Hp}{w:V}{e:D}(r':Rep K H w e)(h':aS e=true):∀{vs:C_} {ds:E_},Reps K H vs ds->ds.all aS=true->inV w vs=ds.any λd=>dm d e
 |[],_,h,_=>by cases h;rfl
 | _::_,_,h,hs=>by
   cases h with
   |cons a t=>rw[z7v,z8m]at hs;have ih:=qQ r' h' t hs.2;unfold inV at ih ⊢;rw[z6k,z6k,Fh a r' hs.1 h',ih]
def Fi(K:K0):OpV K (rIn K false) inD:=λx y H dx dy d Q rx ry hg q=>by obtain⟨ds,h1,hg⟩:=bind_some hg;obtain⟨⟨hx,hs⟩,rfl⟩:=bz hg;obtain⟨p,xs,rfl,hp,hr,_⟩:=iq ry h1;refine⟨p,xs,rfl,hp,qO rx hx,qP hr hs,?_⟩;rw[qQ rx hx hr hs];exact q _ _ (Same.refl H) (.bl _) λA _ _ _=>.bl _
def wx(K:K0):OpV K (rIn K true) iF:=λx y H dx dy d Q rx ry hg q=>by obtain⟨ds,h1,hg⟩:=bind_some hg;obtain⟨⟨hx,hs⟩,rfl⟩:=bz hg;obtain⟨p,xs,rfl,hp,hr,_⟩:=iq ry h1;refine⟨p,xs,rfl,hp,qO rx hx,qP hr hs,?_⟩;rw[qQ rx hx hr hs];exact q _ _ (Same.refl H) (.bl _) λA _ _ _=>.bl _
def Fj(ha:JE X a fa ea)(hb:JE X b fb eb)(hm:behindInMarks .NotIn b=false<|>Q2):JT X (.Compare a [.NotIn] [b] pos) (eT (e2 iF fa fb)):=⟨have ha:=ha.h;have hb:=hb.h;jq uR (wx X.K) ha hb hm⟩
end
noncomputable def Itd(lo:Int)(n:Nat):It:=⟨λi _=>i<n,λi H x H'=>H'=H/\x=.int (lo-i),λi _=>n<=i⟩
def Fk(it:Addr)(lo:Int)(n:Nat):Turn P w K tg (Itd lo n) [it] it (λi h=>IsRangeIter h it (lo+(i:Nat)*(-1)) ((n:Int)-(i:Nat)) (-1)) where
 mem:=by simp
 obj:= λi h st b hb=>by
  have e:b=it:=by simpa using hb
  subst e;exact⟨_,st,λv z=>by have z':Data.fields _=Data.cell v:=z;cases z'⟩
 keep:=λi h h' st k=>k it (by simp) _ st
 item:=by
  intro X hP hw hK hc i G_ s σ H E I hf st hg;subst hP hw hK;obtain⟨f0,f1,f2,f3,f4,f5⟩:=hf it (by simp);have W:=Walks.range (prog:=X.prog) (w:=X.w) (I.ok.hd hc) it lo (-1) n;refine W.item i s _ _ hg st λv h' tk hv st' kk=>?_
  obtain⟨t,rfl⟩:=hv;have I1:Inv X G_ σ H {s with heap:=h',toks:=tk}:=I.turned (λb o hb e=>kk b o (by simpa using hb) e) f0 f1 f3 f4 f5;refine⟨_,rfl,jb (s:={s with heap:=h',toks:=tk}) (n:="range_iterator") st' rfl rfl (by decide) ⟨.int (lo-i),H,I1,⟨t,?_⟩,⟨rfl,rfl⟩,st',λb hb=>(hf b hb).1⟩⟩;congr 1;ext
 done:=by intro X hP hw hK hc i G_ s σ H E I hf st hg;subst hP hw hK;obtain⟨f0,f1,f2,f3,f4,f5⟩:=hf it (by simp);exact wpAny_pyNext_range_end (I.ok.hd hc) st (by have:n<=i:=hg;ext) λh' eb=>⟨rfl,I.turned (t':=s.toks) (λb o hb e=>eb b o hb e) f0 f1 f3 f4 f5⟩
 self:=λ_ _ _ _ _ st h=>wpAny_pyIter_rangeiter st h
def wy(a b:Int):Builtin.Range.rangeSize a b (-1)=if b<a then a-b else 0:=by
 unfold Builtin.Range.rangeSize;rw[if_neg (by decide)];have:(-(-1):Int)=1:=by decide
 rw[this,Int.ediv_one];by_cases h:b<a
 ·rw[if_pos h,if_pos h];ext
 ·rw[if_neg h,if_neg h]
def Fo{a b:Int}(ha:-(2 ^ 62)<=a)(ha':a<2 ^ 62)(hb:-(2 ^ 62)<=b)(hb':b<2 ^ 62):Builtin.Range.small a b (-1)=true:=by unfold Builtin.Range.small;rw[wy];simp only[Builtin.Range.rangeFitsLong,z8m,Bool.or_eq_true,decide_eq_true_eq,z7g,show ¬((-1:Int) > 0)by decide,z5d];split<;>ext
def Fp{R:It->Hp->Prop}{hi:Int}{t u v:Tok}(I:Inv X G_ σ H s)(h1:-(2 ^ 62)<=lo)(h2:lo<2 ^ 62)(h3:-(2 ^ 62)<=hi)(h4:hi<2 ^ 62)(q:R (Itd lo (lo-hi).toNat) H):wpAny (model X.prog X.w) X.A (pyIter (.ref s.heap.objs.size)) (PIE X G_ σ tg R) E {s with heap:=s.heap.push {cls:=.type "range",data:=.fields #[.int lo t,.int hi u,.int (-1) v]},toks:=tk}:=by
 refine wpAny_pyIter_range (IsRange.new ..) (Fo h1 h2 h3 h4) ?_;have I1:Inv X G_ σ H {s with heap:=s.heap.push {cls:=.type "range",data:=.fields #[.int lo t,.int hi u,.int (-1) v]},toks:=tk}:=I.kept λb o e=>z9m _ e
 refine⟨(s.heap.push {cls:=.type "range",data:=.fields #[.int lo t,.int hi u,.int (-1) v]}).objs.size,[(s.heap.push {cls:=.type "range",data:=.fields #[.int lo t,.int hi u,.int (-1) v]}).objs.size],_,_,H,rfl,
  I1.kept (t':=tk) λb o e=>z9m _ e,Fk _ lo (lo-hi).toNat,?_,λb hb=>?_,q⟩
 ·have e1:lo+((0:Nat):Int)*(-1)=lo:=by ext
  have e2:(((lo-hi).toNat:Nat):Int)-((0:Nat):Int)=Builtin.Range.rangeSize lo hi (-1):=by rw[wy];split<;>ext
  show IsRangeIter _ _ (lo+((0:Nat):Int)*(-1)) ((((lo-hi).toNat:Nat):Int)-((0:Nat):Int)) (-1);rw[e1,e2];exact z8l _ rfl
 ·have e:b=(s.heap.push {cls:=.type "range",data:=.fields #[.int lo t,.int hi u,.int (-1) v]}).objs.size:=by simpa using hb
  subst e;exact I1.fpOk (z9l _) (I1.hok.fresh (z9l _))
def Fq(ta:TA):TI:=λσ H R=>ta σ H λvs H1=>∃i j:Int,vs=[.int i,.int j,.int (-1)]/\(-(2 ^ 62)<=i/\i<2 ^ 62/\-(2 ^ 62)<=j/\j<2 ^ 62)/\R (Itd i (i-j).toNat) H1
def Fr{ta:TA}(hg:Gl X "range")(hm:X.mg "range"=none)(ha:PA X [a,b,c] ta)(hs:SE a [b,c] X<|>J7)(hpl:BT pos [b,c] X<|>J7):
  PI X tg (.Call (.Name "range" p) [a,b,c] [] pos) (Fq ta):=by
 intro G_ s σ H R I h;refine Call_ (eV I hg hm boot_range (z8y (cF (ha pos G_ s σ H _ I h) λus s1 vs H1 I1 r1 q1=>?_) hs hpl));obtain⟨i,j,e,⟨q1,q2,q3,q4⟩,q⟩:=q1;subst e;cases r1 with
 | cons r rr=>
   cases rr with
   | cons r' rr=>
     cases rr with
     |cons r'' rr=>cases rr;obtain⟨t,rfl⟩:=r;obtain⟨t',rfl⟩:=r';obtain⟨t'',rfl⟩:=r'';exact call_range_3 (by decide) (Fp I1 q1 q2 q3 q4 q) (.inl (PyProof.noPylong_of_log2 (by decide +kernel)))
noncomputable def gT(lo:Int)(n:Nat):E_:=(List.range n).map λ(k:Nat)=>.int (lo-k)
def Fs(h:i<n):(gT lo n).drop i=.int (lo-i)::(gT lo n).drop (i+1):=by
 have hl:i<(gT lo n).length:=by simpa [gT]using h
 rw[z8c hl];simp[gT]
def Ft{g:TG}{tb:TS}{D:Ends}(Pv:Nat->St->Hp->Prop)(h0:Pv 0 σ H)(hs:∀i σ H,i<n->Pv i σ H->g (.int (lo-(i:Nat))) σ H λσ2 H2=>tb {D with nx:=Pv (i+1),ct:=Pv (i+1),bk:=D.nx} σ2 H2)(hd:∀σ H,Pv n σ H->D.nx σ H):
  ∃W:Nat->Nat->St->Hp->Prop,(∃m,W 0 m σ H)/\∀i m σ H,W i m σ H ->
    ((Itd lo n).stop i H/\D.nx σ H)\/((Itd lo n).go i H/\∃N:St->Hp->Prop,(∀σ' H',N σ' H'->∃m',m'<m/\W (i+1) m' σ' H')/\∀x H',(Itd lo n).yld i H x H'->g x σ H' λσ2 H2=>tb {D with nx:=N,ct:=N,bk:=D.nx} σ2 H2):=by
 refine⟨λi m σ H=>m=n-i/\i<=n/\Pv i σ H,⟨n,by simp,z7h _,h0⟩,?_⟩;rintro i m σ H ⟨rfl,hi,p⟩;by_cases hlt:i<n
 ·refine .inr ⟨hlt,Pv (i+1),λσ' H' p'=>⟨n-(i+1),by ext,rfl,hlt,p'⟩,λx H' y=>?_⟩
  obtain⟨e,y⟩:=y;subst e y;exact hs i σ _ hlt p
 ·have e:i=n:=by ext
  subst e;exact .inl ⟨z9l _,hd σ H p⟩
def nk(t:Nat)(as:FEs)(tb:FS):FS:=λρ=>(as ρ).bind λds=>match ds with
 |[.int i,.int j,.int k]=>if okR i/\okR j/\k = -1 then bW (λx ρ=>tb (ρ.set t (some x))) (gT i (i-j).toNat) ρ else none
 |_=>none
noncomputable def qR:D->F_
 |.int i=>some (.int i)
 |.bl k=>some (.int (if k then 1 else 0))
 |_=>none
theorem wz{env:PySem.Env}:∀{names:List (Str×NameKind)} {x:Str},names.lookup x=some .free ->
  (names.map λ(n,k)=>if(k==NameKind.free&&env.scope.kind==.function&&env.kindOf n==some .cell)then(n,NameKind.cell)else(n,k)).lookup x=some .cell \/
  (names.map λ(n,k)=>if(k==NameKind.free&&env.scope.kind==.function&&env.kindOf n==some .cell)then(n,NameKind.cell)else(n,k)).lookup x=some .free
 |[],_,h=>by simp at h
 | (n,k)::r,x,h=>by
   have ih:=@wz env r x;show List.lookup x ((if(k==NameKind.free&&env.scope.kind==.function&&env.kindOf n==some .cell)=true then(n,NameKind.cell)else(n,k))::(r.map λ(n,k)=>if(k==NameKind.free&&env.scope.kind==.function&&env.kindOf n==some .cell)then(n,NameKind.cell)else(n,k)))=some .cell\/List.lookup x ((if(k==NameKind.free&&env.scope.kind==.function&&env.kindOf n==some .cell)=true then(n,NameKind.cell)else(n,k))::(r.map λ(n,k)=>if(k==NameKind.free&&env.scope.kind==.function&&env.kindOf n==some .cell)then(n,NameKind.cell)else(n,k)))=some .free;rw[z8w]at h;by_cases hcd:(k==NameKind.free&&env.scope.kind==.function&&env.kindOf n==some .cell)=true
   ·rw[if_pos hcd,z8w]
    cases hx:x==n with
    |true=>exact .inl rfl
    |false=>rw[hx]at h;exact ih h
   ·rw[if_neg hcd,z8w]
    cases hx:x==n with
    |true=>rw[hx]at h;exact .inr h
    |false=>rw[hx]at h;exact ih h
noncomputable def Fu(sc:Scope)(names:List (Str×NameKind)):Bool:=names.all λx=>!(x.2==.free)||sc.names.lookup x.1==some .free
def Fv(scope:Scope)(h:Fu scope names=true):∀x∈names,x.2=.free->((blk X N s H scope cl ex).env.kindOf x.1=some .cell\/(blk X N s H scope cl ex).env.kindOf x.1=some .free):=λx hx hf=>by have:=z9t.mp h x hx;simp only[hf,z6w,z5n,Bool.false_or,z7g]at this;exact wz this
abbrev AA(A:Addr->Prop)(a:Addr)(bs:m_):Addr->Prop:=λb=>A b\/b=a\/b∈bs
def InR(K:K0)(H:Hp)(A:Addr->Prop)(bs:m_)(dss:List E_):Prop:=
 bs.length=dss.length/\∀(k:Nat) b ds,bs[k]?=some b->dss[k]?=some ds->∃ys,H b=some (.lst ys)/\Reps K (aq H A) ys ds
section
variable {A A':Addr->Prop}{bs:m_}{dss:List E_}
def InR.mono(e:Same H H')(h:InR K H A bs dss):InR K H' A bs dss:=⟨h.1,λk b ds h1 h2=>by obtain⟨ys,h3,h4⟩:=h.2 k b ds h1 h2;exact⟨ys,e _ _ h3,aQ (cy e) h4⟩⟩
def InR.at(h:InR K H A bs dss){k:Nat}{b:Addr}(hb:bs[k]?=some b):∃ds ys,dss[k]?=some ds/\H b=some (.lst ys)/\Reps K (aq H A) ys ds:=by
 have hk:k<dss.length:=by have:=(z9e.mp hb).1;have:=h.1;ext
 obtain⟨ys,h3,h4⟩:=h.2 k b dss[k] hb (z9o hk);exact⟨_,ys,z9o hk,h3,h4⟩
theorem wA:∀{vs:C_} {ds:E_},vs.length=ds.length->(∀(k:Nat) v d,vs[k]?=some v->ds[k]?=some d->Rep K H v d)->Reps K H vs ds
 |[],[],_,_=>.nil
 |[],_::_,h,_=>by cases h
 |_::_,[],h,_=>by cases h
 |v::vs,d::ds,h,k=>.cons (k 0 v d rfl rfl) (wA (by simpa using h) λm v' d' h1 h2=>k (m+1) v' d' (by simpa using h1) (by simpa using h2))
def InR.reps(h:InR K H A bs dss)(hA:∀b,A' b->A b)(hb:∀b∈bs,¬A' b):Reps K (aq H A') (bs.map V.ref) (dss.map D.lst):=by
 refine wA (by simpa using h.1) λk v d h1 h2=>?_
 rw[z9x]at h1 h2;cases e1:bs[k]? with
 |none=>rw[e1]at h1;cases h1
 | some b=>
   cases e2:dss[k]? with
   |none=>rw[e2]at h2;cases h2
   |some ds=>rw[e1]at h1;rw[e2]at h2;cases h1;cases h2;obtain⟨ys,h3,h4⟩:=h.2 k b ds e1 e2;refine .lst (.inl ?_) (aQ (cH (λ_ _ q=>q) hA) h4);rw[c7 (hb b (z8b e1))];exact h3
def InR.snoc(h:InR K H A bs dss){b:Addr}{ds:E_}(hb:H b=some (.lst ys))(hr:Reps K (aq H A) ys ds):InR K H A (bs++[b]) (dss++[ds]):=by
 refine⟨by simp[h.1],λk c es h1 h2=>?_⟩;by_cases e:k<bs.length
 ·rw[z8f e]at h1
  rw[z8f (by rw[<- h.1];exact e)]at h2;exact h.2 k c es h1 h2
 ·have:k=bs.length:=by have:=(z9e.mp h1).1;simp at this;ext
  subst this;rw[z9y (z9l _),Nat.sub_self]at h1;rw[h.1,z9y (z9l _),Nat.sub_self]at h2;cases h1;cases h2;exact⟨ys,hb,hr⟩
end
def lkD(ρ:ah)(i r:Nat):F_:=(a5 r ρ).bind λk=>(a5 i ρ).bind λx=>match k,x with
 |.int k,.lst ds=>ds[k.toNat]?
 |_,_=>none
def vw(i:Nat):Option Nat->ah->ah
 |none,ρ=>ρ
 |some r,ρ=>ρ.set r (lkD ρ i r)
structure EnvD (K:K0) (F:Fr0) (J2:List Hd) (i:Nat) (al:Option Nat) (a:Addr) (bs:m_) (dss:List E_) (σ:St) (ρ:ah) (H:Hp):Prop where
 same:Same F.H0 H
 lσ:σ.length=F.n
 lρ:ρ.length=F.n
 si:σ[i]?=some (some (V.ref a))
 ri:ρ[i]?=some (some (.lst (dss.map .lst)))
 ha:H a=some (.lst (bs.map V.ref))
 nd:(a::bs).Nodup
 new:∀b,b=a\/b∈bs->F.H0 b=Option.none
 inn:∀A,F.PA A->InR K H (AA A a bs) bs dss
 val:∀j d,ρ[j]?=some (some d)->j≠i->al≠some j->∃v,σ[j]?=some (some v)/\∀A,F.PA A->Rep K (aq H (AA A a bs)) v d
 hld:∀p∈J2,∀A,F.PA A->HdOk K (aq H (AA A a bs)) p
 als:∀r,al=some r->r≠i/\∃(k:Nat) (b:Addr),ρ[r]?=some (some (.int (k:Nat)))/\bs[k]?=some b/\σ[r]?=some (some (V.ref b))
section
variable {F:Fr0}{J2:List Hd}{al:Option Nat}{a:Addr}{bs:m_}{dss:List E_}{ρ:ah}
def EnvD.up(h:EnvD K F J2 i al a bs dss σ ρ H)(e:Same H H'):EnvD K F J2 i al a bs dss σ ρ H':=
 ⟨h.same.trans e,h.lσ,h.lρ,h.si,h.ri,e _ _ h.ha,h.nd,h.new,λA hA=>(h.inn A hA).mono e,λj d q h1 h2=>let⟨v,h3,h4⟩:=h.val j d q h1 h2;⟨v,h3,λA hA=>aw (cy e) (h4 A hA)⟩,λp hp A hA=>(h.hld p hp A hA).mono (cy e),h.als⟩
theorem EnvD.out(h:EnvD K F J2 i al a bs dss σ ρ H){A:Addr->Prop}(hA:F.PA A){b:Addr}(hb:b=a\/b∈bs):¬A b:=λq=>F.dom A hA b q (h.new b hb)
theorem EnvD.dom(h:EnvD K F J2 i al a bs dss σ ρ H){A:Addr->Prop}(hA:F.PA A):Dom H (AA A a bs):=λb q=>by
 rcases q with q|rfl|q
 ·exact((F.dom A hA).mono h.same) b q
 ·rw[h.ha];exact λz=>nomatch z
 ·obtain⟨k,hk⟩:=List.getElem?_of_mem q
  obtain⟨_,ys,_,h2,_⟩:=(h.inn A hA).at hk;rw[h2];exact λz=>nomatch z
theorem EnvD.repI(h:EnvD K F J2 i al a bs dss σ ρ H){A:Addr->Prop}(hA:F.PA A):Rep K (aq H A) (V.ref a) (.lst (dss.map .lst)):=by refine .lst (.inl ?_) ((h.inn A hA).reps (λb q=>.inl q) λb hb=>h.out hA (.inr hb));rw[c7 (h.out hA (.inl rfl))];exact h.ha
def Fw{k:Nat}{r:Nat}(hr:ρ[r]?=some (some (.int (k:Nat))))(hi:ρ[i]?=some (some (.lst (dss.map .lst)))):lkD ρ i r=(dss[k]?).map D.lst:=by unfold lkD a5;rw[hr,hi];simp
theorem EnvD.envR(h:EnvD K F J2 i al a bs dss σ ρ H):EnvR K H σ (vw i al ρ):=λj d e=>by
 have plain:ρ[j]?=some (some d)->al≠some j->∃v,σ[j]?=some (some v)/\Rep K H v d:=λe' hj=>by
  by_cases hi:j=i
  ·subst hi
   rw[h.ri]at e';cases e';exact⟨_,h.si,aw (aR _ _) (h.repI F.none)⟩
  ·obtain⟨v,h1,h2⟩:=h.val j d e' hi hj
   exact⟨v,h1,aw (aR _ _) (h2 _ F.none)⟩
 cases al with
 |none=>exact plain e λz=>nomatch z
 | some r=>
   obtain⟨hri,k,b,h1,h2,h3⟩:=h.als r rfl;by_cases hj:j=r
   ·subst hj
    have hl:j<ρ.length:=(z9e.mp h1).1;unfold vw at e;rw[z9r hl,Fw h1 h.ri]at e;obtain⟨ds,ys,h4,h5,h6⟩:=(h.inn _ F.none).at h2;rw[h4]at e;cases e;exact⟨_,h3,.lst (.inl h5) (aQ (aR _ _) h6)⟩
   ·unfold vw at e
    rw[z9g (Ne.symm hj)]at e;exact plain e λz=>hj (z7b z).symm
theorem EnvD.set(h:EnvD K F J2 i al a bs dss σ ρ H){d:D}(hj:j≠i)(hal:al≠some j)(hv:∀A,F.PA A->Rep K (aq H (AA A a bs)) v d):EnvD K F J2 i al a bs dss (σ.set j (some v)) (ρ.set j (some d)) H:=by
 refine⟨h.same,by rw[z8e];exact h.lσ,by rw[z8e];exact h.lρ,?_,?_,h.ha,h.nd,h.new,h.inn,λm e q h1 h2=>?_,h.hld,λr hr=>?_⟩
 ·rw[z9g hj];exact h.si
 ·rw[z9g hj];exact h.ri
 ·by_cases e1:m=j
  ·subst e1
   have l1:m<ρ.length:=by have:=(z9e.mp q).1;simpa using this
   rw[z9r l1]at q;cases q;exact⟨v,z9r (by rw[h.lσ,<- h.lρ];exact l1),hv⟩
  ·rw[z9g (Ne.symm e1)]at q ⊢
   exact h.val m e q h1 h2
 ·obtain⟨h1,k,b,h2,h3,h4⟩:=h.als r hr
  have ne:j≠r:=λe=>hal (e▸hr)
  exact⟨h1,k,b,by rw[z9g ne];exact h2,h3,by rw[z9g ne];exact h4⟩
end
theorem qS{K:K0}{H H':Hp}:∀{vs:C_} {ds:E_},ds.all aS=true->Reps K H vs ds->Reps K H' vs ds
 |[],_,_,h=>by cases h;exact .nil
 | _::_,_,s,h=>by
   cases h with
   |cons h1 h2=>rw[z7v,z8m]at s;exact .cons (kE s.1 h1) (qS s.2 h2)
structure PostD (K:K0) (σ:St) (ρ:ah) (H:Hp) (es:J_) (d:D) (v:V) (H':Hp):Prop where
 same:Same H H'
 new:∃l bs dss,v=V.ref l/\d=.lst (dss.map .lst)/\(l::bs).Nodup/\(∀b,b=l\/b∈bs->H b=none)/\H' l=some (.lst (bs.map V.ref))/\∀A,Dom H A->(∀e∈es,Av K H σ ρ A e)->InR K H' (AA A l bs) bs dss
section
variable {g:TG}{c:ah->B_}
theorem EnvO.setD{F:Fr0}{J2:List Hd}{ρ:ah}(h:EnvO K F J2 O σ ρ H){es:J_}{d:D}(p:PostD K σ ρ H es d v H')(hn:i<F.n):
  ∃a bs dss,EnvD K F J2 i none a bs dss (σ.set i (some v)) (ρ.set i (some d)) H':=by
 have h:=h.weaken (O':=[]) λ_ q=>nomatch q
 obtain⟨l,bs,dss,rfl,rfl,hnd,hnew,hl',hr⟩:=p.new;have off:∀{A:Addr->Prop} (b:Addr),Off σ [] A b↔A b:=λ{A} b=>⟨λq=>q.elim (λy4=>by obtain⟨_,q,_⟩:=y4;exact nomatch q) id,.inr⟩
 have dom:∀{A:Addr->Prop},F.PA A->Dom H A:=λ{A} hA=>(F.dom A hA).mono h.same
 have av:∀{A:Addr->Prop},F.PA A->∀e∈es,Av K H σ ρ A e:=λ{A} hA e he=>by have:=h.av (e:=e) hA (by cases e<;>rfl);rw[show Off σ [] A=A from funext λb=>propext (off b)]at this;exact this
 have up:∀{A:Addr->Prop},Same (aq H (Off σ [] A)) (aq H' (AA A l bs)):=λ{A} c o q=>by
  obtain⟨n,q⟩:=er q;rw[c7]
  ·exact p.same c o q
  ·rintro(z|z)
   ·exact n (.inr z)
   ·rw[hnew c z]at q;cases q
 refine⟨l,bs,dss,h.same.trans p.same,by rw[z8e];exact h.lσ,by rw[z8e];exact h.lρ,z9r (by rw[h.lσ];exact hn),z9r (by rw[h.lρ];exact hn),hl',hnd,λb hb=>h.same.free (hnew b hb),λA hA=>hr A (dom hA) (av hA),λj e q h1 h2=>?_,λz hz A hA=>(h.hld z hz A hA).mono up,λr hr=>nomatch hr⟩;rw[z9g (Ne.symm h1)]at q ⊢;obtain⟨v',h3,h4⟩:=h.val j e q λz=>nomatch z
 exact⟨v',h3,λA hA=>aw up (h4 A hA)⟩
def nq(f:FS):Prop:=∀ρ ρ',f ρ≠some (.nx ρ')
theorem Fx{f g:FS}(h:nq g):nq (bA f g):=λρ ρ' q=>by
 obtain⟨o,h1,h2⟩:=bind_some q;cases o with
 |nx ρ1=>exact h ρ1 ρ' h2
 |_=>cases h2
end
structure RetX (K:K0) (H0:Hp) (d:D) (v:V) (H':Hp):Prop where
 same:Same H0 H'
 new:∃l bs dss,v=V.ref l/\d=.lst (dss.map .lst)/\(l::bs).Nodup/\(∀b,b=l\/b∈bs->H0 b=none)/\H' l=some (.lst (bs.map V.ref))/\∀A,InR K H' A bs dss
def qT:D->Bool
 |.lst es=>es.all aS
 |_=>false
def Fy{A:Addr->Prop}{bs:m_}{dss:List E_}(hs:(dss.map D.lst).all qT=true)(hb:∀b∈bs,H' b=H b)(h:InR K H A bs dss)(A':Addr->Prop):InR K H' A' bs dss:=⟨h.1,λk b ds h1 h2=>by obtain⟨ys,h3,h4⟩:=h.2 k b ds h1 h2;have hm:D.lst ds∈dss.map D.lst:=z8z.mpr ⟨ds,z8b h2,rfl⟩;exact⟨ys,by rw[hb b (z8b h1)];exact h3,qS (z9t.mp hs _ hm) h4⟩⟩
section
variable {F:Fr0}{J2:List Hd}{a:Addr}{bs:m_}{dss:List E_}{ρ:ah}
theorem EnvD.push(h:EnvD K F J2 i none a bs dss σ ρ H)(e:Same H H')(hl:H l=none){ds:E_}(hl':H' l=some (.lst ys))(hr:∀H'',Reps K H'' ys ds):
  EnvD K F J2 i none a (bs++[l]) (dss++[ds]) σ (ρ.set i (some (.lst ((dss++[ds]).map .lst)))) (upd H' a (.lst ((bs++[l]).map V.ref))):=by
 have hE:=h.up e;have nd:=z8j.mp h.nd;have hla:l≠a:=λq=>by subst q;rw[h.ha]at hl;cases hl
 have hlb:l∉bs:=λq=>h.dom F.none l (.inr (.inr q)) hl
 have hpl:i<ρ.length:=(z9e.mp h.ri).1;have sub:∀{c:Addr},c∈bs++[l]->c∈bs\/c=l:=λ{c} q=>(z8q.mp q).imp id z9w.mp
 have up:∀{A:Addr->Prop},Same (aq H (AA A a bs)) (aq (upd H' a (.lst ((bs++[l]).map V.ref))) (AA A a (bs++[l]))):=λ{A} c o q=>by
  obtain⟨n,q⟩:=er q;have ne:c≠a:=λz=>n (.inr (.inl z))
  have nl:c≠l:=c6 q hl;rw[c7,aH ne]
  ·exact e c o q
  ·rintro(z|z|z)
   ·exact n (.inl z)
   ·exact ne z
   ·rcases sub z with z|z
    ·exact n (.inr (.inr z))
    ·exact nl z
 refine⟨λc o q=>?_,h.lσ,by rw[z8e];exact h.lρ,h.si,z9r hpl,bj,?_,λc hc=>?_,λA hA=>InR.snoc ⟨(h.inn A hA).1,λm c es h1 h2=>?_⟩ ?_ (hr _),λj d q h1 h2=>?_,λp hp A hA=>(h.hld p hp A hA).mono up,λr hr=>nomatch hr⟩
 ·rw[aH (show c≠a from λz=>by subst z;rw[h.new c (.inl rfl)]at q;cases q)]
  exact hE.same c o q
 ·refine z8j.mpr ⟨λz=>?_,?_⟩
  ·rcases sub z with z|z
   ·exact nd.1 z
   ·exact hla z.symm
  ·rw[List.nodup_append]
   exact⟨nd.2,by simp,λx hx y hy=>by rw[z9w]at hy;subst hy;exact λq=>hlb (q▸hx)⟩
 ·rcases hc with rfl|hc
  ·exact h.new c (.inl rfl)
  ·rcases sub hc with hc|rfl
   ·exact h.new c (.inr hc)
   ·cases q:F.H0 c with
    |none=>rfl
    |some o=>rw[h.same c o q]at hl;cases hl
 ·obtain⟨zs,h3,h4⟩:=(h.inn A hA).2 m c es h1 h2
  have ne:c≠a:=λz=>nd.1 (z▸z8b h1)
  exact⟨zs,by rw[aH ne];exact e _ _ h3,aQ up h4⟩
 ·rw[aH hla];exact hl'
 ·rw[z9g (Ne.symm h1)]at q
  obtain⟨v,h3,h4⟩:=h.val j d q h1 h2;exact⟨v,h3,λA hA=>aw up (h4 A hA)⟩
end
def Fz(K:K0)(F:Fr0)(J2:List Hd)(i:Nat)(De:Ends):Out->Prop
 |.nx ρ'=>∀a bs dss σ' H',EnvD K F J2 i none a bs dss σ' ρ' H'->De.nx σ' H'
 |.rt d=>∀v H',RetX K F.H0 d v H'->De.rt v H'
 |.bk _=>True
 |.ct _=>True
def tsX(K:K0)(F:Fr0)(J2:List Hd)(i:Nat)(f:FS):TS:=λDe σ H=>∃a bs dss ρ o,EnvD K F J2 i none a bs dss σ ρ H/\f ρ=some o/\Fz K F J2 i De o
abbrev VX(X:Cx)(F:Fr0)(i:Nat)(st:Stmt)(f:FS):Prop:=∀J2,PS X st (tsX X.K F J2 i f)
structure JX (X:Cx) (F:Fr0) (i:Nat) (st:Stmt) (f:FS):Prop where
 h:VX X F i st f
abbrev VXs(X:Cx)(F:Fr0)(i:Nat)(st:o_)(f:FS):Prop:=∀J2,PSs X st (tsX X.K F J2 i f)
structure JXs (X:Cx) (F:Fr0) (i:Nat) (st:o_) (f:FS):Prop where
 h:VXs X F i st f
def FB(K:K0)(F:Fr0)(J2:List Hd)(O':z8)(De:Ends):Out->Prop
 |.nx ρ'=>∀σ' H',EnvO K F J2 O' σ' ρ' H'->De.nx σ' H'
 |.rt d=>∀v H',RetX K F.H0 d v H'->De.rt v H'
 |.bk _=>True
 |.ct _=>True
def tsR(K:K0)(F:Fr0)(J2:List Hd)(O O':z8)(f:FS):TS:=λDe σ H=>∃ρ o,EnvO K F J2 O σ ρ H/\f ρ=some o/\FB K F J2 O' De o
abbrev VRs(X:Cx)(F:Fr0)(O:z8)(st:o_)(f:FS)(O':z8):Prop:=∀J2,PSs X st (tsR X.K F J2 O O' f)
structure JRs (X:Cx) (F:Fr0) (O:z8) (st:o_) (f:FS) (O':z8):Prop where
 h:VRs X F O st f O'
section
variable {F:Fr0}{f g:FS}{rest:o_}{fe:FE}{es:J_}
theorem FC(h1:JX X F i st f)(h2:JXs X F i rest g):JXs X F i (st::rest) (bA f g):=⟨have h1:=h1.h;have h2:=h2.h;λJ2=>fg (j8 (h1 J2) (h2 J2)) λDe σ H y4=>by
 obtain⟨a,bs,dss,ρ,o,hE,hf,hQ⟩:=y4;obtain⟨o1,h1,hf⟩:=bind_some hf;refine⟨a,bs,dss,ρ,o1,hE,h1,?_⟩;cases o1 with
 |nx ρ'=>exact λa' bs' dss' σ' H' hE'=>⟨a',bs',dss',ρ',o,hE',hf,hQ⟩
 |rt d=>cases hf;exact hQ
 |bk ρ'=>exact trivial
 |ct ρ'=>exact trivial⟩
def wB(h1:JX X F i st f):JXs X F i [st] f:=⟨have h1:=h1.h;λJ2=>fg (km (h1 J2)) λDe σ H h=>h⟩
def l6(i:Nat)(f:FE):FS:=λρ=>(a5 i ρ).bind λx=>match x with
 | .lst ds=>(f ρ).bind λd=>match d with
   |.lst es=>if es.all aS=true/\ds.length<100000 then some (.nx (ρ.set i (some (.lst (ds++[.lst es])))))else none
   |_=>none
 |_=>none
theorem FD(he:VF X e fe es)(hN:X.N[i]?=some x)(hv:Vis X.env.scope x<|>J9)(hd:DB x)(hcd:(x==("__classdict__" : Str))=false)(hbase:attributeBase (.Name x p2) "append" X.env (eval (.Name x p2) X.env)=eval (.Name x p2) X.env)(hfew:(((backTo cp (starEach [e] X.env)).all (λx=>!x.1)&&(backToKw cp (keywordEach [] X.env)).all (λx=>x.1.isSome)
   && decide (([e]:l_).length+([]:n_).length+(if([]:n_).isEmpty then 0 else 1)<30))=true)<|>J7)(hline:(ap.endLine==cp.line)=true<|>J7)(hs:SE e [] X<|>J7)(hplain:BT cp [] X<|>J7)(hsw:swapsWith (.Call (.Attribute (.Name x p2) "append" ap) [e] [] cp) none pos.line X.env=pure false<|>J7):
  VX X F i (.Expr (.Call (.Attribute (.Name x p2) "append" ap) [e] [] cp) pos) (l6 i fe):=λJ2=>
 dG (lZ (ic z4c z5x z5y pY (gG hN hv hd hcd) (bP he c5 hs) hbase hfew hline hs hplain) hsw) λDe σ H y4=>by
  obtain⟨a,bs,dss,ρ,o,hE,hf,hQ⟩:=y4;obtain⟨z,h1,hf⟩:=bind_some hf;have h1:=ig h1;rw[hE.ri]at h1;cases h1;obtain⟨d,h2,hf⟩:=bind_some hf;refine⟨_,hE.si,.inl ⟨rfl,bs.map V.ref,.inl (.inl hE.ha)⟩,ρ,d,hE.envR,h2,λv H1 p=>?_⟩;obtain⟨l,xs,ds,rfl,rfl,hl,hl',hr⟩:=p.new;obtain⟨⟨hsc,hlen⟩,rfl⟩:=bz hf;have len:bs.length=dss.length:=(hE.inn _ F.none).1;have base:=hr eW (Dom.none H) λe _=>Av.none hE.envR e
  rw[z9c]at hlen;refine⟨a,bs.map V.ref,V.ref l,rfl,rfl,p.same _ _ hE.ha,z9v (show(bs.map V.ref).length<100000 by rw[z9c];ext) (by decide),?_⟩;refine hQ a (bs++[l]) (dss++[ds]) σ _ ?_;have h3:=hE.push p.same hl hl' λH''=>qS hsc base
  rw[z8k,z8k]at h3;exact h3
def FF(t:Nat){as:FEs}{ei:J_}{tb:FS}(hN:X.N.Nodup)(hc:X.calm=true)(mr:X.mg "range"=none)(hi:JA X [a,b,c] as ei)(hb:JXs X F i body tb)(h3:t≠i<|>J8)(hp:PassesOwn (model X.prog X.w) X.A X.env X.xe<|>Q3)(hg:Gl X "range"<|>J7)(hst:SE a [b,c] X<|>J7)(hpl:BT pr [b,c] X<|>J7)(hxN:X.N[t]?=some x<|>J7)(hx:Loc X.env.scope x<|>J9)(hfn:X.fn x=true\/X.env.scope.names.lookup x=some .local<|>J9)(hs:(∀x,foldedSetIterable (.Call (.Name "range" pn) [a,b,c] [] pr) X.env x=pure x)<|>Q0):JX X F i (.For (.Name x p2) (.Call (.Name "range" pn) [a,b,c] [] pr) body [] pos) (nk t as tb):=⟨have hi:=hi.h;have hb:=hb.h;λJ2=>by
 refine dG (i9 hp hc (Fr hg mr hi hst hpl) (gb hN hxN hx hfn) (hb J2) hs) λDe σ H h=>?_
 obtain⟨a0,bs,dss,ρ,o,hE,hf,hQ⟩:=h;obtain⟨ds,hd,hf⟩:=bind_some hf;refine⟨ρ,ds,hE.envR,hd,λvs H1 p=>?_⟩;have hE1:=hE.up p.same
 match ds,hf,p with
 | [.int ii,.int j,.int k],hf,p=>
   by_cases hj:okR ii/\okR j/\k = -1
   ·simp only[if_pos hj]at hf
    obtain⟨hj1,hj2,rfl⟩:=hj;have hv:vs=[.int ii,.int j,.int (-1)]:=by
     cases p.rep with
     | cons a t=>cases a;cases t with
       | cons a t=>cases a;cases t with
         |cons a t=>cases a;cases t;rfl
    refine⟨ii,j,hv,⟨hj1.1,hj1.2,hj2.1,hj2.2⟩,?_⟩;refine Ft (lo:=ii) (n:=(ii-j).toNat) (g:=cg t) (tb:=tsX X.K F J2 i tb) (D:=De) (λq σ' H'=>∃a' bs' dss' ρ',EnvD X.K F J2 i none a' bs' dss' σ' ρ' H'/\bW (λx ρ=>tb (ρ.set t (some x))) ((gT ii (ii-j).toNat).drop q) ρ'=some o) ⟨a0,bs,dss,ρ,hE1,by simpa using hf⟩ ?_ ?_
    ·rintro q σ' H' hq ⟨a',bs',dss',ρ',hE',hf'⟩
     rw[Fs hq,kW]at hf';obtain⟨o1,h8,hf''⟩:=bind_some hf';refine⟨a',bs',dss',ρ'.set t (some (.int (ii-q))),o1,hE'.set h3 (λz=>nomatch z) λA hA=>.int _,h8,?_⟩;cases o1 with
     |nx ρ1=>exact λa2 bs2 dss2 σ2 H2 hE2=>⟨a2,bs2,dss2,ρ1,hE2,hf''⟩
     |rt d=>cases hf'';exact hQ
     |bk ρ1=>exact trivial
     |ct ρ1=>exact trivial
    ·rintro σ' H' ⟨a',bs',dss',ρ',hE',hf'⟩
     rw[z7f (by simp[gT])]at hf';cases hf';exact hQ a' bs' dss' σ' H' hE'
   ·simp only[if_neg hj]at hf
    cases hf⟩
def l7(i:Nat):FS:=λρ=>(a5 i ρ).bind λx=>match x with
 |.lst ds=>if ds.all qT=true then some (.rt (.lst ds.reverse))else none
 |_=>none
theorem FG{pl pos3:Pos}(hc:X.calm=true)(ml:X.mg "list"=none)(mr:X.mg "reversed"=none)(hN:X.N[i]?=some x<|>J7)(hv:Vis X.env.scope x<|>J9)(hd:DB x<|>J8)(hcd:(x==("__classdict__" : Str))=false<|>J8)(hgl:Gl X "list"<|>J7)(hgr:Gl X "reversed"<|>J7)(hs1:starEach [.Name x p2] X.env=(false,eval (.Name x p2) X.env)::starEach [] X.env<|>J7)(hs:starEach [.Name x p2] X.env=[(false,eval (.Name x p2) X.env)]<|>J7)(hs2:starEach [.Call (.Name "reversed" pr) [.Name x p2] [] pos2] X.env=[(false,eval (.Call (.Name "reversed" pr) [.Name x p2] [] pos2) X.env)]<|>J7):
  JX X F i (.Return (some (.Call (.Name "list" pl) [.Call (.Name "reversed" pr) [.Name x p2] [] pos2] [] pos3)) pos) (l7 i):=⟨λJ2=>
 dG (i8 (wu hc hgl ml hgr mr (bP (gG hN hv hd hcd) c5 hs1) hs hs2)) λDe σ H y4=>by
  obtain⟨a,bs,dss,ρ,o,hE,hf,hQ⟩:=y4;obtain⟨z,h1,hf⟩:=bind_some hf;have h1:=ig h1;rw[hE.ri]at h1;cases h1;obtain⟨hsc,rfl⟩:=bz hf;refine⟨_,hE.si,a,bs.map V.ref,rfl,.inl (.inl hE.ha),λl hl=>hQ _ _ ⟨hE.same.trans (bg hl _),l,bs.reverse,dss.reverse,rfl,by rw[z5j],?_,?_,by rw[z5j];exact bj,λA=>?_⟩⟩
  ·refine z8j.mpr ⟨λq=>?_,List.pairwise_reverse.mpr ((z8j.mp hE.nd).2.imp λh=>Ne.symm h)⟩
   exact hE.dom F.none l (.inr (.inr (List.mem_reverse.mp q))) hl
  ·rintro b (rfl|hb)
   ·exact hE.same.free hl
   ·exact hE.new b (.inr (List.mem_reverse.mp hb))
  ·have h:=hE.inn _ F.none
   have hne:∀b∈bs,upd H l (.lst (bs.map V.ref).reverse) b=H b:=λb hb=>aH λq=>hE.dom F.none b (.inr (.inr hb)) (by rw[q];exact hl)
   have h2:=Fy hsc hne h A;refine⟨by rw[z6a,z6a];exact h2.1,λk b ds q1 q2=>?_⟩;have hk:k<bs.length:=by have:=(z9e.mp q1).1;simpa using this
   rw[z4k hk]at q1;rw[z4k (by rw[<- h2.1];exact hk),<- h2.1]at q2;exact h2.2 _ b ds q1 q2⟩
def wC(f:FS):Prop:=∀ρ o,f ρ=some o->∃ρ',o=.nx ρ'
def FH{f:FE}:wC (bV j f):=λρ o h=>by obtain⟨d,_,rfl⟩:=mO h;exact⟨_,rfl⟩
def FI(h1:JS X F O st f O1 OL fr)(hn:wC f)(h2:JRs X F O1 rest g O2):JRs X F O (st::rest) (bA f g) O2:=⟨have h1:=h1.h;have h2:=h2.h;λJ2=>fg (j8 (h1 J2) (h2 J2)) λDe σ H y4=>by obtain⟨ρ,o,hE,hf,hQ⟩:=y4;obtain⟨o1,h1,hf⟩:=bind_some hf;obtain⟨ρ',rfl⟩:=hn _ _ h1;exact⟨ρ,.nx ρ',hE,h1,λσ' H' hE'=>⟨ρ',o,hE',hf,hQ⟩⟩⟩
theorem FJ(i:Nat){lp:Pos}(hN:X.N.Nodup)(he:JF X e fe es)(hn:i<F.n)(hrest:JXs X F i rest g)(hret:nq g)(hi:X.N[i]?=some x<|>J7)(hx:Loc X.env.scope x<|>J9)(hs:swapsWith (.List [e] lp) (some (.Name x p2)) pos.line X.env=pure false<|>J7)(hfn:X.fn x=true\/X.env.scope.names.lookup x=some .local<|>J9)(hs1:SE e [] X<|>J7):
  JRs X F O (.Assign [.Name x p2] (.List [e] lp) pos::rest) (bA (bV i (c8 (aa fe aj))) g) O':=⟨have he:=he.h;have hrest:=hrest.h;λJ2=>
 fg (j8 (ja hN hi hx (md (bP he c5 hs1)) hs hfn) (hrest J2)) λDe σ H y4=>by
  obtain⟨ρ,o,hE,hf,hQ⟩:=y4;obtain⟨o1,h1,hf⟩:=bind_some hf;obtain⟨d,h2,rfl⟩:=mO h1;obtain⟨dl,h3,h4⟩:=bind_some h2;obtain⟨hll,rfl⟩:=bz h4;obtain⟨d1,h5,h6⟩:=bind_some h3;obtain⟨dn,h7,h8⟩:=bind_some h6;cases h7;cases h8;refine⟨ρ,d1,hE.envR,h5,λv H1 p=>?_⟩;refine⟨by show 1<=sizeLine;decide,λl hl=>?_⟩;obtain⟨l1,xs,ds,rfl,rfl,hl1,hl1',hr⟩:=p.new;have ne:l1≠l:=λq=>by subst q;rw[hl]at hl1';cases hl1'
  have pD:PostD X.K σ ρ H es (.lst [.lst ds]) (V.ref l) (upd H1 l (.lst [V.ref l1])):=by
   refine⟨p.same.trans (bg hl _),l,[l1],[ds],rfl,rfl,?_,?_,bj,λA hD hz=>⟨rfl,λk b ds' q1 q2=>?_⟩⟩
   ·simp[Ne.symm ne]
   ·rintro b (rfl|hb)
    ·exact p.same.free hl
    ·rw[z9w.mp hb];exact hl1
   ·have hk:k=0:=by have:=(z9e.mp q1).1;simp at this;exact this
    subst hk;cases q1;cases q2;refine⟨xs,by rw[aH ne];exact hl1',aQ (λc o q=>?_) (hr A hD hz)⟩;obtain⟨n,q⟩:=er q;have nl:c≠l:=c6 q hl;rw[c7,aH nl]
    ·exact q
    ·rintro(z|z|z)
     ·exact n (.inl z)
     ·exact nl z
     ·exact n (.inr (z9w.mp z))
  obtain⟨a,bs,dss,hD⟩:=hE.setD pD hn;refine⟨a,bs,dss,_,o,hD,hf,?_⟩;cases o with
  |nx ρ'=>exact absurd hf (hret _ ρ')
  |bk ρ'=>exact trivial
  |ct ρ'=>exact trivial
  |rt d'=>exact hQ⟩
theorem FK:nq (l7 i):=λρ ρ' h=>by
 obtain⟨x,_,h2⟩:=bind_some h;cases x with
 |lst ds=>obtain⟨_,q⟩:=bz h2;cases q
 |_=>cases h2
end
def spX(K:K0)(G:E_->F_):Sp:=λvs H Q _=>∃ds d,Reps K H vs ds/\G ds=some d/\∀v H',RetX K H d v H'->Q v H'
def RetX.retC{ds:E_}{d:D}(h:RetX K H d v H'):RetC K H vs ds true d v H':=by
 obtain⟨l,bs,dss,rfl,rfl,hnd,hnew,hl,hin⟩:=h.new;have out:∀{A:Addr->Prop},Dom H A->∀b,b=l\/b∈bs->¬A b:=λ{A} hA b hb q=>hA b q (hnew b hb)
 refine⟨h.same,λA hA _=>.lst (.inl ?_) ((hin A).reps (λ_ q=>q) λb hb=>out hA b (.inr hb)),λ_=>⟨l,_,_,rfl,rfl,hnew l (.inl rfl),hl,λA hA _=>?_⟩⟩
 ·rw[c7 (out hA l (.inl rfl))];exact hl
 ·refine(hin λb=>A b\/b=l).reps (λ_ q=>q) λb hb q=>?_
  rcases q with q|q
  ·exact out hA b (.inr hb) q
  ·exact(z8j.mp hnd).1 (q▸hb)
theorem FL{k:Nat}{G:E_->F_}{body:FS}(O':z8)(h1:ps.length=np)(h2:N.length=n)(h3:G=mkF true np n body)(Fn:Fun K x qual st f fd)(S:FnScope N ps (ao st))(h:∀(cdv:Value) (A:Around) (outer:List PySem.Env) (s:Shared) (H:Hp) (E:XK) (F:Fr0),F.n=n->Room k (A.deeper (envOfC qual (ao st) s.heap.objs.size f cdv)) ->
   VRs (cG CX0 P w K mg base N qual (ao st) f cdv A outer s H E).nox F [] (cO st) body O'):
  FnOk P w K mg base CX0 (k+1) f fd ps (spX K G):=by
 subst h1 h2 h3;have hpl:ps.length<=N.length:=by have:=z8u List.length S.pre;rw[z8a]at this;ext
 refine Fn.ok S (λvs H Q E h=>?_) (λcdv A outer s H vs Q E hr h'=>?_)
 ·obtain⟨ds,d,r,hg,_⟩:=h
  unfold mkF at hg;by_cases hl:ds.length=ps.length
  ·rw[r.length,hl]
  ·rw[if_neg hl]at hg;cases hg
 ·obtain⟨ds,d,r,hg,hQ⟩:=h'
  unfold mkF at hg;by_cases hl:ds.length=ps.length
  ·rw[if_pos hl]at hg
   obtain⟨o,ho,hg⟩:=bind_some hg;let F:Fr0:=⟨H,λA=>Dom H A/\Reps K (aq H A) vs ds,N.length,λA h=>h.1,⟨Dom.none H,aQ (jj H) r⟩⟩;refine⟨_,h cdv A outer s H E F rfl hr [],ds.map some++List.replicate (N.length-ps.length) none,o,?_,ho,?_⟩
   ·have lv:=r.length
    have get:∀(i:Nat) (d:D),(ds.map some++List.replicate (N.length-ps.length) none)[i]?=some (some d)->ds[i]?=some d:=λi d q=>by
     by_cases hi:i<ds.length
     ·rw[z8f (by simpa using hi),z9x]at q
      cases e:ds[i]? with
      |none=>rw[e]at q;cases q
      |some z=>rw[e]at q;simpa using q
     ·rw[z9y (by simpa using hi),z7i]at q
      split at q<;>cases q
    refine⟨Same.refl H,?_,?_,λi d q _=>?_,λp hp=>absurd hp (by simp),λi hi=>absurd hi (by simp),λi hi=>absurd hi (by simp)⟩
    ·show(L2.start N vs).length=N.length
     unfold L2.start;rw[z9f,z9c,z8s];ext
    ·show _=N.length
     rw[z9f,z9c,z8s];ext
    ·have h1:=get i d q
     obtain⟨v,h2,_⟩:=r.get h1;refine⟨v,?_,λA hA=>?_⟩
     ·unfold L2.start
      have hi:i<vs.length:=(z9e.mp h2).1;rw[z8f (by simpa using hi),z9x,h2];rfl
     ·obtain⟨v',h3,h4⟩:=hA.2.get h1
      rw[h2]at h3;cases h3;exact aw (cH (λ_ _ z=>z) λb z=>z.elim (λy4=>by obtain⟨_,hj,_⟩:=y4;exact absurd hj (by simp)) id) h4
   ·cases o with
    |rt d'=>cases hg;exact λv H' rt=>hQ v H' rt
    |nx ρ'=>cases hg
    |_=>cases hg
  ·rw[if_neg hl]at hg;cases hg
def DefX(P:Program)(w:World)(K:K0)(mg:Str->v_)(base:Heap)(x:Str)(k:Nat)(ps:j_)(G:E_->F_):Prop:=
 ∃f fd,FnOk P w K mg base CX0 k f fd ps (spX K G)/\mg x=some (.ref f)/\W.keepIn K (.ref f)=true/\Binds K fd ps []
section
variable {k:Nat}{G:E_->F_}
theorem DefX.mono(h:DefX P w K mg base x j ps G)(hk:j<=k<|>J8):DefX P w K mg base x k ps G:=
 let⟨f,fd,F,m,kp,b⟩:=h
 ⟨f,fd,F.mono hk,m,kp,b⟩
theorem DefX.d(h:DefX P w K mg base x k ps G):Def P w K mg base x k ps G true:=
 let⟨f,fd,F,m,kp,b⟩:=h
 ⟨f,fd,F.imp λvs H Q E y4=>by obtain⟨ds,d,r,hg,q⟩:=y4;exact⟨ds,d,r,hg,λv H' rx=>q v H' rx.retC⟩,m,kp,b⟩
end
def ux{α:Type}(f:α->α){l:List α}{k:Nat}{x:α}(h:l[k]?=some x):((l.take k).map f++l.drop k).set k (f x)=(l.take (k+1)).map f++l.drop (k+1):=by obtain⟨hk,hx⟩:=z9e.mp h;rw[List.set_append_right _ _ (by simp;ext)];rw[z9c,z8a,z5t ∅,Nat.sub_self,z8c hk,List.set_cons_zero,z8p hk,z8k,z7x,hx];rfl
noncomputable def e3(g:D->D->D->F_)(a b c:FE):FE:=λρ=>(a ρ).bind λx=>(b ρ).bind λy=>(c ρ).bind λz=>g x y z
section
variable {es:J_}
def bp{f:FE}(h:JF X a f es):JE X a f es:=⟨VF.ve h.h⟩
def e8{j pos}:JE X (.Constant .none j pos) (eC .non) []:=⟨jl ⟩
end
section
variable {F:Fr0}{fe:FE}{es:J_}
def FM(i:Nat)(he:JE X e fe es)(hi:i∈cZ O es<|>J8)(hN:X.N[i]?=some x<|>J7)(hv:Vis X.env.scope x<|>J9)(hd:DB x<|>J8)(hcd:(x==("__classdict__" : Str))=false<|>J8)(hbase:attributeBase (.Name x p2) "append" X.env (eval (.Name x p2) X.env)=eval (.Name x p2) X.env<|>J7)(hfew:(((backTo cp (starEach [e] X.env)).all (λx=>!x.1)&&(backToKw cp (keywordEach [] X.env)).all (λx=>x.1.isSome)
   && decide (([e]:l_).length+([]:n_).length+(if([]:n_).isEmpty then 0 else 1)<30))=true)<|>J7)(hline:(ap.endLine==cp.line)=true<|>J7)(hs:SE e [] X<|>J7)(hplain:BT cp [] X<|>J7)(hsw:swapsWith (.Call (.Attribute (.Name x p2) "append" ap) [e] [] cp) none pos.line X.env=pure false<|>J7):JS X F O (.Expr (.Call (.Attribute (.Name x p2) "append" ap) [e] [] cp) pos) (kU i fe) (cZ O es) OL fr:=⟨Ek i he.h hi hN hv hd hcd hbase hfew hline hs hplain hsw⟩
end
section
variable {F:Fr0}{fe:FE}{es:J_}
def FN(he:JF X e fe es)(hN:X.N[i]?=some x<|>J7)(hv:Vis X.env.scope x<|>J9)(hd:DB x<|>J8)(hcd:(x==("__classdict__" : Str))=false<|>J8)(hbase:attributeBase (.Name x p2) "append" X.env (eval (.Name x p2) X.env)=eval (.Name x p2) X.env<|>J7)(hfew:(((backTo cp (starEach [e] X.env)).all (λx=>!x.1)&&(backToKw cp (keywordEach [] X.env)).all (λx=>x.1.isSome)
   && decide (([e]:l_).length+([]:n_).length+(if([]:n_).isEmpty then 0 else 1)<30))=true)<|>J7)(hline:(ap.endLine==cp.line)=true<|>J7)(hs:SE e [] X<|>J7)(hplain:BT cp [] X<|>J7)(hsw:swapsWith (.Call (.Attribute (.Name x p2) "append" ap) [e] [] cp) none pos.line X.env=pure false<|>J7):JX X F i (.Expr (.Call (.Attribute (.Name x p2) "append" ap) [e] [] cp) pos) (l6 i fe):=⟨FD he.h hN hv hd hcd hbase hfew hline hs hplain hsw⟩
end
section
variable {k:Nat}{G:E_->F_}
theorem bY{body:FS}(O' OL:z8)(h1:ps.length=np)(h2:N.length=n)(h3:G=mkF fr np n body)(Fn:Fun K x qual st f fd)(S:FnScope N ps (ao st))(h:∀(cdv:Value) (A:Around) (outer:List PySem.Env) (s:Shared) (H:Hp) (E:XK) (F:Fr0),F.n=n->Room k (A.deeper (envOfC qual (ao st) s.heap.objs.size f cdv)) ->
   JSs (cG CX0 P w K mg base N qual (ao st) f cdv A outer s H E).nox F [] (cO st) body O' OL fr):
  FnOk P w K mg base CX0 (k+1) f fd ps (spF K G fr):=EK O' OL h1 h2 h3 Fn S λcdv A outer s H E F hn hr=>(h cdv A outer s H E F hn hr).h
theorem FP{body:FS}(O':z8)(h1:ps.length=np)(h2:N.length=n)(h3:G=mkF true np n body)(Fn:Fun K x qual st f fd)(S:FnScope N ps (ao st))(h:∀(cdv:Value) (A:Around) (outer:List PySem.Env) (s:Shared) (H:Hp) (E:XK) (F:Fr0),F.n=n->Room k (A.deeper (envOfC qual (ao st) s.heap.objs.size f cdv)) ->
   JRs (cG CX0 P w K mg base N qual (ao st) f cdv A outer s H E).nox F [] (cO st) body O'):
  FnOk P w K mg base CX0 (k+1) f fd ps (spX K G):=FL O' h1 h2 h3 Fn S λcdv A outer s H E F hn hr=>(h cdv A outer s H E F hn hr).h
end
end VL
variable {g' g:VL.D->VL.D->Option VL.D}{es ei ee ea eb:List VL.Es}{fa fe fb:VL.FE}{ds ds0:List VL.D}{ρ:VL.ah}{flo fhi:VL.FO}{as fi:VL.FEs}{F:VL.Fr0}{J2:List VL.Hd}{G:List VL.D->Option VL.D}{dss:List (List VL.D)}
namespace VL
open PySem (Str)
open L2 (atI ixN)
def l8{d:D}(h:cA d=some ds):di d=false/\items d=some ds:=by
 unfold cA at h;cases e:di d<;>rw[e]at h
 ·exact⟨rfl,by simpa using h⟩
 ·cases h
def WE(e:FE)(ρ:ah)(K:D->Prop):Prop:=∃d,e ρ=some d/\K d
def WB(e:ah->B_)(ρ:ah)(K:Bool->Prop):Prop:=∃d,e ρ=some d/\K d
def WA(e:FEs)(ρ:ah)(K:E_->Prop):Prop:=∃d,e ρ=some d/\K d
def WO(e:FO)(ρ:ah)(K:A_->Prop):Prop:=∃d,e ρ=some d/\K d
def WS(e:FS)(ρ:ah)(K:Out->Prop):Prop:=∃d,e ρ=some d/\K d
def W2(g:D->D->F_)(x y:D)(K:D->Prop):Prop:=∃d,g x y=some d/\K d
def W1(g:D->F_)(x:D)(K:D->Prop):Prop:=∃d,g x=some d/\K d
def WF(F:E_->F_)(ds:E_)(K:D->Prop):Prop:=∃d,F ds=some d/\K d
def kT(K:Bool->Prop):D->Prop
 |.bl b=>K b
 |_=>False
def qU(g:FS)(Q:Out->Prop):Out->Prop
 |.nx ρ=>WS g ρ Q
 |o=>Q o
def wD(K:D->Prop):Out->Prop
 |.rt d=>K d
 |_=>False
def kIf(b:Bool)(A B:Prop):Prop:=(b=true->A)/\(b=false->B)
section
variable {K:D->Prop}{KB:Bool->Prop}{KL:E_->Prop}{KO:A_->Prop}{Q:Out->Prop}{a b c:FE}{f g:FS}{t t':ah->B_}
def FQ{Q':Out->Prop}(h:WS f ρ Q)(i:∀d,Q d->Q' d):WS f ρ Q':=let⟨d,e,k⟩:=h;⟨d,e,i d k⟩
def iG{F:E_->F_}{K':D->Prop}(h:WF F ds K)(i:∀d,K d->K' d):WF F ds K':=let⟨d,e,k⟩:=h;⟨d,e,i d k⟩
def bu{F:E_->F_}{d:D}(h:F ds=some d)(k:K d):WF F ds K:=⟨d,h,k⟩
def cB{F:E_->F_}{d:D}(h:WF F ds (λx=>x=d)):F ds=some d:=by obtain⟨_,e,rfl⟩:=h;exact e
def FR{d:D}(h:a5 i ρ=some d)(k:K d):WE (a5 i) ρ K:=⟨d,h,k⟩
def FT{d:D}(k:K d):WE (eC d) ρ K:=⟨d,rfl,k⟩
def FU{g:D->D->F_}(h:WE a ρ λx=>WE b ρ λy=>W2 g x y K):WE (e2 g a b) ρ K:=by obtain⟨x,e1,y,e2,d,e3,k⟩:=h;exact⟨d,by simp only[VL.e2,e1,e2,z9h,e3],k⟩
def FV{g:D->F_}(h:WE a ρ λx=>W1 g x K):WE (e1 g a) ρ K:=by obtain⟨x,e1,d,e3,k⟩:=h;exact⟨d,by simp only[VL.e1,e1,z9h,e3],k⟩
def gk{C:Int->Int->Prop}[∀i j,Decidable (C i j)]{k:Int->Int->D}{i j:Int}(hc:C i j)(h:K (k i j)):W2 (gI C k) (.int i) (.int j) K:=⟨_,by simp only[gI,if_pos hc],h⟩
def FW{i j:Int}(h:K (.int (i+j))):W2 bL (.int i) (.int j) K:=gk trivial h
def FX{i j:Int}(h:K (.int (i-j))):W2 cX (.int i) (.int j) K:=gk trivial h
def FY{i j:Int}(hc:okMul i j)(h:K (.int (i*j))):W2 dg (.int i) (.int j) K:=gk hc h
def FZ{i j:Int}(hc:kL i j)(h:K (.int (i / j))):W2 jm (.int i) (.int j) K:=gk hc h
def G0{i j:Int}(hc:mC i j)(h:K (.int (i % j))):W2 eE (.int i) (.int j) K:=gk hc h
def G1{i j:Int}(hc:kM i j)(h:∀v,v=i ^ j.toNat->K (.int v)):W2 mD (.int i) (.int j) K:=gk hc (h _ rfl)
def G2{i j:Int}(h:K (.bl (decide (i<=j)))):W2 leI (.int i) (.int j) K:=gk trivial h
def G3{i j:Int}(h:K (.bl (decide (j<i)))):W2 gtI (.int i) (.int j) K:=gk trivial h
def G4{i j:Int}(h:K (.bl (decide (j<=i)))):W2 geI (.int i) (.int j) K:=gk trivial h
def G5{i:Int}(h:K (.int (-i))):W1 eF (.int i) K:=⟨_,rfl,h⟩
def G6{i j:Int}(h:K (.bl (decide (i=j)))):W2 eqD (.int i) (.int j) K:=⟨_,rfl,h⟩
def G7{i j:Int}(h:K (.bl (!decide (i=j)))):W2 neD (.int i) (.int j) K:=⟨_,rfl,h⟩
def nu{x d:D}{i:Int}(e:ixD x (.int i)=some d)(h:K d):W2 ixD x (.int i) K:=⟨_,e,h⟩
def gm{g:D->D->F_}{x y d:D}(e:g x y=some d)(h:K d):W2 g x y K:=⟨_,e,h⟩
def G8(h:WE a ρ (kT KB)):WB (eT a) ρ KB:=by obtain⟨d,e,k⟩:=h;cases d<;>first|exact k.elim|exact⟨_,by simp only[eT,e,z9h],k⟩
def G9(h:WE a ρ (kT KB)):WB (eY a) ρ KB:=by obtain⟨d,e,k⟩:=h;cases d<;>first|exact k.elim|exact⟨_,by simp only[eY,e,z9h,tru],k⟩
def Ga{b:Bool}(h:KB b):kT KB (.bl b):=h
def wE(h:WS g ρ Q):qU g Q (.nx ρ):=h
def Gb{d:D}(h:Q (.rt d)):qU g Q (.rt d):=h
def wF{d:D}(h:K d):wD K (.rt d):=h
def Gc(h:WB t ρ λb=>kIf b (WB t' ρ KB) (KB false)):WB (eZ t t') ρ KB:=by
 obtain⟨b,e,k1,k2⟩:=h;cases b with
 |false=>exact⟨false,by simp only[eZ,e,z9h];rfl,k2 rfl⟩
 |true=>obtain⟨b',e',k'⟩:=k1 rfl;exact⟨b',by simp only[eZ,e,z9h,if_pos,e'],k'⟩
def Gd(h:WB t ρ λb=>kIf b (KB true) (WB t' ρ KB)):WB (bOr t t') ρ KB:=by
 obtain⟨b,e,k1,k2⟩:=h;cases b with
 |true=>exact⟨true,by simp only[bOr,e,z9h,if_pos],k1 rfl⟩
 |false=>obtain⟨b',e',k'⟩:=k2 rfl;exact⟨b',by simp[bOr,e,e'],k'⟩
def Ge(h:WB t ρ λb=>KB (!b)):WB (fD t) ρ KB:=by obtain⟨b,e,k⟩:=h;exact⟨!b,by simp only[fD,e,z7c],k⟩
def Gf(h:WE a ρ (kT λx=>kIf x (WE b ρ K) (K (.bl false)))):WE (dh a b) ρ K:=by
 obtain⟨d,e,k⟩:=h;cases d with
 | bl x=>
   cases x with
   |true=>obtain⟨y,e',k'⟩:=k.1 rfl;exact⟨y,by simp only[dh,e,z9h,e'],k'⟩
   |false=>exact⟨.bl false,by simp only[dh,e,z9h],k.2 rfl⟩
 |_=>exact k.elim
def Gg(h:WE a ρ (kT λx=>K (.bl (!x)))):WE (mF a) ρ K:=by obtain⟨d,e,k⟩:=h;cases d<;>first|exact k.elim|exact⟨_,by simp only[mF,e,z9h],k⟩
def au{P:Prop}[Decidable P]{A B:Prop}(h1:P->A)(h2:¬P->B):kIf (decide P) A B:=⟨λe=>h1 (z6j e),λe=>h2 (of_decide_eq_false e)⟩
def gU{P:Prop}[Decidable P]{A B:Prop}(h1:¬P->A)(h2:P->B):kIf (!decide P) A B:=⟨λe=>h1 (by simpa using e),λe=>h2 (by simpa using e)⟩
def wG{A B:Prop}(h:A):kIf true A B:=⟨λ_=>h,λe=>nomatch e⟩
def wH{A B:Prop}(h:B):kIf false A B:=⟨λe=>(nomatch e),λ_=>h⟩
def Gh{A B:Prop}(h:A):kIf (!false) A B:=wG h
def Gi{A B:Prop}(h:B):kIf (!true) A B:=wH h
def Gj(h:WB t ρ λx=>kIf x (WE a ρ K) (WE b ρ K)):WE (eIf t a b) ρ K:=by
 obtain⟨x,e,k1,k2⟩:=h;cases x with
 |true=>obtain⟨d,e',k⟩:=k1 rfl;exact⟨d,by simp only[eIf,e,z9h,if_pos,e'],k⟩
 |false=>obtain⟨d,e',k⟩:=k2 rfl;exact⟨d,by simp[eIf,e,e'],k⟩
def Gm(h:KL []):WA aj ρ KL:=⟨[],rfl,h⟩
def Gn{r:FEs}(h:WE a ρ λd=>WA r ρ λds=>KL (d::ds)):WA (aa a r) ρ KL:=by obtain⟨d,e,ds,e',k⟩:=h;exact⟨_,by simp only[aa,e,e',z9h],k⟩
def Go{r:FEs}(h:WA r ρ λds=>ds.length<=1000/\K (.lst ds)):WE (c8 r) ρ K:=by obtain⟨ds,e,l,k⟩:=h;exact⟨_,by simp only[c8,e,z9h,if_pos l],k⟩
def Gp{r:FEs}(h:WA r ρ λds=>ds.length<=1000/\K (.tup ds)):WE (ip r) ρ K:=by obtain⟨ds,e,l,k⟩:=h;exact⟨_,by simp only[ip,e,z9h,if_pos l],k⟩
def Gq{F:E_->F_}{r:FEs}(h:WA r ρ λds=>WF F ds K):WE (eA F r) ρ K:=by obtain⟨ds,e,d,e',k⟩:=h;exact⟨d,by simp only[eA,e,z9h,e'],k⟩
def Gr{g:D->D->F_}(h:WE a ρ λx=>WE b ρ λy=>W2 g x y (kT λz=>kIf z (WE c ρ λw=>W2 g' y w K) (K (.bl false)))):WE (e3c g g' a b c) ρ K:=by
 obtain⟨x,e1,y,e2,d,e3,k⟩:=h;cases d with
 | bl z=>
   cases z with
   |true=>obtain⟨w,e4,d,e5,k⟩:=k.1 rfl;exact⟨d,by simp only[e3c,e1,e2,e3,e4,e5,z9h],k⟩
   |false=>exact⟨.bl false,by simp only[e3c,e1,e2,e3,z9h],k.2 rfl⟩
 |_=>exact k.elim
def Gs(h:Q (.nx ρ)):WS mL ρ Q:=⟨_,rfl,h⟩
def Gu(h:WS f ρ (qU g Q)):WS (bA f g) ρ Q:=by
 obtain⟨o,e,k⟩:=h;cases o with
 |nx ρ'=>obtain⟨o',e',k'⟩:=k;exact⟨o',by simp only[bA,e,z9h,e'],k'⟩
 |rt d=>exact⟨_,by simp only[bA,e,z9h],k⟩
 |bk d=>exact⟨_,by simp only[bA,e,z9h],k⟩
 |ct d=>exact⟨_,by simp only[bA,e,z9h],k⟩
def Gv(h:WB t ρ λx=>kIf x (WS f ρ Q) (WS g ρ Q)):WS (sIf t f g) ρ Q:=by
 obtain⟨x,e,k1,k2⟩:=h;cases x with
 |true=>obtain⟨d,e',k⟩:=k1 rfl;exact⟨d,by simp only[sIf,e,z9h,if_pos,e'],k⟩
 |false=>obtain⟨d,e',k⟩:=k2 rfl;exact⟨d,by simp[sIf,e,e'],k⟩
def Gw(h:WE a ρ λd=>Q (.rt d)):WS (br a) ρ Q:=by obtain⟨d,e,k⟩:=h;exact⟨_,by simp only[br,e,z7c],k⟩
def Gx(h:WE a ρ λd=>Q (.nx (ρ.set i (some d)))):WS (bV i a) ρ Q:=by obtain⟨d,e,k⟩:=h;exact⟨_,by simp only[bV,e,z7c],k⟩
def Gy(h:WE a ρ λd=>∃ds,d=.tup ds/\ds.length=is.length/\Q (.nx ((is.zip ds).foldl (λr p=>r.set p.1 (some p.2)) ρ))):WS (mR is a) ρ Q:=by obtain⟨d,e,ds,rfl,l,k⟩:=h;exact⟨_,by simp only[mR,e,z9h,if_pos l],k⟩
def Gz(hv:a5 i ρ=some (.lst ds))(hl:ds.length<100000)(h:WE a ρ λd=>Q (.nx (ρ.set i (some (.lst (ds++[d])))))):WS (kU i a) ρ Q:=by obtain⟨d,e,k⟩:=h;exact⟨_,by simp only[kU,hv,e,z9h,if_pos hl],k⟩
def GA(h:KO none):WO eJ ρ KO:=⟨_,rfl,h⟩
def GB(h:WE a ρ λd=>∃i,d=.int i/\KO (some i)):WO (dF a) ρ KO:=by obtain⟨d,e,i,rfl,k⟩:=h;exact⟨_,by simp only[dF,e,z9h],k⟩
def GC{lo hi:FO}(h:WE a ρ λx=>WO lo ρ λl=>WO hi ρ λu=>∃ds,cA x=some ds/\K (.lst (dO ds l u))):WE (eSl a lo hi) ρ K:=by obtain⟨x,e,l,e1,u,e2,ds,h1,k⟩:=h;obtain⟨h1,h2⟩:=l8 h1;exact⟨_,by simp[eSl,e,e1,e2,h1,h2],k⟩
def bZ{body:FS}(hl:ds.length=np)(h:WS body (ds.map some++List.replicate (n-np) none) (wD K)):WF (mkF fr np n body) ds K:=by
 obtain⟨o,e,k⟩:=h;cases o with
 |rt d=>exact⟨d,by simp only[mkF,if_pos hl,e,z9h],k⟩
 |_=>exact k.elim
def cC{F:E_->F_}(h:WF F ds λd=>aS d=true/\K d):WF (scF F) ds K:=by obtain⟨d,e,s,k⟩:=h;exact⟨d,by simp only[scF,e,z9h,if_pos s],k⟩
end
def nv(go:ah->Prop)(Q:Out->Prop):Out->Prop
 |.nx ρ=>go ρ
 |.ct ρ=>go ρ
 |.bk ρ=>Q (.nx ρ)
 |.rt d=>Q (.rt d)
theorem qV{body:D->FS}{Q:Out->Prop}(I:E_->ah->Prop)(he:∀ρ,I [] ρ->Q (.nx ρ))(hs:∀x r ρ,I (x::r) ρ->WS (body x) ρ (nv (I r) Q)):
  ∀(ds:E_) (ρ:ah),I ds ρ->WS (bW body ds) ρ Q
 |[],ρ,h=>⟨_,rfl,he ρ h⟩
 | x::r,ρ,h=>by
   obtain⟨o,e,k⟩:=hs x r ρ h;cases o with
   |nx ρ'=>obtain⟨o',e',k'⟩:=qV I he hs r ρ' k;exact⟨o',by simp only[bW,e,z9h,e'],k'⟩
   |ct ρ'=>obtain⟨o',e',k'⟩:=qV I he hs r ρ' k;exact⟨o',by simp only[bW,e,z9h,e'],k'⟩
   |bk ρ'=>exact⟨_,by simp only[bW,e,z9h],k⟩
   |rt d=>exact⟨_,by simp only[bW,e,z9h],k⟩
def GD{α:Type}{body:D->FS}{Q:Out->Prop}(enc:α->D)(xs:List α)(I:Nat->ah->Prop)(h0:I 0 ρ)(he:∀ρ,I xs.length ρ->Q (.nx ρ))(hs:∀(k:Nat) (h:k<xs.length) (ρ:ah),I k ρ->WS (body (enc xs[k])) ρ (nv (I (k+1)) Q)):WS (bW body (xs.map enc)) ρ Q:=by
 refine qV (λr ρ=>∃k,k<=xs.length/\r=(xs.drop k).map enc/\I k ρ) ?_ ?_ _ ρ ⟨0,z7h _,by simp,h0⟩
 ·rintro ρ ⟨k,hk,e,i⟩
  have:k=xs.length:=by have:=z8u List.length e;simp at this;ext
  subst this;exact he ρ i
 ·rintro x r ρ ⟨k,hk,e,i⟩
  have hk':k<xs.length:=by have:=z8u List.length e;simp at this;ext
  rw[z8c hk',z9p]at e;injection e with e1 e2
  subst e1;refine FQ (hs k hk' ρ i) λo=>?_
  cases o with
  |nx ρ'=>exact λh=>⟨k+1,hk',e2,h⟩
  |ct ρ'=>exact λh=>⟨k+1,hk',e2,h⟩
  |bk ρ'=>exact λh=>h
  |rt d=>exact λh=>h
def nw{α:Type}{t:Nat}{tb:FS}{Q:Out->Prop}(enc:α->D)(xs:List α)(I:Nat->ah->Prop)(h0:I 0 ρ)(he:∀ρ,I xs.length ρ->Q (.nx ρ))(hs:∀(k:Nat) (h:k<xs.length) (ρ:ah),I k ρ->WS tb (ρ.set t (some (enc xs[k]))) (nv (I (k+1)) Q)):WS (bW (λx ρ=>tb (ρ.set t (some x))) (xs.map enc)) ρ Q:=
 GD enc xs I h0 he hs
def wI{go:ah->Prop}{Q:Out->Prop}(h:go ρ):nv go Q (.nx ρ):=h
def GE{t:Nat}{it:FE}{tb:FS}{Q:Out->Prop}(h:WE it ρ λd=>∃ds,cA d=some ds/\WS (bW (λx ρ=>tb (ρ.set t (some x))) ds) ρ Q):WS (mS t it tb) ρ Q:=by obtain⟨d,e,ds,h1,o,e',k⟩:=h;obtain⟨h1,h2⟩:=l8 h1;exact⟨o,by simp[mS,e,h1,h2,e'],k⟩
noncomputable def wJ(n:Nat):E_:=(List.range n).map λk=>.int (k:Nat)
def wK(n:Nat):d9 0 n=wJ n:=by unfold d9 wJ;congr 1;funext k;rw[Int.zero_add]
def GF{t:Nat}{tb:FS}{Q:Out->Prop}(h:WA as ρ λds=>∃j,ds=[.int j]/\okR j/\WS (bW (λx ρ=>tb (ρ.set t (some x))) ((List.range j.toNat).map λk=>.int (k:Nat))) ρ Q):WS (kX t as tb) ρ Q:=by obtain⟨ds,e,j,rfl,h1,o,e',k⟩:=h;exact⟨o,by simp only[kX,e,z9h,if_pos h1,wK];exact e',k⟩
def GG{t:Nat}{it:FE}{tb:FS}{Q:Out->Prop}(h:WE it ρ λd=>∃ds,cA d=some ds/\WS (bW (λx ρ=>tb (ρ.set t (some x))) ds.reverse) ρ Q):WS (nj t it tb) ρ Q:=by obtain⟨d,e,ds,h1,o,e',k⟩:=h;exact⟨o,by simp[nj,e,h1,e'],k⟩
def WI(f:FEs)(ρ:ah)(K:E_->Prop):Prop:=∃d,f ρ=some d/\K d
def GH{a:FE}{K:E_->Prop}(h:WE a ρ λd=>∃ds,cA d=some ds/\K ds):WI (dY a) ρ K:=by obtain⟨d,e,ds,h1,k⟩:=h;obtain⟨h1,h2⟩:=l8 h1;exact⟨ds,by simp[dY,e,h1,h2],k⟩
def GI{K:E_->Prop}(h:WA as ρ λds=>∃j,ds=[.int j]/\okR j/\K ((List.range j.toNat).map λk=>.int (k:Nat))):WI (iR1 as) ρ K:=by obtain⟨ds,e,j,rfl,h1,k⟩:=h;exact⟨_,by simp only[iR1,e,z9h,if_pos h1,wK];rfl,k⟩
def GJ{a:FE}{K:E_->Prop}(h:WE a ρ λd=>∃ds,cA d=some ds/\K (gR ds)):WI (l3 a) ρ K:=by obtain⟨d,e,ds,h1,k⟩:=h;exact⟨_,by simp only[l3,e,h1,z9h],k⟩
def GK{a b:FE}{K:E_->Prop}(h:WE a ρ λd=>WE b ρ λe=>∃ds,cA d=some ds/\∃es,cA e=some es/\K (gS ds es)):WI (l4 a b) ρ K:=by obtain⟨d,e,d',e',ds,h1,es,h2,k⟩:=h;exact⟨_,by simp only[l4,e,e',h1,h2,z9h],k⟩
theorem wL{α:Type}{g:D->Option F_}(enc:α->D)(f:α->D):∀(xs:List α),(∀x∈xs,g (enc x)=some (some (f x)))->gj g (xs.map enc)=some (xs.map f)
 |[],_=>rfl
 | x::r,h=>by
   have h1:=h x (z9a ..);have h2:=wL enc f r λy hy=>h y (z9d _ hy)
   simp only[z9p,gj,h1,h2,z9h]
def fI{α:Type}{un:D->Option E_}{K:D->Prop}(h:WI fi ρ λds=>∃(enc:α->D) (f:α->D) (xs:List α),ds=xs.map enc/\xs.length<100000/\(∀x∈xs,∃us,un (enc x)=some us/\WE fe (bJ (bt nown J3 ρ) is us) λd=>d=f x)/\K (.lst (xs.map f))):
  WE (bR nown J3 is un fi bX fe) ρ K:=by
 obtain⟨ds,e,enc,f,xs,rfl,hl,ht,k⟩:=h;refine⟨_,?_,k⟩;have:gj (iC is un bX fe (bt nown J3 ρ)) (xs.map enc)=some (xs.map f):=wL enc f xs λx hx=>by obtain⟨us,h1,d,h2,rfl⟩:=ht x hx;simp[iC,h1,bX,h2]
 simp only[bR,e,z9h,z9c,if_pos hl,this,z7c]
def l9{i:Int}(h1:-(2 ^ 1000:Int)<i)(h2:i<2 ^ 1000):mid i:=by
 unfold mid;have:i.natAbs<2 ^ 1000:=by ext
 by_cases z:i.natAbs=0
 ·rw[z];decide
 ·exact Nat.lt_trans ((Nat.log2_lt z).mpr this) (by decide)
def qW{i j:Int}(h1:-18446744073709551616<i)(h2:i<18446744073709551616):okMul i j:=.inl ⟨h1,h2⟩
def GL{i j:Int}(h1:-18446744073709551616<j)(h2:j<18446744073709551616):okMul i j:=.inr (.inl ⟨h1,h2⟩)
def wM{i j:Int}(h1:mid i)(h2:mid j):okMul i j:=.inr (.inr ⟨h1,h2⟩)
def GM{i j:Int}(h1:0<j)(h2:mid j):kL i j:=⟨h1,h2⟩
def GN{i j:Int}(h1:0<j):mC i j:=h1
def GO{i j:Int}(h1:0<=j)(h2:j<=1000000)(h3:-18446744073709551616<i)(h4:i<18446744073709551616):kM i j:=⟨⟨h1,h2⟩,h3,h4⟩
section
variable {K:D->Prop}
def qX{xs:E_}{i:Int}(h0:0<=i)(h1:i<xs.length):ixD (.lst xs) (.int i)=some (xs[i.toNat]'(by ext)):=by simp only[ixD,items,z9h,atI,ixN,if_pos h0,if_pos h1];exact z9o ∅
def GP{xs:E_}{i:Int}{P:D->Prop}(h0:0<=i)(h1:i<xs.length)(hP:∀v∈xs,P v)(h:∀v,P v->K v):W2 ixD (.lst xs) (.int i) K:=
 ⟨_,qX h0 h1,h _ (hP _ (z9u _))⟩
def AllI(lo hi:Int):E_->Prop
 |[]=>True
 |.int i::r=>(lo<=i/\i<=hi)/\AllI lo hi r
 |_::_=>False
theorem AllI.mem{lo hi:Int}:∀{xs:E_},AllI lo hi xs->∀v∈xs,∃i,v=.int i/\lo<=i/\i<=hi
 |[],_,_,h=>nomatch h
 | x::r,h,v,hv=>by
   set_option tactic.hygienic true in cases x<;>first|exact h.elim|skip
   rename_i i;rcases z9k.mp hv with rfl|hv
   ·exact⟨i,rfl,h.1⟩
   ·exact AllI.mem h.2 v hv
def GQ(lo hi:Int){xs:E_}{i:Int}(h0:0<=i)(h1:i<xs.length)(hP:AllI lo hi xs)(h:∀v:Int,lo<=v->v<=hi->K (.int v)):W2 ixD (.lst xs) (.int i) K:=
 GP (P:=λv=>∃i,v=.int i/\lo<=i/\i<=hi) h0 h1 hP.mem λv y4=>by obtain⟨i,e,a,b⟩:=y4;exact e▸h i a b
def GR{xs ys:E_}(hl:xs.length+ys.length<=100000)(h:K (.lst (xs++ys))):W2 dP (.lst xs) (.lst ys) K:=⟨_,by simp only[dP,if_pos hl],h⟩
def GS{i:Int}(h:K (.bl true)):W1 (iD "int") (.int i) K:=⟨_,rfl,h⟩
def GT{i:Int}(h:K (.bl false)):W1 (iD "bool") (.int i) K:=⟨_,rfl,h⟩
def wN(n d k:Nat):HT.sIx n d (some (k:Int))=min k n:=by show(if(k:Int)<0 then((k:Int)+(n:Int)).toNat else min ((k:Int)).toNat n)=_;rw[if_neg ∅];rfl
def wO(n d:Nat):HT.sIx n d none=d:=rfl
def gp{α:Type}(xs:List α)(n:Nat)(d:α)(h:n<xs.length):xs.getD n d=xs[n]:=by rw[z8v,z9o h];rfl
noncomputable abbrev DI(xs:z9):D:=.lst (xs.map .int)
abbrev DII(xs:List z9):D:=.lst (xs.map DI)
def GU(ns:z9):iw (ns.map D.int)=some ns:=by
 induction ns with
 |nil=>rfl
 |cons n r ih=>simp only[z9p,iw,ih,z7c]
def GV{xs:z9}(h:K (.int xs.sum)):WF (ar f9) [DI xs] K:=⟨_,by simp[ar,f9,di,items,GU],h⟩
def GW{xs:E_}(h:K (.int (xs.length:Nat))):WF (ar bC) [.lst xs] K:=⟨_,rfl,h⟩
def GX{xs:z9}(h:K (.int (xs.length:Nat))):WF (ar bC) [.scr xs] K:=⟨_,by simp[ar,bC,items],h⟩
def GY{i j:Int}(h:K (.int (max i j))):WF (dj ff) [.int i,.int j] K:=by
 refine⟨_,rfl,?_⟩;have:(if j > i then j else i)=max i j:=by ext
 rw[this];exact h
def GZ{i j:Int}(h:K (.int (min i j))):WF (dj iy) [.int i,.int j] K:=by
 refine⟨_,rfl,?_⟩;have:(if j<i then j else i)=min i j:=by ext
 rw[this];exact h
def Ha{xs:E_}(h:K (.lst xs)):W1 gh (.lst xs) K:=⟨_,rfl,h⟩
def Hb{xs:E_}(h:K (.lst xs.reverse)):W1 qK (.lst xs) K:=⟨_,rfl,h⟩
def dH{xs:z9}{i:Int}(h0:0<=i)(h1:i<xs.length)(h:K (.int (xs.getD i.toNat 0))):W2 ixD (DI xs) (.int i) K:=by refine⟨_,qX h0 (by simpa using h1),?_⟩;rw[gp _ _ _ ∅]at h;simpa using h
def lf{xs:List z9}{i:Int}(h0:0<=i)(h1:i<xs.length)(h:K (DI (xs.getD i.toNat []))):W2 ixD (DII xs) (.int i) K:=by refine⟨_,qX h0 (by simpa using h1),?_⟩;rw[gp _ _ _ ∅]at h;simpa using h
def wP{xs:E_}{k:Nat}(h0:0<k)(h1:k<=xs.length):ixD (.lst xs) (.int (-(k:Int)))=some (xs[xs.length-k]'(by ext)):=by simp only[ixD,items,z9h,atI,ixN,if_neg (show ¬(0:Int)<=-(k:Int)by ext),if_pos (show -(xs.length:Int)<=-(k:Int)by ext)];rw[show(-(k:Int)+xs.length).toNat=xs.length-k by ext];exact z9o ∅
def Hc{xs:z9}(h1:xs≠[])(h:K (.int (xs.getLast h1))):W2 ixD (DI xs) (.int (-1)) K:=by
 have hl:1<=(xs.map D.int).length:=by cases xs<;>simp at h1 ⊢
 refine⟨_,wP (k:=1) ∅ hl,?_⟩;rw[List.getLast_eq_getElem]at h;simpa using h
end
theorem lh:∀{l:z9},(∀x∈l,0<=x)->0<=l.sum
 |[],_=>by simp
 | x::l,h=>by
   have h1:=h x (z9a ..);have h2:=lh λy hy=>h y (z9d x hy)
   rw[z7e];ext
theorem qY{b:Int}:∀{l:z9},(∀x∈l,x<=b)->l.sum<=l.length*b
 |[],_=>by simp
 | x::l,h=>by
   have h1:=h x (z9a ..);have h2:=qY λy hy=>h y (z9d x hy)
   rw[z7e,z9b];have:((l.length+1:Nat):Int)*b=l.length*b+b:=by rw[Int.natCast_add,Int.add_mul];ext
   ext
def He(xs:z9)(x:Int):D.lst (xs.map .int++[.int x])=DI (xs++[x]):=by simp[DI]
def wQ{α:Type}(enc:α->D)(xs:List α):gR (xs.map enc)=xs.zipIdx.map λp=>.tup [.int (p.2:Nat),enc p.1]:=by unfold gR;rw[List.zipIdx_map,z7k];rfl
def wR{α β:Type}(enc:α->D)(enc':β->D)(xs:List α)(ys:List β):gS (xs.map enc) (ys.map enc')=(xs.zip ys).map λp=>.tup [enc p.1,enc' p.2]:=by unfold gS;rw[List.zip_map,z7k];rfl
def li{x:Int}(h:0<=x)(n:Nat):0<=x ^ n:=by
 induction n with
 |zero=>rw[z4t];ext
 |succ n ih=>rw[z6b];exact z7w ih h
def gW{x B:Int}(N:Nat)(h0:0<=x)(h1:x<=B)(hB:1<=B)(hn:n<=N):x ^ n<=B ^ N:=by
 induction N generalizing n with
 | zero => have:n=0:=by ext
           subst this;rw[z4t,z4t];ext
 | succ N ih=>
   have hp:=li (x:=B) ∅ N;cases n with
   | zero=>
     have:=ih (n:=0) ∅;rw[z4t]at this ⊢;rw[z6b]
     calc (1:Int)<=B ^ N:=this
      _=B ^ N*1:=by ext
      _<=B ^ N*B:=z7n hB hp
   |succ n=>rw[z6b,z6b];exact z7s (ih ∅) h1 h0 hp
def qZ{α:Type}{un:D->Option E_}{K:D->Prop}(h:WI fi ρ λds=>∃(enc:α->D) (f:α->Int) (xs:List α),ds=xs.map enc/\xs.length<100000/\(∀x∈xs,∃us,un (enc x)=some us/\WE fe (bJ (bt nown J3 ρ) is us) λd=>d=.int (f x))/\K (DI (xs.map f))):
  WE (bR nown J3 is un fi bX fe) ρ K:=by
 obtain⟨ds,e,enc,f,xs,h1,h2,h3,k⟩:=h;refine fI (α:=α) ⟨ds,e,enc,λx=>.int (f x),xs,h1,h2,h3,?_⟩
 rwa [DI,z7k]at k
theorem wS{α:Type}{g:D->Option F_}(enc:α->D)(P:α->Prop):∀(xs:List α),(∀x∈xs,∃b,g (enc x)=some (some (.bl b))/\(b=true↔P x))->∃bs:p_,gj g (xs.map enc)=some (bs.map .bl)/\(bs.all id=true↔∀x∈xs,P x)
 |[],_=>⟨[],rfl,by simp⟩
 | x::r,h=>by
   obtain⟨b,h1,h3⟩:=h x (z9a ..);obtain⟨bs,h2,hb⟩:=wS enc P r λy hy=>h y (z9d _ hy)
   refine⟨b::bs,by simp only[z9p,gj,h1,h2,z9h],?_⟩;rw[z7v,z8m,hb,List.forall_mem_cons];exact and_congr h3 Iff.rfl
def Hf(bs:p_):iE (bs.map D.bl)=some bs:=by
 induction bs with
 |nil=>rfl
 |cons n r ih=>simp only[z9p,iE,ih,z7c]
def ny{α:Type}(P:α->Prop){un:D->Option E_}{K:D->Prop}(h:WI fi ρ λds=>∃(enc:α->D) (xs:List α),ds=xs.map enc/\xs.length<100000/\(∀x∈xs,∃us,un (enc x)=some us/\WE fe (bJ (bt nown J3 ρ) is us) λd=>∃b,d=.bl b/\(b=true↔P x))/\∀bs:p_,(bs.all id=true↔∀x∈xs,P x)->K (.lst (bs.map .bl))):
  WE (bR nown J3 is un fi bX fe) ρ K:=by
 obtain⟨ds,e,enc,xs,rfl,hl,ht,k⟩:=h;obtain⟨bs,h1,h2⟩:=wS (g:=iC is un bX fe (bt nown J3 ρ)) enc P xs λx hx=>by obtain⟨us,h1,d,h2,b,rfl,h3⟩:=ht x hx;exact⟨b,by simp[iC,h1,bX,h2],h3⟩
 exact⟨_,by simp only[bR,e,z9h,z9c,if_pos hl,h1,z7c],k bs h2⟩
def Hg{bs:p_}{K:D->Prop}(h:K (.bl (bs.all id))):WF (ar (gP λbs=>bs.all id)) [.lst (bs.map .bl)] K:=⟨_,by simp only[ar,gP,Hf,z9h],h⟩
def wT{P:Prop}{b:Bool}(e:b=true↔P){A B:Prop}(h1:P->A)(h2:¬P->B):kIf b A B:=⟨λh=>h1 (e.mp h),λh=>h2 λp=>by rw[e.mpr p]at h;cases h⟩
def Hh(xs:z9)(x:Int):xs.map D.int++[.int x]=(xs++[x]).map D.int:=by simp
def Hi{t:Nat}{tb:FS}{Q:Out->Prop}(h:WA as ρ λds=>∃i j,ds=[.int i,.int j,.int (-1)]/\okR i/\okR j/\WS (bW (λx ρ=>tb (ρ.set t (some x))) ((List.range (i-j).toNat).map λk=>.int (i-(k:Nat)))) ρ Q):WS (nk t as tb) ρ Q:=by obtain⟨ds,e,i,j,rfl,h1,h2,o,e',k⟩:=h;refine⟨o,?_,k⟩;unfold nk;rw[e];show(if okR i/\okR j/\(-1:Int) = -1 then _ else none)=_;rw[if_pos ⟨h1,h2,rfl⟩];exact e'
def Hj{xs:List z9}{K:D->Prop}(h1:xs≠[])(h:K (DI (xs.getLast h1))):W2 ixD (DII xs) (.int (-1)) K:=by
 have hl:1<=(xs.map DI).length:=by cases xs<;>simp at h1 ⊢
 refine⟨_,wP (k:=1) ∅ hl,?_⟩;rw[List.getLast_eq_getElem]at h;simpa using h
theorem r8(k:Nat):∀xs:E_,(∀x∈xs,bo k x x=true)->((xs.zip xs).all λp=>bo k p.1 p.2)=true
 |[],_=>rfl
 |x::xs,h=>by rw[z7j,z7v,h x z9a,r8 k xs λy hy=>h y (z9d _ hy)];rfl
theorem rb:∀(k:Nat) (d:D),bE k d=true->bo k d d=true
 |k,.non,_=>by cases k<;>rfl
 |k,.bl b,_=>by cases k<;>cases b<;>rfl
 |k,.int i,_=>by cases k<;>simp[bo,dm]
 |k,.str x,_=>by cases k<;>simp[bo,dm]
 |0,.lst _,h=>by simp[bE]at h
 |0,.tup _,h=>by simp[bE]at h
 |k,.scr _,h=>by cases k<;>simp[bE]at h
 |k,.dct _ _,h=>by cases k<;>simp[bE]at h
 |k,.ptr _,h=>by cases k<;>simp[bE]at h
 |k+1,.lst xs,h=>by rw[bE,z9t]at h;rw[bo,r8 k xs λx hx=>rb k x (h x hx)];simp
 |k+1,.tup xs,h=>by rw[bE,z9t]at h;rw[bo,r8 k xs λx hx=>rb k x (h x hx)];simp
def wU(xs:z9):(xs.map D.int).all aS=true:=by rw[List.all_map,z9t];intro _ _;rfl
def Hk(xs:List z9):(xs.map DI).all qT=true:=by rw[List.all_map,z9t];intro x _;exact wU x
def Hl{f:FE}{Q:Out->Prop}(hv:a5 i ρ=some (.lst ds))(hl:ds.length<100000)(h:WE f ρ λd=>∃xs:z9,d=DI xs/\Q (.nx (ρ.set i (some (.lst (ds++[DI xs])))))):WS (l6 i f) ρ Q:=by obtain⟨d,e1,xs,rfl,q⟩:=h;exact⟨_,by simp only[l6,hv,e1,z9h,if_pos (And.intro (wU xs) hl)],q⟩
def Hm{Q:Out->Prop}{xs:List z9}(hv:a5 i ρ=some (DII xs))(h:Q (.rt (DII xs.reverse))):WS (l7 i) ρ Q:=by refine⟨.rt (.lst (xs.map DI).reverse),by simp only[l7,hv,z9h,if_pos (Hk xs)],?_⟩;rw[<- z5j];exact h
section
variable {K:D->Prop}{a:FE}
def Hn(h:a ρ=some (.lst ds))(k:K (.lst ds)):WE (eL a) ρ K:=⟨_,by simp only[eL,h,z9h],k⟩
def Ho(h:a5 i ρ=some (.lst ds))(k:K (.lst ds)):WE (eL (a5 i)) ρ K:=Hn h k
end
inductive Cell where
 |lst (ds:E_)
 |dic (ns:j_) (ds:E_)
 |ins (C:Nat) (ns:j_) (ds:E_)
 |dcT (fz:Bool) (ps:List ((Int×Int)×Int))
 |dcL (fz:Bool) (ps:List (z9×Int))
 |exn (a:Nat) (x:Str)
abbrev Sto:=Nat->Option Cell
noncomputable def aK(M:Sto)(a:Nat)(c:Cell):Sto:=λb=>if b=a then some c else M b
noncomputable def dQ(M:Sto)(a:Nat):Sto:=λb=>if b=a then none else M b
def aB{M:Sto}{a:Nat}{c:Cell}:aK M a c a=some c:=by simp[aK]
def aE{M:Sto}{a b:Nat}{c:Cell}(h:b≠a):aK M a c b=M b:=by simp[aK,h]
def dR{M:Sto}{a:Nat}{c c':Cell}:aK (aK M a c) a c'=aK M a c':=by funext b;unfold aK;split<;>rfl
def Hq{M:Sto}{a:Nat}{c:Cell}(h:M a=some c):aK M a c=M:=by
 funext b;by_cases e:b=a
 ·subst e;rw[aB,h]
 ·rw[aE e]
def rf{M:Sto}{a:Nat}:dQ M a a=none:=by simp[dQ]
def rg{M:Sto}{a b:Nat}(h:b≠a):dQ M a b=M b:=by simp[dQ,h]
abbrev QE:=D->Sto->Prop
abbrev NTE:=ah->Sto->QE->Prop
abbrev NTB:=ah->Sto->(Bool->Sto->Prop)->Prop
abbrev NTA:=ah->Sto->(E_->Sto->Prop)->Prop
abbrev NTF:=E_->Sto->QE->Prop
structure EndN where
 nx:ah->Sto->Prop
 rt:D->Sto->Prop
 bk:ah->Sto->Prop:=λ_ _=>False
 ct:ah->Sto->Prop:=λ_ _=>False
 ex:Str->Sto->Prop:=λ_ _=>False
abbrev NTS:=EndN->ah->Sto->Prop
def nP(f:FE):NTE:=λρ M Q=>WE f ρ λd=>Q d M
def nPB(f:ah->B_):NTB:=λρ M Q=>WB f ρ λb=>Q b M
def n2(g:D->D->F_)(ta tb:NTE):NTE:=λρ M Q=>ta ρ M λx M1=>tb ρ M1 λy M2=>W2 g x y λd=>Q d M2
def n1(g:D->F_)(ta:NTE):NTE:=λρ M Q=>ta ρ M λx M1=>W1 g x λd=>Q d M1
def ba(ta:NTE):NTB:=λρ M Q=>ta ρ M λx M1=>kT (λb=>Q b M1) x
def fJ(ta:NTE):NTB:=λρ M Q=>ta ρ M λx M1=>∃b,tru x=some b/\Q b M1
def ll(ta tb:NTB):NTB:=λρ M Q=>ta ρ M λb M1=>kIf b (tb ρ M1 Q) (Q false M1)
def nOr(ta tb:NTB):NTB:=λρ M Q=>ta ρ M λb M1=>kIf b (Q true M1) (tb ρ M1 Q)
def gq(ta:NTB):NTB:=λρ M Q=>ta ρ M λb M1=>Q (!b) M1
def nIf(tc:NTB)(ta tb:NTE):NTE:=λρ M Q=>tc ρ M λb M1=>kIf b (ta ρ M1 Q) (tb ρ M1 Q)
def lm(ta tb:NTE):NTE:=λρ M Q=>ta ρ M λx M1=>kT (λb=>kIf b (tb ρ M1 Q) (Q (.bl false) M1)) x
def ag:NTA:=λ_ M Q=>Q [] M
def a8(ta:NTE)(tr:NTA):NTA:=λρ M Q=>ta ρ M λx M1=>tr ρ M1 λxs M2=>Q (x::xs) M2
def gX(ta:NTA):NTE:=λρ M Q=>ta ρ M λds M1=>ds.length<=1000/\Q (.lst ds) M1
def jv(ta:NTA):NTE:=λρ M Q=>ta ρ M λds M1=>ds.length<=1000/\Q (.tup ds) M1
def jw(ta:NTA):NTE:=λρ M Q=>ta ρ M λds M1=>ds.length<=1000/\∀a,M1 a=none->Q (.ptr a) (aK M1 a (.lst ds))
def fk(f:FE):NTE:=λρ M Q=>WE f ρ λd=>∃ds,d=.lst ds/\∀a,M a=none->Q (.ptr a) (aK M a (.lst ds))
def rh(ns:j_)(as:FEs):NTE:=λρ M Q=>WA as ρ λds=>ds.length=ns.length/\∀a,M a=none->Q (.ptr a) (aK M a (.dic ns ds))
def c4(ta tb:NTE):NTE:=λρ M Q=>ta ρ M λx M1=>tb ρ M1 λy M2=>∃a ds i d,x=.ptr a/\M2 a=some (.lst ds)/\y=.int i/\atI ds i=some d/\Q d M2
def nDg(ns:j_)(i:Nat)(ta:NTE):NTE:=λρ M Q=>ta ρ M λx M1=>∃a ds d,x=.ptr a/\M1 a=some (.dic ns ds)/\ds[i]?=some d/\Q d M1
def aN(C:Nat)(ns:j_)(i:Nat)(ta:NTE):NTE:=λρ M Q=>ta ρ M λx M1=>∃a ds d,x=.ptr a/\M1 a=some (.ins C ns ds)/\ds[i]?=some d/\Q d M1
def aF(T:NTF)(ta:NTA):NTE:=λρ M Q=>ta ρ M λds M1=>T ds M1 Q
noncomputable def vw1(M:Sto):D->D
 | .ptr a=>match M a with
   |some (.lst ds)=>.lst ds
   |_=>.ptr a
 |d=>d
def ci(G:E_->F_)(ta:NTA):NTE:=λρ M Q=>ta ρ M λds M1=>WF G (ds.map (vw1 M1)) λd=>aS d=true/\Q d M1
def jx(G:E_->F_)(ta:NTA):NTE:=λρ M Q=>ta ρ M λds M1=>WF G ds λd=>Q d M1
def bG(C:Nat)(ns:j_)(T:NTF)(ta:NTE)(tas:NTA):NTE:=λρ M Q=>ta ρ M λx M1=>∃a ds0,x=.ptr a/\M1 a=some (.ins C ns ds0)/\tas ρ M1 λds M2=>T (x::ds) M2 Q
def rj(C:Nat)(T:NTF)(tas:NTA):NTE:=λρ M Q=>tas ρ M λds M1=>∀a,M1 a=none->T (.ptr a::ds) (aK M1 a (.ins C [] [])) λd M2=>d=.non/\Q (.ptr a) M2
def sN:NTS:=λE ρ M=>E.nx ρ M
def ai(t u:NTS):NTS:=λE ρ M=>t {E with nx:=λρ M=>u E ρ M} ρ M
def aG(tc:NTB)(t u:NTS):NTS:=λE ρ M=>tc ρ M λb M1=>kIf b (t E ρ M1) (u E ρ M1)
def wV:NTS:=λ_ _ _=>False
def aJ(ta:NTE):NTS:=λE ρ M=>ta ρ M E.rt
def nz(i:Nat):NTS:=λE ρ M=>∃a ds,a5 i ρ=some (.ptr a)/\M a=some (.lst ds)/\E.rt (.lst ds) (dQ M a)
def aI(i:Nat)(ta:NTE):NTS:=λE ρ M=>ta ρ M λd M1=>E.nx (ρ.set i (some d)) M1
def rl(is:z8)(ta:NTE):NTS:=λE ρ M=>ta ρ M λd M1=>∃ds,d=.tup ds/\ds.length=is.length/\E.nx ((is.zip ds).foldl (λr p=>r.set p.1 (some p.2)) ρ) M1
def lq(ns:j_)(i:Nat)(ta tv:NTE):NTS:=λE ρ M=>tv ρ M λv M1=>ta ρ M1 λx M2=>∃a ds,x=.ptr a/\M2 a=some (.dic ns ds)/\E.nx ρ (aK M2 a (.dic ns (ds.set i v)))
def gY(C:Nat)(ns:j_)(i:Nat)(ta tv:NTE):NTS:=λE ρ M=>tv ρ M λv M1=>ta ρ M1 λx M2=>∃a ds,x=.ptr a/\M2 a=some (.ins C ns ds)/\E.nx ρ (aK M2 a (.ins C ns (ds.set i v)))
def db(C:Nat)(ns:j_)(f:Str)(ta tv:NTE):NTS:=λE ρ M=>tv ρ M λv M1=>ta ρ M1 λx M2=>∃a ds,x=.ptr a/\M2 a=some (.ins C ns ds)/\E.nx ρ (aK M2 a (.ins C (ns++[f]) (ds++[v])))
def gZ(ta tv:NTE):NTS:=λE ρ M=>ta ρ M λx M1=>∃a ds0,x=.ptr a/\M1 a=some (.lst ds0)/\tv ρ M1 λv M2=>∃ds,M2 a=some (.lst ds)/\ds.length<100000/\E.nx ρ (aK M2 a (.lst (ds++[v])))
def lr(ta ti tv:NTE):NTS:=λE ρ M=>tv ρ M λv M1=>ta ρ M1 λx M2=>ti ρ M2 λy M3=>∃a ds k j,x=.ptr a/\M3 a=some (.lst ds)/\y=.int k/\ixN ds.length k=some j/\E.nx ρ (aK M3 a (.lst (ds.set j v)))
def ce(body:D->NTS):E_->NTS
 |[],E,ρ,M=>E.nx ρ M
 |x::r,E,ρ,M=>body x {E with nx:=λρ M=>ce body r E ρ M,ct:=λρ M=>ce body r E ρ M,bk:=E.nx} ρ M
def nA(t:Nat)(it:NTE)(tb:NTS):NTS:=λE ρ M=>it ρ M λd M1=>∃ds,cA d=some ds/\ce (λx E ρ M=>tb E (ρ.set t (some x)) M) ds E ρ M1
def nB(t:Nat)(ta:NTA)(tb:NTS):NTS:=λE ρ M=>ta ρ M λds M1=>∃j,ds=[.int j]/\okR j/\ce (λx E ρ M=>tb E (ρ.set t (some x)) M) ((List.range j.toNat).map λk=>.int (k:Nat)) E ρ M1
def nC(t:Nat)(ta:NTA)(tb:NTS):NTS:=λE ρ M=>ta ρ M λds M1=>∃i j,ds=[.int i,.int j]/\okR i/\okR j/\ce (λx E ρ M=>tb E (ρ.set t (some x)) M) ((List.range (j-i).toNat).map λk=>.int (i+(k:Nat))) E ρ M1
def mkN(np n:Nat)(t:NTS):NTF:=λds M Q=>ds.length=np/\t {nx:=λ_ M'=>Q .non M',rt:=Q} (ds.map some++List.replicate (n-np) none) M
def cT(nown:Nat)(te:NTE)(ρb:ah):E_->E_->Sto->(E_->Sto->Prop)->Prop
 |[],done,M,Q=>Q done M
 |x::r,done,M,Q=>te (ρb.set 0 (some x)) M λd M1=>cT nown te ρb r (done++[d]) M1 Q
def jz(J3:z8)(ti:NTA)(te:NTE):NTE:=λρ M Q=>ti ρ M λds M1=>∃j,ds=[.int j]/\okR j/\j<1000/\cT 1 te (bt 1 J3 ρ) ((List.range j.toNat).map λk=>.int (k:Nat)) [] M1 λds M2=>Q (.lst ds) M2
def vw2(M:Sto):D->D
 | .ptr a=>match M a with
   |some (.lst ds)=>.lst (ds.map (vw1 M))
   |_=>.ptr a
 |d=>d
def rm(G:E_->F_)(ta:NTA):NTE:=λρ M Q=>ta ρ M λds M1=>WF G (ds.map (vw2 M1)) λd=>aS d=true/\Q d M1
def rn(G:E_->F_)(ta:NTA):NTE:=λρ M Q=>ta ρ M λds M1=>WF G (ds.map (vw2 M1)) λd=>(∃xs:z9,d=.lst (xs.map .int))/\Q d M1
def rp(G:E_->F_)(ta:NTA):NTE:=λρ M Q=>ta ρ M λds M1=>WF G (ds.map (vw2 M1)) λd=>Q d M1
def rq(ta:NTE):NTE:=λρ M Q=>ta ρ M λx M1=>∃ds,vw1 M1 x=.lst ds/\Q (.lst ds) M1
def nD(J3:z8)(ti te:NTE):NTE:=λρ M Q=>ti ρ M λd M1=>∃ds,cA d=some ds/\ds.length<=1000/\cT 1 te (bt 1 J3 ρ) ds [] M1 λds M2=>Q (.lst ds) M2
def vw3(M:Sto):D->D
 |.lst ds=>.lst (ds.map (vw2 M))
 |d=>vw2 M d
def n2V(g:D->D->F_)(ta tb:NTE):NTE:=λρ M Q=>ta ρ M λx M1=>tb ρ M1 λy M2=>W2 g (vw3 M2 x) (vw3 M2 y) λd=>aS d=true/\Q d M2
def nE(k:Nat)(ta:NTE):NTE:=λρ M Q=>ta ρ M λx M1=>∃a ds,x=.ptr a/\M1 a=some (.lst ds)/\k<=1000/\Q (.lst (dO ds (some (k:Nat)) none)) M1
noncomputable def XS:j_:=["NoSale","NoClass","Over","Early","Done","TooMany","Twice","NoTurn","Full","NoRow"]
abbrev QX:=Str->Sto->Prop
abbrev NTX:=E_->Sto->QE->QX->Prop
abbrev NEX:=ah->Sto->QE->QX->Prop
def mkX(np n:Nat)(t:NTS):NTX:=λds M Q EX=>ds.length=np/\t {nx:=λ_ M'=>Q .non M',rt:=Q,ex:=EX} (ds.map some++List.replicate (n-np) none) M
def qtX(T:NTX):NTF:=λds M Q=>T ds M Q λ_ _=>False
def hG(T:NTX)(ta:NTA):NEX:=λρ M Q EX=>ta ρ M λds M1=>T ds M1 Q EX
def cK(C:Nat)(ns:j_)(T:NTX)(ta:NTE)(tas:NTA):NEX:=λρ M Q EX=>ta ρ M λx M1=>∃a ds0,x=.ptr a/\M1 a=some (.ins C ns ds0)/\tas ρ M1 λds M2=>T (x::ds) M2 Q EX
def rz(C:Nat)(T:NTX)(tas:NTA):NEX:=λρ M Q EX=>tas ρ M λds M1=>∀a,M1 a=none->T (.ptr a::ds) (aK M1 a (.ins C [] [])) (λd M2=>d=.non/\Q (.ptr a) M2) EX
def cD(x:Str):NTS:=λE _ M=>x∈XS/\E.ex x M
def iH(i:Nat)(te:NEX):NTS:=λE ρ M=>te ρ M (λd M1=>E.nx (ρ.set i (some d)) M1) E.ex
def eK(te:NEX):NTS:=λE ρ M=>te ρ M E.rt E.ex
def jA(te:NEX):NTS:=λE ρ M=>te ρ M (λ_ M1=>E.nx ρ M1) E.ex
def nF(i j:Nat)(t:NTS):NTS:=λE ρ M=>t {E with ex:=λx M1=>∀a,M1 a=none->E.nx ((ρ.set j none).set i (some (.ptr a))) (aK M1 a (.exn a x))} ρ M
def eN(y:Str)(ta:NTE):NTE:=λρ M Q=>ta ρ M λd M1=>∃a x,d=.ptr a/\M1 a=some (.exn a x)/\x∈XS/\Q (.bl (decide (x=y))) M1
def rA(ta:NTE):NTE:=λρ M Q=>ta ρ M λd M1=>∃a x,d=.ptr a/\M1 a=some (.exn a x)/\x∈XS/\Q (.bl true) M1
end VL
variable {M M':VL.Sto}{ti ta tb tel tit:VL.NTE}{te:VL.NEX}{T:VL.NTF}{Ew:VL.EndN}{QW:VL.QE}{EX:VL.QX}{ka kb:VL.NTB}{tas:VL.NTA}
namespace VL
open PySem PySem.Spec PyProof.Rows L2
noncomputable def wW:Option Cell->Bool
 |some (.dcT true _)=>true
 |some (.dcL true _)=>true
 |_=>false
def inM(M:Sto):Addr->Prop:=λa=>M a≠none/\wW (M a)=false
def nG{b:Addr}(e:M' b=M b):inM M' b↔inM M b:=by unfold inM;rw[e]
noncomputable abbrev PH(H:Hp)(M:Sto):Hp:=aq H (inM M)
noncomputable def aX(ns:j_)(vs:C_):List (Key×V):=(ns.zip vs).map λp=>(Sum.inr p.1,p.2)
noncomputable def wX(ps:List ((Int×Int)×Int)):List (List Key×V):=ps.map λp=>([Sum.inl p.1.1,Sum.inl p.1.2],V.int p.2)
noncomputable def wY(ps:List (z9×Int)):List (List Key×V):=ps.map λp=>(p.1.map Sum.inl,V.int p.2)
def wZ(x C:Addr):Heap->Prop:=λh=>∃o,h.get? x=some o/\o.cls=.ref C
def CellOk(K:K0)(H:Hp):HO->Cell->Prop
 |.lst xs,.lst ds=>Reps K H xs ds
 |.dK kvs,.dic ns ds=>∃vs,kvs=aX ns vs/\vs.length=ns.length/\Reps K H vs ds
 |.ins C dx fs,.ins C' ns ds=>C=C'/\∃vs,fs=ns.zip vs/\vs.length=ns.length/\Reps K H vs ds
 |o,.dcT fz ps=>(fz=false/\o=.dT (wX ps))\/(fz=true/\∃ob,o=.frz ob (.dT (wX ps)))
 |o,.dcL fz ps=>(fz=false/\o=.dT (wY ps))\/(fz=true/\∃ob,o=.frz ob (.dT (wY ps)))
 |.ext φ,.exn a x=>∃C,φ=wZ a C/\W.nsIn K mainGlobals x=some (some (.ref C))
 |_,_=>False
def CellOk.mono(e:Same H H'):∀{o:HO} {c:Cell},CellOk K H o c->CellOk K H' o c:=λ{o c} h=>by
 unfold CellOk at h ⊢;split at h
 ·exact aQ e h
 ·obtain⟨vs,h1,h2,h3⟩:=h;exact⟨vs,h1,h2,aQ e h3⟩
 ·obtain⟨h0,vs,h1,h2,h3⟩:=h;exact⟨h0,vs,h1,h2,aQ e h3⟩
 ·exact h
 ·exact h
 ·exact h
 ·exact h.elim
def MOk(K:K0)(H:Hp)(M:Sto):Prop:=∀a c,M a=some c->∃o,H a=some o/\CellOk K (PH H M) o c
theorem MOk.dom(h:MOk K H M):Dom H (inM M):=λb hb n=>by
 cases e:M b with
 |none=>exact hb.1 e
 |some c=>obtain⟨o,h1,_⟩:=h b c e;rw[n]at h1;cases h1
def MOk.fresh(h:MOk K H M){p:Addr}(hp:H p=none):M p=none:=by
 cases e:M p with
 |none=>rfl
 |some c=>obtain⟨o,h1,_⟩:=h p c e;rw[hp]at h1;cases h1
def PH.up(e:Same H H'):Same (PH H M) (PH H' M):=cy e
def MOk.up(h:MOk K H M)(e:Same H H'):MOk K H' M:=λa c hc=>by obtain⟨o,h1,h2⟩:=h a c hc;exact⟨o,e _ _ h1,h2.mono (PH.up e)⟩
def PH.at{b:Addr}(h:PH H M b=some o):¬inM M b/\H b=some o:=er h
def PH.of{b:Addr}(h:M b=none):PH H M b=H b:=c7 λn=>n.1 h
def PH.out{b:Addr}(h:¬inM M b):PH H M b=H b:=c7 h
def fK{p:Addr}{c:Cell}(h:MOk K H M)(hp:H p=none)(hs:Same H H')(ho:H' p=some o)(hc:CellOk K (aq H' λb=>inM M b\/b=p) o c):
  Same (PH H M) (PH H' (aK M p c))/\MOk K H' (aK M p c):=by
 have e:Same (PH H M) (PH H' (aK M p c)):=λb u q=>by obtain⟨h1,h2⟩:=PH.at q;have ne:b≠p:=c6 h2 hp;rw[PH.out (mt (nG (aE ne)).mp h1)];exact hs _ _ h2
 refine⟨e,λa c' hc'=>?_⟩;by_cases q:a=p
 ·subst q
  rw[aB]at hc';cases hc';refine⟨o,ho,hc.mono (cH (λ_ _ z=>z) λb z=>?_)⟩;by_cases hb:b=a
  ·exact .inr hb
  ·exact .inl ((nG (aE hb)).mp z)
 ·rw[aE q]at hc'
  obtain⟨o',h1,h2⟩:=h a c' hc';exact⟨o',hs _ _ h1,h2.mono e⟩
def iI{a:Addr}{c c0:Cell}(h:MOk K H M)(ha:M a=some c0)(hc:CellOk K (PH H M) o c)(hf:wW (some c0)=false<|>J7):
  Same (PH H M) (PH (upd H a o) (aK M a c))/\MOk K (upd H a o) (aK M a c):=by
 have e:Same (PH H M) (PH (upd H a o) (aK M a c)):=λb u q=>by
  obtain⟨h1,h2⟩:=PH.at q;have ne:b≠a:=λz=>h1 (by subst z;refine⟨λn=>?_,?_⟩<;>rw[ha]at *;cases n;exact hf)
  rw[PH.out (mt (nG (aE ne)).mp h1),aH ne];exact h2
 refine⟨e,λb c' hc'=>?_⟩;by_cases q:b=a
 ·subst q
  rw[aB]at hc';cases hc';exact⟨o,bj,hc.mono e⟩
 ·rw[aE q]at hc'
  obtain⟨o',h1,h2⟩:=h b c' hc';exact⟨o',by rw[aH q];exact h1,h2.mono e⟩
def Hr{a:Addr}(h:MOk K H M):Same (PH H M) (PH H (dQ M a))/\MOk K H (dQ M a):=by
 have e:Same (PH H M) (PH H (dQ M a)):=cH (λ_ _ z=>z) λb z=>by
  by_cases hb:b=a
  ·subst hb;exact absurd rf z.1
  ·exact(nG (rg hb)).mp z
 refine⟨e,λb c hc=>?_⟩;by_cases q:b=a
 ·subst q;rw[rf]at hc;cases hc
 ·rw[rg q]at hc
  obtain⟨o,h1,h2⟩:=h b c hc;exact⟨o,h1,h2.mono e⟩
structure EnvQ (K:K0) (σ:St) (ρ:ah) (H:Hp) (M:Sto):Prop where
 env:EnvR K (PH H M) σ ρ
 ok:MOk K H M
structure PostT (K:K0) (H:Hp) (M:Sto) (H':Hp) (M':Sto):Prop where
 same:Same (PH H M) (PH H' M')
 ok:MOk K H' M'
structure PostW (K:K0) (H:Hp) (M:Sto) (d:D) (v:V) (H':Hp) (M':Sto):Prop extends PostT K H M H' M' where
 rep:Rep K (PH H' M') v d
structure PostWs (K:K0) (H:Hp) (M:Sto) (ds:E_) (vs:C_) (H':Hp) (M':Sto):Prop extends PostT K H M H' M' where
 rep:Reps K (PH H' M') vs ds
def EnvQ.next(h:EnvQ K σ ρ H M)(p:PostT K H M H' M'):EnvQ K σ ρ H' M':=⟨h.env.mono p.same,p.ok⟩
def PostT.refl(h:MOk K H M):PostT K H M H M:=⟨Same.refl _,h⟩
def PostT.trans{M1 M2:Sto}(a:PostT K H M H1 M1)(b:PostT K H1 M1 H2 M2):PostT K H M H2 M2:=⟨a.same.trans b.same,b.ok⟩
def PostT.of(h:MOk K H M)(e:Same H H'):PostT K H M H' M:=⟨PH.up e,h.up e⟩
def tw(K:K0)(t:NTE):TE:=λσ H Q=>∃ρ M QW,EnvQ K σ ρ H M/\t ρ M QW/\∀d M',QW d M'->∀v H',PostW K H M d v H' M'->Q v H'
def twT(K:K0)(t:NTB):TT:=λσ H Q=>∃ρ M QW,EnvQ K σ ρ H M/\t ρ M QW/\∀b M',QW b M'->∀H',PostT K H M H' M'->Q b H'
def twA(K:K0)(t:NTA):TA:=λσ H Q=>∃ρ M QW,EnvQ K σ ρ H M/\t ρ M QW/\∀ds M',QW ds M'->∀vs H',PostWs K H M ds vs H' M'->Q vs H'
abbrev NE(X:Cx)(e:Expr)(t:NTE):Prop:=PE X e (tw X.K t)
structure YE (X:Cx) (e:Expr) (t:NTE):Prop where
 h:NE X e t
abbrev NT(X:Cx)(e:Expr)(t:NTB):Prop:=PT X e (twT X.K t)
structure YT (X:Cx) (e:Expr) (t:NTB):Prop where
 h:NT X e t
abbrev NW(X:Cx)(e:Expr)(t:NTB):Prop:=PW X e (twT X.K t)
structure YW (X:Cx) (e:Expr) (t:NTB):Prop where
 h:NW X e t
abbrev NA(X:Cx)(es:l_)(t:NTA):Prop:=PA X es (twA X.K t)
structure YA (X:Cx) (e:l_) (t:NTA):Prop where
 h:NA X e t
def bq{n:NTE}(h:PE X e t)(i:∀σ H Q ρ M QW,EnvQ X.K σ ρ H M->n ρ M QW->(∀d M',QW d M'->∀v H',PostW X.K H M d v H' M'->Q v H')->t σ H Q):PE X e (tw X.K n):=cP h λσ H Q y4=>by obtain⟨ρ,M,QW,hE,ht,hQ⟩:=y4;exact i σ H Q ρ M QW hE ht hQ
def lu{t:TT}{n:NTB}(h:PT X e t)(i:∀σ H Q ρ M QW,EnvQ X.K σ ρ H M->n ρ M QW->(∀d M',QW d M'->∀H',PostT X.K H M H' M'->Q d H')->t σ H Q):PT X e (twT X.K n):=mz h λσ H Q y4=>by obtain⟨ρ,M,QW,hE,ht,hQ⟩:=y4;exact i σ H Q ρ M QW hE ht hQ
def xb{t:TT}{n:NTB}(h:PW X e t)(i:∀σ H Q ρ M QW,EnvQ X.K σ ρ H M->n ρ M QW->(∀d M',QW d M'->∀H',PostT X.K H M H' M'->Q d H')->t σ H Q):PW X e (twT X.K n):=qc h λσ H Q y4=>by obtain⟨ρ,M,QW,hE,ht,hQ⟩:=y4;exact i σ H Q ρ M QW hE ht hQ
def xc{e:l_}{t:TA}{n:NTA}(h:PA X e t)(i:∀σ H Q ρ M QW,EnvQ X.K σ ρ H M->n ρ M QW->(∀d M',QW d M'->∀v H',PostWs X.K H M d v H' M'->Q v H')->t σ H Q):PA X e (twA X.K n):=kF h λσ H Q y4=>by obtain⟨ρ,M,QW,hE,ht,hQ⟩:=y4;exact i σ H Q ρ M QW hE ht hQ
section
def rB(h:EnvQ K σ ρ H M)(e:Es):Av K H σ ρ (inM M) e:=by
 have full:∀(j:Nat) (v:V) (d:D),σ[j]?=some (some v)->ρ[j]?=some (some d)->Rep K (aq H (inM M)) v d:=λj v d h1 h2=>by obtain⟨v',h3,h4⟩:=h.env j d h2;rw[h1]at h3;cases h3;exact h4
 cases e with
 |full j=>exact full j
 |el j=>exact λv d h1 h2=>(full j v d h1 h2).el
def EnvQ.envR(h:EnvQ K σ ρ H M):EnvR K H σ ρ:=h.env.mono (aR _ _)
def rC(h:VE X a fa es):NE X a (nP fa):=bq h λσ H Q ρ M QW hE ⟨d,hf,hq⟩ hQ=>⟨ρ,d,hE.envR,hf,λv H' p=>hQ d M hq v H' ⟨PostT.of hE.ok p.same,p.av (inM M) hE.ok.dom λe _=>rB hE e⟩⟩
def bw{f:ah->B_}(h:JT X a f):YT X a (nPB f):=⟨have h:=h.h;lu h λσ H Q ρ M QW hE ⟨d,hf,hq⟩ hQ=>⟨ρ,d,hE.envR,hf,λH' e=>hQ d M hq H' (PostT.of hE.ok e)⟩⟩
def nH(hr:OpV K r g)(h:tw K (n2 g ta tb) σ H Q):tOp r (tw K ta) (tw K tb) σ H Q:=by obtain⟨ρ,M,QW,hE,ht,hQ⟩:=h;refine⟨ρ,M,_,hE,ht,λx M1 h1 vx H1 p1=>⟨ρ,M1,_,hE.next p1.toPostT,h1,λy M2 h2 vy H2 p2=>?_⟩⟩;obtain⟨d,hg,hq⟩:=h2;have rx:=aw p2.same p1.rep;refine hr vx vy H2 x y d Q (aw (aR _ _) rx) (aw (aR _ _) p2.rep) hg λv H' e r' av=>hQ d M2 hq v H' ⟨(p1.toPostT.trans p2.toPostT).trans (PostT.of p2.ok e),av _ p2.ok.dom rx p2.rep⟩
def lw{op:Operator}(ho:OpR X (binaryOp op) r)(hr:OpV X.K r g)(ha:NE X a ta)(hb:NE X b tb):NE X (.BinOp a op b pos) (n2 g ta tb):=cP (jc ho ha hb) λ_ _ _ h=>nH hr h
def fL(ha:YE X a ta)(hb:YE X b tb):YE X (.BinOp a .Add b pos) (n2 bL ta tb):=⟨have ha:=ha.h;have hb:=hb.h;lw uk (kJ X.K λ_ _ _=>.int _) ha hb⟩
def lz(ha:YE X a ta)(hb:YE X b tb):YE X (.BinOp a .Sub b pos) (n2 cX ta tb):=⟨have ha:=ha.h;have hb:=hb.h;lw ul (kJ X.K λ_ _ _=>.int _) ha hb⟩
def xf(ha:YE X a ta)(hb:YE X b tb):YE X (.BinOp a .Mult b pos) (n2 dg ta tb):=⟨have ha:=ha.h;have hb:=hb.h;lw vj (kI X.K (λ_ _ h=>h) λ_ _ _=>.int _) ha hb⟩
def Hs(ho:OpR X (compareOp op) r)(hr:OpV X.K r g)(ha:NE X a ta)(hb:NE X b tb)(hm:behindInMarks op b=false):NE X (.Compare a [op] [b] pos) (n2 g ta tb):=
 cP (uo ho ha hb hm) λ_ _ _ h=>nH hr h
theorem lA(ho:OpR X (compareOp op) r)(hr:OpV X.K r g)(ha:NE X a ta)(hb:NE X b tb)(hm:behindInMarks op b=false):NT X (.Compare a [op] [b] pos) (ba (n2 g ta tb)):=
 lu (pR ho ha hb hm) λσ H Q ρ M QW hE ht hQ=>nH hr ⟨ρ,M,_,hE,ht,λd M' hd v H' p=>by
  cases d with
  |bl k=>cases p.rep;exact⟨k,rfl,hQ k M' hd H' p.toPostT⟩
  |_=>exact hd.elim⟩
def Ht(ha:YE X a ta)(hb:YE X b tb):YT X (.Compare a [.Gt] [b] pos) (ba (n2 gtI ta tb)):=⟨have ha:=ha.h;have hb:=hb.h;lA pP (il X.K) ha hb (de _)⟩
def ne_eq{k:Nat}(hr:Room k X.A)(ha:NE X a ta)(hb:NE X b tb):NE X (.Compare a [.Eq] [b] pos) (n2 eqD ta tb):=Hs (mZ hr) (n9 X.K) ha hb (de _)
def gr{k:Nat}(hr:Room k X.A)(ha:YE X a ta)(hb:YE X b tb):YT X (.Compare a [.Eq] [b] pos) (ba (n2 eqD ta tb)):=⟨have ha:=ha.h;have hb:=hb.h;lA (mZ hr) (n9 X.K) ha hb (de _)⟩
def Hu{k:Nat}(hr:Room k X.A)(ha:YE X a ta)(hb:YE X b tb):YT X (.Compare a [.NotEq] [b] pos) (ba (n2 neD ta tb)):=⟨have ha:=ha.h;have hb:=hb.h;lA (wc hr) (wd X.K) ha hb (de _)⟩
def Hv:n2 qI ta (nP (eC .non))=n1 cz ta:=by funext ρ M Q;unfold n2 n1 nP;congr 1;funext x M1;unfold WE W2 W1 eC;exact propext ⟨λy4=>by obtain⟨d,e,h⟩:=y4;cases e;exact h,λh=>⟨_,rfl,h⟩⟩
def Hw:n2 nh ta (nP (eC .non))=n1 e7 ta:=by funext ρ M Q;unfold n2 n1 nP;congr 1;funext x M1;unfold WE W2 W1 eC;exact propext ⟨λy4=>by obtain⟨d,e,h⟩:=y4;cases e;exact h,λh=>⟨_,rfl,h⟩⟩
def jB{j}(ha:YE X a ta):YT X (.Compare a [.Is] [.Constant .none j p2] pos) (ba (n1 cz ta)):=⟨have ha:=ha.h;by rw[<- Hv];exact lA um (wm X.K) ha (rC jl) (de _)⟩
def Hx{j}(ha:YE X a ta):YT X (.Compare a [.IsNot] [.Constant .none j p2] pos) (ba (n1 e7 ta)):=⟨have ha:=ha.h;by rw[<- Hw];exact lA pQ (qJ X.K) ha (rC jl) (de _)⟩
variable {rest:l_}
def iJ(h:YE X a ta)(he:(∀whole,isTrue a X.env whole=(do let v <- whole;standAt a.pos;holding [v] (truthy v)))<|>Q0):YT X a (fJ ta):=⟨have h:=h.h;
 lu (ut h he) λσ H Q ρ M QW hE ht hQ=>⟨ρ,M,_,hE,ht,λd M' y4 v H' p=>by obtain⟨b,hb,hq⟩:=y4;exact⟨b,vp (aw (aR _ _) p.rep) hb,hQ b M' hq H' p.toPostT⟩⟩⟩
def xg(ha:YT X a ka):YW X (.BoolOp .And [a] pos) ka:=⟨have ha:=ha.h;tY ha⟩
def Hy(ha:YT X a ka):YW X (.BoolOp .Or [a] pos) ka:=⟨have ha:=ha.h;tZ ha⟩
theorem xh(ha:YT X a ka)(hb:YW X (.BoolOp .And (b::rest) pos) kb):YW X (.BoolOp .And (a::b::rest) pos) (ll ka kb):=⟨have ha:=ha.h;have hb:=hb.h;
 xb (u0 ha hb) λσ H Q ρ M QW hE ht hQ=>⟨ρ,M,_,hE,ht,λk M1 hk H1 p1=>by
  cases k with
  |true=>exact dX ⟨ρ,M1,_,hE.next p1,hk.1 rfl,λk' M2 h2 H2 p2=>hQ k' M2 h2 H2 (p1.trans p2)⟩
  |false=>exact dW (hQ _ M1 (hk.2 rfl) H1 p1)⟩⟩
theorem Hz(ha:YT X a ka)(hb:YW X (.BoolOp .Or (b::rest) pos) kb):YW X (.BoolOp .Or (a::b::rest) pos) (nOr ka kb):=⟨have ha:=ha.h;have hb:=hb.h;
 xb (u1 ha hb) λσ H Q ρ M QW hE ht hQ=>⟨ρ,M,_,hE,ht,λk M1 hk H1 p1=>by
  cases k with
  |false=>exact dW ⟨ρ,M1,_,hE.next p1,hk.2 rfl,λk' M2 h2 H2 p2=>hQ k' M2 h2 H2 (p1.trans p2)⟩
  |true=>exact dX (hQ _ M1 (hk.1 rfl) H1 p1)⟩⟩
def rD(h:YW X a ka):YT X a ka:=⟨have h:=h.h;h.pt⟩
def jC(ha:YT X a ka):YT X (.UnaryOp .Not a pos) (gq ka):=⟨have ha:=ha.h;lu (u2 ha) λσ H Q ρ M QW hE ht hQ=>⟨ρ,M,_,hE,ht,λk M1 hk H1 p1=>hQ _ M1 hk H1 p1⟩⟩
theorem xi(hc:YT X c ka)(ha:YE X a ta)(hb:YE X b tb):YE X (.IfExp c a b pos) (nIf ka ta tb):=⟨have hc:=hc.h;have ha:=ha.h;have hb:=hb.h;
 bq (u9 hc ha hb) λσ H Q ρ M QW hE ht hQ=>⟨ρ,M,_,hE,ht,λk M1 hk H1 p1=>by
  have fin:∀d M2,QW d M2->∀v H2,PostW X.K H1 M1 d v H2 M2->Q v H2:=λd M2 h2 v H2 p2=>hQ d M2 h2 v H2 ⟨p1.trans p2.toPostT,p2.rep⟩
  cases k with
  |true=>exact dX ⟨ρ,M1,_,hE.next p1,hk.1 rfl,fin⟩
  |false=>exact dW ⟨ρ,M1,_,hE.next p1,hk.2 rfl,fin⟩⟩⟩
def xj{op}(h:YE X a ta):YE X (.BoolOp op [a] pos) ta:=⟨have h:=h.h;u6 h⟩
theorem xk(ha:YE X a ta)(hb:YE X (.BoolOp .And (b::rest) pos) tb):YE X (.BoolOp .And (a::b::rest) pos) (lm ta tb):=⟨have ha:=ha.h;have hb:=hb.h;
 bq (u7 ha hb) λσ H Q ρ M QW hE ht hQ=>⟨ρ,M,_,hE,ht,λx M1 hk vx H1 p1=>by
  cases x with
  | bl k=>
    cases p1.rep;refine⟨k,rfl,?_⟩;cases k with
    |true=>exact dX ⟨ρ,M1,_,hE.next p1.toPostT,hk.1 rfl,λd M2 h2 v H2 p2=>hQ d M2 h2 v H2 ⟨p1.toPostT.trans p2.toPostT,p2.rep⟩⟩
    |false=>exact dW (hQ _ M1 (hk.2 rfl) _ H1 ⟨p1.toPostT,.bl _⟩)
  |_=>exact hk.elim⟩⟩
theorem HA(ha:YE X a ta):YE X (.UnaryOp .Not a pos) (n1 (λd=>match d with | .bl k=>some (.bl (!k))|_=>none) ta):=⟨have ha:=ha.h;
 bq (u8 ha) λσ H Q ρ M QW hE ht hQ=>⟨ρ,M,_,hE,ht,λd M1 y4 v H1 p1=>by
  obtain⟨e,hd,hq⟩:=y4;cases d with
  |bl k=>cases hd;cases p1.rep;exact⟨k,rfl,hQ _ M1 hq _ H1 ⟨p1.toPostT,.bl _⟩⟩
  |_=>cases hd⟩⟩
variable {xs:l_}
def ak:YA X [] ag:=⟨xc c5 λσ H Q ρ M QW hE ht hQ=>hQ [] M ht [] H ⟨PostT.refl hE.ok,.nil⟩⟩
def a9(ha:YE X a ta)(hr:YA X xs tas)(hs:SE a xs X<|>J7):YA X (a::xs) (a8 ta tas):=⟨have ha:=ha.h;have hr:=hr.h;
 xc (bP ha hr hs) λσ H Q ρ M QW hE ht hQ=>⟨ρ,M,_,hE,ht,λd M1 h1 v H1 p1=>⟨ρ,M1,_,hE.next p1.toPostT,h1,λds M2 h2 vs H2 p2=>hQ _ M2 h2 _ H2 ⟨p1.toPostT.trans p2.toPostT,.cons (aw p2.same p1.rep) p2.rep⟩⟩⟩⟩
def nI{x1}(h:YA X xs tas):YE X (.Tuple xs x1 pos) (jv tas):=⟨have h:=h.h;
 bq (uC h) λσ H Q ρ M QW hE ht hQ=>⟨ρ,M,_,hE,ht,λds M1 ⟨hl,hq⟩ vs H1 p=>⟨by rw[p.rep.length];exact kO hl,λl hl1=>by have hn:=p.ok.fresh hl1;refine hQ _ M1 hq _ _ ⟨p.toPostT.trans (PostT.of p.ok (bg hl1 _)),.tup ?_ (aQ (PH.up (bg hl1 _)) p.rep)⟩;rw[PH.of hn];exact bj⟩⟩⟩
def jD(h:YA X xs tas):YE X (.List xs pos) (gX tas):=⟨have h:=h.h;
 bq (md h) λσ H Q ρ M QW hE ht hQ=>⟨ρ,M,_,hE,ht,λds M1 ⟨hl,hq⟩ vs H1 p=>⟨by rw[p.rep.length];exact kO hl,λl hl1=>by have hn:=p.ok.fresh hl1;refine hQ _ M1 hq _ _ ⟨p.toPostT.trans (PostT.of p.ok (bg hl1 _)),.lst (.inl ?_) (aQ (PH.up (bg hl1 _)) p.rep)⟩;rw[PH.of hn];exact bj⟩⟩⟩
def rE{A:Addr->Prop}{p:Addr}(hp:H p=none):Same (aq H A) (aq (upd H p o) λb=>A b\/b=p):=λb u q=>by obtain⟨n,q⟩:=er q;have ne:b≠p:=c6 q hp;rw[c7 (λz=>z.elim n ne),aH ne];exact q
def rF(h:YA X xs tas):YE X (.List xs pos) (jw tas):=⟨have h:=h.h;
 bq (md h) λσ H Q ρ M QW hE ht hQ=>⟨ρ,M,_,hE,ht,λds M1 ⟨hl,hq⟩ vs H1 p=>⟨by rw[p.rep.length];exact kO hl,λl hl1=>by have hn:=p.ok.fresh hl1;obtain⟨e1,e2⟩:=fK (c:=.lst ds) p.ok hl1 (bg hl1 (.lst vs)) bj (aQ (rE hl1) p.rep);exact hQ _ _ (hq l hn) _ _ ⟨p.toPostT.trans ⟨e1,e2⟩,.ptr l⟩⟩⟩⟩
def lB(h:JF X a fa es):YE X a (fk fa):=⟨have h:=h.h;bq h λσ H Q ρ M QW hE ⟨d,hf,ds,e,hq⟩ hQ=>⟨ρ,d,hE.envR,hf,λv H' p=>by obtain⟨l,xs,ds',rfl,rfl,hl,hl',hr⟩:=p.new;cases e;obtain⟨e1,e2⟩:=fK (c:=.lst ds) hE.ok hl p.same hl' (hr (inM M) hE.ok.dom λe _=>rB hE e);exact hQ _ _ (hq l (hE.ok.fresh hl)) _ _ ⟨⟨e1,e2⟩,.ptr l⟩⟩⟩
theorem dt(ha:YE X a ta)(hb:YE X b tb)(hs:ib b):YE X (.Subscript a b pos) (n2 ixD ta tb):=⟨have ha:=ha.h;have hb:=hb.h;
 bq (jf (ix_list.or mh) ha hb hs) λσ H Q ρ M QW hE ht hQ=>⟨ρ,M,_,hE,ht,λx M1 h1 vx H1 p1=>⟨ρ,M1,_,hE.next p1.toPostT,h1,λy M2 y4 vy H2 p2=>by
  obtain⟨d,hd,hq⟩:=y4;cases y with
  | int i=>
    cases p2.rep;obtain⟨ds,h3,h4⟩:=bind_some hd;have rx:=aw p2.same p1.rep;have hel:ElR X.K H2 (inM M2) _ _:=rx.el;obtain⟨p,xs,rfl,hp,_,hA⟩:=iq (aw (aR _ _) rx) h3;have hx:=hA _ hel;obtain⟨v,h5,h6⟩:=kP hx h4;have fin:Q v H2:=hQ d M2 hq v H2 ⟨p1.toPostT.trans p2.toPostT,h6⟩;rcases hp with hp|hp
    ·exact .inl ⟨p,xs,i,v,rfl,rfl,hp,h5,fin⟩
    ·exact .inr ⟨p,xs,i,v,rfl,rfl,hp,h5,fin⟩
  |_=>cases hd⟩⟩⟩
def fM{a:Addr}(h:MOk K H M)(ha:M a=some (.lst ds)):∃xs,H a=some (.lst xs)/\Reps K (PH H M) xs ds:=by
 obtain⟨o,h1,h2⟩:=h a _ ha;cases o with
 |lst xs=>exact⟨xs,h1,h2⟩
 |_=>exact h2.elim
def jE{a:Addr}(h:MOk K H M)(ha:M a=some (.dic ns ds)):∃vs,H a=some (.dK (aX ns vs))/\vs.length=ns.length/\Reps K (PH H M) vs ds:=by
 obtain⟨o,h1,h2⟩:=h a _ ha;cases o with
 |dK kvs=>obtain⟨vs,rfl,h3,h4⟩:=h2;exact⟨vs,h1,h3,h4⟩
 |_=>exact h2.elim
def gs{a:Addr}{C:Nat}(h:MOk K H M)(ha:M a=some (.ins C ns ds)):∃dx vs,H a=some (.ins C dx (ns.zip vs))/\vs.length=ns.length/\Reps K (PH H M) vs ds:=by
 obtain⟨o,h1,h2⟩:=h a _ ha;cases o with
 |ins C' dx fs=>obtain⟨rfl,vs,rfl,h3,h4⟩:=h2;exact⟨dx,vs,h1,h3,h4⟩
 |_=>exact h2.elim
def dI(ha:YE X a ta)(hb:YE X b tb)(hs:ib b):YE X (.Subscript a b pos) (c4 ta tb):=⟨have ha:=ha.h;have hb:=hb.h;
 bq (jf (ix_list.or mh) ha hb hs) λσ H Q ρ M QW hE ht hQ=>⟨ρ,M,_,hE,ht,λx M1 h1 vx H1 p1=>⟨ρ,M1,_,hE.next p1.toPostT,h1,λy M2 y4 vy H2 p2=>by obtain⟨q,ds,i,d,ex,hm,ey,hd,hq⟩:=y4;subst ex ey;cases p1.rep;cases p2.rep;obtain⟨xs,g1,g2⟩:=fM p2.ok hm;obtain⟨v,h5,h6⟩:=kP g2 hd;exact .inl ⟨q,xs,i,v,rfl,rfl,.inl (.inl g1),h5,hQ d M2 hq v H2 ⟨p1.toPostT.trans p2.toPostT,h6⟩⟩⟩⟩⟩
theorem xl:∀{ns:j_} {vs:C_} {i:Nat} {x:Str} {v:V},ns.Nodup->ns[i]?=some x->vs[i]?=some v->(ns.zip vs).lookup x=some v
 |[],_,_,_,_,_,h,_=>by simp at h
 |_::_,[],i,_,_,_,_,h=>by simp at h
 |n::ns,w::vs,0,x,v,_,h1,h2=>by simp at h1 h2;subst h1 h2;simp
 | n::ns,w::vs,i+1,x,v,hn,h1,h2=>by
   have h1':ns[i]?=some x:=by simpa using h1
   have hm:x∈ns:=z8b h1';have ne:¬(x=n):=λe=>(z8j.mp hn).1 (e▸hm)
   have ih:=xl (z8j.mp hn).2 h1' (by simpa using h2);rw[z7j,z8w,show(x==n)=false from z8t.mpr ne];exact ih
theorem xm:∀{ns:j_} {vs:C_} {i:Nat} {x:Str} {v:V},ns.Nodup->ns[i]?=some x->vs[i]?=some v->bQ (aX ns vs) (.inr x)=some v
 |[],_,_,_,_,_,h,_=>by simp at h
 |_::_,[],i,_,_,_,_,h=>by simp at h
 |n::ns,w::vs,0,x,v,_,h1,h2=>by simp at h1 h2;subst h1 h2;exact mj (p:=((Sum.inr n:Key),w)) rfl
 | n::ns,w::vs,i+1,x,v,hn,h1,h2=>by
   have h1':ns[i]?=some x:=by simpa using h1
   have hm:x∈ns:=z8b h1';have ne:¬(n=x):=λe=>(z8j.mp hn).1 (e▸hm)
   have ih:=xm (z8j.mp hn).2 h1' (by simpa using h2);have e2:bQ (aX (n::ns) (w::vs)) (.inr x)=bQ (aX ns vs) (.inr x):=mm (p:=((Sum.inr n:Key),w)) λq=>ne (z5o q)
   rw[e2];exact ih
def nJ{k:Nat}{j}(hr:Room k X.A)(ha:YE X a ta)(hs:mo (.Constant (.str x) j p2))(hn:ns.Nodup<|>Q1)(hi:ns[i]?=some x<|>J7):YE X (.Subscript a (.Constant (.str x) j p2) pos) (nDg ns i ta):=⟨have ha:=ha.h;
 bq (v9 (by have:=hr.un;ext) ha gH hs) λσ H Q ρ M QW hE ht hQ=>⟨ρ,M,_,hE,ht,λy M1 y4 vy H1 p1=>by obtain⟨q,ds,d,ex,hm,hd,hq⟩:=y4;subst ex;cases p1.rep;obtain⟨vs,g1,gl,g2⟩:=jE p1.ok hm;obtain⟨v,h5,h6⟩:=g2.get hd;exact⟨q,v,rfl,.inl ⟨_,.inr x,.inl g1,rfl,(xm hn hi h5).symm⟩,hQ d M1 hq v H1 ⟨p1.toPostT,h6⟩⟩⟩⟩
def aV{f:Str}(c:Cls X.K C)(n:NoAttr X.K C f)(ha:YE X a ta)(hb:attributeBase a f X.env (eval a X.env)=eval a X.env<|>J7)(hn:ns.Nodup<|>Q1)(hi:ns[i]?=some f<|>J7):YE X (.Attribute a f pos) (aN C ns i ta):=⟨have ha:=ha.h;
 bq (D4 ha hb) λσ H Q ρ M QW hE ht hQ=>⟨ρ,M,_,hE,ht,λy M1 y4 vy H1 p1=>by obtain⟨q,ds,d,ex,hm,hd,hq⟩:=y4;subst ex;cases p1.rep;obtain⟨dx,vs,g1,gl,g2⟩:=gs p1.ok hm;obtain⟨v,h5,h6⟩:=g2.get hd;exact⟨q,C,dx,_,v,rfl,g1,c,n,xl hn hi h5,hQ d M1 hq v H1 ⟨p1.toPostT,h6⟩⟩⟩⟩
end
def spN(K:K0)(T:NTF):Sp:=λvs H Q _=>∃ds M QW,Reps K (PH H M) vs ds/\MOk K H M/\T ds M QW/\∀d M',QW d M'->∀v H',PostW K H M d v H' M'->Q v H'
def DefN(P:Program)(w:World)(K:K0)(mg:Str->v_)(base:Heap)(x:Str)(k:Nat)(ps:j_)(T:NTF):Prop:=
 ∃f fd,FnOk P w K mg base CX0 k f fd ps (spN K T)/\mg x=some (.ref f)/\W.keepIn K (.ref f)=true/\Binds K fd ps []
theorem DefN.mono{k:Nat}(h:DefN P w K mg base x j ps T)(hk:j<=k<|>J8):DefN P w K mg base x k ps T:=
 let⟨f,fd,F,m,kp,b⟩:=h
 ⟨f,fd,F.mono hk,m,kp,b⟩
def MetN(P:Program)(w:World)(K:K0)(mg:Str->v_)(base:Heap)(C:Addr)(m:Str)(k:Nat)(ps:j_)(T:NTF):Prop:=
 ∃f fd,FnOk P w K mg base CX0 k f fd ps (spN K T)/\Meth K C m f/\Binds K fd ps []
theorem MetN.mono{k:Nat}(h:MetN P w K mg base C x j ps T)(hk:j<=k<|>J8):MetN P w K mg base C x k ps T:=
 let⟨f,fd,F,m,b⟩:=h
 ⟨f,fd,F.mono hk,m,b⟩
def MakN(P:Program)(w:World)(K:K0)(mg:Str->v_)(base:Heap)(x:Str)(C:Addr)(k:Nat)(ps:j_)(T:NTF):Prop:=
 ∃f fd,FnOk P w K mg base CX0 k f fd ps (spN K T)/\Mk K C f/\mg x=some (.ref C)/\Binds K fd ps []
theorem MakN.mono{k:Nat}(h:MakN P w K mg base x C j ps T)(hk:j<=k<|>J8):MakN P w K mg base x C k ps T:=
 let⟨f,fd,F,m,g,b⟩:=h
 ⟨f,fd,F.mono hk,m,g,b⟩
def HB{d:D}(h:MOk K H M)(r:Rep K (PH H M) v d):Rep K H v (vw1 M d):=by
 cases r with
 | ptr a=>
   show Rep K H (.ref a) (match M a with|some (.lst ds)=>.lst ds|_=>.ptr a)
   set_option tactic.hygienic true in split
   ·rename_i ds hm
    obtain⟨xs,g1,g2⟩:=fM h hm;exact .lst (.inl g1) (aQ (aR _ _) g2)
   ·exact .ptr a
 |non=>exact .non
 |bl b=>exact .bl b
 |int b=>exact .int b
 |str b=>exact .str b
 |lst h1 h2=>exact aw (aR _ _) (.lst h1 h2)
 |tup h1 h2=>exact aw (aR _ _) (.tup h1 h2)
 |scr h1=>exact aw (aR _ _) (.scr h1)
 |dct h1=>exact aw (aR _ _) (.dct h1)
theorem nK{K:K0}{H:Hp}{M:Sto}(h:MOk K H M):∀{vs:C_} {ds:E_},Reps K (PH H M) vs ds->Reps K H vs (ds.map (vw1 M))
 |[],_,r=>by cases r;exact .nil
 |_::_,_,r=>by cases r with|cons a t=>exact .cons (HB h a) (nK h t)
section
variable {k:Nat}{es:l_}
def aL(d:DefN X.prog X.w X.K X.mg X.base x k ps T)(hr:Room k X.A)(ha:YA X (a::es) tas)(hg:Gl X x<|>J7)(hdb:DB x<|>J8)(he:SE a es X<|>J7)(hpl:BT pos es X<|>J7):
  YE X (.Call (.Name x p) (a::es) [] pos) (aF T tas):=⟨have ha:=ha.h;
 let⟨_,_,F,hm,hk,hb⟩:=d
 bq (gJ F hr hg hm hk hb .nil eg ha hdb he hpl) λσ H Q ρ M QW hE ht hQ=>⟨ρ,M,_,hE,ht,λds M1 h1 vs H1 p=>by show spN X.K T (vs++[]) H1 Q E0;rw[z8r];exact⟨ds,M1,QW,p.rep,p.ok,h1,λd M' hd v H' p'=>hQ d M' hd v H' ⟨p.toPostT.trans p'.toPostT,p'.rep⟩⟩⟩⟩
def nL(d:Def X.prog X.w X.K X.mg X.base x k ps G fr)(hr:Room k X.A)(ha:YA X (a::es) tas)(hg:Gl X x<|>J7)(hdb:DB x<|>J8)(he:SE a es X<|>J7)(hpl:BT pos es X<|>J7):
  YE X (.Call (.Name x p) (a::es) [] pos) (jx G tas):=⟨have ha:=ha.h;
 let⟨_,_,F,hm,hk,hb⟩:=d
 bq (gJ F hr hg hm hk hb .nil eg ha hdb he hpl) λσ H Q ρ M QW hE ht hQ=>⟨ρ,M,_,hE,ht,λds M1 y4 vs H1 p=>by obtain⟨d,hf,hq⟩:=y4;show spF X.K G fr (vs++[]) H1 Q E0;rw[z8r];exact⟨ds,d,aQ (aR _ _) p.rep,hf,λv H' r=>hQ d M1 hq v H' ⟨p.toPostT.trans (PostT.of p.ok r.same),r.rep _ p.ok.dom p.rep⟩⟩⟩⟩
def rG{id:String}{r:C_->Hp->VK->Prop}{g:E_->F_}(hc:cN X (.builtin id) r)(hv:fG X.K r g)(hm:X.mg x=none)(hb:bootBuiltins x=some (.builtin id))(ha:NA X (a::es) tas)(hs:∀ds d,g ds=some d->aS d=true)(hg:Gl X x<|>J7)(hn:x ≠ "__name__"<|>J8)(hdb:DB x<|>J8)(he:SE a es X<|>J7)(hpl:BT pos es X<|>J7):
  NE X (.Call (.Name x p) (a::es) [] pos) (ci g tas):=
 bq (kr hc hg hm hb ha hn hdb he hpl) λσ H Q ρ M QW hE ht hQ=>⟨ρ,M,_,hE,ht,λds M1 ⟨d,hf,_,hq⟩ vs H1 p=>hv vs H1 _ d Q (nK p.ok p.rep) hf λv hr=>hQ d M1 hq v H1 ⟨p.toPostT,hr _⟩⟩
theorem jF:∀{ns:j_} {vs:C_} {x:Str},¬x∈ns->(ns.zip vs).lookup x=none
 |[],_,_,_=>rfl
 |_::_,[],_,_=>rfl
 |n::ns,v::vs,x,h=>by rw[z7j,z8w,show(x==n)=false from z8t.mpr λe=>h (e▸z9a)];exact jF λz=>h (z9d _ z)
def HC(cl:Cls X.K C)(d:MetN X.prog X.w X.K X.mg X.base C m k ps T)(hr:Room k X.A)(ho:NE X b tb)(ha:NA X (a::es) tas)(hno:¬m∈ns)(hst:SE a es X)(hpl:BT pos es X)(ht:(eval (.Call (.Attribute b m ap) (a::es) [] pos) X.env=(do
   let ov <- eval b X.env
   standAt ap.atName
   let(f,first) <- holding [ov] (getMethod ov m pl)
   callWith pos f first (backTo pos (starEach (a::es) X.env)) (backToKw pos (keywordEach [] X.env))))<|>J7):
  NE X (.Call (.Attribute b m ap) (a::es) [] pos) (bG C ns T tb tas):=
 let⟨_,_,F,hm,hb⟩:=d
 bq (Da ho cl hm F hr hb .nil eg ha hst hpl ht) λσ H Q ρ M QW hE hw hQ=>⟨ρ,M,_,hE,hw,λx M1 y4 vx H1 p1=>by obtain⟨q,ds0,ex,hm1,h1⟩:=y4;subst ex;cases p1.rep;obtain⟨dx,vs0,g1,gl,g2⟩:=gs p1.ok hm1;refine⟨q,dx,_,rfl,g1,jF hno,ρ,M1,_,hE.next p1.toPostT,h1,λds M2 h2 vs H2 p2=>?_⟩;show spN X.K T (V.ref q::(vs++[])) H2 Q E0;rw[z8r];exact⟨.ptr q::ds,M2,QW,.cons (.ptr q) p2.rep,p2.ok,h2,λd M' hd v H' p'=>hQ d M' hd v H' ⟨(p1.toPostT.trans p2.toPostT).trans p'.toPostT,p'.rep⟩⟩⟩
def HD(cl:Cls X.K C)(d:MetN X.prog X.w X.K X.mg X.base C m k ps T)(hr:Room k X.A)(ho:NE X b tb)(hno:¬m∈ns)(ht:(eval (.Call (.Attribute b m ap) [] [] pos) X.env=(do
   let ov <- eval b X.env
   standAt ap.atName
   let(f,first) <- holding [ov] (getMethod ov m pl)
   callWith pos f first (backTo pos (starEach [] X.env)) (backToKw pos (keywordEach [] X.env))))<|>J7):
  NE X (.Call (.Attribute b m ap) [] [] pos) (bG C ns T tb ag):=
 let⟨_,_,F,hm,hb⟩:=d
 bq (Db ho cl hm F hr hb .nil eg ht) λσ H Q ρ M QW hE hw hQ=>⟨ρ,M,_,hE,hw,λx M1 y4 vx H1 p1=>by obtain⟨q,ds0,ex,hm1,h1⟩:=y4;subst ex;cases p1.rep;obtain⟨dx,vs0,g1,gl,g2⟩:=gs p1.ok hm1;refine⟨q,dx,_,rfl,g1,jF hno,?_⟩;exact⟨[.ptr q],M1,QW,.cons (.ptr q) .nil,p1.ok,h1,λd M' hd v H' p'=>hQ d M' hd v H' ⟨p1.toPostT.trans p'.toPostT,p'.rep⟩⟩⟩
def HE(d:MakN X.prog X.w X.K X.mg X.base x C k ps T)(hr:Room (k+1) X.A)(ha:YA X (a::es) tas)(hg:Gl X x<|>J7)(hdb:DB x<|>J8)(he:SE a es X<|>J7)(hpl:BT pos es X<|>J7):
  YE X (.Call (.Name x p) (a::es) [] pos) (rj C T tas):=⟨have ha:=ha.h;
 let⟨_,_,F,M,hm,hb⟩:=d
 bq (Dc M F hr hg hm hb .nil eg ha hdb he hpl) λσ H Q ρ M QW hE ht hQ=>⟨ρ,M,_,hE,ht,λds M1 h1 vs H1 p q dx hq hdx ne=>by
  show spN X.K T (V.ref q::(vs++[])) _ _ E0;rw[z8r];have hqd:upd H1 dx (.own q) q=none:=by rw[aH (Ne.symm ne)];exact hq
  have s1:=bg hdx (.own q);have s2:=bg hqd (.ins C dx []);obtain⟨e1,e2⟩:=fK (c:=.ins C [] []) (p.ok.up s1) hqd s2 bj ⟨rfl,[],rfl,rfl,.nil⟩;have pt:PostT X.K H1 M1 _ _:=(PostT.of p.ok s1).trans ⟨e1,e2⟩;exact⟨.ptr q::ds,_,_,.cons (.ptr q) (aQ pt.same p.rep),e2,h1 q (p.ok.fresh hq),λd M' y4 v H' p'=>by obtain⟨hd,hq'⟩:=y4;subst hd;cases p'.rep;exact⟨rfl,hQ _ M' hq' _ H' ⟨(p.toPostT.trans pt).trans p'.toPostT,.ptr q⟩⟩⟩⟩⟩
end
structure EnvN (K:K0) (P:Hp) (n:Nat) (σ:St) (ρ:ah) (H:Hp) (M:Sto):Prop where
 q:EnvQ K σ ρ H M
 same:Same P (PH H M)
 lσ:σ.length=n
 lρ:ρ.length=n
noncomputable def hJ(K:K0)(P:Hp)(n:Nat)(De:Ends):EndN where
 nx:=λρ M=>∀σ H,EnvN K P n σ ρ H M->De.nx σ H
 bk:=λρ M=>∀σ H,EnvN K P n σ ρ H M->De.bk σ H
 ct:=λρ M=>∀σ H,EnvN K P n σ ρ H M->De.ct σ H
 rt:=λd M=>∀v H,Same P (PH H M)->MOk K H M->Rep K (PH H M) v d->De.rt v H
structure LeE (A B:EndN):Prop where
 nx:∀ρ M,A.nx ρ M->B.nx ρ M
 bk:∀ρ M,A.bk ρ M->B.bk ρ M
 ct:∀ρ M,A.ct ρ M->B.ct ρ M
 rt:∀d M,A.rt d M->B.rt d M
def twS(K:K0)(P:Hp)(n:Nat)(t:NTS):TS:=λDe σ H=>∃ρ M Ew,EnvN K P n σ ρ H M/\t Ew ρ M/\LeE Ew (hJ K P n De)
abbrev NS(X:Cx)(st:Stmt)(t:NTS):Prop:=∀P n,PS X st (twS X.K P n t)
structure YS (X:Cx) (st:Stmt) (t:NTS):Prop where
 h:NS X st t
abbrev NSs(X:Cx)(st:o_)(t:NTS):Prop:=∀P n,PSs X st (twS X.K P n t)
structure YSs (X:Cx) (st:o_) (t:NTS):Prop where
 h:NSs X st t
def dJ{e:Stmt}{t:TS}{P:Hp}{k:Nat}{n:NTS}(h:PS X e t)(i:∀De σ H ρ M Ew,EnvN X.K P k σ ρ H M->n Ew ρ M->LeE Ew (hJ X.K P k De)->t De σ H):PS X e (twS X.K P k n):=dG h λDe σ H y4=>by obtain⟨ρ,M,QW,hE,ht,hQ⟩:=y4;exact i De σ H ρ M QW hE ht hQ
def xn{e:o_}{t:TS}{P:Hp}{k:Nat}{n:NTS}(h:PSs X e t)(i:∀De σ H ρ M Ew,EnvN X.K P k σ ρ H M->n Ew ρ M->LeE Ew (hJ X.K P k De)->t De σ H):PSs X e (twS X.K P k n):=fg h λDe σ H y4=>by obtain⟨ρ,M,QW,hE,ht,hQ⟩:=y4;exact i De σ H ρ M QW hE ht hQ
def EnvN.next{P:Hp}(h:EnvN K P n σ ρ H M)(p:PostT K H M H' M'):EnvN K P n σ ρ H' M':=⟨h.q.next p,h.same.trans p.same,h.lσ,h.lρ⟩
def EnvN.set{P:Hp}(h:EnvN K P n σ ρ H M){d:D}(r:Rep K (PH H M) v d):EnvN K P n (σ.set i (some v)) (ρ.set i (some d)) H M:=
 ⟨⟨λj e q=>by
   by_cases e1:j=i
   ·subst e1
    have hl:j<ρ.length:=by have:=(z9e.mp q).1;simpa using this
    rw[z9r hl]at q;cases q;exact⟨v,z9r (by rw[h.lσ,<- h.lρ];exact hl),r⟩
   ·rw[z9g (Ne.symm e1)]at q
    obtain⟨v',h1,h2⟩:=h.q.env j e q;exact⟨v',by rw[z9g (Ne.symm e1)];exact h1,h2⟩,h.q.ok⟩,h.same,by rw[z8e];exact h.lσ,by rw[z8e];exact h.lρ⟩
section
variable {tv:NTE}{k:Nat}{rest bs:o_}{t u:NTS}{f:Str}
def bS:YSs X [] sN:=⟨λP n=>xn pF λDe σ H ρ M Ew hE ht hl=>hl.nx ρ M ht σ H hE⟩
def az(h1:YS X st t)(h2:YSs X rest u):YSs X (st::rest) (ai t u):=⟨have h1:=h1.h;have h2:=h2.h;λP n=>xn (j8 (h1 P n) (h2 P n)) λDe σ H ρ M Ew hE ht hl=>⟨ρ,M,_,hE,ht,λρ' M' h' σ' H' hE'=>⟨ρ',M',Ew,hE',h',hl⟩,hl.bk,hl.ct,hl.rt⟩⟩
def aU(h1:YS X st t):YSs X [st] t:=⟨have h1:=h1.h;λP n=>fg (km (h1 P n)) λDe σ H h=>h⟩
theorem bT(hc:YT X c ka)(ha:YSs X body t)(hb:YSs X bs u):YS X (.If c body bs pos) (aG ka t u):=⟨have hc:=hc.h;have ha:=ha.h;have hb:=hb.h;λP n=>dJ (pG hc (ha P n) (hb P n)) λDe σ H ρ M Ew hE ht hl=>⟨ρ,M,_,hE.q,ht,λk M1 hk H1 p1=>by
 cases k with
 |true=>exact dX ⟨ρ,M1,Ew,hE.next p1,hk.1 rfl,hl⟩
 |false=>exact dW ⟨ρ,M1,Ew,hE.next p1,hk.2 rfl,hl⟩⟩⟩
def b6(he:YE X a ta):YS X (.Return (some a) pos) (aJ ta):=⟨have he:=he.h;λP n=>dJ (i8 he) λDe σ H ρ M Ew hE ht hl=>⟨ρ,M,_,hE.q,ht,λd M1 h1 v H1 p1=>hl.rt d M1 h1 v H1 (hE.same.trans p1.same) p1.ok p1.rep⟩⟩
def xo(i:Nat)(hN:X.N[i]?=some x<|>J7)(hv:Vis X.env.scope x<|>J9)(hd:DB x<|>J8)(hcd:(x==("__classdict__" : Str))=false<|>J8):YS X (.Return (some (.Name x p2)) pos) (nz i):=⟨λP n=>dJ (i8 (gG hN hv hd hcd)) λDe σ H ρ M Ew hE y4 hl=>by obtain⟨q,ds,h1,h2,h3⟩:=y4;obtain⟨v,hv,r⟩:=hE.q.env i _ (ig h1);cases r;obtain⟨e1,e2⟩:=Hr (a:=q) hE.q.ok;obtain⟨xs,g1,g2⟩:=fM hE.q.ok h2;refine⟨_,hv,hl.rt _ _ h3 _ H (hE.same.trans e1) e2 (.lst (.inl ?_) (aQ e1 g2))⟩;rw[PH.of rf];exact g1⟩
def aO(i:Nat)(hN:X.N.Nodup)(he:YE X a ta)(hi:X.N[i]?=some x<|>J7)(hx:Loc X.env.scope x<|>J9)(hs:swapsWith a (some (.Name x p2)) pos.line X.env=pure false<|>J7)(hfn:X.fn x=true\/X.env.scope.names.lookup x=some .local<|>J9):YS X (.Assign [.Name x p2] a pos) (aI i ta):=⟨have he:=he.h;λP n=>dJ (ja hN hi hx he hs hfn) λDe σ H ρ M Ew hE ht hl=>⟨ρ,M,_,hE.q,ht,λd M1 h1 v H1 p1=>hl.nx _ M1 h1 _ H1 ((hE.next p1.toPostT).set p1.rep)⟩⟩
theorem xp{K:K0}{P:Hp}{n:Nat}{Q:St->Hp->Prop}{H:Hp}{M:Sto}:∀{is:z8} {ds:E_} {xs:C_} {σ:St} {ρ:ah},EnvN K P n σ ρ H M->is.length=ds.length->Reps K (PH H M) xs ds ->
  (∀σ',EnvN K P n σ' ((is.zip ds).foldl (λr p=>r.set p.1 (some p.2)) ρ) H M->Q σ' H)->ju is xs σ H Q
 |[],[],_,σ,ρ,hE,_,r,hQ=>by cases r;exact⟨rfl,hQ σ hE⟩
 |[],_::_,_,_,_,_,h,_,_=>by cases h
 |_::_,[],_,_,_,_,h,_,_=>by cases h
 | i::is,d::ds,_,σ,ρ,hE,h,r,hQ=>by
   cases r with
   |cons r1 r2=>exact⟨_,_,rfl,xp (hE.set r1) (by simpa using h) r2 hQ⟩
def HF(is:z8){ts:l_}{k:Nat}(hc:X.calm=true)(hN:X.N.Nodup)(he:YE X a ta)(ht:Tgs X ts is)(hn:(assignEach ts X.env).length=is.length<|>J7)(hst:(assignEach ts X.env).findIdx? (·.1)=none<|>J7)(hs:swapsWithSole [.Tuple ts k p2] a pos.line X.env=pure false<|>J7)(hw:swappedStores [.Tuple ts k p2] a X.env=pure none<|>J7)(h1:(assignEach [.Tuple ts k p2] X.env).map (·.2)=[assign (.Tuple ts k p2) X.env]<|>J7):YS X (.Assign [.Tuple ts k p2] a pos) (rl is ta):=⟨have he:=he.h;λP n=>
 dJ (pJ he (j9 hc (Tgs.ok hN ht) hn hst) hs hw h1) λDe σ H ρ M Ew hE hw' hl=>⟨ρ,M,_,hE.q,hw',λd M1 y4 v H1 p1=>by obtain⟨ds,e1,e2,h2⟩:=y4;subst e1;obtain⟨q,xs,rfl,hq,hx⟩:=qt p1.rep;have hE1:=hE.next p1.toPostT;exact⟨q,xs,rfl,.inl (cW (aR _ _) hq),by rw[hx.length];exact e2,xp hE1 e2.symm hx λσ' hE'=>hl.nx _ M1 h2 σ' H1 hE'⟩⟩⟩
theorem rH:∀{ns:j_} {vs:C_} {i:Nat} {f:Str} (y:V),vs.length=ns.length->ns.Nodup->ns[i]?=some f->cx f y (ns.zip vs)=ns.zip (vs.set i y)
 |[],_,_,_,_,_,_,h=>by simp at h
 |_::_,[],_,_,_,h,_,_=>by simp at h
 |n::ns,w::vs,0,f,y,_,_,h=>by simp at h;subst h;simp[cx]
 | n::ns,w::vs,i+1,f,y,hl,hn,h=>by
   have h1':ns[i]?=some f:=by simpa using h
   have ne:¬(n=f):=λe=>(z8j.mp hn).1 (e▸z8b h1')
   rw[z7j,List.set_cons_succ,z7j,cx,if_neg ne,rH y (by simpa using hl) (z8j.mp hn).2 h1']
theorem xq:∀{ns:j_} {vs:C_} {f:Str} (y:V),vs.length=ns.length->¬f∈ns->cx f y (ns.zip vs)=(ns++[f]).zip (vs++[y])
 |[],[],f,y,_,_=>rfl
 |[],_::_,_,_,h,_=>by simp at h
 |_::_,[],_,_,h,_=>by simp at h
 | n::ns,w::vs,f,y,hl,hn=>by
   have ne:¬(n=f):=λe=>hn (e▸z9a)
   rw[z7j,z6l,z6l,z7j,cx,if_neg ne,xq y (by simpa using hl) λz=>hn (z9d _ z)]
def jG(cl:Cls X.K C)(nat:NoAttr X.K C f)(ha:YE X a ta)(hv:YE X b tv)(hn:ns.Nodup<|>Q1)(hi:ns[i]?=some f<|>J7)(hlt:ns.length<1000<|>J8)(hs:swapsWith b (some (.Attribute a f p2)) pos.line X.env=pure false<|>J7):
  YS X (.Assign [.Attribute a f p2] b pos) (gY C ns i ta tv):=⟨have ha:=ha.h;have hv:=hv.h;λP n=>
 dJ (pW ha hv hs) λDe σ H ρ M Ew hE ht hl=>⟨ρ,M,_,hE.q,ht,λd M1 h1 v H1 p1=>⟨ρ,M1,_,hE.q.next p1.toPostT,h1,λx M2 y4 vx H2 p2=>by obtain⟨q,ds,ex,hm,h2⟩:=y4;subst ex;cases p2.rep;obtain⟨dx,vs,g1,gl,g2⟩:=gs p2.ok hm;have rv:=aw p2.same p1.rep;refine⟨q,C,dx,_,rfl,g1,cl,nat,by rw[List.length_zip,gl,Nat.min_self];exact hlt,?_⟩;rw[rH _ gl hn hi];obtain⟨e1,e2⟩:=iI (o:=.ins C dx (ns.zip (vs.set i v))) (c:=.ins C ns (ds.set i d)) p2.ok hm ⟨rfl,_,rfl,by rw[z8e];exact gl,g2.set rv i⟩;exact hl.nx _ _ h2 σ _ ((hE.next (p1.toPostT.trans p2.toPostT)).next ⟨e1,e2⟩)⟩⟩⟩
def dL(cl:Cls X.K C)(nat:NoAttr X.K C f)(ha:YE X a ta)(hv:YE X b tv)(hi:¬f∈ns<|>Q1)(hlt:ns.length<1000<|>J8)(hs:swapsWith b (some (.Attribute a f p2)) pos.line X.env=pure false<|>J7):
  YS X (.Assign [.Attribute a f p2] b pos) (db C ns f ta tv):=⟨have ha:=ha.h;have hv:=hv.h;λP n=>
 dJ (pW ha hv hs) λDe σ H ρ M Ew hE ht hl=>⟨ρ,M,_,hE.q,ht,λd M1 h1 v H1 p1=>⟨ρ,M1,_,hE.q.next p1.toPostT,h1,λx M2 y4 vx H2 p2=>by obtain⟨q,ds,ex,hm,h2⟩:=y4;subst ex;cases p2.rep;obtain⟨dx,vs,g1,gl,g2⟩:=gs p2.ok hm;have rv:=aw p2.same p1.rep;refine⟨q,C,dx,_,rfl,g1,cl,nat,by rw[List.length_zip,gl,Nat.min_self];exact hlt,?_⟩;rw[xq _ gl hi];obtain⟨e1,e2⟩:=iI (o:=.ins C dx ((ns++[f]).zip (vs++[v]))) (c:=.ins C (ns++[f]) (ds++[d])) p2.ok hm ⟨rfl,_,rfl,by simp[gl],g2.append (.cons rv .nil)⟩;exact hl.nx _ _ h2 σ _ ((hE.next (p1.toPostT.trans p2.toPostT)).next ⟨e1,e2⟩)⟩⟩⟩
theorem xr:∀{ns:j_} {vs:C_} {i:Nat} {f:Str},vs.length=ns.length->ns[i]?=some f->((aX ns vs).any λkv=>decide (kv.1=(Sum.inr f:Key)))=true
 |[],_,_,_,_,h=>by simp at h
 |_::_,[],_,_,h,_=>by simp at h
 |n::ns,w::vs,0,f,_,h=>by simp at h;subst h;simp[aX]
 |n::ns,w::vs,i+1,f,hl,h=>by have ih:=xr (ns:=ns) (vs:=vs) (i:=i) (f:=f) (by simpa using hl) (by simpa using h);have e:aX (n::ns) (w::vs)=(Sum.inr n,w)::aX ns vs:=rfl;rw[e,z6k,ih,Bool.or_true]
theorem xu:∀{ns:j_} {vs:C_} {f:Str} (y:V),¬f∈ns->(aX ns vs).map (λkv=>if kv.1=(Sum.inr f:Key)then(kv.1,y)else kv)=aX ns vs
 |[],_,_,_,_=>rfl
 |_::_,[],_,_,_=>rfl
 | n::ns,w::vs,f,y,h=>by
   have e:aX (n::ns) (w::vs)=(Sum.inr n,w)::aX ns vs:=rfl;have ne:¬((Sum.inr n:Key)=Sum.inr f):=λq=>h (z5o q▸z9a)
   rw[e,z9p,if_neg ne,xu y λz=>h (z9d _ z)]
theorem xv:∀{ns:j_} {vs:C_} {i:Nat} {f:Str} (y:V),vs.length=ns.length->ns.Nodup->ns[i]?=some f->(aX ns vs).map (λkv=>if kv.1=(Sum.inr f:Key)then(kv.1,y)else kv)=aX ns (vs.set i y)
 |[],_,_,_,_,_,_,h=>by simp at h
 |_::_,[],_,_,_,h,_,_=>by simp at h
 |n::ns,w::vs,0,f,y,_,hn,h=>by simp at h;subst h;have e:aX (n::ns) (w::vs)=(Sum.inr n,w)::aX ns vs:=rfl;rw[e,z9p,if_pos rfl,xu y (z8j.mp hn).1];rfl
 | n::ns,w::vs,i+1,f,y,hl,hn,h=>by
   have h1':ns[i]?=some f:=by simpa using h
   have e:aX (n::ns) (w::vs)=(Sum.inr n,w)::aX ns vs:=rfl;have ne:¬((Sum.inr n:Key)=Sum.inr f):=λq=>(z8j.mp hn).1 (z5o q▸z8b h1')
   rw[e,z9p,if_neg ne,xv y (by simpa using hl) (z8j.mp hn).2 h1'];rfl
def HG(y:V)(hl:vs.length=ns.length)(hn:ns.Nodup)(hi:ns[i]?=some f):cJ (aX ns vs) (.inr f) y=aX ns (vs.set i y):=by unfold cJ;rw[if_pos (xr hl hi),xv y hl hn hi]
def rJ{j}(hr:Room k X.A)(ha:YE X a ta)(hv:YE X b tv)(hn:ns.Nodup<|>Q1)(hi:ns[i]?=some f<|>J7)(hlt:ns.length<1000<|>J8)(hs:swapsWith b (some (.Subscript a (.Constant (.str f) j p3) p2)) pos.line X.env=pure false<|>J7):
  YS X (.Assign [.Subscript a (.Constant (.str f) j p3) p2] b pos) (lq ns i ta tv):=⟨have ha:=ha.h;have hv:=hv.h;λP n=>
 dJ (va (by have:=hr.un;ext) ha gH hv hs) λDe σ H ρ M Ew hE ht hl=>⟨ρ,M,_,hE.q,ht,λd M1 h1 v H1 p1=>⟨ρ,M1,_,hE.q.next p1.toPostT,h1,λx M2 y4 vx H2 p2=>by
  obtain⟨q,ds,ex,hm,h2⟩:=y4;subst ex;cases p2.rep;obtain⟨vs,g1,gl,g2⟩:=jE p2.ok hm;have rv:=aw p2.same p1.rep;have hz:(aX ns vs).length<sizeLine:=by
   have:(aX ns vs).length=ns.length:=by simp[aX,gl]
   rw[this,z7q];ext
  refine⟨q,_,rfl,.inl ⟨_,.inr f,g1,rfl,hz,rfl⟩,?_⟩;rw[HG _ gl hn hi];obtain⟨e1,e2⟩:=iI (o:=.dK (aX ns (vs.set i v))) (c:=.dic ns (ds.set i d)) p2.ok hm ⟨_,rfl,by rw[z8e];exact gl,g2.set rv i⟩;exact hl.nx _ _ h2 σ _ ((hE.next (p1.toPostT.trans p2.toPostT)).next ⟨e1,e2⟩)⟩⟩⟩
end
section
variable {tv:NTE}{k:Nat}{t tbd:NTS}
def HH(ha:NE X a ta)(he:NE X e tv)(hbase:attributeBase a "append" X.env (eval a X.env)=eval a X.env)(hfew:(((backTo cp (starEach [e] X.env)).all (λx=>!x.1)&&(backToKw cp (keywordEach [] X.env)).all (λx=>x.1.isSome)
   && decide (([e]:l_).length+([]:n_).length+(if([]:n_).isEmpty then 0 else 1)<30))=true)<|>J7)(hline:(ap.endLine==cp.line)=true<|>J7)(hs:SE e [] X<|>J7)(hplain:BT cp [] X<|>J7)(hsw:swapsWith (.Call (.Attribute a "append" ap) [e] [] cp) none pos.line X.env=pure false<|>J7):
  NS X (.Expr (.Call (.Attribute a "append" ap) [e] [] cp) pos) (gZ ta tv):=λP n=>
 dJ (lZ (ic z4c z5x z5y pY ha (bP he c5 hs) hbase hfew hline hs hplain) hsw) λDe σ H ρ M Ew hE ht hl=>⟨ρ,M,_,hE.q,ht,λx M1 y4 vx H1 p1=>by obtain⟨q,ds0,ex,hm0,h1⟩:=y4;subst ex;cases p1.rep;obtain⟨xs0,g0,_⟩:=fM p1.ok hm0;refine⟨.inl ⟨rfl,xs0,.inl (.inl g0)⟩,ρ,M1,_,hE.q.next p1.toPostT,h1,λv M2 y4 vv H2 p2=>?_⟩;obtain⟨ds,hm,hz,h2⟩:=y4;obtain⟨xs,g1,g2⟩:=fM p2.ok hm;have len:=g2.length;refine⟨q,xs,vv,rfl,rfl,g1,z9v (show xs.length<100000 by ext) (by decide),?_⟩;obtain⟨e1,e2⟩:=iI (o:=.lst (xs++[vv])) (c:=.lst (ds++[v])) p2.ok hm (g2.append (.cons p2.rep .nil));exact hl.nx _ _ h2 σ _ ((hE.next (p1.toPostT.trans p2.toPostT)).next ⟨e1,e2⟩)⟩
def HI(ha':NE X a ta)(hb:NE X b ti)(he:NE X e tv)(ha:(∀v,assign (.Subscript a b p3) X.env v=(do
   let ov <- holding [v] (eval a X.env);let iv <- holding [v,ov] (eval b X.env)
   standAt p3
   holding [v,ov,iv] (setItem ov iv v)
   release [v,ov,iv] []))<|>Q0)(hs:swapsWithSole [.Subscript a b p3] e pos.line X.env=pure false<|>J7)(hw:swappedStores [.Subscript a b p3] e X.env=pure none<|>J7)(h1:(assignEach [.Subscript a b p3] X.env).map (·.2)=[assign (.Subscript a b p3) X.env]<|>J7):
  NS X (.Assign [.Subscript a b p3] e pos) (lr ta ti tv):=λP n=>
 dJ (pJ he (Cu ha' hb Do ha) hs hw h1) λDe σ H ρ M Ew hE ht hl=>⟨ρ,M,_,hE.q,ht,λd M1 h1 v H1 p1=>⟨ρ,M1,_,hE.q.next p1.toPostT,h1,λx M2 h2 vx H2 p2=>⟨ρ,M2,_,(hE.q.next p1.toPostT).next p2.toPostT,h2,λy M3 y4 vy H3 p3=>by obtain⟨q,ds,m,j,ex,hm,ey,hj,h3⟩:=y4;subst ex ey;cases p2.rep;cases p3.rep;obtain⟨xs,g1,g2⟩:=fM p3.ok hm;have rv:=aw (p2.same.trans p3.same) p1.rep;have len:=g2.length;obtain⟨e1,e2⟩:=iI (o:=.lst (xs.set j v)) (c:=.lst (ds.set j d)) p3.ok hm (g2.set rv j);exact⟨q,xs,m,j,rfl,rfl,g1,by rw[len];exact hj,hl.nx _ _ h3 σ _ ((hE.next ((p1.toPostT.trans p2.toPostT).trans p3.toPostT)).next ⟨e1,e2⟩)⟩⟩⟩⟩
def xw{P P1:Hp}{N:St->Hp->Prop}{body:D->NTS}{r:E_}(hs:Same P P1)(hl:LeE Ew (hJ K P n De))(hN:∀ρ M σ H,EnvN K P1 n σ ρ H M->ce body r Ew ρ M->N σ H):
  LeE {Ew with nx:=λρ M=>ce body r Ew ρ M,ct:=λρ M=>ce body r Ew ρ M,bk:=Ew.nx} (hJ K P1 n {De with nx:=N,ct:=N,bk:=De.nx}) where
 nx:=λρ M h σ H hE=>hN ρ M σ H hE h
 ct:=λρ M h σ H hE=>hN ρ M σ H hE h
 bk:=λρ M h σ H hE=>hl.nx ρ M h σ H ⟨hE.q,hs.trans hE.same,hE.lσ,hE.lρ⟩
 rt:=λd M h v H h1 h2 h3=>hl.rt d M h v H (hs.trans h1) h2 h3
def HJ(t:Nat)(hN:X.N.Nodup)(hc:X.calm=true)(hi:YE X a ta)(hb:YSs X body tbd)(hp:PassesOwn (model X.prog X.w) X.A X.env X.xe<|>Q3)(hxN:X.N[t]?=some x<|>J7)(hx:Loc X.env.scope x<|>J9)(hfn:X.fn x=true\/X.env.scope.names.lookup x=some .local<|>J9)(hs:(∀x,foldedSetIterable a X.env x=pure x)<|>Q0):YS X (.For (.Name x p2) a body [] pos) (nA t ta tbd):=⟨have hi:=hi.h;have hb:=hb.h;λP n=>by
 have hb':PSs X body (λDe σ H=>∃P1,twS X.K P1 n tbd De σ H):=λG_ s σ H De I y4=>by obtain⟨P1,h⟩:=y4;exact hb P1 n G_ s σ H De I h
 refine dJ (i9 hp hc (m7 hi) (gb hN hxN hx hfn) hb' hs) λDe σ H ρ M Ew hE ht hl=>⟨ρ,M,_,hE.q,ht,λd M1 y4 v H1 p1=>?_⟩
 obtain⟨ds,hds,h1⟩:=y4;have hE1:=hE.next p1.toPostT;have hsd:=l8 hds;obtain⟨q,xs,rfl,hq,hx',hA⟩:=fF p1.rep hsd.2 hsd.1;have len:=hx'.length;refine⟨q,rfl,⟨xs,(aR _ _).seq hq⟩,?_⟩;refine uh (K:=X.K) (a:=q) (xs:=xs) (g:=cg t) (tb:=λDe σ H=>∃P1,twS X.K P1 n tbd De σ H) (D:=De) (λi σ' H'=>∃ρ' M',EnvN X.K (PH H1 M1) n σ' ρ' H' M'/\ce (λx E ρ M=>tbd E (ρ.set t (some x)) M) (ds.drop i) Ew ρ' M')
  ⟨ρ,M1,⟨hE1.q,Same.refl _,hE1.lσ,hE1.lρ⟩,by simpa using h1⟩ ?_ ?_ ?_
 ·rintro i σ' H' _ ⟨ρ',M',hE',_⟩
  exact(aR _ _).seq (hE'.same.seq hq)
 ·rintro i y σ' H' hy ⟨ρ',M',hE',hf'⟩
  obtain⟨dy,h4,h5⟩:=hx'.getV hy;have hi':i<ds.length:=(z9e.mp h4).1;have ed:ds.drop i=dy::ds.drop (i+1):=by rw[z8c hi'];have e2:ds[i]=dy:=(z9e.mp h4).2;rw[e2]
  rw[ed]at hf';exact⟨PH H1 M1,_,M',_,hE'.set (aw hE'.same h5),hf',xw hE1.same hl λρ M σ H hE h=>⟨ρ,M,hE,h⟩⟩
 ·rintro σ' H' ⟨ρ',M',hE',hf'⟩
  rw[len,z6c]at hf';exact hl.nx _ _ hf' σ' H' ⟨hE'.q,hE1.same.trans hE'.same,hE'.lσ,hE'.lρ⟩⟩
def xx{P:Hp}{m t:Nat}(hE:EnvN K P n σ ρ H M)(hl:LeE Ew (hJ K P n De))(h:ce (λx E ρ M=>tbd E (ρ.set t (some x)) M) ((List.range m).map λk=>.int (lo+(k:Nat))) Ew ρ M):
  ∃W:Nat->Nat->St->Hp->Prop,(∃m,W 0 m σ H)/\∀i m' σ H,W i m' σ H ->
    ((Itr lo m).stop i H/\De.nx σ H)\/((Itr lo m).go i H/\∃N:St->Hp->Prop,(∀σ' H',N σ' H'->∃m'',m''<m'/\W (i+1) m'' σ' H')/\∀x H',(Itr lo m).yld i H x H'->cg t x σ H' λσ2 H2=>twS K P n tbd {De with nx:=N,ct:=N,bk:=De.nx} σ2 H2):=by
 refine ui (lo:=lo) (n:=m) (g:=cg t) (tb:=twS K P n tbd) (D:=De) (λi σ' H'=>∃ρ' M',EnvN K P n σ' ρ' H' M'/\ce (λx E ρ M=>tbd E (ρ.set t (some x)) M) (((List.range m).map λk=>D.int (lo+(k:Nat))).drop i) Ew ρ' M') ⟨ρ,M,hE,by simpa using h⟩ ?_ ?_
 ·rintro i σ' H' hi ⟨ρ',M',hE',hf'⟩
  have ed:((List.range m).map λk=>D.int (lo+(k:Nat))).drop i=.int (lo+i)::((List.range m).map λk=>D.int (lo+(k:Nat))).drop (i+1):=by rw[z8c (by simpa using hi)];simp
  rw[ed]at hf';exact⟨_,M',_,hE'.set (.int _),hf',xw (Same.refl _) hl λρ M σ H hE h=>⟨ρ,M,hE,h⟩⟩
 ·rintro σ' H' ⟨ρ',M',hE',hf'⟩
  rw[z7f (by simp)]at hf';exact hl.nx _ _ hf' σ' H' hE'
def xy(t:Nat)(hN:X.N.Nodup)(hc:X.calm=true)(mr:X.mg "range"=none)(hi:YA X [a] tas)(hb:YSs X body tbd)(hp:PassesOwn (model X.prog X.w) X.A X.env X.xe<|>Q3)(hg:Gl X "range"<|>J7)(hst:starEach [a] X.env=[(false,eval a X.env)]<|>J7)(hxN:X.N[t]?=some x<|>J7)(hx:Loc X.env.scope x<|>J9)(hfn:X.fn x=true\/X.env.scope.names.lookup x=some .local<|>J9)(hs:(∀x,foldedSetIterable (.Call (.Name "range" pn) [a] [] pr) X.env x=pure x)<|>Q0):YS X (.For (.Name x p2) (.Call (.Name "range" pn) [a] [] pr) body [] pos) (nB t tas tbd):=⟨have hi:=hi.h;have hb:=hb.h;λP n=>
 dJ (i9 hp hc (m8 hg mr hi hst) (gb hN hxN hx hfn) (hb P n) hs) λDe σ H ρ M Ew hE ht hl=>⟨ρ,M,_,hE.q,ht,λds M1 y4 vs H1 p1=>by obtain⟨j,e1,hj,h1⟩:=y4;subst e1;obtain⟨v,rfl,r⟩:=fH p1.rep;cases r;exact⟨j,rfl,hj.1,hj.2,xx (hE.next p1.toPostT) hl (by simpa using h1)⟩⟩⟩
def HK(t:Nat)(hN:X.N.Nodup)(hc:X.calm=true)(mr:X.mg "range"=none)(hi:YA X [a,b] tas)(hb:YSs X body tbd)(hp:PassesOwn (model X.prog X.w) X.A X.env X.xe<|>Q3)(hg:Gl X "range"<|>J7)(hst:starEach [a,b] X.env=[(false,eval a X.env),(false,eval b X.env)]<|>J7)(hst2:starEach [b] X.env=[(false,eval b X.env)]<|>J7)(hxN:X.N[t]?=some x<|>J7)(hx:Loc X.env.scope x<|>J9)(hfn:X.fn x=true\/X.env.scope.names.lookup x=some .local<|>J9)(hs:(∀x,foldedSetIterable (.Call (.Name "range" pn) [a,b] [] pr) X.env x=pure x)<|>Q0):YS X (.For (.Name x p2) (.Call (.Name "range" pn) [a,b] [] pr) body [] pos) (nC t tas tbd):=⟨have hi:=hi.h;have hb:=hb.h;λP n=>
 dJ (i9 hp hc (CB hg mr hi hst hst2) (gb hN hxN hx hfn) (hb P n) hs) λDe σ H ρ M Ew hE ht hl=>⟨ρ,M,_,hE.q,ht,λds M1 y4 vs H1 p1=>by obtain⟨i,j,e1,hi',hj,h1⟩:=y4;subst e1;obtain⟨v,w,rfl,r1,r2⟩:=qj p1.rep;cases r1;cases r2;exact⟨i,j,rfl,⟨hi'.1,hi'.2,hj.1,hj.2⟩,xx (hE.next p1.toPostT) hl h1⟩⟩⟩
end
def HL{k:Nat}{body:NTS}(h1:ps.length=np)(h2:N.length=n)(h3:T=mkN np n body)(Fn:Fun K x qual st f fd)(S:FnScope N ps (ao st))(h:∀(cdv:Value) (A:Around) (outer:List PySem.Env) (s:Shared) (H:Hp) (E:XK),Room k (A.deeper (envOfC qual (ao st) s.heap.objs.size f cdv)) ->
   NSs (cG CX0 P w K mg base N qual (ao st) f cdv A outer s H E).nox (cO st) body):
  FnOk P w K mg base CX0 (k+1) f fd ps (spN K T):=by
 subst h1 h2 h3;have hpl:ps.length<=N.length:=by have:=z8u List.length S.pre;rw[z8a]at this;ext
 refine Fn.ok S (λvs H Q E h=>?_) (λcdv A outer s H vs Q E hr h'=>?_)
 ·obtain⟨ds,M,QW,r,_,hg,_⟩:=h
  rw[r.length,hg.1]
 ·obtain⟨ds,M,QW,r,hok,⟨hl,ht⟩,hQ⟩:=h'
  have lv:=r.length;refine⟨_,h cdv A outer s H E hr (PH H M) N.length,ds.map some++List.replicate (N.length-ps.length) none,M,_,⟨⟨λi d q=>?_,hok⟩,Same.refl _,?_,?_⟩,ht,λρ M' hn σ' H' hE=>?_,λρ M' hn=>hn.elim,λρ M' hn=>hn.elim,λd M' hd v H' e1 e2 e3=>?_⟩
  ·have get:ds[i]?=some d:=by
    by_cases hi:i<ds.length
    ·rw[z8f (by simpa using hi),z9x]at q
     cases e:ds[i]? with
     |none=>rw[e]at q;cases q
     |some z=>rw[e]at q;simpa using q
    ·rw[z9y (by simpa using hi),z7i]at q
     split at q<;>cases q
   obtain⟨v,h2,h3⟩:=r.get get;refine⟨v,?_,h3⟩;unfold L2.start;have hi:i<vs.length:=(z9e.mp h2).1;rw[z8f (by simpa using hi),z9x,h2];rfl
  ·show(L2.start N vs).length=N.length
   unfold L2.start;rw[z9f,z9c,z8s];ext
  ·rw[z9f,z9c,z8s]
   ext
  ·exact hQ _ M' hn _ H' ⟨⟨hE.same,hE.q.ok⟩,.non⟩
  ·exact hQ d M' hd v H' ⟨⟨e1,e2⟩,e3⟩
def HM{a:Addr}{ns:z9}{E:XK}(hS:SqL K H a (ns.map V.int))(h:T [.scr ns] (λ_=>none) λd _=>d=.bl true):spN K T [.ref a] H (λv _=>v=.bl true) E:=by
 have e:Same H (PH H λ_=>none):=vg (λ_ _ q=>q) λb hb=>absurd rfl hb.1
 have ok:MOk K H (λ_=>none):=λa c hc=>by cases hc
 refine⟨[.scr ns],λ_=>none,_,.cons (.scr (e.seq hS)) .nil,ok,h,λd M' hd v H' p=>?_⟩;subst hd;cases p.rep;rfl
def PPV(X:Cx)(pos:Pos)(keys:List (Option Expr))(vals:l_)(ns:j_)(as:FEs)(es:J_):Prop:=
 ∃trs,PPs X pos keys vals trs/\keys.length=ns.length/\∀σ H Q,(∃ρ ds,EnvR X.K H σ ρ/\as ρ=some ds/\∀vs H',Posts X.K σ ρ H es ds vs H'->Q ((ns.zip vs).map λp=>(V.str p.1,p.2)) H')->mq trs σ H Q
structure YP (X:Cx) (pos:Pos) (keys:List (Option Expr)) (vals:l_) (ns:j_) (as:FEs) (es:J_):Prop where
 h:PPV X pos keys vals ns as es
section
variable {vals:l_}
def HN:YP X pos [] [] [] aj []:=⟨⟨[],DY,rfl,λσ H Q y4=>by obtain⟨ρ,ds,hE,hf,hQ⟩:=y4;cases hf;exact hQ [] H ⟨Same.refl H,.nil,λ_ _ _=>.nil⟩⟩⟩
def rK{j}(ha:JE X a fa ea)(hr:YP X pos keys vals ns as eb):YP X pos (some (.Constant (.str x) j p2)::keys) (a::vals) (x::ns) (aa fa as) (ea++eb):=⟨by have ha:=ha.h;have hr:=hr.h;obtain⟨trs,h1,hl,h2⟩:=hr;refine⟨_,DZ gH ha h1,by simp[hl],λσ H Q y4=>?_⟩;obtain⟨ρ,ds,hE,hf,hQ⟩:=y4;obtain⟨d,h3,hf⟩:=bind_some hf;obtain⟨dr,h4,hf⟩:=bind_some hf;cases hf;refine⟨ρ,d,hE,h3,λv H1 p1=>h2 σ H1 _ ⟨ρ,dr,hE.mono p1.same,h4,λvs H2 p2=>hQ (v::vs) H2 ⟨p1.same.trans p2.same,.cons (aw p2.same p1.rep) p2.rep,λA hA hz=>?_⟩⟩⟩;exact .cons (aw (cy p2.same) (p1.av A hA λz q=>hz z (z8i _ q))) (p2.av A (hA.mono p1.same) λz q=>(hz z (z9s _ q)).mono p1.same)⟩
theorem xz:∀{ns:j_} {vs:C_} {acc:List (Key×V)},vs.length=ns.length->ns.Nodup->(∀x∈ns,bQ acc (.inr x)=none)->gd acc (aX ns vs)=acc++aX ns vs
 |[],_,acc,_,_,_=>by simp[aX,gd]
 |_::_,[],_,h,_,_=>by simp at h
 | n::ns,v::vs,acc,hl,hn,ha=>by
   have e:aX (n::ns) (v::vs)=(Sum.inr n,v)::aX ns vs:=rfl;rw[e];show gd (cJ acc (.inr n) v) (aX ns vs)=_;rw[uX v (ha n z9a),xz (by simpa using hl) (z8j.mp hn).2 λx hx=>?_,z7x]
   ·rfl
   ·have ne:n≠x:=λq=>(z8j.mp hn).1 (q▸hx)
    have h0:=ha x (z9d _ hx);unfold bQ at h0 ⊢;rw[List.find?_append];cases hf:List.find? (λkv=>decide (kv.1=(Sum.inr x:Key))) acc with
    |some z=>rw[hf]at h0;cases h0
    |none=>simp[ne]
def HP(h:YP X pos keys vals ns as ea)(hn:ns.Nodup<|>Q1)(hall:keys.all (·.isSome)=true<|>J7)(hl:keys.length=vals.length<|>J7)(h0:keys≠[]:=by simp)(h15:keys.length<=15<|>J8):YE X (.Dict keys vals pos) (rh ns as):=⟨by
 have h:=h.h;obtain⟨trs,h1,hk,h2⟩:=h;refine bq (E3 h1 hall hl h0 h15) λσ H Q ρ M QW hE ⟨ds,hf,hlen,hq⟩ hQ p hp=>h2 σ _ _ ⟨ρ,ds,hE.envR.mono (bg hp _),hf,λvs H2 p2=>?_⟩
 have lv:=p2.rep.length;have hpp:=p2.same _ _ bj;refine⟨hpp,aX ns vs,by simp[aX,kV,Function.comp_def],by simp[aX];ext,?_⟩;have em:gd [] (aX ns vs)=aX ns vs:=by rw[xz ∅ hn λx hx=>DK];rfl
 rw[em];have s0:Same H (upd H2 p (.dK (aX ns vs))):=λb u q=>by rw[aH (c6 q hp)];exact p2.same _ _ (bg hp _ _ _ q)
 have hd:Dom (upd H p (.dK [])) (λb=>inM M b\/b=p):=λb hb=>by
  rcases hb with hb|rfl
  ·exact λz=>hE.ok.dom b hb ((bg hp _).free z)
  ·rw[bj];exact λz=>nomatch z
 have hav:∀e∈ea,Av X.K (upd H p (.dK [])) σ ρ (λb=>inM M b\/b=p) e:=λe _=>by
  have up:Same (PH H M) (aq (upd H p (.dK [])) λb=>inM M b\/b=p):=rE hp;have full:∀(j:Nat) (v:V) (d:D),σ[j]?=some (some v)->ρ[j]?=some (some d)->Rep X.K (aq (upd H p (.dK [])) λb=>inM M b\/b=p) v d:=λj v d h1 h2=>by obtain⟨v',h3,h4⟩:=hE.env j d h2;rw[h1]at h3;cases h3;exact aw up h4
  cases e with
  |full j=>exact full j
  |el j=>exact λv d h1 h2=>(full j v d h1 h2).el
 have rr:=p2.av _ hd hav;have up2:Same (aq H2 λb=>inM M b\/b=p) (aq (upd H2 p (.dK (aX ns vs))) λb=>inM M b\/b=p):=λb u q=>by obtain⟨n,q⟩:=er q;rw[c7 n,aH λz=>n (.inr z)];exact q
 obtain⟨e1,e2⟩:=fK (c:=.dic ns ds) hE.ok hp s0 bj ⟨vs,rfl,by ext,aQ up2 rr⟩;exact hQ _ _ (hq p (hE.ok.fresh hp)) _ _ ⟨⟨e1,e2⟩,.ptr p⟩⟩
end
section
variable {g:TG}{te:TE}{y:Str}
def nM(B:BlkOk X scope own J3 cn)(hc:X.calm=true)(hi:PI X tg iter wi)(hg:∀s H cl ex,PG (blk X (own++cn) s H scope cl ex) tg g)(ht:∀s H cl ex,PTs (blk X (own++cn) s H scope cl ex) ifs tt)(he:∀s H cl ex,PE (blk X (own++cn) s H scope cl ex) elt te)(hs:(∀x,foldedSetIterable iter X.env x=pure x)<|>Q0):
  PE X (.ListComp elt [⟨tg,iter,ifs,0⟩] scope pos) (kZ own.length J3 wi g tt te):=by
 intro G_ s σ H Q I h;obtain⟨cl,hclos,hcl,hha⟩:=qw (scope:=scope) (env:=X.env) λx hx hf=>I.ok.has x.1 (B.free x hx hf)
 rw[eval_ListComp];refine z5z (use:=none) rfl hs hclos B.kind B.locals (qA B hc hi hg ht he I h hcl hha (RR:=λacc C=>compPost (model X.prog X.w) X.A X.xe none (EP X G_ σ Q) acc C) λd c ys H' s' af q=>?_);obtain⟨m,hm⟩:=af.ns;obtain⟨f0,f1,_,f3,f4,f5⟩:=af.cf;refine⟨m,hm,λh' sb=>⟨.ref d,_,af.inv.turned (t':=s'.toks) (it:=c) (λb o hb e=>(sb.2 b hb).trans e) f0 f1 f3 f4 f5,rfl,q⟩⟩
theorem rL{P:Hp}{σb:St}{d:D}(hE:EnvR K P σ ρ)(hlen:σb.length=1+J3.length)(hcap:∀k,1<=k->σb[k]?=(cI σ J3)[k-1]?)(r:Rep K P v d):
  EnvR K P (σb.set 0 (some v)) ((bt 1 J3 ρ).set 0 (some d)):=λj d' q=>by
 cases j with
 |zero=>rw[z9r (by simp[bt])]at q;cases q;exact⟨v,z9r ∅,r⟩
 | succ j=>
   rw[z9g ∅]at q;unfold bt at q;rw[z9y (by simp)]at q;simp only[z8s,Nat.add_sub_cancel,z9x]at q;cases hk:J3[j]? with
   |none=>rw[hk]at q;cases q
   | some k=>
     rw[hk]at q;simp only[z7c,z6t]at q;cases e:ρ[k]? with
     |none=>rw[e]at q;cases q
     |some o'=>rw[e]at q;simp only[z7d]at q;subst q;obtain⟨w,h1,h2⟩:=hE k d' e;refine⟨w,?_,h2⟩;rw[z9g ∅,hcap (j+1) ∅];simp[cI,hk,h1]
def HQ(h:tw K (jz J3 tas tel) σ H Q):kZ 1 J3 (ug (twA K tas)) (cg 0) (λ_ H Q=>Q true H) (tw K tel) σ H Q:=by
 obtain⟨ρ,M,QW,hE,ht,hQ⟩:=h;refine⟨ρ,M,_,hE,ht,λds M1 y4 vs H1 p1=>?_⟩;obtain⟨j,e1,hj,hj2,h1⟩:=y4;subst e1;obtain⟨v,rfl,r⟩:=fH p1.rep;cases r;refine⟨j,rfl,hj.1,hj.2,?_⟩;have hE1:=hE.next p1.toPostT;let L:E_:=(List.range j.toNat).map λk=>.int (k:Nat)
 have lL:L.length=j.toNat:=by simp[L]
 refine⟨λi m ys σb H2=>m=j.toNat-i/\i<=j.toNat/\(σb.length=1+J3.length/\∀k,1<=k->σb[k]?=(cI σ J3)[k-1]?) /\
  ∃M2 done,PostT K H1 M1 H2 M2/\Reps K (PH H2 M2) ys done/\done.length=i/\cT 1 tel (bt 1 J3 ρ) (L.drop i) done M2 λds M2=>QW (.lst ds) M2,?_,?_⟩
 ·refine⟨j.toNat,by simp,z7h _,⟨by simp[cI];ext,λk hk=>?_⟩,M1,[],PostT.refl p1.ok,.nil,rfl,by simpa using h1⟩
  rw[z9y (by simpa using hk)];simp
 ·rintro i m ys σb H2 ⟨rfl,hi,⟨hlen,hcap⟩,M2,done,pt,hr,hdl,hgo⟩
  have lys:=hr.length;refine⟨by rw[z7q];ext,?_⟩;by_cases hlt:i<j.toNat
  ·have ed:L.drop i=.int (i:Nat)::L.drop (i+1):=by rw[z8c ∅];simp[L]
   rw[ed]at hgo;refine .inr ⟨hlt,λx H3 hy=>?_⟩;obtain⟨e3,e4⟩:=hy;subst e3 e4;rw[Int.zero_add];unfold cg;dsimp only;rw[if_pos rfl];refine⟨_,M2,_,⟨rL (hE1.env.mono pt.same) hlen hcap (.int _),pt.ok⟩,hgo,λd M3 h3 w H4 p4=>?_⟩;refine⟨j.toNat-(i+1),by ext,rfl,hlt,⟨by rw[z8e];exact hlen,λk hk=>by rw[z9g ∅];exact hcap k hk⟩,M3,done++[d],pt.trans p4.toPostT,(aQ p4.same hr).append (.cons p4.rep .nil),by simp[hdl],h3⟩
  ·have e:i=j.toNat:=by ext
   subst e;rw[z7f ∅]at hgo;refine .inl ⟨z9l _,λl hl=>?_⟩;have hn:=pt.ok.fresh hl;refine hQ _ M2 hgo _ _ ⟨(p1.toPostT.trans pt).trans (PostT.of pt.ok (bg hl _)),.lst (.inl ?_) (aQ (PH.up (bg hl _)) hr)⟩;rw[PH.of hn];exact bj
def rM(B:BlkOk X scope [y] J3 cn)(hc:X.calm=true)(mr:X.mg "range"=none)(hi:YA X [a] tas)(hg:∀s H cl ex,PG (blk X ([y]++cn) s H scope cl ex) tg (cg 0))(he:∀s H cl ex,YE (blk X ([y]++cn) s H scope cl ex) elt tel)(hgr:Gl X "range"<|>J7)(hst:starEach [a] X.env=[(false,eval a X.env)]<|>J7)(hs:(∀x,foldedSetIterable (.Call (.Name "range" pn) [a] [] pr) X.env x=pure x)<|>Q0):
  YE X (.ListComp elt [⟨tg,.Call (.Name "range" pn) [a] [] pr,[],0⟩] scope pos) (jz J3 tas tel):=⟨have hi:=hi.h;have he:=(λs H cl ex=>(he s H cl ex).h);
 cP (nM B hc (m8 hgr mr hi hst) hg (λ_ _ _ _=>kY) he hs) λ_ _ _ h=>HQ h⟩
end
def xA{g:D->F_}(h:∀x d,g x=some d->aS d=true)(ds:E_)(d:D)(e:ar g ds=some d):aS d=true:=by obtain⟨x,_,h2⟩:=iu e;exact h x d h2
def HR(h:∀x y d,g x y=some d->aS d=true)(ds:E_)(d:D)(e:dj g ds=some d):aS d=true:=by obtain⟨x,y,_,h2⟩:=qk e;exact h x y d h2
def iK(ml:X.mg "len"=none)(ha:YA X [a] tas)(hg:Gl X "len"<|>J7)(he:SE a [] X<|>J7)(hpl:BT pos [] X<|>J7):
  YE X (.Call (.Name "len" p) [a] [] pos) (ci (ar bC) tas):=⟨have ha:=ha.h;rG uS vD ml PySem.boot_len ha (xA λx d h=>by obtain⟨_,_,h⟩:=bind_some h;cases h;rfl) hg (by decide) (by decide) he hpl⟩
def HS(hc:X.calm=true)(ml:X.mg "sum"=none)(ha:YA X [a] tas)(hg:Gl X "sum"<|>J7)(he:SE a [] X<|>J7)(hpl:BT pos [] X<|>J7):
  YE X (.Call (.Name "sum" p) [a] [] pos) (ci (ar f9) tas):=⟨have ha:=ha.h;rG (vG hc) vH ml PyProof.Rows.boot_sum ha (xA λx d h=>by
   unfold f9 at h;split at h
   ·cases h
   ·obtain⟨_,_,h⟩:=bind_some h
    obtain⟨_,_,h⟩:=bind_some h;cases h;rfl) hg (by decide) (by decide) he hpl⟩
def HU(x y d:D)(h:ff x y=some d):aS d=true:=by
 unfold ff at h;split at h<;>cases h
 rfl
def HV(hc:X.calm=true)(ml:X.mg "max"=none)(ha:YA X [a,b] tas)(hg:Gl X "max"<|>J7)(he:SE a [b] X<|>J7)(hpl:BT pos [b] X<|>J7):
  YE X (.Call (.Name "max" p) [a,b] [] pos) (ci (dj ff) tas):=⟨have ha:=ha.h;rG (uw hc) vI ml PyProof.Rows.boot_max ha (HR HU) hg (by decide) (by decide) he hpl⟩
def xB{d:D}(h:MOk K H M)(r:Rep K (PH H M) v d):Rep K H v (vw2 M d):=by
 cases r with
 | ptr a=>
   show Rep K H (.ref a) (match M a with|some (.lst ds)=>.lst (ds.map (vw1 M))|_=>.ptr a)
   set_option tactic.hygienic true in split
   ·rename_i ds hm
    obtain⟨xs,g1,g2⟩:=fM h hm;exact .lst (.inl g1) (nK h g2)
   ·exact .ptr a
 |non=>exact .non
 |bl b=>exact .bl b
 |int b=>exact .int b
 |str b=>exact .str b
 |lst h1 h2=>exact aw (aR _ _) (.lst h1 h2)
 |tup h1 h2=>exact aw (aR _ _) (.tup h1 h2)
 |scr h1=>exact aw (aR _ _) (.scr h1)
 |dct h1=>exact aw (aR _ _) (.dct h1)
theorem lC{K:K0}{H:Hp}{M:Sto}(h:MOk K H M):∀{vs:C_} {ds:E_},Reps K (PH H M) vs ds->Reps K H vs (ds.map (vw2 M))
 |[],_,r=>by cases r;exact .nil
 |_::_,_,r=>by cases r with|cons a t=>exact .cons (xB h a) (lC h t)
theorem xC{K:K0}{H H':Hp}:∀{xs:z9} {vs:C_},Reps K H vs (xs.map D.int)->Reps K H' vs (xs.map D.int)
 |[],_,r=>by cases r;exact .nil
 |_::_,_,r=>by cases r with|cons a t=>cases a;exact .cons (.int _) (xC t)
section
variable {k:Nat}{es:l_}
def HW(d:Def X.prog X.w X.K X.mg X.base x k ps G fr)(hr:Room k X.A)(ha:YA X (a::es) tas)(hg:Gl X x<|>J7)(hdb:DB x<|>J8)(he:SE a es X<|>J7)(hpl:BT pos es X<|>J7):
  YE X (.Call (.Name x p) (a::es) [] pos) (rm G tas):=⟨have ha:=ha.h;
 let⟨_,_,F,hm,hk,hb⟩:=d
 bq (gJ F hr hg hm hk hb .nil eg ha hdb he hpl) λσ H Q ρ M QW hE ht hQ=>⟨ρ,M,_,hE,ht,λds M1 y4 vs H1 p=>by obtain⟨d,hf,hs,hq⟩:=y4;show spF X.K G fr (vs++[]) H1 Q E0;rw[z8r];have rv:=lC p.ok p.rep;exact⟨_,d,rv,hf,λv H' r=>hQ d M1 hq v H' ⟨p.toPostT.trans (PostT.of p.ok r.same),kE hs (r.rep eW (Dom.none _) (aQ (jj _) rv))⟩⟩⟩⟩
def HX(d:Def X.prog X.w X.K X.mg X.base x k ps G true)(hr:Room k X.A)(ha:YA X (a::es) tas)(hg:Gl X x<|>J7)(hdb:DB x<|>J8)(he:SE a es X<|>J7)(hpl:BT pos es X<|>J7):
  YE X (.Call (.Name x p) (a::es) [] pos) (rn G tas):=⟨have ha:=ha.h;
 let⟨_,_,F,hm,hk,hb⟩:=d
 bq (gJ F hr hg hm hk hb .nil eg ha hdb he hpl) λσ H Q ρ M QW hE ht hQ=>⟨ρ,M,_,hE,ht,λds M1 y4 vs H1 p=>by obtain⟨d,hf,⟨xs,ex⟩,hq⟩:=y4;show spF X.K G true (vs++[]) H1 Q E0;rw[z8r];have rv:=lC p.ok p.rep;subst ex;refine⟨_,_,rv,hf,λv H' r=>hQ _ M1 hq v H' ⟨p.toPostT.trans (PostT.of p.ok r.same),?_⟩⟩;obtain⟨l,ys,es,rfl,e2,hl0,hl1,hA⟩:=r.new rfl;cases e2;refine .lst (.inl ?_) (xC (hA eW (Dom.none _) (aQ (jj _) rv)));rw[PH.of (p.ok.fresh hl0)];exact hl1⟩⟩
def HY(d:DefX X.prog X.w X.K X.mg X.base x k ps G)(hr:Room k X.A)(ha:YA X (a::es) tas)(hg:Gl X x<|>J7)(hdb:DB x<|>J8)(he:SE a es X<|>J7)(hpl:BT pos es X<|>J7):
  YE X (.Call (.Name x p) (a::es) [] pos) (rp G tas):=⟨have ha:=ha.h;
 let⟨_,_,F,hm,hk,hb⟩:=d
 bq (gJ F hr hg hm hk hb .nil eg ha hdb he hpl) λσ H Q ρ M QW hE ht hQ=>⟨ρ,M,_,hE,ht,λds M1 y4 vs H1 p=>by
  obtain⟨d,hf,hq⟩:=y4;show spX X.K G (vs++[]) H1 Q E0;rw[z8r];have rv:=lC p.ok p.rep;refine⟨_,_,rv,hf,λv H' r=>hQ _ M1 hq v H' ⟨p.toPostT.trans (PostT.of p.ok r.same),?_⟩⟩;obtain⟨l,bs,dss,rfl,rfl,hnd,hnew,hl,hin⟩:=r.new;have out:∀b,b=l\/b∈bs->¬inM M1 b:=λb hb q=>p.ok.dom b q (hnew b hb)
  refine .lst (.inl ?_) ((hin (inM M1)).reps (λ_ q=>q) λb hb=>out b (.inr hb));show aq H' (inM M1) l=_;rw[c7 (out l (.inl rfl))];exact hl⟩⟩
def HZ(ml:X.mg "list"=none)(ha:YE X a ta)(hg:Gl X "list"<|>J7)(he:SE a [] X<|>J7)(hpl:BT pos [] X<|>J7):
  YE X (.Call (.Name "list" p) [a] [] pos) (rq ta):=⟨have ha:=ha.h;
 bq (gK uT hg ml (by decide +kernel) (bP ha c5 he) (by decide) (by decide) he hpl) λσ H Q ρ M QW hE ht hQ=>by
  refine⟨ρ,M,_,hE,ht,λd M1 y4 v H1 p1=>?_⟩;obtain⟨ds,hd,hq⟩:=y4;have key:∃q xs,v=.ref q/\SqL X.K H1 q xs/\Reps X.K (PH H1 M1) xs ds:=by
   cases d with
   | ptr b=>
     cases p1.rep;cases hm:M1 b with
     |none=>simp[vw1,hm]at hd
     | some c=>
       cases c with
       |lst es=>simp only[vw1,hm]at hd;cases hd;obtain⟨xs,g1,g2⟩:=fM p1.ok hm;exact⟨b,xs,rfl,SqL.of g1,g2⟩
       |dic _ _=>simp[vw1,hm]at hd
       |ins _ _ _=>simp[vw1,hm]at hd
       |dcT _ _=>simp[vw1,hm]at hd
       |dcL _ _=>simp[vw1,hm]at hd
       |exn _ _=>simp[vw1,hm]at hd
   |lst es=>cases hd;obtain⟨q,xs,rfl,hq,hx,_⟩:=fF p1.rep rfl rfl;exact⟨q,xs,rfl,(aR _ _).seq hq,hx⟩
   |_=>cases hd
  obtain⟨q,xs,rfl,hq',hx⟩:=key;exact⟨q,xs,rfl,.inl hq',λl hl=>by have hn:=p1.ok.fresh hl;refine hQ _ M1 hq _ _ ⟨p1.toPostT.trans (PostT.of p1.ok (bg hl _)),.lst (.inl ?_) (aQ (PH.up (bg hl _)) hx)⟩;rw[PH.of hn];exact bj⟩⟩
end
section
variable {y:Str}
def Ia{fin:E_->Sto->QE->Prop}(hfin:∀{ds:E_} {M2:Sto} {QW:QE} {H2:Hp} {ys:C_} {l:Addr} {H0:Hp} {M0:Sto},fin ds M2 QW->PostT K H0 M0 H2 M2->Reps K (PH H2 M2) ys ds->H2 l=none->∃d M3,QW d M3/\PostW K H0 M0 d (.ref l) (upd H2 l (.lst ys)) M3)(h:tw K (λρ M Q=>tit ρ M λd M1=>∃ds,cA d=some ds/\ds.length<=1000/\cT 1 tel (bt 1 J3 ρ) ds [] M1 λds M2=>fin ds M2 Q) σ H Q):kZ 1 J3 (ue K (tw K tit)) (cg 0) (λ_ H Q=>Q true H) (tw K tel) σ H Q:=by
 obtain⟨ρ,M,QW,hE,ht,hQ⟩:=h;refine⟨ρ,M,_,hE,ht,λd M1 y4 v H1 p1=>?_⟩;obtain⟨L,hds,hll,h1⟩:=y4;have hsd:=l8 hds;obtain⟨q,xs,rfl,hq,hx',hA⟩:=fF p1.rep hsd.2 hsd.1;have len:=hx'.length;refine⟨q,rfl,⟨xs,(aR _ _).seq hq⟩,?_⟩;have hE1:=hE.next p1.toPostT;refine⟨λi m ys σb H2=>m=xs.length-i/\i<=xs.length/\(σb.length=1+J3.length/\∀k,1<=k->σb[k]?=(cI σ J3)[k-1]?) /\
  ∃M2 done,PostT K H1 M1 H2 M2/\Reps K (PH H2 M2) ys done/\done.length=i/\cT 1 tel (bt 1 J3 ρ) (L.drop i) done M2 λds M2=>fin ds M2 QW,?_,?_⟩
 ·refine⟨xs.length,by simp,z7h _,⟨by simp[cI];ext,λk hk=>?_⟩,M1,[],PostT.refl p1.ok,.nil,rfl,by simpa using h1⟩
  rw[z9y (by simpa using hk)];simp
 ·rintro i m ys σb H2 ⟨rfl,hi,⟨hlen,hcap⟩,M2,done,pt,hr,hdl,hgo⟩
  have lys:=hr.length;have sq:SqL K H2 q xs:=(aR _ _).seq (pt.same.seq hq);refine⟨by rw[z7q];ext,?_⟩;by_cases hlt:i<xs.length
  ·obtain⟨dy,h4,h5⟩:=hx'.getV (z9o hlt)
   have ed:L.drop i=dy::L.drop (i+1):=by rw[z8c ∅];have e2:L[i]'(by ext)=dy:=(z9e.mp h4).2;rw[e2]
   rw[ed]at hgo;refine .inr ⟨⟨xs,xs[i],sq,z9o hlt⟩,λx H3 hy=>?_⟩;obtain⟨e4,e5⟩:=hy;subst e4;have e6:=e5 xs sq;rw[z9o hlt]at e6;cases e6;unfold cg;dsimp only;rw[if_pos rfl];refine⟨_,M2,_,⟨rL (hE1.env.mono pt.same) hlen hcap (aw pt.same h5),pt.ok⟩,hgo,λd M3 h3 w H4 p4=>?_⟩;refine⟨xs.length-(i+1),by ext,rfl,hlt,⟨by rw[z8e];exact hlen,λk hk=>by rw[z9g ∅];exact hcap k hk⟩,M3,done++[d],pt.trans p4.toPostT,(aQ p4.same hr).append (.cons p4.rep .nil),by simp[hdl],h3⟩
  ·have e:i=xs.length:=by ext
   subst e;rw[z7f ∅]at hgo;refine .inl ⟨⟨xs,sq,z9l _⟩,λl hl=>?_⟩;obtain⟨d,M3,g1,g2⟩:=hfin hgo (p1.toPostT.trans pt) hr hl;exact hQ d M3 g1 _ _ g2
def xD{M2:Sto}{H0:Hp}{M0:Sto}(hgo:QW (.lst ds) M2)(pt:PostT K H0 M0 H2 M2)(hr:Reps K (PH H2 M2) ys ds)(hl:H2 l=none):∃d M3,QW d M3/\PostW K H0 M0 d (.ref l) (upd H2 l (.lst ys)) M3:=by have hn:=pt.ok.fresh hl;refine⟨_,M2,hgo,pt.trans (PostT.of pt.ok (bg hl _)),.lst (.inl ?_) (aQ (PH.up (bg hl _)) hr)⟩;rw[PH.of hn];exact bj
def xE(B:BlkOk X scope [y] J3 cn)(hc:X.calm=true)(hi:YE X iter tit)(hg:∀s H cl ex,PG (blk X ([y]++cn) s H scope cl ex) tg (cg 0))(he:∀s H cl ex,YE (blk X ([y]++cn) s H scope cl ex) elt tel)(hs:(∀x,foldedSetIterable iter X.env x=pure x)<|>Q0):
  YE X (.ListComp elt [⟨tg,iter,[],0⟩] scope pos) (nD J3 tit tel):=⟨have hi:=hi.h;have he:=(λs H cl ex=>(he s H cl ex).h);
 cP (nM B hc (m7 hi) hg (λ_ _ _ _=>kY) he hs) λ_ _ _ h=>Ia (fin:=λds M2 Q=>Q (.lst ds) M2) xD h⟩
end
section
variable {y:Str}{k:Nat}
def xF{d:D}(h:MOk K H M)(r:Rep K (PH H M) v d):Rep K H v (vw3 M d):=by
 cases r with
 | @lst p xs ds h1 h2=>
   have h3:Rep K H (.ref p) (.lst ds):=aw (aR _ _) (.lst h1 h2);cases h3 with
   |lst h4 h5=>have e:=gM h4 (cW (aR _ _) h1);subst e;exact .lst h4 (lC h h2)
 |ptr a=>exact xB h (.ptr a)
 |non=>exact .non
 |bl b=>exact .bl b
 |int b=>exact .int b
 |str b=>exact .str b
 |tup h1 h2=>exact aw (aR _ _) (.tup h1 h2)
 |scr h1=>exact aw (aR _ _) (.scr h1)
 |dct h1=>exact aw (aR _ _) (.dct h1)
def Ib(hr:OpV K r g)(h:tw K (n2V g ta tb) σ H Q):tOp r (tw K ta) (tw K tb) σ H Q:=by obtain⟨ρ,M,QW,hE,ht,hQ⟩:=h;refine⟨ρ,M,_,hE,ht,λx M1 h1 vx H1 p1=>⟨ρ,M1,_,hE.next p1.toPostT,h1,λy M2 h2 vy H2 p2=>?_⟩⟩;obtain⟨d,hg,hs,hq⟩:=h2;have rx:=aw p2.same p1.rep;refine hr vx vy H2 _ _ d Q (xF p2.ok rx) (xF p2.ok p2.rep) hg λv H' e r' av=>hQ d M2 hq v H' ⟨(p1.toPostT.trans p2.toPostT).trans (PostT.of p2.ok e),kE hs r'⟩
def xG{j}(ha:YE X a ta):YE X (.Subscript a (.Slice (some (.Constant (.int (k:Nat)) j p3)) none none p2) pos) (nE k ta):=⟨have ha:=ha.h;
 bq (kt uP ha (mf tV) me) λσ H Q ρ M QW hE ht hQ=>⟨ρ,M,_,hE,ht,λx M1 y4 vx H1 p1=>by obtain⟨q,ds,ex,hm,hk,hq⟩:=y4;subst ex;cases p1.rep;obtain⟨xs,g1,g2⟩:=fM p1.ok hm;refine⟨_,rfl,q,xs,rfl,SqL.of g1,λl hl=>?_⟩;have hn:=p1.ok.fresh hl;refine hQ _ M1 hq _ _ ⟨p1.toPostT.trans (PostT.of p1.ok (bg hl _)),.lst (.inl ?_) (aQ (PH.up (bg hl _)) (vt g2 _ _))⟩;rw[PH.of hn];exact bj⟩⟩
end
noncomputable abbrev dU(x C:Addr):HO:=.ext (wZ x C)
def jd{a:Addr}(x:L2.ObjOk P w H h a o):∃ob,h.get? a=some ob:=by
 cases o with
 |lst xs=>obtain⟨_,_,_,_,e⟩:=x;exact⟨_,e⟩
 |tup xs=>obtain⟨_,_,_,o,e,_⟩:=x;exact⟨_,e⟩
 |dK kvs=>obtain⟨_,_,_,_,o,_,_,e,_⟩:=x;exact⟨_,e⟩
 |dT kvs=>obtain⟨_,_,_,_,o,_,_,e,_⟩:=x;exact⟨_,e⟩
 |set S n=>obtain⟨o,_,_,_,e,_⟩:=x;exact⟨_,e⟩
 |ins C dx fs=>obtain⟨_,_,_,e,_⟩:=x;exact⟨_,e⟩
 |own y=>exact x
 |xd fs=>obtain⟨_,⟨_,_,_,e,_⟩,_⟩:=x;exact⟨_,e⟩
 |rng lo hi=>obtain⟨_,_,_,e⟩:=x;exact⟨_,e⟩
 |frz ob u=>exact⟨_,x.1⟩
 |tbl ps=>exact⟨_,x⟩
 |met f y=>exact⟨_,x⟩
 |ext φ=>exact x.2.1
def rN{x:Addr}(e:∃o,h.get? x=some o/\o.cls=.ref C):L2.ObjOk P w H h x (dU x C):=
 ⟨e,let⟨o,h1,_⟩:=e;⟨o,h1⟩,λh1 h2 y4 k=>by obtain⟨o,a,b⟩:=y4;exact⟨o,k o a,b⟩⟩
def CXN(P:Program)(w:World):CXT:=λouter H s E e s'=>∃(x C:Addr) (H':Hp) (B:Heap) (a0:Value),e=.ref x/\s'.os=s.os/\AllBare s'.gens/\Un (frs outer) [] H H' s.heap s'.heap/\HOk P w H' s'.heap /\
 Heap.FlyingW B outer x (.ref C) a0 s'.heap/\(∀b u,H' b=some u->b≠x->B.get? b≠none)/\(∀b o,s.heap.get? b=some o->b∉frs outer->B.get? b≠none)/\H' x=some (dU x C)/\E (.ref x) (some C) H'
section
variable {x:Addr}
def Ic{vs:k_}(I:L2.Inv X G_ σ H s)(m:Heap.MadeExcOf s.heap h' x (.ref C) vs):L2.Inv X G_ σ (upd H x (dU x C)) {s with heap:=h'}:=by
 have hn:H x=none:=by
  cases e:H x with
  |none=>rfl
  |some u=>obtain⟨o,q⟩:=jd (I.hok x u e);rw[m.new]at q;cases q
 obtain⟨t,k1,_,_⟩:=m.there;refine I.un (t':=s.toks) ⟨λb u q _ _ _=>m.keeps b u q,λb u q _ _ _=>⟨u.slots,m.keeps b u q⟩,λb u q n _=>?_,λb u q _=>⟨u,m.keeps b u q⟩,λb xs q=>?_,λb u xs q=>?_,λb ps q=>⟨#[],?_⟩⟩ λb u e=>?_
 ·rw[aH λz=>by rw[z,m.new]at q;cases q];exact n
 ·rw[aH (c6 q hn)];exact q
 ·rw[aH (c6 q hn)];exact q
 ·rw[aH (c6 q hn),q];simp
 ·by_cases hb:b=x
  ·subst hb
   rw[bj]at e;cases e;exact rN ⟨_,k1,rfl⟩
  ·rw[aH hb]at e
   exact(I.hok b u e).stay (λc v _ q=>m.keeps c v q) (λc q=>by rw[aH (c6 q hn)];exact q) λc xs q=>by rw[aH (c6 q hn)];exact q
def xH{a0:Value}{E:XK}(I:L2.Inv X G_ σ H s)(hx:H x=some (dU x C))(hfl:Heap.FlyingW B X.outer x (.ref C) a0 h')(hup:s.heap.UpToSlots h')(hst:B.StaysIn s.heap)(c1:∀b u,H b=some u->b≠x->B.get? b≠none)(c2:∀b o,X.s₀.heap.get? b=some o->b∉frs X.outer->B.get? b≠none)(hex:X.ex=[])(hE:E (.ref x) (some C) H):CXN X.prog X.w X.outer X.H₀ X.s₀ E (.ref x) {s with heap:=h'}:=by
 have same:∀{b:Addr} {o:Obj},B.get? b≠none->s.heap.get? b=some o->h'.get? b=some o:=λ{b o} n e=>by
  cases q:B.get? b with
  |none=>exact absurd q n
  |some o'=>have h1:=hst b o' q;have h2:=hfl.1 b o' q;rw[e]at h1;cases h1;exact h2
 have nx:∀b:Addr,b∉X.ex:=λb z=>by rw[hex]at z;cases z
 have fr:∀b o,s.heap.get? b=some o->b∈frs X.outer->∃sl,h'.get? b=some {o with slots:=sl}:=λb o e hb=>by have hb':b∈frs X.stack\/True:=.inr trivial;obtain⟨_,o0,ho0,hd0⟩:=I.ok.funs.mem hb;obtain⟨sl,q⟩:=I.base.slot b o0 ho0 (I.ok.frf b hb) hb (nx b);rw[e]at q;cases q;exact hup b _ e hd0
 refine⟨x,C,H,B,a0,rfl,I.os,I.bare,⟨λb o e n hb _=>?_,λb o e n hb _=>?_,λb o e n _=>I.base.free b o e n (nx b),λb o e _=>?_,I.base.tups,I.base.frzs,I.base.tbls⟩,λb u e=>?_,hfl,c1,c2,hx,hE⟩
 ·exact same (c2 b o e hb) (I.base.keep b o e n hb (nx b))
 ·obtain⟨sl,q⟩:=I.base.slot b o e n hb (nx b)
  obtain⟨sl2,q2⟩:=fr b _ q hb;exact⟨sl2,q2⟩
 ·obtain⟨o',q⟩:=I.base.there b o e (nx b)
  by_cases hb:b∈frs X.outer
  ·obtain⟨sl,q2⟩:=fr b o' q hb
   exact⟨_,q2⟩
  ·exact⟨o',same (c2 b o e hb) q⟩
 ·by_cases hb:b=x
  ·subst hb
   rw[hx]at e;cases e;exact rN hfl.there
  ·refine(I.hok b u e).stay (λc v hc q=>?_) (λ_ q=>q) λ_ _ q=>q
   have:H c≠none/\c≠x:=by
    rcases hc with rfl|hc
    ·exact⟨by rw[e];exact(λz=>nomatch z),hb⟩
    ·exact⟨by rw[hc];exact(λz=>nomatch z),λz=>by rw[z,hx]at hc;cases hc⟩
   cases hq:H c with
   |none=>exact absurd hq this.1
   |some u'=>exact same (c1 c u' hq this.2) q
def Id{vs:k_}{E:XK}(I:L2.Inv X G_ σ H s)(m:Heap.MadeExcOf s.heap h' x (.ref C) vs)(hst:X.stack=X.env::X.outer)(hfr:X.env.frame=some X.env.locals)(hex:X.ex=[])(hE:E (.ref x) (some C) (upd H x (dU x C))):wpAny (model X.prog X.w) X.A (leaving X.env (.ref x)) (λ_ s''=>CXN X.prog X.w X.outer X.H₀ X.s₀ E (.ref x) s'') Er {s with heap:=h'}:=by
 have I2:=Ic I m;have hl:s.heap.FunFrames X.base (X.env::X.outer):=by have:=I.stack;rw[hst]at this;exact this
 have hin:∀env∈(X.env::X.outer),∀b,env.frame=some b->b∈frs X.stack:=λenv he b hb=>by rw[hst];exact z3b.mpr ⟨env,he,hb⟩
 refine PySem.wpAny_leaves_madeW (base:=W.hideAll s.heap (frs X.stack)) (by rw[<- hst];exact I.ok.frames) hfr (λb o q=>z3a _ q) (W.funFrames_hide hl hin) m λh'' t x1 _ _ x4=>?_
 have hn:H x=none:=by
  cases e:H x with
  |none=>rfl
  |some u=>obtain⟨o,q⟩:=jd (I.hok x u e);rw[m.new]at q;cases q
 have inB:∀b o,s.heap.get? b=some o->b∉frs X.stack->(W.hideAll s.heap (frs X.stack)).get? b≠none:=λb o e hb z=>by rw[W.hideAll_get _ e hb]at z;cases z
 refine xH I2 bj x1 x4 (λb o q=>m.keeps b o (z3a _ q)) (λb u e hb=>?_) (λb o e hb=>?_) hex hE
 ·rw[aH hb]at e
  obtain⟨ob,q⟩:=jd (I.hok b u e);exact inB b ob q λz=>by rw[I.stkFree b z]at e;cases e
 ·obtain⟨o',q⟩:=I.base.there b o e (by rw[hex];exact λz=>nomatch z)
  refine inB b o' q λz=>?_
  rcases z9k.mp (I.stkSub b z)with e1|e1
  ·have:=I.ok.above
   rw[<- e1]at this;exact absurd (z9v (z9n e) this) (z7u _)
  ·exact hb e1
def Ie{s2:Shared}{E E1:XK}{e:Value}(I:L2.Inv X G_ σ H s)(hcx:CXN X.prog X.w X.stack H s E1 e s2)(hst:X.stack=X.env::X.outer)(hfr:X.env.frame=some X.env.locals)(hex:X.ex=[])(hE:∀x C H2,H2 x=some (dU x C)->HOk X.prog X.w H2 s2.heap->E1 (.ref x) (some C) H2->E (.ref x) (some C) H2):wpAny (model X.prog X.w) X.A (leaving X.env e) (λ_ s''=>CXN X.prog X.w X.outer X.H₀ X.s₀ E e s'') Er s2:=by
 obtain⟨x,C,H2,B,a0,rfl,os,bare,un,hok,hfl,c1,c2,hx,hE1⟩:=hcx;obtain⟨hh,g,d,t,os'⟩:=s2;obtain rfl:os'=s.os:=os;have I2:L2.Inv X G_ σ H2 {s with heap:=hh,gens:=g,drawn:=d,toks:=t}:=I.call (h':=hh) (g':=g) (d':=d) (t':=t) (ch:=[]) un hok bare (λb z=>absurd z (by simp));have hfl':Heap.FlyingW B (X.env::X.outer) x (.ref C) a0 hh:=by rw[<- hst];exact hfl
 refine PySem.wpAny_leaves_onW (by rw[<- hst];exact I.ok.frames) hfr hfl' λh' x1 x2=>?_
 refine xH (s:={s with heap:=hh,gens:=g,drawn:=d,toks:=t}) I2 hx x1 x2 hfl'.1 c1 (λb o e hb=>?_) hex (hE x C H2 hx hok hE1);obtain⟨o',q⟩:=I.base.there b o e (by rw[hex];exact λz=>nomatch z);refine c2 b o' q λz=>?_
 rcases z9k.mp (I.stkSub b z)with e1|e1
 ·have:=I.ok.above
  rw[<- e1]at this;exact absurd (z9v (z9n e) this) (z7u _)
 ·exact hb e1
end
noncomputable def bmV:k_:=[.type "ValueError",.type "Exception",.type "BaseException",.type "object"]
noncomputable def lD(K:K0)(x:Str):Option Addr:=match W.nsIn K mainGlobals x with
 |some (some (.ref C))=>some C
 |_=>none
def rO(K:K0)(C:Addr):Bool:=W.excIn K C bmV "ValueError.__new__" && W.findIn K (.ref C) "__class__"==some (some (.builtin "object.__class__")) &&
 W.findIn K (.ref C) "__getattribute__"==some (some (.builtin "BaseException.__getattribute__"))&&W.findIn K (.ref C) "__getattr__"==some none&&W.mroIn K C (.type "BaseException")==some true &&
 W.mroIn K C (.type "object")==some true&&W.mroIn K C (.type "ValueError")==some true&&W.isClsIn K C&&W.typeIn K (.ref C)==some (.type "type")&&W.keepIn K (.ref C)
def fm(K:K0):Bool:=match lD K "FareError" with
 |none=>false
 | some B=>W.isClsIn K B&&W.typeIn K (.ref B)==some (.type "type")&&W.instIn K (.ref B) (.type "tuple")==some false&&W.mroIn K B (.type "BaseException")==some true&&XS.all λx=>match lD K x with
   |none=>false
   | some C=>rO K C&&W.mroIn K C (.ref B)==some true&&XS.all λy=>match lD K y with
     |none=>false
     |some D=>W.mroIn K C (.ref D)==some (decide (x=y))&&(x==y||!(D==C))
def rP(h:lD K x=some C):W.nsIn K mainGlobals x=some (some (.ref C)):=by
 unfold lD at h
 set_option tactic.hygienic true in split at h
 ·rename_i e;cases h;exact e
 ·cases h
structure XOne (K:K0) (C:Addr):Prop where
 exc:W.excIn K C bmV "ValueError.__new__"=true
 cls:W.findIn K (.ref C) "__class__"=some (some (.builtin "object.__class__"))
 ga:W.findIn K (.ref C) "__getattribute__"=some (some (.builtin "BaseException.__getattribute__"))
 hk:W.findIn K (.ref C) "__getattr__"=some none
 be:W.mroIn K C (.type "BaseException")=some true
 ob:W.mroIn K C (.type "object")=some true
 ve:W.mroIn K C (.type "ValueError")=some true
 is:W.isClsIn K C=true
 ty:W.typeIn K (.ref C)=some (.type "type")
 kp:W.keepIn K (.ref C)=true
def Ig(h:rO K C=true):XOne K C:=by unfold rO at h;simp only[z8m,z7g]at h;obtain⟨⟨⟨⟨⟨⟨⟨⟨⟨h1,h2⟩,h3⟩,h4⟩,h5⟩,h6⟩,h7⟩,h8⟩,h9⟩,h10⟩:=h;exact⟨h1,h2,h3,h4,h5,h6,h7,h8,h9,h10⟩
structure XBase (K:K0) (B:Addr):Prop where
 ns:W.nsIn K mainGlobals "FareError"=some (some (.ref B))
 is:W.isClsIn K B=true
 ty:W.typeIn K (.ref B)=some (.type "type")
 nt:W.instIn K (.ref B) (.type "tuple")=some false
 be:W.mroIn K B (.type "BaseException")=some true
def jH(h:fm K=true):∃B,XBase K B/\∀x∈XS,∃C,W.nsIn K mainGlobals x=some (some (.ref C))/\XOne K C/\W.mroIn K C (.ref B)=some true /\
  ∀y∈XS,∃D,W.nsIn K mainGlobals y=some (some (.ref D))/\W.mroIn K C (.ref D)=some (decide (x=y))/\(x≠y->D≠C):=by
 unfold fm at h
 set_option tactic.hygienic true in split at h
 ·cases h
 ·rename_i B hB
  simp only[z8m,z7g]at h;obtain⟨⟨⟨⟨h1,h2⟩,h3⟩,h4⟩,h5⟩:=h;refine⟨B,⟨rP hB,h1,h2,h3,h4⟩,λx hx=>?_⟩;have h6:=z9t.mp h5 x hx
  set_option tactic.hygienic true in split at h6
  ·cases h6
  ·rename_i C hC
   simp only[z8m,z7g]at h6;obtain⟨⟨a1,a2⟩,a3⟩:=h6;refine⟨C,rP hC,Ig a1,a2,λy hy=>?_⟩;have h7:=z9t.mp a3 y hy
   set_option tactic.hygienic true in split at h7
   ·cases h7
   ·rename_i D hD
    simp only[z8m,z7g]at h7;refine⟨D,rP hD,h7.1,λne e=>?_⟩;rcases Bool.or_eq_true_iff.mp h7.2 with z|z
    ·exact ne (z7g.mp z)
    ·rw[e]at z;simp at z
section
variable {x D:Addr}{g:Array GenState}{d:Drawn}{t:Nat}{os:OsState}{o:Obj}
theorem Ih(X:K.In h)(O:XOne K C)(hx:h.get? x=some o)(hc:o.cls=.ref C)(hq:R (.ok (.ret (.ref C))) ⟨h,g,d,t,os⟩):
  codeAny (model prog w) A (.call (.builtin "getset_descriptor.__get__") ⟨[.builtin "object.__class__",.ref x,.ref C],[]⟩) R ⟨h,g,d,t,os⟩:=by
 have hT5:(⟨h,g,d,t,os⟩:Shared).TypeIs (.builtin "object.__class__") "getset_descriptor":=z4l;have L1:W.Looks (model prog w) h (isSubtype (.ref C) (.type (".".intercalate ("object.__class__".cutAt '.').dropLast))) true:=by rw[F.owner_object_class];exact z5p X O.ob
 refine codeAny_call_builtin F.slot_gs_get.plain F.entry_gs_get (F.slot_gs_get.check _ _ _ _ _ _ _ _ hT5 (F.args_gs_get _ _ _) ?_)
 repeat (any_goals (first|assumption|(with_reducible refine z5e hx ?_;rw[hc])|with_reducible refine L1.at ?_|wp_step))
 refine⟨Code.quiet_builtin _ (by decide +kernel),codeAny_builtin F.entry_object_class ?_⟩
 repeat (any_goals (first|assumption|(with_reducible refine z5e hx ?_;rw[hc])|wp_step))
theorem Ii{M:Model}{nameV:Value}{Q:Unit->Shared->Prop}(X:K.In h)(O:XOne K C)(hx:h.get? x=some o)(hc:o.cls=.ref C)(hq:Q () ⟨h,g,d,t,os⟩):
  wpAny M A (checkBuiltinCall "BaseException.__getattribute__" ⟨[.ref x,nameV],[]⟩) Q E ⟨h,g,d,t,os⟩:=by
 have hk:builtinKind "BaseException.__getattribute__"=some .slot:=by decide +kernel
 have hsplit:splitId "BaseException.__getattribute__"=some ("BaseException","__getattribute__"):=by decide +kernel
 have L1:W.Looks M h (isSubtype (.ref C) (.type "BaseException")) true:=z5p X O.be;have ha:=F.args_bexc_ga (.ref x) nameV;simp only[checkBuiltinCall,hk,hsplit];refine z9j ?_
 ·unfold isInstance
  repeat (first|(with_reducible refine z5e hx ?_;rw[hc])|with_reducible refine L1.at ?_|wp_step)
  exact hq
theorem Ij{tk:Tok}{Q:Fin->Shared->Prop}(X:K.In h)(O:XOne K C)(hx:h.get? x=some o)(hc:o.cls=.ref C)(hq:Q (.done (.ret (.ref C))) ⟨h,g,d,t,os⟩):
  wpAny (model prog w) A (Builtin.«object.__getattribute__» ⟨[.ref x,.str "__class__" tk],[]⟩) Q E ⟨h,g,d,t,os⟩:=by
 have hT5:(⟨h,g,d,t,os⟩:Shared).TypeIs (.builtin "object.__class__") "getset_descriptor":=z4l;have L1:=z5h (M:=model prog w) X O.cls;have f5:=z4l;have f6:=F.slot_gs_get.lookup;have f7:=F.slot_gs_set.lookup
 repeat (any_goals (first|assumption|(with_reducible refine z5e hx ?_;rw[hc])|with_reducible refine L1.at ?_|wp_step))
 refine Ih X O hx hc ?_
 repeat (any_goals (first|assumption|wp_step))
theorem Ik{tk:Tok}{Q:Value->Shared->Prop}(X:K.In h)(O:XOne K C)(hx:h.get? x=some o)(hc:o.cls=.ref C)(hq:Q (.ref C) ⟨h,g,d,t,os⟩):
  wpAny (model prog w) A (getAttrBy (.ref x) (.str "__class__" tk) false) Q E ⟨h,g,d,t,os⟩:=by
 have f3:=F.attrBase_ValueError.ga.bind (.ref x);have hx2:(Value.builtin "BaseException.__getattribute__"==Value.builtin "object.__getattribute__")=false:=by decide +kernel
 have hx1:(onTheHeap (Value.ref C)&&Value.builtin "BaseException.__getattribute__"==Value.builtin "object.__getattribute__")=false:=by rw[hx2];rfl
 have L1:=z5h (M:=model prog w) X O.ga;have L2:=z5h (M:=model prog w) X O.hk
 repeat (any_goals (first|assumption|(with_reducible refine z5e hx ?_;rw[hc])|with_reducible refine L1.at ?_|with_reducible refine L2.at ?_|wp_step))
 refine codeAny_call_builtin F.attrBase_ValueError.ga.plain F.entry_bexc_ga (Ii X O hx hc (Ij X O hx hc ?_))
 repeat (any_goals (first|assumption|wp_step))
def Il{Q:v_->Shared->Prop}(X:K.In h)(O:XOne K C)(hx:h.get? x=some o)(hc:o.cls=.ref C)(hq:Q (some (.ref C)) ⟨h,g,d,t+1,os⟩):
  wpAny (model prog w) A (getAttr? (.ref x) "__class__") Q E ⟨h,g,d,t,os⟩:=by
 unfold getAttr? getAttrBy?
 repeat (any_goals (first|assumption|with_reducible apply Ik X O hx hc|wp_step))
def nN{M:Model}(hx:h.get? x=some o)(hc:o.cls=.ref C):W.Looks M h (typeOf (.ref x)) (.ref C):=by intro A' Q' E' s' k q;unfold typeOf;refine z9j (wpAny_loadPart (k _ _ hx) ?_);rw[hc];exact z9z q
def rQ{M:Model}(X:K.In h)(e:W.isClsIn K C=true):W.Looks M h (isType (.ref C)) true:=by
 unfold W.isClsIn W.clsIn at e
 set_option tactic.hygienic true in split at e
 ·rename_i c' d' cd' sl' ho
  intro A' Q' E' s' k q;unfold isType loadHead;exact z9j (wpAny_loadPart (k _ _ (X _ _ ho)) (z9z q))
 ·cases e
open PySem.W in
def Im{tk:Tok}{Q:Fin->Shared->Prop}(X:K.In s.heap)(O:XOne K C)(OD:XOne K D)(hx:∃o,s.heap.get? x=some o/\o.cls=.ref C)(ne:D≠C)(e:mroIn K C (.ref D)=some false)(hq:Q (.done (.ret (.bool false))) {s with toks:=s.toks+1}):
  wpAny (model prog w) A (Builtin.«isinstance.nested» ⟨[.ref x,.ref D,.int dep tk],[]⟩) Q E s:=by
 obtain⟨o,hx,hc⟩:=hx;obtain⟨h0,g,d,tt,os⟩:=s;have L0:=nN (M:=model prog w) hx hc;have hsub:Looks (model prog w) h0 (isSubtype (.ref C) (.ref D)) false:=looks_mroIn X e;have LI:Looks (model prog w) h0 (isInstance (.ref x) (.ref D)) false:=L0.andThen hsub;have hty:Looks (model prog w) h0 (typeOf (.ref D)) (.type "type"):=looks_typeIn X OD.ty;unfold Builtin.«isinstance.nested»;refine z9j (L0.at ?_);rw[if_neg (λq=>ne (Value.ref.inj (z7g.mp q)).symm)];refine z9j (hty.at ?_);rw[if_pos (by decide)]
 k_delta "plainIsInstance"
 refine z9j (z9j ((rQ X OD.is).at ?_));simp only[z5n,z6f,z5d];refine z9j (LI.at ?_);simp only[z6f,z5d];refine z9j (Il X O hx hc ?_);refine z9j ((rQ X O.is).at ?_);simp only[z5n,z6f,z5d];refine z9j (wpAny_rule ?_);refine hsub.at ?_
 first
  |exact z9z hq
  |exact z9z (z9z hq)
  |exact z9j (z9z (z9z hq))
open PySem.W in
def Io{tk:Tok}{Q:Fin->Shared->Prop}(X:K.In s.heap)(O:XOne K C)(hx:∃o,s.heap.get? x=some o/\o.cls=.ref C)(hq:Q (.done (.ret (.bool true))) s):
  wpAny (model prog w) A (Builtin.«isinstance.nested» ⟨[.ref x,.type "ValueError",.int dep tk],[]⟩) Q E s:=by
 obtain⟨o,hx,hc⟩:=hx;obtain⟨h0,g,d,tt,os⟩:=s;have L0:=nN (M:=model prog w) hx hc;have hsub:Looks (model prog w) h0 (isSubtype (.ref C) (.type "ValueError")) true:=looks_mroIn X O.ve;have LI:Looks (model prog w) h0 (isInstance (.ref x) (.type "ValueError")) true:=L0.andThen hsub;have hty:typeOf (.type "ValueError")=pure (.type "type"):=by kernel_rfl
 unfold Builtin.«isinstance.nested»;refine z9j (L0.at ?_);rw[if_neg (λq=>by cases z7g.mp q)];refine z9j (m:=typeOf (.type "ValueError")) (wpAny_of_eq hty ?_);rw[if_pos (by decide)]
 k_delta "plainIsInstance"
 refine z9j (z9j (m:=isType (.type "ValueError")) (z9z (a:=true) ?_));simp only[z5n,z6f,z5d];refine z9j (LI.at ?_);simp only[z4i]
 first
  |exact z9z hq
  |exact z9z (z9z hq)
  |exact z9j (z9z (z9z hq))
def Ip{Q:Value->Shared->Prop}(X:K.In s.heap)(O:XOne K C)(OD:XOne K D)(hx:∃o,s.heap.get? x=some o/\o.cls=.ref C)(ne:D≠C)(e:W.mroIn K C (.ref D)=some false)(hq:Q (.bool false) {s with toks:=s.toks+1}):
  wpAny (model prog w) A (call (.builtin "isinstance") [.ref x,.ref D]) Q E s:=
 call_isinstance (S:=λ_ R s=>(K.In s.heap/\∃o,s.heap.get? x=some o/\o.cls=.ref C)/\R (.ok (.ret (.bool false))) {s with toks:=s.toks+1})
  (λ_ _ _ _ _ hs=>isinstance_outer (Im hs.1.1 O OD hs.1.2 ne e hs.2) (by intro q;cases q)) ⟨⟨X,hx⟩,hq⟩
def Iq{Q:Value->Shared->Prop}(X:K.In s.heap)(O:XOne K C)(hx:∃o,s.heap.get? x=some o/\o.cls=.ref C)(hq:Q (.bool true) s):
  wpAny (model prog w) A (call (.builtin "isinstance") [.ref x,.type "ValueError"]) Q E s:=
 call_isinstance (S:=λ_ R s=>(K.In s.heap/\∃o,s.heap.get? x=some o/\o.cls=.ref C)/\R (.ok (.ret (.bool true))) s)
  (λ_ _ _ _ _ hs=>isinstance_outer (Io hs.1.1 O hs.1.2 hs.2) (by intro q;cases q)) ⟨⟨X,hx⟩,hq⟩
def Ir{Q:Value->Shared->Prop}(X:K.In s.heap)(hx:∃o,s.heap.get? x=some o/\o.cls=.ref C)(hq:Q (.bool true) s):
  wpAny (model prog w) A (call (.builtin "isinstance") [.ref x,.ref C]) Q E s:=
 W.isi_call (t:=.ref C) X (λM=>let⟨_,h1,h2⟩:=hx;nN h1 h2) (by unfold W.isIn;simp) (by intro q;cases q) hq
end
noncomputable def hU(H:Hp)(a:Addr):Hp:=λb=>if b=a then none else H b
def xI{a:Addr}:hU H a a=none:=by unfold hU;rw[if_pos rfl]
def Iu{a:Addr}:Same (hU H a) H:=λb u q=>by
 unfold hU at q;split at q
 ·cases q
 ·exact q
def nO{a:Addr}(h:H a=none):hU (upd H a o) a=H:=by
 funext b;unfold hU;split
 ·rename_i e;rw[e,h]
 ·rename_i e;rw[aH e]
def EXK(K:K0)(P:Hp)(EX:QX):XK:=λv c H=>∃(a:Addr) (nm:Str) (M:Sto) (C:Addr),v=.ref a/\c=some C/\W.nsIn K mainGlobals nm=some (some (.ref C))/\nm∈XS/\EX nm M/\Same P (PH (hU H a) M)/\MOk K (hU H a) M
structure OutX (X:Cx) (P:Hp) (EX:QX):Prop where
 made:∀(G_:u_) (σ:St) (H:Hp) (s:Shared) (x C:Addr) (h':Heap) (vs:k_),L2.Inv X G_ σ H s->Heap.MadeExcOf s.heap h' x (.ref C) vs->EXK X.K P EX (.ref x) (some C) (upd H x (dU x C))->X.xe (.ref x) {s with heap:=h'}
 pass:fA (CXN X.prog X.w) X (EXK X.K P EX)
def Iv{outer:List PySem.Env}{E:XK}{P0:Hp}(h:∀v c H',EXK K P0 EX v c H'->E v c H'):OutX (cG (CXN P w) P w K mg base N qual scope f cd A outer s H E) P0 EX where
 made:=λG_ σ H1 s1 x C h' vs I m e=>Id (X:=cG (CXN P w) P w K mg base N qual scope f cd A outer s H E) I m rfl rfl rfl (h _ _ _ e)
 pass:=λG_ σ H1 s1 e s2 I hc=>Ie (X:=cG (CXN P w) P w K mg base N qual scope f cd A outer s H E) I hc rfl rfl rfl λx C H2 _ _ z=>h _ _ _ z
def twX(K:K0)(P:Hp)(n:Nat)(EX:QX)(t:NTS):TS:=λDe σ H=>∃ρ M Ew,EnvN K P n σ ρ H M/\t Ew ρ M/\LeE Ew (hJ K P n De)/\∀x M,Ew.ex x M->EX x M
abbrev MS(X:Cx)(P:Hp)(EX:QX)(st:Stmt)(t:NTS):Prop:=∀n,PS X st (twX X.K P n EX t)
structure YM (X:Cx) (P:Hp) (EX:QX) (st:Stmt) (t:NTS):Prop where
 h:MS X P EX st t
abbrev MSs(X:Cx)(P:Hp)(EX:QX)(st:o_)(t:NTS):Prop:=∀n,PSs X st (twX X.K P n EX t)
structure YMs (X:Cx) (P:Hp) (EX:QX) (st:o_) (t:NTS):Prop where
 h:MSs X P EX st t
def Iw{t:TS}(h:PS X.nox st t):PS X st t:=λG_ s σ H D I hw=>z8n (h G_ s σ H D (I.wish _) hw) (λ_ _ q=>q.unwish) λ_ _ z=>False.elim z
def xJ(X:K.In h)(e:W.excIn K C bmV "ValueError.__new__"=true):∃tl N nm qn bs hdct sn sub ab col dd k0 k1 k2 k3 k5 mN,
  h.get? C=some (excClassObj nm qn C N bs tl hdct sn sub ab col dd k0 k1 k2 k3 k5 "ValueError.__new__")/\h.Ns N mN/\mN "__init__"=none/\OwnTail h bmV tl:=by
 unfold W.excIn at e
 set_option tactic.hygienic true in split at e
 case h_2=>cases e
 case h_1 dd cd sl ho=>
 set_option tactic.hygienic true in split at e
 case h_2=>cases e
 case h_1 C1 tl k0 k1 k2 k3 n k5 hm hs=>
 simp only[z8m,z7g,z4e]at e;obtain⟨⟨⟨⟨⟨e1,e2⟩,e3⟩,e4⟩,e5⟩,e6⟩:=e;subst e1 e2;cases cd with
 | mk nm bs mro ns qn hd sn sub ab col del=>
   dsimp only at hm e3 e5 e6;subst hm e3;have hsl:sl=#[k0,k1,k2,k3,some (.builtin "ValueError.__new__"),k5]:=by
    cases sl with
    |mk l=>simp only at hs;rw[hs]
   subst hsl;exact⟨tl,ns,nm,qn,bs,hd,sn,sub,ab,col,dd,k0,k1,k2,k3,k5,_,X _ _ ho,.of_isNs (W.isNs_of_in X e5),W.nsMap_none_of_in X e5 e6,W.tail_of_in X e4⟩
section
variable {P:Hp}{rest bs:o_}{t u:NTS}{np:Pos}
def bh(h:YS X.nox st t):YM X P EX st t:=⟨have h:=h.h;λn=>dG (Iw (h P n)) λDe σ H y4=>by obtain⟨ρ,M,Ew,hE,ht,hl,_⟩:=y4;exact⟨ρ,M,Ew,hE,ht,hl⟩⟩
def bU:YMs X P EX [] sN:=⟨λn=>fg pF λDe σ H y4=>by obtain⟨ρ,M,Ew,hE,ht,hl,_⟩:=y4;exact hl.nx ρ M ht σ H hE⟩
def aP(h1:YM X P EX st t)(h2:YMs X P EX rest u):YMs X P EX (st::rest) (ai t u):=⟨have h1:=h1.h;have h2:=h2.h;λn=>fg (j8 (h1 n) (h2 n)) λDe σ H ⟨ρ,M,Ew,hE,ht,hl,hx⟩=>⟨ρ,M,_,hE,ht,⟨λρ' M' h' σ' H' hE'=>⟨ρ',M',Ew,hE',h',hl,hx⟩,hl.bk,hl.ct,hl.rt⟩,hx⟩⟩
def aW(h1:YM X P EX st t):YMs X P EX [st] t:=⟨have h1:=h1.h;λn=>fg (km (h1 n)) λDe σ H h=>h⟩
theorem bK(hc:YT X.nox c ka)(ha:YMs X P EX body t)(hb:YMs X P EX bs u):YM X P EX (.If c body bs pos) (aG ka t u):=⟨have hc:=hc.h;have ha:=ha.h;have hb:=hb.h;λn=>dG (pG (PT.nox hc) (ha n) (hb n)) λDe σ H ⟨ρ,M,Ew,hE,ht,hl,hx⟩=>⟨ρ,M,_,hE.q,ht,λk M1 hk H1 p1=>by
 cases k with
 |true=>exact dX ⟨ρ,M1,Ew,hE.next p1,hk.1 rfl,hl,hx⟩
 |false=>exact dW ⟨ρ,M1,Ew,hE.next p1,hk.2 rfl,hl,hx⟩⟩⟩
theorem cL{j}(xt:fm X.K=true)(ho:OutX X P EX)(hc:X.calm=true<|>J7)(hg:Gl X x<|>J7)(hd:DB x<|>J8)(he:starEach [.Constant (.str m) j p2] X.env=(false,eval (.Constant (.str m) j p2) X.env)::starEach [] X.env<|>J7)(hpl:BT cpos [.Constant (.str m) j p2] X<|>J7):
  YM X P EX (.Raise (some (.Call (.Name x np) [.Constant (.str m) j p2] [] cpos)) none pos) (cD x):=⟨by
 intro n G_ s σ H De I ⟨ρ,M,Ew,hE,⟨hx,hex⟩,hl,hX⟩;obtain⟨B,XB,hall⟩:=jH xt;obtain⟨C,hns,O,_,_⟩:=hall x hx;have hm:X.mg x=some (.ref C):=z6r I.ok.mod.kin I.ok.mod.glob hns;obtain⟨tl,N,nm,qn,bs,hdct,sn,sub,ab,col,dd,k0,k1,k2,k3,k5,mN,hC,hN,hni,T⟩:=xJ I.ok.mod.kin O.exc;refine wpAny_Raise_call_subT (C:=C) (nm:=nm) (q:=qn) (N:=N) (bs:=bs) (bm:=tl) (hdct:=hdct) (sn:=sn) (sub:=sub) (ab:=ab) (col:=col) (dd:=dd) (k0:=k0) (k1:=k1) (k2:=k2) (k3:=k3) (k5:=k5) (mN:=mN)
  F.excBase_ValueError (T.hasType (by decide)) (I.ok.hd hc) hpl hni (fZ I hg hm ⟨rfl,?_⟩ hd)
 have hA:PA X [.Constant (.str m) j p2] (uB (tC (.str m)) ma):=bP gH c5 he;have h1:=hA cpos G_ s σ H (λws H'=>ws=[.str m]/\H'=H) I ⟨rfl,rfl⟩;rw[he]at h1 ⊢;refine z4q (z8n h1 (λvs s2 h2=>?_) λ_ _ y=>y);obtain⟨ws,H2,I2,r2,rfl,rfl⟩:=h2;refine⟨rfl,?_,I2.bk _ _ hC,hN.keeps I2.bk,T.keeps I2.bk,λh' e hm'=>ho.made G_ σ _ s2 e C h' vs I2 hm' ?_⟩
 ·rw[<- r2.length,z7q];exact(by decide:1<=16777216)
 ·have hn:H2 e=none:=by
   cases q:H2 e with
   |none=>rfl
   |some u=>obtain⟨o,q2⟩:=jd (I2.hok e u q);rw[hm'.new]at q2;cases q2
  exact⟨e,x,M,C,rfl,rfl,hns,hx,hX _ _ hex,by rw[nO hn];exact hE.same,by rw[nO hn];exact hE.q.ok⟩⟩
end
def Fl(X:Cx)(G_:u_)(σ:St)(E:XK)(e:Value)(s':Shared):Prop:=∃H1 s1,L2.Inv X G_ σ H1 s1/\CXN X.prog X.w X.stack H1 s1 E e s'
def PX(X:Cx)(e:Expr)(t:St->Hp->VK->XK->Prop):Prop:=
 ∀(G_:u_) (s:Shared) (σ:St) (H:Hp) (Q:VK) (E:XK),L2.Inv X G_ σ H s->t σ H Q E->wpAny (model X.prog X.w) X.A (eval e X.env) (EP X G_ σ Q) (Fl X G_ σ E) s
def twE(K:K0)(te:NEX):St->Hp->VK->XK->Prop:=λσ H Q E=>∃ρ M QW EX,EnvQ K σ ρ H M/\te ρ M QW EX/\(∀d M',QW d M'->∀v H',PostW K H M d v H' M'->Q v H')/\∀v c H',EXK K (PH H M) EX v c H'->E v c H'
abbrev NX(X:Cx)(e:Expr)(te:NEX):Prop:=PX X e (twE X.K te)
structure YX (X:Cx) (e:Expr) (t:NEX):Prop where
 h:NX X e t
def spE(K:K0)(T:NTX):Sp:=λvs H Q E=>∃ds M QW EX,Reps K (PH H M) vs ds/\MOk K H M/\T ds M QW EX/\(∀d M',QW d M'->∀v H',PostW K H M d v H' M'->Q v H')/\∀v c H',EXK K (PH H M) EX v c H'->E v c H'
def EXK.pre{P P':Hp}{v:Value}{c:Option Addr}(h:EXK K P' EX v c H)(e:Same P P'):EXK K P EX v c H:=by obtain⟨a,nm,M,C,h1,h2,h3,h4,h5,h6,h7⟩:=h;exact⟨a,nm,M,C,h1,h2,h3,h4,h5,e.trans h6,h7⟩
def EXK.post{P:Hp}{EX':QX}{v:Value}{c:Option Addr}(h:EXK K P EX v c H)(e:∀x M,EX x M->EX' x M):EXK K P EX' v c H:=by obtain⟨a,nm,M,C,h1,h2,h3,h4,h5,h6⟩:=h;exact⟨a,nm,M,C,h1,h2,h3,h4,e _ _ h5,h6⟩
def DefE(P:Program)(w:World)(K:K0)(mg:Str->v_)(base:Heap)(x:Str)(k:Nat)(ps:j_)(T:NTX):Prop:=
 ∃f fd,FnOk P w K mg base (CXN P w) k f fd ps (spE K T)/\mg x=some (.ref f)/\W.keepIn K (.ref f)=true/\Binds K fd ps []
def MetE(P:Program)(w:World)(K:K0)(mg:Str->v_)(base:Heap)(C:Addr)(m:Str)(k:Nat)(ps:j_)(T:NTX):Prop:=
 ∃f fd,FnOk P w K mg base (CXN P w) k f fd ps (spE K T)/\Meth K C m f/\Binds K fd ps []
def MakE(P:Program)(w:World)(K:K0)(mg:Str->v_)(base:Heap)(x:Str)(C:Addr)(k:Nat)(ps:j_)(T:NTX):Prop:=
 ∃f fd,FnOk P w K mg base (CXN P w) k f fd ps (spE K T)/\Mk K C f/\mg x=some (.ref C)/\Binds K fd ps []
section
variable {k:Nat}{T:NTX}
theorem DefE.mono(h:DefE P w K mg base x j ps T)(hk:j<=k<|>J8):DefE P w K mg base x k ps T:=let⟨f,fd,F,r⟩:=h;⟨f,fd,F.mono hk,r⟩
theorem MetE.mono(h:MetE P w K mg base C m j ps T)(hk:j<=k<|>J8):MetE P w K mg base C m k ps T:=let⟨f,fd,F,r⟩:=h;⟨f,fd,F.mono hk,r⟩
theorem MakE.mono(h:MakE P w K mg base x C j ps T)(hk:j<=k<|>J8):MakE P w K mg base x C k ps T:=let⟨f,fd,F,r⟩:=h;⟨f,fd,F.mono hk,r⟩
theorem rR(F:FnOk P w K mg base (CXN P w) k f fd ps (spE K T)):FnOk P w K mg base CX0 k f fd ps (spN K (qtX T)):=by
 have up:∀vs H Q E,spN K (qtX T) vs H Q E->spE K T vs H Q λ_ _ _=>False:=λvs H Q E ⟨ds,M,QW,r,ok,ht,hQ⟩=>⟨ds,M,QW,_,r,ok,ht,hQ,λv c H' y4=>by obtain⟨_,_,_,_,_,_,_,_,z,_⟩:=y4;exact z⟩
 refine⟨λvs H Q E h=>F.len vs H Q _ (up _ _ _ _ h),λA outer s H args us vs Q E hr he hb hv hs=>z5f (F.run A outer s H args us vs Q _ hr he hb hv (up _ _ _ _ hs)) λr s' hq=>?_⟩;cases r with
 |ok fl=>cases fl<;>exact hq
 |error e=>obtain⟨_,_,_,_,_,_,_,_,_,_,_,_,_,_,z⟩:=hq;exact z.elim
def DefE.quiet(h:DefE P w K mg base x k ps T):DefN P w K mg base x k ps (qtX T):=let⟨f,fd,F,r⟩:=h;⟨f,fd,rR F,r⟩
def MetE.quiet(h:MetE P w K mg base C m k ps T):MetN P w K mg base C m k ps (qtX T):=let⟨f,fd,F,r⟩:=h;⟨f,fd,rR F,r⟩
def MakE.quiet(h:MakE P w K mg base x C k ps T):MakN P w K mg base x C k ps (qtX T):=let⟨f,fd,F,r⟩:=h;⟨f,fd,rR F,r⟩
end
section
variable {k:Nat}{es:l_}{T:NTX}
theorem nQ{E:XK}(F:FnOk X.prog X.w X.K X.mg X.base (CXN X.prog X.w) k f fd ps sp)(hr:Room k X.A)(hb:Binds X.K fd ps [])(I:L2.Inv X G_ σ H s)(r:Vals vs us)(h:sp vs H Q E):wpAny (model X.prog X.w) X.A (call (.ref f) us) (EP X G_ σ Q) (Fl X G_ σ E) s:=by
 have hl:(us++([]:k_)).length=ps.length:=by rw[z8r,<- r.length];exact F.len _ _ _ _ h
 have hb':=hb s us I.kIn hl;rw[z8r]at hb';refine wpAny_call (z5f (F.run X.A X.stack s H ⟨us,[]⟩ us vs Q E hr I.env0 hb' r h) λq s' hq=>?_);cases q with
 |error e=>exact⟨H,s,I,hq⟩
 | ok fl=>
   cases fl with
   |ret u=>exact I.after hq
   |next=>exact False.elim hq
   |brk=>exact False.elim hq
   |cont=>exact False.elim hq
def rS{t:TA}{Q:C_->Hp->Prop}(ha:PA X.nox es t)(pos:Pos)(I:L2.Inv X G_ σ H s)(h:t σ H Q):wpAny (model X.prog X.w) X.A (spliced (backTo pos (starEach es X.env))) (AP X G_ σ Q) E s:=
 z8n (ha pos G_ s σ H Q (I.wish _) h) (λ_ _ y4=>by obtain⟨vs,H',I',r,q⟩:=y4;exact⟨vs,H',I'.unwish,r,q⟩) λ_ _ z=>False.elim z
def rT(ha:PE X.nox e t)(I:L2.Inv X G_ σ H s)(h:t σ H Q):wpAny (model X.prog X.w) X.A (eval e X.env) (EP X G_ σ Q) E s:=
 z8n (ha G_ s σ H Q (I.wish _) h) (λ_ _ y4=>by obtain⟨vs,H',I',r,q⟩:=y4;exact⟨vs,H',I'.unwish,r,q⟩) λ_ _ z=>False.elim z
def jI(d:DefE X.prog X.w X.K X.mg X.base x k ps T)(hr:Room k X.A)(ha:YA X.nox (a::es) tas)(hg:Gl X x<|>J7)(hdb:DB x<|>J8)(he:SE a es X<|>J7)(hpl:BT pos es X<|>J7):
  YX X (.Call (.Name x p) (a::es) [] pos) (hG T tas):=⟨by
 have ha:=ha.h;intro G_ s σ H Q E I ⟨ρ,M,QW,EX,hE,ht,hQ,hX⟩;obtain⟨f,fd,F,hm,hk,hb⟩:=d;refine z6d (fZ I hg hm ?_ hdb);refine z6e (h₀:=X.base) I.ok.mod.kin hk (cF (rS (Q:=λvs H1=>∃ds M1,PostWs X.K H M ds vs H1 M1/\T ds M1 QW EX) ha pos I ⟨ρ,M,_,hE,ht,λds M1 h1 vs H1 p1=>⟨ds,M1,p1,h1⟩⟩) λus s1 vs H1 I1 r ⟨ds,M1,p1,h1⟩=>⟨I1.kIn,?_⟩) he hpl;exact nQ F hr hb I1 r ⟨ds,M1,QW,EX,p1.rep,p1.ok,h1,λd M' hd v H' p'=>hQ d M' hd v H' ⟨p1.toPostT.trans p'.toPostT,p'.rep⟩,λv c H' z=>hX v c H' (z.pre p1.same)⟩⟩
def Ix(cl:Cls X.K C)(d:MetE X.prog X.w X.K X.mg X.base C m k ps T)(hr:Room k X.A)(ho:NE X.nox b tb)(ha:NA X.nox (a::es) tas)(hno:¬m∈ns)(hst:SE a es X)(hpl:BT pos es X)(ht:(eval (.Call (.Attribute b m ap) (a::es) [] pos) X.env=(do
   let ov <- eval b X.env
   standAt ap.atName
   let(f,first) <- holding [ov] (getMethod ov m pl)
   callWith pos f first (backTo pos (starEach (a::es) X.env)) (backToKw pos (keywordEach [] X.env))))<|>J7):
  NX X (.Call (.Attribute b m ap) (a::es) [] pos) (cK C ns T tb tas):=by
 intro G_ s σ H Q E I ⟨ρ,M,QW,EX,hE,hw,hQ,hX⟩;obtain⟨f,fd,F,hm,hb⟩:=d;refine z6p (pl:=pl) (aZ (rT (Q:=λv H1=>∃d M1,PostW X.K H M d v H1 M1/\∃q ds0,d=.ptr q/\M1 q=some (.ins C ns ds0)/\tas ρ M1 λds M2=>T (d::ds) M2 QW EX) ho I ⟨ρ,M,_,hE,hw,λd M1 h1 v H1 p1=>⟨d,M1,p1,h1⟩⟩) λu s1 v H1 I1 ru y4=>?_) ht;obtain⟨d,M1,p1,q,ds0,ed,hm1,h1⟩:=y4;subst ed;have pr:=p1.rep;cases pr;obtain⟨dx,vs0,g1,gl,g2⟩:=gs p1.ok hm1;obtain rfl:u=Value.ref q:=ru;refine kq I1 g1 cl hm (jF hno) ?_;refine z6e (first:=[.ref q]) (h₀:=X.base) I.ok.mod.kin hm.kp (cF (rS (Q:=λvs H2=>∃ds M2,PostWs X.K H1 M1 ds vs H2 M2/\T (.ptr q::ds) M2 QW EX) ha pos I1 ⟨ρ,M1,_,hE.next p1.toPostT,h1,λds M2 h2 vs H2 p2=>⟨ds,M2,p2,h2⟩⟩) λus s2 vs H2 I2 r ⟨ds,M2,p2,h2⟩=>⟨I2.kIn,?_⟩) hst hpl;have p12:=p1.toPostT.trans p2.toPostT;exact nQ (us:=.ref q::us) (vs:=.ref q::vs) F hr hb I2 (.cons rfl r) ⟨.ptr q::ds,M2,QW,EX,.cons (.ptr q) p2.rep,p2.ok,h2,λd M' hd v H' p'=>hQ d M' hd v H' ⟨p12.trans p'.toPostT,p'.rep⟩,λv c H' z=>hX v c H' (z.pre p12.same)⟩
def Iy(cl:Cls X.K C)(d:MetE X.prog X.w X.K X.mg X.base C m k ps T)(hr:Room k X.A)(ho:NE X.nox b tb)(hno:¬m∈ns)(ht:(eval (.Call (.Attribute b m ap) [] [] pos) X.env=(do
   let ov <- eval b X.env
   standAt ap.atName
   let(f,first) <- holding [ov] (getMethod ov m pl)
   callWith pos f first (backTo pos (starEach [] X.env)) (backToKw pos (keywordEach [] X.env))))<|>J7):
  NX X (.Call (.Attribute b m ap) [] [] pos) (cK C ns T tb ag):=by
 intro G_ s σ H Q E I ⟨ρ,M,QW,EX,hE,hw,hQ,hX⟩;obtain⟨f,fd,F,hm,hb⟩:=d;refine z6p (pl:=pl) (aZ (rT (Q:=λv H1=>∃d M1,PostW X.K H M d v H1 M1/\∃q ds0,d=.ptr q/\M1 q=some (.ins C ns ds0)/\ag ρ M1 λds M2=>T (d::ds) M2 QW EX) ho I ⟨ρ,M,_,hE,hw,λd M1 h1 v H1 p1=>⟨d,M1,p1,h1⟩⟩) λu s1 v H1 I1 ru y4=>?_) ht;obtain⟨d,M1,p1,q,ds0,ed,hm1,h1⟩:=y4;subst ed;have pr:=p1.rep;cases pr;obtain⟨dx,vs0,g1,gl,g2⟩:=gs p1.ok hm1;obtain rfl:u=Value.ref q:=ru;refine kq I1 g1 cl hm (jF hno) ?_;exact z4y (first:=[.ref q]) I1.kIn hm.kp (nQ (us:=[.ref q]) (vs:=[.ref q]) F hr hb I1 (.cons rfl .nil) ⟨[.ptr q],M1,QW,EX,.cons (.ptr q) .nil,p1.ok,h1,λd M' hd v H' p'=>hQ d M' hd v H' ⟨p1.toPostT.trans p'.toPostT,p'.rep⟩,λv c H' z=>hX v c H' (z.pre p1.same)⟩)
theorem Iz{E:XK}(M:Mk X.K C f)(F:FnOk X.prog X.w X.K X.mg X.base (CXN X.prog X.w) k f fd ps sp)(hr:Room (k+1) X.A)(hb:Binds X.K fd ps [])(I:L2.Inv X G_ σ H s)(r:Vals vs us)(h:∀x dx,H x=none->H dx=none->dx≠x->sp (.ref x::vs) (upd (upd H dx (.own x)) x (.ins C dx [])) (λv H2=>v=.non/\Q (.ref x) H2) E):
  wpAny (model X.prog X.w) X.A (call (.ref C) us) (EP X G_ σ Q) (Fl X G_ σ E) s:=by
 have hq:=h (s.heap.objs.size+1) s.heap.objs.size (I.hok.fresh (Nat.le_succ _)) (I.hok.fresh (z9l _)) (z8o (Nat.lt_succ_self _));have I2:=Inv.made (C:=C) I;have r2:Vals (V.ref (s.heap.objs.size+1)::vs) (Value.ref (s.heap.objs.size+1)::us):=.cons rfl r;have hl:(Value.ref (s.heap.objs.size+1)::us++([]:k_)).length=ps.length:=by rw[z8r,<- r2.length];exact F.len _ _ _ _ hq
 have hb':=hb _ (Value.ref (s.heap.objs.size+1)::us) I2.kIn hl;rw[z8r]at hb';refine wpAny_call (uy (f:=f) I.kIn M.makes M.init (z7g.mp M.fn) (z5f (F.run _ X.stack _ _ ⟨Value.ref (s.heap.objs.size+1)::us,[]⟩ (Value.ref (s.heap.objs.size+1)::us) _ _ E (hr.make C us []) (I2.env0.make C us []) hb' r2 hq) λz s' hz=>?_));cases z with
 |error e=>exact⟨_,_,I2,hz⟩
 | ok fl=>
   cases fl with
   |ret u=>obtain⟨v,H',I3,rv,ev,q3⟩:=I2.after hz;subst ev;exact⟨rv,⟨V.ref (s.heap.objs.size+1),H',I3,rfl,q3⟩⟩
   |next=>exact False.elim hz
   |brk=>exact False.elim hz
   |cont=>exact False.elim hz
def IC(d:MakE X.prog X.w X.K X.mg X.base x C k ps T)(hr:Room (k+1) X.A)(ha:YA X.nox (a::es) tas)(hg:Gl X x<|>J7)(hdb:DB x<|>J8)(he:SE a es X<|>J7)(hpl:BT pos es X<|>J7):
  YX X (.Call (.Name x p) (a::es) [] pos) (rz C T tas):=⟨by
 have ha:=ha.h;intro G_ s σ H Q E I ⟨ρ,M,QW,EX,hE,ht,hQ,hX⟩;obtain⟨f,fd,F,Mk',hm,hb⟩:=d;refine z6d (fZ I hg hm ?_ hdb);refine z6e (h₀:=X.base) I.ok.mod.kin Mk'.kp (cF (rS (Q:=λvs H1=>∃ds M1,PostWs X.K H M ds vs H1 M1/\∀a,M1 a=none->T (.ptr a::ds) (aK M1 a (.ins C [] [])) (λd M2=>d=.non/\QW (.ptr a) M2) EX) ha pos I ⟨ρ,M,_,hE,ht,λds M1 h1 vs H1 p1=>⟨ds,M1,p1,h1⟩⟩) λus s1 vs H1 I1 r ⟨ds,M1,p,h1⟩=>⟨I1.kIn,?_⟩) he hpl;refine Iz Mk' F hr hb I1 r λq dx hq hdx ne=>?_
 have hqd:upd H1 dx (.own q) q=none:=by rw[aH (Ne.symm ne)];exact hq
 have s1:=bg hdx (.own q);have s2:=bg hqd (.ins C dx []);obtain⟨e1,e2⟩:=fK (c:=.ins C [] []) (p.ok.up s1) hqd s2 bj ⟨rfl,[],rfl,rfl,.nil⟩;have pt:PostT X.K H1 M1 _ _:=(PostT.of p.ok s1).trans ⟨e1,e2⟩;exact⟨.ptr q::ds,_,_,EX,.cons (.ptr q) (aQ pt.same p.rep),e2,h1 q (p.ok.fresh hq),λd M' y4 v H' p'=>by obtain⟨hd,hq'⟩:=y4;subst hd;have pr:=p'.rep;cases pr;exact⟨rfl,hQ _ M' hq' _ H' ⟨(p.toPostT.trans pt).trans p'.toPostT,.ptr q⟩⟩,λv c H' z=>hX v c H' (z.pre (p.toPostT.trans pt).same)⟩⟩
end
section
variable {P:Hp}
def nR{t:St->Hp->VK->XK->Prop}{E:XK}(h:PX X e t)(ho:fA (CXN X.prog X.w) X E):PE X e λσ H Q=>t σ H Q E:=λG_ s σ H Q I hw=>z8n (h G_ s σ H Q E I hw) (λ_ _ z=>z) λe' s' y4=>by obtain⟨H1,s1,I1,hc⟩:=y4;exact ho G_ σ H1 s1 e' s' I1 hc
def xK(i:Nat)(ho:OutX X P EX)(hN:X.N.Nodup)(he:YX X a te)(hi:X.N[i]?=some x<|>J7)(hx:Loc X.env.scope x<|>J9)(hs:swapsWith a (some (.Name x p2)) pos.line X.env=pure false<|>J7)(hfn:X.fn x=true\/X.env.scope.names.lookup x=some .local<|>J9):YM X P EX (.Assign [.Name x p2] a pos) (iH i te):=⟨have he:=he.h;λn=>dG (ja hN hi hx (nR he ho.pass) hs hfn) λDe σ H y4=>by obtain⟨ρ,M,Ew,hE,ht,hl,hX⟩:=y4;exact⟨ρ,M,_,_,hE.q,ht,λd M1 h1 v H1 p1=>hl.nx _ M1 h1 _ H1 ((hE.next p1.toPostT).set p1.rep),λv c H' z=>(z.pre hE.same).post hX⟩⟩
def fN(ho:OutX X P EX)(he:YX X a te):YM X P EX (.Return (some a) pos) (eK te):=⟨have he:=he.h;λn=>dG (i8 (nR he ho.pass)) λDe σ H y4=>by obtain⟨ρ,M,Ew,hE,ht,hl,hX⟩:=y4;exact⟨ρ,M,_,_,hE.q,ht,λd M1 h1 v H1 p1=>hl.rt d M1 h1 v H1 (hE.same.trans p1.same) p1.ok p1.rep,λv c H' z=>(z.pre hE.same).post hX⟩⟩
end
def ID{k:Nat}{body:NTS}{T:NTX}(h1:ps.length=np)(h2:N.length=n)(h3:T=mkX np n body)(Fn:Fun K x qual st f fd)(S:FnScope N ps (ao st))(h:∀(cdv:Value) (A:Around) (outer:List PySem.Env) (s:Shared) (H:Hp) (E:XK) (PP:Hp) (EX:QX),Room k (A.deeper (envOfC qual (ao st) s.heap.objs.size f cdv))->OutX (cG (CXN P w) P w K mg base N qual (ao st) f cdv A outer s H E) PP EX ->
   MSs (cG (CXN P w) P w K mg base N qual (ao st) f cdv A outer s H E) PP EX (cO st) body):
  FnOk P w K mg base (CXN P w) (k+1) f fd ps (spE K T):=by
 subst h1 h2 h3;have hpl:ps.length<=N.length:=by have:=z8u List.length S.pre;rw[z8a]at this;ext
 obtain⟨oc,od,kV,doc,pm,an,cdv,ct,osl,rfl,lk,hcd⟩:=Fn.ex;refine uL lk hcd S (λvs H Q E h=>?_) λA outer s H vs Q E hr h'=>?_
 ·obtain⟨ds,M,QW,EX,r,_,hg,_⟩:=h
  rw[r.length,hg.1]
 ·obtain⟨ds,M,QW,EX,r,hok,⟨hl,ht⟩,hQ,hX⟩:=h'
  have lv:=r.length;refine⟨_,h cdv A outer s H E (PH H M) EX hr (Iv hX) N.length,ds.map some++List.replicate (N.length-ps.length) none,M,_,⟨⟨λi d q=>?_,hok⟩,Same.refl _,?_,?_⟩,ht,⟨λρ M' hn σ' H' hE=>?_,λρ M' hn=>hn.elim,λρ M' hn=>hn.elim,λd M' hd v H' e1 e2 e3=>?_⟩,λ_ _ z=>z⟩
  ·have get:ds[i]?=some d:=by
    by_cases hi:i<ds.length
    ·rw[z8f (by simpa using hi),z9x]at q
     cases e:ds[i]? with
     |none=>rw[e]at q;cases q
     |some z=>rw[e]at q;simpa using q
    ·rw[z9y (by simpa using hi),z7i]at q
     split at q<;>cases q
   obtain⟨v,h2,h3⟩:=r.get get;refine⟨v,?_,h3⟩;unfold L2.start;have hi:i<vs.length:=(z9e.mp h2).1;rw[z8f (by simpa using hi),z9x,h2];rfl
  ·show(L2.start N vs).length=N.length
   unfold L2.start;rw[z9f,z9c,z8s];ext
  ·rw[z9f,z9c,z8s]
   ext
  ·exact hQ _ M' hn _ H' ⟨⟨hE.same,hE.q.ok⟩,.non⟩
  ·exact hQ d M' hd v H' ⟨⟨e1,e2⟩,e3⟩
section
variable {x:Addr}
def xL(I:L2.Inv X G_ σ H s)(hx:H x=some (dU x C))(hst:B.StaysIn s.heap)(hB:B.StaysIn h')(hth:∃o,h'.get? x=some o/\o.cls=.ref C)(hup:s.heap.UpToSlots h')(c1:∀b u,H b=some u->b≠x->B.get? b≠none)(c2:∀b o,X.s₀.heap.get? b=some o->b∉frs X.outer->B.get? b≠none)(c3:∀p∈X.pn++G_,B.get? p.1≠none)(hex:X.ex=[]):L2.Inv X G_ σ H {s with heap:=h'}:=by
 have same:∀{b:Addr} {o:Obj},B.get? b≠none->s.heap.get? b=some o->h'.get? b=some o:=λ{b o} n e=>by
  cases q:B.get? b with
  |none=>exact absurd q n
  |some o'=>have h1:=hst b o' q;have h2:=hB b o' q;rw[e]at h1;cases h1;exact h2
 have nx:∀b:Addr,b∉X.ex:=λb z=>by rw[hex]at z;cases z
 have fr:∀b o,s.heap.get? b=some o->b∈frs X.outer->∃sl,h'.get? b=some {o with slots:=sl}:=λb o e hb=>by obtain⟨_,o0,ho0,hd0⟩:=I.ok.funs.mem hb;obtain⟨sl,q⟩:=I.base.slot b o0 ho0 (I.ok.frf b hb) hb (nx b);rw[e]at q;cases q;exact hup b _ e hd0
 have cellK:∀c v,s.heap.IsCell c v->h'.IsCell c v:=λc v y4=>by obtain⟨o,ho,hd⟩:=y4;obtain⟨sl,q⟩:=hup c o ho (λvs z=>by rw[hd]at z;cases z);exact⟨_,q,hd⟩
 refine⟨I.ok,I.os,I.bare,⟨λb o e n hb _=>?_,λb o e n hb _=>?_,λb o e n _=>I.base.free b o e n (nx b),λb o e _=>?_,I.base.tups,I.base.frzs,I.base.tbls⟩,?_,λy c e=>?_,I.free,I.freeC,λp hp=>?_,λb u e=>?_,I.len⟩
 ·exact same (c2 b o e hb) (I.base.keep b o e n hb (nx b))
 ·obtain⟨sl,q⟩:=I.base.slot b o e n hb (nx b)
  obtain⟨sl2,q2⟩:=fr b _ q hb;exact⟨sl2,q2⟩
 ·obtain⟨o',q⟩:=I.base.there b o e (nx b)
  by_cases hb:b∈frs X.outer
  ·obtain⟨sl,q2⟩:=fr b o' q hb
   exact⟨_,q2⟩
  ·exact⟨o',same (c2 b o e hb) q⟩
 ·obtain⟨m,hn,hl⟩:=I.loc
  refine⟨m,hup.ns hn,λi y v e1 e2 e3=>?_⟩;obtain⟨u,r,l⟩:=hl i y v e1 e2 e3;refine⟨u,r,?_⟩;rcases l with l|⟨k,c,e,z⟩
  ·exact .inl l
  ·exact .inr ⟨k,c,e,cellK c _ z⟩
 ·obtain⟨v,z⟩:=I.cell y c e
  exact⟨v,cellK c v z⟩
 ·obtain⟨e,r⟩:=I.pin p hp
  exact⟨same (c3 p hp) e,r⟩
 ·by_cases hb:b=x
  ·subst hb
   rw[hx]at e;cases e;exact rN hth
  ·refine(I.hok b u e).stay (λc v hc q=>?_) (λ_ q=>q) λ_ _ q=>q
   have:H c≠none/\c≠x:=by
    rcases hc with rfl|hc
    ·exact⟨by rw[e];exact(λz=>nomatch z),hb⟩
    ·exact⟨by rw[hc];exact(λz=>nomatch z),λz=>by rw[z,hx]at hc;cases hc⟩
   cases hq:H c with
   |none=>exact absurd hq this.1
   |some u'=>exact same (c1 c u' hq this.2) q
def IE{n:Str}{m:Str->v_}{v:v_}(I:L2.Inv X G_ σ H s)(hN:X.N.Nodup)(hi:X.N[i]?=some n)(hn:s.heap.Ns X.env.locals m)(hn':h'.Ns X.env.locals λy=>if y=n then v else m y)(hs:Heap.SameBut X.env.locals s.heap h'):L2.Inv X G_ (σ.set i none) H {s with heap:=h',toks:=t'}:=by
 obtain⟨oL,_,_,hoL,_⟩:=id hn;have hb0:∀b o,X.s₀.heap.get? b=some o->b≠X.env.locals:=λb o e=>z8o (z9v (z9n e) I.ok.above)
 refine⟨I.ok,I.os,I.bare,⟨λb o e n hb hx=>?_,λb o e n hb hx=>?_,I.base.free,λb o e hx=>?_,I.base.tups,I.base.frzs,I.base.tbls⟩,⟨_,hn',λj y v' e1 e2 e3=>?_⟩,λy c e=>?_,I.free,I.freeC,λp hp=>?_,λb u e=>?_,by simpa using I.len⟩
 ·exact(hs.2 b (hb0 b o e)).trans (I.base.keep b o e n hb hx)
 ·obtain⟨sl,e1⟩:=I.base.slot b o e n hb hx
  exact⟨sl,(hs.2 b (hb0 b o e)).trans e1⟩
 ·obtain⟨o',e1⟩:=I.base.there b o e hx
  exact⟨o',(hs.2 b (hb0 b o e)).trans e1⟩
 ·by_cases hj:j=i
  ·subst hj
   have hl:j<σ.length:=by rw[I.len];exact(z9e.mp hi).1
   rw[z9r hl]at e2;cases e2
  ·rw[z9g (Ne.symm hj)]at e2
   obtain⟨m1,hn1,hl1⟩:=I.loc;obtain⟨u',r',q⟩:=hl1 j y v' e1 e2 e3;refine⟨u',r',?_⟩;rcases q with⟨k,e⟩|⟨k,c,e,z⟩
   ·refine .inl ⟨k,?_⟩
    have ne:y≠n:=λe=>hj (pC hN e1 (e▸hi))
    simp only[ne,z5d];obtain⟨o1,es1,ep1,a1,a2,a3,a4⟩:=hn1;obtain⟨o2,es2,ep2,b1,b2,b3,b4⟩:=hn;rw[a1]at b1;cases b1;rw[a2]at b2;cases b2;rw[<- b4,a4,e]
   ·exact .inr ⟨k,c,e,z.sameBut hs (I.cne y c e)⟩
 ·obtain⟨w',z⟩:=I.cell y c e
  exact⟨w',z.sameBut hs (I.cne y c e)⟩
 ·obtain⟨e,n,ne,nf,d⟩:=I.pin p hp
  exact⟨(hs.2 p.1 ne).trans e,n,ne,nf,d⟩
 ·refine(I.hok b u e).stay (λc w' hc q=>(hs.2 c ?_).trans q) (λ_ q=>q) λ_ _ q=>q
  rintro rfl;rcases hc with rfl|hc
  ·rw[I.free]at e;cases e
  ·rw[I.free]at hc;cases hc
def IF{M:Model}{B:Addr}{Q:Bool->Shared->Prop}(kin:K.In s.heap)(XB:XBase K B)(e:W.mroIn K C (.ref B)=some true)(hx:∃o,s.heap.get? x=some o/\o.cls=.ref C)(hq:Q true s):
  wpAny M A (excMatches (.ref x) (.ref B)) Q E s:=by
 obtain⟨o,hx,hc⟩:=hx;unfold excMatches;refine z9j ((W.looks_instIn kin XB.nt).at ?_);simp only[z6f,z5d];refine z9j (z9z ?_);have L1:W.Looks M s.heap (isExcClass (.ref B)) true:=by intro A' Q' E' s' k q;unfold isExcClass;refine z9j (rQ kin XB.is _ _ _ _ k ?_);simp only[z4i];exact z5p kin XB.be _ _ _ _ k q
 simp only[List.forIn_cons,List.forIn_nil];refine z9j (z9j (z9j (L1.at ?_)));simp only[z5n,z6f,z5d];refine z9z ?_;refine z9z ?_;refine z9j ((nN hx hc).at ?_);refine z9j (z9j (z9j ((z5p kin e).at ?_)));simp only[z4i];refine z9z ?_;refine z9z ?_;exact z9z hq
def xM{e:Value}(I:L2.Inv X G_ σ H s):L2.Inv {X with A:=X.A.mark (some e),calm:=false,xe:=λ_ _=>False} G_ σ H s:=
 ⟨⟨I.ok.mod,I.ok.kind,I.ok.glob,I.ok.blt,I.ok.above,I.ok.inj,I.ok.has,I.ok.cab,(λz=>nomatch z),I.ok.frames,I.ok.stk,I.ok.exf,I.ok.bs,I.ok.bsz,I.ok.noex,I.ok.exfs,I.ok.funs,I.ok.frf⟩,I.os,I.bare,I.base,I.loc,I.cell,I.free,I.freeC,I.pin,I.hok,I.len⟩
def IG{e:Value}(I0:L2.Inv X G_ σ H s){σ1:St}(I:L2.Inv {X with A:=X.A.mark (some e),calm:=false,xe:=λ_ _=>False} G_ σ1 H1 s1):L2.Inv X G_ σ1 H1 s1:=
 ⟨I0.ok,I.os,I.bare,I.base,I.loc,I.cell,I.free,I.freeC,I.pin,I.hok,I.len⟩
def IH{E:XK}{e:Value}{D:Ends}{E0:Value->Shared->Prop}{cn n:Str}{c:Nat}(xt:fm X.K=true)(hN:X.N.Nodup)(hc:X.N[c]?=some cn)(hj:X.N[j]?=some n)(hcj:c≠j)(lc:X.env.scope.names.lookup cn=some .local)(lj:X.env.scope.names.lookup n=some .local)(kj:X.env.kindOf n=some .local)(hg:Gl X "FareError")(hst:X.stack=X.env::X.outer)(hfr:X.env.frame=some X.env.locals)(hex:X.ex=[])(hdb:DB n)(hcd:(n==("__classdict__" : Str))=false)(hsw:swapsWith (.Name n pn) (some (.Name cn pc)) pa.line X.env=pure false)(hF:Fl X G_ σ E e s')(hD:∀x C H2,H2 x=some (dU x C)->E (.ref x) (some C) H2->(∃nm∈XS,W.nsIn X.K mainGlobals nm=some (some (.ref C)))/\D.nx ((σ.set j none).set c (some (.ref x))) H2):
  wpAny (model X.prog X.w) X.A (noteFrame e X.env) (λ_ s2=>wpAny (model X.prog X.w) X.A (setFlight e none) (λ_ s3=>wpAny (model X.prog X.w) X.A (handleBy e X.env [.ExceptHandler (some (.Name "FareError" pf)) (some n) [.Assign [.Name cn pc] (.Name n pn) pa] ph]) (SP X G_ D) E0 s3) E0 s2) E0 s':=by
 obtain⟨H1,s1,I,x,C,H2,B,a0,rfl,os,bare,un,hok,hfl,c1,c2,hx,hE1⟩:=hF;obtain⟨hh,g,d,t,os'⟩:=s';obtain rfl:os'=s1.os:=os;have I2:L2.Inv X G_ σ H2 {s1 with heap:=hh,gens:=g,drawn:=d,toks:=t}:=I.call (h':=hh) (g':=g) (d':=d) (t':=t) (ch:=[]) un hok bare (λb z=>absurd z (by simp));obtain⟨⟨nm,hnm,hns⟩,hnx⟩:=hD x C H2 hx hE1;obtain⟨B0,XB,hall⟩:=jH xt;obtain⟨C',hns',O,hmro,_⟩:=hall nm hnm;rw[hns]at hns';obtain rfl:C=C':=by cases hns';rfl
 have hmB:X.mg "FareError"=some (.ref B0):=z6r I.ok.mod.kin I.ok.mod.glob XB.ns;have hfl':Heap.FlyingW B (X.env::X.outer) x (.ref C) a0 hh:=by rw[<- hst];exact hfl
 have c2':∀b o,X.s₀.heap.get? b=some o->b∉frs X.outer->B.get? b≠none:=λb o e hb=>by
  obtain⟨o',q⟩:=I.base.there b o e (by rw[hex];exact λz=>nomatch z);refine c2 b o' q λz=>?_
  rcases z9k.mp (I.stkSub b z)with e1|e1
  ·have:=I.ok.above
   rw[<- e1]at this;exact absurd (z9v (z9n e) this) (z7u _)
  ·exact hb e1
 have c3:∀p∈X.pn++G_,B.get? p.1≠none:=λp hp=>by
  obtain⟨e,_,ne,nf,_⟩:=I.pin p hp;refine c2 p.1 p.2 e λz=>?_
  rcases z9k.mp (I.stkSub _ z)with e1|e1
  ·exact ne e1
  ·exact nf e1
 refine PySem.wpAny_looks_onW (by rw[<- hst];exact I.ok.frames) hfr hfl' λh3 q3 u3=>?_
 refine PySem.wpAny_landsW q3 λh4 q4 u4=>?_
 have u34:=u3.trans u4;have I4:L2.Inv X G_ σ H2 {s1 with heap:=h4,gens:=g,drawn:=d,toks:=t}:=xL (s:={s1 with heap:=hh,gens:=g,drawn:=d,toks:=t}) I2 hx hfl'.1 q4.1 q4.there u34 c1 c2' c3 hex;refine wpAny_handleBy_cons (codeAny_handlers_test ?_) (λz=>nomatch z);refine fZ (xM (e:=.ref x) I4) hg hmB ?_;refine IF I4.kIn XB hmro q4.there ?_;refine codeAny_handlers_suite_as ?_;refine lands_againW q4 λh5 q5 u5=>?_
 have I5:L2.Inv X G_ σ H2 {s1 with heap:=h5,gens:=g,drawn:=d,toks:=t}:=xL (s:={s1 with heap:=h4,gens:=g,drawn:=d,toks:=t}) I4 hx q4.1 q5.1 q5.there u5 c1 c2' c3 hex;refine lY I5 hN hj (.inl lj) (v:=.ref x) rfl (λs6 I6=>?_) (.inr lj);have hj':j<σ.length:=by rw[I5.len];exact(z9e.mp hj).1
 have P:=km (ja (X:={X with A:=X.A.mark (some (.ref x)),calm:=false,xe:=λ_ _=>False}) hN hc (.inl lc) (gG (pos:=pn) hj (.inl lj) hdb hcd) hsw (.inr lc)) G_ s6 _ H2 ⟨λσ7 H7=>σ7=(σ.set j (some (.ref x))).set c (some (.ref x))/\H7=H2,λ_ _=>False,λ_ _=>False,λ_ _=>False⟩ (xM (e:=.ref x) I6) ⟨.ref x,z9r hj',rfl,rfl⟩;refine z8n P (λf s7 h7=>?_) λ_ _ z=>False.elim z
 cases f with
 |brk=>obtain⟨_,_,_,z⟩:=h7;exact z.elim
 |cont=>obtain⟨_,_,_,z⟩:=h7;exact z.elim
 |ret v=>obtain⟨_,_,_,_,_,z⟩:=h7;exact z.elim
 | next=>
   obtain⟨σ7,H7,I7,rfl,rfl⟩:=h7;have I7:=IG I6 I7;obtain⟨m,hn,_⟩:=id I7.loc;refine wpAny_nameGoes_keeps kj hn (by rw[I.ok.kind];rfl) λh8 v hn8 hs8=>?_
   have I8:=IE (t':=s7.toks+1) I7 hN hj hn hn8 hs8;refine⟨_,_,I8,?_⟩;rw[List.set_comm _ _ hcj,List.set_set];exact hnx
end
section
variable {cn n:Str}
def EnvN.gone{P:Hp}{m:Nat}(h:EnvN K P m σ ρ H M):EnvN K P m (σ.set j none) (ρ.set j none) H M:=
 ⟨⟨λk e q=>by
   by_cases e1:k=j
   ·subst e1
    have hl:k<ρ.length:=by have:=(z9e.mp q).1;simpa using this
    rw[z9r hl]at q;cases q
   ·rw[z9g (Ne.symm e1)]at q
    obtain⟨v',h1,h2⟩:=h.q.env k e q;exact⟨v',by rw[z9g (Ne.symm e1)];exact h1,h2⟩,h.q.ok⟩,h.same,by rw[z8e];exact h.lσ,by rw[z8e];exact h.lρ⟩
def II{P:Hp}{m:Nat}{c:Nat}{y:Addr}(hE:EnvN K P m σ ρ H M)(hl:LeE Ew (hJ K P m De))(hy:H2 y=some (dU y C))(h:EXK K (PH H M) (λx M1=>∀a,M1 a=none->Ew.nx ((ρ.set j none).set c (some (.ptr a))) (aK M1 a (.exn a x))) (.ref y) (some C) H2):
  (∃nm∈XS,W.nsIn K mainGlobals nm=some (some (.ref C)))/\De.nx ((σ.set j none).set c (some (.ref y))) H2:=by
 obtain⟨b,nm,M1,C1,e1,e2,hns,hxs,hex,hsame,hok⟩:=h;obtain rfl:y=b:=by cases e1;rfl
 obtain rfl:C=C1:=by cases e2;rfl
 refine⟨⟨nm,hxs,hns⟩,?_⟩;obtain⟨s1,ok1⟩:=fK (c:=.exn y nm) hok xI Iu hy ⟨C,rfl,hns⟩;exact hl.nx _ _ (hex y (hok.fresh xI)) _ _ (((hE.next ⟨hsame.trans s1,ok1⟩).gone (j:=j)).set (.ptr y))
def xN(i c j:Nat)(xt:fm X.K=true)(hN:X.N.Nodup)(he:YX X a te)(hi:X.N[i]?=some x<|>J7)(hx:Loc X.env.scope x<|>J9)(hs:swapsWith a (some (.Name x p2)) p3.line X.env=pure false<|>J7)(hfn:X.fn x=true\/X.env.scope.names.lookup x=some .local<|>J9)(hc:X.N[c]?=some cn<|>J7)(hj:X.N[j]?=some n<|>J7)(hcj:c≠j<|>J8)(lc:X.env.scope.names.lookup cn=some .local<|>J7)(lj:X.env.scope.names.lookup n=some .local<|>J7)(kj:X.env.kindOf n=some .local<|>J7)(hg:Gl X "FareError"<|>J7)(hst:X.stack=X.env::X.outer<|>J7)(hfr:X.env.frame=some X.env.locals<|>J7)(hex:X.ex=[]<|>J7)(hdb:DB n<|>J8)(hcd:(n==("__classdict__" : Str))=false<|>J8)(hsw:swapsWith (.Name n pn) (some (.Name cn pc)) pa.line X.env=pure false<|>J7):
  YS X (.Try [.Assign [.Name x p2] a p3] [.ExceptHandler (some (.Name "FareError" pf)) (some n) [.Assign [.Name cn pc] (.Name n pn) pa] ph] [] [] pos) (nF c j (iH i te)):=⟨by
 have he:=he.h;intro P m G_ s σ H De I ⟨ρ,M,Ew,hE,ht,hl⟩;refine wpAny_Try_except (z8n (wpAny_execs_cons (wpAny_Assign_Name (aZ (he G_ s σ H (λv H1=>∃d M1,PostW X.K H M d v H1 M1/\Ew.nx (ρ.set i (some d)) M1) _ I ⟨ρ,M,_,_,hE.q,ht,λd M1 h1 v H1 p1=>⟨d,M1,p1,h1⟩,λv c H' z=>z⟩) λv s1 y H1 I1 r1 ⟨d,M1,p1,h1⟩=>?_) hs)) (λf s1 h1=>h1) λe s1 hF=>?_)
 ·exact lY I1 hN hi hx r1 (λs2 I2=>z5q (z5q ⟨_,H1,I2,hl.nx _ M1 h1 _ H1 ((hE.next p1.toPostT).set p1.rep)⟩)) hfn
 ·exact IH xt hN hc hj hcj lc lj kj hg hst hfr hex hdb hcd hsw hF λy C H2 hy z=>II hE hl hy z⟩
end
section
variable {y f:Str}
def xO{q:Addr}{nm:Str}(h:MOk K H M)(ha:M q=some (.exn q nm)):∃C,H q=some (dU q C)/\W.nsIn K mainGlobals nm=some (some (.ref C)):=by
 obtain⟨o,h1,h2⟩:=h q _ ha;cases o with
 |ext φ=>obtain⟨C,rfl,hn⟩:=h2;exact⟨C,h1,hn⟩
 |_=>exact h2.elim
def xP{q:Addr}(hok:HOk P w H h)(e:H q=some (dU q C)):∃o,h.get? q=some o/\o.cls=.ref C:=(hok q _ e).1
def IJ(xt:fm X.K=true):cN X (.builtin "isinstance") (λxs H Q=>∃q C D nm y,xs=[.ref q,.ref D]/\H q=some (dU q C)/\nm∈XS/\y∈XS/\W.nsIn X.K mainGlobals nm=some (some (.ref C))/\W.nsIn X.K mainGlobals y=some (some (.ref D))/\Q (.bl (decide (nm=y))) H):=by
 intro G_ s σ H xs us Q I r h;obtain⟨q,C,D,nm,y,rfl,hq,hnm,hy,n1,n2,hQ⟩:=h;obtain⟨u,w,rfl,ru,rw'⟩:=ko r;cases ru;cases rw';have th:=xP I.hok hq;obtain⟨B,XB,hall⟩:=jH xt;obtain⟨C',m1,O,_,h2⟩:=hall nm hnm;rw[n1]at m1;obtain rfl:C=C':=by cases m1;rfl
 obtain⟨D',m2,hm,hne⟩:=h2 y hy;rw[n2]at m2;obtain rfl:D=D':=by cases m2;rfl
 obtain⟨D',m3,OD,_,_⟩:=hall y hy;rw[n2]at m3;obtain rfl:D=D':=by cases m3;rfl
 by_cases e:nm=y
 ·subst e
  rw[n1]at n2;obtain rfl:C=D:=by cases n2;rfl
  refine Ir I.kIn th ⟨.bl _,H,I,?_,hQ⟩;rw[z8d rfl];rfl
 ·rw[z8h e]at hm hQ
  exact Ip I.kIn O OD th (hne e) hm ⟨.bl false,H,I.tok _,rfl,hQ⟩
def IK(xt:fm X.K=true):cN X (.builtin "isinstance") (λxs H Q=>∃q C nm,xs=[.ref q,.ty "ValueError"]/\H q=some (dU q C)/\nm∈XS/\W.nsIn X.K mainGlobals nm=some (some (.ref C))/\Q (.bl true) H):=by
 intro G_ s σ H xs us Q I r h;obtain⟨q,C,nm,rfl,hq,hnm,n1,hQ⟩:=h;obtain⟨u,w,rfl,ru,rw'⟩:=ko r;cases ru;cases rw';obtain⟨B,XB,hall⟩:=jH xt;obtain⟨C',m1,O,_,h2⟩:=hall nm hnm;rw[n1]at m1;obtain rfl:C=C':=by cases m1;rfl
 exact Iq I.kIn O (xP I.hok hq) ⟨.bl true,H,I,rfl,hQ⟩
def fO(xt:fm X.K=true)(mi:X.mg "isinstance"=none)(ha:YE X a ta)(hy:y∈XS<|>Q1)(hg:Gl X "isinstance"<|>J7)(hgT:Gl X y<|>J7)(hd:DB y<|>J8)(hs:SE a [.Name y p2] X<|>J7)(hs2:starEach [.Name y p2] X.env=(false,eval (.Name y p2) X.env)::starEach [] X.env<|>J7)(hpl:BT pos [.Name y p2] X<|>J7):
  YE X (.Call (.Name "isinstance" p) [a,.Name y p2] [] pos) (eN y ta):=⟨by
 have ha:=ha.h;intro G_ s σ H Q I ⟨ρ,M,QW,hE,ht,hQ⟩;obtain⟨B,XB,hall⟩:=jH xt;obtain⟨D,n2,_⟩:=hall y hy;have hm:X.mg y=some (.ref D):=z6r I.ok.mod.kin I.ok.mod.glob n2;refine kr (IJ xt) hg mi (by decide +kernel) (bP ha (bP (pE (v:=.ref D) hgT hm rfl hd) c5 hs2) hs) (by decide) (by decide) hs hpl G_ s σ H Q I ⟨ρ,M,_,hE,ht,λd M1 y4 v H1 p1=>?_⟩;obtain⟨q,nm,ed,hc,hnm,h1⟩:=y4;subst ed;cases p1.rep;obtain⟨C,g1,g2⟩:=xO p1.ok hc;exact⟨q,C,D,nm,y,rfl,g1,hnm,hy,g2,n2,hQ _ M1 h1 _ H1 ⟨p1.toPostT,.bl _⟩⟩⟩
def IL(xt:fm X.K=true)(mi:X.mg "isinstance"=none)(mv:X.mg "ValueError"=none)(ha:YE X a ta)(hg:Gl X "isinstance"<|>J7)(hgT:Gl X "ValueError"<|>J7)(hs:SE a [.Name "ValueError" p2] X<|>J7)(hs2:starEach [.Name "ValueError" p2] X.env=(false,eval (.Name "ValueError" p2) X.env)::starEach [] X.env<|>J7)(hpl:BT pos [.Name "ValueError" p2] X<|>J7):
  YE X (.Call (.Name "isinstance" p) [a,.Name "ValueError" p2] [] pos) (rA ta):=⟨have ha:=ha.h;
 bq (kr (IK xt) hg mi (by decide +kernel) (bP ha (bP (tW (v:=.ty "ValueError") hgT mv (by decide +kernel) rfl (by decide) (by decide)) c5 hs2) hs) (by decide) (by decide) hs hpl) λσ H Q ρ M QW hE ht hQ=>⟨ρ,M,_,hE,ht,λd M1 y4 v H1 p1=>by obtain⟨q,nm,ed,hc,hnm,h1⟩:=y4;subst ed;cases p1.rep;obtain⟨C,g1,g2⟩:=xO p1.ok hc;exact⟨q,C,nm,rfl,g1,hnm,g2,hQ _ M1 h1 _ H1 ⟨p1.toPostT,.bl _⟩⟩⟩⟩
def IM(K:K0):OpV K vB dP:=by
 intro x y H dx dy d Q rx ry hg hQ;cases dx with
 | lst ds=>
   cases dy with
   | lst es'=>
     obtain⟨hl,rfl⟩:=bz hg;obtain⟨p,xs,rfl,hp,hx,hA⟩:=eI rx;obtain⟨p',ys,rfl,hp',hy,hA'⟩:=eI ry;refine⟨p,p',xs,ys,rfl,rfl,hp,hp',by rw[hx.length,hy.length];exact cR hl,λr hr=>hQ _ _ (bg hr _) (.lst (.inl bj) (aQ (bg hr _) (hx.append hy))) λA hD r1 r2=>?_⟩;have na:¬A r:=λz=>hD r z hr
     refine .lst (.inl (by rw[c7 na];exact bj)) (aQ (cH (bg hr _) λ_ z=>z) ((vQ hp r1).append (vQ hp' r2)))
   |_=>cases hg
 |_=>cases hg
def xQ(ha:YE X a ta)(hb:YE X b tb):YE X (.BinOp a .Add b pos) (n2 dP ta tb):=⟨have ha:=ha.h;have hb:=hb.h;lw mI (IM X.K) ha hb⟩
theorem xR:∀{ns:j_} {vs:C_} {f:Str},¬f∈ns->bQ (aX ns vs) (Sum.inr f:Key)=none
 |[],_,_,_=>rfl
 |_::_,[],_,_=>rfl
 | n::ns,w::vs,f,h=>by
   have ne:¬((Sum.inr n:Key)=Sum.inr f):=λq=>h (z5o q▸z9a)
   have ih:=xR (vs:=vs) λz=>h (z9d n z)
   show bQ ((Sum.inr n,w)::aX ns vs) _=none;unfold bQ at ih ⊢;simp[ne,ih]
end
def a7(h:JE X a fa es):YE X a (nP fa):=⟨rC h.h⟩
def hV{k:Nat}(hr:Room k X.A)(ha:YE X a ta)(hb:YE X b tb):YE X (.Compare a [.Eq] [b] pos) (n2 eqD ta tb):=⟨ne_eq hr ha.h hb.h⟩
section
variable {k:Nat}{es:l_}
def xS(cl:Cls X.K C)(d:MetN X.prog X.w X.K X.mg X.base C m k ps T)(hr:Room k X.A)(ho:YE X b tb)(ha:YA X (a::es) tas)(hno:¬m∈ns<|>Q1)(hst:SE a es X<|>J7)(hpl:BT pos es X<|>J7)(ht:(eval (.Call (.Attribute b m ap) (a::es) [] pos) X.env=(do
   let ov <- eval b X.env
   standAt ap.atName
   let(f,first) <- holding [ov] (getMethod ov m pl)
   callWith pos f first (backTo pos (starEach (a::es) X.env)) (backToKw pos (keywordEach [] X.env))))<|>J7):YE X (.Call (.Attribute b m ap) (a::es) [] pos) (bG C ns T tb tas):=⟨HC cl d hr ho.h ha.h hno hst hpl ht⟩
def cU(cl:Cls X.K C)(d:MetN X.prog X.w X.K X.mg X.base C m k ps T)(hr:Room k X.A)(ho:YE X b tb)(hno:¬m∈ns<|>Q1)(ht:(eval (.Call (.Attribute b m ap) [] [] pos) X.env=(do
   let ov <- eval b X.env
   standAt ap.atName
   let(f,first) <- holding [ov] (getMethod ov m pl)
   callWith pos f first (backTo pos (starEach [] X.env)) (backToKw pos (keywordEach [] X.env))))<|>J7):YE X (.Call (.Attribute b m ap) [] [] pos) (bG C ns T tb ag):=⟨HD cl d hr ho.h hno ht⟩
end
section
variable {tv:NTE}
def lE(ha:YE X a ta)(he:YE X e tv)(hbase:attributeBase a "append" X.env (eval a X.env)=eval a X.env<|>J7)(hfew:(((backTo cp (starEach [e] X.env)).all (λx=>!x.1)&&(backToKw cp (keywordEach [] X.env)).all (λx=>x.1.isSome)
   && decide (([e]:l_).length+([]:n_).length+(if([]:n_).isEmpty then 0 else 1)<30))=true)<|>J7)(hline:(ap.endLine==cp.line)=true<|>J7)(hs:SE e [] X<|>J7)(hplain:BT cp [] X<|>J7)(hsw:swapsWith (.Call (.Attribute a "append" ap) [e] [] cp) none pos.line X.env=pure false<|>J7):YS X (.Expr (.Call (.Attribute a "append" ap) [e] [] cp) pos) (gZ ta tv):=⟨HH ha.h he.h hbase hfew hline hs hplain hsw⟩
def xT(ha':YE X a ta)(hb:YE X b ti)(he:YE X e tv)(ha:(∀v,assign (.Subscript a b p3) X.env v=(do
   let ov <- holding [v] (eval a X.env);let iv <- holding [v,ov] (eval b X.env)
   standAt p3
   holding [v,ov,iv] (setItem ov iv v)
   release [v,ov,iv] []))<|>Q0)(hs:swapsWithSole [.Subscript a b p3] e pos.line X.env=pure false<|>J7)(hw:swappedStores [.Subscript a b p3] e X.env=pure none<|>J7)(h1:(assignEach [.Subscript a b p3] X.env).map (·.2)=[assign (.Subscript a b p3) X.env]<|>J7):YS X (.Assign [.Subscript a b p3] e pos) (lr ta ti tv):=⟨HI ha'.h hb.h he.h ha hs hw h1⟩
end
section
variable {k:Nat}{es:l_}{T:NTX}
def fo(cl:Cls X.K C)(d:MetE X.prog X.w X.K X.mg X.base C m k ps T)(hr:Room k X.A)(ho:YE X.nox b tb)(ha:YA X.nox (a::es) tas)(hno:¬m∈ns<|>Q1)(hst:SE a es X<|>J7)(hpl:BT pos es X<|>J7)(ht:(eval (.Call (.Attribute b m ap) (a::es) [] pos) X.env=(do
   let ov <- eval b X.env
   standAt ap.atName
   let(f,first) <- holding [ov] (getMethod ov m pl)
   callWith pos f first (backTo pos (starEach (a::es) X.env)) (backToKw pos (keywordEach [] X.env))))<|>J7):YX X (.Call (.Attribute b m ap) (a::es) [] pos) (cK C ns T tb tas):=⟨Ix cl d hr ho.h ha.h hno hst hpl ht⟩
def xU(cl:Cls X.K C)(d:MetE X.prog X.w X.K X.mg X.base C m k ps T)(hr:Room k X.A)(ho:YE X.nox b tb)(hno:¬m∈ns<|>Q1)(ht:(eval (.Call (.Attribute b m ap) [] [] pos) X.env=(do
   let ov <- eval b X.env
   standAt ap.atName
   let(f,first) <- holding [ov] (getMethod ov m pl)
   callWith pos f first (backTo pos (starEach [] X.env)) (backToKw pos (keywordEach [] X.env))))<|>J7):YX X (.Call (.Attribute b m ap) [] [] pos) (cK C ns T tb ag):=⟨Iy cl d hr ho.h hno ht⟩
end
section
variable {k:Nat}
def cj{body:NTS}(h1:ps.length=np)(h2:N.length=n)(h3:T=mkN np n body)(Fn:Fun K x qual st f fd)(S:FnScope N ps (ao st))(h:∀(cdv:Value) (A:Around) (outer:List PySem.Env) (s:Shared) (H:Hp) (E:XK),Room k (A.deeper (envOfC qual (ao st) s.heap.objs.size f cdv)) ->
   YSs (cG CX0 P w K mg base N qual (ao st) f cdv A outer s H E).nox (cO st) body):
  FnOk P w K mg base CX0 (k+1) f fd ps (spN K T):=HL h1 h2 h3 Fn S λcdv A outer s H E hr=>(h cdv A outer s H E hr).h
def cV{body:NTS}{T:NTX}(h1:ps.length=np)(h2:N.length=n)(h3:T=mkX np n body)(Fn:Fun K x qual st f fd)(S:FnScope N ps (ao st))(h:∀(cdv:Value) (A:Around) (outer:List PySem.Env) (s:Shared) (H:Hp) (E:XK) (PP:Hp) (EX:QX),Room k (A.deeper (envOfC qual (ao st) s.heap.objs.size f cdv))->OutX (cG (CXN P w) P w K mg base N qual (ao st) f cdv A outer s H E) PP EX ->
   YMs (cG (CXN P w) P w K mg base N qual (ao st) f cdv A outer s H E) PP EX (cO st) body):
  FnOk P w K mg base (CXN P w) (k+1) f fd ps (spE K T):=ID h1 h2 h3 Fn S λcdv A outer s H E PP EX hr ho=>(h cdv A outer s H E PP EX hr ho).h
end
end VL
namespace VL
open PySem (Str)
open L2 (atI ixN)
section
variable {Q:QE}{QB:Bool->Sto->Prop}{QL:E_->Sto->Prop}{tv:NTE}{f:FE}{fb:ah->B_}{g1:D->F_}{C t:Nat}{E:EndN}{u v:NTS}
def IN(h:WE f ρ λd=>Q d M):nP f ρ M Q:=h
def IO(h:WB fb ρ λb=>QB b M):nPB fb ρ M QB:=h
def IP(h:ta ρ M λx M1=>tb ρ M1 λy M2=>W2 g x y λd=>Q d M2):n2 g ta tb ρ M Q:=h
def IQ(h:ta ρ M λx M1=>W1 g1 x λd=>Q d M1):n1 g1 ta ρ M Q:=h
def IR(h:ta ρ M λx M1=>kT (λb=>QB b M1) x):ba ta ρ M QB:=h
def IS(h:ta ρ M λx M1=>∃b,tru x=some b/\QB b M1):fJ ta ρ M QB:=h
def IU(h:ka ρ M λb M1=>kIf b (kb ρ M1 QB) (QB false M1)):ll ka kb ρ M QB:=h
def IV(h:ka ρ M λb M1=>kIf b (QB true M1) (kb ρ M1 QB)):nOr ka kb ρ M QB:=h
def IW(h:ka ρ M λb M1=>QB (!b) M1):gq ka ρ M QB:=h
def IY(h:ka ρ M λb M1=>kIf b (ta ρ M1 Q) (tb ρ M1 Q)):nIf ka ta tb ρ M Q:=h
def IZ(h:ta ρ M λx M1=>kT (λb=>kIf b (tb ρ M1 Q) (Q (.bl false) M1)) x):lm ta tb ρ M Q:=h
def Ja(h:QL [] M):ag ρ M QL:=h
def Jb(h:ta ρ M λx M1=>tas ρ M1 λxs M2=>QL (x::xs) M2):a8 ta tas ρ M QL:=h
def Jc(h:tas ρ M λds M1=>ds.length<=1000/\Q (.lst ds) M1):gX tas ρ M Q:=h
def Jd(h:tas ρ M λds M1=>ds.length<=1000/\Q (.tup ds) M1):jv tas ρ M Q:=h
def Je(h:WE f ρ λd=>∃ds,d=.lst ds/\∀a,M a=none->Q (.ptr a) (aK M a (.lst ds))):fk f ρ M Q:=h
def Jf(h:WA as ρ λds=>ds.length=ns.length/\∀a,M a=none->Q (.ptr a) (aK M a (.dic ns ds))):rh ns as ρ M Q:=h
def Jg{a:Nat}{d:D}(hv:a5 j ρ=some (.ptr a))(hm:M a=some (.dic ns ds))(hd:ds[i]?=some d)(h:Q d M):nDg ns i (nP (a5 j)) ρ M Q:=⟨_,hv,a,ds,d,rfl,hm,hd,h⟩
def Jh{a:Nat}{d:D}(hv:a5 j ρ=some (.ptr a))(hm:M a=some (.ins C ns ds))(hd:ds[i]?=some d)(h:Q d M):aN C ns i (nP (a5 j)) ρ M Q:=⟨_,hv,a,ds,d,rfl,hm,hd,h⟩
def Ji(h:tas ρ M λds M1=>T ds M1 Q):aF T tas ρ M Q:=h
def Jj(h:tas ρ M λds M1=>WF G (ds.map (vw1 M1)) λd=>aS d=true/\Q d M1):ci G tas ρ M Q:=h
def Jk(h:tas ρ M λds M1=>WF G ds λd=>Q d M1):jx G tas ρ M Q:=h
def Jl{a:Nat}(hv:a5 j ρ=some (.ptr a))(hm:M a=some (.ins C ns ds0))(h:tas ρ M λds M2=>T (.ptr a::ds) M2 Q):bG C ns T (nP (a5 j)) tas ρ M Q:=⟨_,hv,a,ds0,rfl,hm,h⟩
def ca(hl:ds.length=np)(h:u {nx:=λ_ M'=>Q .non M',rt:=Q} (ds.map some++List.replicate (n-np) none) M):mkN np n u ds M Q:=⟨hl,h⟩
def Jm(h:E.nx ρ M):sN E ρ M:=h
def Jn(h:u {E with nx:=λρ M=>v E ρ M} ρ M):ai u v E ρ M:=h
def Jo(h:ka ρ M λb M1=>kIf b (u E ρ M1) (v E ρ M1)):aG ka u v E ρ M:=h
def Jp(h:ta ρ M E.rt):aJ ta E ρ M:=h
def lF{a:Nat}(hv:a5 i ρ=some (.ptr a))(hm:M a=some (.lst ds))(h:E.rt (.lst ds) (dQ M a)):nz i E ρ M:=⟨a,ds,hv,hm,h⟩
def Jq(h:ta ρ M λd M1=>E.nx (ρ.set i (some d)) M1):aI i ta E ρ M:=h
def Jr(h:ta ρ M λd M1=>∃ds,d=.tup ds/\ds.length=is.length/\E.nx ((is.zip ds).foldl (λr p=>r.set p.1 (some p.2)) ρ) M1):rl is ta E ρ M:=h
def Js(h:tv ρ M λx M1=>ta ρ M1 λy M2=>∃a ds,y=.ptr a/\M2 a=some (.dic ns ds)/\E.nx ρ (aK M2 a (.dic ns (ds.set i x)))):lq ns i ta tv E ρ M:=h
def Jt(h:tv ρ M λx M1=>ta ρ M1 λy M2=>∃a ds,y=.ptr a/\M2 a=some (.ins C ns ds)/\E.nx ρ (aK M2 a (.ins C ns (ds.set i x)))):gY C ns i ta tv E ρ M:=h
def eO{fl:Str}(h:tv ρ M λx M1=>ta ρ M1 λy M2=>∃a ds,y=.ptr a/\M2 a=some (.ins C ns ds)/\E.nx ρ (aK M2 a (.ins C (ns++[fl]) (ds++[x])))):db C ns fl ta tv E ρ M:=h
def Ju(h:ta ρ M λx M1=>∃a ds0,x=.ptr a/\M1 a=some (.lst ds0)/\tv ρ M1 λy M2=>∃ds,M2 a=some (.lst ds)/\ds.length<100000/\E.nx ρ (aK M2 a (.lst (ds++[y])))):gZ ta tv E ρ M:=h
def Jv(h:tv ρ M λx M1=>ta ρ M1 λy M2=>ti ρ M2 λz M3=>∃a ds k j,y=.ptr a/\M3 a=some (.lst ds)/\z=.int k/\ixN ds.length k=some j/\E.nx ρ (aK M3 a (.lst (ds.set j x)))):lr ta ti tv E ρ M:=h
def Jw(h:tas ρ M λds M1=>∃j,ds=[.int j]/\okR j/\ce (λx E ρ M=>u E (ρ.set t (some x)) M) ((List.range j.toNat).map λk=>.int (k:Nat)) E ρ M1):nB t tas u E ρ M:=h
def Jx(h:tas ρ M λds M1=>∃i j,ds=[.int i,.int j]/\okR i/\okR j/\ce (λx E ρ M=>u E (ρ.set t (some x)) M) ((List.range (j-i).toNat).map λk=>.int (i+(k:Nat))) E ρ M1):nC t tas u E ρ M:=h
def rV(h:tas ρ M λds M1=>∃j,ds=[.int j]/\okR j/\j<1000/\cT 1 ta (bt 1 J3 ρ) ((List.range j.toNat).map λk=>.int (k:Nat)) [] M1 λds M2=>Q (.lst ds) M2):jz J3 tas ta ρ M Q:=h
def Jy(h:tas ρ M λds M1=>WF G (ds.map (vw2 M1)) λd=>aS d=true/\Q d M1):rm G tas ρ M Q:=h
def Jz(h:tas ρ M λds M1=>WF G (ds.map (vw2 M1)) λd=>(∃xs:z9,d=.lst (xs.map .int))/\Q d M1):rn G tas ρ M Q:=h
def JC(h:tas ρ M λds M1=>WF G (ds.map (vw2 M1)) λd=>Q d M1):rp G tas ρ M Q:=h
def JD(h:ta ρ M λx M1=>∃ds,vw1 M1 x=.lst ds/\Q (.lst ds) M1):rq ta ρ M Q:=h
def JG(h:ti ρ M λd M1=>∃ds,cA d=some ds/\ds.length<=1000/\cT 1 ta (bt 1 J3 ρ) ds [] M1 λds M2=>Q (.lst ds) M2):nD J3 ti ta ρ M Q:=h
def JH(h:ta ρ M λd M1=>∃ds,cA d=some ds/\ce (λx E ρ M=>u E (ρ.set t (some x)) M) ds E ρ M1):nA t ta u E ρ M:=h
def JJ(h:ta ρ M λx M1=>tb ρ M1 λy M2=>W2 g (vw3 M2 x) (vw3 M2 y) λd=>aS d=true/\Q d M2):n2V g ta tb ρ M Q:=h
def JK(h:ta ρ M λx M1=>∃a ds,x=.ptr a/\M1 a=some (.lst ds)/\n<=1000/\Q (.lst (dO ds (some (n:Nat)) none)) M1):nE n ta ρ M Q:=h
def JL(h:tas ρ M λds M1=>ds.length<=1000/\∀a,M1 a=none->Q (.ptr a) (aK M1 a (.lst ds))):jw tas ρ M Q:=h
def JM(h:ta ρ M λx M1=>tb ρ M1 λy M2=>∃a ds i d,x=.ptr a/\M2 a=some (.lst ds)/\y=.int i/\atI ds i=some d/\Q d M2):c4 ta tb ρ M Q:=h
def bb(hl:ds.length=np)(h:u {nx:=λ_ M'=>Q .non M',rt:=Q,ex:=EX} (ds.map some++List.replicate (n-np) none) M):mkX np n u ds M Q EX:=⟨hl,h⟩
def rW(hx:x∈XS)(h:E.ex x M):cD x E ρ M:=⟨hx,h⟩
def JN(h:te ρ M (λd M1=>E.nx (ρ.set i (some d)) M1) E.ex):iH i te E ρ M:=h
def JP(h:te ρ M E.rt E.ex):eK te E ρ M:=h
def JQ(h:te ρ M (λ_ M1=>E.nx ρ M1) E.ex):jA te E ρ M:=h
def JR(h:u {E with ex:=λx M1=>∀a,M1 a=none->E.nx ((ρ.set j none).set i (some (.ptr a))) (aK M1 a (.exn a x))} ρ M):nF i j u E ρ M:=h
def JU{T:NTX}(h:tas ρ M λds M1=>T ds M1 Q EX):hG T tas ρ M Q EX:=h
def JV{T:NTX}{a:Nat}(hv:a5 j ρ=some (.ptr a))(hm:M a=some (.ins C ns ds0))(h:tas ρ M λds M2=>T (.ptr a::ds) M2 Q EX):cK C ns T (nP (a5 j)) tas ρ M Q EX:=⟨_,hv,a,ds0,rfl,hm,h⟩
def xV{T:NTX}(h:tas ρ M λds M1=>∀a,M1 a=none->T (.ptr a::ds) (aK M1 a (.ins C [] [])) (λd M2=>d=.non/\Q (.ptr a) M2) EX):rz C T tas ρ M Q EX:=h
def xW{T:NTX}(h:T ds M Q λ_ _=>False):qtX T ds M Q:=h
def JY{y:Str}{a:Nat}(hv:a5 j ρ=some (.ptr a))(hm:M a=some (.exn a x))(hx:x∈XS)(h:Q (.bl (decide (x=y))) M):eN y (nP (a5 j)) ρ M Q:=⟨_,hv,a,x,rfl,hm,hx,h⟩
def JZ{a:Nat}(hv:a5 j ρ=some (.ptr a))(hm:M a=some (.exn a x))(hx:x∈XS)(h:Q (.bl true) M):rA (nP (a5 j)) ρ M Q:=⟨_,hv,a,x,rfl,hm,hx,h⟩
def xX{q:QX}{a b c:ah->Sto->Prop}{d:D->Sto->Prop}(h:a ρ M):EndN.nx ⟨a,d,b,c,q⟩ ρ M:=h
def xY{q:QX}{a b c:ah->Sto->Prop}{d:D->Sto->Prop}{x:D}(h:d x M):EndN.rt ⟨a,d,b,c,q⟩ x M:=h
def rX{α:Type}{body:D->NTS}(enc:α->D)(xs:List α)(I:Nat->ah->Sto->Prop)(h0:I 0 ρ M)(he:∀ρ M,I xs.length ρ M->E.nx ρ M)(hs:∀k (hk:k<xs.length) ρ M,I k ρ M->∀N:ah->Sto->Prop,(∀ρ M,I (k+1) ρ M->N ρ M)->body (enc xs[k]) {E with nx:=N,ct:=N,bk:=E.nx} ρ M):ce body (xs.map enc) E ρ M:=by
 have gen:∀(m k:Nat),m=xs.length-k->k<=xs.length->∀ρ M,I k ρ M->ce body ((xs.drop k).map enc) E ρ M:=by
  intro m
  induction m with
  | zero=>
    intro k hm hk ρ M h;have:k=xs.length:=by ext
    subst this;rw[z6c];exact he ρ M h
  | succ m ih=>
    intro k hm hk ρ M h;have hlt:k<xs.length:=by ext
    rw[z8c hlt,z9p];exact hs k hlt ρ M h _ λρ M z=>ih (k+1) ∅ hlt ρ M z
 simpa using gen xs.length 0 (by simp) (z7h _) ρ M h0
def iL{α:Type}{ρb:ah}(enc:α->D)(xs:List α)(I:Nat->E_->Sto->Prop)(h0:I 0 [] M)(he:∀ds M,I xs.length ds M->QL ds M)(hs:∀k (hk:k<xs.length) ds M,I k ds M->∀N:QE,(∀d M1,I (k+1) (ds++[d]) M1->N d M1)->ta (ρb.set 0 (some (enc xs[k]))) M N):cT 1 ta ρb (xs.map enc) [] M QL:=by
 have gen:∀(m k:Nat),m=xs.length-k->k<=xs.length->∀ds M,I k ds M->cT 1 ta ρb ((xs.drop k).map enc) ds M QL:=by
  intro m
  induction m with
  | zero=>
    intro k hm hk ds M h;have:k=xs.length:=by ext
    subst this;rw[z6c];exact he ds M h
  | succ m ih=>
    intro k hm hk ds M h;have hlt:k<xs.length:=by ext
    rw[z8c hlt,z9p];exact hs k hlt ds M h _ λd M1 z=>ih (k+1) ∅ hlt (ds++[d]) M1 z
 simpa using gen xs.length 0 (by simp) (z7h _) [] M h0
end
def Ka{K:D->Prop}(h:K (.bl true)):W1 cz .non K:=⟨_,rfl,h⟩
def Kb{K:D->Prop}{i:Int}(h:K (.bl false)):W1 cz (.int i) K:=⟨_,rfl,h⟩
def Kc{K:D->Prop}(h:K (.bl false)):W1 cz (.tup ds) K:=⟨_,rfl,h⟩
def Kd{K:D->Prop}(h:K (.bl false)):W1 e7 .non K:=⟨_,rfl,h⟩
def Ke{K:D->Prop}{i:Int}(h:K (.bl true)):W1 e7 (.int i) K:=⟨_,rfl,h⟩
def Kf{K:D->Prop}{a:Nat}(h:K (.bl false)):W1 cz (.ptr a) K:=⟨_,rfl,h⟩
def Kp(S:Nat->Prop)(M M':Sto):Prop:=∀b c,M b=some c->¬S b->M' b=some c
def Kp.refl:Kp S M M:=λ_ _ h _=>h
def Kp.trans{S':Nat->Prop}{M1 M2:Sto}(a:Kp S M M1)(b:Kp S' M1 M2)(h:∀x,S' x->M x≠none->S x):Kp S M M2:=λx c e n=>b x c (a x c e n) λz=>n (h x z (by rw[e];exact λq=>nomatch q))
def Kp.upd{a:Nat}{c:Cell}(h:S a\/M a=none):Kp S M (aK M a c):=λb d e n=>by
 by_cases q:b=a
 ·subst q;rcases h with h|h
  ·exact absurd h n
  ·rw[h]at e;cases e
 ·rw[aE q];exact e
def Kp.del{a:Nat}(h:S a):Kp S M (dQ M a):=λb d e n=>by
 have ne:b≠a:=λq=>n (by rw[q];exact h)
 rw[rg ne];exact e
noncomputable def tx(x:Str):z8:=x.cps.toList
noncomputable def mkT(l:z8):Str:=⟨l.toArray⟩
def aA(l:z8):tx (mkT l)=l:=rfl
def fP(x:Str):mkT (tx x)=x:=rfl
def bH:D->D->F_
 |.str x,.str y=>if(tx x).length+(tx y).length<=100000 then some (.str (mkT (tx x++tx y)))else none
 |_,_=>none
def iM:D->F_
 |.str x=>if(tx x).length<=100000 then some (.int (tx x).length)else none
 |_=>none
def ixT:D->D->F_
 |.str x,.int i=>if(tx x).length<=100000 then(atI (tx x) i).map λc=>.str (mkT [c])else none
 |_,_=>none
def jJ:D->D->F_
 |.str x,.int k=>if(2<=k/\k<=1000)/\1<=(tx x).length/\(tx x).length<=100 then some (.str (mkT (List.replicate k.toNat (tx x)).flatten))else none
 |_,_=>none
noncomputable def cM:A_->Bool
 |none=>true
 |some i=>decide (0<=i)
noncomputable def bf(l:z8)(lo hi:A_):z8:=(l.take ((hi.getD (l.length:Int)).toNat)).drop ((lo.getD 0).toNat)
def slT(x:D)(lo hi:A_):F_:=match x with
 |.str x=>if cM lo=true/\cM hi=true/\(tx x).length<=100000 then some (.str (mkT (bf (tx x) lo hi)))else none
 |_=>none
def fq(f:FE)(fl fh:FO):FE:=λρ=>(f ρ).bind λd=>(fl ρ).bind λl=>(fh ρ).bind λh=>slT d l h
noncomputable def fQ:z8->z8->Bool
 |[],y=>y.isEmpty
 |a::x,y=>y.isPrefixOf (a::x)||fQ x y
def inT:D->D->F_
 |.str y,.str x=>some (.bl (fQ (tx x) (tx y)))
 |_,_=>none
noncomputable def bI(c:Nat):z8->List z8
 |[]=>[[]]
 | a::x=>if a=c then []::bI c x else match bI c x with
   |h::t=>(a::h)::t
   |[]=>[[a]]
def nS:D->D->F_
 | .str x,.str y=>match tx y with
   |[c]=>if(tx x).length<=10000 then some (.lst ((bI c (tx x)).map λl=>.str (mkT l)))else none
   |_=>none
 |_,_=>none
noncomputable def bc(s:z8):List z8->z8
 |[]=>[]
 |[a]=>a
 |a::b::r=>a++s++bc s (b::r)
noncomputable def eP:E_->Option (List z8)
 |[]=>some []
 |.str x::r=>(eP r).map (tx x::·)
 |_::_=>none
def eQ:D->D->F_
 |.str s,.lst ds=>(eP ds).bind λls=>if(ls.map List.length).sum+ls.length*(tx s).length<=100000 then some (.str (mkT (bc (tx s) ls)))else none
 |_,_=>none
noncomputable def digs(n:Nat):z8:=if n<10 then [48+n]else digs (n / 10)++[48+n % 10]
decreasing_by ext
noncomputable def cr(l:z8):Nat:=l.foldl (λv c=>10*v+(c-48)) 0
def jK:D->F_
 |.str x=>if cr (tx x)<1000000000/\digs (cr (tx x))=tx x then some (.int (cr (tx x):Nat))else none
 |_=>none
def nT(f:FE):FEs:=λρ=>(f ρ).bind λd=>match d with
 |.str x=>if(tx x).all (λc=>decide (c<128))=true/\(tx x).length<=100000 then some ((tx x).map λc=>.str (mkT [c]))else none
 |_=>none
def okF(d:D):Prop:=∃z,d=.str z/\(tx z).all (λc=>decide (c<128))=true/\(tx z).length<=10000
def jL(x:Str)(fe:FE):NTS:=λE ρ M=>x∈XS/\WE fe ρ okF/\E.ex x M
noncomputable abbrev Kg:D->F_:=λd=>match d with | .bl k=>some (.bl (!k))|_=>none
theorem rY(s a:z8):∀(r:List z8),bc s (a::r)=a++(r.map (s++·)).flatten
 |[]=>by simp[bc]
 |b::r=>by rw[bc,rY s b r];simp
theorem xZ(c:Nat):∀(l:z8),bc [c] (bI c l)=l/\(∀q∈bI c l,c∉q)/\bI c l≠[]
 |[]=>by simp[bI,bc]
 | a::x=>by
   obtain⟨h1,h2,h3⟩:=xZ c x;unfold bI;by_cases e:a=c
   ·subst e
    rw[if_pos rfl];refine⟨?_,λq hq=>?_,λz=>nomatch z⟩
    ·cases hs:bI a x with
     |nil=>exact absurd hs h3
     |cons y r=>rw[bc,<- hs,h1];rfl
    ·rcases z9k.mp hq with rfl|hq
     ·exact z7m
     ·exact h2 q hq
   ·rw[if_neg e]
    cases hs:bI c x with
    |nil=>exact absurd hs h3
    | cons y r=>
      rw[hs]at h1 h2;refine⟨?_,λq hq=>?_,λz=>nomatch z⟩
      ·rw[rY]at h1 ⊢
       rw[z6l,h1]
      ·rcases z9k.mp hq with rfl|hq
       ·intro z
        rcases z9k.mp z with z|z
        ·exact e z.symm
        ·exact h2 y z9a z
       ·exact h2 q (z9d _ hq)
theorem ya(c:Nat):∀(l:z8),(bI c l).length<=l.length+1
 |[]=>by simp[bI]
 | a::x=>by
   have ih:=ya c x;unfold bI;split
   ·simp;ext
   ·cases hs:bI c x with
    |nil=>simp
    |cons y r=>rw[hs]at ih;simp at ih ⊢;ext
section
variable {K:D->Prop}{y:Str}{a:FE}{lo hi:FO}
def Kh(hl:(tx x).length+(tx y).length<=100000)(h:K (.str (mkT (tx x++tx y)))):W2 bH (.str x) (.str y) K:=⟨_,by simp only[bH,if_pos hl],h⟩
def Ki(hl:(tx x).length<=100000)(h:K (.int (tx x).length)):WF (ar iM) [.str x] K:=⟨_,by simp only[ar,iM,if_pos hl],h⟩
def lG{i:Int}{c:Nat}(hl:(tx x).length<=100000)(e:atI (tx x) i=some c)(h:K (.str (mkT [c]))):W2 ixT (.str x) (.int i) K:=⟨_,by simp only[ixT,if_pos hl,e,z7c],h⟩
def Kj{k:Int}(hl:(2<=k/\k<=1000)/\1<=(tx x).length/\(tx x).length<=100)(h:K (.str (mkT (List.replicate k.toNat (tx x)).flatten))):W2 jJ (.str x) (.int k) K:=⟨_,by simp only[jJ];rw[if_pos hl],h⟩
def Kk(h:WE a ρ λd=>WO lo ρ λl=>WO hi ρ λu=>∃z,d=.str z/\(cM l=true/\cM u=true/\(tx z).length<=100000)/\K (.str (mkT (bf (tx z) l u)))):WE (fq a lo hi) ρ K:=by obtain⟨d,e1,l,e2,u,e3,z,rfl,hc,k⟩:=h;exact⟨_,by simp only[fq,e1,e2,e3,z9h,slT,if_pos hc],k⟩
def Kl(h:K (.bl (decide (x=y)))):W2 eqD (.str x) (.str y) K:=⟨_,rfl,h⟩
def Km(h:K (.bl (!decide (x=y)))):W2 neD (.str x) (.str y) K:=⟨_,rfl,h⟩
def Kn(h:K (.bl (fQ (tx y) (tx x)))):W2 inT (.str x) (.str y) K:=⟨_,rfl,h⟩
theorem yb:∀(ls:List z8),eP (ls.map λl=>D.str (mkT l))=some ls
 |[]=>rfl
 |l::r=>by simp only[z9p,eP,yb r,z7c,aA]
def jM{s:Str}(hl:(ls.map List.length).sum+ls.length*(tx s).length<=100000)(h:K (.str (mkT (bc (tx s) ls)))):W1 (eQ (.str s)) (.lst (ls.map λl=>.str (mkT l))) K:=
 ⟨_,by simp only[eQ,yb,z9h,if_pos hl],h⟩
def Ko(h1:cr (tx x)<1000000000)(h2:digs (cr (tx x))=tx x)(h:K (.int (cr (tx x):Nat))):WF (ar jK) [.str x] K:=⟨_,by simp only[ar,jK];rw[if_pos ⟨h1,h2⟩],h⟩
def Kq{c:Nat}(hl:(tx x).length<=10000)(h:K (.lst ((bI c (tx x)).map λl=>.str (mkT l)))):W1 (λd=>nS d (.str (mkT [c]))) (.str x) K:=⟨_,by simp only[nS,aA];rw[if_pos hl],h⟩
def Kr{K:E_->Prop}{f:FE}(h:WE f ρ λd=>∃z,d=.str z/\((tx z).all (λc=>decide (c<128))=true/\(tx z).length<=100000)/\K ((tx z).map λc=>.str (mkT [c]))):WI (nT f) ρ K:=by obtain⟨d,e,z,rfl,hc,k⟩:=h;exact⟨_,by simp only[nT,e,z9h];rw[if_pos hc],k⟩
end
section
variable {E:EndN}
def rZ(hx:x∈XS)(h:WE fe ρ okF)(he:E.ex x M):jL x fe E ρ M:=⟨hx,h,he⟩
end
end VL
namespace VL
open PySem PySem.Spec PyProof.Rows L2
def yc{α:Type}{c:Prop}[Decidable c]{a:Option α}{b:α}(h:(if c then a else none)=some b):c/\a=some b:=by
 by_cases q:c
 ·rw[if_pos q]at h;exact⟨q,h⟩
 ·rw[if_neg q]at h;cases h
def lH(i j:Str):i++j=mkT (tx i++tx j):=by show(⟨i.cps++j.cps⟩:Str)=⟨(i.cps.toList++j.cps.toList).toArray⟩;congr 1;simp
def bx(i:Str):i.length=(tx i).length:=by simp[Str.length,tx]
def yd{y:Str}{t:Tok}(hm:X.mg x=some (.str y t))(hg:Gl X x<|>J7)(hd:DB x<|>J8):JE X (.Name x pos) (eC (.str y)) []:=
 ⟨jk (pE (v:=.str y) hg hm ⟨t,rfl⟩ hd) λ_=>.str y⟩
def Ks:R2:=λx y H Q=>∃i j,x=.str i/\y=.str j/\i.length+j.length<=sizeLine/\Q (.str (i++j)) H
def ye(K:K0):OpV K Ks bH:=by
 intro x y H dx dy d Q rx ry hg hQ;cases dx with
 | str i=>
   cases dy with
   |str j=>obtain⟨hl,rfl⟩:=bz hg;cases rx;cases ry;refine⟨i,j,rfl,rfl,by rw[bx,bx];exact cR hl,?_⟩;rw[lH];exact hQ _ H (Same.refl _) (.str _) λ_ _ _ _=>.str _
   |_=>cases hg
 |_=>cases hg
def Kt(x y d:D)(h:bH x y=some d):aS d=true:=by
 cases x with
 | str i=>
   cases y with
   |str j=>obtain⟨_,rfl⟩:=bz h;rfl
   |_=>cases h
 |_=>cases h
def dA(ha:JE X a fa ea)(hb:JE X b fb eb):JE X (.BinOp a .Add b pos) (e2 bH fa fb) []:=⟨ij (qe uv (ye X.K) ha.h hb.h) (kH Kt fa fb)⟩
def lI(ha:YE X a ta)(hb:YE X b tb):YE X (.BinOp a .Add b pos) (n2 bH ta tb):=⟨lw uv (ye X.K) ha.h hb.h⟩
def yf:R2:=λx y H Q=>∃z k,x=.str z/\y=.int k/\(2<=k/\k<=1000)/\(1<=(tx z).length/\(tx z).length<=100)/\Q (.str (mkT (List.replicate k.toNat (tx z)).flatten)) H
theorem yg:∀(l:List (Array Nat)) (acc:Array Nat),(List.foldl (λx1 x2=>x1++x2) acc l).toList=acc.toList++(l.map Array.toList).flatten
 |[],acc=>by simp
 |x::r,acc=>by rw[z5s,yg r];simp
def Ku:OpR X (binaryOp .Mult) yf:=by
 intro G_ s σ H x y v u Q I rx ry h;obtain⟨z,k,rfl,rfl,hk,hz,q⟩:=h;obtain⟨t,rfl⟩:=rx;obtain⟨t',rfl⟩:=ry;have h1:¬k<1:=by ext
 have h2:(k==1||z.length==0)=false:=by have e1:(k==1)=false:=z8t.mpr ∅;have e2:(z.length==0)=false:=z8t.mpr (by rw[bx];ext);rw[e1,e2];rfl
 refine PySem.P.mul_str (by
  have e1:decide (k < -2 ^ 63)=false:=z8h ∅;have e2:decide (k≥2 ^ 63)=false:=z8h ∅;rw[e1,e2];rfl) (λ_ _=>?_) (λ_ _=>?_) ?_
 ·have:(1000:Int)<=(2 ^ 63-1) / k:=by rw[Int.le_ediv_iff_mul_le ∅];ext
  rw[bx];ext
 ·unfold Builtin.Str.tooLong
  refine z8h ?_;have:z.length*k.toNat<=100*1000:=Nat.mul_le_mul (by rw[bx];ext) ∅;rw[z7q];ext
 ·rw[if_neg h1,if_neg (by rw[h2];exact z8g)]
  have e:(⟨List.foldl (λx1 x2=>x1++x2) #[] (List.replicate k.toNat z.cps)⟩:Str)=mkT (List.replicate k.toNat (tx z)).flatten:=by show _=(⟨_⟩:Str);congr 1;apply Array.ext';rw[yg];simp[tx]
  rw[e];refine⟨?_,.str _,H,I.tok _,⟨_,rfl⟩,q⟩;rw[bx,aA,List.length_flatten,List.map_replicate,List.sum_replicate_nat];have:k.toNat*(tx z).length<=1000*100:=Nat.mul_le_mul ∅ ∅;rw[z7q];ext
def Kv(K:K0):OpV K yf jJ:=by
 intro x y H dx dy d Q rx ry hg hQ;cases dx with
 | str i=>
   cases dy with
   |int j=>obtain⟨hl,rfl⟩:=bz hg;cases rx;cases ry;exact⟨i,j,rfl,rfl,hl.1,hl.2,hQ _ H (Same.refl _) (.str _) λ_ _ _ _=>.str _⟩
   |_=>cases hg
 |_=>cases hg
def Kw(x y d:D)(h:jJ x y=some d):aS d=true:=by
 cases x with
 | str i=>
   cases y with
   |int j=>obtain⟨_,rfl⟩:=bz h;rfl
   |_=>cases h
 |_=>cases h
def Kx(ha:JE X a fa ea)(hb:JE X b fb eb):JE X (.BinOp a .Mult b pos) (e2 jJ fa fb) []:=⟨ij (qe Ku (Kv X.K) ha.h hb.h) (kH Kw fa fb)⟩
def yh(K:K0):OpV K uN ixT:=by
 intro x y H dx dy d Q rx ry hg hQ;cases dx with
 | str i=>
   cases dy with
   | int j=>
     obtain⟨hl,hg⟩:=yc hg;cases e:atI (tx i) j with
     |none=>rw[e]at hg;cases hg
     |some c=>rw[e]at hg;cases hg;cases rx;cases ry;exact⟨i,j,c,rfl,rfl,by rw[bx];exact cR hl,e,hQ _ H (Same.refl _) (.str _) λ_ _ _ _=>.str _⟩
   |_=>cases hg
 |_=>cases hg
def Ky(x y d:D)(h:ixT x y=some d):aS d=true:=by
 cases x with
 | str i=>
   cases y with
   | int j=>
     obtain⟨_,h⟩:=yc h;cases e:atI (tx i) j with
     |none=>rw[e]at h;cases h
     |some c=>rw[e]at h;cases h;rfl
   |_=>cases h
 |_=>cases h
def sd(ha:JE X a fa ea)(hb:JE X b fb eb)(hs:ib b):JE X (.Subscript a b pos) (e2 ixT fa fb) []:=
 ⟨ij (es:=ea++eb) (cP (jf uO ha.h hb.h hs) λ_ _ _ h=>mB (yh X.K) h) (kH Ky fa fb)⟩
def yi(ha:YE X a ta)(hb:YE X b tb)(hs:ib b):YE X (.Subscript a b pos) (n2 ixT ta tb):=
 ⟨cP (jf uO ha.h hb.h hs) λ_ _ _ h=>nH (yh X.K) h⟩
def yj{o:A_}{d:Int}(h:cM o=true)(hd:d=0\/d=n):(match o with|none=>d|some i=>max 0 (min (if i<0 then i+(n:Int)else i) (n:Int)))=((min (o.getD d).toNat n:Nat):Int):=by
 cases o with
 |none=>rcases hd with rfl|rfl<;>simp
 |some i=>have h0:0<=i:=z6j h;simp only[z7d];rw[if_neg ∅];ext
def nU{lo hi:A_}(h1:cM lo=true)(h2:cM hi=true):Builtin.Str.strSliceIndices lo hi 1 n=sliceRange ((min (lo.getD 0).toNat n:Nat):Int) ((min (hi.getD (n:Int)).toNat n:Nat):Int) 1:=by unfold Builtin.Str.strSliceIndices;have e1:=yj (n:=n) (d:=0) h1 (.inl rfl);have e2:=yj (n:=n) (d:=(n:Int)) h2 (.inr rfl);rw[<- e1,<- e2];cases lo<;>cases hi<;>rfl
def Kz{a b n:Nat}(h:b<a):sliceRange (a:Int) (b:Int) 1=[]:=by
 unfold sliceRange;have:¬((a:Int)<b):=by ext
 simp[this]
def yk(z:Str){lo hi:A_}(h1:cM lo=true)(h2:cM hi=true):List.filterMap (λi=>z.cps[i]?) (Builtin.Str.strSliceIndices lo hi 1 z.length)=bf (tx z) lo hi:=by
 rw[nU h1 h2];have ec:bf (tx z) lo hi=List.drop (min (lo.getD 0).toNat z.length) (List.take (min (hi.getD (z.length:Int)).toNat z.length) (tx z)):=by
  unfold bf;rw[bx];have e1:List.take (min (hi.getD ((tx z).length:Int)).toNat (tx z).length) (tx z)=List.take (hi.getD ((tx z).length:Int)).toNat (tx z):=by
   rcases Nat.le_total (hi.getD ((tx z).length:Int)).toNat (tx z).length with h|h
   ·rw[z5t h]
   ·rw[Nat.min_eq_right h,z7r (z9l _),z7r h]
  rw[e1];rcases Nat.le_total (lo.getD 0).toNat (tx z).length with h|h
  ·rw[z5t h]
  ·rw[Nat.min_eq_right h,z7f (by rw[z8a];ext),z7f (by rw[z8a];ext)]
 rw[ec];by_cases hab:min (lo.getD 0).toNat z.length<=min (hi.getD (z.length:Int)).toNat z.length
 ·have e3:=StrLaws.sliced_plain z hab (Nat.min_le_right _ _)
  have e4:=nU (lo:=some ((min (lo.getD 0).toNat z.length:Nat):Int)) (hi:=some ((min (hi.getD (z.length:Int)).toNat z.length:Nat):Int)) (n:=z.length) (by simp[cM]) (by simp[cM]);simp only[z7d,z7a]at e4;rw[z5t (Nat.min_le_right _ _),z5t (Nat.min_le_right _ _)]at e4;rw[e4]at e3;rw[e3,List.drop_take];rfl
 ·rw[Kz (n:=z.length) ∅,z7f (by rw[z8a];ext)]
  rfl
def KA:V->A_->A_->Hp->VK->Prop:=λx lo hi H Q=>∃z,x=.str z/\cM lo=true/\cM hi=true/\z.length<=sizeLine/\Q (.str (mkT (bf (tx z) lo hi))) H
def nV{v:Value}{o:A_}(h:IsPart v o):∃l:Option (Int×Tok),v=partValue l/\l.map (·.1)=o:=by
 cases h with
 |none=>exact⟨none,rfl,rfl⟩
 |int i t=>exact⟨some (i,t),rfl,rfl⟩
def yl(l:z8)(lo hi:A_):(bf l lo hi).length<=l.length:=by unfold bf;rw[z7l,z8a];ext
def ym:SlR X KA:=by
 intro G_ s σ H x v vl vu lo hi sl Q I rx hs pl pu h;obtain⟨z,rfl,h1,h2,hz,q⟩:=h;obtain⟨t,rfl⟩:=rx;obtain⟨l,rfl,el⟩:=nV pl;obtain⟨u,rfl,eu⟩:=nV pu;refine⟨"str",_,slot_str_getitem.lookup,z4b s z t,?_⟩;have hs':s.heap.IsSlice sl l u none:=hs;refine wpAny_getItem_str_slice hs' rfl ?_;have ep:slicePicked z l u none=Builtin.Str.strSliceIndices lo hi 1 z.length:=by unfold slicePicked;rw[<- el,<- eu];rfl
 have e:=yk z h1 h2;unfold sliceMade;rw[ep];split
 ·rename_i hc
  have hl:(Builtin.Str.strSliceIndices lo hi 1 z.length).length=z.length:=by simpa using hc
  have e2 : bf (tx z) lo hi=tx z:=by
   have hl2:(bf (tx z) lo hi).length=(tx z).length:=by
    rw[<- e];have:∀i∈Builtin.Str.strSliceIndices lo hi 1 z.length,z.cps[i]?≠none:=λi hi'=>by
     rw[nU h1 h2]at hi';unfold sliceRange at hi';simp only[z8z,z7p]at hi';obtain⟨k,hk,rfl⟩:=hi';split at hk
     ·split at hk
      ·have:((min (lo.getD 0).toNat z.length:Nat)+1*(k:Int)).toNat<z.cps.size:=by have e0:z.length=z.cps.size:=rfl;rw[<- e0];ext
       rw[Array.getElem?_eq_getElem this];exact λq=>nomatch q
      ·simp at hk
     ·ext
    have fl:∀(is:z8),(∀i∈is,z.cps[i]?≠none)->(List.filterMap (λi=>z.cps[i]?) is).length=is.length:=by
     intro is
     induction is with
     |nil=>intro _;rfl
     | cons i r ih=>
       intro hh;cases ei:z.cps[i]? with
       |none=>exact absurd ei (hh i z9a)
       |some w=>rw[z6y,ei];simp[ih λj hj=>hh j (z9d _ hj)]
    rw[fl _ this,hl,bx]
   unfold bf at hl2 ⊢;rw[z7l,z8a]at hl2;by_cases h0:tx z=[]
   ·rw[h0];simp
   ·have hp:0<(tx z).length:=z4z.mpr h0
    have ed:(lo.getD 0).toNat=0:=by ext
    rw[ed,z6m,z7r ∅]
  rw[e2,fP]at q;exact⟨.str z,H,I,⟨t,rfl⟩,q⟩
 ·rw[e]
  exact⟨by rw[bx];exact z7o (yl _ _ _) (by rw[<- bx];exact hz),.str _,H,I.tok _,⟨_,rfl⟩,q⟩
theorem hW{lo:Option Expr}(ha:JE X a fa ea)(hl:JO X lo flo)(hh:JO X hi fhi):JE X (.Subscript a (.Slice lo hi none p2) pos) (fq fa flo fhi) []:=
 ⟨cP (kt ym ha.h hl.h hh.h) λσ H Q y4=>by
  obtain⟨ρ,d,hE,hf,hQ⟩:=y4;obtain⟨dx,h1,hf⟩:=bind_some hf;obtain⟨l,h2,hf⟩:=bind_some hf;obtain⟨h,h3,hf⟩:=bind_some hf;refine⟨ρ,dx,hE,h1,λx H1 p1=>⟨ρ,l,hE.mono p1.same,h2,λH2 e2=>⟨ρ,h,hE.mono (p1.same.trans e2),h3,λH3 e3=>?_⟩⟩⟩;cases dx with
  |str z=>obtain⟨hc,rfl⟩:=bz hf;cases p1.rep;exact⟨z,rfl,hc.1,hc.2.1,by rw[bx];exact cR hc.2.2,hQ _ H3 ⟨p1.same.trans (e2.trans e3),.str _,λ_ _ _=>.str _⟩⟩
  |_=>cases hf⟩
theorem yn:∀(x y:z8),fQ x y=true↔∃i,i+y.length<=x.length/\(x.drop i).take y.length=y
 | [],y=>by
   unfold fQ;cases y with
   |nil=>simp
   |cons c r=>simp
 | a::x,y=>by
   unfold fQ;rw[Bool.or_eq_true,yn x y,List.isPrefixOf_iff_prefix];constructor
   ·rintro(⟨t,ht⟩|⟨i,h1,h2⟩)
    ·refine⟨0,?_,?_⟩
     ·rw[<- ht,z9f];ext
     ·rw[z6m,<- ht,List.take_left]
    ·exact⟨i+1,by rw[z9b];ext,by rw[z6z];exact h2⟩
   ·rintro⟨i,h1,h2⟩
    cases i with
    |zero=>left;rw[z6m]at h2;exact⟨_,by rw[<- h2];exact List.take_append_drop y.length (a::x)⟩
    |succ i=>right;exact⟨i,by rw[z9b]at h1;ext,by rw[z6z]at h2;exact h2⟩
def KC(j i:Str):(!(Builtin.Str.occurrences j i 0 j.length 1).isEmpty)=fQ (tx j) (tx i):=by
 rw[z4s,StrLaws.found_iff,yn];have e:∀k,(Builtin.Str.subAt j i k=true)↔(((tx j).drop k).take (tx i).length=tx i):=λk=>by
  unfold Builtin.Str.subAt;rw[z7g];constructor
  ·intro h
   have h2:=z8u Array.toList h;rw[Array.toList_extract,List.extract_eq_drop_take]at h2;rw[bx,Nat.add_sub_cancel_left]at h2;exact h2
  ·intro h
   apply Array.ext';rw[Array.toList_extract,List.extract_eq_drop_take,bx,Nat.add_sub_cancel_left];exact h
 constructor
 ·rintro⟨k,h1,h2⟩
  exact⟨k,by rw[<- bx,<- bx];exact h1,(e k).mp h2⟩
 ·rintro⟨k,h1,h2⟩
  exact⟨k,by rw[bx,bx];exact h1,(e k).mpr h2⟩
def KD:R2:=λx y H Q=>∃i j,x=.str i/\y=.str j/\Q (.bl (!(Builtin.Str.occurrences j i 0 j.length 1).isEmpty)) H
def KE(K:K0):OpV K KD inT:=by
 intro x y H dx dy d Q rx ry hg hQ;cases dx with
 | str i=>
   cases dy with
   |str j=>cases hg;cases rx;cases ry;refine⟨i,j,rfl,rfl,?_⟩;rw[KC];exact hQ _ H (Same.refl _) (.bl _) λ_ _ _ _=>.bl _
   |_=>cases hg
 |_=>cases hg
def KF(x y d:D)(h:inT x y=some d):aS d=true:=by
 cases x with
 | str i=>
   cases y with
   |str j=>cases h;rfl
   |_=>cases h
 |_=>cases h
def KG(ha:JE X a fa ea)(hb:JE X b fb eb)(hm:behindInMarks .In b=false<|>Q2):JE X (.Compare a [.In] [b] pos) (e2 inT fa fb) []:=⟨jp CL (KE X.K) ha.h hb.h hm KF⟩
def KH:fG X.K (λxs H Q=>∃z,xs=[.str z]/\z.length<=sizeLine/\Q (.int z.length) H) (ar iM):=by
 intro xs H ds d Q r hg hQ;obtain⟨x,rfl,hg1⟩:=iu hg;obtain⟨v,rfl,r1⟩:=fH r;cases x with
 |str z=>obtain⟨hl,rfl⟩:=bz hg1;cases r1;exact⟨z,rfl,by rw[bx];exact cR hl,hQ _ λH'=>by rw[bx];exact .int _⟩
 |_=>cases hg1
def se(ml:X.mg "len"=none)(ha:JA X [a] as es)(hg:Gl X "len"<|>J7)(he:SE a [] X<|>J7)(hpl:BT pos [] X<|>J7):
  JE X (.Call (.Name "len" p) [a] [] pos) (eA (ar iM) as) []:=⟨jt Du KH ml PySem.boot_len ha.h hg (by decide) (by decide) he hpl⟩
def KI(n:Nat):digs n=(Nat.toDigits 10 n).map Char.toNat:=by
 induction n using digs.induct with
 | case1 n h=>
   rw[digs,if_pos h,Nat.toDigits_of_lt_base h];have:∀m<10,[48+m]=List.map Char.toNat [m.digitChar]:=by decide
   exact this n h
 | case2 n h ih=>
   have e:=Nat.toDigits_of_base_le (b:=10) (n:=n) ∅ ∅;rw[digs,if_neg h,ih,e,z8k];have:∀m<10,[48+m]=List.map Char.toNat [m.digitChar]:=by decide
   rw[this (n % 10) (Nat.mod_lt _ ∅)]
def sf(n:Nat):Str.ofString (toString (n:Int))=mkT (digs n):=by rw[KI,<- W.KIN.signs_num];rfl
def KJ:cN X (.type "int") (λxs H Q=>∃n:Nat,xs=[.str (mkT (digs n))]/\n<1000000000/\Q (.int n) H):=by intro G_ s σ H xs us Q I r h;obtain⟨n,rfl,hn,q⟩:=h;obtain⟨u,rfl,t,rfl⟩:=df r;rw[<- sf];exact W.KIN.call_num ∅ ∅ ⟨.int n,H,I.tok _,⟨_,rfl⟩,q⟩
def KM:fG X.K (λxs H Q=>∃n:Nat,xs=[.str (mkT (digs n))]/\n<1000000000/\Q (.int n) H) (ar jK):=by
 intro xs H ds d Q r hg hQ;obtain⟨x,rfl,hg1⟩:=iu hg;obtain⟨v,rfl,r1⟩:=fH r;cases x with
 |str z=>obtain⟨hl,rfl⟩:=bz hg1;cases r1;refine⟨cr (tx z),?_,hl.1,hQ _ λH'=>.int _⟩;rw[hl.2,fP]
 |_=>cases hg1
def KN(mi:X.mg "int"=none)(ha:JA X [a] as es)(hg:Gl X "int"<|>J7)(he:SE a [] X<|>J7)(hpl:BT pos [] X<|>J7):
  JE X (.Call (.Name "int" p) [a] [] pos) (eA (ar jK) as) []:=
 ⟨cP (gK KJ hg mi (by decide +kernel) ha.h (by decide) (by decide) he hpl) λσ H Q y4=>by obtain⟨ρ,d,hE,hf,hQ⟩:=y4;obtain⟨ds,h1,hf⟩:=bind_some hf;exact⟨ρ,ds,hE,h1,λvs H1 p=>KM vs H1 ds d _ p.rep hf λv hr=>hQ v H1 ⟨p.same,hr _,λ_ _ _=>hr _⟩⟩⟩
theorem yo(g:Array Nat):∀(ps:j_) (acc:Array Nat),(List.foldl (λacc p=>acc++g++p.cps) acc ps).toList=acc.toList++(ps.map λp=>g.toList++tx p).flatten
 |[],acc=>by simp
 |x::r,acc=>by rw[z5s,yo g r];simp[tx]
def KP(s:Str)(ys:j_):Txt.join s ys=mkT (bc (tx s) (ys.map tx)):=by
 show(⟨_⟩:Str)=⟨_⟩;congr 1;apply Array.ext';rw[yo];cases ys with
 |nil=>rfl
 |cons y r=>rw[z9p,rY];simp only[z4u,z6z,z6m,z7k];rfl
theorem sg:∀{ss:j_} {its:k_},Vals (ss.map V.str) its->StrsAre its ss
 |[],its,r=>by cases r;exact .nil
 | x::ss,its,r=>by
   cases r with
   |cons h t=>obtain⟨k,rfl⟩:=h;exact .cons x k (sg t)
def KQ:V->C_->Hp->VK->Prop:=λx xs H Q=>∃s l ss,x=.str s/\xs=[.ref l]/\Rd H l (.lst (List.map V.str ss))/\((ss.map λx=>(tx x).length).sum+ss.length*(tx s).length<=100000)/\Q (.str (mkT (bc (tx s) (ss.map tx)))) H
def yp:MtR X "str.join" KQ:=by
 intro G_ s σ H x xs v us Q I rx r h;obtain⟨z,l,ss,rfl,rfl,hH,hb,q⟩:=h;obtain⟨t,rfl⟩:=rx;obtain⟨u,rfl,ru⟩:=df r;cases ru;obtain⟨_,its,n,rv,_,e⟩:=mH I hH;refine join_list (D:=l) (items:=its.toArray) (ys:=ss) ⟨_,e,rfl,n,rfl⟩ (sg rv) ?_ λt' k=>?_
 ·have:ss.map (λx=>x.length)=ss.map λx=>(tx x).length:=z5a λx _=>bx x
  rw[this,bx];ext
 ·rw[KP]
  exact⟨.str _,H,I.tok k,⟨_,rfl⟩,q⟩
theorem sh{K:K0}{H:Hp}:∀{ds:E_} {ls:List z8} {xs:C_},eP ds=some ls->Reps K H xs ds->∃ss:j_,xs=ss.map V.str/\ls=ss.map tx
 |[],ls,xs,h,r=>by cases h;cases r;exact⟨[],rfl,rfl⟩
 | .str y::ds,ls,xs,h,r=>by
   cases e:eP ds with
   |none=>simp only[eP,e]at h;cases h
   | some l2=>
     simp only[eP,e]at h;cases h;cases r with
     |cons h1 h2=>obtain⟨ss,rfl,rfl⟩:=sh e h2;cases h1;exact⟨y::ss,rfl,rfl⟩
def yq{s:Str}{dx d:D}(r:Rep K H v dx)(h:eQ (.str s) dx=some d):∃l ss z,v=.ref l/\Rd H l (.lst (List.map V.str ss))/\((ss.map λx=>(tx x).length).sum+ss.length*(tx s).length<=100000)/\d=.str z/\z=mkT (bc (tx s) (ss.map tx)):=by
 cases dx with
 |lst ds=>obtain⟨ls,h1,h2⟩:=bind_some h;obtain⟨hb,rfl⟩:=bz h2;obtain⟨l,xs,rfl,hl,hx,_⟩:=eI r;obtain⟨ss,rfl,rfl⟩:=sh h1 hx;refine⟨l,ss,_,rfl,hl,?_,rfl,rfl⟩;rw[z7k,z9c]at hb;exact hb
 |_=>cases h
section
variable {s:Str}
theorem nW(ha:YE X a ta)(hbase:attributeBase (.Constant (.str s) j p1) "join" X.env (eval (.Constant (.str s) j p1) X.env)=eval (.Constant (.str s) j p1) X.env<|>J7)(hfew:(((backTo cp (starEach [a] X.env)).all (λx=>!x.1)&&(backToKw cp (keywordEach [] X.env)).all (λx=>x.1.isSome)&&decide ([a].length+([]:n_).length+(if([]:n_).isEmpty then 0 else 1)<30))=true)<|>J7)(hline:(ap.endLine==cp.line)=true<|>J7)(hs:SE a [] X<|>J7)(hplain:BT cp [] X<|>J7):
  YE X (.Call (.Attribute (.Constant (.str s) j p1) "join" ap) [a] [] cp) (n1 (eQ (.str s)) ta):=
 ⟨bq (ic z4g F.slot_str_join F.type_str_join yp gH (bP ha.h c5 hs) hbase hfew hline hs hplain) λσ H Q ρ M QW hE ht hQ=>⟨rfl,ρ,M,_,hE,ht,λdx M1 y4 x H1 p1=>by obtain⟨d,hf,h1⟩:=y4;obtain⟨l,ss,z,rfl,hl,hb,rfl,rfl⟩:=yq (aw (aR _ _) p1.rep) hf;exact⟨s,l,ss,rfl,rfl,hl,hb,hQ _ M1 h1 _ H1 ⟨p1.toPostT,.str _⟩⟩⟩⟩
end
theorem yr(c:Nat):∀(n:Nat) {p q:List z8},p.length+q.length<=n->p≠[]->q≠[]->(∀y∈p,c∉y)->(∀y∈q,c∉y)->bc [c] p=bc [c] q->p=q
 |n,[],_,_,h,_,_,_,_=>absurd rfl h
 |n,_,[],_,_,h,_,_,_=>absurd rfl h
 |n,[a],[b],_,_,_,_,_,e=>by rw[bc,bc]at e;rw[e]
 |n,[a],b::b2::r,_,_,_,ha,_,e=>by rw[bc,bc]at e;exact absurd (by rw[e];simp) (ha a z9a)
 |n,a::a2::r,[b],_,_,_,_,hb,e=>by rw[bc,bc]at e;exact absurd (by rw[<- e];simp) (hb b z9a)
 |0,a::a2::r,b::b2::r2,h,_,_,_,_,_=>by simp at h
 | n + 1,a::a2::r,b::b2::r2,h,_,_,ha,hb,e=>by
   rw[bc,bc,z7x,z7x]at e;have key:∀{u v s t:z8},c∉u->c∉v->u++([c]++s)=v++([c]++t)->u=v/\s=t:=by
    intro u
    induction u with
    | nil=>
      intro v s t _ hv e;cases v with
      |nil=>simp at e;exact⟨rfl,e⟩
      |cons w v=>simp at e;exact absurd (by rw[e.1];exact z9a) hv
    | cons w u ih=>
      intro v s t hu hv e;cases v with
      |nil=>simp at e;exact absurd (by rw[<- e.1];exact z9a) hu
      |cons w2 v=>simp only[z6l,z4v]at e;obtain⟨h1,h2⟩:=ih (λz=>hu (z9d _ z)) (λz=>hv (z9d _ z)) e.2;exact⟨by rw[e.1,h1],h2⟩
   obtain⟨h1,h2⟩:=key (ha a z9a) (hb b z9a) e;have:=yr c n (p:=a2::r) (q:=b2::r2) (by simp at h ⊢;ext) (by simp) (by simp) (λy hy=>ha y (z9d _ hy)) (λy hy=>hb y (z9d _ hy)) h2;rw[h1,this]
theorem yt(s:Str):∀(ys:j_),tx (s.join ys)=bc (tx s) (ys.map tx)
 |[]=>rfl
 |[a]=>rfl
 |a::b::r=>by rw[join_cons_cons,lH,lH,aA,aA,yt s (b::r),z9p,z9p,z9p];rfl
def KR{c:Nat}:∀{l:z8},c∈l->countIn (PyData.str {cps:=#[c]}) (List.map (λn=>PyData.str {cps:=#[n]}) l)≠0:=by
 have nn:∀(l:List PyData) (x:PyData),0<=countIn x l:=λl x=>by
  induction l with
  |nil=>simp[countIn]
  |cons y r ih=>simp only[countIn];split<;>ext
 intro l h
 induction l with
 |nil=>cases h
 | cons a r ih=>
   rw[z9p];simp only[countIn];rcases z9k.mp h with rfl|h
   ·rw[if_pos (by simp[PySem.Spec.same])]
    have:=nn (List.map (λn=>PyData.str {cps:=#[n]}) r) (PyData.str {cps:=#[c]});ext
   ·have h1:=ih h
    have h2:=nn (List.map (λn=>PyData.str {cps:=#[n]}) r) (PyData.str {cps:=#[c]});split<;>ext
def yu(x:Str)(c:Nat):(Txt.split x ⟨#[c]⟩).map tx=bI c (tx x):=by
 have h:=split_closes x c;rw[z8m,z7g,z9t]at h;obtain⟨h1,h2⟩:=h;obtain⟨g1,g2,g3⟩:=xZ c (tx x);refine yr c _ (z9l _) (λz=>?_) g3 (λy hy=>?_) g2 ?_
 ·have:=(fact_split x ⟨#[c]⟩).1
  rw[List.map_eq_nil_iff.mp z]at this;simp at this
 ·obtain⟨q,hq,rfl⟩:=z8z.mp hy
  have h3:=h2 q hq;intro hc;simp only[ne_eq,decide_not,Bool.not_not,decide_eq_true_eq]at h3;exact KR hc h3
 ·rw[g1]
  have:=yt ⟨#[c]⟩ (Txt.split x ⟨#[c]⟩);rw[h1]at this;exact this.symm
def KS:V->C_->Hp->VK->Prop:=λx xs H Q=>∃z c,x=.str z/\xs=[.str ⟨#[c]⟩]/\(tx z).length<=10000/\∀p,H p=none->Q (.ref p) (upd H p (.lst ((bI c (tx z)).map λl=>V.str (mkT l))))
theorem yv:∀(ys:j_) (n:Nat),Vals (ys.map V.str) (strsFrom n ys)
 |[],n=>.nil
 |y::r,n=>.cons ⟨n,rfl⟩ (yv r (n+1))
def KU(x:Str)(c:Nat):(bI c (tx x)).map (λl=>V.str (mkT l))=(Txt.split x ⟨#[c]⟩).map V.str:=by rw[<- yu,z7k];exact z5a λy _=>by show V.str (mkT (tx y))=V.str y;rw[fP]
def KW:MtR X "str.split" KS:=by
 intro G_ s σ H x xs v us Q I rx r h;obtain⟨z,c,rfl,rfl,hz,q⟩:=h;obtain⟨t,rfl⟩:=rx;obtain⟨u,rfl,t',rfl⟩:=df r;have hl1:(⟨#[c]⟩:Str).length=1:=rfl;have hk:Builtin.Str.strKind z<Builtin.Str.strKind ⟨#[c]⟩->(Builtin.Str.occurrences z ⟨#[c]⟩ 0 z.length (z.length+1)).isEmpty=true\/True:=λ_=>.inr trivial
 have len:(Txt.split z ⟨#[c]⟩).length<=sizeLine:=by have h1:=z8u List.length (yu z c);rw[z9c]at h1;have h2:=ya c (tx z);rw[z7q];ext
 rw[KU]at q;have itself:Txt.split z ⟨#[c]⟩=[z]->wpAny (model X.prog X.w) X.A (call (.builtin "str.split") [.str z t,.str ⟨#[c]⟩ t']) (EP X G_ σ Q) X.xe s\/True:=λ_=>.inr trivial
 by_cases hshort:(decide (z.length<(⟨#[c]⟩:Str).length)||decide (Builtin.Str.strKind z<Builtin.Str.strKind ⟨#[c]⟩))=true
 ·have es:Txt.split z ⟨#[c]⟩=[z]:=by unfold Txt.split;rw[if_pos hshort]
  rw[es]at q;refine z5i z4h (z4b s z t) z3j (z3c _ _) (S:=listOfItself z t) (Meets.of_wp λprog w A R s' hR=>?_) ?_
  ·obtain⟨raising,et⟩:=split_sep_tree z ⟨#[c]⟩ t t'
   rw[et,if_pos hshort];refine z9j (wpAny_rule ?_);refine z9j (wpAny_newList ?_ (by show 1<=sizeLine;decide));exact z9z ⟨_,rfl,hR⟩
  ·exact⟨.ref _,_,I.lnew (t':=s.toks) (ys:=[.str z]) (its:=[.str z t]) (.cons ⟨t,rfl⟩ .nil) (by show 1<=sizeLine;decide),rfl,q _ I.fresh⟩
 ·have hshort':(decide (z.length<(⟨#[c]⟩:Str).length)||decide (Builtin.Str.strKind z<Builtin.Str.strKind ⟨#[c]⟩))=false:=by simpa using hshort
  by_cases hocc:(Builtin.Str.occurrences z ⟨#[c]⟩ 0 z.length (z.length+1)).isEmpty=true
  ·have es:Txt.split z ⟨#[c]⟩=[z]:=by unfold Txt.split;rw[if_neg hshort,if_pos hocc]
   rw[es]at q;exact z5i z4h (z4b s z t) z3j (z3c _ _) (meets_str_split_not_found z ⟨#[c]⟩ t t' hshort' rfl hocc)
    ⟨.ref _,_,I.lnew (t':=s.toks) (ys:=[.str z]) (its:=[.str z t]) (.cons ⟨t,rfl⟩ .nil) (by show 1<=sizeLine;decide),rfl,q _ I.fresh⟩
  ·have es:Txt.split z ⟨#[c]⟩=Builtin.Str.partsBetween z (Builtin.Str.occurrences z ⟨#[c]⟩ 0 z.length (z.length+1)) (⟨#[c]⟩:Str).length:=by unfold Txt.split;rw[if_neg hshort,if_neg hocc]
   rw[es]at q len;refine z5i z4h (z4b s z t) z3j (z3c _ _) (meets_str_split_sep z ⟨#[c]⟩ t t' hshort' rfl (by simpa using hocc) (by rw[bx];exact cR ∅) len) ?_;exact⟨.ref _,_,I.lnew (t':=_) (yv _ _) (by rw[z9c];exact len),rfl,q _ I.fresh⟩
theorem KY{s:Str}(ha:JE X a fa ea)(hbase:attributeBase a "split" X.env (eval a X.env)=eval a X.env<|>J7)(hfew:(((backTo cp (starEach [.Constant (.str s) j p1] X.env)).all (λx=>!x.1)&&(backToKw cp (keywordEach [] X.env)).all (λx=>x.1.isSome)&&decide ([Expr.Constant (.str s) j p1].length+([]:n_).length+(if([]:n_).isEmpty then 0 else 1)<30))=true)<|>J7)(hline:(ap.endLine==cp.line)=true<|>J7)(hs:starEach [.Constant (.str s) j p1] X.env=(false,eval (.Constant (.str s) j p1) X.env)::starEach [] X.env<|>J7)(hplain:BT cp [] X<|>J7):
  JF X (.Call (.Attribute a "split" ap) [.Constant (.str s) j p1] [] cp) (e1 (λx=>nS x (.str s)) fa) []:=
 ⟨cP (ic z4g z4h F.type_str_split KW ha.h (bP gH c5 hs) hbase hfew hline hs hplain) λσ H Q y4=>by
  obtain⟨ρ,d,hE,hf,hQ⟩:=y4;obtain⟨dx,h1,hf⟩:=bind_some hf;refine⟨ρ,dx,hE,h1,λx H1 p1=>?_⟩;cases dx with
  | str z=>
    have hf:(match tx s with | [c]=>if(tx z).length<=10000 then some (D.lst ((bI c (tx z)).map λl=>D.str (mkT l)))else none|_=>none)=some d:=hf
    ·set_option tactic.hygienic true in split at hf
     ·rename_i c ec
      obtain⟨hz,rfl⟩:=bz hf;cases p1.rep;have es:s=⟨#[c]⟩:=by rw[<- fP s,ec];rfl
      subst es;refine⟨rfl,z,c,rfl,rfl,hz,λr hr=>hQ _ _ (ir p1.same hr λA hD hz'=>?_)⟩;have gen:∀(ls:List z8) (H':Hp),Reps X.K H' (ls.map λl=>V.str (mkT l)) (ls.map λl=>D.str (mkT l)):=by
       intro ls H'
       induction ls with
       |nil=>exact .nil
       |cons y r ih=>exact .cons (.str _) ih
      exact gen _ _
     ·cases hf
  |_=>cases hf⟩
noncomputable def Its(z:Str):It:=⟨λi _=>i<z.cps.size,λi H x H'=>H'=H/\∃c,z.cps[i]?=some c/\x=.str ⟨#[c]⟩,λi _=>i=z.cps.size⟩
def KZ(it:Addr)(z:Str)(t:Tok):Turn P w K tg (Its z) [it] it (λi h=>h.IsStrIter it "str_ascii_iterator" z t i) where
 mem:=by simp
 obj:=λi h st b hb=>by
  have e:b=it:=by simpa using hb
  subst e;obtain⟨o,e,c,d⟩:=st;exact⟨o,e,λv z=>by rw[d]at z;cases z⟩
 keep:=λi h h' st k=>by obtain⟨o,e,c,d⟩:=st;exact⟨o,k it (by simp) o e,c,d⟩
 item:=by
  intro X hP hw hK hc i G_ s σ H E I hf st hg;subst hP hw hK;obtain⟨f0,f1,f2,f3,f4,f5⟩:=hf it (by simp);have W:=Walks.strAscii (prog:=X.prog) (w:=X.w) (I.ok.hd hc) it z t;refine W.item i s _ _ hg st λv h' tk hv st' kk=>?_
  obtain⟨c,u,hc',rfl⟩:=hv;have I1:Inv X G_ σ H {s with heap:=h',toks:=tk}:=I.turned (λb o hb e=>kk b o (by simpa using hb) e) f0 f1 f3 f4 f5;obtain⟨o,e,co,d⟩:=id st';refine⟨_,rfl,jb (s:={s with heap:=h',toks:=tk}) e co d (by decide) ⟨.str ⟨#[c]⟩,H,I1,⟨u,rfl⟩,⟨rfl,c,hc',rfl⟩,st',λb hb=>(hf b hb).1⟩⟩
 done:=by intro X hP hw hK hc i G_ s σ H E I hf st hg;subst hP hw hK;obtain⟨f0,f1,f2,f3,f4,f5⟩:=hf it (by simp);have W:=Walks.strAscii (prog:=X.prog) (w:=X.w) (I.ok.hd hc) it z t;have hg:i=z.cps.size:=hg;subst hg;exact W.done s _ _ st λh' tk kk=>⟨rfl,I.turned (λb o hb e=>kk b o (by simpa using hb) e) f0 f1 f3 f4 f5⟩
 self:=λ_ _ _ _ _ st h=>wpAny_pyIter_striter_ascii st h
def L3(tl:TE):TI:=λσ H R=>tl σ H λx H1=>∃z,x=.str z/\(z.cps.all λx=>decide (x<128))=true/\R (Its z) H1
def L4{l:Expr}(hl:PE X l tl):PI X tg l (L3 tl):=by
 intro G_ s σ H R I h;refine aZ (hl G_ s σ H _ I h) λv s1 x H1 I1 r1 q1=>?_
 obtain⟨z,rfl,ha,q⟩:=q1;obtain⟨t,rfl⟩:=r1;refine wpAny_pyIter_ascii ha ?_;refine⟨s1.heap.objs.size,[s1.heap.objs.size],_,_,H1,rfl,I1.kept (t':=s1.toks) λb o e=>z9m _ e,KZ _ z t,?_,λb hb=>?_,q⟩
 ·exact⟨_,z8l _ rfl,rfl,rfl⟩
 have e:b=s1.heap.objs.size:=by simpa using hb
 subst e;exact I1.fpOk (z9l _) (I1.hok.fresh (z9l _))
def L5{fi:FE}(h:JE X iter fi ei):JI X tg iter (nT fi) []:=⟨qB (L4 h.h) λσ H R y4=>by
 obtain⟨ρ,ds,hE,hf,hR⟩:=y4;obtain⟨d,h1,hf⟩:=bind_some hf;refine⟨ρ,d,hE,h1,λv H1 p=>?_⟩;cases d with
 | str z=>
   obtain⟨hc,rfl⟩:=bz hf;cases p.rep;refine⟨z,rfl,?_,hR _ _ ⟨p.same,λi d' H' hd e=>?_,λH' e=>?_⟩⟩
   ·rw[<- Array.all_toList];exact hc.1
   ·rw[z9x]at hd
    cases hk:(tx z)[i]? with
    |none=>rw[hk]at hd;cases hd
    | some c=>
      rw[hk]at hd;cases hd;have hk':z.cps[i]?=some c:=by rw[<- Array.getElem?_toList];exact hk
      refine⟨?_,λx H'' ⟨e1,c2,hc2,ex⟩=>?_⟩
      ·show i<z.cps.size
       exact(Array.getElem?_eq_some_iff.mp hk').1
      ·subst e1
       rw[hk']at hc2;cases hc2;subst ex;exact⟨Same.refl _,.str _,λA _ _=>.str _⟩
   ·show((tx z).map _).length=z.cps.size
    rw[z9c];rfl
 |_=>cases hf⟩
def L6:∀c<128,(Nat.toDigits 16 c).length<=2:=by decide
def L7{q c:Nat}(h:c<128):(Builtin.Str.reprChar q c).length<=4:=by
 unfold Builtin.Str.reprChar;have hd:=L6 c h;simp only;split
 ·simp
 split
 ·simp
 split
 ·simp
 split
 ·simp
 split
 ·simp
 rw[if_pos ∅];simp;ext
theorem yw(f:Nat->z8)(hf:∀c<128,(f c).length<=4):∀(l:z8) (acc:Array Nat),(∀c∈l,c<128)->(List.foldl (λout c=>out++(f c).toArray) acc l).size<=acc.size+4*l.length
 |[],acc,_=>by simp
 | a::r,acc,h=>by
   rw[z5s];have h1:=yw f hf r (acc++(f a).toArray) λc hc=>h c (z9d _ hc)
   have h2:=hf a (h a z9a);simp at h1 ⊢;ext
def L8(ha:(tx z).all (λc=>decide (c<128))=true)(hl:(tx z).length<=10000):(reprText z).length<=50000:=by
 have h:∀c∈tx z,c<128:=λc hc=>z6j (z9t.mp ha c hc)
 have h1:=yw (Builtin.Str.reprChar (reprQuote z)) (λc hc=>L7 hc) (tx z) #[reprQuote z] h;show(Array.push _ _).size<=_;rw[Array.size_push,<- Array.foldl_toList];have h2:(List.foldl (λout c=>out++(Builtin.Str.reprChar (reprQuote z) c).toArray) #[reprQuote z] z.cps.toList).size<=1+4*(tx z).length:=h1;ext
section
variable {P:Hp}{te:TE}{np:Pos}
def tFs(te:TE):TE:=λσ H Q=>te σ H λx H1=>∃z,x=.str z/\(tx z).all (λc=>decide (c<128))=true/\(tx z).length<=10000/\∀y,Q (.str y) H1
def L9{j}(he:PE X e te)(hm:m.length<=1000<|>J8):PE X (.JoinedStr [.FormattedValue e 114 none p1,.Constant (.str m) j p2] pos) (tFs te):=by
 intro G_ s σ H Q I h;refine JoinedStr_many (joinParts_cons (wpAny_FormattedValue_repr (aZ (he G_ s σ H _ I h) λv s1 y H1 I1 r1 q1=>?_)));obtain⟨z,rfl,hz1,hz2,q⟩:=q1;obtain⟨t,rfl⟩:=r1;have hl:=L8 hz1 hz2;refine pyReprObj_str (formatField_str (λt' tk=>?_) (cR ∅)) (cR ∅);have e0:(Str.empty++reprText z).length=(reprText z).length:=by rw[lH,bx,aA,bx];simp[tx,Str.empty]
 refine⟨by rw[e0];exact cR ∅,joinParts_cons (Calls.Constant_str ?_)⟩;have e1:(Str.empty++reprText z++m).length=(reprText z).length+m.length:=by rw[lH (Str.empty++reprText z),bx,aA,z9f,<- bx,<- bx,e0]
 refine⟨by rw[e1];exact cR ∅,joinParts_nil ?_ (by rw[e1];exact cR ∅)⟩;exact⟨.str _,H1,I1.tok _,⟨_,rfl⟩,q _⟩
theorem sj{j}(xt:fm X.K=true)(ho:OutX X P EX)(ha:JE X.nox e fa ea)(hm:m.length<=1000<|>J8)(hc:X.calm=true<|>J7)(hg:Gl X x<|>J7)(hd:DB x<|>J8)(he:starEach [.JoinedStr [.FormattedValue e 114 none p1,.Constant (.str m) j p2] np] X.env=(false,eval (.JoinedStr [.FormattedValue e 114 none p1,.Constant (.str m) j p2] np) X.env)::starEach [] X.env<|>J7)(hpl:(backTo cpos (starEach [.JoinedStr [.FormattedValue e 114 none p1,.Constant (.str m) j p2] np] X.env)).any (·.1)=false<|>J7):
  YM X P EX (.Raise (some (.Call (.Name x kp) [.JoinedStr [.FormattedValue e 114 none p1,.Constant (.str m) j p2] np] [] cpos)) none pos) (jL x fa):=by
 refine⟨?_⟩;intro n G_ s σ H De I ⟨ρ,M,Ew,hE,⟨hx,⟨d0,hd0,hok⟩,hex⟩,hl,hX⟩;obtain⟨B,XB,hall⟩:=jH xt;obtain⟨C,hns,O,_,_⟩:=hall x hx;have hmg:X.mg x=some (.ref C):=z6r I.ok.mod.kin I.ok.mod.glob hns;obtain⟨tl,N,nm,qn,bs,hdct,sn,sub,ab,col,dd,k0,k1,k2,k3,k5,mN,hC,hN,hni,T⟩:=xJ I.ok.mod.kin O.exc;refine wpAny_Raise_call_subT (C:=C) (nm:=nm) (q:=qn) (N:=N) (bs:=bs) (bm:=tl) (hdct:=hdct) (sn:=sn) (sub:=sub) (ab:=ab) (col:=col) (dd:=dd) (k0:=k0) (k1:=k1) (k2:=k2) (k3:=k3) (k5:=k5) (mN:=mN)
  F.excBase_ValueError (T.hasType (by decide)) (I.ok.hd hc) hpl hni (fZ I hg hmg ⟨rfl,?_⟩ hd)
 have hA:=bP (L9 (m:=m) (j:=j) (p1:=p1) (p2:=p2) (pos:=np) (PE.nox ha.h) hm) c5 he;have h1:=hA cpos G_ s σ H (λws H'=>∃y,ws=[.str y]/\Same H H') I ⟨ρ,d0,hE.q.envR,hd0,λv H1 p1=>by obtain⟨z,rfl,hz1,hz2⟩:=hok;cases p1.rep;exact⟨z,rfl,hz1,hz2,λy=>⟨y,rfl,p1.same⟩⟩⟩
 rw[he]at h1 ⊢;refine z4q (z8n h1 (λvs s2 h2=>?_) λ_ _ y=>y);obtain⟨ws,H2,I2,r2,y,rfl,hs⟩:=h2;have hE2:=hE.next (PostT.of hE.q.ok hs);refine⟨rfl,?_,I2.bk _ _ hC,hN.keeps I2.bk,T.keeps I2.bk,λh' e hm'=>ho.made G_ σ _ s2 e C h' vs I2 hm' ?_⟩
 ·rw[<- r2.length,z7q];exact(by decide:1<=16777216)
 ·have hn:H2 e=none:=by
   cases q:H2 e with
   |none=>rfl
   |some u=>obtain⟨o,q2⟩:=jd (I2.hok e u q);rw[hm'.new]at q2;cases q2
  exact⟨e,x,M,C,rfl,rfl,hns,hx,hX _ _ hex,by rw[nO hn];exact hE2.same,by rw[nO hn];exact hE2.q.ok⟩
end
section
variable {k:Nat}
theorem yx(ho:OpR X (compareOp op) r)(hr:OpV X.K r g)(ha:NE X a ta)(hb:NE X b tb)(hm:behindInMarks op b=false):NT X (.Compare a [op] [b] pos) (ba (n2V g ta tb)):=
 lu (pR ho ha hb hm) λσ H Q ρ M QW hE ht hQ=>Ib hr ⟨ρ,M,_,hE,ht,λd M' hd v H' p=>by
  cases d with
  |bl k=>cases p.rep;exact⟨k,rfl,hQ k M' hd H' p.toPostT⟩
  |_=>exact hd.elim⟩
def La(ha:YE X a ta)(hb:YE X b tb)(hm:behindInMarks .In b=false<|>Q2):YT X (.Compare a [.In] [b] pos) (ba (n2V inD ta tb)):=⟨yx Dt (Fi X.K) ha.h hb.h hm⟩
end
end VL
namespace VL
open PySem (Str)
open L2 (atI ixN)
def sk:NTE:=λ_ M Q=>∀a,M a=none->Q (.ptr a) (aK M a (.dic [] []))
def nX(tk ta:NTE):NTE:=λρ M Q=>tk ρ M λy M1=>ta ρ M1 λx M2=>∃a ns ds f,x=.ptr a/\y=.str f/\M2 a=some (.dic ns ds)/\Q (.bl (decide (f∈ns))) M2
def nY(tk ta:NTE):NTE:=λρ M Q=>tk ρ M λy M1=>ta ρ M1 λx M2=>∃a ns ds f,x=.ptr a/\y=.str f/\M2 a=some (.dic ns ds)/\Q (.bl (!decide (f∈ns))) M2
noncomputable def iN(ns:j_)(ds:E_)(f:Str):F_:=(ns.zip ds).lookup f
def sm(ta tk:NTE):NTE:=λρ M Q=>ta ρ M λx M1=>tk ρ M1 λy M2=>∃a ns ds f d,x=.ptr a/\y=.str f/\M2 a=some (.dic ns ds)/\iN ns ds f=some d/\Q d M2
def so(ta tk tv:NTE):NTS:=λE ρ M=>tv ρ M λv M1=>ta ρ M1 λx M2=>tk ρ M2 λy M3=>∃a ns ds f,x=.ptr a/\y=.str f/\M3 a=some (.dic ns ds)/\f∉ns/\ns.length<1000/\E.nx ρ (aK M3 a (.dic (ns++[f]) (ds++[v])))
def aT(i:Int):z8:=if i<0 then 45::digs i.natAbs else digs i.toNat
def b8:D->F_
 |.int i=>if i.natAbs.log2<1900 then some (.str (mkT (aT i)))else none
 |_=>none
abbrev NXA:=ah->Sto->(E_->Sto->Prop)->QX->Prop
def hZ:NXA:=λ_ M Q _=>Q [] M
def gt(te:NEX)(ta:NXA):NXA:=λρ M Q EX=>te ρ M (λd M1=>ta ρ M1 (λds M2=>Q (d::ds) M2) EX) EX
def iO(C:Nat)(ns:j_)(T:NTX)(ta:NTE)(tas:NXA):NEX:=λρ M Q EX=>ta ρ M λx M1=>∃a ds0,x=.ptr a/\M1 a=some (.ins C ns ds0)/\tas ρ M1 (λds M2=>T (x::ds) M2 Q EX) EX
def x1(g:D->F_)(te:NEX):NEX:=λρ M Q EX=>te ρ M (λx M1=>W1 g x λd=>Q d M1) EX
def nZ(G:E_->F_)(ta:NXA):NEX:=λρ M Q EX=>ta ρ M (λds M1=>WF G ds λd=>Q d M1) EX
def xIx(ta:NTE)(te:NEX):NEX:=λρ M Q EX=>ta ρ M λx M1=>te ρ M1 (λy M2=>W2 ixD x y λd=>Q d M2) EX
def sr(J3:z8)(ti te:NTE):NTE:=λρ M Q=>ti ρ M λd M1=>∃ds,d=.tup ds/\ds.length<=1000/\cT 1 te (bt 1 J3 ρ) ds [] M1 λds M2=>Q (.lst ds) M2
def o3(J3:z8)(ti:NEX)(te:NTE):NEX:=λρ M Q EX=>ti ρ M (λd M1=>∃ds,d=.tup ds/\ds.length<=1000/\cT 1 te (bt 1 J3 ρ) ds [] M1 λds M2=>Q (.lst ds) M2) EX
def su(ta:NTE):NTE:=λρ M Q=>ta ρ M λx M1=>∃ds,x=.lst ds/\Q (.tup ds) M1
def sv(ta tb:NTE):NTE:=λρ M Q=>ta ρ M λx M1=>tb ρ M1 λy M2=>∃xs ys,vw1 M2 x=.lst xs/\y=.lst ys/\xs.length+ys.length<=100000/\∀a,M2 a=none->Q (.ptr a) (aK M2 a (.lst (xs++ys)))
def o6(ta tb:NTE):NTE:=λρ M Q=>ta ρ M λx M1=>tb ρ M1 λy M2=>∃xs ys,vw1 M2 x=.lst xs/\y=.lst ys/\xs.length+ys.length<=100000/\Q (.lst (xs++ys)) M2
def sw(ta th:NTE):NTE:=λρ M Q=>ta ρ M λx M1=>th ρ M1 λy M2=>∃i d,y=.int i/\slT x none (some i)=some d/\Q d M2
def sx(C:Nat)(T:NTF):NTE:=λ_ M Q=>∀a,M a=none->T [.ptr a] (aK M a (.ins C [] [])) λd M2=>d=.non/\Q (.ptr a) M2
def sA(C:Nat)(ns:j_)(i:Nat)(ta:NTE)(te:NEX):NTS:=λE ρ M=>te ρ M (λv M1=>ta ρ M1 λx M2=>∃a ds,x=.ptr a/\M2 a=some (.ins C ns ds)/\E.nx ρ (aK M2 a (.ins C ns (ds.set i v)))) E.ex
noncomputable def o7(f:FE):FEs:=λρ=>(f ρ).bind λd=>match d with
 |.tup ds=>some ds
 |_=>none
end VL
namespace VL
open PySem PySem.Spec PyProof.Rows L2
noncomputable abbrev fly(X:Cx)(G_:u_)(σ:St)(E:XK):Cx:={X with xe:=Fl X G_ σ E,pn:=X.pn++G_}
section
variable {σ':St}{E:XK}
def yy(ok:X.Ok):(fly X G_ σ E).Ok:=⟨ok.mod,ok.kind,ok.glob,ok.blt,ok.above,ok.inj,ok.has,ok.cab,ok.hd,ok.frames,ok.stk,ok.exf,ok.bs,ok.bsz,ok.noex,ok.exfs,ok.funs,ok.frf⟩
def Lb(ok:(fly X G_ σ E).Ok):X.Ok:=⟨ok.mod,ok.kind,ok.glob,ok.blt,ok.above,ok.inj,ok.has,ok.cab,ok.hd,ok.frames,ok.stk,ok.exf,ok.bs,ok.bsz,ok.noex,ok.exfs,ok.funs,ok.frf⟩
def yz(I:L2.Inv X G_ σ' H s):L2.Inv (fly X G_ σ E) [] σ' H s:=
 ⟨yy I.ok,I.os,I.bare,I.base,I.loc,I.cell,I.free,I.freeC,λp hp=>I.pin p (by simpa using hp),I.hok,I.len⟩
def o8(I:L2.Inv (fly X G_ σ E) pins' σ' H s):L2.Inv X (G_++pins') σ' H s:=
 ⟨Lb I.ok,I.os,I.bare,I.base,I.loc,I.cell,I.free,I.freeC,λp hp=>I.pin p (by rw[z7x];exact hp),I.hok,I.len⟩
def yA(I:L2.Inv X (G_++pins') σ' H s):L2.Inv (fly X G_ σ E) pins' σ' H s:=
 ⟨yy I.ok,I.os,I.bare,I.base,I.loc,I.cell,I.free,I.freeC,λp hp=>I.pin p (by rw[z7x]at hp;exact hp),I.hok,I.len⟩
def Lc(I:L2.Inv X (G_++pins') σ' H s):L2.Inv X G_ σ' H s:=
 ⟨I.ok,I.os,I.bare,I.base,I.loc,I.cell,I.free,I.freeC,λp hp=>I.pin p (by rw[<- z7x];exact z8i _ hp),I.hok,I.len⟩
def jN{t:St->Hp->VK->XK->Prop}(h:PX X a t):PE (fly X G_ σ E) a λσ' H' Q'=>σ'=σ/\t σ' H' Q' E:=by intro pins' s' σ' H' Q' I ⟨e,hw⟩;subst e;refine z8n (h (G_++pins') s' σ' H' Q' E (o8 I) hw) (λv s1 y4=>by obtain⟨x,H1,I1,r1,q1⟩:=y4;exact⟨x,H1,yA I1,r1,q1⟩) λe s1 y4=>by obtain⟨H1,s2,I1,hc⟩:=y4;exact⟨H1,s2,Lc I1,hc⟩
def jO{op:Expr}(h:PE (fly X G_ σ E) op t)(I:L2.Inv X G_ σ H s)(hw:t σ H Q):wpAny (model X.prog X.w) X.A (eval op X.env) (EP X G_ σ Q) (Fl X G_ σ E) s:=
 z8n (h [] s σ H Q (yz I) hw) (λv s1 y4=>by obtain⟨x,H1,I1,r1,q1⟩:=y4;exact⟨x,H1,by have:=o8 I1;rwa [z8r]at this,r1,q1⟩) λ_ _ z=>z
end
def yB(K:K0)(ta:NXA):St->Hp->(C_->Hp->Prop)->XK->Prop:=λσ H Q E=>∃ρ M QW EX,EnvQ K σ ρ H M/\ta ρ M QW EX/\(∀ds M',QW ds M'->∀vs H',PostWs K H M ds vs H' M'->Q vs H')/\∀v c H',EXK K (PH H M) EX v c H'->E v c H'
structure YXA (X:Cx) (es:l_) (ta:NXA):Prop where
 h:∀G_ σ E,PA (fly X G_ σ E) es λσ' H Q=>σ'=σ/\yB X.K ta σ' H Q E
section
variable {tas:NXA}{es:l_}{k:Nat}{T:NTX}
def jP:YXA X [] hZ:=⟨λG_ σ E=>kF c5 λσ' H Q y4=>by obtain⟨e,ρ,M,QW,EX,hE,ht,hQ,hX⟩:=y4;exact hQ [] M ht [] H ⟨PostT.refl hE.ok,.nil⟩⟩
def iP(ha:YX X a te)(hr:YXA X es tas)(hs:SE a es X<|>J7):YXA X (a::es) (gt te tas):=
 ⟨λG_ σ E=>kF (bP (jN ha.h) (hr.h G_ σ E) hs) λσ' H Q y4=>by obtain⟨e,ρ,M,QW,EX,hE,ht,hQ,hX⟩:=y4;exact⟨e,ρ,M,_,EX,hE,ht,λd M1 h1 v H1 p1=>⟨e,ρ,M1,_,EX,hE.next p1.toPostT,h1,λds M2 h2 vs H2 p2=>hQ _ M2 h2 _ H2 ⟨p1.toPostT.trans p2.toPostT,.cons (aw p2.same p1.rep) p2.rep⟩,λv c H' z=>hX v c H' (z.pre p1.same)⟩,hX⟩⟩
def Ld{Q:C_->Hp->Prop}{E:XK}(ha:YXA X es tas)(pos:Pos)(I:L2.Inv X G_ σ H s)(h:yB X.K tas σ H Q E):wpAny (model X.prog X.w) X.A (spliced (backTo pos (starEach es X.env))) (AP X G_ σ Q) (Fl X G_ σ E) s:=
 z8n (ha.h G_ σ E pos [] s σ H Q (yz I) ⟨rfl,h⟩) (λv s1 y4=>by obtain⟨x,H1,I1,r1,q1⟩:=y4;exact⟨x,H1,by have:=o8 I1;rwa [z8r]at this,r1,q1⟩) λ_ _ z=>z
def o9(cl:Cls X.K C)(d:MetE X.prog X.w X.K X.mg X.base C m k ps T)(hr:Room k X.A)(ho:YE X.nox b tb)(ha:YXA X (a::es) tas)(hno:¬m∈ns<|>Q1)(hst:SE a es X<|>J7)(hpl:BT pos es X<|>J7)(ht:(eval (.Call (.Attribute b m ap) (a::es) [] pos) X.env=(do
   let ov <- eval b X.env
   standAt ap.atName
   let(f,first) <- holding [ov] (getMethod ov m pl)
   callWith pos f first (backTo pos (starEach (a::es) X.env)) (backToKw pos (keywordEach [] X.env))))<|>J7):
  YX X (.Call (.Attribute b m ap) (a::es) [] pos) (iO C ns T tb tas):=by
 refine⟨λG_ s σ H Q E I y4=>?_⟩;obtain⟨ρ,M,QW,EX,hE,hw,hQ,hX⟩:=y4;obtain⟨f,fd,F,hm,hb⟩:=d;refine z6p (pl:=pl) (aZ (rT (Q:=λv H1=>∃d M1,PostW X.K H M d v H1 M1/\∃q ds0,d=.ptr q/\M1 q=some (.ins C ns ds0)/\tas ρ M1 (λds M2=>T (d::ds) M2 QW EX) EX) ho.h I ⟨ρ,M,_,hE,hw,λd M1 h1 v H1 p1=>⟨d,M1,p1,h1⟩⟩) λu s1 v H1 I1 ru y4=>?_) ht;obtain⟨d,M1,p1,q,ds0,ed,hm1,h1⟩:=y4;subst ed;have pr:=p1.rep;cases pr;obtain⟨dx,vs0,g1,gl,g2⟩:=gs p1.ok hm1;obtain rfl:u=Value.ref q:=ru;refine kq I1 g1 cl hm (jF hno) ?_;refine z6e (first:=[.ref q]) (h₀:=X.base) I.ok.mod.kin hm.kp (cF (Ld (Q:=λvs H2=>∃ds M2,PostWs X.K H1 M1 ds vs H2 M2/\T (.ptr q::ds) M2 QW EX) ha pos I1 ⟨ρ,M1,_,EX,hE.next p1.toPostT,h1,λds M2 h2 vs H2 p2=>⟨ds,M2,p2,h2⟩,λv c H' z=>hX v c H' (z.pre p1.same)⟩) λus s2 vs H2 I2 r ⟨ds,M2,p2,h2⟩=>⟨I2.kIn,?_⟩) hst hpl;have p12:=p1.toPostT.trans p2.toPostT;exact nQ (us:=.ref q::us) (vs:=.ref q::vs) F hr hb I2 (.cons rfl r) ⟨.ptr q::ds,M2,QW,EX,.cons (.ptr q) p2.rep,p2.ok,h2,λd M' hd v H' p'=>hQ d M' hd v H' ⟨p12.trans p'.toPostT,p'.rep⟩,λv c H' z=>hX v c H' (z.pre p12.same)⟩
end
theorem mw:∀{ns:j_} {vs:C_} {f:Str},vs.length=ns.length->(bQ (aX ns vs) (Sum.inr f:Key)).isSome=decide (f∈ns)
 |[],_,_,_=>rfl
 |_::_,[],_,h=>by simp at h
 | n::ns,w::vs,f,h=>by
   have ih:=mw (ns:=ns) (vs:=vs) (f:=f) (by simpa using h);show(bQ ((Sum.inr n,w)::aX ns vs) _).isSome=_;unfold bQ at ih ⊢;by_cases e:n=f
   ·subst e;simp
   ·have ne:¬((Sum.inr n:Key)=Sum.inr f):=λq=>e (z5o q)
    have e2:¬f=n:=λq=>e q.symm
    rw[List.find?_cons_of_neg (by simpa using ne),ih];simp[e2]
theorem yC{K:K0}{H:Hp}:∀{ns:j_} {vs:C_} {ds:E_} {f:Str} {d:D},vs.length=ns.length->Reps K H vs ds->iN ns ds f=some d->∃v,bQ (aX ns vs) (Sum.inr f:Key)=some v/\Rep K H v d
 |[],_,_,_,_,_,_,h=>by simp[iN]at h
 |_::_,[],_,_,_,hl,_,_=>by simp at hl
 | n::ns,w::vs,ds,f,d,hl,r,h=>by
   cases r with
   | @cons _ d0 _ ds r1 r2=>
     unfold iN at h;rw[z7j,z8w]at h;show ∃v,bQ ((Sum.inr n,w)::aX ns vs) _=some v/\_;by_cases e:f=n
     ·subst e
      simp at h;subst h;exact⟨w,by unfold bQ;simp,r1⟩
     ·have hb:(f==n)=false:=z8t.mpr e
      rw[hb]at h;obtain⟨v,h1,h2⟩:=yC (by simpa using hl) r2 h;refine⟨v,?_,h2⟩;have ne:¬((Sum.inr n:Key)=Sum.inr f):=λq=>e (z5o q).symm
      unfold bQ at h1 ⊢;rw[List.find?_cons_of_neg (by simpa using ne)];exact h1
section
variable {tv:NTE}{k:Nat}
def Le:YE X (.Dict [] [] pos) sk:=⟨bq DX λσ H Q ρ M QW hE ht hQ p hp=>by obtain⟨e1,e2⟩:=fK (c:=.dic [] []) hE.ok hp (bg hp (.dK [])) bj ⟨[],rfl,rfl,.nil⟩;exact hQ _ _ (ht p (hE.ok.fresh hp)) _ _ ⟨⟨e1,e2⟩,.ptr p⟩⟩
def Lf(h:tw K (nX tb ta) σ H Q):v7 (tw K tb) (tw K ta) σ H Q:=by obtain⟨ρ,M,QW,hE,ht,hQ⟩:=h;refine⟨ρ,M,_,hE,ht,λy M1 h1 vy H1 p1=>⟨ρ,M1,_,hE.next p1.toPostT,h1,λx M2 h2 vx H2 p2=>?_⟩⟩;obtain⟨q,ns,ds,f,ex,ey,hm,hq⟩:=h2;subst ex ey;have r1:=aw p2.same p1.rep;have r2:=p2.rep;cases r1;cases r2;obtain⟨vs,g1,gl,g2⟩:=jE p2.ok hm;refine⟨q,_,rfl,DGet.k (k:=Sum.inr f) g1,?_⟩;rw[mw gl];exact hQ _ M2 hq _ H2 ⟨p1.toPostT.trans p2.toPostT,.bl _⟩
def Lg(h:tw K (nY tb ta) σ H Q):v8 (tw K tb) (tw K ta) σ H Q:=by obtain⟨ρ,M,QW,hE,ht,hQ⟩:=h;refine⟨ρ,M,_,hE,ht,λy M1 h1 vy H1 p1=>⟨ρ,M1,_,hE.next p1.toPostT,h1,λx M2 h2 vx H2 p2=>?_⟩⟩;obtain⟨q,ns,ds,f,ex,ey,hm,hq⟩:=h2;subst ex ey;have r1:=aw p2.same p1.rep;have r2:=p2.rep;cases r1;cases r2;obtain⟨vs,g1,gl,g2⟩:=jE p2.ok hm;refine⟨q,_,rfl,DGet.k (k:=Sum.inr f) g1,?_⟩;rw[mw gl];exact hQ _ M2 hq _ H2 ⟨p1.toPostT.trans p2.toPostT,.bl _⟩
def yD{t:NTE}{Q:Bool->Hp->Prop}(h:twT K (ba t) σ H Q):tw K t σ H λv H'=>∃d,v=.bl d/\Q d H':=by
 obtain⟨ρ,M,QW,hE,ht,hQ⟩:=h;refine⟨ρ,M,_,hE,ht,λd M' hd v H' p=>?_⟩;cases d with
 |bl k=>cases p.rep;exact⟨k,rfl,hQ k M' hd H' p.toPostT⟩
 |_=>exact hd.elim
def Lh(hr:Room k X.A)(hk:YE X b tb)(ha:YE X a ta)(hm:behindInMarks .In a=false<|>Q2):YT X (.Compare b [.In] [a] pos) (ba (nX tb ta)):=
 ⟨mz (tX (DU (by have:=hr.un;ext) hk.h ha.h) hm) λσ H Q h=>Lf (yD h)⟩
def Li(hr:Room k X.A)(hk:YE X b tb)(ha:YE X a ta)(hm:behindInMarks .NotIn a=false<|>Q2):YT X (.Compare b [.NotIn] [a] pos) (ba (nY tb ta)):=
 ⟨mz (tX (DV (by have:=hr.un;ext) hk.h ha.h) hm) λσ H Q h=>Lg (yD h)⟩
def Lj(hr:Room k X.A)(ha:YE X a ta)(hk:YE X b tb)(hs:mo b):YE X (.Subscript a b pos) (sm ta tb):=
 ⟨bq (v9 (by have:=hr.un;ext) ha.h hk.h hs) λσ H Q ρ M QW hE ht hQ=>⟨ρ,M,_,hE,ht,λx M1 h1 vx H1 p1=>⟨ρ,M1,_,hE.next p1.toPostT,h1,λy M2 y4 vy H2 p2=>by obtain⟨q,ns,ds,f,d,ex,ey,hm,hf,hq⟩:=y4;subst ex ey;have r1:=aw p2.same p1.rep;have r2:=p2.rep;cases r1;cases r2;obtain⟨vs,g1,gl,g2⟩:=jE p2.ok hm;obtain⟨v,h3,h4⟩:=yC gl g2 hf;exact⟨q,v,rfl,by have:=DGet.k (k:=Sum.inr f) g1;rw[h3]at this;exact this,hQ _ M2 hq _ H2 ⟨p1.toPostT.trans p2.toPostT,h4⟩⟩⟩⟩⟩
def Lk(hr:Room k X.A)(ha:YE X a ta)(hk:YE X b tb)(hv:YE X c tv)(hs:swapsWith c (some (.Subscript a b p2)) pos.line X.env=pure false<|>J7):
  YS X (.Assign [.Subscript a b p2] c pos) (so ta tb tv):=⟨λP n=>
 dJ (va (by have:=hr.un;ext) ha.h hk.h hv.h hs) λDe σ H ρ M Ew hE ht hl=>⟨ρ,M,_,hE.q,ht,λd M1 h1 v H1 p1=>⟨ρ,M1,_,hE.q.next p1.toPostT,h1,λx M2 h2 vx H2 p2=>⟨ρ,M2,_,(hE.q.next p1.toPostT).next p2.toPostT,h2,λy M3 y4 vy H3 p3=>by
  obtain⟨q,ns,ds,f,ex,ey,hm,hi,hlt,h3⟩:=y4;subst ex ey;have rx:=aw p3.same p2.rep;have ry:=p3.rep;cases rx;cases ry;obtain⟨vs,g1,gl,g2⟩:=jE p3.ok hm;have rv:=aw p3.same (aw p2.same p1.rep);have hz:(aX ns vs).length<sizeLine:=by
   have:(aX ns vs).length=ns.length:=by simp[aX,gl]
   rw[this,z7q];ext
  refine⟨q,_,rfl,.inl ⟨_,.inr f,g1,rfl,hz,rfl⟩,?_⟩;have ez:aX ns vs++[(Sum.inr f,v)]=aX (ns++[f]) (vs++[v]):=by unfold aX;rw[List.zip_append gl.symm,z8k];rfl
  rw[uX _ (xR hi),ez];obtain⟨e1,e2⟩:=iI (o:=.dK (aX (ns++[f]) (vs++[v]))) (c:=.dic (ns++[f]) (ds++[d])) p3.ok hm ⟨_,rfl,by simp[gl],g2.append (.cons rv .nil)⟩;exact hl.nx _ _ h3 σ _ ((hE.next ((p1.toPostT.trans p2.toPostT).trans p3.toPostT)).next ⟨e1,e2⟩)⟩⟩⟩⟩
end
def Ll(i:Int):Str.ofString (toString i)=mkT (aT i):=by
 cases i with
 | ofNat n=>
   have h:¬(Int.ofNat n<0):=by simp
   unfold aT;rw[if_neg h];exact sf n
 | negSucc n=>
   have h:Int.negSucc n<0:=Int.negSucc_lt_zero n;unfold aT;rw[if_pos h];have e1:toString (Int.negSucc n)="-"++toString (n+1):=rfl;have e2:=sf (n+1);have e3:toString ((n+1:Nat):Int)=toString (n+1):=rfl;rw[e3]at e2;have e4:=z8u tx e2;rw[aA]at e4;have e5:tx (Str.ofString ("-"++toString (n+1)))=45::digs (n+1):=by show(Str.ofString _).cps.toList=_;rw[signs_ofString,String.toList_append,z8k,<- signs_ofString (toString (n+1))];show _++tx (Str.ofString (toString (n+1)))=_;rw[e4];rfl
   rw[e1,<- fP (Str.ofString _),e5];rfl
section
variable {t:NTE}{tas:NXA}{ntas:NTA}{xs:l_}{k:Nat}{y:Str}{E:XK}
def sB:fG X.K (λxs H Q=>∃i,xs=[.int i]/\i.natAbs.log2<1920/\Q (.str (toString i)) H) (ar b8):=by
 intro xs H ds d Q r hg hQ;obtain⟨x,rfl,hg1⟩:=iu hg;obtain⟨v,rfl,r1⟩:=fH r;cases x with
 |int i=>obtain⟨hl,rfl⟩:=bz hg1;cases r1;refine⟨i,rfl,by ext,?_⟩;show Q (.str (Str.ofString (toString i))) H;rw[Ll];exact hQ _ λH'=>.str _
 |_=>cases hg1
def fR(mi:X.mg "str"=none)(ha:JA X [a] as es)(hg:Gl X "str"<|>J7)(he:SE a [] X<|>J7)(hpl:BT pos [] X<|>J7):
  JE X (.Call (.Name "str" p) [a] [] pos) (eA (ar b8) as) []:=
 ⟨cP (gK pT hg mi (by decide +kernel) ha.h (by decide) (by decide) he hpl) λσ H Q y4=>by obtain⟨ρ,d,hE,hf,hQ⟩:=y4;obtain⟨ds,h1,hf⟩:=bind_some hf;exact⟨ρ,ds,hE,h1,λvs H1 p=>sB vs H1 ds d _ p.rep hf λv hr=>hQ v H1 ⟨p.same,hr _,λ_ _ _=>hr _⟩⟩⟩
def iQ(mi:X.mg "str"=none)(ha:YA X [a] ntas)(hg:Gl X "str"<|>J7)(he:SE a [] X<|>J7)(hpl:BT pos [] X<|>J7):
  YE X (.Call (.Name "str" p) [a] [] pos) (ci (ar b8) ntas):=
 ⟨bq (gK pT hg mi (by decide +kernel) ha.h (by decide) (by decide) he hpl) λσ H Q ρ M QW hE ht hQ=>⟨ρ,M,_,hE,ht,λds M1 ⟨d,hf,_,h1⟩ vs H1 p=>sB vs H1 _ d _ (nK p.ok p.rep) hf λv hr=>hQ d M1 h1 v H1 ⟨p.toPostT,hr _⟩⟩⟩
def yE(mi:X.mg "str"=none)(ha:YX X a te)(hg:Gl X "str"<|>J7)(he:SE a [] X<|>J7)(hpl:BT pos [] X<|>J7):
  YX X (.Call (.Name "str" p) [a] [] pos) (x1 b8 te):=
 ⟨λG_ s σ H Q E I ⟨ρ,M,QW,EX,hE,ht,hQ,hX⟩=>jO (gK (X:=fly X G_ σ E) pT hg mi (by decide +kernel) (bP (jN ha.h) c5 he) (by decide) (by decide) he hpl) I ⟨rfl,ρ,M,_,EX,hE,ht,λx M1 ⟨d,hf,h1⟩ v H1 p1=>sB (X:=X) [v] H1 [x] d _ (.cons (aw (aR _ _) p1.rep) .nil) hf λv hr=>hQ d M1 h1 v H1 ⟨p1.toPostT,hr _⟩,hX⟩⟩
def Lm(mi:X.mg "int"=none)(ha:YX X a te)(hg:Gl X "int"<|>J7)(he:SE a [] X<|>J7)(hpl:BT pos [] X<|>J7):
  YX X (.Call (.Name "int" p) [a] [] pos) (x1 qR te):=
 ⟨λG_ s σ H Q E I ⟨ρ,M,QW,EX,hE,ht,hQ,hX⟩=>jO (gK (X:=fly X G_ σ E) CT hg mi (by decide +kernel) (bP (jN ha.h) c5 he) (by decide) (by decide) he hpl) I ⟨rfl,ρ,M,_,EX,hE,ht,λx M1 y4 v H1 p1=>by
  obtain⟨d,hg1,h1⟩:=y4;have r1:=p1.rep;cases r1<;>first|(cases hg1;done)|skip
  ·cases hg1
   exact .inr ⟨_,rfl,hQ _ M1 h1 _ H1 ⟨p1.toPostT,.int _⟩⟩
  ·cases hg1
   exact .inl ⟨_,rfl,hQ _ M1 h1 _ H1 ⟨p1.toPostT,.int _⟩⟩,hX⟩⟩
def yF(d:Def X.prog X.w X.K X.mg X.base x k ps G fr)(hr:Room k X.A)(ha:YXA X (a::xs) tas)(hg:Gl X x<|>J7)(hdb:DB x<|>J8)(he:SE a xs X<|>J7)(hpl:BT pos xs X<|>J7):
  YX X (.Call (.Name x p) (a::xs) [] pos) (nZ G tas):=
 let⟨_,_,F,hm,hk,hb⟩:=d
 ⟨λG_ s σ H Q E I ⟨ρ,M,QW,EX,hE,ht,hQ,hX⟩=>jO (gJ (X:=fly X G_ σ E) F hr hg hm hk hb .nil eg (ha.h G_ σ E) hdb he hpl) I ⟨rfl,ρ,M,_,EX,hE,ht,λds M1 y4 vs H1 p=>by obtain⟨d,hf,hq⟩:=y4;show spF X.K G fr (vs++[]) H1 Q E0;rw[z8r];exact⟨ds,d,aQ (aR _ _) p.rep,hf,λv H' r=>hQ d M1 hq v H' ⟨p.toPostT.trans (PostT.of p.ok r.same),r.rep _ p.ok.dom p.rep⟩⟩,hX⟩⟩
def Ln{t:TE}(h:PE X.nox a t):PE (fly X G_ σ E) a t:=λpins' s σ' H Q I hw=>z8n (h (G_++pins') s σ' H Q ((o8 I).wish _) hw) (λv s1 y4=>by obtain⟨x,H1,I1,r1,q1⟩:=y4;exact⟨x,H1,yA I1.unwish,r1,q1⟩) λ_ _ z=>False.elim z
theorem Lo(ha:YE X.nox a ta)(hb:YX X b te)(hs:ib b):YX X (.Subscript a b pos) (xIx ta te):=
 ⟨λG_ s σ H Q E I ⟨ρ,M,QW,EX,hE,ht,hQ,hX⟩=>jO (jf (X:=fly X G_ σ E) (ix_list.or mh) (Ln ha.h) (jN hb.h) hs) I ⟨ρ,M,_,hE,ht,λx M1 h1 vx H1 p1=>⟨rfl,ρ,M1,_,EX,hE.next p1.toPostT,h1,(λy M2 y4 vy H2 p2=>by
  obtain⟨d,hf,h2⟩:=y4;cases y with
  | int i=>
    cases p2.rep;obtain⟨ds,h3,h4⟩:=bind_some hf;have rx:=aw p2.same p1.rep;have hel:ElR X.K H2 (inM M2) _ _:=rx.el;obtain⟨q,xs,rfl,hp,_,hA⟩:=iq (aw (aR _ _) rx) h3;have hx:=hA _ hel;obtain⟨v,h5,h6⟩:=kP hx h4;have fin:Q v H2:=hQ d M2 h2 v H2 ⟨p1.toPostT.trans p2.toPostT,h6⟩;rcases hp with hp|hp
    ·exact .inl ⟨q,xs,i,v,rfl,rfl,hp,h5,fin⟩
    ·exact .inr ⟨q,xs,i,v,rfl,rfl,hp,h5,fin⟩
  |_=>cases hf),λv c H' z=>hX v c H' (z.pre p1.same)⟩⟩⟩
def yG{M1:Sto}{L:E_}(hE:EnvQ K σ ρ H M)(p1:PostW K H M (.tup L) v H1 M1)(hll:L.length<=1000)(h1:cT 1 tel (bt 1 J3 ρ) L [] M1 λds M2=>QW (.lst ds) M2)(hQ:∀d M',QW d M'->∀v H',PostW K H M d v H' M'->Q v H'):
  ∃a,v=.ref a/\(∃xs,SqT K H1 a xs)/\∃W:Nat->Nat->C_->St->Hp->Prop,(∃m,W 0 m [] (List.replicate 1 none++cI σ J3) H1)/\∀i m ys σb H2,W i m ys σb H2->ys.length<sizeLine /\
    (((Itt K a).stop i H2/\∀d,H2 d=none->Q (.ref d) (upd H2 d (.lst ys))) \/
     ((Itt K a).go i H2/\∀x H3,(Itt K a).yld i H2 x H3->cg 0 x σb H3 λσb' H4=>(λ_ H Q=>Q true H) σb' H4 λb H5=>if b=true then tw K tel σb' H5 λy H6=>∃m',m'<m/\W (i+1) m' (ys++[y]) σb' H6 else ∃m',m'<m/\W (i+1) m' ys σb' H5)):=by
 obtain⟨q,xs,rfl,hq,hx'⟩:=wo p1.rep;have len:=hx'.length;have hq1:H1 q=some (.tup xs):=(PH.at hq).2;refine⟨q,rfl,⟨xs,SqT.of hq1⟩,?_⟩;have hE1:=hE.next p1.toPostT;refine⟨λi m ys σb H2=>m=xs.length-i/\i<=xs.length/\(σb.length=1+J3.length/\∀k,1<=k->σb[k]?=(cI σ J3)[k-1]?) /\
  ∃M2 done,PostT K H1 M1 H2 M2/\Reps K (PH H2 M2) ys done/\done.length=i/\cT 1 tel (bt 1 J3 ρ) (L.drop i) done M2 λds M2=>QW (.lst ds) M2,?_,?_⟩
 ·refine⟨xs.length,by simp,z7h _,⟨by simp[cI];ext,λk hk=>?_⟩,M1,[],PostT.refl p1.ok,.nil,rfl,by simpa using h1⟩
  rw[z9y (by simpa using hk)];simp
 ·rintro i m ys σb H2 ⟨rfl,hi,⟨hlen,hcap⟩,M2,done,pt,hr,hdl,hgo⟩
  have lys:=hr.length;have sq:SqT K H2 q xs:=SqT.of (PH.at (pt.same _ _ hq)).2;refine⟨by rw[z7q];ext,?_⟩;by_cases hlt:i<xs.length
  ·obtain⟨dy,h4,h5⟩:=hx'.getV (z9o hlt)
   have ed:L.drop i=dy::L.drop (i+1):=by rw[z8c ∅];have e2:L[i]'(by ext)=dy:=(z9e.mp h4).2;rw[e2]
   rw[ed]at hgo;refine .inr ⟨⟨xs,xs[i],sq,z9o hlt⟩,λx H3 hy=>?_⟩;obtain⟨e4,e5⟩:=hy;subst e4;have e6:=e5 xs sq;rw[z9o hlt]at e6;cases e6;unfold cg;dsimp only;rw[if_pos rfl];refine⟨_,M2,_,⟨rL (hE1.env.mono pt.same) hlen hcap (aw pt.same h5),pt.ok⟩,hgo,λd M3 h3 w H4 p4=>?_⟩;refine⟨xs.length-(i+1),by ext,rfl,hlt,⟨by rw[z8e];exact hlen,λk hk=>by rw[z9g ∅];exact hcap k hk⟩,M3,done++[d],pt.trans p4.toPostT,(aQ p4.same hr).append (.cons p4.rep .nil),by simp[hdl],h3⟩
  ·have e:i=xs.length:=by ext
   subst e;rw[z7f ∅]at hgo;refine .inl ⟨⟨xs,sq,z9l _⟩,λl hl=>?_⟩;obtain⟨d,M3,g1,g2⟩:=xD hgo (p1.toPostT.trans pt) hr hl;exact hQ d M3 g1 _ _ g2
variable {sp:Str}
def Lp(B:BlkOk X scope [y] J3 cn)(hc:X.calm=true)(hi:YE X iter tit)(hg:∀s H cl ex,PG (blk X ([y]++cn) s H scope cl ex) tg (cg 0))(he:∀s H cl ex,YE (blk X ([y]++cn) s H scope cl ex) elt tel)(hs:(∀x,foldedSetIterable iter X.env x=pure x)<|>Q0):
  YE X (.ListComp elt [⟨tg,iter,[],0⟩] scope pos) (sr J3 tit tel):=
 ⟨bq (nM B hc (pK hi.h) hg (λ_ _ _ _=>kY) (λs H cl ex=>(he s H cl ex).h) hs) λσ H Q ρ M QW hE ht hQ=>⟨ρ,M,_,hE,ht,λd M1 y4 v H1 p1=>by obtain⟨L,ed,hll,h1⟩:=y4;subst ed;exact yG hE p1 hll h1 hQ⟩⟩
def yH(B:BlkOk X scope [y] J3 cn)(hc:X.calm=true)(hi:YX X iter te)(hg:∀s H cl ex,PG (blk X ([y]++cn) s H scope cl ex) tg (cg 0))(he:∀s H cl ex,YE (blk X ([y]++cn) s H scope cl ex) elt tel)(hs:(∀x,foldedSetIterable iter X.env x=pure x)<|>Q0):
  YX X (.ListComp elt [⟨tg,iter,[],0⟩] scope pos) (o3 J3 te tel):=
 ⟨λG_ s σ H Q E I ⟨ρ,M,QW,EX,hE,ht,hQ,hX⟩=>jO (nM (X:=fly X G_ σ E) ⟨B.kind,B.nocell,B.locals,B.free,B.names,B.capf,B.nd⟩ hc (pK (jN hi.h)) hg (λ_ _ _ _=>kY) (λs H cl ex=>(show PE (blk (fly X G_ σ E) ([y]++cn) s H scope cl ex) elt (tw X.K tel)from(he s H cl ex).h)) hs) I ⟨rfl,ρ,M,_,EX,hE,ht,(λd M1 y4 v H1 p1=>by obtain⟨L,ed,hll,h1⟩:=y4;subst ed;exact yG hE p1 hll h1 hQ),hX⟩⟩
theorem yI(ha:YX X a te)(hbase:attributeBase (.Constant (.str sp) j p1) "join" X.env (eval (.Constant (.str sp) j p1) X.env)=eval (.Constant (.str sp) j p1) X.env<|>J7)(hfew:(((backTo cp (starEach [a] X.env)).all (λx=>!x.1)&&(backToKw cp (keywordEach [] X.env)).all (λx=>x.1.isSome)&&decide ([a].length+([]:n_).length+(if([]:n_).isEmpty then 0 else 1)<30))=true)<|>J7)(hline:(ap.endLine==cp.line)=true<|>J7)(hs:SE a [] X<|>J7)(hplain:BT cp [] X<|>J7):
  YX X (.Call (.Attribute (.Constant (.str sp) j p1) "join" ap) [a] [] cp) (x1 (eQ (.str sp)) te):=
 ⟨λG_ s σ H Q E I ⟨ρ,M,QW,EX,hE,ht,hQ,hX⟩=>jO (ic (X:=fly X G_ σ E) z4g F.slot_str_join F.type_str_join yp gH (bP (jN ha.h) c5 hs) hbase hfew hline hs hplain) I ⟨rfl,rfl,ρ,M,_,EX,hE,ht,(λdx M1 y4 x H1 p1=>by obtain⟨d,hf,h1⟩:=y4;obtain⟨l,ss,z,rfl,hl,hb,rfl,rfl⟩:=yq (aw (aR _ _) p1.rep) hf;exact⟨sp,l,ss,rfl,rfl,hl,hb,hQ _ M1 h1 _ H1 ⟨p1.toPostT,.str _⟩⟩),hX⟩⟩
def Lq(ml:X.mg "tuple"=none)(ha:YE X a ta)(hg:Gl X "tuple"<|>J7)(he:SE a [] X<|>J7)(hpl:BT pos [] X<|>J7):
  YE X (.Call (.Name "tuple" p) [a] [] pos) (su ta):=
 ⟨bq (gK Dv hg ml (by decide +kernel) (bP ha.h c5 he) (by decide) (by decide) he hpl) λσ H Q ρ M QW hE ht hQ=>⟨ρ,M,_,hE,ht,λd M1 y4 v H1 p1=>by obtain⟨ds,ed,hq⟩:=y4;subst ed;obtain⟨q,xs,rfl,h1,h2,_⟩:=eI p1.rep;refine⟨q,xs,rfl,.inl ⟨(aR _ _).seq (.inl h1),λl hl=>?_⟩⟩;have hn:=p1.ok.fresh hl;refine hQ _ M1 hq _ _ ⟨p1.toPostT.trans (PostT.of p1.ok (bg hl _)),.tup ?_ (aQ (PH.up (bg hl _)) h2)⟩;rw[PH.of hn];exact bj⟩⟩
end
section
variable {P:Hp}
def oa(ho:OutX X P EX)(he:YX X a te)(hs:swapsWith a none pos.line X.env=pure false<|>J7):YM X P EX (.Expr a pos) (jA te):=⟨λn=>dG (lZ (nR he.h ho.pass) hs) λDe σ H y4=>by obtain⟨ρ,M,Ew,hE,ht,hl,hX⟩:=y4;exact⟨ρ,M,_,_,hE.q,ht,λd M1 h1 v H1 p1=>hl.nx _ M1 h1 σ H1 (hE.next p1.toPostT),λv c H' z=>(z.pre hE.same).post hX⟩⟩
def Lr:YM X P EX st wV:=⟨λn=>dG Cq λDe σ H y4=>by obtain⟨ρ,M,Ew,hE,ht,hl,hX⟩:=y4;exact ht⟩
end
section
variable {g:TG}{c:ah->B_}{un:D->Option E_}
def Ls(i:Nat)(hN:X.N.Nodup)(B:BlkOk X scope own J3 cn)(hc:X.calm=true)(hi:JI X tg iter fi ei)(hg:∀s H cl ex,PG (blk X (own++cn) s H scope cl ex) tg g)(hgv:TgV X.K g is un)(his:∀i∈is,i<own.length)(ht:∀s H cl ex,PTs (blk X (own++cn) s H scope cl ex) ifs (tvT X.K c))(he:∀s H cl ex,JE (blk X (own++cn) s H scope cl ex) elt fe ee)(hsw:swapsWith (.ListComp elt [⟨tg,iter,ifs,0⟩] scope pos) (some (.Name x p2)) spos.line X.env=pure true<|>J7)(hxi:X.N[i]?=some x<|>J7)(hx:Loc X.env.scope x<|>J9)(hfn:X.fn x=true\/X.env.scope.names.lookup x=some .local<|>J9)(hs:(∀x,foldedSetIterable iter X.env x=pure x)<|>Q0):
  YS X (.Assign [.Name x p2] (.ListComp elt [⟨tg,iter,ifs,0⟩] scope pos) spos) (aI i (fk (bR own.length J3 is un fi c fe))):=⟨λP n=>
 dJ (EJ i hN B hc hi.h hg hgv his ht (λs H cl ex=>(he s H cl ex).h) hsw hxi hx hfn hs) λDe σ H ρ M Ew hE ⟨d,hf,ds,e,hq⟩ hl=>⟨ρ,d,hE.q.envR,hf,λv H' p=>by obtain⟨l,xs,ds',rfl,rfl,hl0,hl',hr⟩:=p.new;cases e;obtain⟨e1,e2⟩:=fK (c:=.lst ds) hE.q.ok hl0 p.same hl' (hr (inM M) hE.q.ok.dom λe _=>rB hE.q e);exact hl.nx _ _ (hq l (hE.q.ok.fresh hl0)) _ H' ((hE.next ⟨e1,e2⟩).set (.ptr l))⟩⟩
end
def yJ{x:D}{xs:E_}(ok:MOk K H M)(r:Rep K (PH H M) v x)(h:vw1 M x=.lst xs):∃q ys,v=.ref q/\Rd H q (.lst ys)/\Reps K (PH H M) ys xs:=by
 cases x with
 | ptr b=>
   cases r;cases hm:M b with
   |none=>simp[vw1,hm]at h
   | some c=>
     cases c with
     |lst es=>simp only[vw1,hm]at h;cases h;obtain⟨ys,g1,g2⟩:=fM ok hm;exact⟨b,ys,rfl,.inl g1,g2⟩
     |_=>simp[vw1,hm]at h
 |lst es=>cases h;obtain⟨q,ys,rfl,h1,h2,_⟩:=eI r;exact⟨q,ys,rfl,cW (aR _ _) h1,h2⟩
 |_=>cases h
def Lt(ha:YE X a ta)(hb:YE X b tb):YE X (.BinOp a .Add b pos) (sv ta tb):=
 ⟨bq (jc mI ha.h hb.h) λσ H Q ρ M QW hE ht hQ=>⟨ρ,M,_,hE,ht,λx M1 h1 vx H1 p1=>⟨ρ,M1,_,hE.next p1.toPostT,h1,λy M2 y4 vy H2 p2=>by obtain⟨xs,ys,ex,ey,hl,hq⟩:=y4;subst ey;have rx:=aw p2.same p1.rep;obtain⟨q,us,rfl,g1,g2⟩:=yJ p2.ok rx ex;obtain⟨q',ws,rfl,g3,g4,_⟩:=eI p2.rep;refine⟨q,q',us,ws,rfl,rfl,g1,cW (aR _ _) g3,by rw[g2.length,g4.length];exact cR hl,λr hr=>?_⟩;obtain⟨e1,e2⟩:=fK (c:=.lst (xs++ys)) p2.ok hr (bg hr (.lst (us++ws))) bj (aQ (rE hr) (g2.append g4));exact hQ _ _ (hq r (p2.ok.fresh hr)) _ _ ⟨(p1.toPostT.trans p2.toPostT).trans ⟨e1,e2⟩,.ptr r⟩⟩⟩⟩
def Lu(ha:YE X a ta)(hb:YE X b tb):YE X (.BinOp a .Add b pos) (o6 ta tb):=
 ⟨bq (jc mI ha.h hb.h) λσ H Q ρ M QW hE ht hQ=>⟨ρ,M,_,hE,ht,λx M1 h1 vx H1 p1=>⟨ρ,M1,_,hE.next p1.toPostT,h1,λy M2 y4 vy H2 p2=>by obtain⟨xs,ys,ex,ey,hl,hq⟩:=y4;subst ey;have rx:=aw p2.same p1.rep;obtain⟨q,us,rfl,g1,g2⟩:=yJ p2.ok rx ex;obtain⟨q',ws,rfl,g3,g4,_⟩:=eI p2.rep;refine⟨q,q',us,ws,rfl,rfl,g1,cW (aR _ _) g3,by rw[g2.length,g4.length];exact cR hl,λr hr=>?_⟩;have hn:=p2.ok.fresh hr;refine hQ _ M2 hq _ _ ⟨(p1.toPostT.trans p2.toPostT).trans (PostT.of p2.ok (bg hr _)),.lst (.inl ?_) (aQ (PH.up (bg hr _)) (g2.append g4))⟩;rw[PH.of hn];exact bj⟩⟩⟩
def Lv(ha:YE X a ta)(hb:YE X b tb)(hm:behindInMarks .NotIn b=false<|>Q2):YT X (.Compare a [.NotIn] [b] pos) (ba (n2V iF ta tb)):=⟨yx uR (wx X.K) ha.h hb.h hm⟩
theorem Lw(ha:YE X a ta)(hb:YE X b tb):YE X (.Subscript a (.Slice none (some b) none p2) pos) (sw ta tb):=
 ⟨bq (kt ym ha.h me (mf hb.h)) λσ H Q ρ M QW hE ht hQ=>⟨ρ,M,_,hE,ht,λx M1 h1 vx H1 p1=>⟨ρ,M1,_,hE.next p1.toPostT,h1,λy M2 y4 vy H2 p2=>by
  obtain⟨i,d,ey,hd,hq⟩:=y4;subst ey;have rx:=aw p2.same p1.rep;cases p2.rep;refine⟨i,rfl,?_⟩;cases x with
  |str z=>obtain⟨hc,rfl⟩:=bz hd;cases rx;exact⟨z,rfl,hc.1,hc.2.1,by rw[bx];exact cR hc.2.2,hQ _ M2 hq _ H2 ⟨p1.toPostT.trans p2.toPostT,.str _⟩⟩
  |_=>cases hd⟩⟩⟩
section
variable {f:Str}{k:Nat}{P:Hp}
def Lx(d:MakN X.prog X.w X.K X.mg X.base x C k ps T)(hr:Room (k+1) X.A)(hg:Gl X x<|>J7)(hdb:DB x<|>J8):YE X (.Call (.Name x p) [] [] pos) (sx C T):=
 let⟨_,_,F,M,hm,hb⟩:=d
 ⟨bq (Dd M F hr hg hm hb .nil eg hdb) λσ H Q ρ M QW hE ht hQ q dx hq hdx ne=>by
  have hqd:upd H dx (.own q) q=none:=by rw[aH (Ne.symm ne)];exact hq
  have s1:=bg hdx (.own q);have s2:=bg hqd (.ins C dx []);obtain⟨e1,e2⟩:=fK (c:=.ins C [] []) (hE.ok.up s1) hqd s2 bj ⟨rfl,[],rfl,rfl,.nil⟩;have pt:PostT X.K H M _ _:=(PostT.of hE.ok s1).trans ⟨e1,e2⟩;exact⟨[.ptr q],_,_,.cons (.ptr q) .nil,e2,ht q (hE.ok.fresh hq),λd M' y4 v H' p'=>by obtain⟨hd,hq'⟩:=y4;subst hd;cases p'.rep;exact⟨rfl,hQ _ M' hq' _ H' ⟨pt.trans p'.toPostT,.ptr q⟩⟩⟩⟩
def Ly(ho:OutX X P EX)(cl:Cls X.K C)(nat:NoAttr X.K C f)(ha:YE X.nox a ta)(hv:YX X b te)(hn:ns.Nodup<|>Q1)(hi:ns[i]?=some f<|>J7)(hlt:ns.length<1000<|>J8)(hs:swapsWith b (some (.Attribute a f p2)) pos.line X.env=pure false<|>J7):
  YM X P EX (.Assign [.Attribute a f p2] b pos) (sA C ns i ta te):=⟨λn=>
 dG (pW (PE.nox ha.h) (nR hv.h ho.pass) hs) λDe σ H ⟨ρ,M,Ew,hE,ht,hl,hX⟩=>⟨ρ,M,_,_,hE.q,ht,λd M1 h1 v H1 p1=>⟨ρ,M1,_,hE.q.next p1.toPostT,h1,λx M2 y4 vx H2 p2=>by obtain⟨q,ds,ex,hm,h2⟩:=y4;subst ex;cases p2.rep;obtain⟨dx,vs,g1,gl,g2⟩:=gs p2.ok hm;have rv:=aw p2.same p1.rep;refine⟨q,C,dx,_,rfl,g1,cl,nat,by rw[List.length_zip,gl,Nat.min_self];exact hlt,?_⟩;rw[rH _ gl hn hi];obtain⟨e1,e2⟩:=iI (o:=.ins C dx (ns.zip (vs.set i v))) (c:=.ins C ns (ds.set i d)) p2.ok hm ⟨rfl,_,rfl,by rw[z8e];exact gl,g2.set rv i⟩;exact hl.nx _ _ h2 σ _ ((hE.next (p1.toPostT.trans p2.toPostT)).next ⟨e1,e2⟩)⟩,λv c H' z=>(z.pre hE.same).post hX⟩⟩
end
theorem Lz{fi:FE}(h:JE X iter fi ei):JI X tg iter (o7 fi) ei:=⟨qB (pK h.h) λσ H R y4=>by
 obtain⟨ρ,ds,hE,hf,hR⟩:=y4;obtain⟨d,h1,hf⟩:=bind_some hf;refine⟨ρ,d,hE,h1,λv H1 p=>?_⟩;cases d with
 |tup es=>cases hf;obtain⟨q,xs,rfl,hq,hx⟩:=wo p.rep;have len:=hx.length;refine⟨q,rfl,⟨xs,SqT.of hq⟩,hR _ _ ⟨p.same,λi d' H' hd e=>?_,λH' e=>⟨xs,SqT.of (e _ _ hq),by ext⟩⟩⟩;obtain⟨x,h2,h3⟩:=hx.get hd;refine⟨⟨xs,x,SqT.of (e _ _ hq),h2⟩,λy H'' y4=>?_⟩;obtain⟨eq,hy⟩:=y4;subst eq;have h4:=hy xs (SqT.of (e _ _ hq));rw[h2]at h4;cases h4;refine⟨Same.refl _,aw e h3,λA hA hz=>?_⟩;obtain⟨x',h5,h6⟩:=(ES (.inl hq) (p.av A hA hz)).get hd;rw[h2]at h5;cases h5;exact aw (cy e) h6
 |_=>cases hf⟩
section
variable {α:Type}{us:List α}
def yK(h:us.length=1):∃a,us=[a]:=by
 cases us with
 |nil=>cases h
 |cons a r=>exact⟨a,by rw[List.eq_nil_of_length_eq_zero (z4a h)]⟩
def yL(h:us.length=2):∃a b,us=[a,b]:=by
 cases us with
 |nil=>cases h
 |cons a r=>obtain⟨b,rfl⟩:=yK (z4a h);exact⟨a,b,rfl⟩
def yM(h:us.length=3):∃a b c,us=[a,b,c]:=by
 cases us with
 |nil=>cases h
 |cons a r=>obtain⟨b,c,rfl⟩:=yL (z4a h);exact⟨a,b,c,rfl⟩
def yN(h:us.length=4):∃a b c d,us=[a,b,c,d]:=by
 cases us with
 |nil=>cases h
 |cons a r=>obtain⟨b,c,d,rfl⟩:=yM (z4a h);exact⟨a,b,c,d,rfl⟩
def yO(h:us.length=5):∃a b c d e,us=[a,b,c,d,e]:=by
 cases us with
 |nil=>cases h
 |cons a r=>obtain⟨b,c,d,e,rfl⟩:=yN (z4a h);exact⟨a,b,c,d,e,rfl⟩
def LA(h:us.length=6):∃a b c d e f,us=[a,b,c,d,e,f]:=by
 cases us with
 |nil=>cases h
 |cons a r=>obtain⟨b,c,d,e,f,rfl⟩:=yO (z4a h);exact⟨a,b,c,d,e,f,rfl⟩
end
def FA(K:K0)(mg:Str->v_)(x:Str)(s:Stmt):Prop:=∃a fd,Fun K x x s a fd/\mg x=some (.ref a)
def MA(K:K0)(C:Addr)(x q:Str)(s:Stmt):Prop:=∃a fd,Fun K x q s a fd/\Meth K C x a
def IA(K:K0)(mg:Str->v_)(c:Str)(C:Addr)(q:Str)(s:Stmt):Prop:=∃a fd,Fun K "__init__" q s a fd/\Mk K C a/\mg c=some (.ref C)
section
variable {q c:Str}{kV:Value}
def FA.of(X:K.In h)(G:h.Ns mainGlobals mg)(a:W.nsIn K mainGlobals x=some (some (.ref f)))(l:K.lookup f=some ⟨oc,od,.func (W.fnOf x x (gL st) (cO st) (ao st) .none kV doc pm an cdv ct),osl⟩)(c:W.codeIn K cdv x=true)(k:W.keepIn K (.ref f)=true):FA K mg x st:=⟨_,_,q9 l c k,z6r X G a⟩
def MA.of(a:W.findIn K (.ref C) x=some (some (.ref f)))(i:W.isFn K (.ref f)=true)(l:K.lookup f=some ⟨oc,od,.func (W.fnOf x q (gL st) (cO st) (ao st) .none kV doc pm an cdv ct),osl⟩)(c:W.codeIn K cdv q=true)(k:W.keepIn K (.ref f)=true):MA K C x q st:=⟨_,_,q9 l c k,⟨a,i,k⟩⟩
def IA.of(X:K.In h)(G:h.Ns mainGlobals mg)(a:W.findIn K (.ref C) "__init__"=some (some (.ref f)))(i:W.isFn K (.ref f)=true)(l:K.lookup f=some ⟨oc,od,.func (W.fnOf "__init__" q (gL st) (cO st) (ao st) .none kV doc pm an cdv ct),osl⟩)(cd:W.codeIn K cdv q=true)(k:W.keepIn K (.ref f)=true)(aC:W.nsIn K mainGlobals c=some (some (.ref C)))(m:W.makesIn K C=true)(kc:W.keepIn K (.ref C)=true):IA K mg c C q st:=
 ⟨_,_,q9 l cd k,⟨m,a,i,kc⟩,z6r X G aC⟩
def gi_of{i:Int}{t:Tok}(X:K.In h)(G:h.Ns mainGlobals mg)(a:W.nsIn K mainGlobals x=some (some (.int i t))):∃t,mg x=some (.int i t):=⟨t,z6r X G a⟩
def gs_of{i:Str}{t:Tok}(X:K.In h)(G:h.Ns mainGlobals mg)(a:W.nsIn K mainGlobals x=some (some (.str i t))):∃t,mg x=some (.str i t):=⟨t,z6r X G a⟩
abbrev BdR(x q:Str)(st:Stmt)(ps:j_):Prop:=∀(kV doc pm:Value) (an:Option Addr) (cdv ct:Value) (us:k_),us.length=ps.length->bindArgs (W.fnOf x q (gL st) (cO st) (ao st) .none kV doc pm an cdv ct) ⟨us,[]⟩=pure (ps.zip us)
section
variable {k:Nat}
def mkA(h:FA K mg x st)(b:BdR x x st ps)(F:∀f fd,Fun K x x st f fd->FnOk P w K mg base CX k f fd ps sp):∃f fd,FnOk P w K mg base CX k f fd ps sp/\mg x=some (.ref f)/\W.keepIn K (.ref f)=true/\Binds K fd ps []:=
 let⟨a,fd,Fn,m⟩:=h;⟨a,fd,F a fd Fn,m,Fn.kp,Fn.binds b⟩
def mkM(h:MA K C x q st)(b:BdR x q st ps)(F:∀f fd,Fun K x q st f fd->FnOk P w K mg base CX k f fd ps sp):∃f fd,FnOk P w K mg base CX k f fd ps sp/\Meth K C x f/\Binds K fd ps []:=
 let⟨a,fd,Fn,m⟩:=h;⟨a,fd,F a fd Fn,m,Fn.binds b⟩
def mkI(h:IA K mg c C q st)(b:BdR "__init__" q st ps)(F:∀f fd,Fun K "__init__" q st f fd->FnOk P w K mg base CX k f fd ps sp):∃f fd,FnOk P w K mg base CX k f fd ps sp/\Mk K C f/\mg c=some (.ref C)/\Binds K fd ps []:=
 let⟨a,fd,Fn,m,g⟩:=h;⟨a,fd,F a fd Fn,m,g,Fn.binds b⟩
end
def LB{P:j_}{sc:Scope}(_:FnScope N P sc)(hs:X.env.scope=sc)(h:ww sc names=true):∀x∈names,x.2=.free->(X.env.kindOf x.1=some .cell\/X.env.kindOf x.1=some .free):=Fg sc hs h
end
end VL
namespace VL
open PySem (Str)
open L2 (atI ixN)
noncomputable def upc(c:Nat):Nat:=if 97<=c/\c<=122 then c-32 else c
def upT:D->F_
 |.str x=>if(tx x).all (λc=>decide (c<128))=true/\(tx x).length<=10000 then some (.str (mkT ((tx x).map upc)))else none
 |_=>none
def oe:D->F_
 |.str x=>if 1<=(tx x).length/\(tx x).length<=10000 then some (.str (mkT ((tx x).take ((tx x).length-1))))else none
 |_=>none
def yP:D->D->F_
 |.lst ds,.str z=>(eP ds).bind λls=>if ls.idxOf (tx z)<ls.length/\ls.length<=10000 then some (.int (ls.idxOf (tx z):Nat))else none
 |_,_=>none
def sC(ta tb:NTE):NTE:=λρ M Q=>ta ρ M λx M1=>∃ds,x=.lst ds/\tb ρ M1 λy M2=>W2 yP (.lst ds) y λd=>Q d M2
end VL
namespace VL
open PySem PySem.Spec PyProof.Rows L2
section
variable {p4:Pos}
theorem yQ:∀(l:z8),(∀c∈l,c<128)->Txt.upper (mkT l)=mkT (l.map upc)
 |[],_=>by decide +kernel
 |c::l,h=>by have e:mkT (c::l)=(⟨#[c]⟩:Str)++mkT l:=PySem.Str.ext' (by rw[PySem.Str.cps_append];simp[mkT]);rw[e,W.KOpn.upper_app,W.KOpn.upper_one (h c z9a),yQ l λd hd=>h d (z9d _ hd)];exact PySem.Str.ext' (by rw[PySem.Str.cps_append];simp[mkT,upc])
def rUp:V->C_->Hp->VK->Prop:=λx xs H Q=>∃z,x=.str z/\xs=[]/\(tx z).all (λc=>decide (c<128))=true/\(tx z).length<=10000/\Q (.str (mkT ((tx z).map upc))) H
def LC:MtR X "str.upper" rUp:=by
 intro G_ s σ H x xs v us Q I rx r h;obtain⟨z,rfl,rfl,ha,hl,q⟩:=h;obtain⟨t,rfl⟩:=rx;cases r;have e:Txt.upper z=mkT ((tx z).map upc):=yQ (tx z) λc hc=>z6j (z9t.mp ha c hc)
 refine SC.upper (by rw[e];show decide _=false;exact z8h (by rw[bx,aA,z9c];have:=cR (n:=(tx z).length) ∅;ext)) ?_;rw[e];exact⟨.str _,H,I.tok _,⟨_,rfl⟩,q⟩
theorem LD(ha:YE X a ta)(hbase:attributeBase a "upper" X.env (eval a X.env)=eval a X.env<|>J7)(hline:(ap.endLine==cp.line)=true<|>J7):YE X (.Call (.Attribute a "upper" ap) [] [] cp) (n1 upT ta):=
 ⟨bq (Dx z4g F.slot_str_upper F.type_str_upper LC ha.h hbase hline) λσ H Q ρ M QW hE ht hQ=>⟨ρ,M,_,hE,ht,λdx M1 y4 x H1 p1=>by
  obtain⟨d,hf,h1⟩:=y4;cases dx with
  |str z=>obtain⟨hc,rfl⟩:=bz hf;cases p1.rep;exact⟨rfl,z,rfl,rfl,hc.1,hc.2,hQ _ M1 h1 _ H1 ⟨p1.toPostT,.str _⟩⟩
  |_=>cases hf⟩⟩
def LE:V->C_->Hp->VK->Prop:=λx xs H Q=>∃l ss z j,x=.ref l/\xs=[.str z]/\Rd H l (.lst (List.map V.str ss))/\(ss.map tx)[j]?=some (tx z)/\(∀m<j,(ss.map tx)[m]?≠some (tx z))/\ss.length<=10000/\Q (.int (j:Nat)) H
noncomputable def isZ(z:Str):Value->Bool
 |.str a _=>a==z
 |_=>false
theorem og:∀{its:k_} {ss:j_} (_:StrsAre its ss) (m:Nat) (hm:m<its.length),∃a k,ss[m]?=some a/\its[m]=.str a k
 |_,_,.cons y t _,0,_=>⟨y,t,rfl,rfl⟩
 |_,_,.cons y t r,m+1,hm=>og r m (Nat.lt_of_succ_lt_succ hm)
theorem yR:∀{its:k_} {ss:j_} (_:StrsAre its ss),its.length=ss.length
 |_,_,.nil=>rfl
 |_,_,.cons y t r=>z8u (· + 1) (yR r)
theorem LF:MtR X "list.index" LE:=by
 intro G_ s σ H x xs v us Q I rx r h;obtain⟨l,ss,z,j,rfl,rfl,hH,hj,hno,hb,q⟩:=h;obtain⟨u,rfl,ru⟩:=df r;obtain⟨t,rfl⟩:=ru;cases rx;obtain⟨_,its,n,rv,_,e⟩:=mH I hH;have sa:=sg rv;have hlen:=yR sa;rw[z9x]at hj;have hjl:j<its.length:=by
  rw[hlen];refine Nat.lt_of_not_le λc=>?_
  rw[z5g c]at hj;cases hj
 refine z5i F.slot_list_index ⟨_,e,rfl⟩ F.entry_list_index (F.args_list_index_2 _ _) (SeqAt.list_indexAt l its.toArray n _ _ (.str z t) (isZ z) j (by simpa using hjl) ∅ ?_ ?_) ⟨e,λy hy=>?_,⟨.int _,H,I.tok _,⟨_,rfl⟩,q⟩⟩
 ·obtain⟨a,k,h1,h2⟩:=og sa j hjl
  rw[h1]at hj;have ha:a=z:=by have:=z8u mkT (z7b hj);rw[fP,fP]at this;exact this
  rw[List.getElem_toArray,h2,ha];show(z==z)=true;exact z6w z
 ·intro m hm hmj
  have hm':m<its.length:=by simpa using hm
  obtain⟨a,k,h1,h2⟩:=og sa m hm';have hn:=hno m hmj;rw[z9x,h1]at hn;rw[List.getElem_toArray,h2];show(a==z)=false;exact z8t.mpr λc=>hn (by rw[c];rfl)
 ·have hy':y∈its:=by simpa using hy
  obtain⟨m,hm,rfl⟩:=z7z hy';obtain⟨a,k,h1,h2⟩:=og sa m hm;rw[h2];exact SeqAt.EqAt.str_str a k z t
def LG{w:z8}(h:ls.idxOf w<ls.length):ls[ls.idxOf w]?=some w/\∀m<ls.idxOf w,ls[m]?≠some w:=by
 induction ls with
 |nil=>cases h
 | cons a r ih=>
   rw[List.idxOf_cons]at h ⊢;by_cases e:a=w
   ·subst e
    simp
   ·have e':(a==w)=false:=z8t.mpr e
    rw[e']at h ⊢;simp only[cond_false,z9b]at h ⊢;obtain⟨h1,h2⟩:=ih ∅;refine⟨by rw[z4d];exact h1,λm hm=>?_⟩;cases m with
    |zero=>intro c;rw[List.getElem?_cons_zero]at c;exact e (z7b c)
    |succ m=>rw[z4d];exact h2 m ∅
theorem LH(ha:YE X a ta)(hb:YE X b tb)(hbase:attributeBase a "index" X.env (eval a X.env)=eval a X.env<|>J7)(hfew:(((backTo cp (starEach [b] X.env)).all (λx=>!x.1)&&(backToKw cp (keywordEach [] X.env)).all (λx=>x.1.isSome)&&decide ([b].length+([]:n_).length+(if([]:n_).isEmpty then 0 else 1)<30))=true)<|>J7)(hline:(ap.endLine==cp.line)=true<|>J7)(hs:SE b [] X<|>J7)(hplain:BT cp [] X<|>J7):
  YE X (.Call (.Attribute a "index" ap) [b] [] cp) (sC ta tb):=
 ⟨bq (ic F.plainAttrs_list F.slot_list_index F.type_list_index LF ha.h (bP hb.h c5 hs) hbase hfew hline hs hplain) λσ H Q ρ M QW hE ht hQ=>⟨ρ,M,_,hE,ht,λdx M1 y4 x H1 p1=>by
  obtain⟨ds,ed,h1⟩:=y4;subst ed;obtain⟨l,xs,rfl,hl,hx,_⟩:=eI p1.rep;refine⟨.inl ⟨rfl,_,.inl (cW (aR _ _) hl)⟩,ρ,M1,_,hE.next p1.toPostT,h1,λdy M2 y4 vy H2 p2=>?_⟩;obtain⟨d,hf,hq⟩:=y4;cases dy with
  |str z=>obtain⟨ls,e1,e2⟩:=bind_some hf;obtain⟨⟨e3,e4⟩,rfl⟩:=bz e2;have rx:=aw (aR _ _) (aw p2.same p1.rep);obtain⟨l',xs',el,hl',hx',_⟩:=eI rx;cases el;obtain⟨ss,rfl,rfl⟩:=sh e1 hx';cases p2.rep;obtain⟨i1,i2⟩:=LG e3;exact⟨l,ss,z,_,rfl,rfl,hl',i1,i2,by simpa using e4,hQ _ M2 hq _ H2 ⟨p1.toPostT.trans p2.toPostT,.int _⟩⟩
  |_=>cases hf⟩⟩
def LJ{t:Tok}{l u:Option (Int×Tok)}{lo hi:A_}{sl:Addr}(I:L2.Inv X G_ σ H s)(hs':s.heap.IsSlice sl l u none)(ep:slicePicked z l u none=Builtin.Str.strSliceIndices lo hi 1 z.length)(h1:cM lo=true)(h2:cM hi=true)(hz:z.length<=sizeLine)(q:Q (.str (mkT (bf (tx z) lo hi))) H):
  ∃T id,typeLookup (.type T) "__getitem__"=pure (some (.builtin id))/\s.TypeIs (.str z t) T/\wpAny (model X.prog X.w) X.A (getItem (.str z t) (.ref sl)) (EP X G_ σ Q) X.xe s:=by
 refine⟨"str",_,slot_str_getitem.lookup,z4b s z t,?_⟩;refine wpAny_getItem_str_slice hs' rfl ?_;have e:=yk z h1 h2;unfold sliceMade;rw[ep];split
 ·rename_i hc
  have hl:(Builtin.Str.strSliceIndices lo hi 1 z.length).length=z.length:=by simpa using hc
  have e2 : bf (tx z) lo hi=tx z:=by
   have hl2:(bf (tx z) lo hi).length=(tx z).length:=by
    rw[<- e];have:∀i∈Builtin.Str.strSliceIndices lo hi 1 z.length,z.cps[i]?≠none:=λi hi'=>by
     rw[nU h1 h2]at hi';unfold sliceRange at hi';simp only[z8z,z7p]at hi';obtain⟨k,hk,rfl⟩:=hi';split at hk
     ·split at hk
      ·have:((min (lo.getD 0).toNat z.length:Nat)+1*(k:Int)).toNat<z.cps.size:=by have e0:z.length=z.cps.size:=rfl;rw[<- e0];ext
       rw[Array.getElem?_eq_getElem this];exact λq=>nomatch q
      ·simp at hk
     ·ext
    have fl:∀(is:z8),(∀i∈is,z.cps[i]?≠none)->(List.filterMap (λi=>z.cps[i]?) is).length=is.length:=by
     intro is
     induction is with
     |nil=>intro _;rfl
     | cons i r ih=>
       intro hh;cases ei:z.cps[i]? with
       |none=>exact absurd ei (hh i z9a)
       |some w=>rw[z6y,ei];simp[ih λj hj=>hh j (z9d _ hj)]
    rw[fl _ this,hl,bx]
   unfold bf at hl2 ⊢;rw[z7l,z8a]at hl2;by_cases h0:tx z=[]
   ·rw[h0];simp
   ·have hp:0<(tx z).length:=z4z.mpr h0
    have ed:(lo.getD 0).toNat=0:=by ext
    rw[ed,z6m,z7r ∅]
  rw[e2,fP]at q;exact⟨.str z,H,I,⟨t,rfl⟩,q⟩
 ·rw[e]
  exact⟨by rw[bx];exact z7o (yl _ _ _) (by rw[<- bx];exact hz),.str _,H,I.tok _,⟨_,rfl⟩,q⟩
def LK:V->A_->A_->Hp->VK->Prop:=λx lo hi H Q=>∃z,x=.str z/\lo=none/\hi=some (-1)/\1<=z.length/\z.length<=sizeLine/\Q (.str (mkT ((tx z).take ((tx z).length-1)))) H
def LL:SlR X LK:=by
 intro G_ s σ H x v vl vu lo hi sl Q I rx hs pl pu h;obtain⟨z,rfl,rfl,rfl,h1,hz,q⟩:=h;obtain⟨t,rfl⟩:=rx;obtain⟨l,rfl,el⟩:=nV pl;obtain⟨u,rfl,eu⟩:=nV pu;have hs':s.heap.IsSlice sl l u none:=hs;refine LJ (lo:=none) (hi:=some ((z.length-1:Nat):Int)) I hs' ?_ rfl (by simp[cM]) hz ?_
 ·unfold slicePicked
  rw[el,eu];show Builtin.Str.strSliceIndices none (some (-1)) 1 z.length=_;unfold Builtin.Str.strSliceIndices;have e1:max 0 (min (-1+(z.length:Int)) (z.length:Int))=((z.length-1:Nat):Int):=by ext
  have e2:max 0 (min (((z.length-1:Nat):Int)) (z.length:Int))=((z.length-1:Nat):Int):=by ext
  have e3:¬(((z.length-1:Nat):Int)<0):=by ext
  simp only[show(-1:Int)<0 from by decide,z4i,if_neg e3,e1,e2,show(1:Int) > 0 from by decide]
 ·have:bf (tx z) none (some ((z.length-1:Nat):Int))=(tx z).take ((tx z).length-1):=by simp[bf,bx]
  rw[this];exact q
theorem LM(ha:YE X a ta):YE X (.Subscript a (.Slice none (some (.UnaryOp .USub (.Constant (.int 1) j p3) p4)) none p2) pos) (n1 oe ta):=
 have hb:YE X (.UnaryOp .USub (.Constant (.int 1) j p3) p4) (nP (e1 eF (eC (.int 1)))):=a7 (ik ae)
 ⟨bq (kt LL ha.h me (mf hb.h)) λσ H Q ρ M QW hE ht hQ=>⟨ρ,M,_,hE,ht,λx M1 ⟨d,hd,hq⟩ vx H1 p1=>⟨ρ,M1,λy M2=>y=.int (-1)/\M2=M1,hE.next p1.toPostT,⟨.int (-1),rfl,rfl,rfl⟩,λy M2 y4 vy H2 p2=>by
  obtain⟨ey,eM⟩:=y4;subst ey eM;have rx:=aw p2.same p1.rep;cases p2.rep;refine⟨-1,rfl,?_⟩;cases x with
  |str z=>obtain⟨hc,rfl⟩:=bz hd;cases rx;exact⟨z,rfl,rfl,rfl,by rw[bx];exact hc.1,by rw[bx];exact cR ∅,hQ _ M2 hq _ H2 ⟨p1.toPostT.trans p2.toPostT,.str _⟩⟩
  |_=>cases hd⟩⟩⟩
end
end VL
namespace VL
namespace My
open PySem (Str)
open L2 (atI ixN)
local macro_rules | `(tactic| walk_at"env")=>`(tactic| (simp only[List.set_cons_zero,List.set_cons_succ,z9p,z6o,z6l,z4r,z7t,List.replicate_zero,Nat.reduceSub,Nat.reduceAdd,z7j,List.zip_nil_left,List.zip_nil_right,z5s,List.foldl_nil,bJ,bt,List.getElem?_cons_zero,z4d,z7d,z6v]))
local macro_rules | `(tactic| walk_at"side")=>`(tactic| first|assumption|exact qW ∅ (by ext)|exact GL ∅ (by ext)|exact wM (l9 ∅ ∅) (l9 ∅ ∅)|exact GN (by ext)|exact GM ∅ (l9 ∅ ∅)|exact GO ∅ ∅ ∅ (by ext)|ext)
local macro_rules | `(tactic| walk_at"run1")=>`(tactic| first
 |(with_reducible first|refine FU ?_|refine FT ?_|refine Ga ?_)|((with_reducible refine' FR ?h ?_);(case h=>exact rfl))|(with_reducible first|refine FW ?_|refine FX ?_)
 |((with_reducible refine FY ?h ?_);(case h=>walk_at"side"))|((with_reducible refine FZ ?h ?_);(case h=>walk_at"side"))|((with_reducible refine G0 ?h ?_);(case h=>walk_at"side"))|((with_reducible refine G1 ?h (λv hv=>?_));(case h=>walk_at"side");(simp only[Int.reduceToNat,Int.reducePow]at hv);(subst hv))
 |(with_reducible exact rfl)|(with_reducible first|refine G2 ?_|refine G3 ?_|refine G4 ?_|refine G6 ?_|refine G7 ?_|refine FV ?_|refine G5 ?_)
 |(with_reducible first|refine G8 ?_|refine G9 ?_|refine Gc ?_|refine Gd ?_|refine Ge ?_|refine Gf ?_|refine Gg ?_|refine Gj ?_|refine Gr ?_)
 |(with_reducible first|refine Gm ?_|refine Gn ?_|refine Go ?_|refine Gp ?_|refine Gq ?_)
 |(with_reducible first|refine Gu ?_|refine Gs ?_|refine Gv ?_|refine Gw ?_|refine Gx ?_|refine Gy ?_)|((with_reducible refine wE ?_);(try walk_at"env"))|(with_reducible first|refine Gb ?_|refine wF ?_|refine wI ?_)
 |(with_reducible first|refine GA ?_|refine GB ?_|refine wG ?_|refine wH ?_|refine Gh ?_|refine Gi ?_|refine GC ?_|refine Hi ?_)
 |(with_reducible refine GS ?_)|(with_reducible refine GT ?_)
 |((with_reducible refine GR ?h ?_);(case h=>first|exact Nat.le_of_ble_eq_true rfl|decide|(simp;done)|(simp;ext)))
 |((with_reducible refine And.intro ?h ?_);(case h=>first|exact Nat.le_of_ble_eq_true rfl|exact rfl|(with_reducible show ¬(HT.sIx _ _ _=_/\_);simp[HT.sIx];done)))|((with_reducible refine Exists.intro _ (And.intro rfl ?_)))|((with_reducible refine Exists.intro _ (And.intro (seqD_lst _) ?_)))|((with_reducible refine Exists.intro _ (And.intro (seqD_scr _) ?_)))|(with_reducible first|refine GE ?_|refine GF ?_|refine GG ?_|refine GH ?_)|((with_reducible refine' Ho ?h ?_);(case h=>exact rfl))|(with_reducible first|refine GI ?_|refine GJ ?_|refine GK ?_|refine Hg ?_|refine GW ?_|refine GX ?_|refine GY ?_|refine GZ ?_|refine GV ?_|refine Ha ?_|refine Hb ?_)
 |((with_reducible refine' nu ?h ?_);(case h=>exact rfl)))
local macro_rules | `(tactic| walk_at"run")=>`(tactic| repeat (first|walk_at"run1" | walk_at"call"))
local macro_rules|`(tactic| lia)=>`(tactic| walk_at"run")
local macro_rules|`(tactic| grind)=>`(tactic|(walk_at"env";walk_at"run"))
local macro_rules | `(tactic| walk_at"all")=>`(tactic| (walk_at"run";try ((with_reducible first|refine au (λh=>?_) (λh=>?_)|refine gU (λh=>?_) (λh=>?_))<;>walk_at"all")))
local macro_rules | `(tactic| walk_at"leaf")=>`(tactic| first|ext|exact z8u D.bl (z5k.mpr ∅)|exact z8u D.bl (z8h ∅).symm|exact z8u D.bl (z8d ∅).symm)
local macro_rules | `(tactic| walk_at"n1")=>`(tactic| first
 |(with_reducible first|refine IN ?_|refine IO ?_|refine IP ?_|refine IQ ?_|refine IR ?_|refine IS ?_)
 |(with_reducible first|refine IU ?_|refine IV ?_|refine IW ?_|refine IY ?_|refine IZ ?_)
 |(with_reducible first|refine Ja ?_|refine Jb ?_|refine Jc ?_|refine Jd ?_|refine Ji ?_|refine Jj ?_)
 |(with_reducible first|refine Jk ?_|refine Jm ?_|refine Jn ?_|refine Jo ?_|refine Jp ?_|refine Jq ?_)
 |(with_reducible first|refine Jr ?_|refine Js ?_|refine Jt ?_|refine Ju ?_|refine Jv ?_)
 |(with_reducible first|refine Jw ?_|refine Jx ?_|refine Jy ?_|refine Jz ?_|refine JC ?_|refine JD ?_|refine JH ?_|refine JG ?_|refine JJ ?_|refine JK ?_|refine JL ?_|refine JM ?_)
 |(with_reducible first|refine JN ?_|refine JP ?_|refine JQ ?_|refine JR ?_|refine JU ?_|refine xW ?_|refine Kf ?_)
 |(with_reducible first|refine Ka ?_|refine Kb ?_|refine Kc ?_|refine Kd ?_|refine Ke ?_)
 |((with_reducible refine xX ?_);(try walk_at"env"))|(with_reducible refine xY ?_))
local macro_rules | `(tactic| walk_at"call")=>`(tactic| walk_at"n1")
local macro_rules | `(tactic| walk_at"call")=>`(tactic| first
 |((with_reducible refine' Jh ?h1 ?h2 ?h3 ?_);(case h1=>exact rfl);(case h2=>first|assumption|exact aB);(case h3=>exact rfl))
 |((with_reducible refine' Jg ?h1 ?h2 ?h3 ?_);(case h1=>exact rfl);(case h2=>first|assumption|exact aB);(case h3=>exact rfl))
 |((with_reducible refine' Jl ?h1 ?h2 ?_);(case h1=>exact rfl);(case h2=>first|assumption|exact aB))
 |((with_reducible refine' JV ?h1 ?h2 ?_);(case h1=>exact rfl);(case h2=>first|assumption|exact aB))
 |((with_reducible refine' JY ?h1 ?h2 ?h3 ?_);(case h1=>exact rfl);(case h2=>first|assumption|exact aB);(case h3=>assumption))
 |((with_reducible refine' JZ ?h1 ?h2 ?h3 ?_);(case h1=>exact rfl);(case h2=>first|assumption|exact aB);(case h3=>assumption)))
local macro_rules | `(tactic| walk_at"call")=>`(tactic| first
 |(with_reducible first|refine Kl ?_|refine Km ?_|refine Kn ?_|refine Kk ?_|refine Kr ?_|refine Je ?_)
 |((with_reducible refine Ki ?h ?_);(case h=>assumption)))
variable {ρ:ah}{M M' M3:Sto}{Q:QE}{ta:NTA}{th J5 J6 p u:D}{E:EndN}{EX:QX}{xa:NXA}{C a j n CD o S J0 J1 num fa ra dk pl a2:Nat}{ns row xs H_:z9}{T:NTX}{ds0 off:E_}{J3 l hd:z8}{i f r s x c last scale J4 due:Int}{t I_:List z9}{b:Bool}{z w wv:Str}{ls nm nl:List z8}{x6 x7 x8:F_}{body:D->NTS}
def LN:E_->F_:=mkF false 3 3 (br (dh (e1 (iD "int") (a5 0)) (dh (mF (e1 (iD "bool") (a5 0))) (e3c leI leI (a5 1) (a5 0) (a5 2)))))
abbrev ft:E_->F_:=scF LN
def LO:E_->F_:=mkF false 2 4 (bA (bV 2 (eC (.int 1))) (bA (kX 3 (aa (a5 1) (aj)) (bV 2 (e2 dg (a5 2) (a5 0)))) (br (a5 2))))
abbrev oh:E_->F_:=scF LO
def LP:E_->F_:=mkF false 1 1 (br (dh (e3c leI leI (eC (.int 1)) (eA (ar bC) (aa (a5 0) (aj))) (eC (.int 6))) (eA (ar (gP λbs=>bs.all id)) (aa (bR 1 [] [0] un1 (dY (a5 0)) bX (eA ft (aa (a5 0) (aa (eC (.int 1)) (aa (eC (.int 1000000)) (aj)))))) (aj)))))
abbrev oi:E_->F_:=scF LP
def LQ:E_->F_:=mkF false 1 1 (br (eA (ar f9) (aa (a5 0) (aj))))
abbrev oj:E_->F_:=scF LQ
def LR:E_->F_:=mkF false 2 2 (bA (sIf (eT (e2 neD (eA (ar bC) (aa (a5 0) (aj))) (e2 bL (a5 1) (eC (.int 1))))) (br (eC (.bl false))) (mL)) (br (dh (eA (ar (gP λbs=>bs.all id)) (aa (bR 1 [] [0] un1 (dY (a5 0)) bX (eA ft (aa (a5 0) (aa (eC (.int 0)) (aa (eC (.int 1000)) (aj)))))) (aj))) (e2 gtI (eA oj (aa (a5 0) (aj))) (eC (.int 0))))))
abbrev ol:E_->F_:=scF LR
def LS:E_->F_:=mkF false 2 2 (br (dh (e2 leI (eA (ar bC) (aa (a5 0) (aj))) (eC (.int 8))) (eA (ar (gP λbs=>bs.all id)) (aa (bR 1 [1] [0] un1 (dY (a5 0)) bX (eA ol (aa (a5 0) (aa (a5 1) (aj))))) (aj)))))
abbrev sD:E_->F_:=scF LS
def LT:E_->F_:=mkF false 3 3 (br (dh (eA ft (aa (a5 0) (aa (eC (.int 0)) (aa (eC (.int 10)) (aj))))) (dh (eA oi (aa (a5 1) (aj))) (eA sD (aa (a5 2) (aa (eA (ar bC) (aa (a5 1) (aj))) (aj)))))))
abbrev sE:E_->F_:=scF LT
def LU:E_->F_:=mkF true 2 4 (bA (bV 2 (c8 (aa (a5 1) (aj)))) (bA (nj 3 (a5 0) (kU 2 (e2 dg (e2 ixD (a5 2) (e1 eF (eC (.int 1)))) (eA oj (aa (a5 3) (aj)))))) (br (e1 qK (a5 2)))))
abbrev lJ:E_->F_:=LU
def LV:E_->F_:=mkF false 3 3 (br (eA (ar f9) (aa (bR 2 [] [0,1] (unT 2) (l4 (a5 0) (e2 dP (a5 1) (c8 (aa (a5 2) (aj))))) bX (e2 dg (a5 0) (a5 1))) (aj))))
abbrev sF:E_->F_:=scF LV
def LW:E_->F_:=mkF false 4 4 (br (e2 bL (e2 dg (a5 0) (a5 1)) (e2 ixD (a5 2) (e2 cX (a5 3) (eC (.int 1))))))
abbrev om:E_->F_:=scF LW
def LX:E_->F_:=mkF false 4 4 (bA (sIf (eT (e2 eqD (a5 3) (eC (.int 0)))) (br (e2 ixD (a5 2) (a5 3))) (mL)) (br (eA (dj ff) (aa (e2 ixD (a5 2) (a5 3)) (aa (eA om (aa (a5 0) (aa (a5 1) (aa (a5 2) (aa (a5 3) (aj)))))) (aj))))))
abbrev sG:E_->F_:=scF LX
def LY:E_->F_:=mkF false 5 5 (br (eA sF (aa (a5 1) (aa (bR 1 [2,3,4] [0] un1 (dY (a5 0)) bX (eA sG (aa (a5 0) (aa (a5 1) (aa (a5 2) (aa (a5 3) (aj))))))) (aa (e2 ixD (a5 3) (a5 4)) (aj))))))
abbrev sH:E_->F_:=scF LY
def LZ:E_->F_:=mkF true 4 4 (br (bR 1 [0,1,2,3] [0] un1 (iR1 (aa (eA (ar bC) (aa (a5 3) (aj))) (aj))) bX (eA sH (aa (a5 1) (aa (a5 2) (aa (a5 3) (aa (a5 4) (aa (a5 0) (aj)))))))))
abbrev sI:E_->F_:=LZ
def Ma:E_->F_:=mkF true 4 7 (bA (bV 4 (eA lJ (aa (a5 1) (aa (a5 2) (aj))))) (bA (bV 5 (c8 (aa (e1 gh (a5 3)) aj))) (bA (nk 6 (aa (e2 cX (eA (ar bC) (aa (a5 1) (aj))) (eC (.int 1))) (aa (e1 eF (eC (.int 1))) (aa (e1 eF (eC (.int 1))) (aj)))) (l6 5 (eA sI (aa (a5 0) (aa (e2 ixD (a5 1) (a5 6)) (aa (e2 ixD (a5 4) (e2 bL (a5 6) (eC (.int 1)))) (aa (e2 ixD (a5 5) (e1 eF (eC (.int 1)))) (aj)))))))) (l7 5))))
abbrev on:E_->F_:=Ma
def Mb:E_->F_:=mkF false 4 4 (br (dh (e2 gtI (a5 3) (eC (.int 0))) (e2 geI (eA om (aa (a5 0) (aa (a5 1) (aa (a5 2) (aa (a5 3) (aj)))))) (e2 ixD (a5 2) (a5 3)))))
abbrev sJ:E_->F_:=scF Mb
def Mc:E_->F_:=mkF false 3 3 (br (e1 eF (e2 jm (e2 cX (e2 ixD (a5 1) (e2 cX (a5 2) (eC (.int 1)))) (e2 ixD (a5 1) (a5 2))) (a5 0))))
abbrev sK:E_->F_:=scF Mc
def Md:E_->F_:=mkF false 1 6 (bA (bV 1 (e2 ixD (a5 0) (eC (.int 0)))) (bA (bV 2 (e2 ixD (a5 0) (eC (.int 1)))) (bA (bV 3 (e2 ixD (a5 0) (eC (.int 2)))) (bA (bV 4 (e2 ixD (a5 0) (eC (.int 3)))) (bA (bV 5 (dh (eA ft (aa (a5 3) (aa (eC (.int 1)) (aa (eC (.int 1000)) (aj))))) (eA ft (aa (a5 2) (aa (eC (.int 0)) (aa (a5 3) (aj))))))) (br (dh (eA ft (aa (a5 1) (aa (eC (.int 0)) (aa (eC (.int 10)) (aj))))) (dh (a5 5) (eA ft (aa (a5 4) (aa (eC (.int 0)) (aa (eC (.int 1000000)) (aj)))))))))))))
abbrev oo:E_->F_:=scF Md
def Me:E_->F_:=mkF true 3 5 (bA (bV 3 (e2 dP (bR 1 [2] [0] un1 (dY (a5 0)) bX (e2 dg (a5 0) (a5 1))) (c8 (aa (eC (.int 0)) (aj))))) (bA (bV 4 (e2 dP (c8 (aa (eC (.int 0)) (aj))) (bR 1 [1] [0] un1 (dY (a5 0)) bX (e2 dg (a5 0) (a5 1))))) (br (bR 2 [] [0,1] (unT 2) (l4 (a5 3) (a5 4)) bX (e2 bL (a5 0) (a5 1))))))
abbrev sL:E_->F_:=Me
def Mf:E_->F_:=mkF true 3 5 (bA (bV 3 (c8 (aa (eC (.int 1)) (aj)))) (bA (kX 4 (aa (a5 0) (aj)) (bV 3 (eA sL (aa (a5 3) (aa (a5 1) (aa (e2 cX (a5 2) (a5 1)) (aj))))))) (br (eL (a5 3)))))
abbrev sM:E_->F_:=Mf
def Mg:E_->F_:=mkF false 2 4 (bA (bV 2 (e2 ixD (a5 1) (eC (.int 0)))) (bA (bV 3 (eA sM (aa (a5 0) (aa (e2 ixD (a5 1) (eC (.int 1))) (aa (e2 ixD (a5 1) (eC (.int 2))) (aj)))))) (br (eA (ar f9) (aa (bR 2 [2] [0,1] (unT 2) (l3 (a5 3)) bX (e2 dg (a5 1) (eA (dj ff) (aa (e2 cX (a5 0) (a5 2)) (aa (eC (.int 0)) (aj)))))) (aj))))))
abbrev sO:E_->F_:=scF Mg
def Mh:E_->F_:=mkF false 3 4 (bA (bV 3 (e2 ixD (a5 2) (eC (.int 3)))) (br (e2 dg (e2 dg (e1 eF (a5 3)) (eA sO (aa (a5 0) (aa (a5 2) (aj))))) (eA oh (aa (e2 ixD (a5 2) (eC (.int 2))) (aa (a5 1) (aj)))))))
abbrev sP:E_->F_:=scF Mh
def Mi:E_->F_:=mkF true 2 2 (br (bR 1 [0,1] [0] un1 (iR1 (aa (e2 bL (a5 0) (eC (.int 1))) (aj))) bX (eA sP (aa (e2 cX (a5 1) (a5 0)) (aa (a5 0) (aa (a5 2) (aj)))))))
abbrev oq:E_->F_:=Mi
def Mj:E_->F_:=mkF false 2 2 (br (eA oh (aa (e2 ixD (a5 1) (eC (.int 2))) (aa (a5 0) (aj)))))
abbrev ot:E_->F_:=scF Mj
def Ml:E_->F_:=mkF false 3 3 (br (dh (e3c leI leI (eC (.int 1)) (eA (ar iM) (aa (a5 0) (aj))) (a5 2)) (eA (ar (gP λbs=>bs.all id)) (aa (bR 1 [1] [0] un1 (nT (a5 0)) bX (e2 inT (a5 0) (a5 1))) (aj)))))
abbrev iR:E_->F_:=scF Ml
def Mm:E_->F_:=mkF false 1 1 (br (eIf (eY (a5 0)) (eC (.str "yes")) (eC (.str "no"))))
abbrev iS:E_->F_:=scF Mm
def Mn:E_->F_:=mkF false 1 1 (br (eIf (eT (e1 cz (a5 0))) (eC (.str "-")) (eA (ar b8) (aa (a5 0) (aj)))))
abbrev sQ:E_->F_:=scF Mn
def Mo:E_->F_:=mkF false 2 3 (bA (mS 2 (eSl (a5 0) (dF (a5 1)) (dF (e2 bL (a5 1) (eC (.int 1))))) (br (a5 2))) (br (eC (.int 0))))
abbrev ou:E_->F_:=scF Mo
def Mp:E_->F_:=mkF false 1 7 (bA (mR [1,2,3,4] (a5 0)) (bA (bV 5 (eA ot (aa (a5 1) (aa (a5 4) (aj))))) (bA (bV 6 (e2 ixD (e2 ixD (eA on (aa (e1 gh (a5 2)) (aa (bR 1 [] [0] un1 (dY (a5 3)) bX (e1 gh (a5 0))) (aa (a5 5) (aa (eA oq (aa (a5 1) (aa (a5 4) (aj)))) (aj)))))) (eC (.int 0))) (a5 1))) (br (e2 bH (e2 bH (eA (ar b8) (aa (a5 6) (aj))) (eC (.str " of "))) (eA (ar b8) (aa (e2 ixD (eA lJ (aa (a5 3) (aa (a5 5) (aj)))) (eC (.int 0))) (aj))))))))
abbrev sR:E_->F_:=scF Mp
noncomputable abbrev c_:j_:=["seats","fares","rule","scales","table","told","sold","paid","dues","latest"]
noncomputable abbrev d_:j_:=["places","fares","rows","rule","office"]
def fU(b_:Nat)(a_:Nat):NTF:=mkN 1 1 (aJ (nIf (ba (n1 cz (aN a_ c_ 8 (nP (a5 0))))) (aN a_ c_ 7 (nP (a5 0))) (n2 cX (aN a_ c_ 7 (nP (a5 0))) (aN a_ c_ 8 (nP (a5 0))))))
def ow(b_:Nat)(a_:Nat):NTF:=mkN 1 1 (aJ (n2 eqD (aN a_ c_ 5 (nP (a5 0))) (n2 cX (ci (ar bC) (a8 (aN a_ c_ 3 (nP (a5 0))) (ag))) (nP (eC (.int 1))))))
def fV(b_:Nat)(a_:Nat):NTX:=mkX 2 2 (ai (aG (gq (fJ (bG a_ c_ (ow b_ a_) (nP (a5 0)) ag))) (cD "Early") (sN)) (ai (aG (ba (n1 e7 (aN a_ c_ 8 (nP (a5 0))))) (cD "Done") (sN)) (ai (aG (gq (fJ (jx ft (a8 (nP (a5 1)) (a8 (nP (eC (.int 0))) (a8 (aN a_ c_ 6 (nP (a5 0))) (ag))))))) (cD "TooMany") (sN)) (ai (gY a_ c_ 8 (nP (a5 0)) (n2 dg (n2 ixD (aN a_ c_ 2 (nP (a5 0))) (nP (eC (.int 3)))) (ci (dj ff) (a8 (n2 cX (nP (a5 1)) (n2 ixD (aN a_ c_ 2 (nP (a5 0))) (nP (eC (.int 0))))) (a8 (nP (eC (.int 0))) (ag)))))) (aJ (bG a_ c_ (fU b_ a_) (nP (a5 0)) ag))))))
def gu(b_:Nat)(a_:Nat):NTF:=mkN 1 1 (aJ (n2 cX (aN a_ c_ 0 (nP (a5 0))) (aN a_ c_ 6 (nP (a5 0)))))
def gv(b_:Nat)(a_:Nat):NTF:=mkN 1 1 (aJ (aN a_ c_ 5 (nP (a5 0))))
def ox(b_:Nat)(a_:Nat):NTX:=mkX 2 2 (ai (aG (nPB (eT (e1 cz (a5 1)))) (aJ (nP (eC .non))) (sN)) (ai (aG (gq (fJ (jx ft (a8 (nP (a5 1)) (a8 (nP (eC (.int 0))) (a8 (n2 cX (ci (ar bC) (a8 (aN a_ c_ 1 (nP (a5 0))) (ag))) (nP (eC (.int 1)))) (ag))))))) (cD "NoClass") (sN)) (aJ (n2 ixD (aN a_ c_ 1 (nP (a5 0))) (nP (a5 1))))))
def oy(b_:Nat)(a_:Nat):NTF:=mkN 2 3 (ai (aI 2 (n2 bL (aN a_ c_ 5 (nP (a5 0))) (nP (eC (.int 1))))) (aJ (lm (nP (e1 e7 (a5 1))) (jx sJ (a8 (nP (a5 1)) (a8 (n2 ixD (aN a_ c_ 3 (nP (a5 0))) (nP (a5 2))) (a8 (n2 ixD (aN a_ c_ 4 (nP (a5 0))) (nP (a5 2))) (a8 (bG a_ c_ (gu b_ a_) (nP (a5 0)) ag) (ag)))))))))
def sS(b_:Nat)(a_:Nat):NTF:=mkN 1 2 (ai (aG (ba (n2 eqD (bG a_ c_ (gu b_ a_) (nP (a5 0)) ag) (nP (eC (.int 0))))) (aJ (nP (eC .non))) (sN)) (ai (aI 1 (n2 bL (aN a_ c_ 5 (nP (a5 0))) (nP (eC (.int 1))))) (aJ (jx sK (a8 (n2 ixD (aN a_ c_ 3 (nP (a5 0))) (nP (a5 1))) (a8 (n2 ixD (aN a_ c_ 4 (nP (a5 0))) (nP (a5 1))) (a8 (bG a_ c_ (gu b_ a_) (nP (a5 0)) ag) (ag))))))))
def fu(b_:Nat)(a_:Nat):NTX:=mkX 2 4 (ai (aG (fJ (bG a_ c_ (ow b_ a_) (nP (a5 0)) ag)) (cD "Over") (sN)) (ai (iH 2 (cK a_ c_ (ox b_ a_) (nP (a5 0)) (a8 (nP (a5 1)) (ag)))) (ai (aI 3 (bG a_ c_ (oy b_ a_) (nP (a5 0)) (a8 (nP (a5 2)) (ag)))) (ai (gY a_ c_ 9 (nP (a5 0)) (jv (a8 (aN a_ c_ 5 (nP (a5 0))) (a8 (bG a_ c_ (gu b_ a_) (nP (a5 0)) ag) (a8 (bG a_ c_ (sS b_ a_) (nP (a5 0)) ag) (a8 (nP (a5 2)) (ag))))))) (ai (gY a_ c_ 5 (nP (a5 0)) (n2 bL (aN a_ c_ 5 (nP (a5 0))) (nP (eC (.int 1))))) (ai (aG (nPB (eY (a5 3))) (ai (gY a_ c_ 6 (nP (a5 0)) (n2 bL (aN a_ c_ 6 (nP (a5 0))) (nP (eC (.int 1))))) (gY a_ c_ 7 (nP (a5 0)) (n2 bL (aN a_ c_ 7 (nP (a5 0))) (nP (a5 2))))) (sN)) (aJ (nP (a5 3)))))))))
def jQ(b_:Nat)(a_:Nat):NTX:=mkX 1 1 (ai (aG (ba (n1 cz (aN a_ c_ 9 (nP (a5 0))))) (cD "Early") (sN)) (aJ (aN a_ c_ 9 (nP (a5 0)))))
def fW(b_:Nat)(a_:Nat):NTX:=mkX 3 3 (ai (aG (nPB (bOr (eT (e2 eqD (a5 1) (eC (.str "ask")))) (eT (e2 eqD (a5 1) (eC (.str "quiet")))))) (eK (xIx (nP (c8 (aa (eC (.str "no")) (aa (eC (.str "yes")) (aj))))) (x1 qR (cK a_ c_ (fu b_ a_) (nP (a5 0)) (a8 (nP (a5 2)) (ag)))))) (sN)) (ai (aG (nPB (eT (e2 eqD (a5 1) (eC (.str "came"))))) (eK (x1 b8 (cK a_ c_ (fV b_ a_) (nP (a5 0)) (a8 (nP (a5 2)) (ag))))) (sN)) (ai (aG (nPB (eT (e2 eqD (a5 1) (eC (.str "left"))))) (aJ (ci (ar b8) (a8 (bG a_ c_ (gu b_ a_) (nP (a5 0)) ag) (ag)))) (sN)) (ai (aG (nPB (eT (e2 eqD (a5 1) (eC (.str "turns"))))) (aJ (ci (ar b8) (a8 (bG a_ c_ (gv b_ a_) (nP (a5 0)) ag) (ag)))) (sN)) (ai (aG (nPB (eT (e2 eqD (a5 1) (eC (.str "coins"))))) (aJ (ci (ar b8) (a8 (bG a_ c_ (fU b_ a_) (nP (a5 0)) ag) (ag)))) (sN)) (eK (x1 (eQ (.str " ")) (o3 [] (cK a_ c_ (jQ b_ a_) (nP (a5 0)) ag) (nP (eIf (eT (e1 e7 (a5 0))) (eA (ar b8) (aa (a5 0) (aj))) (eC (.str "-"))))))))))))
def oz(b_:Nat)(a_:Nat):NTF:=mkN 1 2 (ai (aI 1 (gX (a8 (eN "NoClass" (nP (a5 0))) (a8 (eN "Over" (nP (a5 0))) (a8 (eN "Early" (nP (a5 0))) (a8 (eN "Done" (nP (a5 0))) (ag))))))) (ai (aI 1 (n2 dP (nP (a5 1)) (gX (a8 (eN "TooMany" (nP (a5 0))) (a8 (eN "NoRow" (nP (a5 0))) (a8 (eN "Twice" (nP (a5 0))) (a8 (eN "NoTurn" (nP (a5 0))) (ag)))))))) (aJ (n2 dP (nP (a5 1)) (gX (a8 (eN "Full" (nP (a5 0))) (a8 (eN "NoSale" (nP (a5 0))) (a8 (n1 Kg (rA (nP (a5 0)))) (ag)))))))))
def i0(b_:Nat)(a_:Nat):NTF:=mkN 3 6 (ai (aI 3 (nP (eC .non))) (ai (aI 4 (nP (eC .non))) (ai (nF 3 5 (iH 4 (hG (fW b_ a_) (a8 (nP (a5 0)) (a8 (nP (a5 1)) (a8 (nP (a5 2)) (ag))))))) (ai (aG (nPB (eT (e1 cz (a5 3)))) (aJ (nP (a5 4))) (sN)) (aJ (aF (oz b_ a_) (a8 (nP (a5 3)) (ag))))))))
def bB(b_:Nat)(a_:Nat):NTF:=mkN 2 3 (ai (aI 2 (nDg ["rest","mixed","count"] 0 (nP (a5 0)))) (ai (aG (gq (fJ (nDg ["rest","mixed","count"] 1 (nP (a5 0))))) (ai (lq ["rest","mixed","count"] 0 (nP (a5 0)) (nP (e2 jm (a5 2) (a5 1)))) (aJ (nP (e2 eE (a5 2) (a5 1))))) (sN)) (ai (lq ["rest","mixed","count"] 2 (nP (a5 0)) (n2 bL (nDg ["rest","mixed","count"] 2 (nP (a5 0))) (nP (eC (.int 1))))) (ai (aI 2 (n2 bL (nP (e2 eE (a5 2) (eC (.int 1000000000039)))) (n2 dg (nP (eC (.int 60013))) (nDg ["rest","mixed","count"] 2 (nP (a5 0)))))) (ai (aI 2 (nP (e2 eE (e2 dg (a5 2) (e2 bL (a5 2) (eC (.int 17)))) (eC (.int 1000000000061))))) (ai (aI 2 (nP (e2 eE (e2 dg (a5 2) (a5 2)) (eC (.int 999999999989))))) (ai (lq ["rest","mixed","count"] 0 (nP (a5 0)) (nP (a5 2))) (aJ (nP (e2 eE (e2 jm (a5 2) (eC (.int 5))) (a5 1)))))))))))
def sT(b_:Nat)(a_:Nat):NTF:=mkN 2 14 (ai (aI 2 (nP (eC (.str "abcdefghijklmnopqrstuvwxyz")))) (ai (aI 3 (nP (c8 (aa (eC (.str "class")) (aa (eC (.str "turn")) (aa (eC (.str "rule")) (aa (eC (.str "open")) (aa (eC (.str "ask")) (aa (eC (.str "quiet")) (aa (eC (.str "came")) (aa (eC (.str "left")) (aa (eC (.str "turns")) (aa (eC (.str "coins")) (aa (eC (.str "why")) (aa (eC (.str "worth")) (aa (eC (.str "no")) (aj))))))))))))))))) (ai (aI 4 (n1 (eQ (.str "")) (jz [0,2] (a8 (nP (eC (.int 7))) (ag)) (n2 ixT (nP (a5 2)) (aF (bB b_ a_) (a8 (nP (a5 1)) (a8 (nP (eC (.int 26))) (ag)))))))) (ai (aI 5 (aF (bB b_ a_) (a8 (nP (a5 0)) (a8 (nP (eC (.int 4))) (ag))))) (ai (aI 6 (aF (bB b_ a_) (a8 (nP (a5 0)) (a8 (nP (eC (.int 26))) (ag))))) (ai (aI 7 (sw (nP (a5 4)) (aF (bB b_ a_) (a8 (nP (a5 0)) (a8 (nP (eC (.int 8))) (ag)))))) (ai (aI 8 (aF (bB b_ a_) (a8 (nP (a5 0)) (a8 (nP (e2 bL (eA (ar iM) (aa (a5 7) (aj))) (eC (.int 1)))) (ag))))) (ai (aI 9 (fk (c8 (aj)))) (ai (nB 10 (a8 (nP (a5 1)) (ag)) (ai (aI 11 (nP (e2 ixT (a5 2) (e2 eE (e2 bL (a5 6) (e2 jm (a5 10) (eC (.int 8)))) (eC (.int 26)))))) (ai (aI 12 (nP (e2 bH (e2 bH (fq (a5 7) (eJ) (dF (a5 8))) (e2 ixT (a5 2) (e2 eE (e2 bL (a5 6) (a5 10)) (eC (.int 26))))) (fq (a5 7) (dF (a5 8)) (eJ))))) (gZ (nP (a5 9)) (nP (e2 ixD (c8 (aa (e2 bH (a5 11) (fq (a5 4) (eJ) (dF (e2 eE (a5 10) (eC (.int 8)))))) (aa (e2 bH (fq (a5 4) (dF (e2 cX (eC (.int 7)) (e2 eE (a5 10) (eC (.int 8))))) (eJ)) (a5 11)) (aa (a5 12) (aa (a5 12) (aj)))))) (a5 5))))))) (ai (aI 13 (n2 ixD (nP (a5 3)) (aF (bB b_ a_) (a8 (nP (a5 0)) (a8 (nP (eC (.int 13))) (ag)))))) (ai (aG (ll (ba (n2V iF (nP (a5 13)) (nP (a5 9)))) (ba (n2 eqD (aF (bB b_ a_) (a8 (nP (a5 0)) (a8 (nP (eC (.int 2))) (ag)))) (nP (eC (.int 0)))))) (lr (nP (a5 9)) (aF (bB b_ a_) (a8 (nP (a5 0)) (a8 (nP (a5 1)) (ag)))) (nP (a5 13))) (sN)) (nz 9))))))))))))
def sU(b_:Nat)(a_:Nat):NTF:=mkN 1 1 (ai (db b_ (d_.take 0) "places" (nP (a5 0)) (sk)) (ai (db b_ (d_.take 1) "fares" (nP (a5 0)) (jw ag)) (ai (db b_ (d_.take 2) "rows" (nP (a5 0)) (jw ag)) (ai (db b_ (d_.take 3) "rule" (nP (a5 0)) (nP (eC .non))) (db b_ (d_.take 4) "office" (nP (a5 0)) (nP (eC .non)))))))
def lK(b_:Nat)(a_:Nat):NTX:=mkX 5 6 (ai (aG (gq (fJ (rm sE (a8 (nP (a5 1)) (a8 (nP (a5 2)) (a8 (nP (a5 3)) (ag))))))) (cD "NoSale") (sN)) (ai (aG (nPB (fD (eY (eA oo (aa (a5 4) (aj)))))) (cD "NoSale") (sN)) (ai (aI 5 (nP (eA ot (aa (a5 1) (aa (a5 4) (aj)))))) (ai (db a_ (c_.take 0) "seats" (nP (a5 0)) (nP (a5 1))) (ai (db a_ (c_.take 1) "fares" (nP (a5 0)) (rq (nP (a5 2)))) (ai (db a_ (c_.take 2) "rule" (nP (a5 0)) (nP (a5 4))) (ai (db a_ (c_.take 3) "scales" (nP (a5 0)) (rn lJ (a8 (nP (a5 3)) (a8 (nP (a5 5)) (ag))))) (ai (db a_ (c_.take 4) "table" (nP (a5 0)) (rp on (a8 (nP (a5 2)) (a8 (nP (a5 3)) (a8 (nP (a5 5)) (a8 (nP (eA oq (aa (a5 1) (aa (a5 4) (aj))))) (ag))))))) (ai (db a_ (c_.take 5) "told" (nP (a5 0)) (nP (eC (.int 0)))) (ai (db a_ (c_.take 6) "sold" (nP (a5 0)) (nP (eC (.int 0)))) (ai (db a_ (c_.take 7) "paid" (nP (a5 0)) (nP (eC (.int 0)))) (ai (db a_ (c_.take 8) "dues" (nP (a5 0)) (nP (eC .non))) (db a_ (c_.take 9) "latest" (nP (a5 0)) (nP (eC .non)))))))))))))))
def sV(b_:Nat)(a_:Nat):NTX:=mkX 1 2 (ai (aI 1 (fk (e1 (λx=>nS x (.str " ")) (a5 0)))) (ai (aG (ba (n2V inD (nP (eC (.str ""))) (nP (a5 1)))) (cD "NoRow") (sN)) (aJ (nP (a5 1)))))
def oA(b_:Nat)(a_:Nat):NTF:=mkN 1 1 (aJ (jv (a8 (n2 ixD (n2 ixD (aN a_ c_ 4 (nP (a5 0))) (nP (eC (.int 0)))) (aN a_ c_ 0 (nP (a5 0)))) (a8 (n2 ixD (aN a_ c_ 3 (nP (a5 0))) (nP (eC (.int 0)))) (ag)))))
def e9(b_:Nat)(a_:Nat):NTX:=mkX 2 2 (ai (aG (nPB (eT (e2 eqD (a5 1) (eC (.str "quiet"))))) (eK (nZ iS (gt (cK a_ c_ (fu b_ a_) (aN b_ d_ 4 (nP (a5 0))) (a8 (nP (eC .non)) (ag))) (hZ)))) (sN)) (ai (aG (nPB (eT (e2 eqD (a5 1) (eC (.str "left"))))) (aJ (ci (ar b8) (a8 (bG a_ c_ (gu b_ a_) (aN b_ d_ 4 (nP (a5 0))) ag) (ag)))) (sN)) (ai (aG (nPB (eT (e2 eqD (a5 1) (eC (.str "turns"))))) (aJ (ci (ar b8) (a8 (bG a_ c_ (gv b_ a_) (aN b_ d_ 4 (nP (a5 0))) ag) (ag)))) (sN)) (ai (aG (nPB (eT (e2 eqD (a5 1) (eC (.str "coins"))))) (aJ (ci (ar b8) (a8 (bG a_ c_ (fU b_ a_) (aN b_ d_ 4 (nP (a5 0))) ag) (ag)))) (sN)) (ai (aG (nPB (eT (e2 eqD (a5 1) (eC (.str "why"))))) (eK (x1 (eQ (.str " ")) (o3 [] (cK a_ c_ (jQ b_ a_) (aN b_ d_ 4 (nP (a5 0))) ag) (nP (eA sQ (aa (a5 0) (aj))))))) (sN)) (ai (aG (nPB (eT (e2 eqD (a5 1) (eC (.str "worth"))))) (aJ (n1 (eQ (.str " of ")) (sr [] (bG a_ c_ (oA b_ a_) (aN b_ d_ 4 (nP (a5 0))) ag) (nP (eA (ar b8) (aa (a5 0) (aj))))))) (sN)) (cD "NoRow")))))))
def jR(b_:Nat)(a_:Nat):NTX:=mkX 2 2 (ai (aG (ba (nY (nP (a5 1)) (aN b_ d_ 0 (nP (a5 0))))) (jL "NoClass" (a5 1)) (sN)) (aJ (sm (aN b_ d_ 0 (nP (a5 0))) (nP (a5 1)))))
def iT(b_:Nat)(a_:Nat):NTX:=mkX 1 1 (ai (aG (nPB (bOr (fD (eY (eA iR (aa (a5 0) (aa (eC (.str "0123456789")) (aa (eC (.int 7)) (aj))))))) (eZ (eT (e2 eqD (e2 ixT (a5 0) (eC (.int 0))) (eC (.str "0")))) (eT (e2 neD (a5 0) (eC (.str "0"))))))) (jL "NoRow" (a5 0)) (sN)) (aJ (nP (eA (ar jK) (aa (a5 0) (aj))))))
def jS(b_:Nat)(a_:Nat):NTX:=mkX 3 3 (ai (aG (nPB (eZ (eT (e2 eqD (a5 1) (eC (.str "ask")))) (eT (e2 eqD (eA (ar bC) (aa (a5 2) (aj))) (eC (.int 1)))))) (eK (nZ iS (gt (iO a_ c_ (fu b_ a_) (aN b_ d_ 4 (nP (a5 0))) (gt (cK b_ d_ (jR b_ a_) (nP (a5 0)) (a8 (nP (e2 ixD (a5 2) (eC (.int 0)))) (ag))) (hZ))) (hZ)))) (sN)) (ai (aG (nPB (eZ (eT (e2 eqD (a5 1) (eC (.str "came")))) (eT (e2 eqD (eA (ar bC) (aa (a5 2) (aj))) (eC (.int 1)))))) (eK (x1 b8 (iO a_ c_ (fV b_ a_) (aN b_ d_ 4 (nP (a5 0))) (gt (hG (iT b_ a_) (a8 (nP (e2 ixD (a5 2) (eC (.int 0)))) (ag))) (hZ))))) (sN)) (ai (aG (nPB (eT (e2 gtI (eA (ar bC) (aa (a5 2) (aj))) (eC (.int 0))))) (cD "NoRow") (sN)) (eK (cK b_ d_ (e9 b_ a_) (nP (a5 0)) (a8 (nP (a5 1)) (ag)))))))
def sW(b_:Nat)(a_:Nat):NTX:=mkX 3 3 (ai (aG (ba (nX (nP (a5 1)) (aN b_ d_ 0 (nP (a5 0))))) (wV) (sN)) (ai (aG (ba (n2 gtI (ci (ar bC) (a8 (aN b_ d_ 2 (nP (a5 0))) (ag))) (nP (eC (.int 0))))) (cD "NoTurn") (sN)) (ai (aG (ba (n2 eqD (ci (ar bC) (a8 (aN b_ d_ 1 (nP (a5 0))) (ag))) (nP (eC (.int 6))))) (cD "Full") (sN)) (ai (aG (nPB (fD (eY (eA oi (aa (c8 (aa (a5 2) (aj))) (aj)))))) (cD "NoSale") (sN)) (ai (so (aN b_ d_ 0 (nP (a5 0))) (nP (a5 1)) (ci (ar bC) (a8 (aN b_ d_ 1 (nP (a5 0))) (ag)))) (gZ (aN b_ d_ 1 (nP (a5 0))) (nP (a5 2))))))))
def sX(b_:Nat)(a_:Nat):NTX:=mkX 1 1 (ai (aG (nPB (fD (eY (eA iR (aa (a5 0) (aa (eC (.str "abcdefghijklmnopqrstuvwxyz")) (aa (eC (.int 8)) (aj)))))))) (jL "NoRow" (a5 0)) (sN)) (aJ (nP (a5 0))))
def sY(b_:Nat)(a_:Nat):NTX:=mkX 2 3 (ai (aI 2 (ci (ar bC) (a8 (aN b_ d_ 1 (nP (a5 0))) (ag)))) (ai (aG (nPB (bOr (eT (e2 eqD (a5 2) (eC (.int 0)))) (eT (e2 neD (eA (ar bC) (aa (a5 1) (aj))) (e2 bL (a5 2) (eC (.int 1))))))) (cD "NoTurn") (sN)) (ai (aG (ba (n2 eqD (ci (ar bC) (a8 (aN b_ d_ 2 (nP (a5 0))) (ag))) (nP (eC (.int 8))))) (cD "Full") (sN)) (ai (aG (nPB (fD (eY (eA ol (aa (a5 1) (aa (a5 2) (aj))))))) (cD "NoSale") (sN)) (gZ (aN b_ d_ 2 (nP (a5 0))) (nP (a5 1)))))))
def oB(b_:Nat)(a_:Nat):NTF:=mkN 1 1 (aJ (nD [] (nP (a5 0)) (aF (qtX (iT b_ a_)) (a8 (nP (a5 0)) (ag)))))
def yS(b_:Nat)(a_:Nat):NTX:=mkX 2 2 (ai (aG (nPB (fD (eY (eA oo (aa (a5 1) (aj)))))) (cD "NoSale") (sN)) (gY b_ d_ 3 (nP (a5 0)) (nP (a5 1))))
def oC(b_:Nat)(a_:Nat):NTX:=mkX 2 3 (ai (aI 2 (nIf (ba (n1 cz (aN b_ d_ 3 (nP (a5 0))))) (nP (ip (aa (a5 1) (aa (eC (.int 1)) (aa (eC (.int 1)) (aa (eC (.int 0)) (aj))))))) (aN b_ d_ 3 (nP (a5 0))))) (sA b_ d_ 4 (nP (a5 0)) (rz a_ (lK b_ a_) (a8 (nP (a5 1)) (a8 (aN b_ d_ 1 (nP (a5 0))) (a8 (aN b_ d_ 2 (nP (a5 0))) (a8 (nP (a5 2)) (ag))))))))
def gx(b_:Nat)(a_:Nat):NTX:=mkX 3 3 (ai (aG (nPB (eZ (eT (e2 eqD (a5 1) (eC (.str "class")))) (eT (e2 eqD (eA (ar bC) (aa (a5 2) (aj))) (eC (.int 2)))))) (jA (iO b_ d_ (sW b_ a_) (nP (a5 0)) (gt (hG (sX b_ a_) (a8 (nP (e2 ixD (a5 2) (eC (.int 0)))) (ag))) (gt (hG (iT b_ a_) (a8 (nP (e2 ixD (a5 2) (eC (.int 1)))) (ag))) (hZ))))) (aG (nPB (eZ (eT (e2 eqD (a5 1) (eC (.str "turn")))) (eT (e2 gtI (eA (ar bC) (aa (a5 2) (aj))) (eC (.int 0)))))) (jA (cK b_ d_ (sY b_ a_) (nP (a5 0)) (a8 (aF (oB b_ a_) (a8 (nP (a5 2)) (ag))) (ag)))) (aG (nPB (eZ (eT (e2 eqD (a5 1) (eC (.str "rule")))) (eT (e2 eqD (eA (ar bC) (aa (a5 2) (aj))) (eC (.int 4)))))) (jA (cK b_ d_ (yS b_ a_) (nP (a5 0)) (a8 (su (aF (oB b_ a_) (a8 (nP (a5 2)) (ag)))) (ag)))) (aG (nPB (eZ (eT (e2 eqD (a5 1) (eC (.str "open")))) (eT (e2 eqD (eA (ar bC) (aa (a5 2) (aj))) (eC (.int 1)))))) (jA (iO b_ d_ (oC b_ a_) (nP (a5 0)) (gt (hG (iT b_ a_) (a8 (nP (e2 ixD (a5 2) (eC (.int 0)))) (ag))) (hZ)))) (cD "NoRow"))))) (aJ (nP (eC (.str "ok")))))
def cu(b_:Nat)(a_:Nat):NTX:=mkX 2 3 (ai (iH 2 (hG (sV b_ a_) (a8 (nP (a5 1)) (ag)))) (ai (aG (ba (n1 cz (aN b_ d_ 4 (nP (a5 0))))) (eK (cK b_ d_ (gx b_ a_) (nP (a5 0)) (a8 (c4 (nP (a5 2)) (nP (eC (.int 0)))) (a8 (nE 1 (nP (a5 2))) (ag))))) (sN)) (eK (cK b_ d_ (jS b_ a_) (nP (a5 0)) (a8 (c4 (nP (a5 2)) (nP (eC (.int 0)))) (a8 (nE 1 (nP (a5 2))) (ag)))))))
def jT(b_:Nat)(a_:Nat):NTF:=mkN 2 9 (ai (rl [2,3,4,5] (nP (a5 0))) (ai (aI 6 (sx b_ (sU b_ a_))) (ai (aI 7 (fk (bR 2 [1] [0,1] (unT 2) (l3 (a5 3)) bX (e2 bH (e2 bH (e2 bH (eC (.str "class ")) (e2 ixD (a5 2) (a5 0))) (eC (.str " "))) (eA (ar b8) (aa (a5 1) (aj))))))) (ai (aI 7 (sv (nP (a5 7)) (nD [] (nP (a5 4)) (n2 bH (nP (eC (.str "turn "))) (n1 (eQ (.str " ")) (nP (bR 1 [] [0] un1 (dY (a5 0)) bX (eA (ar b8) (aa (a5 0) (aj)))))))))) (ai (aG (nPB (eT (e2 neD (a5 5) (ip (aa (a5 2) (aa (eC (.int 1)) (aa (eC (.int 1)) (aa (eC (.int 0)) (aj))))))))) (gZ (nP (a5 7)) (n2 bH (nP (eC (.str "rule "))) (n1 (eQ (.str " ")) (nP (bR 1 [] [0] un1 (o7 (a5 5)) bX (eA (ar b8) (aa (a5 0) (aj)))))))) (sN)) (ai (nA 8 (o6 (nP (a5 7)) (nP (c8 (aa (e2 bH (eC (.str "open ")) (eA (ar b8) (aa (a5 2) (aj)))) (aj))))) (aG (ba (n2 neD (bG b_ d_ (qtX (cu b_ a_)) (nP (a5 6)) (a8 (nP (a5 8)) (ag))) (nP (eC (.str "ok"))))) (aJ (nP (eC .non))) (sN))) (aJ (jw (a8 (nP (a5 6)) (a8 (rj a_ (qtX (lK b_ a_)) (a8 (nP (a5 2)) (a8 (fk (e1 gh (a5 3))) (a8 (fk (bR 1 [] [0] un1 (dY (a5 4)) bX (e1 gh (a5 0)))) (a8 (nP (a5 5)) (ag)))))) (ag)))))))))))
def iU(b_:Nat)(a_:Nat):NTF:=mkN 2 2 (aJ (rh ["rest","mixed","count"] (aa (eA ou (aa (a5 0) (aa (a5 1) (aj)))) (aa (e2 eqD (e2 eE (eA ou (aa (a5 0) (aa (eC (.int 0)) (aj)))) (eC (.int 2))) (eC (.int 1))) (aa (e2 bL (eC (.int 1)) (a5 1)) (aj))))))
def dC(b_:Nat)(a_:Nat):NTF:=mkN 2 5 (ai (aI 2 (nP (eC .non))) (ai (aI 3 (nP (eC .non))) (ai (nF 2 4 (iH 3 (cK b_ d_ (cu b_ a_) (nP (a5 0)) (a8 (nP (a5 1)) (ag))))) (ai (aG (nPB (eT (e1 cz (a5 2)))) (aJ (nP (a5 3))) (sN)) (aJ (aF (oz b_ a_) (a8 (nP (a5 2)) (ag))))))))
def sZ(b_:Nat)(a_:Nat):NTF:=mkN 3 7 (ai (aI 3 (n2 ixD (nP (a5 1)) (aF (bB b_ a_) (a8 (nP (a5 0)) (a8 (nP (a5 2)) (ag)))))) (ai (aI 4 (aF (bB b_ a_) (a8 (nP (a5 0)) (a8 (nP (eA (ar iM) (aa (a5 3) (aj)))) (ag))))) (ai (aI 5 (n2 bH (n2 bH (nP (fq (a5 3) (eJ) (dF (a5 4)))) (n2 ixT (nP (eC (.str "A9-_.,\t\n"))) (aF (bB b_ a_) (a8 (nP (a5 0)) (a8 (nP (eC (.int 8))) (ag)))))) (nP (fq (a5 3) (dF (e2 bL (a5 4) (eC (.int 1)))) (eJ))))) (ai (aI 6 (gX (a8 (nP (e2 ixD (a5 1) (eC (.int 8)))) (a8 (nP (a5 5)) (a8 (nP (e2 bH (a5 3) (eC (.str "a")))) (a8 (n2 bH (n1 oe (nP (a5 3))) (nP (eC (.str "z")))) (a8 (nP (e2 bH (fq (a5 3) (dF (eC (.int 1))) (eJ)) (eC (.str "z")))) (a8 (n1 upT (nP (a5 3))) (a8 (nP (e2 jJ (eC (.str "q")) (eC (.int 9)))) (a8 (nP (e2 bH (a5 3) (eC (.str "\n")))) (ag))))))))))) (aJ (n2 ixD (nP (e2 dP (a5 6) (c8 (aa (fq (a5 3) (eJ) (dF (eA (dj ff) (aa (eC (.int 1)) (aa (a5 4) (aj)))))) (aj))))) (aF (bB b_ a_) (a8 (nP (a5 0)) (a8 (nP (eC (.int 9))) (ag))))))))))
def lM(b_:Nat)(a_:Nat):NTF:=mkN 5 11 (ai (aI 5 (aF (bB b_ a_) (a8 (nP (a5 0)) (a8 (nP (eC (.int 16))) (ag))))) (ai (aI 6 (nP (e2 dP (e2 mJ (c8 (aa (eC (.str "ask")) (aj))) (eC (.int 7))) (c8 (aa (eC (.str "quiet")) (aa (eC (.str "left")) (aa (eC (.str "turns")) (aa (eC (.str "coins")) (aa (eC (.str "why")) (aa (eC (.str "why")) (aa (eC (.str "came")) (aa (eC (.str "came")) (aa (eC (.str "worth")) (aj)))))))))))))) (ai (aI 7 (nP (e2 ixD (a5 6) (a5 5)))) (ai (aI 8 (bG a_ c_ (gv b_ a_) (c4 (nP (a5 1)) (nP (eC (.int 1)))) ag)) (ai (aG (nPB (eT (e2 eqD (a5 7) (eC (.str "ask"))))) (ai (aI 9 (n2 ixD (nP (a5 2)) (aF (bB b_ a_) (a8 (nP (a5 0)) (a8 (nP (a5 3)) (ag)))))) (ai (aG (ba (n2 eqD (aF (bB b_ a_) (a8 (nP (a5 0)) (a8 (nP (eC (.int 6))) (ag)))) (nP (eC (.int 0))))) (aI 9 (aF (sZ b_ a_) (a8 (nP (a5 0)) (a8 (nP (a5 2)) (a8 (nP (a5 3)) (ag)))))) (sN)) (ai (aG (nPB (eT (e2 iF (a5 9) (eSl (a5 2) (eJ) (dF (a5 3)))))) (aJ (n2 eqD (aF (dC b_ a_) (a8 (c4 (nP (a5 1)) (nP (eC (.int 0)))) (a8 (nP (e2 bH (eC (.str "ask ")) (a5 9))) (ag)))) (nP (e2 dP (c8 (aa (eC (.bl true)) (aj))) (e2 mJ (c8 (aa (eC (.bl false)) (aj))) (eC (.int 10))))))) (sN)) (aJ (n2 eqD (aF (dC b_ a_) (a8 (c4 (nP (a5 1)) (nP (eC (.int 0)))) (a8 (nP (e2 bH (eC (.str "ask ")) (a5 9))) (ag)))) (aF (i0 b_ a_) (a8 (c4 (nP (a5 1)) (nP (eC (.int 1)))) (a8 (nP (eC (.str "ask"))) (a8 (sC (nP (a5 2)) (nP (a5 9))) (ag)))))))))) (sN)) (ai (aG (nPB (eT (e2 eqD (a5 7) (eC (.str "came"))))) (ai (aI 10 (n2 ixD (gX (a8 (aF (bB b_ a_) (a8 (nP (a5 0)) (a8 (nP (eC (.int 12))) (ag)))) (a8 (aF (bB b_ a_) (a8 (nP (a5 0)) (a8 (nP (e2 bL (a5 8) (eC (.int 2)))) (ag)))) (a8 (nP (eC (.int 9999999))) (ag))))) (aF (bB b_ a_) (a8 (nP (a5 0)) (a8 (nP (eC (.int 3))) (ag)))))) (aJ (n2 eqD (aF (dC b_ a_) (a8 (c4 (nP (a5 1)) (nP (eC (.int 0)))) (a8 (nP (e2 bH (eC (.str "came ")) (eA (ar b8) (aa (a5 10) (aj))))) (ag)))) (aF (i0 b_ a_) (a8 (c4 (nP (a5 1)) (nP (eC (.int 1)))) (a8 (nP (eC (.str "came"))) (a8 (nP (a5 10)) (ag)))))))) (sN)) (ai (aG (nPB (eT (e2 eqD (a5 7) (eC (.str "worth"))))) (aJ (n2 eqD (aF (dC b_ a_) (a8 (c4 (nP (a5 1)) (nP (eC (.int 0)))) (a8 (nP (eC (.str "worth"))) (ag)))) (nP (a5 4)))) (sN)) (aJ (n2 eqD (aF (dC b_ a_) (a8 (c4 (nP (a5 1)) (nP (eC (.int 0)))) (a8 (nP (a5 7)) (ag)))) (aF (i0 b_ a_) (a8 (c4 (nP (a5 1)) (nP (eC (.int 1)))) (a8 (nP (a5 7)) (a8 (nP (eC .non)) (ag))))))))))))))
def lN(b_:Nat)(a_:Nat):NTF:=mkN 2 3 (ai (aI 2 (aF (bB b_ a_) (a8 (nP (a5 0)) (a8 (nP (eC (.int 4))) (ag))))) (ai (aG (nPB (eT (e2 eqD (a5 2) (eC (.int 0))))) (aJ (aF (bB b_ a_) (a8 (nP (a5 0)) (a8 (nP (eA (dj iy) (aa (eC (.int 10)) (aa (a5 1) (aj))))) (ag))))) (sN)) (ai (aG (nPB (eT (e2 eqD (a5 2) (eC (.int 1))))) (aJ (nP (e2 cX (a5 1) (eC (.int 1))))) (sN)) (aJ (aF (bB b_ a_) (a8 (nP (a5 0)) (a8 (nP (a5 1)) (ag))))))))
def t3(b_:Nat)(a_:Nat):NTF:=mkN 1 2 (ai (aI 1 (n2 bL (nP (eC (.int 1))) (aF (lN b_ a_) (a8 (nP (a5 0)) (a8 (nP (eC (.int 1000))) (ag)))))) (aJ (jv (a8 (aF (bB b_ a_) (a8 (nP (a5 0)) (a8 (nP (eC (.int 11))) (ag)))) (a8 (aF (bB b_ a_) (a8 (nP (a5 0)) (a8 (nP (e2 bL (a5 1) (eC (.int 1)))) (ag)))) (a8 (nP (a5 1)) (a8 (aF (lN b_ a_) (a8 (nP (a5 0)) (a8 (nP (e2 bL (e2 mD (eC (.int 10)) (eC (.int 6))) (eC (.int 1)))) (ag)))) (ag))))))))
def t4(b_:Nat)(a_:Nat):NTF:=mkN 2 4 (ai (aI 2 (fk (c8 (aj)))) (ai (nB 3 (a8 (nP (e2 bL (a5 1) (eC (.int 1)))) (ag)) (gZ (nP (a5 2)) (n2 ixD (gX (a8 (nP (eC (.int 0))) (a8 (aF (bB b_ a_) (a8 (nP (a5 0)) (a8 (nP (eC (.int 10))) (ag)))) (a8 (aF (bB b_ a_) (a8 (nP (a5 0)) (a8 (nP (eC (.int 1001))) (ag)))) (ag))))) (aF (bB b_ a_) (a8 (nP (a5 0)) (a8 (nP (eC (.int 3))) (ag))))))) (ai (aG (ba (n2 eqD (ci (ar f9) (a8 (nP (a5 2)) (ag))) (nP (eC (.int 0))))) (lr (nP (a5 2)) (nP (a5 1)) (nP (eC (.int 1)))) (sN)) (nz 2))))
def t5(b_:Nat)(a_:Nat):NTF:=mkN 2 7 (ai (aI 2 (aF (iU b_ a_) (a8 (nP (a5 0)) (a8 (nP (a5 1)) (ag))))) (ai (aI 3 (aF (bB b_ a_) (a8 (nP (a5 2)) (a8 (nP (eC (.int 11))) (ag))))) (ai (aI 4 (jz [2] (a8 (n2 bL (nP (eC (.int 1))) (aF (bB b_ a_) (a8 (nP (a5 2)) (a8 (nP (eC (.int 6))) (ag))))) (ag)) (n2 bL (nP (eC (.int 1))) (aF (lN b_ a_) (a8 (nP (a5 1)) (a8 (nP (e2 mD (eC (.int 10)) (eC (.int 6)))) (ag))))))) (ai (aI 5 (aF (t3 b_ a_) (a8 (nP (a5 2)) (ag)))) (ai (aI 6 (aF (bB b_ a_) (a8 (nP (a5 2)) (a8 (nP (eC (.int 9))) (ag))))) (ai (aI 2 (aF (iU b_ a_) (a8 (nP (a5 0)) (a8 (nP (e2 bL (a5 1) (eC (.int 1)))) (ag))))) (aJ (jv (a8 (nP (a5 3)) (a8 (nP (a5 4)) (a8 (jz [2,4] (a8 (nP (a5 6)) (ag)) (aF (t4 b_ a_) (a8 (nP (a5 1)) (a8 (nP (eA (ar bC) (aa (a5 2) (aj)))) (ag))))) (a8 (nP (a5 5)) (ag)))))))))))))
def t6(b_:Nat)(a_:Nat):NTF:=mkN 1 8 (ai (aI 1 (aF (t5 b_ a_) (a8 (nP (a5 0)) (a8 (nP (eC (.int 1))) (ag))))) (ai (aI 2 (aF (iU b_ a_) (a8 (nP (a5 0)) (a8 (nP (eC (.int 3))) (ag))))) (ai (aI 3 (aF (sT b_ a_) (a8 (nP (a5 2)) (a8 (nP (eC (.int 9))) (ag))))) (ai (aG (ba (n2 eqD (aF (bB b_ a_) (a8 (nP (a5 2)) (a8 (nP (eC (.int 2))) (ag)))) (nP (eC (.int 0))))) (aI 1 (nP (ip (aa (e2 ixD (a5 1) (eC (.int 0))) (aa (e2 ixD (a5 1) (eC (.int 1))) (aa (e2 ixD (a5 1) (eC (.int 2))) (aa (ip (aa (e2 ixD (a5 1) (eC (.int 0))) (aa (eC (.int 1)) (aa (eC (.int 1)) (aa (eC (.int 0)) (aj)))))) (aj)))))))) (sN)) (ai (aI 4 (nP (eA (ar bC) (aa (e2 ixD (a5 1) (eC (.int 1))) (aj))))) (ai (aI 5 (nP (eA sR (aa (a5 1) (aj))))) (ai (aI 6 (aF (jT b_ a_) (a8 (nP (a5 1)) (a8 (nP (a5 3)) (ag))))) (ai (aG (ba (n1 cz (nP (a5 6)))) (aJ (nP (eC (.bl false)))) (sN)) (ai (nC 7 (a8 (nP (eC (.int 4))) (a8 (nP (eA (dj iy) (aa (eC (.int 63)) (aa (eA (ar bC) (aa (a5 0) (aj))) (aj))))) (ag))) (ai (aI 2 (aF (iU b_ a_) (a8 (nP (a5 0)) (a8 (nP (a5 7)) (ag))))) (ai (aG (ll (ba (n2 eqD (bG a_ c_ (gv b_ a_) (c4 (nP (a5 6)) (nP (eC (.int 1)))) ag) (nP (eA (ar bC) (aa (e2 ixD (a5 1) (eC (.int 2))) (aj)))))) (ba (n2 eqD (aF (bB b_ a_) (a8 (nP (a5 2)) (a8 (nP (eC (.int 4))) (ag)))) (nP (eC (.int 0)))))) (aI 6 (aF (jT b_ a_) (a8 (nP (a5 1)) (a8 (nP (a5 3)) (ag))))) (sN)) (aG (nOr (ba (n1 cz (nP (a5 6)))) (gq (fJ (aF (lM b_ a_) (a8 (nP (a5 2)) (a8 (nP (a5 6)) (a8 (nP (a5 3)) (a8 (nP (a5 4)) (a8 (nP (a5 5)) (ag)))))))))) (aJ (nP (eC (.bl false)))) (sN))))) (aJ (lm (n2 eqD (aF (dC b_ a_) (a8 (c4 (nP (a5 6)) (nP (eC (.int 0)))) (a8 (nP (eC (.str "coins"))) (ag)))) (ci (ar b8) (a8 (bG a_ c_ (fU b_ a_) (c4 (nP (a5 6)) (nP (eC (.int 1)))) ag) (ag)))) (n2 eqD (aF (dC b_ a_) (a8 (c4 (nP (a5 6)) (nP (eC (.int 0)))) (a8 (nP (eC (.str "worth"))) (ag)))) (nP (a5 5))))))))))))))
section
variable {ta tb tk tv ti te th:NTE}{xe:NEX}{ns:j_}
def Mq{QA:E_->Sto->Prop}(h:QA [] M):hZ ρ M QA EX:=h
def Mr{QA:E_->Sto->Prop}(h:xe ρ M (λd M1=>xa ρ M1 (λds M2=>QA (d::ds) M2) EX) EX):gt xe xa ρ M QA EX:=h
def Ms(hv:a5 j ρ=some (.ptr a))(hm:M a=some (.ins C ns ds0))(h:xa ρ M (λds M2=>T (.ptr a::ds) M2 Q EX) EX):iO C ns T (nP (a5 j)) xa ρ M Q EX:=⟨_,hv,a,ds0,rfl,hm,h⟩
def Mt{g:D->F_}(h:xe ρ M (λx M1=>W1 g x λd=>Q d M1) EX):x1 g xe ρ M Q EX:=h
def Mu{G:E_->F_}(h:xa ρ M (λds M1=>WF G ds λd=>Q d M1) EX):nZ G xa ρ M Q EX:=h
def Mv(h:ta ρ M λx M1=>th ρ M1 λy M2=>∃i d,y=.int i/\slT x none (some i)=some d/\Q d M2):sw ta th ρ M Q:=h
def Mw(h:∀a,M a=none->Q (.ptr a) (aK M a (.dic [] []))):sk ρ M Q:=h
def Mx(h:tk ρ M λy M1=>ta ρ M1 λx M2=>∃a ns ds f,x=.ptr a/\y=.str f/\M2 a=some (.dic ns ds)/\Q (.bl (decide (f∈ns))) M2):nX tk ta ρ M Q:=h
def Mz(h:tk ρ M λy M1=>ta ρ M1 λx M2=>∃a ns ds f,x=.ptr a/\y=.str f/\M2 a=some (.dic ns ds)/\Q (.bl (!decide (f∈ns))) M2):nY tk ta ρ M Q:=h
def MB(h:ta ρ M λx M1=>tk ρ M1 λy M2=>∃a ns ds f d,x=.ptr a/\y=.str f/\M2 a=some (.dic ns ds)/\iN ns ds f=some d/\Q d M2):sm ta tk ρ M Q:=h
def MC(h:tv ρ M λv M1=>ta ρ M1 λx M2=>tk ρ M2 λy M3=>∃a ns ds f,x=.ptr a/\y=.str f/\M3 a=some (.dic ns ds)/\f∉ns/\ns.length<1000/\E.nx ρ (aK M3 a (.dic (ns++[f]) (ds++[v])))):so ta tk tv E ρ M:=h
def MD(h:ti ρ M λd M1=>∃ds,d=.tup ds/\ds.length<=1000/\cT 1 te (bt 1 J3 ρ) ds [] M1 λds M2=>Q (.lst ds) M2):sr J3 ti te ρ M Q:=h
def ME(h:xe ρ M (λd M1=>∃ds,d=.tup ds/\ds.length<=1000/\cT 1 te (bt 1 J3 ρ) ds [] M1 λds M2=>Q (.lst ds) M2) EX):o3 J3 xe te ρ M Q EX:=h
def MF(h:ta ρ M λx M1=>∃ds,x=.lst ds/\Q (.tup ds) M1):su ta ρ M Q:=h
def MG(h:ta ρ M λx M1=>tb ρ M1 λy M2=>∃xs ys,vw1 M2 x=.lst xs/\y=.lst ys/\xs.length+ys.length<=100000/\∀a,M2 a=none->Q (.ptr a) (aK M2 a (.lst (xs++ys)))):sv ta tb ρ M Q:=h
def MH(h:ta ρ M λx M1=>tb ρ M1 λy M2=>∃xs ys,vw1 M2 x=.lst xs/\y=.lst ys/\xs.length+ys.length<=100000/\Q (.lst (xs++ys)) M2):o6 ta tb ρ M Q:=h
def MI{T:NTF}(h:∀a,M a=none->T [.ptr a] (aK M a (.ins C [] [])) λd M2=>d=.non/\Q (.ptr a) M2):sx C T ρ M Q:=h
def MJ{i:Nat}(h:xe ρ M (λv M1=>ta ρ M1 λx M2=>∃a ds,x=.ptr a/\M2 a=some (.ins C ns ds)/\E.nx ρ (aK M2 a (.ins C ns (ds.set i v)))) E.ex):sA C ns i ta xe E ρ M:=h
def MK{K:E_->Prop}{f:FE}(h:WE f ρ λd=>∃ds,d=.tup ds/\K ds):WI (o7 f) ρ K:=by obtain⟨d,e,ds,rfl,hk⟩:=h;exact⟨ds,by simp[o7,e],hk⟩
def dM{K:D->Prop}(hn:i.natAbs.log2<1900)(h:K (.str (mkT (aT i)))):WF (ar b8) [.int i] K:=⟨_,by simp only[ar,b8,if_pos hn],h⟩
end
local macro_rules | `(tactic| walk_at"call")=>`(tactic| first
 |(with_reducible first|refine kx_q ?_|refine Mq ?_|refine Mr ?_|refine kx_callA ?_|refine Mt ?_|refine Mu ?_|refine Mv ?_|refine Mx ?_|refine Mz ?_|refine MB ?_|refine MC ?_)
 |(with_reducible first|refine MD ?_|refine ME ?_|refine MF ?_|refine MG ?_|refine MH ?_|refine MJ ?_|refine MK ?_)
 |((with_reducible refine' Ms ?h1 ?h2 ?_);(case h1=>exact rfl);(case h2=>first|assumption|exact aB)))
def Pool(M:Sto)(a:Nat)(n:Nat):Prop:=∃(r:Int) (m:Bool) (c:Int),M a=some (.dic ["rest","mixed","count"] [.int r,.bl m,.int c])/\0<=c/\c<=(n:Nat)
def Pool.keep{S:Nat->Prop}(h:Pool M a n)(k:Kp S M M')(hs:¬S a):Pool M' a n:=by obtain⟨r,m,c,h1,h2⟩:=h;exact⟨r,m,c,k _ _ h1 hs,h2⟩
def Pool.le{n':Nat}(h:Pool M a n)(k:n<=n'):Pool M a n':=by obtain⟨r,m,c,h1,h2,h3⟩:=h;exact⟨r,m,c,h1,h2,by ext⟩
def bN{many:Int}(hp:Pool M a n)(hn:n<=100000)(h0:0<many)(h1:many<=10 ^ 41)(h:∀r M',0<=r->r<many->Pool M' a (n+1)->Kp (· = a) M M'->Q (.int r) M'):bB CD C [.ptr a,.int many] M Q:=by
 obtain⟨r,m,c,hm,hc1,hc2⟩:=hp;refine ca rfl ?_;walk_at"env";cases m with
 |false=>lia;refine⟨a,_,rfl,hm,?_⟩;lia;refine h _ _ (Int.emod_nonneg _ ∅) (Int.emod_lt_of_pos _ h0) ⟨_,_,_,aB,hc1,by ext⟩ (Kp.upd (.inl rfl))
 |true=>lia;refine⟨a,_,rfl,hm,?_⟩;lia;refine⟨a,_,rfl,aB,?_⟩;lia;rw[dR];refine h _ _ (Int.emod_nonneg _ ∅) (Int.emod_lt_of_pos _ h0) ⟨_,_,_,aB,by ext,by ext⟩ (Kp.upd (.inl rfl))
def yT{k:Int}(h0:0<=k):WF ou [.scr ns,.int k] λd=>∃x,d=.int x:=by
 refine cC (bZ rfl ?_);grind;have e:dO (ns.map D.int) (some k) (some (k+1))=(dO ns (some k) (some (k+1))).map D.int:=by simp[dO,List.map_drop,List.map_take]
 rw[e];cases dO ns (some k) (some (k+1))with
 |nil=>exact⟨_,rfl,_,rfl,rfl,_,rfl⟩
 |cons x r=>exact⟨_,rfl,rfl,_,rfl⟩
def oE{k:Int}(h0:0<=k)(h1:k<=1000)(h:∀a M',M a=none->Pool M' a 2000->Kp (λ_=>False) M M'->Q (.ptr a) M'):iU CD C [.scr ns,.int k] M Q:=by refine ca rfl ?_;grind;refine Jf ?_;lia;refine iG (yT h0) ?_;rintro _ ⟨x,rfl⟩;lia;refine iG (yT ∅) ?_;rintro _ ⟨y,rfl⟩;lia;intro a ha;refine xY ?_;exact h a _ ha ⟨_,_,_,aB,by ext,by ext⟩ (Kp.upd (.inr ha))
def t7{most:Int}(hp:Pool M a n)(hn:n<=90000)(h0:0<most)(h1:most<=10 ^ 41)(h:∀r M',0<=r->r<most->Pool M' a (n+2)->Kp (· = a) M M'->Q (.int r) M'):lN CD C [.ptr a,.int most] M Q:=by
 refine ca rfl ?_;grind;refine bN hp ∅ ∅ ∅ λr M1 a1 a2 p1 k1=>?_
 lia;refine au (λe=>?_) λe=>?_
 ·lia
  refine bN p1 ∅ ∅ ∅ λr2 M2 b1 b2 p2 k2=>?_
  lia;exact h _ _ b1 ∅ p2 (k1.trans k2 λ_ z _=>z)
 lia;refine au (λe=>?_) λe=>?_
 ·lia
  exact h _ _ ∅ ∅ (p1.le ∅) k1
 lia;refine bN p1 ∅ ∅ ∅ λr2 M2 b1 b2 p2 k2=>?_
 lia;exact h _ _ b1 b2 p2 (k1.trans k2 λ_ z _=>z)
def gy{ds:E_}(h:M a=some (.lst ds)):vw1 M (.ptr a)=.lst ds:=by simp only[vw1,h]
def ML(m:Nat)(r:z9):Prop:=r.length=m+1/\(∀x∈r,0<=x/\x<=1000)/\0<r.sum
def MM{m:Nat}(hp:Pool M a n)(hn:n<=60000)(hm:m<=10)(h:∀r M',ML m r->Pool M' a (n+33)->Kp (· = a) M M'->Q (DI r) M'):t4 CD C [.ptr a,.int (m:Nat)] M Q:=by
 refine ca rfl ?_;grind;lia;intro x hx;have hxa:x≠a:=λe=>by subst e;obtain⟨_,_,_,h1,_⟩:=hp;rw[hx]at h1;cases h1
 lia;refine⟨⟨by ext,by ext⟩,?_⟩;rw[show((m:Int)+1).toNat=m+1 by ext];refine rX _ _ (λk ρ M'=>∃b,ρ=[some (.ptr a),some (.int (m:Nat)),some (.ptr x),b]/\∃r:z9,M' x=some (.lst (r.map D.int))/\r.length=k/\(∀z∈r,0<=z/\z<=1000)/\Pool M' a (n+3*k)/\Kp (· = a) M M') ⟨_,rfl,[],aB,rfl,by simp,hp.keep (S:=λ_=>False) (Kp.upd (.inr hx)) id,Kp.upd (.inr hx)⟩ ?_ ?_
 ·rintro ρ M1 ⟨b,rfl,r,h1,h2,h3,p1,k1⟩
  rw[z8x]at h2 p1;lia;rw[show List.map (vw1 M1) [D.ptr x]=[DI r]by simp[gy h1]];lia;have hnn:=lh λz hz=>(h3 z hz).1
  have hdel:∀c,Kp (· = a) M (dQ (aK M1 x c) x):=λc=>(k1.trans (Kp.upd (S:=(· = x)) (.inl rfl)) λb z n=>by subst z;exact absurd hx n).trans (Kp.del (S:=(· = x)) rfl) λb z n=>by subst z;exact absurd hx n
  have hpd:∀M2:Sto,Pool M2 a (n+3*(m+1))->Pool (dQ M2 x) a (n+33):=λM2 p=>(p.keep (S:=(· = x)) (Kp.del rfl) (Ne.symm hxa)).le ∅
  refine au (λe=>?_) λe=>?_
  ·lia
   refine⟨x,_,_,m,rfl,h1,rfl,?_,?_⟩
   ·rw[z9c,h2];unfold ixN;rw[if_pos ∅,if_pos ∅];congr 1
   lia;refine lF rfl aB ?_;lia;have hs:(r.map D.int).set m (D.int 1)=(r.set m 1).map D.int:=by rw[List.map_set]
   rw[hs];refine h (r.set m 1) _ ⟨by rw[z8e,h2],λz hz=>?_,?_⟩ ?_ ?_
   ·rcases z5u hz with hz|hz
    ·exact h3 z hz
    ·subst hz;ext
   ·have hall:∀z∈r.set m 1,0<=z:=λz hz=>by
     rcases z5u hz with hz|hz
     ·exact(h3 z hz).1
     ·subst hz;ext
    have hmem:(1:Int)∈r.set m 1:=List.mem_set ∅ ..;obtain⟨u,w,e⟩:=List.append_of_mem hmem;rw[e]at hall ⊢;rw[List.sum_append,z7e];have g1:=lh λy hy=>hall y (z8i _ hy)
    have g2:=lh λy hy=>hall y (z9s _ (z9d _ hy))
    ext
   ·exact hpd _ (p1.keep (S:=(· = x)) (Kp.upd (.inl rfl)) (Ne.symm hxa))
   ·exact hdel _
  ·lia
   refine lF rfl h1 ?_;lia;refine h r _ ⟨h2,h3,by ext⟩ (hpd _ p1) ?_;have:=hdel (.lst (r.map D.int))
   rwa [Hq h1]at this
 ·rintro k hk ρ M1 ⟨b,rfl,r,h1,h2,h3,p1,k1⟩ N hN
  rw[z8x]at hk;grind;refine⟨x,_,rfl,h1,?_⟩;lia;refine bN p1 ∅ ∅ ∅ λv1 M2 a1 a2 p2 k2=>?_
  lia;refine bN p2 ∅ ∅ ∅ λv2 M3 b1 b2 p3 k3=>?_
  lia;refine bN p3 ∅ ∅ ∅ λv3 M4 c1 c2 p4 k4=>?_
  lia;refine GQ 0 1000 c1 (by show _<(3:Int);ext) (by simp only[AllI,and_true];ext) λv e1 e2=>?_
  have x4:M4 x=some (.lst (r.map D.int)):=k4 _ _ (k3 _ _ (k2 _ _ h1 hxa) hxa) hxa;refine⟨_,x4,by simp;ext,xX (hN _ _ ⟨_,rfl,r++[v],?_,by simp[h2],λz hz=>?_,?_,?_⟩)⟩
  ·rw[aB,z8k];rfl
  ·rcases z8q.mp hz with hz|hz
   ·exact h3 z hz
   ·rw[z9w.mp hz];exact⟨e1,e2⟩
  ·exact(p4.keep (S:=(· = x)) (Kp.upd (.inl rfl)) (Ne.symm hxa)).le ∅
  ·exact(((k1.trans k2 λ_ z _=>z).trans k3 λ_ z _=>z).trans k4 λ_ z _=>z).trans (Kp.upd (S:=(· = x)) (.inl rfl)) λb z n=>by subst z;exact absurd hx n
def MN(hp:Pool M a n)(hn:n<=80000)(h:∀r c o d M',0<=r->r<=10->0<=c->c<=o->1<=o->o<=1000->0<=d->d<=1000000->Pool M' a (n+6)->Kp (· = a) M M'->Q (.tup [.int r,.int c,.int o,.int d]) M'):t3 CD C [.ptr a] M Q:=by
 refine ca rfl ?_;grind;refine t7 hp ∅ ∅ ∅ λo M1 a1 a2 p1 k1=>?_
 lia;refine bN p1 ∅ ∅ ∅ λr M2 b1 b2 p2 k2=>?_
 lia;refine bN p2 ∅ ∅ ∅ λc M3 c1 c2 p3 k3=>?_
 lia;refine t7 p3 ∅ ∅ ∅ λd M4 d1 d2 p4 k4=>?_
 lia;exact h _ _ _ _ _ b1 ∅ c1 ∅ ∅ ∅ d1 ∅ p4 (((k1.trans k2 λ_ z _=>z).trans k3 λ_ z _=>z).trans k4 λ_ z _=>z)
def RowsOk(n:Nat)(ts:List z9):Prop:=∀r∈ts,r.length=n+1/\(∀x∈r,0<=x/\x<=1000)/\0<r.sum
def RowsOk.sum{ts:List z9}(h:RowsOk n ts)(hn:n<=10):∀r∈ts,0<=r.sum/\r.sum<1000000:=λr hr=>by
 obtain⟨h1,h2,h3⟩:=h r hr;have h4:=qY (b:=1000) λx hx=>(h2 x hx).2
 ext
def MO{k:Int}(h0:0<=k)(h1:k<=900)(h:∀(S:Nat) H_ I_ r c o d M',S<=10->1<=H_.length->H_.length<=6->(∀x∈H_,1<=x/\x<=1000000)->I_.length<=8->RowsOk H_.length I_->0<=r->r<=10->0<=c->c<=o->1<=o->o<=1000->0<=d->d<=1000000->Kp (λ_=>False) M M' ->
   Q (.tup [.int (S:Nat),DI H_,DII I_,.tup [.int r,.int c,.int o,.int d]]) M'):t5 CD C [.scr ns,.int k] M Q:=by
 refine ca rfl ?_;grind;refine oE h0 ∅ λp M1 hp P1 K1=>?_
 lia;refine bN P1 ∅ ∅ ∅ λs M2 a1 a2 P2 K2=>?_
 lia;refine rV ?_;lia;refine bN P2 ∅ ∅ ∅ λj M3 b1 b2 P3 K3=>?_
 lia;refine⟨⟨by ext,by ext⟩,by ext,?_⟩;obtain⟨J,rfl⟩:∃J:Nat,j=J:=⟨j.toNat,by ext⟩;rw[show(1+(J:Int)).toNat=J+1 by ext];refine iL _ _ (λk ds M'=>∃fs:z9,ds=fs.map D.int/\fs.length=k/\(∀x∈fs,1<=x/\x<=1000000)/\Pool M' p (3000+2*k)/\Kp (· = p) M3 M') ⟨[],rfl,rfl,by simp,P3.le ∅,Kp.refl⟩ ?_ ?_
 ·rintro _ M4 ⟨H_,rfl,c1,c2,P4,K4⟩
  rw[z8x]at c1 P4;lia;refine MN P4 ∅ λr c o d M5 d1 d2 d3 d4 d5 d6 d7 d8 P5 K5=>?_
  lia;refine bN P5 ∅ ∅ ∅ λm M6 e1 e2 P6 K6=>?_
  lia;refine oE ∅ ∅ λq M7 hq P7 K7=>?_
  lia;refine rV ?_;lia;refine⟨⟨by ext,by ext⟩,by ext,?_⟩;obtain⟨T,rfl⟩:∃T:Nat,m=T:=⟨m.toNat,by ext⟩;obtain⟨S,rfl⟩:∃S:Nat,s=S:=⟨s.toNat,by ext⟩;rw[z7a];have KK:Kp (λ_=>False) M M7:=by
   have z:Kp (· = p) M1 M6:=(((K2.trans K3 λ_ z _=>z).trans K4 λ_ z _=>z).trans K5 λ_ z _=>z).trans K6 λ_ z _=>z
   exact(K1.trans z λx e n=>by subst e;exact absurd hp n).trans K7 λ_ z _=>z
  refine iL _ _ (λk ds M'=>∃ts:List z9,ds=ts.map DI/\ts.length=k/\RowsOk H_.length ts/\Pool M' q (2000+33*k)/\Kp (· = q) M7 M') ⟨[],rfl,rfl,λ_ z=>by simp at z,P7,Kp.refl⟩ ?_ ?_
  ·rintro _ M8 ⟨ts,rfl,f1,f2,P8,K8⟩
   rw[z8x]at f1;lia;have hq':M q=none:=by
    cases e:M q with
    |none=>rfl
    | some c=>
      have z:Kp (· = p) M1 M6:=(((K2.trans K3 λ_ z _=>z).trans K4 λ_ z _=>z).trans K5 λ_ z _=>z).trans K6 λ_ z _=>z
      have:=z _ _ (K1 _ _ e id) (λe'=>by subst e';rw[e]at hp;cases hp);rw[hq]at this;cases this
   exact h S H_ ts r c o d M8 ∅ ∅ ∅ c2 ∅ f2 d1 d2 d3 d4 d5 d6 d7 d8 (KK.trans K8 λx e n=>by subst e;exact absurd hq' n)
  ·rintro k hk _ M8 ⟨ts,rfl,f1,f2,P8,K8⟩ N hN
   rw[z8x]at hk;grind;rw[z9c];refine MM P8 ∅ ∅ λrow M9 g1 P9 K9=>?_
   refine hN _ _ ⟨ts++[row],by simp[DI],by simp[f1],λr' hr'=>?_,P9.le ∅,K8.trans K9 λ_ z _=>z⟩;rcases z8q.mp hr' with hr' | hr'
   ·exact f2 r' hr'
   ·rw[z9w.mp hr'];exact g1
 ·rintro k hk _ M4 ⟨fs,rfl,c1,c2,P4,K4⟩ N hN
  rw[z8x]at hk;grind;refine t7 P4 ∅ ∅ ∅ λv M5 d1 d2 P5 K5=>?_
  lia;refine hN _ _ ⟨fs++[1+v],by simp,by simp[c1],λx hx=>?_,P5.le ∅,K4.trans K5 λ_ z _=>z⟩;rcases z8q.mp hx with hx|hx
  ·exact c2 x hx
  ·rw[z9w.mp hx];ext
def yU(n l m:Int):ft [.int n,.int l,.int m]=some (.bl (decide (l<=n/\n<=m))):=by refine cB (cC (bZ rfl ?_));walk_at"env";walk_at"all" <;> walk_at"leaf"
local macro_rules | `(tactic| walk_at"call")=>`(tactic| (with_reducible refine bu (yU _ _ _) ?_))
def yV:oj [DI row]=some (.int row.sum):=by refine cB (cC (bZ rfl ?_));grind
structure SaleOk (seats:Int) (H_:z9) (I_:List z9):Prop where
 s0:0<=seats
 s1:seats<=10
 f0:1<=H_.length
 f1:H_.length<=6
 f:∀x∈H_,1<=x/\x<=1000000
 t:I_.length<=8
 r:∀r∈I_,r.length=H_.length+1/\(∀x∈r,0<=x/\x<=1000)/\0<r.sum
local macro_rules | `(tactic| walk_at"call")=>`(tactic| (with_reducible refine bu (yU _ _ _) ?_))
def gz(n:Nat)(r:z9):Prop:=r.length=n+1/\(∀x∈r,0<=x/\x<=1000)/\0<r.sum
def yW{r:z9}(hl:r.length<=1000):WF ol [DI r,.int (n:Nat)] λd=>∃b,d=.bl b/\(b=true↔gz n r):=by
 refine cC (bZ rfl ?_);grind;rw[z9c];refine gU (λh=>?_) λh=>?_
 ·lia
  unfold gz;simp;ext
 ·lia
  refine ny (α:=Int) (λx=>0<=x/\x<=1000) ?_;lia;refine⟨.int,r,rfl,by ext,λx hx=>⟨_,rfl,?_⟩,λbs hb=>?_⟩
  ·walk_at"env"
   lia;simp
  lia;refine wT hb (λh1=>?_) λh1=>?_
  ·lia
   refine bu yV ?_;lia;unfold gz;rw[z3d];exact⟨λh2=>⟨by ext,h1,h2⟩,λh2=>h2.2.2⟩
  ·lia
   unfold gz;simp;intro _ h2;exact absurd h2 h1
def yX{f:z9}(hl:f.length<=1000):WF oi [DI f] λd=>∃b,d=.bl b/\(b=true↔1<=f.length/\f.length<=6/\∀x∈f,1<=x/\x<=1000000):=by
 refine cC (bZ rfl ?_);grind;rw[z9c];refine au (λh=>?_) λh=>?_
 ·lia
  refine au (λh2=>?_) λh2=>?_
  ·lia
   refine ny (α:=Int) (λx=>1<=x/\x<=1000000) ?_;lia;refine⟨.int,f,rfl,by ext,λx hx=>⟨_,rfl,?_⟩,λbs hb=>?_⟩
   ·walk_at"env"
    lia;simp
   lia;exact hb.trans ⟨λh=>⟨by ext,by ext,h⟩,λh=>h.2.2⟩
  ·lia
   simp;ext
 ·lia
  simp;ext
def MP(hl:t.length<=1000)(hr:∀r∈t,r.length<=1000):WF sD [DII t,.int (n:Nat)] λd=>∃b,d=.bl b/\(b=true↔t.length<=8/\∀r∈t,gz n r):=by
 refine cC (bZ rfl ?_);grind;rw[z9c];refine au (λh=>?_) λh=>?_
 ·lia
  refine ny (α:=z9) (gz n) ?_;lia;refine⟨DI,t,rfl,by ext,λx hx=>⟨_,rfl,?_⟩,λbs hb=>?_⟩
  ·walk_at"env"
   lia;exact yW (hr x hx)
  lia;exact hb.trans ⟨λh=>⟨by ext,h⟩,λh=>h.2⟩
 ·lia
  simp;ext
def MQ{f:z9}(hf:f.length<=1000)(hl:t.length<=1000)(hr:∀r∈t,r.length<=1000):WF sE [.int s,DI f,DII t] λd=>∃b,d=.bl b/\(b=true↔SaleOk s f t):=by
 refine cC (bZ rfl ?_);grind;refine au (λh=>?_) λh=>?_
 ·lia
  refine iG (yX hf) ?_;rintro _ ⟨b,rfl,hb⟩;lia;refine wT hb (λh1=>?_) λh1=>?_
  ·lia
   rw[z9c];refine iG (MP hl hr) ?_;rintro _ ⟨b,rfl,hb⟩;lia;exact hb.trans ⟨λh2=>⟨h.1,h.2,h1.1,h1.2.1,h1.2.2,h2.1,h2.2⟩,λh2=>⟨h2.t,h2.r⟩⟩
  ·lia
   exact⟨λh=>(nomatch h),λh2=>absurd ⟨h2.f0,h2.f1,h2.f⟩ h1⟩
 ·lia
  exact⟨λh=>(nomatch h),λh2=>absurd ⟨h2.s0,h2.s1⟩ h⟩
noncomputable def oF(r c o d:Int):Bool:=decide (0<=r/\r<=10/\1<=o/\o<=1000/\0<=c/\c<=o/\0<=d/\d<=1000000)
def yY(r c o d:Int):oo [.tup [.int r,.int c,.int o,.int d]]=some (.bl (oF r c o d)):=by refine cB (cC (bZ rfl ?_));unfold oF;walk_at"env";walk_at"all" <;> walk_at"leaf"
def yZ(hl:n<=1000)(hx:0<=x/\x<=1000000):oh [.int x,.int (n:Nat)]=some (.int (x ^ n)):=by
 refine cB (cC (bZ rfl ?_));grind;refine⟨⟨by ext,by ext⟩,?_⟩;rw[z7a];refine nw _ _ (λk ρ=>∃a,ρ=[some (.int x),some (.int (n:Nat)),some (.int (x ^ k)),a]) ⟨_,by rw[z4t]⟩ ?_ ?_
 ·rintro ρ ⟨a,rfl⟩
  rw[z8x];lia
 ·rintro k hk ρ ⟨a,rfl⟩
  rw[z8x]at hk;grind;walk_at"env";rw[z6b];exact⟨_,rfl⟩
noncomputable def more(xs:z9)(c s:Int):z9:=List.zipWith (λa b=>a+b) (xs.map (λx=>x*s)++[0]) (0::xs.map λx=>x*c)
def za(xs:z9)(c s:Int):(more xs c s).length=xs.length+1:=by simp[more]
def MR(hl:xs.length<=1000)(hc:0<=c/\c<=1000000)(hs:0<=s/\s<=1000000):sL [DI xs,.int c,.int s]=some (DI (more xs c s)):=by
 refine cB (bZ rfl ?_);grind;refine fI (α:=Int) ?_;lia;refine⟨.int,λx=>.int (x*s),xs,rfl,by ext,λx hx=>⟨_,rfl,?_⟩,?_⟩
 ·walk_at"env"
  lia
 lia;refine fI (α:=Int) ?_;lia;refine⟨.int,λx=>.int (x*c),xs,rfl,by ext,λx hx=>⟨_,rfl,?_⟩,?_⟩
 ·walk_at"env"
  lia
 lia;refine fI (α:=Int×Int) ?_;lia;refine⟨λp=>.tup [.int p.1,.int p.2],λp=>.int (p.1+p.2),(xs.map (λx=>x*s)++[0]).zip (0::xs.map λx=>x*c),?_,by simp;ext,λx hx=>⟨_,rfl,?_⟩,?_⟩
 ·rw[<- wR];simp;rfl
 ·walk_at"env"
  lia
 ·lia
  congr 1;rw[more,<- z4m,z7k];rfl
noncomputable def dN:Nat->Int->Int->z9
 |0,_,_=>[1]
 |n+1,c,s=>more (dN n c s) c s
def t8(n:Nat)(c s:Int):(dN n c s).length=n+1:=by
 induction n with
 |zero=>rfl
 |succ n ih=>rw[dN,za,ih]
def MT{o:Int}(hl:n<=100)(hc:0<=c/\c<=o)(ho:o<=1000000):sM [.int (n:Nat),.int c,.int o]=some (DI (dN n c (o-c))):=by
 refine cB (bZ rfl ?_);grind;refine⟨⟨by ext,by ext⟩,?_⟩;rw[z7a];refine nw _ _ (λk ρ=>∃a,ρ=[some (.int (n:Nat)),some (.int c),some (.int o),some (DI (dN k c (o-c))),a]) ⟨_,rfl⟩ ?_ ?_
 ·rintro ρ ⟨a,rfl⟩
  rw[z8x];lia
 ·rintro k hk ρ ⟨a,rfl⟩
  rw[z8x]at hk;grind;refine bu (MR (by rw[t8];ext) ∅ ∅) ?_;lia;walk_at"env";exact⟨_,rfl⟩
theorem zb:∀(xs ys:z9),xs.length=ys.length->(List.zipWith (λa b=>a+b) xs ys).sum=xs.sum+ys.sum
 |[],[],_=>by simp
 |x::xs,y::ys,h=>by have:=zb xs ys (by simpa using h);rw[List.zipWith_cons_cons,z7e,this,z7e,z7e];ext
def zc(xs:z9)(c:Int):(xs.map λx=>x*c).sum=xs.sum*c:=by
 induction xs with
 |nil=>simp
 |cons x r ih=>rw[z9p,z7e,ih,z7e,Int.add_mul]
def MU(xs:z9)(c s:Int):(more xs c s).sum=xs.sum*(c+s):=by rw[more,zb _ _ (by simp),List.sum_append,zc,z7e (a:=0) (l:=xs.map _),zc,Int.mul_add];simp;ext
def MV(n:Nat)(c s:Int):(dN n c s).sum=(c+s) ^ n:=by
 induction n with
 |zero=>simp[dN]
 |succ n ih=>rw[dN,MU,ih,z6b]
def MW(h:j<(more xs c s).length):(more xs c s)[j]=xs.getD j 0*s+(if j=0 then 0 else xs.getD (j-1) 0*c):=by
 have hl:=za xs c s;simp only[more,List.getElem_zipWith];congr 1
 ·by_cases hj:j<xs.length
  ·rw[List.getElem_append_left (by simpa using hj),List.getElem_map,gp _ _ _ hj]
  ·have:j=xs.length:=by ext
   subst this;rw[List.getElem_append_right (by simp)];simp[z8v]
 ·cases j with
  |zero=>simp
  |succ j=>simp only[List.getElem_cons_succ,List.getElem_map,Nat.add_sub_cancel];rw[if_neg ∅,gp _ _ _ ∅]
noncomputable def wt(f:Nat->Int):Nat->z9->Int
 |_,[]=>0
 |k,x::r=>x*f k+wt f (k+1) r
def MX{f g:Nat->Int}{k:Nat}(hx:∀x∈xs,0<=x)(h:∀j,k<=j->j<k+xs.length->f j<=g j):wt f k xs<=wt g k xs:=by
 induction xs generalizing k with
 |nil=>simp[wt]
 | cons x r ih=>
   have h1:=ih (k:=k+1) (λy hy=>hx y (z9d _ hy)) λj h1 h2=>h j ∅ (by rw[z9b];ext)
   have h2:=z7n (h k ∅ (by rw[z9b];ext)) (hx x (z9a ..));simp only[wt];ext
def MY(a:Int)(xs:z9)(k:Nat):wt (λ_=>a) k xs=a*xs.sum:=by
 induction xs generalizing k with
 |nil=>simp[wt]
 |cons x r ih=>simp only[wt];rw[ih,z7e];grind (config:={})
def MZ{f:Nat->Int}{k:Nat}(hx:∀x∈xs,0<=x)(h:∀j,0<=f j):0<=wt f k xs:=by
 induction xs generalizing k with
 |nil=>simp[wt]
 | cons x r ih=>
   have h1:=ih (k:=k+1) λy hy=>hx y (z9d _ hy)
   have h2:=z7w (hx x (z9a ..)) (h k);simp only[wt];ext
def N0(F:Int->Nat->Int)(f:Nat->Int)(h:∀x j,F x j=x*f j)(xs:z9)(k:Nat):((xs.zipIdx k).map λp=>F p.1 p.2).sum=wt f k xs:=by
 induction xs generalizing k with
 |nil=>rfl
 |cons x r ih=>rw[List.zipIdx_cons,z9p,z7e,ih];simp only[wt];rw[h]
def N1(hc:0<=c)(hs:0<=s)(hx:∀x∈xs,0<=x):∀x∈more xs c s,0<=x:=by
 intro x hx';obtain⟨j,hj,rfl⟩:=z7z hx';have hg:∀i,0<=xs.getD i 0:=λi=>by
  by_cases hi:i<xs.length
  ·rw[gp _ _ _ hi];exact hx _ (z9u _)
  ·rw[z8v,z5g ∅];exact Int.le_refl 0
 rw[MW hj];have h1:=z7w (hg j) hs;have h2:=z7w (hg (j-1)) hc;split<;>ext
def zd(hc:0<=c)(hs:0<=s)(n:Nat):∀x∈dN n c s,0<=x:=by
 induction n with
 |zero=>intro x hx;simp[dN]at hx;ext
 |succ n ih=>exact N1 hc hs ih
noncomputable def gA(room:Int)(j:Nat):Int:=max ((j:Int)-room) 0
def eR(room c s:Int)(n:Nat):Int:=wt (gA room) 0 (dN n c s)
def N2{o d:Int}(hl:n<=100)(hr:0<=r/\r<=1000)(hc:0<=c/\c<=o)(ho:o<=1000000):sO [.int (n:Nat),.tup [.int r,.int c,.int o,.int d]]=some (.int (eR r c (o-c) n)):=by
 refine cB (cC (bZ rfl ?_));grind;refine bu (MT hl hc ho) ?_;have hlen:=t8 n c (o-c);lia;refine fI (α:=Int×Nat) ?_;lia;refine⟨λp=>.tup [.int (p.2:Nat),.int p.1],λp=>.int (p.1*gA r p.2),(dN n c (o-c)).zipIdx,wQ _ _,by simp;ext,λp hp=>⟨_,rfl,?_⟩,?_⟩
 ·have hp:=List.snd_lt_of_mem_zipIdx hp
  grind;rfl
 rw[show((dN n c (o-c)).zipIdx.map λp=>D.int (p.1*gA r p.2))=((dN n c (o-c)).zipIdx.map λp=>p.1*gA r p.2).map D.int by rw[z7k];rfl];lia;rw[N0 (λx j=>x*gA r j) (gA r) (λ_ _=>rfl)];rfl
def lO(r c o d:Int)(J1 left:Nat):Int:=-d*eR r c (o-c) J1*o ^ left
def N3{l:Nat}{o d:Int}(hn:n<=100)(hl:l<=100)(hr:0<=r/\r<=1000)(hc:0<=c/\c<=o)(ho:o<=1000000)(hd:0<=d/\d<=1000000)(hm:okMul (-d*eR r c (o-c) n) (o ^ l)):sP [.int (n:Nat),.int (l:Nat),.tup [.int r,.int c,.int o,.int d]]=some (.int (lO r c o d n l)):=by refine cB (cC (bZ rfl ?_));grind;refine bu (N2 hn hr hc ho) ?_;lia;refine bu (yZ ∅ ∅) ?_;lia;rfl
def ends(r c o d:Int)(S:Nat):z9:=(List.range (S+1)).map λl=>lO r c o d (S-l) l
def jU(r c o d:Int)(S:Nat):(ends r c o d S).length=S+1:=by simp[ends]
def ze(hc:0<=c)(hs:0<=s)(n:Nat):0<=eR r c s n:=MZ (zd hc hs n) λj=>by unfold gA;ext
def zf(hr:0<=r)(hc:0<=c)(hs:0<=s)(n:Nat):eR r c s n<=n*(c+s) ^ n:=by
 have:=MX (f:=gA r) (g:=λ_=>(n:Int)) (xs:=dN n c s) (k:=0) (zd hc hs n) λj _ h=>by rw[t8]at h;unfold gA;ext
 rwa [MY,MV]at this
def N4{o d:Int}{l:Nat}(hn:n<=10)(hl:l<=10)(hr:0<=r/\r<=1000)(hc:0<=c/\c<=o)(ho:o<=1000)(h1:1<=o)(hd:0<=d/\d<=1000000):okMul (-d*eR r c (o-c) n) (o ^ l):=by have a1:=ze (r:=r) hc.1 (show 0<=o-c by ext) n;have a2:=zf hr.1 hc.1 (show 0<=o-c by ext) n;rw[show c+(o-c)=o by ext]at a2;have a3:o ^ n<=1000 ^ 10:=gW 10 ∅ ho ∅ hn;have a4:(n:Int)*o ^ n<=10*1000 ^ 10:=z7s ∅ a3 (li ∅ n) ∅;have b1:=z7w hd.1 a1;have b2:d*eR r c (o-c) n<=1000000*(10*1000 ^ 10):=z7s hd.2 ∅ a1 ∅;have c1:=li (show 0<=o by ext) l;have c2:o ^ l<=1000 ^ 10:=gW 10 ∅ ho ∅ hl;have e:-d*eR r c (o-c) n = -(d*eR r c (o-c) n):=Int.neg_mul ..;exact wM (l9 ∅ ∅) (l9 ∅ ∅)
def zg{o d:Int}(hS:S<=10)(hr:0<=r/\r<=1000)(hc:0<=c/\c<=o)(ho:o<=1000)(h1:1<=o)(hd:0<=d/\d<=1000000):oq [.int (S:Nat),.tup [.int r,.int c,.int o,.int d]]=some (DI (ends r c o d S)):=by
 refine cB (bZ rfl ?_);grind;refine fI (α:=Nat) ?_;lia;refine⟨⟨by ext,by ext⟩,λl=>.int (l:Nat),λl=>.int (lO r c o d (S-l) l),List.range (S+1),by rw[show((S:Int)+1).toNat=S+1 by ext],by simp;ext,λl hl=>⟨_,rfl,?_⟩,?_⟩
 ·have hl:=z7p.mp hl
  grind;rw[show(S:Int)-(l:Int)=((S-l:Nat):Int)by ext];refine bu (N3 ∅ ∅ hr hc ∅ hd (N4 ∅ ∅ hr hc ho h1 hd)) ?_;lia
 lia;simp[ends]
noncomputable def bi:List z9->Int->z9
 |[],l=>[l]
 |r::rs,l=>((bi rs l).headD 0*r.sum)::bi rs l
def zh(rs:List z9)(l:Int):bi rs l≠[]:=by cases rs<;>simp[bi]
def iV(rs:List z9)(l:Int):(bi rs l).length=rs.length+1:=by
 induction rs with
 |nil=>rfl
 |cons r rs ih=>simp[bi,ih]
def N5(h:xs≠[])(h':xs.reverse≠[]):xs.reverse.getLast h'=xs.headD 0:=by
 cases xs with
 |nil=>exact absurd rfl h
 |cons x r=>simp
def t9(hr:∀r∈I_,0<=r.sum/\r.sum<1000000)(hl:I_.length<=1000):lJ [DII I_,.int last]=some (DI (bi I_ last)):=by
 refine cB (bZ rfl ?_);grind;rw[<- z5j];refine nw _ _ (λk ρ=>∃o,ρ=[some (DII I_),some (.int last),some (DI (bi ((I_.reverse.take k).reverse) last).reverse),o]) ⟨_,rfl⟩ ?_ ?_
 ·rintro ρ ⟨o,rfl⟩
  lia;rw[z6a,z7r (by simp),z5l,<- z5j,z5l]
 ·rintro k hk ρ ⟨o,rfl⟩
  rw[z6a]at hk;walk_at"env";refine Gz rfl (by simp[iV];ext) ?_;lia;refine Hc (by simp[zh]) ?_;lia;refine bu yV ?_;have hm:=hr (I_.reverse[k]) (by rw[<- List.mem_reverse];exact z9u _);lia;walk_at"env";rw[He];have e:(bi (I_.reverse.take (k+1)).reverse last).reverse=(bi (I_.reverse.take k).reverse last).reverse++[(bi (I_.reverse.take k).reverse last).headD 0*I_.reverse[k].sum]:=by rw[z8p (by simpa using hk),List.reverse_append,List.reverse_singleton,List.singleton_append,bi,z6i]
  rw[e,N5 (zh _ _)];exact⟨_,rfl⟩
def zi{bs:z9}{s:Nat}(hm:okMul f scale)(hs:s<bs.length)(h0:0<s):om [.int f,.int scale,DI bs,.int (s:Nat)]=some (.int (f*scale+bs.getD (s-1) 0)):=by refine cB (cC (bZ rfl ?_));grind;refine dH ∅ ∅ ?_;lia;rw[show((s:Int)-1).toNat=s-1 by ext]
noncomputable def iW(f scale:Int)(bs:z9)(s:Nat):Int:=if s=0 then bs.getD 0 0 else max (bs.getD s 0) (f*scale+bs.getD (s-1) 0)
noncomputable def tf(row cs:z9)(kept:Int):Int:=(List.zipWith (λa b=>a*b) row (cs++[kept])).sum
def oG(H_ row:z9)(scale:Int)(bs:z9)(s:Nat):Int:=tf row (H_.map λf=>iW f scale bs s) (bs.getD s 0)
def i5(H_ row:z9)(scale:Int)(bs:z9):z9:=(List.range bs.length).map (oG H_ row scale bs)
def fv(xs:z9):Prop:=∀x∈xs,-1000000000000<=x/\x<=1000000000000
def N6{bs:z9}{s:Nat}(hf:-1000000000000<=f/\f<=1000000000000)(hs:s<bs.length):sG [.int f,.int scale,DI bs,.int (s:Nat)]=some (.int (iW f scale bs s)):=by
 refine cB (cC (bZ rfl ?_));unfold iW;grind;refine au (λh=>?_) λh=>?_
 ·lia
  refine dH ∅ ∅ ?_;lia;have:s=0:=by ext
  subst this;simp
 ·lia
  refine dH ∅ ∅ ?_;lia;refine bu (zi (qW ∅ ∅) hs ∅) ?_;lia;rw[if_neg ∅,z7a]
def N7{cs:z9}{kept:Int}(hr:fv row)(hl:row.length<=1000)(hc:cs.length<=1000):sF [DI row,DI cs,.int kept]=some (.int (tf row cs kept)):=by
 refine cB (cC (bZ rfl ?_));grind;refine qZ (α:=Int×Int) ?_;lia;rw[Hh];lia;refine⟨_,λp=>p.1*p.2,_,wR _ _ _ _,by simp;ext,λp hp=>⟨_,rfl,?_⟩,?_⟩
 ·have:=hr _ (z4p hp).1
  grind
 lia;rw[tf,<- z4m];rfl
def N8{bs:z9}{s:Nat}(hf:fv H_)(hr:fv row)(hlf:H_.length<=1000)(hl:row.length<=1000)(hs:s<bs.length):sH [DI H_,DI row,.int scale,DI bs,.int (s:Nat)]=some (.int (oG H_ row scale bs s)):=by
 refine cB (cC (bZ rfl ?_));grind;refine qZ (α:=Int) ?_;lia;refine⟨.int,λf=>iW f scale bs s,H_,rfl,by ext,λf hx=>⟨_,rfl,?_⟩,?_⟩
 ·walk_at"env"
  lia;refine bu (N6 (hf f hx) hs) ?_;lia
 lia;refine dH ∅ ∅ ?_;lia;rw[z7a];refine bu (N7 hr hl (by simp;ext)) ?_;lia;rfl
def N9{bs:z9}(hf:fv H_)(hr:fv row)(hlf:H_.length<=1000)(hl:row.length<=1000)(hs:bs.length<=1000):sI [DI H_,DI row,.int scale,DI bs]=some (DI (i5 H_ row scale bs)):=by
 refine cB (bZ rfl ?_);grind;refine qZ (α:=Nat) ?_;lia;rw[z9c];refine⟨⟨by ext,by ext⟩,λs=>.int (s:Nat),λs=>oG H_ row scale bs s,List.range bs.length,by rw[z7a],by simp;ext,λs hx=>⟨_,rfl,?_⟩,?_⟩
 ·have hx:=z7p.mp hx
  grind;refine bu (N8 hf hr hlf hl hx) ?_;lia
 lia;rfl
def Na(H_ row:z9)(scale:Int)(bs:z9):(i5 H_ row scale bs).length=bs.length:=by simp[i5]
noncomputable def b9(H_:z9):List z9->Int->z9->List z9
 |[],_,ends=>[ends]
 |r::rs,last,ends=>i5 H_ r ((bi rs last).headD 0) ((b9 H_ rs last ends).headD [])::b9 H_ rs last ends
def oH(H_:z9)(rs:List z9)(last:Int)(ends:z9):b9 H_ rs last ends≠[]:=by cases rs<;>simp[b9]
def lP(H_:z9)(rs:List z9)(last:Int)(ends:z9):(b9 H_ rs last ends).length=rs.length+1:=by
 induction rs with
 |nil=>rfl
 |cons r rs ih=>simp[b9,ih]
def Nb(H_:z9)(rs:List z9)(last:Int)(ends:z9):∀r∈b9 H_ rs last ends,r.length=ends.length:=by
 induction rs with
 |nil=>intro r hr;simp[b9]at hr;rw[hr]
 | cons r rs ih=>
   intro q hq;simp only[b9,z9k]at hq;rcases hq with rfl|hq
   ·rw[Na]
    cases ht:b9 H_ rs last ends with
    |nil=>exact absurd ht (oH _ _ _ _)
    |cons a b=>rw[z4u];exact ih a (by rw[ht];exact z9a)
   ·exact ih q hq
def zj(H_:z9)(rs:List z9)(last:Int)(ends:z9):((b9 H_ rs last ends).headD []).length=ends.length:=by
 cases ht:b9 H_ rs last ends with
 |nil=>exact absurd ht (oH _ _ _ _)
 |cons a b=>rw[z4u];exact Nb H_ rs last ends a (by rw[ht];exact z9a)
def Nc{xs:List z9}(h:xs≠[])(h':xs.reverse≠[]):xs.reverse.getLast h'=xs.headD []:=by
 cases xs with
 |nil=>exact absurd rfl h
 |cons x r=>simp
theorem tj(l:Int):∀(rs:List z9) (k:Nat),k<=rs.length->(bi rs l).getD k 0=(bi (rs.drop k) l).headD 0
 |rs,0,_=>by cases h:bi rs l<;>simp[h]
 |r::rs,k+1,h=>by rw[bi,List.getD_cons_succ,z6z,tj l rs k (by simpa using h)]
def zk{ends:z9}(hf:fv H_)(hlf:H_.length<=1000)(hr:∀r∈I_,fv r/\r.length<=1000)(hs:∀r∈I_,0<=r.sum/\r.sum<1000000)(ht:I_.length<=1000)(he:ends.length<=1000):
  on [DI H_,DII I_,.int last,DI ends]=some (DII (b9 H_ I_ last ends)):=by
 refine cB (bZ rfl ?_);grind;refine bu (t9 hs ht) ?_;lia;rw[z9c];refine⟨_,_,rfl,⟨by ext,by ext⟩,⟨by ext,by ext⟩,?_⟩;rw[show((I_.length:Int)-1 - -1).toNat=I_.length by ext];refine nw _ _ (λk ρ=>∃a,ρ=[some (DI H_),some (DII I_),some (.int last),some (DI ends),some (DI (bi I_ last)),some (DII (b9 H_ (I_.drop (I_.length-k)) last ends).reverse),a]) ⟨none,by rw[Nat.sub_zero,z6c];rfl⟩ ?_ ?_
 ·rintro ρ ⟨a,rfl⟩
  rw[z8x,Nat.sub_self,z6m];refine wE ?_;refine Hm rfl ?_;rw[z5l];refine wF ?_;rfl
 ·rintro k hk ρ ⟨a,rfl⟩
  rw[z8x]at hk;simp only[z3e];walk_at"env";have htl:=lP H_ (I_.drop (I_.length-k)) last ends;rw[z7l]at htl;refine Hl rfl (by rw[z9c,z6a,htl];ext) ?_;lia;refine lf ∅ ∅ ?_;lia;refine dH ∅ (by rw[iV];ext) ?_;lia;refine Hj (by simp[oH]) ?_;lia;have hi:I_.length-1-k<I_.length:=by ext
  rw[Nc (oH _ _ _ _),show((I_.length:Int)-1-(k:Nat)).toNat=I_.length-1-k by ext,show((I_.length:Int)-1-(k:Nat)+1).toNat=I_.length-k by ext,tj _ _ _ ∅,gp _ _ _ hi];have hm:=hr _ (z9u hi);refine bu (N9 hf hm.1 hlf hm.2 (by rw[zj];exact he)) ?_;refine⟨_,rfl,?_⟩;rw[show(b9 H_ (I_.drop (I_.length-k)) last ends).reverse.map DI++[DI (i5 H_ I_[I_.length-1-k] ((bi (I_.drop (I_.length-k)) last).headD 0) ((b9 H_ (I_.drop (I_.length-k)) last ends).headD []))]=((b9 H_ (I_.drop (I_.length-k)) last ends).reverse++[i5 H_ I_[I_.length-1-k] ((bi (I_.drop (I_.length-k)) last).headD 0) ((b9 H_ (I_.drop (I_.length-k)) last ends).headD [])]).map DI by simp];refine wI ?_;walk_at"env";have e:b9 H_ (I_.drop (I_.length-(k+1))) last ends=i5 H_ I_[I_.length-1-k] ((bi (I_.drop (I_.length-k)) last).headD 0) ((b9 H_ (I_.drop (I_.length-k)) last ends).headD [])::b9 H_ (I_.drop (I_.length-k)) last ends:=by rw[show I_.length-(k+1)=I_.length-1-k by ext,z8c hi,b9,show I_.length-1-k+1=I_.length-k by ext]
  rw[e,z6i];exact⟨_,rfl⟩
theorem tm(H_:z9)(last:Int)(ends:z9):∀(rs:List z9) (k:Nat),k<=rs.length->(b9 H_ rs last ends).getD k []=(b9 H_ (rs.drop k) last ends).headD []
 |rs,0,_=>by rw[z6m];cases b9 H_ rs last ends<;>rfl
 |r::rs,k+1,h=>by rw[b9,List.getD_cons_succ,z6z,tm H_ last ends rs k (by simpa using h)]
def oI(H_:z9)(last:Int)(ends:z9)(rs:List z9)(t:Nat)(h:t<=rs.length):((b9 H_ rs last ends).getD t []).length=ends.length:=by rw[tm _ _ _ _ _ h,zj]
theorem zl{n:Nat}{l:Int}(hn:n<=10)(h1:1<=l)(h2:l<=10 ^ 40):∀{rs:List z9},RowsOk n rs->1<=(bi rs l).headD 0/\(bi rs l).headD 0<=10 ^ 40*1000000 ^ rs.length
 |[],_=>by simp[bi];ext
 | r::rs,h=>by
   obtain⟨i1,i2⟩:=zl hn h1 h2 (rs:=rs) λq hq=>h q (z9d _ hq)
   have hs:=h.sum hn r z9a;have hp:=(h r z9a).2.2;rw[bi,z4u,z9b,z6b];generalize (bi rs l).headD 0=x at i1 i2 ⊢;generalize r.sum=y at hs hp ⊢;have e1:x*1<=x*y:=z7n ∅ ∅;have e2:x*y<=(10 ^ 40*1000000 ^ rs.length)*1000000:=z7s i2 ∅ ∅ ∅;rw[Int.mul_assoc]at e2;exact⟨by ext,e2⟩
def zm{l:Int}(hn:n<=10)(h1:1<=l)(h2:l<=10 ^ 40){rs:List z9}(h:RowsOk n rs)(h8:rs.length<=8):1<=(bi rs l).headD 0/\(bi rs l).headD 0<=10 ^ 88:=by obtain⟨i1,i2⟩:=zl hn h1 h2 h;have:=gW (x:=1000000) (B:=1000000) (n:=rs.length) 8 ∅ ∅ ∅ h8;exact⟨i1,by ext⟩
def RowsOk.drop{k:Nat}{ts:List z9}(h:RowsOk n ts):RowsOk n (ts.drop k):=λr hr=>h r (List.mem_of_mem_drop hr)
noncomputable def jV(f scale:Int)(bs:z9)(s:Nat):Bool:=decide (0<s/\bs.getD s 0<=f*scale+bs.getD (s-1) 0)
def Nd{bs:z9}{s:Nat}(hm:okMul f scale)(hs:s<bs.length):sJ [.int f,.int scale,DI bs,.int (s:Nat)]=some (.bl (jV f scale bs s)):=by
 refine cB (cC (bZ rfl ?_));unfold jV;grind;refine au (λh=>?_) λh=>?_
 ·lia
  refine bu (zi hm hs ∅) ?_;lia;refine dH ∅ ∅ ?_;lia;rw[z7a];exact z8u D.bl (z5k.mpr ⟨λq=>⟨by ext,q⟩,λq=>q.2⟩)
 ·lia
  exact z8u D.bl (z8h λq=>h ∅).symm
def Nf{bs:z9}{s:Nat}(h1:1<=scale)(h2:scale<=10 ^ 130)(h0:0<s)(hs:s<bs.length):sK [.int scale,DI bs,.int (s:Nat)]=some (.int (-((bs.getD (s-1) 0-bs.getD s 0) / scale))):=by refine cB (cC (bZ rfl ?_));grind;refine dH ∅ ∅ ?_;lia;refine dH ∅ ∅ ?_;lia;rw[show((s:Int)-1).toNat=s-1 by ext,z7a]
structure Sale (S:Nat) (H_:z9) (I_:List z9) (r c o d:Int):Prop where
 hS:S<=10
 f1:1<=H_.length
 f2:H_.length<=6
 f3:∀x∈H_,1<=x/\x<=1000000
 t1:I_.length<=8
 t2:RowsOk H_.length I_
 r1:0<=r
 r2:r<=10
 c1:0<=c
 c2:c<=o
 o1:1<=o
 o2:o<=1000
 d1:0<=d
 d2:d<=1000000
def aY(S:Nat)(H_:z9)(I_:List z9)(r c o d:Int)(J0 J1:Nat)(J4:Int)(J5 J6:D):E_:=
 [.int (S:Nat),DI H_,.tup [.int r,.int c,.int o,.int d],DI (bi I_ (o ^ S)),DII (b9 H_ I_ (o ^ S) (ends r c o d S)),.int (J0:Nat),.int (J1:Nat),.int J4,J5,J6]
def zn{o d:Int}(hn:n<=100)(ho:0<=o/\o<=1000):ot [.int (n:Nat),.tup [.int r,.int c,.int o,.int d]]=some (.int (o ^ n)):=by refine cB (cC (bZ rfl ?_));grind;refine bu (yZ ∅ ∅) ?_;lia
section
variable {of d:Int}
def tq(hm:M o=some (.ins C c_ (aY S H_ I_ r c of d J0 J1 J4 J5 J6)))(h:Q (.int (J0:Nat)) M):gv CD C [.ptr o] M Q:=by refine ca rfl ?_;grind;exact h
end
section
variable {of d:Int}
def iX(hm:M o=some (.ins C c_ (aY S H_ I_ r c of d J0 J1 J4 J5 J6)))(hs:J1<=S)(h:Q (.int ((S-J1:Nat):Int)) M):gu CD C [.ptr o] M Q:=by refine ca rfl ?_;grind;rw[show(S:Int)-(J1:Int)=((S-J1:Nat):Int)by ext];exact h
def iY(hm:M o=some (.ins C c_ (aY S H_ I_ r c of d J0 J1 J4 J5 J6)))(h:Q (.bl (decide (J0=I_.length))) M):ow CD C [.ptr o] M Q:=by refine ca rfl ?_;grind;rw[show List.map (vw1 M) [DI (bi I_ (of ^ S))]=[DI (bi I_ (of ^ S))]from rfl];lia;rw[z9c,iV,show decide ((J0:Int)=((I_.length+1:Nat):Int)-1)=decide (J0=I_.length)from z5k.mpr ∅];exact h
def Ng(hm:M o=some (.ins C c_ (aY S H_ I_ r c of d J0 J1 J4 J5 J6)))(h:Q .non M):ox CD C [.ptr o,.non] M Q EX:=by refine bb rfl ?_;grind;exact h
def Nh{k:Nat}(hm:M o=some (.ins C c_ (aY S H_ I_ r c of d J0 J1 J4 J5 J6)))(hk:k<H_.length)(h:Q (.int (H_.getD k 0)) M):ox CD C [.ptr o,.int (k:Nat)] M Q EX:=by refine bb rfl ?_;grind;rw[show List.map (vw1 M) [DI H_]=[DI H_]from rfl];lia;rw[z9c,z8d (show(0:Int)<=(k:Nat)/\((k:Nat):Int)<=(H_.length:Int)-1 by ext)];lia;refine dH ∅ ∅ ?_;rw[z7a];exact h
def Ni(hm:M o=some (.ins C c_ (aY S H_ I_ r c of d J0 J1 J4 J5 J6)))(h:Q (.bl false) M):oy CD C [.ptr o,.non] M Q:=by refine ca rfl ?_;grind;exact h
def Nj(hm:M o=some (.ins C c_ (aY S H_ I_ r c of d J0 J1 J4 J5 J6)))(hs:J1<=S)(ht:J0<I_.length)(hf:1<=f/\f<=1000000)(h:Q (.bl (jV f ((bi I_ (of ^ S)).getD (J0+1) 0) ((b9 H_ I_ (of ^ S) (ends r c of d S)).getD (J0+1) []) (S-J1))) M):oy CD C [.ptr o,.int f] M Q:=by refine ca rfl ?_;grind;refine dH ∅ (by rw[iV];ext) ?_;lia;refine lf ∅ (by rw[lP];ext) ?_;lia;rw[show((J0:Int)+1).toNat=J0+1 by ext];refine iX hm hs ?_;lia;refine bu (Nd (qW ∅ ∅) (by rw[oI _ _ _ _ _ ∅,jU];ext)) ?_;lia;exact h
def gC(S J1 J0:Nat)(H_:z9)(I_:List z9)(r c of d:Int):D:=
 if S-J1=0 then .non else .int (-((((b9 H_ I_ (of ^ S) (ends r c of d S)).getD (J0+1) []).getD (S-J1-1) 0-((b9 H_ I_ (of ^ S) (ends r c of d S)).getD (J0+1) []).getD (S-J1) 0) / (bi I_ (of ^ S)).getD (J0+1) 0))
def oJ(s:Sale S H_ I_ r c of d){t:Nat}(ht:t<=I_.length):1<=(bi I_ (of ^ S)).getD t 0/\(bi I_ (of ^ S)).getD t 0<=10 ^ 88:=by
 rw[tj _ _ _ ht];have h1:=s.o1;have h2:=s.o2;have h3:=s.hS;have p0:(1:Int)<=of ^ S:=by
  have:∀n:Nat,(1:Int)<=of ^ n:=λn=>by
   induction n with
   |zero=>simp
   |succ n ih=>rw[z6b];have:=z7s ih h1 ∅ ∅;ext
  exact this S
 have p1:of ^ S<=1000 ^ 10:=gW 10 ∅ h2 ∅ h3;exact zm (by have:=s.f2;ext) p0 ∅ s.t2.drop (by have:=s.t1;rw[z7l];ext)
def zo(s:Sale S H_ I_ r c of d)(hm:M o=some (.ins C c_ (aY S H_ I_ r c of d J0 J1 J4 J5 J6)))(hs:J1<=S)(ht:J0<I_.length)(h:Q (gC S J1 J0 H_ I_ r c of d) M):sS CD C [.ptr o] M Q:=by
 refine ca rfl ?_;grind;refine iX hm hs ?_;lia;refine au (λe=>?_) λe=>?_
 ·lia
  rw[gC,if_pos ∅]at h;exact h
 ·lia
  refine dH ∅ (by rw[iV];ext) ?_;lia;refine lf ∅ (by rw[lP];ext) ?_;lia;rw[show((J0:Int)+1).toNat=J0+1 by ext];refine iX hm hs ?_;lia;have hsc:=oJ s (t:=J0+1) ∅;refine bu (Nf hsc.1 ∅ ∅ (by rw[oI _ _ _ _ _ ∅,jU];ext)) ?_;lia;rw[gC,if_neg ∅]at h;exact h
def zp(s:Sale S H_ I_ r c of d)(hm:M o=some (.ins C c_ (aY S H_ I_ r c of d J0 J1 J4 J5 J6)))(hs:J1<=S)(ht:J0<I_.length)(h:∀M',M' o=some (.ins C c_ (aY S H_ I_ r c of d (J0+1) J1 J4 J5 (.tup [.int (J0:Nat),.int ((S-J1:Nat):Int),gC S J1 J0 H_ I_ r c of d,.non])))->Kp (· = o) M M'->Q (.bl false) M'):fu CD C [.ptr o,.non] M Q EX:=by refine bb rfl ?_;grind;refine iY hm ?_;rw[z8h ∅];lia;refine Ng hm ?_;lia;refine Ni hm ?_;lia;refine iX hm hs ?_;lia;refine zo s hm hs ht ?_;lia;refine⟨o,_,rfl,hm,?_⟩;lia;refine⟨o,_,rfl,aB,?_⟩;rw[dR];lia;refine h _ ?_ (Kp.upd (.inl rfl));rw[aB];rfl
def zq{k:Nat}(s:Sale S H_ I_ r c of d)(hm:M o=some (.ins C c_ (aY S H_ I_ r c of d J0 J1 J4 J5 J6)))(hs:J1<=S)(ht:J0<I_.length)(hk:k<H_.length)(hb:jV (H_.getD k 0) ((bi I_ (of ^ S)).getD (J0+1) 0) ((b9 H_ I_ (of ^ S) (ends r c of d S)).getD (J0+1) []) (S-J1)=b)(h:∀M',M' o=some (.ins C c_ (aY S H_ I_ r c of d (J0+1) (J1+(if b=true then 1 else 0)) (J4+(if b=true then H_.getD k 0 else 0)) J5 (.tup [.int (J0:Nat),.int ((S-J1:Nat):Int),gC S J1 J0 H_ I_ r c of d,.int (H_.getD k 0)])))->Kp (· = o) M M'->Q (.bl b) M'):fu CD C [.ptr o,.int (k:Nat)] M Q EX:=by
 have hf:1<=H_.getD k 0/\H_.getD k 0<=1000000:=by rw[gp _ _ _ hk];exact s.f3 _ (z9u _)
 refine bb rfl ?_;grind;refine iY hm ?_;rw[z8h ∅];lia;refine Nh hm hk ?_;lia;refine Nj hm hs ht hf ?_;rw[hb];lia;refine iX hm hs ?_;lia;refine zo s hm hs ht ?_;lia;refine⟨o,_,rfl,hm,?_⟩;lia;refine⟨o,_,rfl,aB,?_⟩;rw[dR];cases b with
 |true=>lia;refine⟨o,_,rfl,aB,?_⟩;rw[dR];lia;refine⟨o,_,rfl,aB,?_⟩;rw[dR];lia;refine h _ ?_ (Kp.upd (.inl rfl));rw[aB];rfl
 |false=>lia;refine h _ ?_ (Kp.upd (.inl rfl));rw[aB,if_neg z8g,if_neg z8g,Int.add_zero];rfl
end
section
variable {of d:Int}
def zr{lt:E_}(hm:M o=some (.ins C c_ (aY S H_ I_ r c of d J0 J1 J4 J5 (.tup lt))))(h:Q (.tup lt) M):jQ CD C [.ptr o] M Q EX:=by refine bb rfl ?_;grind;exact h
end
section
variable {of d:Int}
def zt(hm:M o=some (.ins C c_ (aY S H_ I_ r c of d J0 J1 J4 .non J6)))(h:Q (.int J4) M):fU CD C [.ptr o] M Q:=by refine ca rfl ?_;grind;exact h
def tu(hm:M o=some (.ins C c_ (aY S H_ I_ r c of d J0 J1 J4 (.int due) J6)))(h:Q (.int (J4-due)) M):fU CD C [.ptr o] M Q:=by refine ca rfl ?_;grind;exact h
end
section
variable {of d:Int}
def zu(s:Sale S H_ I_ r c of d)(hm:M o=some (.ins C c_ (aY S H_ I_ r c of d I_.length J1 J4 .non J6)))(hn:num<=J1)(h:∀M',M' o=some (.ins C c_ (aY S H_ I_ r c of d I_.length J1 J4 (.int (d*max ((num:Int)-r) 0)) J6))->Kp (· = o) M M'->Q (.int (J4-d*max ((num:Int)-r) 0)) M'):fV CD C [.ptr o,.int (num:Nat)] M Q EX:=by have hd1:=s.d1;have hd2:=s.d2;refine bb rfl ?_;grind;refine iY hm ?_;rw[z8d rfl];lia;rw[z8d (show(0:Int)<=(num:Nat)/\((num:Nat):Int)<=(J1:Nat)by ext)];lia;rw[show List.map (vw1 M) [D.int ((num:Int)-r),D.int 0]=[D.int ((num:Int)-r),D.int 0]from rfl];lia;refine⟨o,_,rfl,hm,?_⟩;lia;refine tu (due:=d*max ((num:Int)-r) 0) (J4:=J4) (S:=S) (H_:=H_) (I_:=I_) (r:=r) (c:=c) (of:=of) (d:=d) (J0:=I_.length) (J1:=J1) (J6:=J6) (by rw[aB];rfl) ?_;lia;exact h _ (by rw[aB];rfl) (Kp.upd (.inl rfl))
end
def iZ(S:Nat)(H_:z9)(I_:List z9)(r c of d:Int):D:=.tup [.int (S:Nat),DI H_,DII I_,.tup [.int r,.int c,.int of,.int d]]
noncomputable def i6(tk:z8):E_:=tk.map λ(j:Nat)=>D.int (j:Nat)
theorem zv(c:Nat):∀(l:z8),fQ l [c]=decide (c∈l)
 |[]=>by simp[fQ]
 | a::l=>by
   rw[fQ,zv c l];by_cases h:c=a
   ·subst h;simp[List.isPrefixOf]
   ·simp[List.isPrefixOf,h]
def zw{α:Type}{motive:List α->Prop}(nil:motive [])(append_singleton:∀l a,motive l->motive (l++[a]))(l:List α):motive l:=by
 have:∀r:List α,motive r.reverse:=λr=>by
  induction r with
  |nil=>exact nil
  |cons a r ih=>rw[z6i];exact append_singleton _ _ ih
 have h:=this l.reverse
 rwa [z5l]at h
def tz(l:z8)(c:Nat):cr (l++[c])=10*cr l+(c-48):=by simp[cr]
def Nk:∀(l:z8),(∀c∈l,48<=c/\c<=57)->cr l<10 ^ l.length:=by
 intro l
 induction l using zw with
 |nil=>intro _;simp[cr]
 | append_singleton l c ih=>
   intro h;have h1:=ih λx hx=>h x (z8i _ hx)
   have h2:=h c (by simp);rw[tz,z9f,z4j,Nat.pow_succ];ext
def Nl:∀(l:z8),l≠[]->(∀c∈l,48<=c/\c<=57)->(l=[48]\/l.head?≠some 48)->digs (cr l)=l/\(l.head?≠some 48->0<cr l):=by
 intro l
 induction l using zw with
 |nil=>intro h;exact absurd rfl h
 | append_singleton l c ih=>
   intro hn h hz;have h2:=h c (by simp);rw[tz];cases l with
   | nil=>
     simp only[cr,List.foldl_nil,z4r,Nat.mul_zero,Nat.zero_add,List.head?_cons,_root_.ne_eq,z6t];constructor
     ·rw[digs,if_pos ∅]
      congr 1;ext
     ·intro h48;ext
   | cons a r=>
     have hz':(a::r).head?≠some 48:=by
      rcases hz with hz|hz
      ·have:=z8u List.length hz
       simp at this
      ·simpa using hz
     obtain⟨i1,i2⟩:=ih (by simp) (λx hx=>h x (z8i _ hx)) (.inr hz');have i3:=i2 hz';constructor
     ·rw[digs,if_neg ∅]
      have e1:(10*cr (a::r)+(c-48)) / 10=cr (a::r):=by ext
      have e2:(10*cr (a::r)+(c-48)) % 10=c-48:=by ext
      rw[e1,e2,i1];congr 2;ext
     ·intro _;ext
def Asc(z:Str):Prop:=(tx z).all (λc=>decide (c<128))=true
def lQ{x y:Str}:x=y↔tx x=tx y:=⟨λh=>by rw[h],λh=>by rw[<- fP x,h,fP]⟩
def zx{s:Str}{m:Int}(ha:Asc z)(hl:(tx z).length<=10000):iR [.str z,.str s,.int m]=some (.bl (decide ((1<=((tx z).length:Int)/\((tx z).length:Int)<=m)/\∀c∈tx z,c∈tx s))):=by
 have hl':(tx z).length<=100000:=by ext
 have:WF iR [.str z,.str s,.int m] λd=>d=.bl (decide ((1<=((tx z).length:Int)/\((tx z).length:Int)<=m)/\∀c∈tx z,c∈tx s)):=by
  refine cC (bZ rfl ?_);grind;refine au (λh1=>?_) λh1=>?_
  ·lia
   refine au (λh2=>?_) λh2=>?_
   ·lia
    refine ny (α:=Nat) (λc=>c∈tx s) ?_;lia;refine⟨⟨ha,hl'⟩,λc=>.str (mkT [c]),tx z,rfl,by ext,λc hc=>⟨[.str (mkT [c])],rfl,?_⟩,λbs hb=>?_⟩
    ·walk_at"env"
     lia;rw[aA,zv];simp
    ·lia
     refine z8u D.bl ?_;rw[z4s,hb,z3d];exact⟨λh=>⟨⟨h1,h2⟩,h⟩,λh=>h.2⟩
   ·lia
    exact z8u D.bl (z8h λh=>h2 h.1.2).symm
  ·lia
   exact z8u D.bl (z8h λh=>h1 h.1.1).symm
 obtain⟨d,h,rfl⟩:=this;exact h
def gD:(" " : Str)=mkT [32]:=by decide +kernel
def tD:("" : Str)=mkT []:=by decide +kernel
def c_0:("0" : Str)=mkT [48]:=by decide +kernel
noncomputable def oK:z8:=[48,49,50,51,52,53,54,55,56,57]
noncomputable def dD:z8:=[97,98,99,100,101,102,103,104,105,106,107,108,109,110,111,112,113,114,115,116,117,118,119,120,121,122]
def Nm:("0123456789" : Str)=mkT oK:=by decide +kernel
def zy:("abcdefghijklmnopqrstuvwxyz" : Str)=mkT dD:=by decide +kernel
def mem_figs{c:Nat}:c∈oK↔(48<=c/\c<=57):=by
 have h1:∀x∈oK,48<=x/\x<=57:=by decide
 have h2:∀i:Fin 10,48+i.1∈oK:=by decide
 refine⟨h1 c,λh=>?_⟩;have h3:=h2 ⟨c-48,by ext⟩
 rwa [show 48+(c-48)=c from Nat.add_sub_cancel' h.1]at h3
def Nn{l:List z8}:inD (.str "") (.lst (l.map λx=>.str (mkT x)))=some (.bl (decide ([]∈l))):=by
 have h1:(l.map λx=>D.str (mkT x)).all aS=true:=by rw[z9t];intro d hd;obtain⟨x,_,rfl⟩:=z8z.mp hd;rfl
 have h2:(l.map λx=>D.str (mkT x)).any (λd=>dm d (.str ""))=decide ([]∈l):=by
  induction l with
  |nil=>rfl
  | cons a r ih=>
    rw[z9p,z6k,ih (by
     rw[z9p,z7v,z8m]at h1;exact h1.2),tD]
    show(mkT a==mkT []||_)=_;by_cases e:a=[]
    ·subst e;simp
    ·have e2:(mkT a==mkT [])=false:=z8t.mpr λz=>e (by rw[lQ,aA,aA]at z;exact z)
     rw[e2];simp[Ne.symm e]
 show(if aS (D.str "")=true/\_ then some (D.bl _)else none)=_;rw[if_pos ⟨rfl,h1⟩,h2]
abbrev ay(ls:List z8):E_:=ls.map λl=>.str (mkT l)
def zz(h:M a=some (.lst (ay ls))):vw3 M (.ptr a)=.lst (ay ls):=by
 have e:(ay ls).map (vw1 M)=ay ls:=by rw[ay,z7k];exact z5a λ_ _=>rfl
 show(match M a with|some (.lst ds)=>D.lst (ds.map (vw1 M))|_=>D.ptr a)=_;rw[h];simp only[e]
def zA(hl:(tx z).length<=10000)(h1:[]∈bI 32 (tx z)->∀M',Kp (λ_=>False) M M'->EX "NoRow" M')(h2:[]∉bI 32 (tx z)->∀a,M a=none->Q (.ptr a) (aK M a (.lst ((bI 32 (tx z)).map λl=>.str (mkT l))))):sV CD C [.str z] M Q EX:=by
 refine⟨rfl,?_⟩;grind;rw[gD];refine Kq hl ?_;refine⟨_,rfl,λa hn=>?_⟩;lia;rw[zz aB];refine gm (x:=.str "") Nn ⟨rfl,?_⟩;lia;refine au (λe=>?_) λe=>?_
 ·exact rW (by decide) (h1 e _ (Kp.upd (.inr hn)))
 ·lia
  exact h2 e a hn
def No(ha:Asc z)(hl:(tx z).length<=10000):iR [.str z,.str "0123456789",.int 7]=some (.bl (decide ((1<=(tx z).length/\(tx z).length<=7)/\∀c∈tx z,48<=c/\c<=57))):=by rw[zx ha hl,Nm,aA];congr 2;refine z5k.mpr ⟨λh=>⟨by ext,λc hc=>mem_figs.mp (h.2 c hc)⟩,λh=>⟨by ext,λc hc=>mem_figs.mpr (h.2 c hc)⟩⟩
def Np(ha:Asc z)(hl:(tx z).length<=10000):iR [.str z,.str "abcdefghijklmnopqrstuvwxyz",.int 8]=some (.bl (decide ((1<=(tx z).length/\(tx z).length<=8)/\∀c∈tx z,c∈dD))):=by rw[zx ha hl,zy,aA];congr 2;refine z5k.mpr ⟨λh=>⟨by ext,h.2⟩,λh=>⟨by ext,h.2⟩⟩
def at0{c:Nat}{r:z8}:atI (c::r) 0=some c:=by simp[atI,ixN]
def jW(l:z8):Prop:=((1<=l.length/\l.length<=7)/\∀c∈l,48<=c/\c<=57)/\(l=[48]\/l.head?≠some 48)
def str_is:z=mkT l↔tx z=l:=by rw[lQ,aA]
def Nq(ha:Asc z)(hl:(tx z).length<=10000)(h1:¬jW (tx z)->EX "NoRow" M)(h2:jW (tx z)->Q (.int (cr (tx z):Nat)) M):iT CD C [.str z] M Q EX:=by
 refine⟨rfl,?_⟩;grind;refine bu (No ha hl) ?_;lia;have bad:∀{E:EndN},E.ex=EX->¬jW (tx z)->jL "NoRow" (a5 0) E [some (.str z)] M:=λ{E} he hn=>by refine rZ (by decide) ?_ (by rw[he];exact h1 hn);lia;exact⟨z,rfl,ha,hl⟩
 refine gU (λh=>?_) λh=>?_
 ·lia
  exact bad rfl λg=>h g.1
 ·cases ez:tx z with
  |nil=>rw[ez]at h;simp at h
  | cons c r=>
    lia;refine lG (c:=c) ∅ (by rw[ez];exact at0) ?_;lia;rw[c_0];have fin:jW (tx z)->WF (ar jK) [.str z] λd=>Q d M:=λg=>by
     have g1:tx z≠[]:=by rw[ez];exact λz=>nomatch z
     have lt:=Nk (tx z) g.1.2;have le:10 ^ (tx z).length<=10 ^ 7:=Nat.pow_le_pow_right ∅ g.1.1.2;exact Ko ∅ (Nl (tx z) g1 g.1.2 g.2).1 (h2 g)
    refine au (λe=>?_) λe=>?_
    ·have e:c=48:=by rw[str_is,aA]at e;simpa using e
     lia;refine gU (λe2=>?_) λe2=>?_
     ·lia
      refine bad rfl λg=>g.2.elim (λq=>e2 (str_is.mpr q)) λq=>q ?_
      rw[ez,e];rfl
     ·lia
      exact fin ⟨h,.inl (str_is.mp e2)⟩
    ·lia
     refine fin ⟨h,.inr λq=>e ?_⟩;rw[ez]at q;have:c=48:=by simpa using q
     rw[this]
def fw(l:z8):Prop:=(1<=l.length/\l.length<=8)/\∀c∈l,c∈dD
def Nr(ha:Asc z)(hl:(tx z).length<=10000)(h1:¬fw (tx z)->EX "NoRow" M)(h2:fw (tx z)->Q (.str z) M):sX CD C [.str z] M Q EX:=by
 refine⟨rfl,?_⟩;grind;refine bu (Np ha hl) ?_;lia;refine gU (λh=>?_) λh=>?_
 ·refine rZ (by decide) ?_ (h1 h)
  lia;exact⟨z,rfl,ha,hl⟩
 ·lia
  exact h2 h
def asc_mk:Asc (mkT l)↔∀c∈l,c<128:=by unfold Asc;rw[aA,z9t];exact⟨λh c hc=>z6j (h c hc),λh c hc=>z8d (h c hc)⟩
theorem zB:∀(cs:z8),bc [] (cs.map λc=>[c])=cs
 |[]=>rfl
 |[c]=>rfl
 |c::d::r=>by have ih:=zB (d::r);rw[z9p,z9p,bc];have e:bc [] ([d]::List.map (λc=>[c]) r)=d::r:=ih;rw[e];rfl
def cE{K:D->Prop}{r:z8}(hl:l.length+r.length<=100000)(h:K (.str (mkT (l++r)))):W2 bH (.str (mkT l)) (.str (mkT r)) K:=Kh hl h
def jX(l:z8)(lo hi:A_):(bf l lo hi).length<=l.length:=by unfold bf;rw[z7l,z8a];ext
def jY{lo hi:A_}{c:Nat}(h:c∈bf l lo hi):c∈l:=z4w (List.mem_of_mem_drop h)
def ku(h0:0<=i)(h1:i<(l.length:Int)):∃c∈l,atI l i=some c:=by
 have hi:i.toNat<l.length:=by ext
 refine⟨l[i.toNat],z9u _,?_⟩;unfold atI ixN;rw[if_pos h0,if_pos h1];show l[i.toNat]?=_;rw[z9o hi]
def Nt{cs:z8}:((cs.map λc=>[c]).map List.length).sum=cs.length:=by
 induction cs with
 |nil=>rfl
 |cons c r ih=>simp only[z9p,z7e,z9b,z9i]at ih ⊢;ext
theorem oM(c:Nat):∀(ls:List z8),ls≠[]->(ls.map List.length).sum+ls.length=(bc [c] ls).length+1
 |[],h=>absurd rfl h
 |[a],_=>by simp[bc]
 |a::b::r,_=>by have ih:=oM c (b::r) (by simp);rw[bc];simp only[z9p,z7e,z9b,z9f,z9i]at ih ⊢;ext
theorem lR(c:Nat):∀(l:z8),c∉l->bI c l=[l]
 |[],_=>rfl
 | a::l,h=>by
   have h1:¬a=c:=λe=>h (by rw[e];exact z9a)
   have h2:=lR c l λz=>h (z9d _ z)
   unfold bI;rw[if_neg h1,h2]
theorem oN(c:Nat)(m:z8):∀(l:z8),c∉l->bI c (l++[c]++m)=l::bI c m
 |[],_=>by show bI c (c::m)=_;rw[bI,if_pos rfl]
 | a::l,h=>by
   have h1:¬a=c:=λe=>h (by rw[e];exact z9a)
   have h2:=oN c m l λz=>h (z9d _ z)
   show bI c (a::(l++[c]++m))=_;rw[bI,if_neg h1,h2]
theorem zC(c:Nat):∀(ws:List z8),ws≠[]->(∀w∈ws,c∉w)->bI c (bc [c] ws)=ws
 |[],h,_=>absurd rfl h
 |[w],_,h=>lR c w (h w z9a)
 |w::v::r,_,h=>by rw[bc,oN c _ w (h w z9a),zC c (v::r) (by simp) λx hx=>h x (z9d _ hx)]
def oO:∀(n:Nat),digs n≠[]/\(∀c∈digs n,48<=c/\c<=57)/\(0<n->(digs n).head?≠some 48)/\cr (digs n)=n:=by
 intro n
 induction n using digs.induct with
 | case1 n h=>
   rw[digs,if_pos h];refine⟨by simp,λc hc=>?_,λhp=>?_,?_⟩
   ·rw[z9w.mp hc];ext
   ·simp;ext
   ·simp[cr]
 | case2 n h ih=>
   obtain⟨i1,i2,i3,i4⟩:=ih;rw[digs,if_neg h];refine⟨by simp,λc hc=>?_,λ_=>?_,?_⟩
   ·rcases z8q.mp hc with hc|hc
    ·exact i2 c hc
    ·rw[z9w.mp hc];ext
   ·have:=i3 ∅
    cases e:digs (n / 10)with
    |nil=>exact absurd e i1
    |cons a r=>rw[e]at this;simpa using this
   ·rw[tz,i4];ext
theorem tE:∀(k n:Nat),n<10 ^ k->1<=k->(digs n).length<=k
 |0,_,_,h=>absurd h ∅
 | k + 1,n,hn,_=>by
   rw[digs];split
   ·simp
   ·rename_i h
    have h1:n / 10<10 ^ k:=by rw[Nat.pow_succ]at hn;ext
    have hk:1<=k:=by
     cases k with
     |zero=>simp at h1;ext
     |succ k=>ext
    have:=tE k (n / 10) h1 hk;rw[z9f];simp only[z9b,z9i];ext
def Nu(h:n<10000000):jW (digs n):=by
 obtain⟨h1,h2,h3,h4⟩:=oO n;have hl:=tE 7 n ∅ ∅;refine⟨⟨⟨z4z.mpr h1,hl⟩,h2⟩,?_⟩;rcases Nat.eq_zero_or_pos n with rfl|hp
 ·left;rw[digs];rfl
 ·exact .inr (h3 hp)
def Nv:∀c∈digs n,c<128:=λc hc=>by have:=(oO n).2.1 c hc;ext
def Nw:32∉digs n:=λhc=>by have:=(oO n).2.1 32 hc;ext
def tF(h0:0<=i)(h1:i<26):atI dD i=some (97+i.toNat):=by
 have hl:∀j:Fin 26,dD[j.1]?=some (97+j.1):=by decide
 unfold atI ixN;rw[if_pos h0,if_pos (by exact h1)];exact hl ⟨i.toNat,by ext⟩
def let_mem:n∈dD↔97<=n/\n<=122:=by
 have h1:∀x∈dD,97<=x/\x<=122:=by decide
 have h2:∀i:Fin 26,97+i.1∈dD:=by decide
 refine⟨h1 n,λh=>?_⟩;have h3:=h2 ⟨n-97,by ext⟩
 rwa [show 97+(n-97)=n from Nat.add_sub_cancel' h.1]at h3
noncomputable def odds:List z8:=[[99,108,97,115,115],[116,117,114,110],[114,117,108,101],[111,112,101,110],[97,115,107],[113,117,105,101,116],[99,97,109,101],[108,101,102,116],[116,117,114,110,115],[99,111,105,110,115],[119,104,121],[119,111,114,116,104],[110,111]]
def Nx:(["class","turn","rule","open","ask","quiet","came","left","turns","coins","why","worth","no"]:j_)=odds.map mkT:=by decide +kernel
def Ny:∀l∈odds,(1<=l.length/\l.length<=8)/\∀c∈l,c∈dD:=by decide
def Nz{K:D->Prop}(h0:0<=i)(h1:i<(ls.length:Int))(h:∀l∈ls,K (.str (mkT l))):W2 ixD (.lst (ay ls)) (.int i) K:=by
 have hi:i.toNat<ls.length:=by ext
 refine nu (d:=.str (mkT ls[i.toNat])) ?_ (h _ (z9u _));show atI (ay ls) i=_;unfold atI ixN;rw[if_pos h0,if_pos (by rw[z9c];exact h1)];show(ay ls)[i.toNat]?=_;rw[z9x,z9o hi];rfl
def NB{l0 l1 l2:z8}{K:D->Prop}(h0:0<=s)(h1:s<4)(h:K (.str (mkT (if s=0 then l0 else if s=1 then l1 else l2)))):W2 ixD (.lst [.str (mkT l0),.str (mkT l1),.str (mkT l2),.str (mkT l2)]) (.int s) K:=by
 have:s=0\/s=1\/s=2\/s=3:=by ext
 rcases this with rfl|rfl|rfl|rfl<;>exact nu rfl h
def zD:∀{ls:List z8},iF (.str (mkT l)) (.lst (ay ls))=some (.bl (decide (l∉ls))):=by
 intro ls;have h1:(ay ls).all aS=true:=by rw[z9t];intro d hd;obtain⟨x,_,rfl⟩:=z8z.mp hd;rfl
 have h2:(!(ay ls).any (λd=>dm d (.str (mkT l))))=decide (l∉ls):=by
  rw[z4s,z3d,z4e,Bool.eq_false_iff,_root_.ne_eq,List.any_eq_true,not_congr];constructor
  ·rintro⟨d,hd,hb⟩
   obtain⟨x,hx,rfl⟩:=z8z.mp hd;have hb:(mkT x==mkT l)=true:=hb;have hb:=eq_of_beq hb;rw[lQ,aA,aA]at hb;exact hb▸hx
  ·intro hl
   exact⟨.str (mkT l),z8z.mpr ⟨l,hl,rfl⟩,z6w (mkT l)⟩
 show(if aS (D.str (mkT l))=true/\_ then some (D.bl _)else none)=_;rw[if_pos ⟨rfl,h1⟩,h2]
def j2(w b:z8)(at_ s off:Int)(k:Nat):z8:=
 if s=0 then [97+((off+(k:Int) / 8) % 26).toNat]++bf w none (some ((k:Int) % 8))else if s=1 then bf w (some (7-(k:Int) % 8)) none++[97+((off+(k:Int) / 8) % 26).toNat]
 else bf b none (some at_)++[97+((off+(k:Int)) % 26).toNat]++bf b (some at_) none
def oP(h0:0<=i)(h1:i<=(l.length:Int)):(bf l none (some i)).length=i.toNat:=by unfold bf;simp only[z7d,z6v,Int.toNat_zero,z6m,z8a];ext
def oQ(h0:0<=i)(h1:i<=(l.length:Int)):(bf l (some i) none).length=l.length-i.toNat:=by unfold bf;simp only[z7d,z6v,z7a,z6x,z7l]
structure Names (nm:List z8):Prop where
 len:nm.length=9
 nd:nm.Nodup
 ok:∀l∈nm,fw l
def NC{w b:z8}{at_ off:Int}(hw:w.length=7)(hwl:∀c∈w,c∈dD)(hb:b.length<=7)(hbl:∀c∈b,c∈dD)(ha0:0<=at_)(ha1:at_<=(b.length:Int))(h0:0<=off)(h1:off<26):Names ((List.range 9).map (j2 w b at_ s off)):=by
 refine⟨rfl,?_,λl hl=>?_⟩
 ·refine List.pairwise_map.mpr (List.pairwise_lt_range.imp_of_mem λ{i j} hi hj hij e=>?_)
  rw[z7p]at hi hj;have el:=z8u List.length e;unfold j2 at e el;split at e
  ·rename_i hs
   simp only[if_pos hs,z9f,z9b,z9i]at el;rw[oP ∅ ∅,oP ∅ ∅]at el;simp only[z6l,z4r,z4v]at e;ext
  ·rename_i hs
   split at e
   ·rename_i hs2
    simp only[if_neg hs,if_pos hs2,z9f,z9b,z9i]at el;rw[oQ ∅ ∅,oQ ∅ ∅]at el;have e2:=(List.append_inj' e rfl).2;simp only[z4v]at e2;ext
   ·rename_i hs2
    have e2:=(List.append_inj' (List.append_inj_left e (by simp)) rfl).2;simp only[z4v]at e2;ext
 ·obtain⟨k,hk,rfl⟩:=z8z.mp hl
  rw[z7p]at hk;unfold j2;have f1:∀z:Int,97+(z % 26).toNat∈dD:=λz=>let_mem.mpr ∅
  split
  ·refine⟨?_,λc hc=>?_⟩
   ·rw[z9f,oP ∅ ∅]
    simp only[z9b,z9i];ext
   ·rcases z8q.mp hc with hc|hc
    ·rw[z9w.mp hc];exact f1 _
    ·exact hwl c (jY hc)
  ·split
   ·refine⟨?_,λc hc=>?_⟩
    ·rw[z9f,oQ ∅ ∅]
     simp only[z9b,z9i];ext
    ·rcases z8q.mp hc with hc|hc
     ·exact hwl c (jY hc)
     ·rw[z9w.mp hc];exact f1 _
   ·refine⟨?_,λc hc=>?_⟩
    ·rw[z9f,z9f,oP ha0 ha1,oQ ha0 ha1]
     simp only[z9b,z9i];ext
    ·rcases z8q.mp hc with hc|hc
     ·rcases z8q.mp hc with hc|hc
      ·exact hbl c (jY hc)
      ·rw[z9w.mp hc];exact f1 _
     ·exact hbl c (jY hc)
def Names.put{i:Nat}(h:Names nm)(hl:l∉nm)(g:fw l):Names (nm.set i l):=by
 refine⟨by rw[z8e,h.len],?_,λx hx=>(z5u hx).elim (h.ok x) λe=>e▸g⟩;have hn:=h.nd;rw[List.Nodup,z5v]at hn ⊢;intro a b ha hb hab;rw[z8e]at ha hb;rw[List.getElem_set,List.getElem_set];split
 ·rename_i e1
  rw[if_neg ∅];exact λe=>hl (e▸z9u _)
 ·split
  ·exact λe=>hl (e▸z9u _)
  ·exact hn a b ha hb hab
def ND:([.str "class",.str "turn",.str "rule",.str "open",.str "ask",.str "quiet",.str "came",.str "left",.str "turns",.str "coins",.str "why",.str "worth",.str "no"]:E_)=ay odds:=(z8u (List.map D.str) Nx).trans (by rw[z7k];rfl)
def NF(hp:Pool M a n)(hn:n<=60000)(h:∀nm M',Names nm->Kp (· = a) M M'->Pool M' a (n+20)->Q (.lst (ay nm)) M'):sT CD C [.ptr a,.int 9] M Q:=by
 refine ca rfl ?_;walk_at"env";rw[zy];lia;rw[ND];walk_at"env";refine rV ?_;lia;refine⟨⟨by ext,by ext⟩,by ext,?_⟩;refine iL _ _ (λk ds M'=>∃w:z8,ds=(w.map λc=>[c]).map (λl=>.str (mkT l))/\w.length=k/\(∀c∈w,c∈dD)/\Pool M' a (n+k)/\Kp (· = a) M M') ⟨[],rfl,rfl,by simp,hp,Kp.refl⟩ ?_ ?_
 ·rintro ds M1 ⟨w,rfl,hw,hwl,p1,k1⟩
  replace hw:w.length=7:=hw;replace p1:Pool M1 a (n+7):=p1;refine jM (s:="") (by rw[tD,aA,Nt,z9c];simp[hw]) ?_;rw[tD,aA,zB];lia;refine bN p1 ∅ ∅ ∅ λs M2 s0 s1 p2 k2=>?_
  lia;refine bN p2 ∅ ∅ ∅ λoff M3 o0 o1 p3 k3=>?_
  lia;refine bN p3 ∅ ∅ ∅ λbl M4 b0 b1 p4 k4=>?_
  refine⟨bl,.str (mkT (bf w none (some bl))),rfl,?_,?_⟩
  ·simp only[slT,aA]
   exact if_pos ⟨rfl,z8d b0,by ext⟩
  have hb:=jX w none (some bl);generalize ebv:bf w none (some bl)=bv at hb ⊢;have hbl:∀c∈bv,c∈dD:=λc hc=>hwl c (jY (ebv▸hc))
  have hbl2:(tx (mkT bv)).length<=100000:=by rw[aA];ext
  lia;rw[aA];refine bN p4 ∅ ∅ ∅ λat_ M5 a0 a1 p5 k5=>?_
  lia;intro x hx;have hxa:x≠a:=λe=>by subst e;obtain⟨_,_,_,h1,_⟩:=p5;rw[hx]at h1;cases h1
  lia;refine⟨⟨by ext,by ext⟩,?_⟩;have K5:Kp (· = a) M M5:=(((k1.trans k2 λ_ z _=>z).trans k3 λ_ z _=>z).trans k4 λ_ z _=>z).trans k5 λ_ z _=>z
  have hx0:M x=none:=by
   cases e:M x with
   |none=>rfl
   |some c=>exact absurd (K5 x c e hxa) (by rw[hx];exact λq=>nomatch q)
  refine rX _ _ (λk ρ M'=>∃b c d,ρ=[some (.ptr a),some (.int 9),some (.str (mkT dD)),some (.lst (ay odds)),some (.str (mkT w)),some (.int s),some (.int off),some (.str (mkT bv)),some (.int at_),some (.ptr x),b,c,d,none]/\M' x=some (.lst (ay ((List.range k).map (j2 w bv at_ s off))))/\Pool M' a (n+11)/\Kp (· = a) M M') ⟨_,_,_,rfl,aB,p5.keep (S:=λ_=>False) (Kp.upd (.inr hx)) id,K5.trans (Kp.upd (S:=λ_=>False) (.inr hx)) λ_ z _=>z.elim⟩ ?_ ?_
  ·rintro ρ M6 ⟨b,c,d,rfl,h1,p6,k6⟩
   have ok:Names ((List.range 9).map (j2 w bv at_ s off)):=NC hw hwl ∅ hbl a0 ∅ o0 o1;replace h1:M6 x=some (.lst (ay ((List.range 9).map (j2 w bv at_ s off)))):=h1;generalize (List.range 9).map (j2 w bv at_ s off)=nm at ok h1;have hdel:∀M' M'':Sto,Kp (· = a) M M'->Kp (· = x) M' M''->Kp (· = a) M (dQ M'' x):=λM' M'' z1 z2=>(z1.trans z2 λb z n=>by subst z;exact absurd hx0 n).trans (Kp.del (S:=(· = x)) rfl) λb z n=>by subst z;exact absurd hx0 n
   have hpo:∀(M' M'':Sto) (m:Nat),Pool M' a m->m<=n+20->Kp (· = x) M' M''->Pool (dQ M'' x) a (n+20):=λM' M'' m z1 z2 z3=>((z1.keep z3 (Ne.symm hxa)).keep (Kp.del (S:=(· = x)) rfl) (Ne.symm hxa)).le z2
   lia;refine bN p6 ∅ ∅ ∅ λr M7 r0 r1 p7 k7=>?_
   refine Nz r0 (by exact r1) λo ho=>?_
   have go:fw o:=Ny o ho;lia;have h7:=k7 x _ h1 hxa;rw[zz h7];refine gm (x:=.str (mkT o)) zD ⟨rfl,?_⟩;lia;have K7:=k6.trans k7 λ_ z _=>z
   refine au (λe=>?_) λe=>?_
   ·lia
    refine bN p7 ∅ ∅ ∅ λr2 M8 q0 q1 p8 k8=>?_
    have h8:=k8 x _ h7 hxa;have K8:=K7.trans k8 λ_ z _=>z
    lia;refine au (λe2=>?_) λe2=>?_
    ·lia
     refine bN p8 ∅ ∅ ∅ λr3 M9 t0 t1 p9 k9=>?_
     have h9:=k9 x _ h8 hxa;refine⟨x,_,r3,r3.toNat,rfl,h9,rfl,?_,?_⟩
     ·rw[z9c,ok.len];unfold ixN;rw[if_pos t0,if_pos (by exact t1)]
     lia;refine lF rfl aB ?_;lia;rw[ay,<- List.map_set (f:=λl=>D.str (mkT l))];exact h _ _ (ok.put e go) (hdel _ _ (K8.trans k9 λ_ z _=>z) (Kp.upd (.inl rfl))) (hpo _ _ _ p9 ∅ (Kp.upd (.inl rfl)))
    ·lia
     refine lF rfl h8 ?_;lia;exact h _ _ ok (hdel _ _ K8 Kp.refl) (hpo _ _ _ p8 ∅ Kp.refl)
   ·lia
    refine lF rfl h7 ?_;lia;exact h _ _ ok (hdel _ _ K7 Kp.refl) (hpo _ _ _ p7 ∅ Kp.refl)
  ·rintro k hk ρ M6 ⟨b,c,d,rfl,h1,p6,k6⟩ N hN
   rw[z8x]at hk;walk_at"env";have hwl2:(tx (mkT w)).length<=100000:=by rw[aA];ext
   have hll:(tx (mkT dD)).length<=100000:=by rw[aA];decide
   lia;rw[show(List.range (Int.toNat 9))[k]=k from z3e ..];refine lG hll (by rw[aA];exact tF ∅ ∅) ?_;lia;refine⟨⟨rfl,z8d a0,hbl2⟩,?_⟩;rw[aA];lia;refine lG hll (by rw[aA];exact tF ∅ ∅) ?_;have hc1:=jX bv none (some at_);have hc2:=jX bv (some at_) none;refine cE (by simp only[z9b,z9i];ext) ?_;lia;refine⟨⟨z8d a0,rfl,hbl2⟩,?_⟩;rw[aA];lia;refine cE (by simp only[z9f,z9b,z9i];ext) ?_;lia;have m0:0<=(k:Int) % 8:=by ext
   have hc3:=jX w none (some ((k:Int) % 8));have hc4:=jX w (some (7-(k:Int) % 8)) none;refine⟨x,_,rfl,h1,?_⟩;lia;refine⟨⟨rfl,z8d m0,hwl2⟩,?_⟩;rw[aA];lia;refine cE (by simp only[z9b,z9i];ext) ?_;lia;refine⟨⟨z8d ∅,rfl,hwl2⟩,?_⟩;rw[aA];lia;refine cE (by simp only[z9b,z9i];ext) ?_;lia;refine NB s0 s1 ?_;refine⟨_,h1,by simp;ext,?_⟩;refine hN _ _ ⟨_,_,_,rfl,?_,p6.keep (S:=(· = x)) (Kp.upd (.inl rfl)) (Ne.symm hxa),k6.trans (Kp.upd (S:=(· = x)) (.inl rfl)) λb z n=>by subst z;exact absurd hx0 n⟩;rw[aB,List.range_succ,z8k,ay,ay,z8k];rfl
 ·rintro k hk ds M1 ⟨w,rfl,hw,hwl,p1,k1⟩ N hN
  rw[z8x]at hk;grind;refine bN p1 ∅ ∅ ∅ λr M2 a1 a2 p2 k2=>?_
  lia;refine lG (c:=97+r.toNat) (by rw[aA];decide) (by rw[aA];exact tF a1 a2) ?_;refine hN _ _ ⟨w++[97+r.toNat],by simp,by simp[hw],λc hc=>?_,p2,k1.trans k2 λ_ z _=>z⟩;rcases z8q.mp hc with hc|hc
  ·exact hwl c hc
  ·rw[z9w.mp hc];exact let_mem.mpr ∅
def zE(h:M a=some (.lst (xs.map D.int))):vw2 M (.ptr a)=DI xs:=by
 have e:(xs.map D.int).map (vw1 M)=xs.map D.int:=by rw[z7k];exact z5a λ_ _=>rfl
 simp only[vw2,h,e]
def zF{xs:List z9}(h:M a=some (.lst (xs.map DI))):vw2 M (.ptr a)=DII xs:=by
 have e:(xs.map DI).map (vw1 M)=xs.map DI:=by rw[z7k];exact z5a λ_ _=>rfl
 simp only[vw2,h,e]
section
variable {of d:Int}
def tG(s:Sale S H_ I_ r c of d)(ho:M o=some (.ins C [] []))(hfa:M fa=some (.lst (H_.map D.int)))(hra:M ra=some (.lst (I_.map DI)))(h:∀M',M' o=some (.ins C c_ (aY S H_ I_ r c of d 0 0 0 .non .non))->Kp (· = o) M M'->Q .non M'):
  lK CD C [.ptr o,.int (S:Nat),.ptr fa,.ptr ra,.tup [.int r,.int c,.int of,.int d]] M Q EX:=by
 obtain⟨hS,f1,f2,f3,t1,t2,r1,r2,c1,c2,o1,o2,d1,d2⟩:=s;have hrl:∀x∈I_,x.length<=1000:=λx hx=>by have:=(t2 x hx).1;ext
 have nf:fa≠o:=λe=>by rw[e,ho]at hfa;cases hfa
 have nr:ra≠o:=λe=>by rw[e,ho]at hra;cases hra
 have w1:vw2 M (.ptr fa)=DI H_:=zE hfa;have w2:vw2 M (.ptr ra)=DII I_:=zF hra;have v1:∀cc:Cell,vw2 (aK M o cc) (.ptr fa)=DI H_:=λcc=>zE ((aE nf).trans hfa)
 have v2:∀cc:Cell,vw2 (aK M o cc) (.ptr ra)=DII I_:=λcc=>zF ((aE nr).trans hra)
 refine bb rfl ?_;grind;rw[show List.map (vw2 M) [.int (S:Nat),.ptr fa,.ptr ra]=[.int (S:Nat),DI H_,DII I_]by simp only[z9p,z6o,w1,w2];rfl];refine iG (MQ ∅ ∅ hrl) ?_;rintro _ ⟨b,rfl,hb⟩;have hb':b=true:=hb.mpr ⟨by ext,by ext,f1,f2,f3,t1,t2⟩;subst hb';refine⟨rfl,?_⟩;lia;refine bu (yY r c of d) ?_;rw[show oF r c of d=true from z8d ⟨r1,r2,o1,o2,c1,c2,d1,d2⟩];lia;refine bu (zn ∅ ∅) ?_;have hfs:fv H_:=λx hx=>by have:=f3 x hx;ext
 have hts:∀x∈I_,fv x/\x.length<=1000:=λx hx=>⟨λy hy=>by have:=(t2 x hx).2.1 y hy;ext,hrl x hx⟩
 have hsum:=t2.sum ∅;lia;refine eO ?_;lia;refine⟨o,_,rfl,ho,?_⟩;lia;refine eO ?_;lia;refine⟨H_.map D.int,gy ((aE nf).trans hfa),?_⟩;lia;refine⟨o,_,rfl,aB,?_⟩;rw[dR];lia;refine eO ?_;lia;refine⟨o,_,rfl,aB,?_⟩;rw[dR];lia;refine eO ?_;lia;simp only[z9p,z6o,v2];refine bu (t9 hsum ∅) ?_;refine⟨⟨_,rfl⟩,?_⟩;lia;refine⟨o,_,rfl,aB,?_⟩;rw[dR];lia;refine eO ?_;lia;refine bu (zg ∅ ∅ ⟨c1,c2⟩ o2 o1 ⟨d1,d2⟩) ?_;lia;simp only[z9p,z6o,v1,v2];refine bu (zk hfs ∅ hts hsum ∅ (by rw[jU];ext)) ?_;lia;refine⟨o,_,rfl,aB,?_⟩;rw[dR];lia
 iterate 4
  refine eO ?_;lia;refine⟨o,_,rfl,aB,?_⟩;rw[dR];lia
 refine eO ?_;lia;refine⟨o,_,rfl,aB,?_⟩;rw[dR];lia;exact h _ aB (Kp.upd (.inl rfl))
end
section
variable {rest:List z8}{f r:D}
def zG{a:z8}{l:List z8}:dO (ay (a::l)) (some (1:Nat)) none=ay l:=by unfold dO;rw[wN,wO];simp[ay];exact z7r (by simp)
def zH{d:D}{l:E_}:atI (d::l) 0=some d:=by simp[atI,ixN]
def NG(hl:(tx z).length<=10000)(hz:bI 32 (tx z)=hd::rest)(hne:[]∉hd::rest)(hm:M dk=some (.ins CD d_ [p,f,r,u,.non]))(h:∀M1,Kp (λ_=>False) M M1->gx CD C [.ptr dk,.str (mkT hd),.lst (ay rest)] M1 Q EX):cu CD C [.ptr dk,.str z] M Q EX:=by
 refine bb rfl ?_;grind;refine zA hl (λe=>absurd (hz▸e) hne) λ_ a ha=>?_
 rw[hz];have hm1:aK M a (.lst (ay (hd::rest))) dk=some (.ins CD d_ [p,f,r,u,.non]):=(aE λe=>by rw[e,ha]at hm;cases hm).trans hm;lia;refine⟨a,_,0,.str (mkT hd),rfl,aB,rfl,zH,?_⟩;lia;refine⟨a,_,rfl,aB,by ext,?_⟩;lia;rw[show(List.map (λl=>D.str (mkT l)) (hd::rest))=ay (hd::rest)from rfl,zG];exact h _ (Kp.upd (.inr ha))
def tH(hl:(tx z).length<=10000)(hz:bI 32 (tx z)=hd::rest)(hne:[]∉hd::rest)(hm:M dk=some (.ins CD d_ [p,f,r,u,.ptr o]))(h:∀M1,Kp (λ_=>False) M M1->jS CD C [.ptr dk,.str (mkT hd),.lst (ay rest)] M1 Q EX):cu CD C [.ptr dk,.str z] M Q EX:=by
 refine bb rfl ?_;grind;refine zA hl (λe=>absurd (hz▸e) hne) λ_ a ha=>?_
 rw[hz];have hm1:aK M a (.lst (ay (hd::rest))) dk=some (.ins CD d_ [p,f,r,u,.ptr o]):=(aE λe=>by rw[e,ha]at hm;cases hm).trans hm;lia;refine⟨a,_,0,.str (mkT hd),rfl,aB,rfl,zH,?_⟩;lia;refine⟨a,_,rfl,aB,by ext,?_⟩;lia;rw[show(List.map (λl=>D.str (mkT l)) (hd::rest))=ay (hd::rest)from rfl,zG];exact h _ (Kp.upd (.inr ha))
def NH(h:0<=x):aT x=digs x.toNat:=if_neg ∅
def oR(h0:0<=x)(h1:x<10000000):jW (aT x)/\(∀c∈aT x,c<128)/\32∉aT x/\((cr (aT x):Nat):Int)=x:=by rw[NH h0];refine⟨Nu ∅,Nv,Nw,?_⟩;rw[(oO _).2.2.2];ext
def lS(h0:0<=x)(h1:x<10000000)(h:Q (.int x) M):iT CD C [.str (mkT (aT x))] M Q EX:=by
 obtain⟨g,a,_,v⟩:=oR h0 h1;refine Nq (asc_mk.mpr a) (by rw[aA];have:=g.1.1.2;ext) (λe=>absurd (by rw[aA];exact g) e) λ_=>?_
 rw[aA,v];exact h
def zI(hb:∀x∈xs,0<=x/\x<10000000)(hlen:xs.length<=1000)(h:Q (DI xs) M):oB CD C [.lst (ay (xs.map aT))] M Q:=by
 refine ca rfl ?_;grind;refine⟨by simpa [ay]using hlen,?_⟩;rw[ay,z7k];refine iL (λx:Int=>.str (mkT (aT x))) xs (λk ds M'=>ds=(xs.take k).map D.int/\M'=M) ⟨by simp,rfl⟩ ?_ ?_
 ·rintro ds _ ⟨rfl,rfl⟩
  rw[z6x];lia;exact h
 ·rintro k hk ds _ ⟨rfl,rfl⟩ N hN
  grind;have hn:=hb xs[k] (z9u _);refine lS hn.1 hn.2 (hN _ _ ⟨?_,rfl⟩);rw[z8p hk,z8k];rfl
end
structure Gath (M:Sto) (CD dk pl fa ra:Nat) (nm:List z8) (fs:z9) (ts:List z9) (u:D):Prop where
 hd:M dk=some (.ins CD d_ [.ptr pl,.ptr fa,.ptr ra,u,.non])
 hp:M pl=some (.dic (nm.map mkT) (i6 (List.range nm.length)))
 hf:M fa=some (.lst (fs.map D.int))
 hr:M ra=some (.lst (ts.map DI))
 ne:fa≠ra
abbrev S4(dk pl fa ra:Nat):Nat->Prop:=λx=>x=dk\/x=pl\/x=fa\/x=ra
section
variable {fs:z9}{ts:List z9}
def Gath.keep(g:Gath M CD dk pl fa ra nm fs ts u)(k:Kp (λ_=>False) M M'):Gath M' CD dk pl fa ra nm fs ts u:=⟨k _ _ g.hd id,k _ _ g.hp id,k _ _ g.hf id,k _ _ g.hr id,g.ne⟩
def Gath.nes(g:Gath M CD dk pl fa ra nm fs ts u):dk≠pl/\dk≠fa/\dk≠ra/\pl≠fa/\pl≠ra:=by obtain⟨h1,h2,h3,h4,_⟩:=g;refine⟨?_,?_,?_,?_,?_⟩<;>(rintro rfl;first|(rw[h1]at h2;cases h2;done)|(rw[h1]at h3;cases h3;done)|(rw[h1]at h4;cases h4;done)|(rw[h2]at h3;cases h3;done)|(rw[h2]at h4;cases h4;done))
def mem_mk:mkT l∈nm.map mkT↔l∈nm:=by
 rw[z8z];constructor
 ·rintro⟨x,hx,e⟩
  rw[lQ,aA,aA]at e;exact e▸hx
 ·exact λh=>⟨l,h,rfl⟩
def NI{n:z8}(g:Gath M CD dk pl fa ra nm fs [] u)(hn:n∉nm)(h0:1<=f)(h1:f<=1000000)(hl:nm.length=fs.length)(h6:fs.length<6)(h:∀M',Gath M' CD dk pl fa ra (nm++[n]) (fs++[f]) [] u->Kp (S4 dk pl fa ra) M M'->Q .non M'):sW CD C [.ptr dk,.str (mkT n),.int f] M Q EX:=by
 obtain⟨n1,n2,n3,n4,n5⟩:=g.nes;obtain⟨e1,e2,e3,e4,n6⟩:=g;refine bb rfl ?_;grind;refine⟨pl,_,_,_,rfl,rfl,e2,?_⟩;lia;refine au (λe=>absurd (mem_mk.mp e) hn) λ_=>?_
 lia;rw[show List.map (vw1 M) [D.ptr ra]=[.lst []]by simp[gy e4]];lia;refine au (λe=>absurd e (by decide)) λ_=>?_
 lia;rw[show List.map (vw1 M) [D.ptr fa]=[DI fs]by simp[gy e3]];lia;refine au (λe=>absurd e (by simp only[z9c];ext)) λ_=>?_
 lia;refine iG (yX (f:=[f]) (by simp)) ?_;rintro _ ⟨b,rfl,hb⟩;have hb':b=true:=hb.mpr ⟨by simp,by simp,λx hx=>by rw[z9w.mp hx];ext⟩;subst hb';lia;rw[show List.map (vw1 M) [D.ptr fa]=[DI fs]by simp[gy e3]];lia;refine⟨pl,_,_,_,rfl,rfl,e2,λe=>hn (mem_mk.mp e),by rw[z9c];ext,?_⟩;have e1':=(aE (c:=.dic (nm.map mkT++[mkT n]) (i6 (List.range nm.length)++[.int ((fs.map D.int).length:Nat)])) n1).trans e1;have e3':=(aE (c:=.dic (nm.map mkT++[mkT n]) (i6 (List.range nm.length)++[.int ((fs.map D.int).length:Nat)])) (Ne.symm n4)).trans e3;lia;refine⟨fa,_,rfl,e3',?_⟩;lia;refine⟨_,e3',by rw[z9c];ext,?_⟩;lia;refine h _ ⟨(aE n2).trans e1',?_,?_,?_,n6⟩ ((Kp.upd (S:=S4 dk pl fa ra) (.inl (.inr (.inl rfl)))).trans (Kp.upd (S:=S4 dk pl fa ra) (.inl (.inr (.inr (.inl rfl))))) λ_ z _=>z)
 ·rw[aE n4,aB,z8k,z9f,z4j,List.range_succ,i6,i6,z8k,z9c,hl]
  rfl
 ·rw[aB,z8k];rfl
 ·rw[aE (Ne.symm n6),aE (Ne.symm n5),e4]
def NJ{n:z8}(g:Gath M CD dk pl fa ra nm fs [] u)(hn:n∉nm)(hg:fw n)(h0:1<=f)(h1:f<=1000000)(hl:nm.length=fs.length)(h6:fs.length<6)(h:∀M',Gath M' CD dk pl fa ra (nm++[n]) (fs++[f]) [] u->Kp (S4 dk pl fa ra) M M'->Q (.str "ok") M'):gx CD C [.ptr dk,.str "class",.lst (ay [n,aT f])] M Q EX:=by
 have e1:=g.hd;refine bb rfl ?_;grind;refine au (λ_=>?_) λe=>absurd rfl e
 lia;refine au (λ_=>?_) λe=>absurd rfl e
 lia;refine Nr (asc_mk.mpr λc hc=>by have:=let_mem.mp (hg.2 c hc);ext) (by rw[aA];have:=hg.1.2;ext) (λe=>absurd (by rw[aA];exact hg) e) λ_=>?_
 lia;refine lS ∅ ∅ ?_;lia;refine NI g hn h0 h1 hl h6 λM1 g1 k1=>?_
 lia;exact h M1 g1 k1
def NK(g:Gath M CD dk pl fa ra nm fs ts u)(hr:gz fs.length row)(h1:1<=fs.length)(h6:fs.length<=6)(h8:ts.length<8)(h:∀M',Gath M' CD dk pl fa ra nm fs (ts++[row]) u->Kp (S4 dk pl fa ra) M M'->Q .non M'):sY CD C [.ptr dk,DI row] M Q EX:=by
 obtain⟨n1,n2,n3,n4,n5⟩:=g.nes;obtain⟨e1,e2,e3,e4,n6⟩:=g;refine bb rfl ?_;grind;rw[show List.map (vw1 M) [D.ptr fa]=[DI fs]by simp[gy e3]];lia;refine au (λe=>absurd e (by simp only[z9c];ext)) λ_=>?_
 lia;have hrl:=hr.1;refine gU (λe=>absurd (by simp only[z9c];ext) e) λ_=>?_
 lia;rw[show List.map (vw1 M) [D.ptr ra]=[DII ts]by simp[gy e4]];lia;refine au (λe=>absurd e (by simp only[z9c];ext)) λ_=>?_
 lia;rw[z9c];refine iG (yW (n:=fs.length) ∅) ?_;rintro _ ⟨b,rfl,hb⟩;have hb':b=true:=hb.mpr hr;subst hb';lia;refine⟨ra,_,rfl,e4,?_⟩;lia;refine⟨_,e4,by rw[z9c];ext,?_⟩;lia;refine h _ ⟨(aE n3).trans e1,(aE n5).trans e2,(aE n6).trans e3,?_,n6⟩ (Kp.upd (S:=S4 dk pl fa ra) (.inl (.inr (.inr (.inr rfl)))));rw[aB,z8k];rfl
def NL(g:Gath M CD dk pl fa ra nm fs ts u)(hr:gz fs.length row)(h1:1<=fs.length)(h6:fs.length<=6)(h8:ts.length<8)(h:∀M',Gath M' CD dk pl fa ra nm fs (ts++[row]) u->Kp (S4 dk pl fa ra) M M'->Q (.str "ok") M'):gx CD C [.ptr dk,.str "turn",.lst (ay (row.map aT))] M Q EX:=by
 have e1:=g.hd;have hrl:=hr.1;refine bb rfl ?_;grind;refine au (λe=>absurd e (by decide)) λ_=>?_
 lia;refine au (λ_=>?_) λe=>absurd rfl e
 lia;refine au (λ_=>?_) λe=>absurd (by simp only[z9c];ext) e
 lia;refine zI (λx hx=>by have:=hr.2.1 x hx;ext) ∅ ?_;lia;refine NK g hr h1 h6 h8 λM1 g1 k1=>?_
 lia;exact h M1 g1 k1
def NM{of d:Int}(g:Gath M CD dk pl fa ra nm fs ts u)(r1:0<=r)(r2:r<=10)(c1:0<=c)(c2:c<=of)(o1:1<=of)(o2:of<=1000)(d1:0<=d)(d2:d<=1000000)(h:∀M',Gath M' CD dk pl fa ra nm fs ts (.tup [.int r,.int c,.int of,.int d])->Kp (S4 dk pl fa ra) M M'->Q (.str "ok") M'):gx CD C [.ptr dk,.str "rule",.lst (ay ([r,c,of,d].map aT))] M Q EX:=by
 obtain⟨n1,n2,n3,n4,n5⟩:=g.nes;have e1:=g.hd;refine bb rfl ?_;grind;refine au (λe=>absurd e (by decide)) λ_=>?_
 lia;refine au (λe=>absurd e (by decide)) λ_=>?_
 lia;refine au (λ_=>?_) λe=>absurd rfl e
 lia;refine au (λ_=>?_) λe=>absurd rfl e
 lia;refine zI (xs:=[r,c,of,d]) (λx hx=>by simp only[z9k,z7m,z5m]at hx;ext) (by simp) ?_;lia;refine bb rfl ?_;grind;refine bu (yY r c of d) ?_;rw[show oF r c of d=true from z8d ⟨r1,r2,o1,o2,c1,c2,d1,d2⟩];lia;refine⟨dk,_,rfl,e1,?_⟩;lia;exact h _ ⟨aB,(aE (Ne.symm n1)).trans g.hp,(aE (Ne.symm n2)).trans g.hf,(aE (Ne.symm n3)).trans g.hr,g.ne⟩ (Kp.upd (.inl (.inl rfl)))
end
structure Opn (M:Sto) (CD C dk pl o:Nat) (nm:List z8) (off:E_):Prop where
 hd:∃f r u,M dk=some (.ins CD d_ [.ptr pl,f,r,u,.ptr o])
 hp:M pl=some (.dic (nm.map mkT) (i6 (List.range nm.length)))
 ho:M o=some (.ins C c_ off)
section
variable {fs:z9}{ts:List z9}
def NN{of d:Int}(s:Sale S fs ts r c of d)(g:Gath M CD dk pl fa ra nm fs ts (.tup [.int r,.int c,.int of,.int d]))(h:∀o M',M o=none->Opn M' CD C dk pl o nm (aY S fs ts r c of d 0 0 0 .non .non)->Kp (S4 dk pl fa ra) M M'->Q .non M'):oC CD C [.ptr dk,.int (S:Nat)] M Q EX:=by
 obtain⟨n1,n2,n3,n4,n5⟩:=g.nes;obtain⟨e1,e2,e3,e4,n6⟩:=g;refine bb rfl ?_;grind;refine xV ?_;lia;intro o ho;have no:∀{x:Nat} {cc:Cell},M x=some cc->x≠o:=λ{x cc} hx e=>by rw[e,ho]at hx;cases hx
 refine tG s aB ((aE (no e3)).trans e3) ((aE (no e4)).trans e4) λM1 m1 k1=>?_
 refine⟨rfl,?_⟩;have f:∀x cc,M x=some cc->M1 x=some cc:=λx cc hx=>k1 x cc ((aE (no hx)).trans hx) (no hx)
 have e1':=f _ _ e1;lia;refine⟨dk,_,rfl,e1',?_⟩;lia;have od:o≠dk:=Ne.symm (no e1);refine h o _ ho ⟨⟨_,_,_,aB⟩,(aE (Ne.symm n1)).trans (f _ _ e2),(aE od).trans m1⟩ λx cc hx hn=>?_
 rw[aE λe=>hn (.inl e)];exact f x cc hx
def NO{of d:Int}(s:Sale S fs ts r c of d)(g:Gath M CD dk pl fa ra nm fs ts (.tup [.int r,.int c,.int of,.int d]))(h:∀o M',M o=none->Opn M' CD C dk pl o nm (aY S fs ts r c of d 0 0 0 .non .non)->Kp (S4 dk pl fa ra) M M'->Q (.str "ok") M'):gx CD C [.ptr dk,.str "open",.lst (ay [aT (S:Nat)])] M Q EX:=by
 have e1:=g.hd;have hS:=s.hS;refine bb rfl ?_;grind;refine au (λe=>absurd e (by decide)) λ_=>?_
 lia;refine au (λe=>absurd e (by decide)) λ_=>?_
 lia;refine au (λe=>absurd e (by decide)) λ_=>?_
 lia;refine au (λ_=>?_) λe=>absurd rfl e
 lia;refine au (λ_=>?_) λe=>absurd rfl e
 lia;refine lS ∅ ∅ ?_;lia;refine NN s g λo M1 ho g1 k1=>?_
 lia;exact h o M1 ho g1 k1
end
def zJ:iS [.bl b]=some (.str (if b=true then "yes" else "no")):=by cases b<;>rfl
theorem zK:∀(nm:List z8) (j k:Nat) (hk:k<nm.length),nm.Nodup->iN (nm.map mkT) (i6 (List.range' j nm.length)) (mkT nm[k])=some (.int ((j+k:Nat):Int))
 |a::r,j,0,_,_=>by show List.lookup (mkT a) ((mkT a,_)::_)=_;rw[z8w,z6w];rfl
 | a::r,j,k+1,hk,h=>by
   have h':=z8j.mp h;have hk':k<r.length:=by simpa using hk
   have ne:(mkT r[k]==mkT a)=false:=z8t.mpr λe=>by rw[lQ,aA,aA]at e;exact h'.1 (e▸z9u hk')
   have ih:=zK r (j+1) k hk' h'.2;show List.lookup (mkT r[k]) ((mkT a,_)::List.zip (r.map mkT) (i6 (List.range' (j+1) r.length)))=_;rw[z8w,ne];show iN _ _ _=_;rw[ih,show j+1+k=j+(k+1)by ext]
section
variable {of d:Int}
def Opn.keep(g:Opn M CD C dk pl o nm off)(k:Kp (λ_=>False) M M'):Opn M' CD C dk pl o nm off:=by obtain⟨⟨f,r,u,h1⟩,h2,h3⟩:=g;exact⟨⟨f,r,u,k _ _ h1 id⟩,k _ _ h2 id,k _ _ h3 id⟩
def Opn.nes(g:Opn M CD C dk pl o nm off):dk≠o/\pl≠o/\dk≠pl:=by
 obtain⟨⟨f,r,u,h1⟩,h2,h3⟩:=g;refine⟨?_,?_,?_⟩
 ·rintro rfl;rw[h1]at h3;simp[d_,c_]at h3
 ·rintro rfl;rw[h2]at h3;cases h3
 ·rintro rfl;rw[h1]at h2;cases h2
def Opn.upd{off':E_}(g:Opn M CD C dk pl o nm off)(k:Kp (· = o) M M')(m:M' o=some (.ins C c_ off')):Opn M' CD C dk pl o nm off':=by obtain⟨n1,n2,_⟩:=g.nes;obtain⟨⟨f,r,u,h1⟩,h2,h3⟩:=g;exact⟨⟨f,r,u,k _ _ h1 n1⟩,k _ _ h2 n2,m⟩
def zL{k:Nat}(g:Opn M CD C dk pl o nm off)(hk:k<nm.length)(nd:nm.Nodup)(h:Q (.int (k:Nat)) M):jR CD C [.ptr dk,.str (mkT nm[k])] M Q EX:=by
 obtain⟨⟨f,r,u,h1⟩,h2,h3⟩:=g;refine bb rfl ?_;grind;refine⟨pl,_,_,_,rfl,rfl,h2,?_⟩;lia;refine gU (λe=>absurd (mem_mk.mpr (z9u hk)) e) λ_=>?_
 lia;refine⟨pl,_,_,_,.int (k:Nat),rfl,rfl,h2,?_,?_⟩
 ·have:=zK nm 0 k hk nd
  rwa [Nat.zero_add,<- List.range_eq_range']at this
 lia;exact h
def oS{x:D}(hm:M o=some (.ins C c_ (aY S H_ I_ r c of d I_.length J1 J4 J5 J6)))(h:EX "Over" M):fu CD C [.ptr o,x] M Q EX:=by refine bb rfl ?_;grind;refine iY hm ?_;rw[z8d rfl];lia;exact rW (by decide) h
def zM{f r:D}(hv:a5 0 ρ=some (.ptr dk))(h1:M dk=some (.ins CD d_ [.ptr pl,f,r,u,.ptr o]))(h3:M o=some (.ins C c_ off))(h:xa ρ M (λds M2=>T (.ptr o::ds) M2 Q EX) EX):iO C c_ T (aN CD d_ 4 (nP (a5 0))) xa ρ M Q EX:=
 ⟨.ptr dk,hv,dk,_,.ptr o,rfl,h1,rfl,o,_,rfl,h3,h⟩
def tI{f r:D}(hv:a5 0 ρ=some (.ptr dk))(h1:M dk=some (.ins CD d_ [.ptr pl,f,r,u,.ptr o]))(h3:M o=some (.ins C c_ off))(h:ta ρ M (λds M2=>T (.ptr o::ds) M2 Q EX)):cK C c_ T (aN CD d_ 4 (nP (a5 0))) ta ρ M Q EX:=
 ⟨.ptr dk,hv,dk,_,.ptr o,rfl,h1,rfl,o,_,rfl,h3,h⟩
def oT{T:NTF}{f r:D}(hv:a5 0 ρ=some (.ptr dk))(h1:M dk=some (.ins CD d_ [.ptr pl,f,r,u,.ptr o]))(h3:M o=some (.ins C c_ off))(h:ta ρ M (λds M2=>T (.ptr o::ds) M2 Q)):bG C c_ T (aN CD d_ 4 (nP (a5 0))) ta ρ M Q:=
 ⟨.ptr dk,hv,dk,_,.ptr o,rfl,h1,rfl,o,_,rfl,h3,h⟩
def NP{n:z8}(g:Opn M CD C dk pl o nm off)(h:jR CD C [.ptr dk,.str (mkT n)] M (λx M1=>fu CD C [.ptr o,x] M1 (λb M2=>WF iS [b] λy=>Q y M2) EX) EX):jS CD C [.ptr dk,.str "ask",.lst (ay [n])] M Q EX:=by
 obtain⟨⟨f,r,u,h1⟩,h2,h3⟩:=g;refine bb rfl ?_;grind;refine au (λ_=>?_) λe=>absurd rfl e
 lia;refine au (λ_=>?_) λe=>absurd rfl e
 lia;refine zM rfl h1 h3 ?_;lia;exact h
end
abbrev Bd(i:Int):Prop:=-(10 ^ 200)<=i/\i<=10 ^ 200
def lg(h:Bd i):i.natAbs.log2<1900:=by
 by_cases h0:i.natAbs=0
 ·rw[h0];decide
 refine(Nat.log2_lt h0).mpr ?_;have h1:i.natAbs<=10 ^ 200:=by have:=h.1;have:=h.2;ext
 have h2:(10:Nat) ^ 200<=(2 ^ 4) ^ 200:=Nat.pow_le_pow_left ∅ _;have h3:((2:Nat) ^ 4) ^ 200=2 ^ 800:=by rw[<- Nat.pow_mul]
 have h4:(2:Nat) ^ 800<2 ^ 1900:=Nat.pow_lt_pow_right ∅ ∅;ext
def i7(h:Bd i):(aT i).length<=202:=by
 have h1:i.natAbs<10 ^ 201:=by have:=h.1;have:=h.2;ext
 have h2:=tE 201 i.natAbs h1 ∅;unfold aT;split
 ·simp only[z9b];ext
 ·rw[show i.toNat=i.natAbs by ext];ext
def ef:D->z8
 |.int i=>aT i
 |_=>[45]
def eS(x:D):Prop:=x=.non\/∃i,x=.int i/\Bd i
def zN:("-" : Str)=mkT [45]:=by decide +kernel
def tJ:(" of " : Str)=mkT [32,111,102,32]:=by decide +kernel
def NQ{x:D}(h:eS x):sQ [x]=some (.str (mkT (ef x))):=by
 refine cB (cC (bZ rfl ?_));walk_at"env";rcases h with rfl|⟨i,rfl,hi⟩
 ·lia
  rw[zN];rfl
 ·lia
  refine dM (lg hi) ?_;lia;rfl
def zO{x:D}(h:eS x):(ef x).length<=202:=by
 rcases h with rfl|⟨i,rfl,hi⟩
 ·simp[ef]
 ·exact i7 hi
def zP(l:E_):z8:=bc [32] (l.map ef)
section
variable {of d:Int}
def NR(g:Opn M CD C dk pl o nm off)(w1:w ≠ "ask")(w2:w ≠ "came")(h:e9 CD C [.ptr dk,.str w] M Q EX):jS CD C [.ptr dk,.str w,.lst (ay [])] M Q EX:=by
 obtain⟨⟨f,r,u,h1⟩,h2,h3⟩:=g;refine bb rfl ?_;grind;refine au (λe=>absurd e w1) λ_=>?_
 lia;refine au (λe=>absurd e w2) λ_=>?_
 lia;refine au (λe=>absurd e (by decide)) λ_=>?_
 lia;exact h
def zQ(g:Opn M CD C dk pl o nm off)(h:fu CD C [.ptr o,.non] M (λb M2=>WF iS [b] λy=>Q y M2) EX):e9 CD C [.ptr dk,.str "quiet"] M Q EX:=by
 obtain⟨⟨f,r,u,h1⟩,h2,h3⟩:=g;refine bb rfl ?_;grind;refine au (λ_=>?_) λe=>absurd rfl e
 lia;refine tI rfl h1 h3 ?_;lia;exact h
def NU(g:Opn M CD C dk pl o nm (aY S H_ I_ r c of d J0 J1 J4 J5 J6))(hS:S<=10)(hs:J1<=S)(h:Q (.str (mkT (aT ((S-J1:Nat):Int)))) M):e9 CD C [.ptr dk,.str "left"] M Q EX:=by
 obtain⟨⟨f,r,u,h1⟩,h2,h3⟩:=g;refine bb rfl ?_;grind;refine au (λe=>absurd e (by decide)) λ_=>?_
 lia;refine au (λ_=>?_) λe=>absurd rfl e
 lia;refine oT rfl h1 h3 ?_;lia;refine iX h3 hs ?_;lia;refine dM (lg ⟨by ext,by ext⟩) ?_;lia;exact h
def NV(g:Opn M CD C dk pl o nm (aY S H_ I_ r c of d J0 J1 J4 J5 J6))(ht:J0<=8)(h:Q (.str (mkT (aT (J0:Int)))) M):e9 CD C [.ptr dk,.str "turns"] M Q EX:=by
 obtain⟨⟨f,r,u,h1⟩,h2,h3⟩:=g;refine bb rfl ?_;grind;refine au (λe=>absurd e (by decide)) λ_=>?_
 lia;refine au (λe=>absurd e (by decide)) λ_=>?_
 lia;refine au (λ_=>?_) λe=>absurd rfl e
 lia;refine oT rfl h1 h3 ?_;lia;refine tq h3 ?_;lia;refine dM (lg ⟨by ext,by ext⟩) ?_;lia;exact h
def zR(g:Opn M CD C dk pl o nm (aY S H_ I_ r c of d J0 J1 J4 J5 J6))(hc:J5=.non/\x=J4\/∃y,J5=.int y/\x=J4-y)(hb:Bd x)(h:Q (.str (mkT (aT x))) M):e9 CD C [.ptr dk,.str "coins"] M Q EX:=by
 obtain⟨⟨f,r,u,h1⟩,h2,h3⟩:=g;refine bb rfl ?_;grind;refine au (λe=>absurd e (by decide)) λ_=>?_
 lia;refine au (λe=>absurd e (by decide)) λ_=>?_
 lia;refine au (λe=>absurd e (by decide)) λ_=>?_
 lia;refine au (λ_=>?_) λe=>absurd rfl e
 lia;refine oT rfl h1 h3 ?_;lia;rcases hc with⟨rfl,rfl⟩|⟨y,rfl,rfl⟩
 ·refine zt h3 ?_
  lia;refine dM (lg hb) ?_;lia;exact h
 ·refine tu h3 ?_
  lia;refine dM (lg hb) ?_;lia;exact h
def lT{l:List z8}(h:∀x∈l,x.length<=202):(l.map List.length).sum<=202*l.length:=by
 induction l with
 |nil=>simp
 | cons a r ih=>
   have:=ih λx hx=>h x (z9d _ hx)
   have:=h a z9a;simp only[z9p,z7e,z9b];ext
def NY{l:E_}(g:Opn M CD C dk pl o nm (aY S H_ I_ r c of d J0 J1 J4 J5 (.tup l)))(hl:l.length=4)(hk:∀x∈l,eS x)(h:Q (.str (mkT (zP l))) M):e9 CD C [.ptr dk,.str "why"] M Q EX:=by
 obtain⟨⟨f,r,u,h1⟩,h2,h3⟩:=g;refine bb rfl ?_;grind;refine au (λe=>absurd e (by decide)) λ_=>?_
 lia;refine au (λe=>absurd e (by decide)) λ_=>?_
 lia;refine au (λe=>absurd e (by decide)) λ_=>?_
 lia;refine au (λe=>absurd e (by decide)) λ_=>?_
 lia;refine au (λ_=>?_) λe=>absurd rfl e
 lia;refine tI rfl h1 h3 ?_;lia;refine zr h3 ?_;refine⟨l,rfl,by ext,?_⟩;rw[<- List.map_id l];refine iL id l (λk ds M'=>ds=ay ((l.take k).map ef)/\M'=M) ⟨by simp[ay],rfl⟩ ?_ ?_
 ·rintro ds _ ⟨rfl,rfl⟩
  rw[z6x];have hs:=lT (l:=l.map ef) λx hx=>by obtain⟨y,hy,rfl⟩:=z8z.mp hx;exact zO (hk y hy)
  rw[z9c,hl]at hs;refine jM (s:=" ") (by rw[gD,aA,z9c,hl];simp only[z9b,z9i];ext) ?_;rw[gD,aA];exact h
 ·rintro k hk' ds _ ⟨rfl,rfl⟩ N hN
  grind;refine bu (NQ (hk _ (z9u hk'))) ?_;refine hN _ _ ⟨?_,rfl⟩;rw[z8p hk',ay,ay,z8k,z8k];rfl
def NZ(g:Opn M CD C dk pl o nm (aY S H_ I_ r c of d J0 J1 J4 J5 .non))(h:EX "Early" M):e9 CD C [.ptr dk,.str "why"] M Q EX:=by
 obtain⟨⟨f,r,u,h1⟩,h2,h3⟩:=g;refine bb rfl ?_;grind;refine au (λe=>absurd e (by decide)) λ_=>?_
 lia;refine au (λe=>absurd e (by decide)) λ_=>?_
 lia;refine au (λe=>absurd e (by decide)) λ_=>?_
 lia;refine au (λe=>absurd e (by decide)) λ_=>?_
 lia;refine au (λ_=>?_) λe=>absurd rfl e
 lia;refine tI rfl h1 h3 ?_;lia;refine bb rfl ?_;grind;exact rW (by decide) h
def O0{a b:Int}(g:Opn M CD C dk pl o nm off)(hw:∀Q':QE,Q' (.tup [.int a,.int b]) M->oA CD C [.ptr o] M Q')(ha:Bd a)(hb:Bd b)(h:Q (.str (mkT (aT a++[32,111,102,32]++aT b))) M):e9 CD C [.ptr dk,.str "worth"] M Q EX:=by
 obtain⟨⟨f,r,u,h1⟩,h2,h3⟩:=g;refine bb rfl ?_;grind;refine au (λe=>absurd e (by decide)) λ_=>?_
 lia;refine au (λe=>absurd e (by decide)) λ_=>?_
 lia;refine au (λe=>absurd e (by decide)) λ_=>?_
 lia;refine au (λe=>absurd e (by decide)) λ_=>?_
 lia;refine au (λe=>absurd e (by decide)) λ_=>?_
 lia;refine au (λ_=>?_) λe=>absurd rfl e
 lia;refine oT rfl h1 h3 ?_;lia;refine hw _ ?_;refine⟨_,rfl,by simp,?_⟩;rw[show [D.int a,D.int b]=[a,b].map D.int from rfl];refine iL D.int [a,b] (λk ds M'=>ds=ay (([a,b].take k).map aT)/\M'=M) ⟨by simp[ay],rfl⟩ ?_ ?_
 ·rintro ds _ ⟨rfl,rfl⟩
  have l1:=i7 ha;have l2:=i7 hb;refine jM (s:=" of ") (by rw[tJ,aA];simp only[List.take_succ_cons,List.take_nil,z9b,z9i,z9p,z6o,z7e,List.sum_nil];ext) ?_;rw[tJ,aA];exact h
 ·rintro k hk' ds _ ⟨rfl,rfl⟩ N hN
  grind;refine dM (lg ?_) ?_
  ·have:[a,b][k]=a\/[a,b][k]=b:=by
    have:=z9u hk'
    rwa [z9k,z9w]at this
   rcases this with e|e<;>rw[e]<;>assumption
  refine hN _ _ ⟨?_,rfl⟩;rw[z8p hk',ay,ay,z8k,z8k];rfl
end
section
variable {of d:Int}
def O3(s:Sale S H_ I_ r c of d)(hm:M o=some (.ins C c_ (aY S H_ I_ r c of d J0 J1 J4 J5 J6)))(h:Q (.tup [.int (((b9 H_ I_ (of ^ S) (ends r c of d S)).getD 0 []).getD S 0),.int ((bi I_ (of ^ S)).getD 0 0)]) M):oA CD C [.ptr o] M Q:=by refine ca rfl ?_;grind;refine lf ∅ (by rw[lP];ext) ?_;lia;refine dH ∅ (by rw[show(0:Int).toNat=0 from rfl,oI _ _ _ _ _ ∅,jU];ext) ?_;lia;refine dH ∅ (by rw[iV];ext) ?_;lia;rw[show(0:Int).toNat=0 from rfl,z7a];exact h
end
def O4{a b:Int}(hb:1<=b):-(a.natAbs:Int)-1<=a / b/\a / b<=a.natAbs:=by
 have h1:=Int.ediv_mul_le a (show b≠0 by ext);have h2:=Int.lt_ediv_add_one_mul_self a (show 0<b by ext);by_cases hq:0<=a / b
 ·have:=z7n hb hq
  constructor<;>ext
 ·have hq':a / b+1<=0:=by ext
  have:=Int.mul_le_mul_of_nonpos_left hq' hb;constructor<;>ext
theorem zS{B:Int}(hB:0<=B):∀(row ys:z9),(∀x∈row,0<=x)->(∀y∈ys,-B<=y/\y<=B)->-(row.sum*B)<=(List.zipWith (λa b=>a*b) row ys).sum/\(List.zipWith (λa b=>a*b) row ys).sum<=row.sum*B
 |[],_,_,_=>by simp
 |x::r,[],h,_=>by have h1:=lh h;have:=z7w h1 hB;simp only[List.zipWith_nil_right,List.sum_nil];ext
 | x::r,y::ys,h,h'=>by
   have ih:=zS hB r ys (λz hz=>h z (z9d _ hz)) λz hz=>h' z (z9d _ hz)
   have hx:=h x z9a;have hy:=h' y z9a;have a1:=z7n hy.2 hx;have a2:=z7n hy.1 hx;rw[List.zipWith_cons_cons,z7e,z7e,Int.add_mul];rw[Int.mul_neg]at a2;ext
def O5{A:Int}{bs:z9}(hr:∀x∈row,0<=x)(hs:0<=row.sum/\row.sum<=7000)(hf:∀x∈H_,1<=x/\x<=1000000)(hsc:1<=scale/\scale<=10 ^ 88)(hA:10 ^ 95<=A)(hb:∀x∈bs,-A<=x/\x<=A):∀x∈i5 H_ row scale bs,-(20000*A)<=x/\x<=20000*A:=by
 intro x hx;obtain⟨s,hs',rfl⟩:=z8z.mp hx;have hs':=z7p.mp hs';have hg:∀i,-A<=bs.getD i 0/\bs.getD i 0<=A:=λi=>by
  by_cases hi:i<bs.length
  ·rw[gp _ _ _ hi];exact hb _ (z9u _)
  ·rw[z8v,z5g ∅];simp;ext
 have hc:∀y∈(H_.map λf=>iW f scale bs s)++[bs.getD s 0],-(A+10 ^ 95)<=y/\y<=A+10 ^ 95:=λy hy=>by
  rcases z8q.mp hy with hy|hy
  ·obtain⟨f,hf',rfl⟩:=z8z.mp hy
   have h1:=hf f hf';have h2:f*scale<=1000000*10 ^ 88:=z7s h1.2 hsc.2 ∅ ∅;have h3:0<=f*scale:=z7w ∅ ∅;have g0:=hg 0;have g1:=hg s;have g2:=hg (s-1);simp only[iW];split<;>ext
  ·rw[z9w.mp hy]
   have:=hg s;ext
 have z:=zS (B:=A+10 ^ 95) ∅ row _ hr hc;have m:row.sum*(A+10 ^ 95)<=7000*(A+10 ^ 95):=Int.mul_le_mul_of_nonneg_right hs.2 ∅;have e:oG H_ row scale bs s=(List.zipWith (λa b=>a*b) row ((H_.map λf=>iW f scale bs s)++[bs.getD s 0])).sum:=rfl;rw[<- e]at z;constructor<;>ext
theorem zT{H_:z9}{last:Int}{es:z9}(hf:∀x∈H_,1<=x/\x<=1000000)(hfl:H_.length<=6)(hl:1<=last/\last<=10 ^ 40)(he:∀x∈es,-(10 ^ 95)<=x/\x<=10 ^ 95):∀{ts:List z9},RowsOk H_.length ts->ts.length<=8->∀x∈(b9 H_ ts last es).headD [],-(10 ^ 95*20000 ^ ts.length)<=x/\x<=10 ^ 95*20000 ^ ts.length
 |[],_,_,x,hx=>by have:=he x (by simpa [b9]using hx);simpa using this
 | r::rs,h,h8,x,hx=>by
   have hrs:RowsOk H_.length rs:=λq hq=>h q (z9d _ hq)
   have ih:=zT hf hfl hl he hrs (by simp at h8;ext);have hr:=h r z9a;have hsum:0<=r.sum/\r.sum<=7000:=by
    have h4:=qY (b:=1000) λx hx=>(hr.2.1 x hx).2
    exact⟨by ext,by ext⟩
   have hsc:=zm ∅ hl.1 hl.2 hrs (by simp at h8;ext);have hp:(1:Int)<=20000 ^ rs.length:=by
    have:∀n:Nat,(1:Int)<=20000 ^ n:=λn=>by
     induction n with
     |zero=>simp
     |succ n ih=>rw[z6b];ext
    exact this _
   have hA:(10 ^ 95:Int)<=10 ^ 95*20000 ^ rs.length:=by ext
   have:=O5 (λx hx=>(hr.2.1 x hx).1) hsum hf hsc hA ih x (by simpa [b9]using hx);rw[z9b,z6b];constructor<;>ext
def O6{o d:Int}(hS:S<=10)(hr:0<=r/\r<=1000)(hc:0<=c/\c<=o)(ho:o<=1000)(h1:1<=o)(hd:0<=d/\d<=1000000):∀x∈ends r c o d S,-(10 ^ 95)<=x/\x<=10 ^ 95:=by
 intro x hx;obtain⟨l,hl,rfl⟩:=z8z.mp hx;have hl:=z7p.mp hl;have hn:S-l<=10:=by ext
 generalize S-l=n at hn;have a1:=ze (r:=r) hc.1 (show 0<=o-c by ext) n;have a2:=zf hr.1 hc.1 (show 0<=o-c by ext) n;rw[show c+(o-c)=o by ext]at a2;have a3:o ^ n<=1000 ^ 10:=gW 10 ∅ ho ∅ hn;have a4:(n:Int)*o ^ n<=10*1000 ^ 10:=z7s ∅ a3 (li ∅ n) ∅;have b1:=z7w hd.1 a1;have b2:d*eR r c (o-c) n<=1000000*(10*1000 ^ 10):=z7s hd.2 ∅ a1 ∅;have c1:=li (show 0<=o by ext) l;have c2:o ^ l<=1000 ^ 10:=gW 10 ∅ ho ∅ ∅;have e:lO r c o d n l = -(d*eR r c (o-c) n*o ^ l):=by rw[lO,Int.neg_mul,Int.neg_mul]
 have m1:d*eR r c (o-c) n*o ^ l<=1000000*(10*1000 ^ 10)*1000 ^ 10:=z7s b2 c2 c1 ∅;have m2:=z7w b1 c1;rw[e];constructor<;>ext
def oU{of d:Int}(s:Sale S H_ I_ r c of d){t i:Nat}(ht:t<=I_.length):-(10 ^ 130)<=((b9 H_ I_ (of ^ S) (ends r c of d S)).getD t []).getD i 0/\((b9 H_ I_ (of ^ S) (ends r c of d S)).getD t []).getD i 0<=10 ^ 130:=by
 rw[tm _ _ _ _ _ ht];have t1:=s.t1;have p0:(1:Int)<=of ^ S:=by
  have:∀n:Nat,(1:Int)<=of ^ n:=λn=>by
   induction n with
   |zero=>simp
   |succ n ih=>rw[z6b];have:=z7s ih s.o1 ∅ ∅;ext
  exact this S
 have p1:of ^ S<=1000 ^ 10:=gW 10 (by have:=s.o1;ext) s.o2 ∅ s.hS;have hb:=zT (es:=ends r c of d S) (last:=of ^ S) s.f3 s.f2 ⟨p0,by ext⟩ (O6 s.hS ⟨s.r1,by have:=s.r2;ext⟩ ⟨s.c1,s.c2⟩ s.o2 s.o1 ⟨s.d1,s.d2⟩) (s.t2.drop (k:=t)) (by rw[z7l];ext);have hp:(20000:Int) ^ (I_.drop t).length<=20000 ^ 8:=gW 8 ∅ ∅ ∅ (by rw[z7l];ext);generalize (b9 H_ (I_.drop t) (of ^ S) (ends r c of d S)).headD []=L at hb ⊢;by_cases hi:i<L.length
 ·have:=hb _ (z9u hi)
  rw[gp _ _ _ hi];constructor<;>ext
 ·rw[z8v,z5g ∅]
  simp
section
variable {of d:Int}
def O7(hm:M o=some (.ins C c_ (aY S H_ I_ r c of d J0 J1 J4 J5 .non)))(h:EX "Early" M):jQ CD C [.ptr o] M Q EX:=by refine bb rfl ?_;grind;exact⟨by decide,h⟩
def zU(hm:M o=some (.ins C c_ (aY S H_ I_ r c of d J0 J1 J4 J5 J6)))(ht:J0<I_.length)(h:EX "Early" M):fV CD C [.ptr o,th] M Q EX:=by refine bb rfl ?_;grind;refine iY hm ?_;rw[z8h ∅];lia;exact⟨by decide,h⟩
def zV(hm:M o=some (.ins C c_ (aY S H_ I_ r c of d I_.length J1 J4 (.int due) J6)))(h:EX "Done" M):fV CD C [.ptr o,th] M Q EX:=by refine bb rfl ?_;grind;refine iY hm ?_;rw[z8d rfl];lia;exact⟨by decide,h⟩
def zW{v:Int}(hm:M o=some (.ins C c_ (aY S H_ I_ r c of d I_.length J1 J4 .non J6)))(hv:v<0\/(J1:Int)<v)(h:EX "TooMany" M):fV CD C [.ptr o,.int v] M Q EX:=by refine bb rfl ?_;grind;refine iY hm ?_;rw[z8d rfl];lia;rw[z8h (show ¬((0:Int)<=v/\v<=(J1:Nat))by ext)];lia;exact⟨by decide,h⟩
end
noncomputable def zX(x:Str):E_:=[.bl (decide (x="NoClass")),.bl (decide (x="Over")),.bl (decide (x="Early")),.bl (decide (x="Done")),.bl (decide (x="TooMany")),.bl (decide (x="NoRow")),.bl (decide (x="Twice")),.bl (decide (x="NoTurn")),.bl (decide (x="Full")),.bl (decide (x="NoSale")),.bl false]
inductive Res where
 |ans (y:Str) (off:E_)
 |ref (x:Str)
def oV:Res->D
 |.ans y _=>.str y
 |.ref x=>.lst (zX x)
def After(C o:Nat):Res->Sto->Sto->Prop
 |.ans _ off,M,M1=>Kp (· = o) M M1/\M1 o=some (.ins C c_ off)
 |.ref _,M,M1=>Kp (λ_=>False) M M1
def oW(C o:Nat)(M:Sto)(T:QE->QX->Prop):Res->Prop
 |.ans y off=>∀Q EX,(∀M1,Kp (· = o) M M1->M1 o=some (.ins C c_ off)->Q (.str y) M1)->T Q EX
 |.ref x=>x∈XS/\∀Q EX,(∀M1,Kp (λ_=>False) M M1->EX x M1)->T Q EX
section
variable {x:Str}{r:Res}
def zY(hm:M a=some (.exn a x))(hx:x∈XS)(h:Q (.lst (zX x)) M):oz CD C [.ptr a] M Q:=by refine ca rfl ?_;grind;refine⟨.bl false,rfl,?_⟩;lia;exact h
def oX(hdk:M dk=some (.ins CD d_ ds0))(hs:oW C o M (cu CD C [.ptr dk,.str z] M) r)(h:∀M1,After C o r M M1->Q (oV r) M1):dC CD C [.ptr dk,.str z] M Q:=by
 refine ca rfl ?_;grind;cases r with
 | ans y off=>
   refine hs _ _ λM1 k1 m1=>?_
   lia;exact h M1 ⟨k1,m1⟩
 | ref x=>
   refine hs.2 _ _ λM1 k1 a ha=>?_
   grind;refine zY aB hs.1 ?_;exact h _ (k1.trans (Kp.upd (.inr ha)) λ_ z _=>z)
def O8{ds0:E_}(hs:oW C o M (fW CD C [.ptr o,.str w,th] M) r)(h:∀M1,After C o r M M1->Q (oV r) M1):i0 CD C [.ptr o,.str w,th] M Q:=by
 refine ca rfl ?_;grind;cases r with
 | ans y off=>
   refine hs _ _ λM1 k1 m1=>?_
   lia;exact h M1 ⟨k1,m1⟩
 | ref x=>
   refine hs.2 _ _ λM1 k1 a ha=>?_
   grind;refine zY aB hs.1 ?_;exact h _ (k1.trans (Kp.upd (.inr ha)) λ_ z _=>z)
end
def O9:("ask" : Str)=mkT [97,115,107]:=by decide +kernel
def Oa:("came" : Str)=mkT [99,97,109,101]:=by decide +kernel
def zZ:("ask " : Str)=mkT ([97,115,107]++[32]):=by decide +kernel
def Ob:("came " : Str)=mkT ([99,97,109,101]++[32]):=by decide +kernel
def oY{n:z8}(g:fw n):32∉n:=λe=>by have:=let_mem.mp (g.2 _ e);ext
def Oc(g:Opn M CD C dk pl o nm off)(hn:num<10000000)(h:fV CD C [.ptr o,.int (num:Nat)] M (λx M1=>W1 b8 x λy=>Q y M1) EX):jS CD C [.ptr dk,.str "came",.lst (ay [aT (num:Nat)])] M Q EX:=by
 obtain⟨⟨f,r,u,h1⟩,h2,h3⟩:=g;refine bb rfl ?_;grind;refine au (λe=>absurd e (by decide)) λ_=>?_
 lia;refine au (λ_=>?_) λe=>absurd rfl e
 lia;refine au (λ_=>?_) λe=>absurd rfl e
 lia;refine zM rfl h1 h3 ?_;lia;refine lS ∅ ∅ ?_;lia;exact h
def Od{n:z8}(g:Opn M CD C dk pl o nm off)(hn:n∉nm)(ha:∀c∈n,c<128)(hl:n.length<=1000)(h:EX "NoClass" M):jR CD C [.ptr dk,.str (mkT n)] M Q EX:=by
 obtain⟨⟨f,r,u,h1⟩,h2,h3⟩:=g;refine bb rfl ?_;grind;refine⟨pl,_,_,_,rfl,rfl,h2,?_⟩;lia;refine gU (λe=>?_) λe=>absurd (mem_mk.mp e) hn
 refine rZ (by decide) ?_ h;lia;exact⟨_,rfl,asc_mk.mpr ha,by rw[aA];ext⟩
def tK{n:z8}(g:Opn M CD C dk pl o nm off)(nb:32∉n)(n0:n≠[])(nl:n.length<=1000)(h:∀M1,Kp (λ_=>False) M M1->jR CD C [.ptr dk,.str (mkT n)] M1 (λx M1=>fu CD C [.ptr o,x] M1 (λb M2=>WF iS [b] λy=>Q y M2) EX) EX):cu CD C [.ptr dk,.str (mkT ([97,115,107]++[32]++n))] M Q EX:=by
 have g0:=g;obtain⟨⟨f,r,u,e1⟩,e2,e3⟩:=g;refine tH (hd:=[97,115,107]) (rest:=[n]) (by rw[aA,z9f];simp only[z9f,z9b,z9i];ext) (by rw[aA,oN 32 _ _ (by decide),lR 32 n nb]) (λe=>?_) e1 λM1 k1=>?_
 ·rcases z9k.mp e with e|e
  ·cases e
  ·exact n0 (z9w.mp e).symm
 ·rw[<- O9]
  exact NP (g0.keep k1) (h M1 k1)
def j3{wl:z8}(g:Opn M CD C dk pl o nm off)(ew:w=mkT wl)(hl:wl.length<=100)(hn:wl≠[])(hb:32∉wl)(w1:w ≠ "ask")(w2:w ≠ "came")(h:∀M1,Kp (λ_=>False) M M1->e9 CD C [.ptr dk,.str w] M1 Q EX):cu CD C [.ptr dk,.str w] M Q EX:=by
 have g0:=g;obtain⟨⟨f,r,u,e1⟩,e2,e3⟩:=g;refine tH (hd:=wl) (rest:=[]) (by rw[ew,aA];ext) (by rw[ew,aA,lR 32 _ hb]) (λe=>hn (z9w.mp e).symm) e1 λM1 k1=>?_
 rw[<- ew];exact NR (g0.keep k1) w1 w2 (h M1 k1)
def oZ(g:Opn M CD C dk pl o nm off)(hn:num<10000000)(h:∀M1,Kp (λ_=>False) M M1->fV CD C [.ptr o,.int (num:Nat)] M1 (λx M2=>W1 b8 x λy=>Q y M2) EX):cu CD C [.ptr dk,.str (mkT ([99,97,109,101]++[32]++aT (num:Nat)))] M Q EX:=by
 have g0:=g;obtain⟨⟨f,r,u,e1⟩,e2,e3⟩:=g;obtain⟨gn,_,nb,_⟩:=oR (x:=(num:Nat)) ∅ ∅;refine tH (hd:=[99,97,109,101]) (rest:=[aT (num:Nat)]) (by rw[aA,z9f];have:=gn.1.1.2;simp only[z9f,z9b,z9i];ext) (by rw[aA,oN 32 _ _ (by decide),lR 32 _ nb]) (λe=>?_) e1 λM1 k1=>?_
 ·rcases z9k.mp e with e|e
  ·cases e
  ·have:=z9w.mp e
   have h1:=gn.1.1.1;rw[<- this]at h1;simp at h1
 ·rw[<- Oa]
  exact Oc (g0.keep k1) hn (h M1 k1)
def pb(hw:w="ask"\/w="quiet")(hm:M o=some (.ins C c_ ds0))(h:fu CD C [.ptr o,th] M (λb M1=>W1 qR b λi=>W2 ixD (.lst [.str "no",.str "yes"]) i λd=>Q d M1) EX):fW CD C [.ptr o,.str w,th] M Q EX:=by
 refine bb rfl ?_;grind;refine au (λ_=>?_) λe=>?_
 ·lia
  exact⟨_,rfl,_,rfl,o,ds0,rfl,hm,_,rfl,h⟩
 ·lia
  refine au (λ_=>?_) λe2=>absurd hw (λz=>z.elim e e2)
  lia;exact⟨_,rfl,_,rfl,o,ds0,rfl,hm,_,rfl,h⟩
def pe(hm:M o=some (.ins C c_ ds0))(h:fV CD C [.ptr o,th] M (λx M1=>W1 b8 x λy=>Q y M1) EX):fW CD C [.ptr o,.str "came",th] M Q EX:=by
 refine bb rfl ?_;grind;refine au (λe=>absurd e (by decide)) λ_=>?_
 lia;refine au (λe=>absurd e (by decide)) λ_=>?_
 lia;refine au (λ_=>?_) λe=>absurd rfl e
 lia;exact h
def Oe(hm:M o=some (.ins C c_ ds0))(h:gu CD C [.ptr o] M λx M1=>WF (ar b8) [vw1 M1 x] λy=>aS y=true/\Q y M1):fW CD C [.ptr o,.str "left",th] M Q EX:=by
 refine bb rfl ?_;grind;refine au (λe=>absurd e (by decide)) λ_=>?_
 lia;refine au (λe=>absurd e (by decide)) λ_=>?_
 lia;refine au (λe=>absurd e (by decide)) λ_=>?_
 lia;refine au (λ_=>?_) λe=>absurd rfl e
 lia;exact h
def Of(hm:M o=some (.ins C c_ ds0))(h:gv CD C [.ptr o] M λx M1=>WF (ar b8) [vw1 M1 x] λy=>aS y=true/\Q y M1):fW CD C [.ptr o,.str "turns",th] M Q EX:=by
 refine bb rfl ?_;grind
 iterate 4
  refine au (λe=>absurd e (by decide)) λ_=>?_
  lia
 refine au (λ_=>?_) λe=>absurd rfl e
 lia;exact h
def Og(hm:M o=some (.ins C c_ ds0))(h:fU CD C [.ptr o] M λx M1=>WF (ar b8) [vw1 M1 x] λy=>aS y=true/\Q y M1):fW CD C [.ptr o,.str "coins",th] M Q EX:=by
 refine bb rfl ?_;grind
 iterate 5
  refine au (λe=>absurd e (by decide)) λ_=>?_
  lia
 refine au (λ_=>?_) λe=>absurd rfl e
 lia;exact h
def A0(hm:M o=some (.ins C c_ ds0))(h:jQ CD C [.ptr o] M (λx M1=>∃ds,x=.tup ds/\ds.length<=1000/\cT 1 (nP (eIf (eT (e1 e7 (a5 0))) (eA (ar b8) (aa (a5 0) (aj))) (eC (.str "-")))) [none] ds [] M1 λds M2=>W1 (eQ (.str " ")) (.lst ds) λy=>Q y M2) EX):fW CD C [.ptr o,.str "why",th] M Q EX:=by
 refine bb rfl ?_;grind
 iterate 6
  refine au (λe=>absurd e (by decide)) λ_=>?_
  lia
 exact h
def cb(S:Nat)(fs:z9)(ts:List z9)(r c of d:Int)(off:E_):Prop:=∃J0 J1 J4 J5 J6,off=aY S fs ts r c of d J0 J1 J4 J5 J6/\J0<=ts.length/\J1<=S/\0<=J4/\J4<=(J0:Nat)*1000000/\(J5=.non\/J0=ts.length/\∃y,J5=.int y/\0<=y/\y<=100000000)/\(J6=.non\/∃l,J6=.tup l/\l.length=4/\∀x∈l,eS x)
def gE(CD C dk o:Nat)(M:Sto)(z w:Str)(th:D)(off:E_)(P:E_->Prop):Prop:=
 ∃r,oW C o M (cu CD C [.ptr dk,.str z] M) r/\(∀o2 M1,M1 o2=some (.ins C c_ off)->oW C o2 M1 (fW CD C [.ptr o2,.str w,th] M1) r)/\∀y off',r=.ans y off'->P off'
def A1{fs:z9}{ts:List z9}{of d:Int}(s:Sale S fs ts r c of d)(ht:J0<ts.length):eS (gC S J1 J0 fs ts r c of d):=by
 unfold gC;split
 ·exact .inl rfl
 ·refine .inr ⟨_,rfl,?_⟩
  have h1:=oU s (t:=J0+1) (i:=S-J1-1) ∅;have h2:=oU s (t:=J0+1) (i:=S-J1) ∅;have h3:=oJ s (t:=J0+1) ∅;have h4:=O4 (a:=((b9 fs ts (of ^ S) (ends r c of d S)).getD (J0+1) []).getD (S-J1-1) 0-((b9 fs ts (of ^ S) (ends r c of d S)).getD (J0+1) []).getD (S-J1) 0) h3.1;constructor<;>ext
def pj(h:n<=100):eS (.int (n:Nat)):=.inr ⟨_,rfl,by constructor<;>ext⟩
def A2{a b e f:D}(ha:eS a)(hb:eS b)(he:eS e)(hf:eS f):∀x∈[a,b,e,f],eS x:=λx hx=>by
 simp only[z9k,z7m,z5m]at hx;rcases hx with rfl|rfl|rfl|rfl
 ·exact ha
 ·exact hb
 ·exact he
 ·exact hf
theorem A3{M:Sto}{K:E_->Sto->Prop}:∀(l:E_) (_:∀x∈l,eS x) (done:E_) (_:K (done++ay (l.map ef)) M),cT 1 (nP (eIf (eT (e1 e7 (a5 0))) (eA (ar b8) (aa (a5 0) (aj))) (eC (.str "-")))) [none] l done M K
 |[],_,done,h=>by rw[show done++ay (List.map ef [])=done from z8r _]at h;exact h
 | x::r,hk,done,h=>by
   have ih:=λd=>A3 (M:=M) (K:=K) r (λy hy=>hk y (z9d _ hy)) (done++[d])
   have e:done++ay ((x::r).map ef)=done++[.str (mkT (ef x))]++ay (r.map ef):=by simp[ay]
   rw[e]at h;rcases hk x z9a with rfl|⟨i,rfl,hb⟩
   ·exact⟨_,rfl,ih _ (by rw[zN];exact h)⟩
   ·refine⟨.str (mkT (aT i)),?_,ih _ h⟩
    show(eA (ar b8) (aa (a5 0) aj)) [some (.int i)]=_;show ar b8 [.int i]=_;simp only[ar,b8,if_pos (lg hb)]
section
variable {fs:z9}{ts:List z9}{of d:Int}
def Oh{k:Nat}(s:Sale S fs ts r c of d)(g:Opn M CD C dk pl o nm off)(ok:cb S fs ts r c of d off)(hl:nm.length=fs.length)(hk:k<nm.length)(nd:nm.Nodup)(gn:fw nm[k]):
  gE CD C dk o M (mkT ([97,115,107]++[32]++nm[k])) "ask" (.int (k:Nat)) off (cb S fs ts r c of d):=by
 obtain⟨J0,J1,J4,J5,J6,rfl,ht,hs,p0,p1,du,la⟩:=ok;have n0:nm[k]≠[]:=λe=>by have h1:=gn.1.1;rw[e]at h1;simp at h1
 have nl:(nm[k]).length<=1000:=by have:=gn.1.2;ext
 by_cases hv:J0=ts.length
 ·subst hv
  refine⟨.ref "Over",⟨by decide,λQ EX hx=>?_⟩,λo2 M1 m1=>⟨by decide,λQ EX hx=>?_⟩,λy off' e=>nomatch e⟩
  ·refine tK g (oY gn) n0 nl λM1 k1=>?_
   exact zL (g.keep k1) hk nd (oS (g.keep k1).ho (hx M1 k1))
  ·exact pb (.inl rfl) m1 (oS m1 (hx M1 Kp.refl))
 ·obtain⟨b,hb⟩:∃b,jV (fs.getD k 0) ((bi ts (of ^ S)).getD (J0+1) 0) ((b9 fs ts (of ^ S) (ends r c of d S)).getD (J0+1) []) (S-J1)=b:=⟨_,rfl⟩
  refine⟨.ans (if b=true then "yes" else "no") (aY S fs ts r c of d (J0+1) (J1+(if b=true then 1 else 0)) (J4+(if b=true then fs.getD k 0 else 0)) J5 (.tup [.int (J0:Nat),.int ((S-J1:Nat):Int),gC S J1 J0 fs ts r c of d,.int (fs.getD k 0)])),λQ EX hq=>?_,λo2 M1 m1 Q EX hq=>?_,λy off' e=>?_⟩
  ·refine tK g (oY gn) n0 nl λM1 k1=>?_
   refine zL (g.keep k1) hk nd (zq s (g.keep k1).ho hs ∅ ∅ hb λM2 m2 k2=>?_);exact bu zJ (hq M2 (λb cc hb hn=>k2 b cc (k1 b cc hb id) hn) m2)
  ·refine pb (.inl rfl) m1 (zq s m1 hs ∅ ∅ hb λM2 m2 k2=>?_)
   have:=hq M2 k2 m2;cases b
   ·exact⟨_,rfl,_,rfl,this⟩
   ·exact⟨_,rfl,_,rfl,this⟩
  ·cases e
   have hS:=s.hS;have t1:=s.t1;have hfk:1<=fs.getD k 0/\fs.getD k 0<=1000000:=by rw[z8v,z9o (show k<fs.length by ext)];exact s.f3 _ (z9u _)
   refine⟨_,_,_,J5,_,rfl,by ext,?_,?_,?_,?_,.inr ⟨_,rfl,rfl,A2 (pj ∅) (pj ∅) (A1 s ∅) (.inr ⟨_,rfl,by constructor<;>ext⟩)⟩⟩
   ·cases b
    ·exact hs
    ·have:0<S-J1:=by have:=hb;unfold jV at this;exact(z6j this).1
     show J1+1<=S;ext
   ·cases b
    ·show 0<=J4+0;ext
    ·show 0<=J4+fs.getD k 0;ext
   ·cases b
    ·show J4+0<=((J0+1:Nat):Int)*1000000;ext
    ·show J4+fs.getD k 0<=((J0+1:Nat):Int)*1000000;ext
   ·rcases du with du|⟨q,_⟩
    ·exact .inl du
    ·exact absurd q hv
def Oi(s:Sale S fs ts r c of d)(g:Opn M CD C dk pl o nm off)(ok:cb S fs ts r c of d off):gE CD C dk o M "quiet" "quiet" .non off (cb S fs ts r c of d):=by
 obtain⟨J0,J1,J4,J5,J6,rfl,ht,hs,p0,p1,du,la⟩:=ok;have sy:∀{Q:QE} {EX:QX},(∀M1,Kp (λ_=>False) M M1->e9 CD C [.ptr dk,.str "quiet"] M1 Q EX)->cu CD C [.ptr dk,.str "quiet"] M Q EX:=λh=>j3 g (wl:=[113,117,105,101,116]) (by decide +kernel) (by decide) (by decide) (by decide) (by decide) (by decide) h
 by_cases hv:J0=ts.length
 ·subst hv
  refine⟨.ref "Over",⟨by decide,λQ EX hx=>?_⟩,λo2 M1 m1=>⟨by decide,λQ EX hx=>?_⟩,λy off' e=>nomatch e⟩
  ·exact sy λM1 k1=>zQ (g.keep k1) (oS (g.keep k1).ho (hx M1 k1))
  ·exact pb (.inr rfl) m1 (oS m1 (hx M1 Kp.refl))
 ·refine⟨.ans "no" (aY S fs ts r c of d (J0+1) J1 J4 J5 (.tup [.int (J0:Nat),.int ((S-J1:Nat):Int),gC S J1 J0 fs ts r c of d,.non])),λQ EX hq=>?_,λo2 M1 m1 Q EX hq=>?_,λy off' e=>?_⟩
  ·refine sy λM1 k1=>zQ (g.keep k1) (zp s (g.keep k1).ho hs ∅ λM2 m2 k2=>?_)
   exact bu zJ (hq M2 (λb cc hb hn=>k2 b cc (k1 b cc hb id) hn) m2)
  ·refine pb (.inr rfl) m1 (zp s m1 hs ∅ λM2 m2 k2=>?_)
   exact⟨_,rfl,_,rfl,hq M2 k2 m2⟩
  ·cases e
   have hS:=s.hS;have t1:=s.t1;refine⟨_,_,_,J5,_,rfl,by ext,hs,p0,by ext,?_,.inr ⟨_,rfl,rfl,A2 (pj ∅) (pj ∅) (A1 s ∅) (.inl rfl)⟩⟩;rcases du with du|⟨q,_⟩
   ·exact .inl du
   ·exact absurd q hv
end
section
variable {fs:z9}{ts:List z9}{of d:Int}
def Oj(s:Sale S fs ts r c of d)(g:Opn M CD C dk pl o nm off)(ok:cb S fs ts r c of d off)(hn:num<10000000):
  gE CD C dk o M (mkT ([99,97,109,101]++[32]++aT (num:Nat))) "came" (.int (num:Nat)) off (cb S fs ts r c of d):=by
 obtain⟨J0,J1,J4,J5,J6,rfl,ht,hs,p0,p1,du,la⟩:=ok;have hS:=s.hS;have t1:=s.t1;by_cases hv:J0<ts.length
 ·refine⟨.ref "Early",⟨by decide,λQ EX hx=>?_⟩,λo2 M1 m1=>⟨by decide,λQ EX hx=>?_⟩,λy off' e=>nomatch e⟩
  ·exact oZ g hn λM1 k1=>zU (g.keep k1).ho hv (hx M1 k1)
  ·exact pe m1 (zU m1 hv (hx M1 Kp.refl))
 ·obtain rfl:J0=ts.length:=by ext
  rcases du with rfl|⟨_,y,rfl,y0,y1⟩
  ·by_cases hm:J1<num
   ·refine⟨.ref "TooMany",⟨by decide,λQ EX hx=>?_⟩,λo2 M1 m1=>⟨by decide,λQ EX hx=>?_⟩,λy off' e=>nomatch e⟩
    ·exact oZ g hn λM1 k1=>zW (g.keep k1).ho ∅ (hx M1 k1)
    ·exact pe m1 (zW m1 ∅ (hx M1 Kp.refl))
   ·have d1:=s.d1
    have d2:=s.d2;have hmx:0<=max ((num:Int)-r) 0/\max ((num:Int)-r) 0<=100:=by have:=s.r1;ext
    have hy:0<=d*max ((num:Int)-r) 0/\d*max ((num:Int)-r) 0<=100000000:=⟨z7w d1 hmx.1,Int.le_trans (z7s d2 hmx.2 hmx.1 (by decide)) (by decide)⟩;have bd:Bd (J4-d*max ((num:Int)-r) 0):=⟨by ext,by ext⟩;have st:W1 b8 (.int (J4-d*max ((num:Int)-r) 0)) λy=>y=.str (mkT (aT (J4-d*max ((num:Int)-r) 0))):=⟨_,by simp only[b8,if_pos (lg bd)],rfl⟩
    refine⟨.ans (mkT (aT (J4-d*max ((num:Int)-r) 0))) (aY S fs ts r c of d ts.length J1 J4 (.int (d*max ((num:Int)-r) 0)) J6),λQ EX hq=>?_,λo2 M1 m1 Q EX hq=>?_,λy off' e=>?_⟩
    ·refine oZ g hn λM1 k1=>zu s (g.keep k1).ho ∅ λM2 m2 k2=>?_
     obtain⟨y,h1,rfl⟩:=st;exact⟨_,h1,hq M2 (λb cc hb hn=>k2 b cc (k1 b cc hb id) hn) m2⟩
    ·refine pe m1 (zu s m1 ∅ λM2 m2 k2=>?_)
     obtain⟨y,h1,rfl⟩:=st;exact⟨_,h1,hq M2 k2 m2⟩
    ·cases e
     exact⟨_,_,_,_,_,rfl,ht,hs,p0,p1,.inr ⟨rfl,_,rfl,hy.1,hy.2⟩,la⟩
  ·refine⟨.ref "Done",⟨by decide,λQ EX hx=>?_⟩,λo2 M1 m1=>⟨by decide,λQ EX hx=>?_⟩,λy off' e=>nomatch e⟩
   ·exact oZ g hn λM1 k1=>zV (g.keep k1).ho (hx M1 k1)
   ·exact pe m1 (zV m1 (hx M1 Kp.refl))
def jZ{M1:Sto}(k:Kp (λ_=>False) M M1):Kp (· = a) M M1:=λb c h _=>k b c h id
def Om(s:Sale S fs ts r c of d)(g:Opn M CD C dk pl o nm off)(ok:cb S fs ts r c of d off):gE CD C dk o M "left" "left" .non off (cb S fs ts r c of d):=by
 have ok0:=ok;obtain⟨J0,J1,J4,J5,J6,rfl,ht,hs,p0,p1,du,la⟩:=ok;have hS:=s.hS;refine⟨.ans (mkT (aT ((S-J1:Nat):Int))) (aY S fs ts r c of d J0 J1 J4 J5 J6),λQ EX hq=>?_,λo2 M1 m1 Q EX hq=>?_,λy off' e=>by cases e;exact ok0⟩
 ·exact j3 g (wl:=[108,101,102,116]) (by decide +kernel) (by decide) (by decide) (by decide) (by decide) (by decide) λM1 k1=>NU (g.keep k1) hS hs (hq M1 (jZ k1) (g.keep k1).ho)
 ·exact Oe m1 (iX m1 hs (dM (lg ⟨by ext,by ext⟩) ⟨rfl,hq M1 Kp.refl m1⟩))
def On(s:Sale S fs ts r c of d)(g:Opn M CD C dk pl o nm off)(ok:cb S fs ts r c of d off):gE CD C dk o M "turns" "turns" .non off (cb S fs ts r c of d):=by
 have ok0:=ok;obtain⟨J0,J1,J4,J5,J6,rfl,ht,hs,p0,p1,du,la⟩:=ok;have t1:=s.t1;refine⟨.ans (mkT (aT (J0:Int))) (aY S fs ts r c of d J0 J1 J4 J5 J6),λQ EX hq=>?_,λo2 M1 m1 Q EX hq=>?_,λy off' e=>by cases e;exact ok0⟩
 ·exact j3 g (wl:=[116,117,114,110,115]) (by decide +kernel) (by decide) (by decide) (by decide) (by decide) (by decide) λM1 k1=>NV (g.keep k1) ∅ (hq M1 (jZ k1) (g.keep k1).ho)
 ·exact Of m1 (tq m1 (dM (lg ⟨by ext,by ext⟩) ⟨rfl,hq M1 Kp.refl m1⟩))
def A4(s:Sale S fs ts r c of d)(ht:J0<=ts.length)(p0:0<=J4)(p1:J4<=(J0:Nat)*1000000)(du:J5=.non\/J0=ts.length/\∃y,J5=.int y/\0<=y/\y<=100000000):∃x,(J5=.non/\x=J4\/∃y,J5=.int y/\x=J4-y)/\Bd x:=by
 have t1:=s.t1;rcases du with rfl|⟨_,y,rfl,y0,y1⟩
 ·exact⟨_,.inl ⟨rfl,rfl⟩,by ext,by ext⟩
 ·exact⟨_,.inr ⟨y,rfl,rfl⟩,by ext,by ext⟩
def A5(hm:M o=some (.ins C c_ (aY S fs ts r c of d J0 J1 J4 J5 J6)))(hx:J5=.non/\x=J4\/∃y,J5=.int y/\x=J4-y)(h:Q (.int x) M):fU CD C [.ptr o] M Q:=by
 rcases hx with⟨rfl,rfl⟩|⟨y,rfl,rfl⟩
 ·exact zt hm h
 ·exact tu hm h
def Oo(s:Sale S fs ts r c of d)(g:Opn M CD C dk pl o nm off)(ok:cb S fs ts r c of d off):gE CD C dk o M "coins" "coins" .non off (cb S fs ts r c of d):=by
 have ok0:=ok;obtain⟨J0,J1,J4,J5,J6,rfl,ht,hs,p0,p1,du,la⟩:=ok;obtain⟨x,hx,bd⟩:=A4 s ht p0 p1 du;refine⟨.ans (mkT (aT x)) (aY S fs ts r c of d J0 J1 J4 J5 J6),λQ EX hq=>?_,λo2 M1 m1 Q EX hq=>?_,λy off' e=>by cases e;exact ok0⟩
 ·exact j3 g (wl:=[99,111,105,110,115]) (by decide +kernel) (by decide) (by decide) (by decide) (by decide) (by decide) λM1 k1=>zR (g.keep k1) hx bd (hq M1 (jZ k1) (g.keep k1).ho)
 ·exact Og m1 (A5 m1 hx (dM (lg bd) ⟨rfl,hq M1 Kp.refl m1⟩))
def Op(s:Sale S fs ts r c of d)(g:Opn M CD C dk pl o nm off)(ok:cb S fs ts r c of d off):gE CD C dk o M "why" "why" .non off (cb S fs ts r c of d):=by
 have ok0:=ok;obtain⟨J0,J1,J4,J5,J6,rfl,ht,hs,p0,p1,du,la⟩:=ok;have sy:∀{Q:QE} {EX:QX},(∀M1,Kp (λ_=>False) M M1->e9 CD C [.ptr dk,.str "why"] M1 Q EX)->cu CD C [.ptr dk,.str "why"] M Q EX:=λh=>j3 g (wl:=[119,104,121]) (by decide +kernel) (by decide) (by decide) (by decide) (by decide) (by decide) h
 rcases la with rfl|⟨l,rfl,hl,hk⟩
 ·refine⟨.ref "Early",⟨by decide,λQ EX hx=>?_⟩,λo2 M1 m1=>⟨by decide,λQ EX hx=>?_⟩,λy off' e=>nomatch e⟩
  ·exact sy λM1 k1=>NZ (g.keep k1) (hx M1 k1)
  ·exact A0 m1 (O7 m1 (hx M1 Kp.refl))
 ·refine⟨.ans (mkT (zP l)) (aY S fs ts r c of d J0 J1 J4 J5 (.tup l)),λQ EX hq=>?_,λo2 M1 m1 Q EX hq=>?_,λy off' e=>by cases e;exact ok0⟩
  ·exact sy λM1 k1=>NY (g.keep k1) hl hk (hq M1 (jZ k1) (g.keep k1).ho)
  ·refine A0 m1 (zr m1 ⟨l,rfl,by ext,?_⟩)
   refine A3 l hk [] ?_;rw[gD];refine jM (ls:=l.map ef) ?_ ?_
   ·have:=lT (l:=l.map ef) λx hx=>by obtain⟨y,hy,rfl⟩:=z8z.mp hx;exact zO (hk y hy)
    rw[aA];simp only[z9c,z9b,z9i]at this ⊢;ext
   ·rw[aA]
    exact hq M1 Kp.refl m1
end
structure Good (n:z8):Prop where
 n0:n≠[]
 nb:32∉n
 as:∀c∈n,c<128
 ln:n.length<=100
def pk{n:z8}(g:fw n):Good n:=⟨λe=>by have h1:=g.1.1;rw[e]at h1;simp at h1,oY g,λc hc=>by have:=let_mem.mp (g.2 c hc);ext,by have:=g.1.2;ext⟩
def lU{k:Nat}(hk:k<nl.length):ixD (.lst (ay nl)) (.int (k:Nat))=some (.str (mkT nl[k])):=by show atI (ay nl) (k:Nat)=_;unfold atI ixN;rw[if_pos ∅,if_pos (by rw[z9c];ext)];show(ay nl)[((k:Nat):Int).toNat]?=_;rw[z7a,z9x,z9o hk];rfl
def A6{a b:z8}(ha:Good a)(hb:∀c∈b,c<128/\c≠32)(hl:a.length+b.length<=100):Good (a++b):=
 ⟨λe=>ha.n0 (List.append_eq_nil_iff.mp e).1,λe=>(z8q.mp e).elim ha.nb λh=>(hb _ h).2 rfl,λc hc=>(z8q.mp hc).elim (ha.as c) λh=>(hb c h).1,by rw[z9f];exact hl⟩
def kf{a:z8}(h0:a≠[])(h:∀c∈a,c<128/\c≠32)(hl:a.length<=100):Good a:=⟨h0,λe=>(h _ e).2 rfl,λc hc=>(h c hc).1,hl⟩
def tL{n:z8}(g:fw n):∀c∈n,c<128/\c≠32:=λc hc=>by have:=let_mem.mp (g.2 c hc);ext
def Oq{c:Nat}(h:97<=c/\c<=122):upc c<128/\upc c≠32:=by unfold upc;rw[if_pos h];ext
def Os{K:D->Prop}(h1:(tx z).all (λc=>decide (c<128))=true)(h2:(tx z).length<=10000)(h:K (.str (mkT ((tx z).map upc)))):W1 upT (.str z) K:=⟨_,by simp only[upT];rw[if_pos ⟨h1,h2⟩],h⟩
def Ot{K:D->Prop}(h1:1<=(tx z).length)(h2:(tx z).length<=10000)(h:K (.str (mkT ((tx z).take ((tx z).length-1))))):W1 oe (.str z) K:=⟨_,by simp only[oe];rw[if_pos ⟨h1,h2⟩],h⟩
def Ou:("A9-_.,\t\n" : Str)=mkT [65,57,45,95,46,44,9,10]:=by decide +kernel
def f_:("a" : Str)=mkT [97]:=by decide +kernel
def g_:("z" : Str)=mkT [122]:=by decide +kernel
def e_:("q" : Str)=mkT [113]:=by decide +kernel
def gV:("\n" : Str)=mkT [10]:=by decide +kernel
section
variable {many:Nat}
def Ov(hn:Names nl)(hp:Pool M a n)(hnn:n<=60000)(h1:1<=many)(h6:many<=6)(h:∀w M',Good w->Pool M' a (n+4)->Kp (· = a) M M'->Q (.str (mkT w)) M'):sZ CD C [.ptr a,.lst (ay nl),.int (many:Nat)] M Q:=by
 have ln:=hn.len;refine ca rfl ?_;grind;refine bN hp ∅ ∅ ∅ λj M1 j0 j1 p1 k1=>?_
 obtain⟨jn,rfl⟩:∃jn:Nat,j=jn:=⟨j.toNat,by ext⟩;refine gm (lU (show jn<nl.length by ext)) ?_;have gn:=hn.ok _ (z9u (show jn<nl.length by ext));generalize nl[jn]=nm at gn;have gl1:=gn.1.1;have gl2:=gn.1.2;have gl3:(tx (mkT nm)).length<=100000:=by rw[aA];ext
 lia;rw[aA];refine bN p1 ∅ ∅ ∅ λat_ M2 a0 a1 p2 k2=>?_
 lia;refine⟨⟨rfl,by simpa [cM]using a0,gl3⟩,?_⟩;lia;refine bN p2 ∅ ∅ ∅ λe M3 e0 e1 p3 k3=>?_
 rw[Ou];obtain⟨cv,hc1,hc2⟩:=ku (l:=[65,57,45,95,46,44,9,10]) e0 (by simpa using e1);refine lG (by rw[aA];decide) (by rw[aA];exact hc2) ?_;have gc:cv<128/\cv≠32:=by simp only[z9k,z7m,z5m]at hc1;ext
 rw[aA];have cl:∀lo hi,(bf nm lo hi).length<=nm.length:=λlo hi=>jX _ _ _
 have cm:∀lo hi,∀x∈bf nm lo hi,x<128/\x≠32:=λlo hi x hx=>tL gn x (jY hx)
 have cl1:=cl none (some at_);have cl2:=cl (some (at_+1)) none;refine cE (by simp only[z9b,z9i];ext) ?_;lia;refine⟨⟨by simp only[cM];exact z8d ∅,rfl,gl3⟩,?_⟩;rw[aA];refine cE (by simp only[z9f,z9b,z9i];ext) ?_;have g1:Good (bf nm none (some at_)++[cv]++bf nm (some (at_+1)) none):=kf (by simp) (λx hx=>by
  rcases z8q.mp hx with hx|hx
  ·rcases z8q.mp hx with hx|hx
   ·exact cm _ _ x hx
   ·rw[z9w.mp hx];exact gc
  ·exact cm _ _ x hx) (by simp only[z9f,z9b,z9i];ext)
 generalize bf nm none (some at_)++[cv]++bf nm (some (at_+1)) none=sp at g1;lia;refine gm (lU (k:=8) ∅) ?_;have g0:=pk (hn.ok _ (z9u (show 8<nl.length by ext)));generalize nl[8]=n8 at g0;lia;rw[f_];refine cE (by simp only[z9b,z9i];ext) ?_;have g2:Good (nm++[97]):=A6 (pk gn) (by decide) (by simp only[z9b,z9i];ext);generalize nm++[97]=s2 at g2;lia;refine Ot (by rw[aA];ext) (by rw[aA];ext) ?_;rw[aA];lia;rw[g_];refine cE (by simp only[z8a,z9b,z9i];ext) ?_;have g3:Good (nm.take (nm.length-1)++[122]):=kf (by simp) (λx hx=>by
  rcases z8q.mp hx with hx|hx
  ·exact tL gn x (z4w hx)
  ·rw[z9w.mp hx];decide) (by simp only[z9f,z8a,z9b,z9i];ext)
 generalize nm.take (nm.length-1)++[122]=s3 at g3;lia;refine⟨⟨rfl,rfl,gl3⟩,?_⟩;rw[aA];lia;have cl3:=cl (some 1) none;refine cE (by simp only[z9b,z9i];ext) ?_;have g4:Good (bf nm (some 1) none++[122]):=kf (by simp) (λx hx=>by
  rcases z8q.mp hx with hx|hx
  ·exact cm _ _ x hx
  ·rw[z9w.mp hx];decide) (by simp only[z9f,z9b,z9i];ext)
 generalize bf nm (some 1) none++[122]=s4 at g4;lia;refine Os (by rw[aA,z9t];exact λc hc=>z8d (tL gn c hc).1) (by rw[aA];ext) ?_;rw[aA];have g5:Good (nm.map upc):=kf (by intro e;have:=z8u List.length e;simp at this;rw[this]at gl1;simp at gl1) (λx hx=>by obtain⟨c,hc,rfl⟩:=z8z.mp hx;exact Oq (let_mem.mp (gn.2 c hc))) (by rw[z9c];ext)
 generalize nm.map upc=s5 at g5;lia;refine Kj ⟨by decide,by rw[e_,aA];decide⟩ ?_;rw[e_,aA];have g6:Good (List.replicate (9:Int).toNat [113]).flatten:=by show Good [113,113,113,113,113,113,113,113,113];exact kf (by decide) (by decide) (by decide)
 generalize (List.replicate (9:Int).toNat [113]).flatten=s6 at g6;lia;rw[gV];refine cE (by simp only[z9b,z9i];ext) ?_;have g7:Good (nm++[10]):=A6 (pk gn) (by decide) (by simp only[z9b,z9i];ext);generalize nm++[10]=s7 at g7;lia;refine⟨⟨rfl,by simp only[cM];exact z8d ∅,gl3⟩,?_⟩;rw[aA];have g8:Good (bf nm none (some (max 1 at_))):=kf (λe=>by have:=z8u List.length e;unfold bf at this;simp only[z6v,z7d,z7l,z8a,z9i]at this;ext) (cm _ _) (by have:=cl none (some (max 1 at_));ext)
 generalize bf nm none (some (max 1 at_))=s8 at g8;lia;refine bN p3 ∅ ∅ ∅ λq M4 q0 q1 p4 k4=>?_
 have hall:∀w∈[n8,sp,s2,s3,s4,s5,s6,s7,s8],Good w:=λw hw=>by simp only[z9k,z7m,z5m]at hw;rcases hw with rfl|rfl|rfl|rfl|rfl|rfl|rfl|rfl|rfl<;>assumption
 obtain⟨qn,rfl⟩:∃qn:Nat,q=qn:=⟨q.toNat,by ext⟩;refine gm (lU (nl:=[n8,sp,s2,s3,s4,s5,s6,s7,s8]) (k:=qn) (by simp only[z9b,z9i];ext)) ?_;lia;exact h _ M4 (hall _ (z9u _)) p4 (((k1.trans k2 λ_ z _=>z).trans k3 λ_ z _=>z).trans k4 λ_ z _=>z)
end
structure Bo (M:Sto) (CD C b dk pl o o2:Nat) (nm:List z8) (off:E_):Prop where
 hb:M b=some (.lst [.ptr dk,.ptr o2])
 op:Opn M CD C dk pl o nm off
 h2:M o2=some (.ins C c_ off)
 ne:o≠o2
section
variable {b o2 p:Nat}{fs:z9}{ts:List z9}{of d:Int}
def Bo.nes(g:Bo M CD C b dk pl o o2 nm off):b≠o/\b≠o2/\dk≠o2/\pl≠o2:=by
 obtain⟨hb,⟨⟨f,r,u,h1⟩,h2,h3⟩,h4,_⟩:=g;refine⟨?_,?_,?_,?_⟩
 ·rintro rfl;rw[hb]at h3;cases h3
 ·rintro rfl;rw[hb]at h4;cases h4
 ·rintro rfl;rw[h1]at h4;simp[d_,c_]at h4
 ·rintro rfl;rw[h2]at h4;cases h4
def Bo.keep{X:Nat->Prop}(g:Bo M CD C b dk pl o o2 nm off)(k:Kp X M M')(h:¬X b/\¬X dk/\¬X pl/\¬X o/\¬X o2):Bo M' CD C b dk pl o o2 nm off:=by obtain⟨hb,⟨⟨f,r,u,h1⟩,h2,h3⟩,h4,h5⟩:=g;exact⟨k _ _ hb h.1,⟨⟨f,r,u,k _ _ h1 h.2.1⟩,k _ _ h2 h.2.2.1,k _ _ h3 h.2.2.2.1⟩,k _ _ h4 h.2.2.2.2,h5⟩
def Bo.after{M1 M2:Sto}{rr:Res}(g:Bo M CD C b dk pl o o2 nm off)(a1:After C o rr M M1)(a2:After C o2 rr M1 M2)(h:∀y off',rr=.ans y off'->cb S fs ts r c of d off')(ok:cb S fs ts r c of d off):∃off',Bo M2 CD C b dk pl o o2 nm off'/\cb S fs ts r c of d off':=by
 obtain⟨n1,n2,n3,n4⟩:=g.nes;obtain⟨m1,m2,_⟩:=g.op.nes;have ne:=g.ne;obtain⟨hb,op,h4,_⟩:=g;cases rr with
 |ans y off'=>obtain⟨k1,e1⟩:=a1;obtain⟨k2,e2⟩:=a2;have op1:=op.upd k1 e1;obtain⟨⟨f,r,u,q1⟩,q2,q3⟩:=op1;exact⟨off',⟨k2 _ _ (k1 _ _ hb n1) n2,⟨⟨f,r,u,k2 _ _ q1 n3⟩,k2 _ _ q2 n4,k2 _ _ q3 ne⟩,e2,ne⟩,h y off' rfl⟩
 | ref x=>
   have kk:Kp (λ_=>False) M M2:=Kp.trans (S:=λ_=>False) a1 a2 λ_ z _=>z
   exact⟨off,Bo.keep ⟨hb,op,h4,ne⟩ kk ⟨id,id,id,id,id⟩,ok⟩
def Bo.after1{M1:Sto}{rr:Res}(g:Bo M CD C b dk pl o o2 nm off)(a1:After C o rr M M1):M1 b=some (.lst [.ptr dk,.ptr o2])/\M1 o2=some (.ins C c_ off):=by
 obtain⟨n1,n2,n3,n4⟩:=g.nes;have ne:=g.ne;cases rr with
 |ans y off'=>exact⟨a1.1 _ _ g.hb n1,a1.1 _ _ g.h2 (Ne.symm ne)⟩
 |ref x=>exact⟨a1 _ _ g.hb id,a1 _ _ g.h2 id⟩
def BoE(M:Sto)(CD C b:Nat)(nm:List z8)(S:Nat)(fs:z9)(ts:List z9)(r c of d:Int):Prop:=∃dk pl o o2 off,Bo M CD C b dk pl o o2 nm off/\cb S fs ts r c of d off
def BoP(M:Sto)(CD C b p:Nat)(nm:List z8)(S:Nat)(fs:z9)(ts:List z9)(r c of d:Int):Prop:=∃dk pl o o2 off,Bo M CD C b dk pl o o2 nm off/\cb S fs ts r c of d off/\b≠p/\dk≠p/\pl≠p/\o≠p/\o2≠p
def BoP.keep(g:BoP M CD C b p nm S fs ts r c of d)(k:Kp (· = p) M M'):BoP M' CD C b p nm S fs ts r c of d:=by obtain⟨dk,pl,o,o2,off,g,ok,h1,h2,h3,h4,h5⟩:=g;exact⟨dk,pl,o,o2,off,g.keep k ⟨h1,h2,h3,h4,h5⟩,ok,h1,h2,h3,h4,h5⟩
def BoE.fresh(g:BoE M CD C b nm S fs ts r c of d)(h:M p=none)(k:Kp (λ_=>False) M M'):BoP M' CD C b p nm S fs ts r c of d:=by
 obtain⟨dk,pl,o,o2,off,g,ok⟩:=g;have n:∀{x:Nat} {cc:Cell},M x=some cc->x≠p:=λ{x cc} hx e=>by rw[e,h]at hx;cases hx
 obtain⟨_,_,_,e1⟩:=g.op.hd;exact⟨dk,pl,o,o2,off,g.keep k ⟨id,id,id,id,id⟩,ok,n g.hb,n e1,n g.op.hp,n g.op.ho,n g.h2⟩
def BoP.toE(g:BoP M CD C b p nm S fs ts r c of d):BoE M CD C b nm S fs ts r c of d:=by obtain⟨dk,pl,o,o2,off,g,ok,_⟩:=g;exact⟨dk,pl,o,o2,off,g,ok⟩
def Ow{ls:j_}{K:D->Prop}(h0:0<=i)(h1:i<(ls.length:Int))(h:∀w∈ls,K (.str w)):W2 ixD (.lst (ls.map D.str)) (.int i) K:=by
 have hi:i.toNat<ls.length:=by ext
 refine nu (d:=.str ls[i.toNat]) ?_ (h _ (z9u _));show atI (ls.map D.str) i=_;unfold atI ixN;rw[if_pos h0,if_pos (by rw[z9c];exact h1)];show(ls.map D.str)[i.toNat]?=_;rw[z9x,z9o hi];rfl
def tM{T:NTF}{i:Nat}(hv:a5 i ρ=some (.ptr b))(hb:M b=some (.lst [.ptr dk,.ptr o2]))(h2:M o2=some (.ins C c_ ds0))(h:T [.ptr o2] M Q):bG C c_ T (c4 (nP (a5 i)) (nP (eC (.int 1)))) ag ρ M Q:=
 ⟨.ptr b,hv,.int 1,rfl,b,_,1,.ptr o2,rfl,hb,rfl,rfl,o2,_,rfl,h2,h⟩
def A7{K:Nat->Prop}(ok:cb S fs ts r c of d off)(h2:M o2=some (.ins C c_ off))(s:Sale S fs ts r c of d)(h:∀t:Nat,t<=8->Q (.int (t:Nat)) M):gv CD C [.ptr o2] M Q:=by obtain⟨J0,J1,J4,J5,J6,rfl,ht,_⟩:=ok;have:=s.t1;exact tq h2 (h J0 ∅)
def tN{K:QE}(gB:Bo M CD C b dk pl o o2 nm off)(ok:cb S fs ts r c of d off)(t:gE CD C dk o M z w th off (cb S fs ts r c of d))(hK:∀M1,M1 b=some (.lst [.ptr dk,.ptr o2])->∀x,(i0 CD C [.ptr o2,.str w,th] M1 λy M2=>W2 eqD x y λdd=>Q dd M2)->K x M1)(h:∀M',BoE M' CD C b nm S fs ts r c of d->Q (.bl true) M'):dC CD C [.ptr dk,.str z] M K:=by
 obtain⟨rr,h1,h2,h3⟩:=t;obtain⟨f,r0,u,e1⟩:=gB.op.hd;refine oX e1 h1 λM1 a1=>?_
 obtain⟨b1,b2⟩:=gB.after1 a1;refine hK M1 b1 _ (O8 (ds0:=off) (h2 o2 M1 b2) λM2 a2=>?_);obtain⟨off',g',ok'⟩:=gB.after a1 a2 h3 ok;have hf:bE 4 (oV rr)=true:=by cases rr<;>rfl
 exact⟨.bl true,by rw[eqD,if_pos ⟨hf,hf⟩,rb 4 _ hf],h M2 ⟨dk,pl,o,o2,off',g',ok'⟩⟩
theorem A8:∀(ls:List z8),eP (ay ls)=some ls
 |[]=>rfl
 |l::r=>by show(eP (ay r)).map (tx (mkT l)::·)=_;rw[A8 r];rfl
def Ox{k:Nat}(h:k<nl.length)(nd:nl.Nodup):nl.idxOf nl[k]=k:=by
 have h1:=List.idxOf_lt_length_of_mem (z9u h);have h2:nl[nl.idxOf nl[k]]=nl[k]:=by simp
 have hp:=z5v.mp nd;rcases Nat.lt_trichotomy (nl.idxOf nl[k]) k with q|q|q
 ·exact absurd h2 (hp _ _ h1 h q)
 ·exact q
 ·exact absurd h2.symm (hp _ _ h h1 q)
def Oy{k:Nat}{K:D->Prop}(h:k<nl.length)(h9:nl.length<=9)(nd:nl.Nodup)(hK:K (.int (k:Nat))):W2 yP (.lst (ay nl)) (.str (mkT nl[k])) K:=by refine⟨_,?_,hK⟩;show(eP (ay nl)).bind _=_;rw[A8];show(if nl.idxOf (tx (mkT nl[k]))<nl.length/\nl.length<=10000 then some (D.int (nl.idxOf (tx (mkT nl[k])):Nat))else none)=_;rw[aA,Ox h nd,if_pos ⟨h,by ext⟩]
def Oz{k:Nat}(h:k<=nl.length):dO (ay nl) none (some ((k:Nat):Int))=ay (nl.take k):=by unfold dO;rw[wN,wO];simp[ay,List.map_take]
def A9(b_ a_:Nat):NTS:=ai (aG (nPB (eT (e2 iF (a5 9) (eSl (a5 2) (eJ) (dF (a5 3)))))) (aJ (n2 eqD (aF (dC b_ a_) (a8 (c4 (nP (a5 1)) (nP (eC (.int 0)))) (a8 (nP (e2 bH (eC (.str "ask ")) (a5 9))) (ag)))) (nP (e2 dP (c8 (aa (eC (.bl true)) (aj))) (e2 mJ (c8 (aa (eC (.bl false)) (aj))) (eC (.int 10))))))) (sN)) (aJ (n2 eqD (aF (dC b_ a_) (a8 (c4 (nP (a5 1)) (nP (eC (.int 0)))) (a8 (nP (e2 bH (eC (.str "ask ")) (a5 9))) (ag)))) (aF (i0 b_ a_) (a8 (c4 (nP (a5 1)) (nP (eC (.int 1)))) (a8 (nP (eC (.str "ask"))) (a8 (sC (nP (a5 2)) (nP (a5 9))) (ag)))))))
def Aa{n:z8}{x5 x10:F_}(s:Sale S fs ts r c of d)(hn:Names nl)(gw:Good n)(g:BoE M CD C b (nl.take fs.length) S fs ts r c of d)(h:∀M',BoE M' CD C b (nl.take fs.length) S fs ts r c of d->E.rt (.bl true) M'):
  A9 CD C E [some (.ptr p),some (.ptr b),some (.lst (ay nl)),some (.int ((fs.length:Nat):Int)),some (.str wv),x5,x6,x7,x8,some (.str (mkT n)),x10] M:=by
 have f1:=s.f1;have f2:=s.f2;have ln:=hn.len;obtain⟨dk,pl,o,o2,off,gB,ok⟩:=g;unfold A9;lia;rw[Oz (show fs.length<=nl.length by ext)];refine gm zD ?_;lia;refine au (λe=>?_) λe=>?_
 ·lia
  refine⟨b,_,_,_,rfl,gB.hb,rfl,rfl,?_⟩;lia;rw[zZ];refine cE (by have:=gw.ln;simp only[z9f,z9b,z9i];ext) ?_;lia;obtain⟨f,r0,u,e1⟩:=gB.op.hd;refine oX (o:=o) (r:=.ref "NoClass") e1 ⟨by decide,λQ EX hx=>?_⟩ λM1 a1=>?_
  ·exact tK gB.op gw.nb gw.n0 (by have:=gw.ln;ext) λM1 k1=>Od (gB.op.keep k1) e gw.as (by have:=gw.ln;ext) (hx M1 k1)
  ·lia
   refine⟨_,rfl,_,rfl,.bl true,rfl,?_⟩;exact h M1 ⟨dk,pl,o,o2,off,gB.keep (X:=λ_=>False) a1 ⟨id,id,id,id,id⟩,ok⟩
 ·obtain⟨k,hk,rfl⟩:=z7z (Classical.not_not.mp e)
  have hk2:k<fs.length:=by rw[z8a]at hk;ext
  have hk9:k<nl.length:=by ext
  lia;refine⟨b,_,_,_,rfl,gB.hb,rfl,rfl,?_⟩;lia;rw[zZ];refine cE (by have:=gw.ln;simp only[z9f,z9b,z9i];ext) ?_;lia;refine tN (Q:=E.rt) gB ok (Oh s gB.op ok (by rw[z8a];ext) hk (hn.nd.sublist (List.take_sublist _ _)) (hn.ok _ (z4w (z9u hk)))) (λM1 b1 x hx=>?_) h;lia;refine⟨b,_,_,_,rfl,b1,rfl,rfl,?_⟩;lia;refine⟨_,rfl,_,rfl,_,rfl,?_⟩;rw[List.getElem_take];refine Oy hk9 ∅ hn.nd ?_;lia;exact hx
def OA{y z:Int}{K:D->Prop}(h0:0<=i)(h1:i<3)(hx:K (.int x))(hy:K (.int y))(hz:K (.int z)):W2 ixD (.lst [.int x,.int y,.int z]) (.int i) K:=by
 obtain rfl|rfl|rfl:i=0\/i=1\/i=2:=by ext
 ·exact⟨_,rfl,hx⟩
 ·exact⟨_,rfl,hy⟩
 ·exact⟨_,rfl,hz⟩
def j4(S:Nat)(fs:z9)(ts:List z9)(r c of d:Int):z8:=aT (((b9 fs ts (of ^ S) (ends r c of d S)).getD 0 []).getD S 0)++[32,111,102,32]++aT ((bi ts (of ^ S)).getD 0 0)
def Ab(s:Sale S fs ts r c of d)(gB:Bo M CD C b dk pl o o2 nm off)(ok:cb S fs ts r c of d off)(h:∀M',BoE M' CD C b nm S fs ts r c of d->Q (.str (mkT (j4 S fs ts r c of d))) M'):dC CD C [.ptr dk,.str "worth"] M Q:=by
 have ok0:=ok;obtain⟨J0,J1,J4,J5,J6,rfl,ht,hs,p0,p1,du,la⟩:=ok;obtain⟨f,r0,u,e1⟩:=gB.op.hd;have hS:=s.hS;have h1:=oU s (t:=0) (i:=S) ∅;have h3:=oJ s (t:=0) ∅;refine oX (o:=o) (r:=.ans (mkT (j4 S fs ts r c of d)) (aY S fs ts r c of d J0 J1 J4 J5 J6)) e1 (λQ EX hq=>?_) λM1 a1=>?_
 ·exact j3 gB.op (wl:=[119,111,114,116,104]) (by decide +kernel) (by decide) (by decide) (by decide) (by decide) (by decide) λM1 k1=>O0 (gB.op.keep k1) (λQ' q=>O3 s (gB.op.keep k1).ho q) ⟨by ext,by ext⟩ ⟨by ext,by ext⟩ (hq M1 (jZ k1) (gB.op.keep k1).ho)
 ·obtain⟨b1,b2⟩:=gB.after1 a1
  obtain⟨⟨f,r,u,q1⟩,q2,q3⟩:=gB.op.upd a1.1 a1.2;exact h M1 ⟨dk,pl,o,o2,_,⟨b1,⟨⟨f,r,u,q1⟩,q2,q3⟩,b2,gB.ne⟩,ok0⟩
def OB(hwv:wv=mkT (j4 S fs ts r c of d))(s:Sale S fs ts r c of d)(hn:Names nl)(hp:Pool M p n)(hnn:n<=50000)(g:BoP M CD C b p (nl.take fs.length) S fs ts r c of d)(h:∀M',BoE M' CD C b (nl.take fs.length) S fs ts r c of d->Q (.bl true) M'):
  lM CD C [.ptr p,.ptr b,.lst (ay nl),.int ((fs.length:Nat):Int),.str wv] M Q:=by
 have f1:=s.f1;have f2:=s.f2;refine ca rfl ?_;grind;refine bN hp ∅ ∅ ∅ λway M1 w0 w1 p1 k1=>?_
 have g1:=g.keep k1;lia;refine⟨_,rfl,?_⟩;lia;refine Ow (ls:=["ask","ask","ask","ask","ask","ask","ask","quiet","left","turns","coins","why","why","came","came","worth"]) w0 w1 λw hw=>?_
 lia;have g2:=g1;obtain⟨dk,pl,o,o2,off,gB,ok,q1,q2,q3,q4,q5⟩:=g1;refine tM rfl gB.hb gB.h2 (A7 (K:=λ_=>True) ok gB.h2 s λJ0 ht8=>?_);have ln:=hn.len;lia;refine au (λew=>?_) λew=>?_
 ·lia
  refine bN p1 ∅ ∅ ∅ λj M2 j0 j1 p2 k2=>?_
  obtain⟨jn,rfl⟩:∃jn:Nat,j=jn:=⟨j.toNat,by ext⟩;refine gm (lU (show jn<nl.length by ext)) ?_;have g3:=g2.keep k2;lia;refine bN p2 ∅ ∅ ∅ λz M3 z0 z1 p3 k3=>?_
  have g4:=g3.keep k3;lia;refine au (λez=>?_) λez=>?_
  ·lia
   refine Ov hn p3 ∅ f1 f2 λw' M4 gw p4 k4=>?_
   walk_at"env";exact Aa s hn gw (g4.keep k4).toE h
  ·exact Aa s hn (pk (hn.ok _ (z9u _))) g4.toE h
 lia;refine au (λew2=>?_) λew2=>?_
 ·lia
  refine bN p1 ∅ ∅ ∅ λa1 M2 a10 a11 p2 k2=>?_
  lia;refine bN p2 ∅ ∅ ∅ λa2 M3 a20 a21 p3 k3=>?_
  lia;refine bN p3 ∅ ∅ ∅ λa3 M4 a30 a31 p4 k4=>?_
  have g5:=(((g2.keep k2).keep k3).keep k4).toE;obtain⟨dk,pl,o,o2,off,gB,ok⟩:=g5;have key:∀v:Int,0<=v->v<10000000->∀(E:EndN) (ρ:ah),E.rt=Q->a5 1 ρ=some (.ptr b)->a5 10 ρ=some (.int v)->aJ (n2 eqD (aF (dC CD C) (a8 (c4 (nP (a5 1)) (nP (eC (.int 0)))) (a8 (nP (e2 bH (eC (.str "came ")) (eA (ar b8) (aa (a5 10) aj)))) ag))) (aF (i0 CD C) (a8 (c4 (nP (a5 1)) (nP (eC (.int 1)))) (a8 (nP (eC (.str "came"))) (a8 (nP (a5 10)) ag))))) E ρ M4:=by
   intro v v0 v1 E ρ hE h1 h10;obtain⟨vn,rfl⟩:∃vn:Nat,v=vn:=⟨v.toNat,by ext⟩;have hst:b8 (.int (vn:Nat))=some (.str (mkT (aT (vn:Nat)))):=by simp only[b8,if_pos (lg (i:=(vn:Nat)) ⟨by ext,by ext⟩)]
   have hl:=(oR (x:=(vn:Nat)) ∅ ∅).1.1.1.2;have hcat:(e2 bH (eC (.str "came ")) (eA (ar b8) (aa (a5 10) aj))) ρ=some (.str (mkT ([99,97,109,101]++[32]++aT (vn:Nat)))):=by simp only[e2,eC,eA,aa,aj,h10,z9h,ar,hst];rw[Ob];obtain⟨dd,hd,rfl⟩:=cE (l:=[99,97,109,101]++[32]) (r:=aT (vn:Nat)) (K:=λd=>d=.str (mkT ([99,97,109,101]++[32]++aT (vn:Nat)))) (by simp only[z9f,z9b,z9i];ext) rfl;exact hd
   refine⟨.ptr b,h1,.int 0,rfl,b,_,0,.ptr dk,rfl,gB.hb,rfl,rfl,_,hcat,?_⟩;refine tN (Q:=Q) gB ok (Oj s gB.op ok ∅) (λM1 b1 x hx=>?_) h;refine⟨.ptr b,h1,.int 1,rfl,b,_,1,.ptr o2,rfl,b1,rfl,rfl,.str "came",rfl,_,h10,?_⟩;subst hE;exact hx
  refine OA a30 a31 ?_ ?_ ?_
  ·exact key a1 a10 ∅ _ _ rfl rfl rfl
  ·exact key a2 a20 ∅ _ _ rfl rfl rfl
  ·exact key 9999999 ∅ ∅ _ _ rfl rfl rfl
 lia;refine au (λew3=>?_) λew3=>?_
 ·lia
  refine⟨b,_,_,_,rfl,gB.hb,rfl,rfl,?_⟩;lia;refine Ab s gB ok λM2 g3=>?_
  lia;subst hwv;rw[z8d rfl];exact h M2 g3
 lia;refine⟨b,_,_,_,rfl,gB.hb,rfl,rfl,?_⟩;lia;have tw:gE CD C dk o M1 w w .non off (cb S fs ts r c of d):=by
  simp only[z9k,z7m,z5m]at hw;have hw':w="quiet"\/w="left"\/w="turns"\/w="coins"\/w="why":=by rcases hw with q|q|q|q|q|q|q|q|q|q|q|q|q|q|q|q<;>first|exact absurd q ew|exact absurd q ew2|exact absurd q ew3|simp[q]
  rcases hw' with rfl|rfl|rfl|rfl|rfl
  ·exact Oi s gB.op ok
  ·exact Om s gB.op ok
  ·exact On s gB.op ok
  ·exact Oo s gB.op ok
  ·exact Op s gB.op ok
 refine tN (Q:=Q) gB ok tw (λM2 b1 x hx=>?_) h;lia;refine⟨b,_,_,_,rfl,b1,rfl,rfl,?_⟩;lia;exact hx
end
noncomputable def kg:z8:=[99,108,97,115,115]
noncomputable def pp:z8:=[116,117,114,110]
noncomputable def pv:z8:=[114,117,108,101]
noncomputable def pw:z8:=[111,112,101,110]
def OC:("class" : Str)=mkT kg:=by decide +kernel
def OE:("turn" : Str)=mkT pp:=by decide +kernel
def OF:("rule" : Str)=mkT pv:=by decide +kernel
def Ac:("open" : Str)=mkT pw:=by decide +kernel
def eU(n:z8)(f:Int):z8:=bc [32] [kg,n,aT f]
def kh(row:z9):z8:=bc [32] (pp::row.map aT)
def lV(r c of d:Int):z8:=bc [32] (pv::[r,c,of,d].map aT)
def j5(S:Nat):z8:=bc [32] [pw,aT (S:Nat)]
section
variable {fs:z9}{ts:List z9}
def lW{rest:List z8}{f r:D}(hw:∀w∈hd::rest,32∉w/\1<=w.length/\w.length<=8)(hl:rest.length<=20)(hm:M dk=some (.ins CD d_ [p,f,r,u,.non]))(h:∀M1,Kp (λ_=>False) M M1->gx CD C [.ptr dk,.str (mkT hd),.lst (ay rest)] M1 Q EX):cu CD C [.ptr dk,.str (mkT (bc [32] (hd::rest)))] M Q EX:=by
 refine NG ?_ (by rw[aA];exact zC 32 _ (by simp) λw hm=>(hw w hm).1) (λe=>?_) hm h
 ·have h1:=oM 32 (hd::rest) (by simp)
  have h2:=lT (l:=hd::rest) λx hx=>by have:=(hw x hx).2.2;ext
  rw[aA];simp only[z9b]at h1 h2;ext
 ·have:=(hw _ e).2.1
  simp at this
def lX(h0:0<=x)(h1:x<10000000):32∉aT x/\1<=(aT x).length/\(aT x).length<=8:=by obtain⟨g,_,nb,_⟩:=oR h0 h1;have:=g.1.1;exact⟨nb,by ext,by ext⟩
def OG{n:z8}(g:Gath M CD dk pl fa ra nm fs [] u)(hn:n∉nm)(hg:fw n)(h0:1<=f)(h1:f<=1000000)(hl:nm.length=fs.length)(h6:fs.length<6)(h:∀M',Gath M' CD dk pl fa ra (nm++[n]) (fs++[f]) [] u->Kp (S4 dk pl fa ra) M M'->Q (.str "ok") M'):cu CD C [.ptr dk,.str (mkT (eU n f))] M Q EX:=by
 refine lW (λw hw=>?_) (by simp) g.hd λM1 k1=>?_
 ·simp only[z9k,z7m,z5m]at hw
  rcases hw with rfl|rfl|rfl
  ·decide
  ·exact⟨oY hg,hg.1.1,hg.1.2⟩
  ·exact lX ∅ ∅
 ·rw[<- OC]
  exact NJ (g.keep k1) hn hg h0 h1 hl h6 λM2 g2 k2=>h M2 g2 λb cc hb hn=>k2 b cc (k1 b cc hb id) hn
def OH(g:Gath M CD dk pl fa ra nm fs ts u)(hr:gz fs.length row)(h1:1<=fs.length)(h6:fs.length<=6)(h8:ts.length<8)(h:∀M',Gath M' CD dk pl fa ra nm fs (ts++[row]) u->Kp (S4 dk pl fa ra) M M'->Q (.str "ok") M'):cu CD C [.ptr dk,.str (mkT (kh row))] M Q EX:=by
 have hl:=hr.1;refine lW (λw hw=>?_) (by simp only[z9c];ext) g.hd λM1 k1=>?_
 ·rcases z9k.mp hw with rfl|hw
  ·decide
  ·obtain⟨x,hx,rfl⟩:=z8z.mp hw
   have:=hr.2.1 x hx;exact lX ∅ ∅
 ·rw[<- OE]
  exact NL (g.keep k1) hr h1 h6 h8 λM2 g2 k2=>h M2 g2 λb cc hb hn=>k2 b cc (k1 b cc hb id) hn
def OI{of d:Int}(s:Sale S fs ts r c of d)(g:Gath M CD dk pl fa ra nm fs ts u)(h:∀M',Gath M' CD dk pl fa ra nm fs ts (.tup [.int r,.int c,.int of,.int d])->Kp (S4 dk pl fa ra) M M'->Q (.str "ok") M'):cu CD C [.ptr dk,.str (mkT (lV r c of d))] M Q EX:=by
 obtain⟨hS,f1,f2,f3,t1,t2,r1,r2,c1,c2,o1,o2,d1,d2⟩:=s;refine lW (λw hw=>?_) (by simp) g.hd λM1 k1=>?_
 ·rcases z9k.mp hw with rfl|hw
  ·decide
  ·obtain⟨x,hx,rfl⟩:=z8z.mp hw
   simp only[z9k,z7m,z5m]at hx;exact lX ∅ ∅
 ·rw[<- OF]
  exact NM (g.keep k1) r1 r2 c1 c2 o1 o2 d1 d2 λM2 g2 k2=>h M2 g2 λb cc hb hn=>k2 b cc (k1 b cc hb id) hn
def OJ{of d:Int}(s:Sale S fs ts r c of d)(g:Gath M CD dk pl fa ra nm fs ts (.tup [.int r,.int c,.int of,.int d]))(h:∀o M',M o=none->Opn M' CD C dk pl o nm (aY S fs ts r c of d 0 0 0 .non .non)->Kp (S4 dk pl fa ra) M M'->Q (.str "ok") M'):cu CD C [.ptr dk,.str (mkT (j5 S))] M Q EX:=by
 have hS:=s.hS;refine lW (λw hw=>?_) (by simp) g.hd λM1 k1=>?_
 ·simp only[z9k,z7m,z5m]at hw
  rcases hw with rfl|rfl
  ·decide
  ·exact lX ∅ ∅
 ·rw[<- Ac]
  refine NO s (g.keep k1) λo M2 ho g2 k2=>h o M2 ?_ g2 λb cc hb hn=>k2 b cc (k1 b cc hb id) hn
  cases e:M o with
  |none=>rfl
  |some cc=>rw[k1 o cc e id]at ho;cases ho
end
section
variable {fs:z9}{ts:List z9}
def OK(s:Sale S fs ts (S:Nat) 1 1 0)(g:Gath M CD dk pl fa ra nm fs ts .non)(h:∀o M',M o=none->Opn M' CD C dk pl o nm (aY S fs ts (S:Nat) 1 1 0 0 0 0 .non .non)->Kp (S4 dk pl fa ra) M M'->Q .non M'):oC CD C [.ptr dk,.int (S:Nat)] M Q EX:=by
 obtain⟨n1,n2,n3,n4,n5⟩:=g.nes;obtain⟨e1,e2,e3,e4,n6⟩:=g;refine bb rfl ?_;grind;refine xV ?_;lia;intro o ho;have no:∀{x:Nat} {cc:Cell},M x=some cc->x≠o:=λ{x cc} hx e=>by rw[e,ho]at hx;cases hx
 refine tG s aB ((aE (no e3)).trans e3) ((aE (no e4)).trans e4) λM1 m1 k1=>?_
 refine⟨rfl,?_⟩;have f:∀x cc,M x=some cc->M1 x=some cc:=λx cc hx=>k1 x cc ((aE (no hx)).trans hx) (no hx)
 have e1':=f _ _ e1;lia;refine⟨dk,_,rfl,e1',?_⟩;lia;have od:o≠dk:=Ne.symm (no e1);refine h o _ ho ⟨⟨_,_,_,aB⟩,(aE (Ne.symm n1)).trans (f _ _ e2),(aE od).trans m1⟩ λx cc hx hn=>?_
 rw[aE λe=>hn (.inl e)];exact f x cc hx
def OM(s:Sale S fs ts (S:Nat) 1 1 0)(g:Gath M CD dk pl fa ra nm fs ts .non)(h:∀o M',M o=none->Opn M' CD C dk pl o nm (aY S fs ts (S:Nat) 1 1 0 0 0 0 .non .non)->Kp (S4 dk pl fa ra) M M'->Q (.str "ok") M'):gx CD C [.ptr dk,.str "open",.lst (ay [aT (S:Nat)])] M Q EX:=by
 have e1:=g.hd;have hS:=s.hS;refine bb rfl ?_;grind;refine au (λe=>absurd e (by decide)) λ_=>?_
 lia;refine au (λe=>absurd e (by decide)) λ_=>?_
 lia;refine au (λe=>absurd e (by decide)) λ_=>?_
 lia;refine au (λ_=>?_) λe=>absurd rfl e
 lia;refine au (λ_=>?_) λe=>absurd rfl e
 lia;refine lS ∅ ∅ ?_;lia;refine OK s g λo M1 ho g1 k1=>?_
 lia;exact h o M1 ho g1 k1
end
section
variable {fs:z9}{ts:List z9}
def ON(s:Sale S fs ts (S:Nat) 1 1 0)(g:Gath M CD dk pl fa ra nm fs ts .non)(h:∀o M',M o=none->Opn M' CD C dk pl o nm (aY S fs ts (S:Nat) 1 1 0 0 0 0 .non .non)->Kp (S4 dk pl fa ra) M M'->Q (.str "ok") M'):cu CD C [.ptr dk,.str (mkT (j5 S))] M Q EX:=by
 have hS:=s.hS;refine lW (λw hw=>?_) (by simp) g.hd λM1 k1=>?_
 ·simp only[z9k,z7m,z5m]at hw
  rcases hw with rfl|rfl
  ·decide
  ·exact lX ∅ ∅
 ·rw[<- Ac]
  refine OM s (g.keep k1) λo M2 ho g2 k2=>h o M2 ?_ g2 λb cc hb hn=>k2 b cc (k1 b cc hb id) hn
  cases e:M o with
  |none=>rfl
  |some cc=>rw[k1 o cc e id]at ho;cases ho
end
def Ad{α:Type}(enc:α->D)(xs:List α)(rest:E_)(I:Nat->ah->Sto->Prop)(h0:I 0 ρ M)(he:∀ρ M,I xs.length ρ M->ce body rest E ρ M)(hs:∀k (hk:k<xs.length) ρ M,I k ρ M->∀N:ah->Sto->Prop,(∀ρ M,I (k+1) ρ M->N ρ M)->body (enc xs[k]) {E with nx:=N,ct:=N,bk:=E.nx} ρ M):ce body (xs.map enc++rest) E ρ M:=by
 have gen:∀(m k:Nat),m=xs.length-k->k<=xs.length->∀ρ M,I k ρ M->ce body ((xs.drop k).map enc++rest) E ρ M:=by
  intro m
  induction m with
  | zero=>
    intro k hm hk ρ M h;have:k=xs.length:=by ext
    subst this;rw[z6c];exact he ρ M h
  | succ m ih=>
    intro k hm hk ρ M h;have hlt:k<xs.length:=by ext
    rw[z8c hlt,z9p,z6l];exact hs k hlt ρ M h _ λρ M z=>ih (k+1) ∅ hlt ρ M z
 simpa using gen xs.length 0 (by simp) (z7h _) ρ M h0
def OO(hm:M dk=some (.ins CD [] []))(h:∀pl fa ra M',M pl=none->M fa=none->M ra=none->Gath M' CD dk pl fa ra [] [] [] .non->Kp (· = dk) M M'->Q .non M'):sU CD C [.ptr dk] M Q:=by
 refine ca rfl ?_;grind;refine eO (Mw λpl hpl=>?_);have n1:dk≠pl:=λe=>by rw[e,hpl]at hm;cases hm
 lia;refine⟨dk,_,rfl,(aE n1).trans hm,?_⟩;lia;refine eO ?_;lia;intro fa hfa;have n2:fa≠dk:=λe=>by rw[e,aB]at hfa;cases hfa
 rw[aE n2]at hfa;have n3:fa≠pl:=λe=>by rw[e,aB]at hfa;cases hfa
 rw[aE n3]at hfa;lia;refine⟨dk,_,rfl,(aE (Ne.symm n2)).trans aB,?_⟩;lia;refine eO ?_;lia;intro ra hra;have n4:ra≠dk:=λe=>by rw[e,aB]at hra;cases hra
 rw[aE n4]at hra;have n5:ra≠fa:=λe=>by rw[e,aB]at hra;cases hra
 rw[aE n5,aE n4]at hra;have n6:ra≠pl:=λe=>by rw[e,aB]at hra;cases hra
 rw[aE n6]at hra;lia;refine⟨dk,_,rfl,(aE (Ne.symm n4)).trans aB,?_⟩;lia;refine eO ?_;lia;refine⟨dk,_,rfl,aB,?_⟩;rw[dR];lia;refine eO ?_;lia;refine⟨dk,_,rfl,aB,?_⟩;rw[dR];lia;refine h pl fa ra _ hpl hfa hra ⟨aB,?_,?_,?_,Ne.symm n5⟩ λx cc hx hn=>?_
 ·rw[aE (Ne.symm n1),aE (Ne.symm n6),aE (Ne.symm n1),aE (Ne.symm n3),aE (Ne.symm n1),aB]
  rfl
 ·rw[aE n2,aE (Ne.symm n5),aE n2,aB]
  rfl
 ·rw[aE n4,aB]
  rfl
 ·have f:∀{y:Nat},M y=none->x≠y:=λ{y} hy e=>by rw[e,hy]at hx;cases hx
  rw[aE hn,aE (f hra),aE hn,aE (f hfa),aE hn,aE (f hpl),hx]
def Names.nin{k:Nat}(hn:Names nl)(h:k<=6):nl[k]'(by rw[hn.len];ext)∉nl.take k:=by have hp:=hn.nd;intro hm;obtain⟨j,hj,e⟩:=List.mem_iff_getElem.mp hm;rw[List.getElem_take]at e;rw[z8a]at hj;rw[List.Nodup,z5v]at hp;exact hp j k ∅ (by rw[hn.len];ext) ∅ e
def OP:("class " : Str)=mkT (kg++[32]):=by decide +kernel
def OQ:("turn " : Str)=mkT (pp++[32]):=by decide +kernel
def OR:("rule " : Str)=mkT (pv++[32]):=by decide +kernel
def OS:("open " : Str)=mkT (pw++[32]):=by decide +kernel
def Ae{w:z8}(h:ls≠[]):w++[32]++bc [32] ls=bc [32] (w::ls):=by
 cases ls with
 |nil=>exact absurd rfl h
 |cons a r=>rw[bc]
def Af(h:∀x∈xs,Bd x):∀l∈xs.map aT,l.length<=202:=λl hl=>by obtain⟨x,hx,rfl⟩:=z8z.mp hl;exact i7 (h x hx)
def Ag{K:D->Prop}{fi:FEs}{is:WI fi ρ λds=>ds=xs.map D.int}(hb:∀x∈xs,Bd x)(hl:xs.length<=1000)(h:K (.lst (ay (xs.map aT)))):WE (bR 1 [] [0] un1 fi bX (eA (ar b8) (aa (a5 0) (aj)))) ρ K:=by
 refine fI (α:=Int) ?_;obtain⟨ds,e,rfl⟩:=is;refine⟨_,e,D.int,λx=>.str (mkT (aT x)),xs,rfl,by ext,λx hx=>⟨[.int x],rfl,?_⟩,?_⟩
 ·walk_at"env"
  lia;refine dM (lg (hb x hx)) ?_;lia
 ·rw[ay,z7k]at h
  exact h
section
variable {fs:z9}{ts:List z9}{of d:Int}
def OT{L L':E_}(e:L=L')(h:ce body L' E ρ M):ce body L E ρ M:=e▸h
def OU{rest:E_}(s:Sale S fs ts r c of d)(hn:Names nl)(fS4:∀x,S4 dk pl fa ra x->M x=none)(g3:Gath M3 CD dk pl fa ra [] [] [] .non)(K3:Kp (λ_=>False) M M3)(h:∀b M',Gath M' CD dk pl fa ra (nl.take fs.length) fs ts .non->Kp (λ_=>False) M M'->ce (λx E ρ M=>aG (ba (n2 neD (bG CD d_ (qtX (cu CD C)) (nP (a5 6)) (a8 (nP (a5 8)) ag)) (nP (eC (.str "ok"))))) (aJ (nP (eC .non))) sN E (List.set ρ 8 (some x)) M) rest E [some (.tup [.int (S:Nat),DI fs,DII ts,.tup [.int r,.int c,.int of,.int d]]),some (.lst (ay nl)),some (.int (S:Nat)),some (DI fs),some (DII ts),some (.tup [.int r,.int c,.int of,.int d]),some (.ptr dk),some (.ptr a2),b] M'):
  ce (λx E ρ M=>aG (ba (n2 neD (bG CD d_ (qtX (cu CD C)) (nP (a5 6)) (a8 (nP (a5 8)) ag)) (nP (eC (.str "ok"))))) (aJ (nP (eC .non))) sN E (List.set ρ 8 (some x)) M)
   ((fs.zipIdx.map λp=>D.str (mkT (eU (nl.getD p.2 []) p.1)))++((ts.map λrow=>D.str (mkT (kh row)))++rest)) E
   [some (.tup [.int (S:Nat),DI fs,DII ts,.tup [.int r,.int c,.int of,.int d]]),some (.lst (ay nl)),some (.int (S:Nat)),some (DI fs),some (DII ts),some (.tup [.int r,.int c,.int of,.int d]),some (.ptr dk),some (.ptr a2),x8] M3:=by
  have hl:=hn.len;have s0:=s;obtain⟨hS,f1,f2,f3,t1,t2,r1,r2,c1,c2,o1,o2,d1,d2⟩:=s;refine Ad (λp:Int×Nat=>D.str (mkT (eU (nl.getD p.2 []) p.1))) fs.zipIdx _ (λk ρ M'=>∃b,ρ=[some (.tup [.int (S:Nat),DI fs,DII ts,.tup [.int r,.int c,.int of,.int d]]),some (.lst (ay nl)),some (.int (S:Nat)),some (DI fs),some (DII ts),some (.tup [.int r,.int c,.int of,.int d]),some (.ptr dk),some (.ptr a2),b]/\Gath M' CD dk pl fa ra (nl.take k) (fs.take k) [] .non/\Kp (λ_=>False) M M') ⟨_,rfl,g3,K3⟩ ?_ ?_
  ·rintro ρ M4 ⟨b,rfl,g4,K4⟩
   rw[z3f,z6x]at g4;refine Ad (λrow=>D.str (mkT (kh row))) ts _ (λk ρ M'=>∃b,ρ=[some (.tup [.int (S:Nat),DI fs,DII ts,.tup [.int r,.int c,.int of,.int d]]),some (.lst (ay nl)),some (.int (S:Nat)),some (DI fs),some (DII ts),some (.tup [.int r,.int c,.int of,.int d]),some (.ptr dk),some (.ptr a2),b]/\Gath M' CD dk pl fa ra (nl.take fs.length) fs (ts.take k) .non/\Kp (λ_=>False) M M') ⟨_,rfl,g4,K4⟩ ?_ ?_
   ·rintro ρ M5 ⟨b,rfl,g5,K5⟩
    rw[z6x]at g5;exact h b M5 g5 K5
   ·rintro k hk ρ M5 ⟨b,rfl,g5,K5⟩ N hN
    have e5:=g5.hd;grind;refine OH g5 (t2 _ (z9u hk)) f1 f2 (by rw[z8a];ext) λM6 g6 k6=>?_
    lia;rw[z8d rfl];lia;refine hN _ _ ⟨_,rfl,by rw[z8p hk];exact g6,K5.trans k6 λx z n=>absurd (fS4 x z) n⟩
  ·rintro k hk ρ M4 ⟨b,rfl,g4,K4⟩ N hN
   have hk':k<fs.length:=by rwa [z3f]at hk
   have hkn:k<nl.length:=by ext
   have e4:=g4.hd;have hf:=f3 _ (z9u hk');rw[List.getElem_zipIdx];simp only[Nat.zero_add];rw[z8v,z9o hkn,z7d];grind;refine OG g4 (hn.nin ∅) (hn.ok _ (z9u hkn)) hf.1 hf.2 (by rw[z8a,z8a];ext) (by rw[z8a];ext) λM5 g5 k5=>?_
   lia;rw[z8d rfl];lia;refine hN _ _ ⟨_,rfl,by rw[z8p hkn,z8p hk'];exact g5,K4.trans k5 λx z n=>absurd (fS4 x z) n⟩
def OV{M5:Sto}(s:Sale S fs ts r c of d)(fS4:∀x,S4 dk pl fa ra x->M x=none)(g5:Gath M5 CD dk pl fa ra (nl.take fs.length) fs ts .non)(K5:Kp (λ_=>False) M M5)(h:∀b o M',M o=none->Opn M' CD C dk pl o (nl.take fs.length) (aY S fs ts r c of d 0 0 0 .non .non)->Kp (λ_=>False) M M'->E.nx [some (.tup [.int (S:Nat),DI fs,DII ts,.tup [.int r,.int c,.int of,.int d]]),some (.lst (ay nl)),some (.int (S:Nat)),some (DI fs),some (DII ts),some (.tup [.int r,.int c,.int of,.int d]),some (.ptr dk),some (.ptr a2),b] M'):
  ce (λx E ρ M=>aG (ba (n2 neD (bG CD d_ (qtX (cu CD C)) (nP (a5 6)) (a8 (nP (a5 8)) ag)) (nP (eC (.str "ok"))))) (aJ (nP (eC .non))) sN E (List.set ρ 8 (some x)) M)
   (if r=(S:Nat)/\c=1/\of=1/\d=0 then [.str (mkT (j5 S))]else [.str (mkT (lV r c of d)),.str (mkT (j5 S))]) E
   [some (.tup [.int (S:Nat),DI fs,DII ts,.tup [.int r,.int c,.int of,.int d]]),some (.lst (ay nl)),some (.int (S:Nat)),some (DI fs),some (DII ts),some (.tup [.int r,.int c,.int of,.int d]),some (.ptr dk),some (.ptr a2),x8] M5:=by
 have e5:=g5.hd;split
 ·rename_i q
  obtain⟨rfl,rfl,rfl,rfl⟩:=q;show aG _ _ _ _ _ _;grind;refine ON s g5 λo M7 ho g7 k7=>?_
  lia;rw[z8d rfl];lia;refine h _ o M7 ?_ g7 (K5.trans k7 λx z n=>absurd (fS4 x z) n);cases eo:M o with
  |none=>rfl
  |some cc=>rw[K5 o cc eo id]at ho;cases ho
 ·show aG _ _ _ _ _ _
  grind;refine OI s g5 λM6 g6 k6=>?_
  have K6:Kp (λ_=>False) M M6:=K5.trans k6 λx z n=>absurd (fS4 x z) n
  have e6:=g6.hd;lia;rw[z8d rfl];lia;show aG _ _ _ _ _ _;grind;refine OJ s g6 λo M7 ho g7 k7=>?_
  lia;rw[z8d rfl];lia;refine h _ o M7 ?_ g7 (K6.trans k7 λx z n=>absurd (fS4 x z) n);cases eo:M o with
  |none=>rfl
  |some cc=>rw[K6 o cc eo id]at ho;cases ho
def Ah(b_ a_:Nat):NTS:=ai (nA 8 (o6 (nP (a5 7)) (nP (c8 (aa (e2 bH (eC (.str "open ")) (eA (ar b8) (aa (a5 2) (aj)))) (aj))))) (aG (ba (n2 neD (bG b_ d_ (qtX (cu b_ a_)) (nP (a5 6)) (a8 (nP (a5 8)) (ag))) (nP (eC (.str "ok"))))) (aJ (nP (eC .non))) (sN))) (aJ (jw (a8 (nP (a5 6)) (a8 (rj a_ (qtX (lK b_ a_)) (a8 (nP (a5 2)) (a8 (fk (e1 gh (a5 3))) (a8 (fk (bR 1 [] [0] un1 (dY (a5 4)) bX (e1 gh (a5 0)))) (a8 (nP (a5 5)) (ag)))))) (ag)))))
def OW{of d:Int}:neD (.tup [.int r,.int c,.int of,.int d]) (.tup [.int (S:Nat),.int 1,.int 1,.int 0])=some (.bl (decide ¬(r=(S:Nat)/\c=1/\of=1/\d=0))):=by simp[neD,bE,bo,dm];rfl
def Ai(s:Sale S fs ts r c of d)(hn:Names nl)(hdk:M dk=none)(hpl:M pl=none)(fS4:∀x,S4 dk pl fa ra x->M x=none)(g3:Gath M3 CD dk pl fa ra [] [] [] .non)(K3:Kp (λ_=>False) M M3)(ha:M3 a2=some (.lst ((fs.zipIdx.map λp=>D.str (mkT (eU (nl.getD p.2 []) p.1)))++(ts.map λrow=>D.str (mkT (kh row)))++(if r=(S:Nat)/\c=1/\of=1/\d=0 then []else [.str (mkT (lV r c of d))]))))(h:∀b dk pl o o2 M',Bo M' CD C b dk pl o o2 (nl.take fs.length) (aY S fs ts r c of d 0 0 0 .non .non)->M b=none->M dk=none->M pl=none->M o=none->M o2=none->Kp (λ_=>False) M M'->E.rt (.ptr b) M'):
  Ah CD C E [some (.tup [.int (S:Nat),DI fs,DII ts,.tup [.int r,.int c,.int of,.int d]]),some (.lst (ay nl)),some (.int (S:Nat)),some (DI fs),some (DII ts),some (.tup [.int r,.int c,.int of,.int d]),some (.ptr dk),some (.ptr a2),x8] M3:=by
 have hS:=s.hS;have f2:=s.f2;have t1:=s.t1;have dS:=i7 (i:=(S:Nat)) ⟨by ext,by ext⟩;unfold Ah;lia;refine dM (lg ⟨by ext,by ext⟩) ?_;rw[OS];refine cE (by simp only[z9f,z9b,z9i,pw];ext) ?_;lia;refine⟨_,_,gy ha,rfl,?_,?_⟩
 ·simp only[z9f,z9c,z3f,z9b,z9i]
  split<;>simp<;>ext
 refine⟨_,rfl,?_⟩;refine OT (L':=(fs.zipIdx.map λp=>D.str (mkT (eU (nl.getD p.2 []) p.1)))++((ts.map λrow=>D.str (mkT (kh row)))++(if r=(S:Nat)/\c=1/\of=1/\d=0 then [.str (mkT (j5 S))]else [.str (mkT (lV r c of d)),.str (mkT (j5 S))]))) ?_ (OU s hn fS4 g3 K3 λb5 M5 g5 K5=>OV s fS4 g5 K5 λb o M4 ho g4 K4=>?_)
 ·split<;>simp[j5,bc]
 ·lia
  refine⟨_,rfl,?_⟩;refine⟨DI fs,rfl,_,rfl,λfa2 hfa2=>?_⟩;refine fI (α:=z9) ?_;lia;refine⟨DI,DI,ts,rfl,by ext,λx hx=>⟨[DI x],rfl,?_⟩,?_⟩
  ·walk_at"env"
   lia
  ·refine⟨_,rfl,λra2 hra2=>?_⟩
   refine⟨_,rfl,λo2 ho2=>?_⟩;have n1:ra2≠fa2:=λe=>by rw[e,aB]at hra2;cases hra2
   have hra4:M4 ra2=none:=by rwa [aE n1]at hra2
   have n2:o2≠ra2:=λe=>by rw[e,aB]at ho2;cases ho2
   rw[aE n2]at ho2;have n3:o2≠fa2:=λe=>by rw[e,aB]at ho2;cases ho2
   have ho4:M4 o2=none:=by rwa [aE n3]at ho2
   have back:∀{x:Nat},M4 x=none->M x=none:=λ{x} hx=>by
    cases e:M x with
    |none=>rfl
    |some cc=>rw[K4 x cc e id]at hx;cases hx
   have kk:∀{x:Nat} {cc:Cell},M4 x=some cc->x≠o2/\x≠ra2/\x≠fa2:=λ{x cc} hx=>⟨(λe=>by rw[e,ho4]at hx;cases hx),(λe=>by rw[e,hra4]at hx;cases hx),(λe=>by rw[e,hfa2]at hx;cases hx)⟩
   refine xW (tG s aB ((aE (Ne.symm n3)).trans ((aE (Ne.symm n1)).trans aB)) ((aE (Ne.symm n2)).trans aB) λM6 m6 k6=>⟨rfl,?_⟩);have up:∀{x:Nat} {cc:Cell},M4 x=some cc->M6 x=some cc:=λ{x cc} hx=>by obtain⟨q1,q2,q3⟩:=kk hx;exact k6 x cc ((aE q1).trans ((aE q2).trans ((aE q3).trans hx))) q1
   refine⟨by simp,λb' hb'=>?_⟩;obtain⟨⟨f,r0,u,e1⟩,e2,e3⟩:=g4;have nb:∀{x:Nat} {cc:Cell},M6 x=some cc->x≠b':=λ{x cc} hx e=>by rw[e,hb']at hx;cases hx
   have no2:o2≠b':=nb m6;refine h b' dk pl o o2 _ ⟨aB,⟨⟨f,r0,u,(aE (nb (up e1))).trans (up e1)⟩,(aE (nb (up e2))).trans (up e2),(aE (nb (up e3))).trans (up e3)⟩,(aE no2).trans m6,(kk e3).1⟩ ?_ hdk hpl ho (back ho4) ?_
   ·cases e:M b' with
    |none=>rfl
    |some cc=>rw[up (K4 b' cc e id)]at hb';cases hb'
   ·exact λx cc hx hn=>(aE (nb (up (K4 x cc hx id)))).trans (up (K4 x cc hx id))
def Aj(s:Sale S fs ts r c of d)(hn:Names nl)(h:∀b dk pl o o2 M',Bo M' CD C b dk pl o o2 (nl.take fs.length) (aY S fs ts r c of d 0 0 0 .non .non)->M b=none->M dk=none->M pl=none->M o=none->M o2=none->Kp (λ_=>False) M M'->Q (.ptr b) M'):
  jT CD C [iZ S fs ts r c of d,.lst (ay nl)] M Q:=by
 have hl:=hn.len;have s0:=s;obtain⟨hS,f1,f2,f3,t1,t2,r1,r2,c1,c2,o1,o2,d1,d2⟩:=s;refine ca rfl ?_;unfold iZ;grind;refine MI λdk hdk=>?_
 refine OO aB λpl fa ra M1 hpl hfa hra g1 k1=>⟨rfl,?_⟩
 have fr:∀{x:Nat} {cc:Cell},aK M dk cc x=none->M x=none:=λ{x cc} hx=>by
  by_cases e:x=dk
  ·rw[e];exact hdk
  ·rwa [aE e]at hx
 have hpl:=fr hpl;have hfa:=fr hfa;have hra:=fr hra;have fS4:∀x,S4 dk pl fa ra x->M x=none:=by rintro x (rfl|rfl|rfl|rfl)<;>assumption
 have K1:Kp (λ_=>False) M M1:=λx cc hx _=>by
  have ne:x≠dk:=λe=>by rw[e,hdk]at hx;cases hx
  exact k1 x cc ((aE ne).trans hx) ne
 lia;refine fI (α:=Int×Nat) ?_;lia;refine⟨λp=>.tup [.int (p.2:Nat),.int p.1],λp=>.str (mkT (eU (nl.getD p.2 []) p.1)),fs.zipIdx,wQ _ _,by simp;ext,λp hp=>⟨_,rfl,?_⟩,?_⟩
 ·have hp2:=List.snd_lt_of_mem_zipIdx hp
  have hp1:=f3 _ (List.fst_mem_of_mem_zipIdx hp);have hk:p.2<nl.length:=by ext
  have gn:=(hn.ok _ (z9u hk)).1.2;have ld:=i7 (i:=p.1) ⟨by ext,by ext⟩;grind;refine gm (lU hk) ?_;rw[OP];refine cE (by simp only[z9f,z9b,z9i,kg];ext) ?_;lia;rw[gD];refine cE (by simp only[z9f,z9b,z9i,kg];ext) ?_;lia;refine dM (lg ⟨by ext,by ext⟩) ?_;refine cE (by simp only[z9f,z9b,z9i,kg];ext) ?_;rw[eU,z8v,z9o hk];simp[bc]
 rw[show(fs.zipIdx.map λp=>D.str (mkT (eU (nl.getD p.2 []) p.1)))=ay (fs.zipIdx.map λp=>eU (nl.getD p.2 []) p.1)by rw[ay,z7k];rfl];refine⟨_,rfl,λa1 ha1=>?_⟩;have K2:∀cc,Kp (λ_=>False) M (aK M1 a1 cc):=λcc=>K1.trans (Kp.upd (S:=λ_=>False) (.inr ha1)) λ_ z _=>z
 lia;refine⟨by rw[z9c];ext,?_⟩;refine iL DI ts (λk ds M'=>ds=ay ((ts.take k).map kh)/\M'=aK M1 a1 (.lst (ay (fs.zipIdx.map λp=>eU (nl.getD p.2 []) p.1)))) ⟨by simp[ay],rfl⟩ ?_ ?_
 ·rintro ds _ ⟨rfl,rfl⟩
  rw[z6x];refine⟨_,_,gy aB,rfl,by simp[ay];ext,λa2 ha2=>?_⟩;rw[ay,ay,<- z8k];have K3:∀cc,Kp (λ_=>False) M (aK (aK M1 a1 (.lst (ay (fs.zipIdx.map λp=>eU (nl.getD p.2 []) p.1)))) a2 cc):=λcc=>(K2 _).trans (Kp.upd (S:=λ_=>False) (.inr ha2)) λ_ z _=>z
  have g3:∀cc,Gath (aK (aK M1 a1 (.lst (ay (fs.zipIdx.map λp=>eU (nl.getD p.2 []) p.1)))) a2 cc) CD dk pl fa ra [] [] [] .non:=λcc=>(g1.keep (Kp.upd (.inr ha1))).keep (Kp.upd (.inr ha2))
  grind;refine gm OW ?_;lia;refine au (λe=>?_) λe=>?_
  ·lia
   refine⟨a2,_,rfl,aB,?_⟩;have hrb:∀x∈[r,c,of,d],Bd x:=λx hx=>by simp only[z9k,z7m,z5m]at hx;constructor<;>ext
   have hls:=lT (Af hrb);have hjl:=oM 32 ([r,c,of,d].map aT) (by simp);rw[z9c]at hls hjl;simp only[z9b,z9i]at hls hjl;lia;refine Ag (xs:=[r,c,of,d]) (is:=?_) hrb (by simp) ?_
   ·lia
    rfl
   refine jM (by rw[gD,aA];simp only[z9c,z9b,z9i];ext) ?_;rw[gD,aA,OR];refine cE (by simp only[z9f,z9b,z9i,pv];ext) ?_;rw[Ae (by simp)];refine⟨_,aB,by simp;ext,?_⟩;rw[dR];refine Ai s0 hn hdk hpl fS4 (g3 _) (K3 _) ?_ h;rw[aB,if_neg e];simp[lV];rfl
  ·refine Ai s0 hn hdk hpl fS4 (g3 _) (K3 _) ?_ h
   rw[aB,if_pos (Classical.not_not.mp e)];simp;rfl
 ·rintro k hk ds _ ⟨rfl,rfl⟩ N hN
  have hr:=t2 _ (z9u hk);have hrb:∀x∈ts[k],Bd x:=λx hx=>by have:=hr.2.1 x hx;constructor<;>ext
  have hls:=lT (Af hrb);have hrl:=hr.1;rw[z9c]at hls;grind;refine Ag (xs:=ts[k]) (is:=?_) hrb ∅ ?_
  ·lia
  refine jM (by rw[gD,aA];simp only[z9c,z9b,z9i];ext) ?_;rw[gD,aA,OQ];have hjl:=oM 32 (ts[k].map aT) (by intro e;have:=z8u List.length e;simp only[z9c,z9i]at this;ext);rw[z9c]at hjl;refine cE (by simp only[z9f,z9b,z9i,pp];ext) ?_;refine hN _ _ ⟨?_,rfl⟩;rw[z8p hk,ay,ay,z8k,z8k,Ae (by intro e;have:=z8u List.length e;simp only[z9c,z9i]at this;ext)];rfl
end
def Ak{fs:z9}{ts:List z9}{of d:Int}(s:Sale S fs ts r c of d):sR [iZ S fs ts r c of d]=some (.str (mkT (j4 S fs ts r c of d))):=by
 have s0:=s;obtain⟨hS,f1,f2,f3,t1,t2,r1,r2,c1,c2,o1,o2,d1,d2⟩:=s;have hrl:∀x∈ts,x.length<=1000:=λx hx=>by have:=(t2 x hx).1;ext
 have hfs:fv fs:=λx hx=>by have:=f3 x hx;ext
 have hts:∀x∈ts,fv x/\x.length<=1000:=λx hx=>⟨λy hy=>by have:=(t2 x hx).2.1 y hy;ext,hrl x hx⟩
 have hsum:=t2.sum ∅;have hend:(ends r c of d S).length=S+1:=jU ..;have hw0:((b9 fs ts (of ^ S) (ends r c of d S)).getD 0 []).length=S+1:=by rw[oI _ _ _ _ _ ∅,jU]
 have h1:=oU s0 (t:=0) (i:=S) ∅;have h3:=oJ s0 (t:=0) ∅;have b1:Bd (((b9 fs ts (of ^ S) (ends r c of d S)).getD 0 []).getD S 0):=⟨by ext,by ext⟩;have b2:Bd ((bi ts (of ^ S)).getD 0 0):=⟨by ext,by ext⟩;have l1:=i7 b1;have l2:=i7 b2;refine cB (cC (bZ rfl ?_));unfold iZ;grind;refine bu (zn ∅ ∅) ?_;lia;refine fI (α:=z9) ?_;lia;refine⟨DI,DI,ts,rfl,by ext,λx hx=>⟨[DI x],rfl,?_⟩,?_⟩
 ·walk_at"env"
  lia
 lia;refine bu (zg hS ⟨by ext,by ext⟩ ⟨c1,c2⟩ o2 o1 ⟨d1,d2⟩) ?_;lia;refine bu (zk hfs ∅ hts hsum ∅ ∅) ?_;lia;refine lf ∅ (by rw[lP];ext) ?_;lia;refine dH ∅ (by rw[show(0:Int).toNat=0 from rfl,hw0];ext) ?_;lia;rw[show(0:Int).toNat=0 from rfl,z7a];refine dM (lg b1) ?_;lia;rw[tJ];refine cE (by simp only[z9b,z9i];ext) ?_;lia;refine bu (t9 hsum ∅) ?_;lia;refine dH ∅ (by rw[iV];ext) ?_;lia;rw[show(0:Int).toNat=0 from rfl];refine dM (lg b2) ?_;lia;refine cE (by simp only[z9f,z9b,z9i];ext) ?_;lia;rfl
def Al(b_ a_:Nat):NTS:=ai (aI 6 (aF (jT b_ a_) (a8 (nP (a5 1)) (a8 (nP (a5 3)) (ag))))) (ai (aG (ba (n1 cz (nP (a5 6)))) (aJ (nP (eC (.bl false)))) (sN)) (ai (nC 7 (a8 (nP (eC (.int 4))) (a8 (nP (eA (dj iy) (aa (eC (.int 63)) (aa (eA (ar bC) (aa (a5 0) (aj))) (aj))))) (ag))) (ai (aI 2 (aF (iU b_ a_) (a8 (nP (a5 0)) (a8 (nP (a5 7)) (ag))))) (ai (aG (ll (ba (n2 eqD (bG a_ c_ (gv b_ a_) (c4 (nP (a5 6)) (nP (eC (.int 1)))) ag) (nP (eA (ar bC) (aa (e2 ixD (a5 1) (eC (.int 2))) (aj)))))) (ba (n2 eqD (aF (bB b_ a_) (a8 (nP (a5 2)) (a8 (nP (eC (.int 4))) (ag)))) (nP (eC (.int 0)))))) (aI 6 (aF (jT b_ a_) (a8 (nP (a5 1)) (a8 (nP (a5 3)) (ag))))) (sN)) (aG (nOr (ba (n1 cz (nP (a5 6)))) (gq (fJ (aF (lM b_ a_) (a8 (nP (a5 2)) (a8 (nP (a5 6)) (a8 (nP (a5 3)) (a8 (nP (a5 4)) (a8 (nP (a5 5)) (ag)))))))))) (aJ (nP (eC (.bl false)))) (sN))))) (aJ (lm (n2 eqD (aF (dC b_ a_) (a8 (c4 (nP (a5 6)) (nP (eC (.int 0)))) (a8 (nP (eC (.str "coins"))) (ag)))) (ci (ar b8) (a8 (bG a_ c_ (fU b_ a_) (c4 (nP (a5 6)) (nP (eC (.int 1)))) ag) (ag)))) (n2 eqD (aF (dC b_ a_) (a8 (c4 (nP (a5 6)) (nP (eC (.int 0)))) (a8 (nP (eC (.str "worth"))) (ag)))) (nP (a5 5)))))))
def Am{fs:z9}{ts:List z9}{of d:Int}{x2:F_}(hl:ns.length<=63)(s:Sale S fs ts r c of d)(hn:Names nl)(h:∀M',E.rt (.bl true) M'):
  Al CD C E [some (.scr ns),some (iZ S fs ts r c of d),x2,some (.lst (ay nl)),some (.int ((fs.length:Nat):Int)),some (.str (mkT (j4 S fs ts r c of d))),x6,x7] M:=by
 unfold Al;lia;refine Aj s hn λb dk pl o o2 M4 g4 _ _ _ _ _ K4=>?_
 have ok0:cb S fs ts r c of d (aY S fs ts r c of d 0 0 0 .non .non):=⟨_,_,_,_,_,rfl,by ext,by ext,by ext,by ext,.inl rfl,.inl rfl⟩;lia;refine⟨_,_,rfl,⟨by ext,by ext⟩,⟨by ext,by ext⟩,?_⟩;refine rX (λ(k:Nat)=>.int (4+(k:Nat))) _ (λk ρ M'=>∃b b2 b7,ρ=[some (.scr ns),some (iZ S fs ts r c of d),b2,some (.lst (ay nl)),some (.int ((fs.length:Nat):Int)),some (.str (mkT (j4 S fs ts r c of d))),some (.ptr b),b7]/\BoE M' CD C b (nl.take fs.length) S fs ts r c of d) ⟨b,_,_,rfl,_,_,_,_,_,g4,ok0⟩ ?_ ?_
 ·rintro ρ M5 ⟨b,b2,b7,rfl,g5⟩
  lia;obtain⟨dk,pl,o,o2,off,gB,ok⟩:=g5;refine⟨b,_,_,_,rfl,gB.hb,rfl,rfl,?_⟩;lia;have ok1:=ok;obtain⟨J0,J1,J4,J5,J6,rfl,ht,hs,p0,p1,du,la⟩:=ok;obtain⟨x,hx,bd⟩:=A4 s ht p0 p1 du;obtain⟨f,r0,u,e1⟩:=gB.op.hd;refine oX (o:=o) (r:=.ans (mkT (aT x)) (aY S fs ts r c of d J0 J1 J4 J5 J6)) e1 (λQ EX hq=>?_) λM6 a1=>?_
  ·exact j3 gB.op (wl:=[99,111,105,110,115]) (by decide +kernel) (by decide) (by decide) (by decide) (by decide) (by decide) λM1 k1=>zR (gB.op.keep k1) hx bd (hq M1 (jZ k1) (gB.op.keep k1).ho)
  ·obtain⟨b1,b2⟩:=gB.after1 a1
   have gB6:Bo M6 CD C b dk pl o o2 (nl.take fs.length) (aY S fs ts r c of d J0 J1 J4 J5 J6):=⟨b1,gB.op.upd a1.1 a1.2,b2,gB.ne⟩;refine tM rfl gB6.hb gB6.h2 (A5 gB6.h2 hx (dM (lg bd) ⟨rfl,.bl true,by simp[oV,eqD,bE,bo,dm],(λ_=>?_),λe=>nomatch e⟩));refine⟨.ptr b,rfl,.int 0,rfl,b,_,0,.ptr dk,rfl,gB6.hb,rfl,rfl,.str "worth",rfl,?_⟩;refine Ab s gB6 ok1 λM7 g7=>?_
   exact⟨_,rfl,.bl true,by simp[eqD,bE,bo,dm],h M7⟩
 ·rintro k hk ρ M5 ⟨b,b2,b7,rfl,g5⟩ N hN
  rw[z8x]at hk;rw[z3e];have hk':(4:Int)+(k:Nat)<=1000:=by ext
  grind;refine oE ∅ ∅ λp M6 hp P6 K6=>?_
  have g6:=g5.fresh hp K6;have rowE:∀(M7:Sto) (n:Nat) (b':Nat),n<=50000->Pool M7 p n->BoP M7 CD C b' p (nl.take fs.length) S fs ts r c of d->∀Q:QE,(∀M',BoE M' CD C b' (nl.take fs.length) S fs ts r c of d->Q (.bl true) M')->lM CD C [.ptr p,.ptr b',.lst (ay nl),.int ((fs.length:Nat):Int),.str (mkT (j4 S fs ts r c of d))] M7 Q:=λM7 n b' hn' hP g7 Q hQ=>OB rfl s hn hP hn' g7 hQ
  have g7:=g6;obtain⟨dk,pl,o,o2,off,gB,ok,q1,q2,q3,q4,q5⟩:=g6;lia;refine tM rfl gB.hb gB.h2 (A7 (K:=λ_=>True) ok gB.h2 s λJ0 ht8=>?_);unfold iZ;lia;refine au (λe=>?_) λe=>?_
  ·lia
   refine bN P6 ∅ ∅ ∅ λv M7 v0 v1 P7 K7=>?_
   have g8:=g7.keep K7;lia;refine au (λe2=>?_) λe2=>?_
   ·lia
    refine Aj s hn λb' dk' pl' o' o2' M8 g9 z1 z2 z3 z4 z5 K8=>?_
    have np:∀{x:Nat},M7 x=none->x≠p:=λ{x} hx e=>by obtain⟨_,_,_,z,_⟩:=P7;rw[e,z]at hx;cases hx
    lia;refine rowE M8 _ b' ∅ (P7.keep K8 id) ⟨_,_,_,_,_,g9,ok0,np z1,np z2,np z3,np z4,np z5⟩ _ λM9 g10=>?_
    lia;exact hN _ _ ⟨_,_,_,rfl,g10⟩
   ·lia
    refine rowE M7 _ b ∅ P7 g8 _ λM9 g10=>?_
    lia;exact hN _ _ ⟨_,_,_,rfl,g10⟩
  ·lia
   refine rowE M6 _ b ∅ P6 g7 _ λM9 g10=>?_
   lia;exact hN _ _ ⟨_,_,_,rfl,g10⟩
def OX(ns:z9)(hl:ns.length<=63)(CD C:Nat):t6 CD C [.scr ns] (λ_=>none) λd _=>d=.bl true:=by
 refine ca rfl ?_;grind;refine MO ∅ ∅ λS fs ts r c of d M1 hS f1 f2 f3 t1 t2 r1 r2 c1 c2 o1 o2 d1 d2 K1=>?_
 have s:Sale S fs ts r c of d:=⟨hS,f1,f2,f3,t1,t2,r1,r2,c1,c2,o1,o2,d1,d2⟩;have s1:Sale S fs ts (S:Nat) 1 1 0:=⟨hS,f1,f2,f3,t1,t2,by ext,by ext,by ext,by ext,by ext,by ext,by ext,by ext⟩;lia;refine oE ∅ ∅ λp0 M2 hp0 P2 K2=>?_
 lia;refine NF P2 ∅ λnl M3 hn K3 P3=>?_
 lia;refine bN P3 ∅ ∅ ∅ λz M4 z0 z1 P4 K4=>?_
 lia;refine au (λez=>?_) λez=>?_
 ·lia
  refine bu (Ak s1) ?_;walk_at"env";rw[z9c];exact Am hl s1 hn λ_=>rfl
 ·lia
  refine bu (Ak s) ?_;walk_at"env";rw[z9c];exact Am hl s hn λ_=>rfl
end My
end VL
namespace VL
namespace My
open PySem PySem.Spec PyProof.Rows L2
noncomputable def top(i:Nat):Stmt:=PySem.Challenge.pw_latefare_k49_rows_behind_open.main.body.getD i (.Pass ⟨0,0,0,0⟩)
abbrev An:Stmt:=top 13
abbrev Ao:Stmt:=top 14
abbrev Ap:Stmt:=top 22
abbrev Aq:Stmt:=top 25
abbrev Ar:Stmt:=top 24
abbrev As:Stmt:=top 23
abbrev At:Stmt:=top 21
abbrev Au:Stmt:=top 26
abbrev Aw:Stmt:=top 31
abbrev Ax:Stmt:=top 33
abbrev Ay:Stmt:=top 32
abbrev Az:Stmt:=top 30
abbrev AB:Stmt:=top 29
abbrev AC:Stmt:=top 28
abbrev AD:Stmt:=top 35
abbrev AE:Stmt:=top 36
abbrev AG:Stmt:=top 41
abbrev AH:Stmt:=top 43
abbrev AI:Stmt:=top 42
abbrev AJ:Stmt:=top 46
abbrev AK:Stmt:=top 45
abbrev AL:Stmt:=top 44
abbrev AM:Stmt:=top 47
abbrev AN:Stmt:=top 58
abbrev AO:Stmt:=top 62
abbrev AQ:Stmt:=top 63
abbrev AR:Stmt:=top 65
abbrev AS:Stmt:=top 78
abbrev AT:Stmt:=ck (top 49) 3
abbrev AU:Stmt:=ck (top 49) 6
abbrev AV:Stmt:=ck (top 49) 11
abbrev AW:Stmt:=ck (top 49) 2
abbrev AX:Stmt:=ck (top 49) 1
abbrev AY:Stmt:=ck (top 49) 7
abbrev AZ:Stmt:=ck (top 49) 8
abbrev B1:Stmt:=ck (top 49) 9
abbrev B2:Stmt:=ck (top 49) 5
abbrev B3:Stmt:=ck (top 49) 10
abbrev B4:Stmt:=top 75
abbrev B5:Stmt:=top 73
abbrev B6:Stmt:=top 76
abbrev B7:Stmt:=top 67
abbrev B8:Stmt:=top 72
abbrev B9:Stmt:=ck (top 60) 0
abbrev Ba:Stmt:=ck (top 49) 0
abbrev Bb:Stmt:=top 55
abbrev Bc:Stmt:=ck (top 49) 4
abbrev Be:Stmt:=ck (top 60) 9
abbrev Bf:Stmt:=ck (top 60) 8
abbrev Bg:Stmt:=top 56
abbrev Bh:Stmt:=ck (top 60) 7
abbrev Bi:Stmt:=ck (top 60) 3
abbrev Bj:Stmt:=top 57
abbrev Bk:Stmt:=ck (top 60) 4
abbrev Bl:Stmt:=top 61
abbrev Bm:Stmt:=ck (top 60) 5
abbrev Bn:Stmt:=ck (top 60) 6
abbrev Bp:Stmt:=ck (top 60) 2
abbrev Bq:Stmt:=ck (top 60) 1
abbrev Br:Stmt:=top 77
abbrev Bs:Stmt:=top 66
abbrev Bt:Stmt:=top 74
abbrev Bu:Stmt:=top 79
abbrev Bv:Stmt:=top 80
abbrev Bw:Stmt:=top 68
abbrev Bx:Stmt:=top 70
abbrev By:Stmt:=top 69
abbrev Bz:Stmt:=top 71
abbrev tO:Stmt:=top 81
structure AF (P:Program) (w:World) (K:K0) (mg:Str->v_) (base:Heap) (b_ a_:Addr):Prop where
 u00:FA K mg "is_within" An
 u01:FA K mg "power" Ao
 u02:FA K mg "are_fares" Ap
 u03:FA K mg "total_of" Aq
 u04:FA K mg "is_row" Ar
 u05:FA K mg "are_turns" As
 u06:FA K mg "is_sale" At
 u07:FA K mg "scales_of" Au
 u08:FA K mg "weighed" Aw
 u09:FA K mg "sold_worth" Ax
 u0a:FA K mg "class_worth" Ay
 u0b:FA K mg "stand_worth" Az
 u0c:FA K mg "row_worths" AB
 u0d:FA K mg "worths_of" AC
 u0e:FA K mg "is_taken" AD
 u0f:FA K mg "least_fare" AE
 u0g:FA K mg "is_rule" AG
 u0h:FA K mg "with_one_more" AH
 u0i:FA K mg "shows_of" AI
 u0j:FA K mg "beyond_room" AJ
 u0k:FA K mg "end_of" AK
 u0l:FA K mg "ends_of" AL
 u0m:FA K mg "last_scale" AM
 u0n:FA K mg "is_made_of" AN
 u0o:FA K mg "yes_or_no" AO
 u0p:FA K mg "dash_or_number" AQ
 u0q:FA K mg "_law_nth" AR
 u0r:FA K mg "_law_worth" AS
 u0s:MA K a_ "coins" "Office.coins" AT
 u0t:MA K a_ "is_over" "Office.is_over" AU
 u0u:MA K a_ "came" "Office.came" AV
 u0v:MA K a_ "left" "Office.left" AW
 u0w:MA K a_ "turn" "Office.turn" AX
 u0x:MA K a_ "fare_of" "Office.fare_of" AY
 u0y:MA K a_ "takes" "Office.takes" AZ
 u0z:MA K a_ "least" "Office.least" B1
 u10:MA K a_ "asked" "Office.asked" B2
 u11:MA K a_ "paper" "Office.paper" B3
 u12:FA K mg "_law_call" B4
 u13:FA K mg "_law_kinds" B5
 u14:FA K mg "_law_due" B6
 u15:FA K mg "_law_take" B7
 u16:FA K mg "_law_names" B8
 u17:IA K mg "Desk" b_ "Desk.__init__" B9
 u18:IA K mg "Office" a_ "Office.__init__" Ba
 u19:FA K mg "read_words" Bb
 u1a:MA K a_ "worth" "Office.worth" Bc
 u1b:MA K b_ "tell" "Desk.tell" Be
 u1c:MA K b_ "place_of" "Desk.place_of" Bf
 u1d:FA K mg "read_number" Bg
 u1e:MA K b_ "serve" "Desk.serve" Bh
 u1f:MA K b_ "add_class" "Desk.add_class" Bi
 u1g:FA K mg "read_name" Bj
 u1h:MA K b_ "add_turn" "Desk.add_turn" Bk
 u1i:FA K mg "read_numbers" Bl
 u1j:MA K b_ "set_rule" "Desk.set_rule" Bm
 u1k:MA K b_ "begin" "Desk.begin" Bn
 u1l:MA K b_ "gather" "Desk.gather" Bp
 u1m:MA K b_ "say" "Desk.say" Bq
 u1n:FA K mg "_law_opened" Br
 u1o:FA K mg "_law_pool" Bs
 u1p:FA K mg "_law_said" Bt
 u1q:FA K mg "_law_stranger" Bu
 u1r:FA K mg "_law_row" Bv
 u1s:FA K mg "_law_size" Bw
 u1t:FA K mg "_law_rule" Bx
 u1u:FA K mg "_law_weights" By
 u1v:FA K mg "_law_sale" Bz
 u1w:FA K mg "law" tO
 u1x:mg "ValueError"=none
 u1y:mg "all"=none
 u1z:mg "bool"=none
 u20:mg "enumerate"=none
 u21:mg "int"=none
 u22:mg "isinstance"=none
 u23:mg "len"=none
 u24:mg "list"=none
 u25:mg "max"=none
 u26:mg "min"=none
 u27:mg "range"=none
 u28:mg "reversed"=none
 u29:mg "str"=none
 u2a:mg "sum"=none
 u2b:mg "tuple"=none
 u2c:mg "zip"=none
 u2d:∃t,mg "FIGURES"=some (.str "0123456789" t)
 u2e:∃t,mg "LETTERS"=some (.str "abcdefghijklmnopqrstuvwxyz" t)
 u2f:∃t,mg "MOST_DUE"=some (.int 1000000 t)
 u2g:∃t,mg "MOST_FARE"=some (.int 1000000 t)
 u2h:∃t,mg "MOST_FARES"=some (.int 6 t)
 u2i:∃t,mg "MOST_FIGURES"=some (.int 7 t)
 u2j:∃t,mg "MOST_LETTERS"=some (.int 8 t)
 u2k:∃t,mg "MOST_OF"=some (.int 1000 t)
 u2l:∃t,mg "MOST_ROOM"=some (.int 10 t)
 u2m:∃t,mg "MOST_SEATS"=some (.int 10 t)
 u2n:∃t,mg "MOST_TURNS"=some (.int 8 t)
 u2o:∃t,mg "MOST_WEIGHT"=some (.int 1000 t)
 u2p:Cls K b_
 u2q:Cls K a_
 u2r:NoAttr K b_ "places"
 u2s:NoAttr K b_ "fares"
 u2t:NoAttr K b_ "rows"
 u2u:NoAttr K b_ "rule"
 u2v:NoAttr K b_ "office"
 u2w:NoAttr K a_ "seats"
 u2x:NoAttr K a_ "fares"
 u2y:NoAttr K a_ "rule"
 u2z:NoAttr K a_ "scales"
 u30:NoAttr K a_ "table"
 u31:NoAttr K a_ "told"
 u32:NoAttr K a_ "sold"
 u33:NoAttr K a_ "paid"
 u35:NoAttr K a_ "dues"
 u36:NoAttr K a_ "latest"
 u37:fm K=true
local macro_rules | `(tactic| walk_at"cp")=>`(tactic| (refine⟨rfl,by decide +kernel,by decide +kernel,?_,by first|rfl|decide +kernel,by decide +kernel,by decide +kernel⟩;first|exact Fv _ (by decide +kernel)|(refine' LB ?a ?b ?c;(case a=>assumption);(case b=>exact rfl);(case c=>decide +kernel))))
local macro_rules | `(tactic| walk_at"pg")=>`(tactic| exact λ_ _ _ _=>gb (i:=0) (by show List.Nodup (_++_);decide +kernel) rfl (Or.inl rfl) (.inr rfl))
local macro_rules | `(tactic| walk_at"sc")=>`(tactic| exact⟨rfl,rfl,rfl,by decide +kernel,rfl,by decide +kernel,by decide +kernel⟩)
local macro_rules | `(tactic| walk_at"bd")=>`(tactic| (intro _ _ _ _ _ _ us hl;first|(obtain⟨_,e⟩:=yK hl;subst e;rfl)|(obtain⟨_,_,e⟩:=yL hl;subst e;rfl)|(obtain⟨_,_,_,e⟩:=yM hl;subst e;rfl)|(obtain⟨_,_,_,_,e⟩:=yN hl;subst e;rfl)|(obtain⟨_,_,_,_,_,e⟩:=yO hl;subst e;rfl)|(obtain⟨_,_,_,_,_,_,e⟩:=LA hl;subst e;rfl)))
section
variable {P:Program}{w:World}{K:K0}{mg:Str->v_}{base:Heap}{b_ a_:Addr}
variable (Z:AF P w K mg base b_ a_)
include Z
def gF:Def P w K mg base "is_within" 1 ["number","least","most"] ft false:=by
 have sc:FnScope ["number","least","most"] ["number","least","most"] (ao An):=by walk_at"sc"
 refine Def.sc (mkA Z.u00 (by walk_at"bd") λ_ _ Fn=>bY [] [] rfl rfl rfl Fn sc (λ_ _ _ _ _ _ _ hn hr=>?_));exact(bD (c9 (O':=[]) (eG (we EC (by decide +kernel) Z.u22 Z.u21 (a6 0)) (eG (Ef (we ED (by decide +kernel) Z.u22 Z.u1z (a6 0))) (gf (qf (a6 1) (a6 0) (a6 2)))))))
def BA:Def P w K mg base "power" 1 ["base","times"] oh false:=by
 have sc:FnScope ["base","times","product","step"] ["base","times"] (ao Ao):=by walk_at"sc"
 refine Def.sc (mkA Z.u01 (by walk_at"bd") λ_ _ Fn=>bY [] [] rfl rfl rfl Fn sc (λ_ _ _ _ _ _ _ hn hr=>?_));exact(cq (fj 2 sc.nd ae) (cq (vS 3 [] sc.nd rfl Z.u27 (ad (a6 1) am) (bD (fj 2 sc.nd (eX (a6 2) (a6 0))))) (bD (c9 (O':=[]) (a6 2)))))
def BB:Def P w K mg base "are_fares" 2 ["fares"] oi false:=by
 have sc:FnScope ["fares"] ["fares"] (ao Ap):=by walk_at"sc"
 refine Def.sc (mkA Z.u02 (by walk_at"bd") λ_ _ Fn=>bY [] [] rfl rfl rfl Fn sc (λ_ _ _ _ _ _ _ hn hr=>?_));exact(bD (c9 (O':=[]) (eG (qf ae (cS Z.u23 (ad (a6 0) am)) (eD Z.u2h.choose_spec)) (gf (ng rfl Z.u1y (ad (bp (dq (own:=["fare"]) (J3:=[]) (cn:=[]) (by walk_at"cp") rfl (gi (aM 0)) (by walk_at"pg") (dZ 0) (by decide) (λ_ _ _ _=>da) (λ_ _ _ _=>(bF (gF Z).mono hr (ad (a6 0) (ad ae (ad (eD Z.u2g.choose_spec) am))))))) am))))))
def BC:Def P w K mg base "total_of" 1 ["row"] oj false:=by
 have sc:FnScope ["row"] ["row"] (ao Aq):=by walk_at"sc"
 refine Def.sc (mkA Z.u03 (by walk_at"bd") λ_ _ Fn=>bY [] [] rfl rfl rfl Fn sc (λ_ _ _ _ _ _ _ hn hr=>?_));exact(bD (c9 (O':=[]) (ql rfl Z.u2a (ad (a6 0) am))))
def BD:Def P w K mg base "is_row" 2 ["row","classes"] ol false:=by
 have sc:FnScope ["row","classes"] ["row","classes"] (ao Ar):=by walk_at"sc"
 refine Def.sc (mkA Z.u04 (by walk_at"bd") λ_ _ Fn=>bY [] [] rfl rfl rfl Fn sc (λ_ _ _ _ _ _ _ hn hr=>?_));exact(cq (vM (O':=[]) (nc hr (cS Z.u23 (ad (a6 0) am)) (cQ (a6 1) ae)) (bD (c9 (O':=[]) kG)) vL) (bD (c9 (O':=[]) (eG (ng rfl Z.u1y (ad (bp (dq (own:=["weight"]) (J3:=[]) (cn:=[]) (by walk_at"cp") rfl (gi (aM 0)) (by walk_at"pg") (dZ 0) (by decide) (λ_ _ _ _=>da) (λ_ _ _ _=>(bF (gF Z).mono hr (ad (a6 0) (ad ae (ad (eD Z.u2o.choose_spec) am))))))) am)) (gf (vm (bF (BC Z).mono hr (ad (a6 0) am)) ae))))))
def OY:Def P w K mg base "are_turns" 3 ["turns","classes"] sD false:=by
 have sc:FnScope ["turns","classes"] ["turns","classes"] (ao As):=by walk_at"sc"
 refine Def.sc (mkA Z.u05 (by walk_at"bd") λ_ _ Fn=>bY [] [] rfl rfl rfl Fn sc (λ_ _ _ _ _ _ _ hn hr=>?_));exact(bD (c9 (O':=[]) (eG (Eb (cS Z.u23 (ad (a6 0) am)) (eD Z.u2n.choose_spec)) (gf (ng rfl Z.u1y (ad (bp (dq (own:=["row"]) (J3:=[1]) (cn:=["classes"]) (by walk_at"cp") rfl (gi (aM 0)) (by walk_at"pg") (dZ 0) (by decide) (λ_ _ _ _=>da) (λ_ _ _ _=>(bF (BD Z).mono hr (ad (a6 0) (ad (a6 1) am)))))) am))))))
def OZ:Def P w K mg base "is_sale" 4 ["seats","fares","turns"] sE false:=by
 have sc:FnScope ["seats","fares","turns"] ["seats","fares","turns"] (ao At):=by walk_at"sc"
 refine Def.sc (mkA Z.u06 (by walk_at"bd") λ_ _ Fn=>bY [] [] rfl rfl rfl Fn sc (λ_ _ _ _ _ _ _ hn hr=>?_));exact(bD (c9 (O':=[]) (eG (bF (gF Z).mono hr (ad (a6 0) (ad ae (ad (eD Z.u2m.choose_spec) am)))) (eG (bF (BB Z).mono hr (ad (a6 1) am)) (gf (bF (OY Z).mono hr (ad (a6 2) (ad (cS Z.u23 (ad (a6 1) am)) am))))))))
def tP:Def P w K mg base "scales_of" 2 ["turns","last"] lJ true:=by
 have sc:FnScope ["turns","last","scales","row"] ["turns","last"] (ao Au):=by walk_at"sc"
 refine mkA Z.u07 (by walk_at"bd") λ_ _ Fn=>bY [] [] rfl rfl rfl Fn sc (λ_ _ _ _ _ _ _ hn hr=>?_)
 exact(cq (iB 2 sc.nd (cY (ad (a6 1) am)) (by rw[hn];decide)) (cq (F8 3 [2] sc.nd rfl Z.u28 (a6 0) (bD (FM 2 (eX (bn (aM 2) (ik ae) (λ_ _=>rfl)) (bF (BC Z).mono hr (ad (a6 3) am)))))) (bD (mM (O':=[]) (Ff Z.u24 Z.u28 (aM 2))))))
def Pa:Def P w K mg base "weighed" 1 ["row","classes","kept"] sF false:=by
 have sc:FnScope ["row","classes","kept"] ["row","classes","kept"] (ao Aw):=by walk_at"sc"
 refine Def.sc (mkA Z.u08 (by walk_at"bd") λ_ _ Fn=>bY [] [] rfl rfl rfl Fn sc (λ_ _ _ _ _ _ _ hn hr=>?_));exact(bD (c9 (O':=[]) (ql rfl Z.u2a (ad (bp (dq (own:=["weight","worth"]) (J3:=[]) (cn:=[]) (by walk_at"cp") rfl (wq Z.u2c (aM 0) (dE (bp (js (aM 1) (dE (bp (cY (ad (a6 2) am)))))))) (λ_ _ _ _=>j9 rfl (Tgs.ok (is:=[0,1]) (show(["weight","worth"]:j_).Nodup from by decide +kernel) (.cons (i:=0) rfl (Or.inl rfl) (.inr rfl) (.cons (i:=1) rfl (Or.inl rfl) (.inr rfl) Tgs.nil rfl) rfl))) (mU [0,1]) (by decide) (λ_ _ _ _=>da) (λ_ _ _ _=>(eX (a6 0) (a6 1))))) am))))
def BE:Def P w K mg base "sold_worth" 1 ["fare","scale","behind","s"] om false:=by
 have sc:FnScope ["fare","scale","behind","s"] ["fare","scale","behind","s"] (ao Ax):=by walk_at"sc"
 refine Def.sc (mkA Z.u09 (by walk_at"bd") λ_ _ Fn=>bY [] [] rfl rfl rfl Fn sc (λ_ _ _ _ _ _ _ hn hr=>?_));exact(bD (c9 (O':=[]) (cQ (eX (a6 0) (a6 1)) (bn (aM 2) (ge (a6 3) ae) (λ_ _=>rfl)))))
def Pb:Def P w K mg base "class_worth" 2 ["fare","scale","behind","s"] sG false:=by
 have sc:FnScope ["fare","scale","behind","s"] ["fare","scale","behind","s"] (ao Ay):=by walk_at"sc"
 refine Def.sc (mkA Z.u0a (by walk_at"bd") λ_ _ Fn=>bY [] [] rfl rfl rfl Fn sc (λ_ _ _ _ _ _ _ hn hr=>?_));exact(cq (vM (O':=[]) (bM hr (a6 3) ae) (bD (c9 (O':=[]) (bn (aM 2) (a6 3) (λ_ _=>rfl)))) vL) (bD (c9 (O':=[]) (qm rfl Z.u25 (ad (bn (aM 2) (a6 3) (λ_ _=>rfl)) (ad (bF (BE Z).mono hr (ad (a6 0) (ad (a6 1) (ad (a6 2) (ad (a6 3) am))))) am))))))
def Pc:Def P w K mg base "stand_worth" 3 ["fares","row","scale","behind","s"] sH false:=by
 have sc:FnScope ["fares","row","scale","behind","s"] ["fares","row","scale","behind","s"] (ao Az):=by walk_at"sc"
 refine Def.sc (mkA Z.u0b (by walk_at"bd") λ_ _ Fn=>bY [] [] rfl rfl rfl Fn sc (λ_ _ _ _ _ _ _ hn hr=>?_));exact(bD (c9 (O':=[]) (bF (Pa Z).mono hr (ad (a6 1) (ad (bp (dq (own:=["fare"]) (J3:=[2,3,4]) (cn:=["scale","behind","s"]) (by walk_at"cp") rfl (gi (aM 0)) (by walk_at"pg") (dZ 0) (by decide) (λ_ _ _ _=>da) (λ_ _ _ _=>(bF (Pb Z).mono hr (ad (a6 0) (ad (a6 1) (ad (a6 2) (ad (a6 3) am)))))))) (ad (bn (aM 3) (a6 4) (λ_ _=>rfl)) am))))))
def Pd:Def P w K mg base "row_worths" 4 ["fares","row","scale","behind"] sI true:=by
 have sc:FnScope ["fares","row","scale","behind"] ["fares","row","scale","behind"] (ao AB):=by walk_at"sc"
 refine mkA Z.u0c (by walk_at"bd") λ_ _ Fn=>bY [] [] rfl rfl rfl Fn sc (λ_ _ _ _ _ _ _ hn hr=>?_)
 exact(bD (mM (O':=[]) (dq (own:=["s"]) (J3:=[0,1,2,3]) (cn:=["fares","row","scale","behind"]) (by walk_at"cp") rfl (vU Z.u27 (ad (cS Z.u23 (ad (a6 3) am)) am)) (by walk_at"pg") (dZ 0) (by decide) (λ_ _ _ _=>da) (λ_ _ _ _=>(bF (Pc Z).mono hr (ad (a6 1) (ad (a6 2) (ad (a6 3) (ad (a6 4) (ad (a6 0) am))))))))))
def BF:DefX P w K mg base "worths_of" 5 ["fares","turns","last","ends"] on:=by
 have sc:FnScope ["fares","turns","last","ends","scales","table","t"] ["fares","turns","last","ends"] (ao AC):=by walk_at"sc"
 refine mkA Z.u0d (by walk_at"bd") λ_ _ Fn=>FP [] rfl rfl rfl Fn sc (λ_ _ _ _ _ _ _ hn hr=>?_)
 exact(FI (OL:=[]) (fr:=true) (iB 4 sc.nd (gQ (tP Z).mono hr (ad (a6 1) (ad (a6 2) am))) (by rw[hn];decide)) FH (FJ (O':=[]) 5 sc.nd (kQ Z.u24 (aM 3)) (by rw[hn];decide) (FC (FF 6 sc.nd rfl Z.u27 (ad (ge (cS Z.u23 (ad (a6 1) am)) ae) (ad (ik ae) (ad (ik ae) am))) (wB (FN (gQ (Pd Z).mono hr (ad (a6 0) (ad (bn (aM 1) (a6 6) (λ_ _=>rfl)) (ad (bn (aM 4) (cQ (a6 6) ae) (λ_ _=>rfl)) (ad (bn (aM 5) (ik ae) (λ_ _=>rfl)) am)))))))) (wB (FG rfl Z.u24 Z.u28))) (Fx FK)))
def Pe:Def P w K mg base "is_taken" 2 ["fare","scale","behind","s"] sJ false:=by
 have sc:FnScope ["fare","scale","behind","s"] ["fare","scale","behind","s"] (ao AD):=by walk_at"sc"
 refine Def.sc (mkA Z.u0e (by walk_at"bd") λ_ _ Fn=>bY [] [] rfl rfl rfl Fn sc (λ_ _ _ _ _ _ _ hn hr=>?_));exact(bD (c9 (O':=[]) (eG (vm (a6 3) ae) (gf (Ec (bF (BE Z).mono hr (ad (a6 0) (ad (a6 1) (ad (a6 2) (ad (a6 3) am))))) (bn (aM 2) (a6 3) (λ_ _=>rfl)))))))
def Pf:Def P w K mg base "least_fare" 1 ["scale","behind","s"] sK false:=by
 have sc:FnScope ["scale","behind","s"] ["scale","behind","s"] (ao AE):=by walk_at"sc"
 refine Def.sc (mkA Z.u0f (by walk_at"bd") λ_ _ Fn=>bY [] [] rfl rfl rfl Fn sc (λ_ _ _ _ _ _ _ hn hr=>?_));exact(bD (c9 (O':=[]) (ik (mE (ge (bn (aM 1) (ge (a6 2) ae) (λ_ _=>rfl)) (bn (aM 1) (a6 2) (λ_ _=>rfl))) (a6 0)))))
def BG:Def P w K mg base "is_rule" 2 ["rule"] oo false:=by
 have sc:FnScope ["rule","room","came","of","due","chances_hold"] ["rule"] (ao AG):=by walk_at"sc"
 refine Def.sc (mkA Z.u0g (by walk_at"bd") λ_ _ Fn=>bY [] [] rfl rfl rfl Fn sc (λ_ _ _ _ _ _ _ hn hr=>?_));exact(cq (fj 1 sc.nd (bn (aM 0) ae (λ_ _=>rfl))) (cq (fj 2 sc.nd (bn (aM 0) ae (λ_ _=>rfl))) (cq (fj 3 sc.nd (bn (aM 0) ae (λ_ _=>rfl))) (cq (fj 4 sc.nd (bn (aM 0) ae (λ_ _=>rfl))) (cq (fj 5 sc.nd (eG (bF (gF Z).mono hr (ad (a6 3) (ad ae (ad (eD Z.u2k.choose_spec) am)))) (gf (bF (gF Z).mono hr (ad (a6 2) (ad ae (ad (a6 3) am))))))) (bD (c9 (O':=[]) (eG (bF (gF Z).mono hr (ad (a6 1) (ad ae (ad (eD Z.u2l.choose_spec) am)))) (eG (a6 5) (gf (bF (gF Z).mono hr (ad (a6 4) (ad ae (ad (eD Z.u2f.choose_spec) am))))))))))))))
def Pg:Def P w K mg base "with_one_more" 1 ["shows","came","stayed"] sL true:=by
 have sc:FnScope ["shows","came","stayed","without","along"] ["shows","came","stayed"] (ao AH):=by walk_at"sc"
 refine mkA Z.u0h (by walk_at"bd") λ_ _ Fn=>bY [] [] rfl rfl rfl Fn sc (λ_ _ _ _ _ _ _ hn hr=>?_)
 exact(cq (iB 3 sc.nd (js (dE (bp (dq (own:=["weight"]) (J3:=[2]) (cn:=["stayed"]) (by walk_at"cp") rfl (gi (aM 0)) (by walk_at"pg") (dZ 0) (by decide) (λ_ _ _ _=>da) (λ_ _ _ _=>(eX (a6 0) (a6 1)))))) (dE (bp (cY (ad ae am))))) (by rw[hn];decide)) (cq (iB 4 sc.nd (js (dE (bp (cY (ad ae am)))) (dE (bp (dq (own:=["weight"]) (J3:=[1]) (cn:=["came"]) (by walk_at"cp") rfl (gi (aM 0)) (by walk_at"pg") (dZ 0) (by decide) (λ_ _ _ _=>da) (λ_ _ _ _=>(eX (a6 0) (a6 1))))))) (by rw[hn];decide)) (bD (mM (O':=[]) (dq (own:=["one","other"]) (J3:=[]) (cn:=[]) (by walk_at"cp") rfl (wq Z.u2c (aM 3) (aM 4)) (λ_ _ _ _=>j9 rfl (Tgs.ok (is:=[0,1]) (show(["one","other"]:j_).Nodup from by decide +kernel) (.cons (i:=0) rfl (Or.inl rfl) (.inr rfl) (.cons (i:=1) rfl (Or.inl rfl) (.inr rfl) Tgs.nil rfl) rfl))) (mU [0,1]) (by decide) (λ_ _ _ _=>da) (λ_ _ _ _=>(cQ (a6 0) (a6 1))))))))
def Ph:Def P w K mg base "shows_of" 2 ["sold","came","of"] sM true:=by
 have sc:FnScope ["sold","came","of","shows","seat"] ["sold","came","of"] (ao AI):=by walk_at"sc"
 refine mkA Z.u0i (by walk_at"bd") λ_ _ Fn=>bY [] [] rfl rfl rfl Fn sc (λ_ _ _ _ _ _ _ hn hr=>?_)
 exact(cq (iB 3 sc.nd (cY (ad ae am)) (by rw[hn];decide)) (cq (vS 4 [3] sc.nd rfl Z.u27 (ad (a6 0) am) (bD (iB 3 sc.nd (gQ (Pg Z).mono hr (ad (a6 3) (ad (a6 1) (ad (ge (a6 2) (a6 1)) am)))) (by rw[hn];decide)))) (bD (Ej (O':=[]) 3))))
def Pi:Def P w K mg base "beyond_room" 3 ["sold","rule"] sO false:=by
 have sc:FnScope ["sold","rule","room","shows"] ["sold","rule"] (ao AJ):=by walk_at"sc"
 refine Def.sc (mkA Z.u0j (by walk_at"bd") λ_ _ Fn=>bY [] [] rfl rfl rfl Fn sc (λ_ _ _ _ _ _ _ hn hr=>?_));exact(cq (fj 2 sc.nd (bn (aM 1) ae (λ_ _=>rfl))) (cq (iB 3 sc.nd (gQ (Ph Z).mono hr (ad (a6 0) (ad (bn (aM 1) ae (λ_ _=>rfl)) (ad (bn (aM 1) ae (λ_ _=>rfl)) am)))) (by rw[hn];decide)) (bD (c9 (O':=[]) (ql rfl Z.u2a (ad (bp (dq (own:=["many","weight"]) (J3:=[2]) (cn:=["room"]) (by walk_at"cp") rfl (wp Z.u20 (aM 3)) (λ_ _ _ _=>j9 rfl (Tgs.ok (is:=[0,1]) (show(["many","weight","room"]:j_).Nodup from by decide +kernel) (.cons (i:=0) rfl (Or.inl rfl) (.inr rfl) (.cons (i:=1) rfl (Or.inl rfl) (.inr rfl) Tgs.nil rfl) rfl))) (mU [0,1]) (by decide) (λ_ _ _ _=>da) (λ_ _ _ _=>(eX (a6 1) (qm rfl Z.u25 (ad (ge (a6 0) (a6 2)) (ad ae am))))))) am))))))
def Pj:Def P w K mg base "end_of" 4 ["sold","left","rule"] sP false:=by
 have sc:FnScope ["sold","left","rule","due"] ["sold","left","rule"] (ao AK):=by walk_at"sc"
 refine Def.sc (mkA Z.u0k (by walk_at"bd") λ_ _ Fn=>bY [] [] rfl rfl rfl Fn sc (λ_ _ _ _ _ _ _ hn hr=>?_));exact(cq (fj 3 sc.nd (bn (aM 2) ae (λ_ _=>rfl))) (bD (c9 (O':=[]) (eX (eX (ik (a6 3)) (bF (Pi Z).mono hr (ad (a6 0) (ad (a6 2) am)))) (bF (BA Z).mono hr (ad (bn (aM 2) ae (λ_ _=>rfl)) (ad (a6 1) am)))))))
def BH:Def P w K mg base "ends_of" 5 ["seats","rule"] oq true:=by
 have sc:FnScope ["seats","rule"] ["seats","rule"] (ao AL):=by walk_at"sc"
 refine mkA Z.u0l (by walk_at"bd") λ_ _ Fn=>bY [] [] rfl rfl rfl Fn sc (λ_ _ _ _ _ _ _ hn hr=>?_)
 exact(bD (mM (O':=[]) (dq (own:=["left"]) (J3:=[0,1]) (cn:=["seats","rule"]) (by walk_at"cp") rfl (vU Z.u27 (ad (cQ (a6 0) ae) am)) (by walk_at"pg") (dZ 0) (by decide) (λ_ _ _ _=>da) (λ_ _ _ _=>(bF (Pj Z).mono hr (ad (ge (a6 1) (a6 0)) (ad (a6 0) (ad (a6 2) am))))))))
def BI:Def P w K mg base "last_scale" 2 ["seats","rule"] ot false:=by
 have sc:FnScope ["seats","rule"] ["seats","rule"] (ao AM):=by walk_at"sc"
 refine Def.sc (mkA Z.u0m (by walk_at"bd") λ_ _ Fn=>bY [] [] rfl rfl rfl Fn sc (λ_ _ _ _ _ _ _ hn hr=>?_));exact(bD (c9 (O':=[]) (bF (BA Z).mono hr (ad (bn (aM 1) ae (λ_ _=>rfl)) (ad (a6 0) am)))))
def BJ:Def P w K mg base "is_made_of" 1 ["word","signs","most"] iR false:=by
 have sc:FnScope ["word","signs","most"] ["word","signs","most"] (ao AN):=by walk_at"sc"
 refine Def.sc (mkA Z.u0n (by walk_at"bd") λ_ _ Fn=>bY [] [] rfl rfl rfl Fn sc (λ_ _ _ _ _ _ _ hn hr=>?_));exact(bD (c9 (O':=[]) (eG (qf ae (se Z.u23 (ad (a6 0) am)) (a6 2)) (gf (ng rfl Z.u1y (ad (bp (dq (own:=["sign"]) (J3:=[1]) (cn:=["signs"]) (by walk_at"cp") rfl (L5 (a6 0)) (by walk_at"pg") (dZ 0) (by decide) (λ_ _ _ _=>da) (λ_ _ _ _=>(KG (a6 0) (a6 1))))) am))))))
def BK:Def P w K mg base "yes_or_no" 1 ["taken"] iS false:=by
 have sc:FnScope ["taken"] ["taken"] (ao AO):=by walk_at"sc"
 refine Def.sc (mkA Z.u0o (by walk_at"bd") λ_ _ Fn=>bY [] [] rfl rfl rfl Fn sc (λ_ _ _ _ _ _ _ hn hr=>?_));exact(bD (c9 (O':=[]) (qi (gN (a6 0)) aD aD)))
def Pk:Def P w K mg base "dash_or_number" 1 ["number"] sQ false:=by
 have sc:FnScope ["number"] ["number"] (ao AQ):=by walk_at"sc"
 refine Def.sc (mkA Z.u0p (by walk_at"bd") λ_ _ Fn=>bY [] [] rfl rfl rfl Fn sc (λ_ _ _ _ _ _ _ hn hr=>?_));exact(bD (c9 (O':=[]) (qi (ni (a6 0)) aD (fR Z.u29 (ad (a6 0) am)))))
def BL:Def P w K mg base "_law_nth" 1 ["script","k"] ou false:=by
 have sc:FnScope ["script","k","cell"] ["script","k"] (ao AR):=by walk_at"sc"
 refine Def.sc (mkA Z.u0q (by walk_at"bd") λ_ _ Fn=>bY [] [] rfl rfl rfl Fn sc (λ_ _ _ _ _ _ _ hn hr=>?_));exact(cq (Em 2 [] sc.nd rfl (bp (vA (aM 0) (f8 (a6 1)) (f8 (cQ (a6 1) ae)))) (bD (c9 (O':=[]) (a6 2)))) (bD (c9 (O':=[]) ae)))
def Pl:Def P w K mg base "_law_worth" 6 ["sale"] sR false:=by
 have sc:FnScope ["sale","seats","fares","turns","rule","last","first"] ["sale"] (ao AS):=by walk_at"sc"
 refine Def.sc (mkA Z.u0r (by walk_at"bd") λ_ _ Fn=>bY [] [] rfl rfl rfl Fn sc (λ_ _ _ _ _ _ _ hn hr=>?_));exact(cq (El (O':=[]) [1,2,3,4] rfl sc.nd (a6 0) (.cons (i:=1) rfl (by first|exact Or.inl rfl|exact Or.inr rfl) (.inl rfl) (.cons (i:=2) rfl (by first|exact Or.inl rfl|exact Or.inr rfl) (.inl rfl) (.cons (i:=3) rfl (by first|exact Or.inl rfl|exact Or.inr rfl) (.inl rfl) (.cons (i:=4) rfl (by first|exact Or.inl rfl|exact Or.inr rfl) (.inl rfl) Tgs.nil rfl) rfl) rfl) rfl) (by decide) (by decide)) (cq (fj 5 sc.nd (bF (BI Z).mono hr (ad (a6 1) (ad (a6 4) am)))) (cq (fj 6 sc.nd (bn (dE (bn (dE (bp (gQ (DefX.d (BF Z).mono) hr (ad (bp (kQ Z.u24 (aM 2))) (ad (bp (dq (own:=["row"]) (J3:=[]) (cn:=[]) (by walk_at"cp") rfl (gi (aM 3)) (by walk_at"pg") (dZ 0) (by decide) (λ_ _ _ _=>da) (λ_ _ _ _=>(bp (kQ Z.u24 (aM 0)))))) (ad (a6 5) (ad (bp (gQ (BH Z).mono hr (ad (a6 1) (ad (a6 4) am)))) am))))))) ae (λ_ _=>rfl))) (a6 1) (λ_ _=>rfl))) (bD (c9 (O':=[]) (dA (dA (fR Z.u29 (ad (a6 6) am)) aD) (fR Z.u29 (ad (bn (dE (bp (gQ (tP Z).mono hr (ad (a6 3) (ad (a6 5) am))))) ae (λ_ _=>rfl)) am))))))))
def py:MetN P w K mg base a_ "coins" 1 ["self"] (fU b_ a_):=by
 have sc:FnScope ["self"] ["self"] (ao AT):=by walk_at"sc"
 refine mkM Z.u0s (by walk_at"bd") λ_ _ Fn=>cj rfl rfl rfl Fn sc (λ_ _ _ _ _ _ hr=>?_)
 exact(aU (b6 (xi (jB (aV (i:=8) (ns:=c_) Z.u2q Z.u35 (a7 (a6 0)))) (aV (i:=7) (ns:=c_) Z.u2q Z.u33 (a7 (a6 0))) (lz (aV (i:=7) (ns:=c_) Z.u2q Z.u33 (a7 (a6 0))) (aV (i:=8) (ns:=c_) Z.u2q Z.u35 (a7 (a6 0)))))))
def BM:MetN P w K mg base a_ "is_over" 1 ["self"] (ow b_ a_):=by
 have sc:FnScope ["self"] ["self"] (ao AU):=by walk_at"sc"
 refine mkM Z.u0t (by walk_at"bd") λ_ _ Fn=>cj rfl rfl rfl Fn sc (λ_ _ _ _ _ _ hr=>?_)
 exact(aU (b6 (hV hr (aV (i:=5) (ns:=c_) Z.u2q Z.u31 (a7 (a6 0))) (lz (iK Z.u23 (a9 (aV (i:=3) (ns:=c_) Z.u2q Z.u2z (a7 (a6 0))) ak)) (a7 ae)))))
def BN:MetE P w K mg base a_ "came" 2 ["self","number"] (fV b_ a_):=by
 have sc:FnScope ["self","number"] ["self","number"] (ao AV):=by walk_at"sc"
 refine mkM Z.u0u (by walk_at"bd") λ_ _ Fn=>cV rfl rfl rfl Fn sc (λ_ _ _ _ _ _ _ _ hr ho=>?_)
 exact(aP (bK (jC (iJ (cU (ns:=c_) Z.u2q (BM Z).mono hr (a7 (a6 0))))) (aW (cL Z.u37 ho)) bU) (aP (bK (Hx (aV (i:=8) (ns:=c_) Z.u2q Z.u35 (a7 (a6 0)))) (aW (cL Z.u37 ho)) bU) (aP (bK (jC (iJ (nL (gF Z).mono hr (a9 (a7 (a6 1)) (a9 (a7 ae) (a9 (aV (i:=6) (ns:=c_) Z.u2q Z.u32 (a7 (a6 0))) ak)))))) (aW (cL Z.u37 ho)) bU) (aP (bh (jG (i:=8) (ns:=c_) Z.u2q Z.u35 (a7 (a6 0)) (xf (dt (aV (i:=2) (ns:=c_) Z.u2q Z.u2y (a7 (a6 0))) (a7 ae) (λ_ _=>rfl)) (HV rfl Z.u25 (a9 (lz (a7 (a6 1)) (dt (aV (i:=2) (ns:=c_) Z.u2q Z.u2y (a7 (a6 0))) (a7 ae) (λ_ _=>rfl))) (a9 (a7 ae) ak)))))) (aW (bh (b6 (cU (ns:=c_) Z.u2q (py Z).mono hr (a7 (a6 0))))))))))
def ki:MetN P w K mg base a_ "left" 1 ["self"] (gu b_ a_):=by
 have sc:FnScope ["self"] ["self"] (ao AW):=by walk_at"sc"
 refine mkM Z.u0v (by walk_at"bd") λ_ _ Fn=>cj rfl rfl rfl Fn sc (λ_ _ _ _ _ _ hr=>?_)
 exact(aU (b6 (lz (aV (i:=0) (ns:=c_) Z.u2q Z.u2w (a7 (a6 0))) (aV (i:=6) (ns:=c_) Z.u2q Z.u32 (a7 (a6 0))))))
def pz:MetN P w K mg base a_ "turn" 1 ["self"] (gv b_ a_):=by
 have sc:FnScope ["self"] ["self"] (ao AX):=by walk_at"sc"
 refine mkM Z.u0w (by walk_at"bd") λ_ _ Fn=>cj rfl rfl rfl Fn sc (λ_ _ _ _ _ _ hr=>?_)
 exact(aU (b6 (aV (i:=5) (ns:=c_) Z.u2q Z.u31 (a7 (a6 0)))))
def Pm:MetE P w K mg base a_ "fare_of" 2 ["self","asker"] (ox b_ a_):=by
 have sc:FnScope ["self","asker"] ["self","asker"] (ao AY):=by walk_at"sc"
 refine mkM Z.u0x (by walk_at"bd") λ_ _ Fn=>cV rfl rfl rfl Fn sc (λ_ _ _ _ _ _ _ _ hr ho=>?_)
 exact(aP (bh (bT (bw (ni (a6 1))) (aU (b6 (a7 e8))) bS)) (aP (bK (jC (iJ (nL (gF Z).mono hr (a9 (a7 (a6 1)) (a9 (a7 ae) (a9 (lz (iK Z.u23 (a9 (aV (i:=1) (ns:=c_) Z.u2q Z.u2x (a7 (a6 0))) ak)) (a7 ae)) ak)))))) (aW (cL Z.u37 ho)) bU) (aW (bh (b6 (dt (aV (i:=1) (ns:=c_) Z.u2q Z.u2x (a7 (a6 0))) (a7 (a6 1)) (λ_ _=>rfl)))))))
def Pn:MetN P w K mg base a_ "takes" 3 ["self","fare"] (oy b_ a_):=by
 have sc:FnScope ["self","fare","behind"] ["self","fare"] (ao AZ):=by walk_at"sc"
 refine mkM Z.u0y (by walk_at"bd") λ_ _ Fn=>cj rfl rfl rfl Fn sc (λ_ _ _ _ _ _ hr=>?_)
 exact(az (aO 2 sc.nd (fL (aV (i:=5) (ns:=c_) Z.u2q Z.u31 (a7 (a6 0))) (a7 ae))) (aU (b6 (xk (a7 (EO (a6 1))) (xj (nL (Pe Z).mono hr (a9 (a7 (a6 1)) (a9 (dt (aV (i:=3) (ns:=c_) Z.u2q Z.u2z (a7 (a6 0))) (a7 (a6 2)) (λ_ _=>rfl)) (a9 (dt (aV (i:=4) (ns:=c_) Z.u2q Z.u30 (a7 (a6 0))) (a7 (a6 2)) (λ_ _=>rfl)) (a9 (cU (ns:=c_) Z.u2q (ki Z).mono hr (a7 (a6 0))) ak))))))))))
def Po:MetN P w K mg base a_ "least" 2 ["self"] (sS b_ a_):=by
 have sc:FnScope ["self","behind"] ["self"] (ao B1):=by walk_at"sc"
 refine mkM Z.u0z (by walk_at"bd") λ_ _ Fn=>cj rfl rfl rfl Fn sc (λ_ _ _ _ _ _ hr=>?_)
 exact(az (bT (gr hr (cU (ns:=c_) Z.u2q (ki Z).mono hr (a7 (a6 0))) (a7 ae)) (aU (b6 (a7 e8))) bS) (az (aO 1 sc.nd (fL (aV (i:=5) (ns:=c_) Z.u2q Z.u31 (a7 (a6 0))) (a7 ae))) (aU (b6 (nL (Pf Z).mono hr (a9 (dt (aV (i:=3) (ns:=c_) Z.u2q Z.u2z (a7 (a6 0))) (a7 (a6 1)) (λ_ _=>rfl)) (a9 (dt (aV (i:=4) (ns:=c_) Z.u2q Z.u30 (a7 (a6 0))) (a7 (a6 1)) (λ_ _=>rfl)) (a9 (cU (ns:=c_) Z.u2q (ki Z).mono hr (a7 (a6 0))) ak))))))))
def tQ:MetE P w K mg base a_ "asked" 4 ["self","asker"] (fu b_ a_):=by
 have sc:FnScope ["self","asker","fare","taken"] ["self","asker"] (ao B2):=by walk_at"sc"
 refine mkM Z.u10 (by walk_at"bd") λ_ _ Fn=>cV rfl rfl rfl Fn sc (λ_ _ _ _ _ _ _ _ hr ho=>?_)
 exact(aP (bK (iJ (cU (ns:=c_) Z.u2q (BM Z).mono hr (a7 (a6 0)))) (aW (cL Z.u37 ho)) bU) (aP (xK 2 ho sc.nd (fo (ns:=c_) Z.u2q (Pm Z).mono hr (a7 (a6 0)) (a9 (a7 (a6 1)) ak))) (aP (bh (aO 3 sc.nd (xS (ns:=c_) Z.u2q (Pn Z).mono hr (a7 (a6 0)) (a9 (a7 (a6 2)) ak)))) (aP (bh (jG (i:=9) (ns:=c_) Z.u2q Z.u36 (a7 (a6 0)) (nI (a9 (aV (i:=5) (ns:=c_) Z.u2q Z.u31 (a7 (a6 0))) (a9 (cU (ns:=c_) Z.u2q (ki Z).mono hr (a7 (a6 0))) (a9 (cU (ns:=c_) Z.u2q (Po Z).mono hr (a7 (a6 0))) (a9 (a7 (a6 2)) ak))))))) (aP (bh (jG (i:=5) (ns:=c_) Z.u2q Z.u31 (a7 (a6 0)) (fL (aV (i:=5) (ns:=c_) Z.u2q Z.u31 (a7 (a6 0))) (a7 ae)))) (aP (bh (bT (bw (gN (a6 3))) (az (jG (i:=6) (ns:=c_) Z.u2q Z.u32 (a7 (a6 0)) (fL (aV (i:=6) (ns:=c_) Z.u2q Z.u32 (a7 (a6 0))) (a7 ae))) (aU (jG (i:=7) (ns:=c_) Z.u2q Z.u33 (a7 (a6 0)) (fL (aV (i:=7) (ns:=c_) Z.u2q Z.u33 (a7 (a6 0))) (a7 (a6 2)))))) bS)) (aW (bh (b6 (a7 (a6 3)))))))))))
def BO:MetE P w K mg base a_ "paper" 1 ["self"] (jQ b_ a_):=by
 have sc:FnScope ["self"] ["self"] (ao B3):=by walk_at"sc"
 refine mkM Z.u11 (by walk_at"bd") λ_ _ Fn=>cV rfl rfl rfl Fn sc (λ_ _ _ _ _ _ _ _ hr ho=>?_)
 exact(aP (bK (jB (aV (i:=9) (ns:=c_) Z.u2q Z.u36 (a7 (a6 0)))) (aW (cL Z.u37 ho)) bU) (aW (bh (b6 (aV (i:=9) (ns:=c_) Z.u2q Z.u36 (a7 (a6 0)))))))
def Pp:DefE P w K mg base "_law_call" 5 ["office","word","thing"] (fW b_ a_):=by
 have sc:FnScope ["office","word","thing"] ["office","word","thing"] (ao B4):=by walk_at"sc"
 refine mkA Z.u12 (by walk_at"bd") λ_ _ Fn=>cV rfl rfl rfl Fn sc (λ_ _ _ _ _ _ _ _ hr ho=>?_)
 exact(aP (bK (bw (fE (qh (bM hr (a6 1) aD) (qg (bM hr (a6 1) aD))))) (aW (fN ho (Lo (a7 (bp (cY (ad aD (ad aD am))))) (Lm Z.u21 (fo (ns:=c_) Z.u2q (tQ Z).mono hr (a7 (a6 0)) (a9 (a7 (a6 2)) ak))) (λ_ _=>rfl)))) bU) (aP (bK (bw (bM hr (a6 1) aD)) (aW (fN ho (yE Z.u29 (fo (ns:=c_) Z.u2q (BN Z).mono hr (a7 (a6 0)) (a9 (a7 (a6 2)) ak))))) bU) (aP (bh (bT (bw (bM hr (a6 1) aD)) (aU (b6 (iQ Z.u29 (a9 (cU (ns:=c_) Z.u2q (ki Z).mono hr (a7 (a6 0))) ak)))) bS)) (aP (bh (bT (bw (bM hr (a6 1) aD)) (aU (b6 (iQ Z.u29 (a9 (cU (ns:=c_) Z.u2q (pz Z).mono hr (a7 (a6 0))) ak)))) bS)) (aP (bh (bT (bw (bM hr (a6 1) aD)) (aU (b6 (iQ Z.u29 (a9 (cU (ns:=c_) Z.u2q (py Z).mono hr (a7 (a6 0))) ak)))) bS)) (aW (fN ho (yI (yH (y:="part") (J3:=[]) (cn:=[]) (by walk_at"cp") rfl (xU (ns:=c_) Z.u2q (BO Z).mono hr (a7 (a6 0))) (by walk_at"pg") (λ_ _ _ _=>(a7 (qi (EQ (a6 0)) (fR Z.u29 (ad (a6 0) am)) aD))))))))))))
def BP:DefN P w K mg base "_law_kinds" 1 ["e"] (oz b_ a_):=by
 have sc:FnScope ["e","kinds"] ["e"] (ao B5):=by walk_at"sc"
 refine mkA Z.u13 (by walk_at"bd") λ_ _ Fn=>cj rfl rfl rfl Fn sc (λ_ _ _ _ _ _ hr=>?_)
 exact(az (aO 1 sc.nd (jD (a9 (fO Z.u37 Z.u22 (a7 (a6 0))) (a9 (fO Z.u37 Z.u22 (a7 (a6 0))) (a9 (fO Z.u37 Z.u22 (a7 (a6 0))) (a9 (fO Z.u37 Z.u22 (a7 (a6 0))) ak)))))) (az (aO 1 sc.nd (xQ (a7 (a6 1)) (jD (a9 (fO Z.u37 Z.u22 (a7 (a6 0))) (a9 (fO Z.u37 Z.u22 (a7 (a6 0))) (a9 (fO Z.u37 Z.u22 (a7 (a6 0))) (a9 (fO Z.u37 Z.u22 (a7 (a6 0))) ak))))))) (aU (b6 (xQ (a7 (a6 1)) (jD (a9 (fO Z.u37 Z.u22 (a7 (a6 0))) (a9 (fO Z.u37 Z.u22 (a7 (a6 0))) (a9 (HA (IL Z.u37 Z.u22 Z.u1x (a7 (a6 0)))) ak)))))))))
def tR:DefN P w K mg base "_law_due" 6 ["office","word","thing"] (i0 b_ a_):=by
 have sc:FnScope ["office","word","thing","caught","told","e"] ["office","word","thing"] (ao B6):=by walk_at"sc"
 refine mkA Z.u14 (by walk_at"bd") λ_ _ Fn=>cj rfl rfl rfl Fn sc (λ_ _ _ _ _ _ hr=>?_)
 exact(az (aO 3 sc.nd (a7 e8)) (az (aO 4 sc.nd (a7 e8)) (az (xN 4 3 5 Z.u37 sc.nd (jI (Pp Z).mono hr (a9 (a7 (a6 0)) (a9 (a7 (a6 1)) (a9 (a7 (a6 2)) ak))))) (az (bT (bw (ni (a6 3))) (aU (b6 (a7 (a6 4)))) bS) (aU (b6 (aL (BP Z).mono hr (a9 (a7 (a6 3)) ak))))))))
def bO:DefN P w K mg base "_law_take" 1 ["pool","many"] (bB b_ a_):=by
 have sc:FnScope ["pool","many","rest"] ["pool","many"] (ao B7):=by walk_at"sc"
 refine mkA Z.u15 (by walk_at"bd") λ_ _ Fn=>cj rfl rfl rfl Fn sc (λ_ _ _ _ _ _ hr=>?_)
 exact(az (aO 2 sc.nd (nJ (ns:=["rest","mixed","count"]) (i:=0) hr (a7 (a6 0)) (λ_ _=>rfl))) (az (bT (jC (iJ (nJ (ns:=["rest","mixed","count"]) (i:=1) hr (a7 (a6 0)) (λ_ _=>rfl)))) (az (rJ (ns:=["rest","mixed","count"]) (i:=0) hr (a7 (a6 0)) (a7 (mE (a6 2) (a6 1)))) (aU (b6 (a7 (fC (a6 2) (a6 1)))))) bS) (az (rJ (ns:=["rest","mixed","count"]) (i:=2) hr (a7 (a6 0)) (fL (nJ (ns:=["rest","mixed","count"]) (i:=2) hr (a7 (a6 0)) (λ_ _=>rfl)) (a7 ae))) (az (aO 2 sc.nd (fL (a7 (fC (a6 2) ae)) (xf (a7 ae) (nJ (ns:=["rest","mixed","count"]) (i:=2) hr (a7 (a6 0)) (λ_ _=>rfl))))) (az (aO 2 sc.nd (a7 (fC (eX (a6 2) (cQ (a6 2) ae)) ae))) (az (aO 2 sc.nd (a7 (fC (eX (a6 2) (a6 2)) ae))) (az (rJ (ns:=["rest","mixed","count"]) (i:=0) hr (a7 (a6 0)) (a7 (a6 2))) (aU (b6 (a7 (fC (mE (a6 2) ae) (a6 1))))))))))))
def Pq:DefN P w K mg base "_law_names" 2 ["pool","many"] (sT b_ a_):=by
 have sc:FnScope ["pool","many","letters","some","word","style","off","base","at","names","k","first","amid","odd"] ["pool","many"] (ao B8):=by walk_at"sc"
 refine mkA Z.u16 (by walk_at"bd") λ_ _ Fn=>cj rfl rfl rfl Fn sc (λ_ _ _ _ _ _ hr=>?_)
 exact(az (aO 2 sc.nd (a7 aD)) (az (aO 3 sc.nd (a7 (bp (cY (ad aD (ad aD (ad aD (ad aD (ad aD (ad aD (ad aD (ad aD (ad aD (ad aD (ad aD (ad aD (ad aD am))))))))))))))))) (az (aO 4 sc.nd (nW (rM (y:="k") (J3:=[0,2]) (cn:=["pool","letters"]) (by walk_at"cp") rfl Z.u27 (a9 (a7 ae) ak) (by walk_at"pg") (λ_ _ _ _=>(yi (a7 (a6 2)) (aL (bO Z).mono hr (a9 (a7 (a6 1)) (a9 (a7 ae) ak))) (λ_ _=>rfl)))))) (az (aO 5 sc.nd (aL (bO Z).mono hr (a9 (a7 (a6 0)) (a9 (a7 ae) ak)))) (az (aO 6 sc.nd (aL (bO Z).mono hr (a9 (a7 (a6 0)) (a9 (a7 ae) ak)))) (az (aO 7 sc.nd (Lw (a7 (a6 4)) (aL (bO Z).mono hr (a9 (a7 (a6 0)) (a9 (a7 ae) ak))))) (az (aO 8 sc.nd (aL (bO Z).mono hr (a9 (a7 (a6 0)) (a9 (a7 (cQ (se Z.u23 (ad (a6 7) am)) ae)) ak)))) (az (aO 9 sc.nd (lB (cY am))) (az (xy 10 sc.nd rfl Z.u27 (a9 (a7 (a6 1)) ak) (az (aO 11 sc.nd (a7 (sd (a6 2) (fC (cQ (a6 6) (mE (a6 10) ae)) ae) (λ_ _=>rfl)))) (az (aO 12 sc.nd (a7 (dA (dA (hW (a6 7) gg (f8 (a6 8))) (sd (a6 2) (fC (cQ (a6 6) (a6 10)) ae) (λ_ _=>rfl))) (hW (a6 7) (f8 (a6 8)) gg)))) (aU (lE (a7 (a6 9)) (a7 (bn (dE (bp (cY (ad (dA (a6 11) (hW (a6 4) gg (f8 (fC (a6 10) ae)))) (ad (dA (hW (a6 4) (f8 (ge ae (fC (a6 10) ae))) gg) (a6 11)) (ad (a6 12) (ad (a6 12) am))))))) (a6 5) (λ_ _=>rfl)))))))) (az (aO 13 sc.nd (dt (a7 (a6 3)) (aL (bO Z).mono hr (a9 (a7 (a6 0)) (a9 (a7 ae) ak))) (λ_ _=>rfl))) (az (bT (rD (xh (Lv (a7 (a6 13)) (a7 (a6 9))) (xg (gr hr (aL (bO Z).mono hr (a9 (a7 (a6 0)) (a9 (a7 ae) ak))) (a7 ae))))) (aU (xT (a7 (a6 9)) (aL (bO Z).mono hr (a9 (a7 (a6 0)) (a9 (a7 (a6 1)) ak))) (a7 (a6 13)))) bS) (aU (xo 9)))))))))))))
def Pr:MakN P w K mg base "Desk" b_ 1 ["self"] (sU b_ a_):=by
 have sc:FnScope ["self"] ["self"] (ao B9):=by walk_at"sc"
 refine mkI Z.u17 (by walk_at"bd") λ_ _ Fn=>cj rfl rfl rfl Fn sc (λ_ _ _ _ _ _ hr=>?_)
 exact(az (dL (ns:=d_.take 0) Z.u2p Z.u2r (a7 (a6 0)) Le) (az (dL (ns:=d_.take 1) Z.u2p Z.u2s (a7 (a6 0)) (rF ak)) (az (dL (ns:=d_.take 2) Z.u2p Z.u2t (a7 (a6 0)) (rF ak)) (az (dL (ns:=d_.take 3) Z.u2p Z.u2u (a7 (a6 0)) (a7 e8)) (aU (dL (ns:=d_.take 4) Z.u2p Z.u2v (a7 (a6 0)) (a7 e8)))))))
def BQ:MakE P w K mg base "Office" a_ 6 ["self","seats","fares","turns","rule"] (lK b_ a_):=by
 have sc:FnScope ["self","seats","fares","turns","rule","last"] ["self","seats","fares","turns","rule"] (ao Ba):=by walk_at"sc"
 refine mkI Z.u18 (by walk_at"bd") λ_ _ Fn=>cV rfl rfl rfl Fn sc (λ_ _ _ _ _ _ _ _ hr ho=>?_)
 exact(aP (bK (jC (iJ (HW (OZ Z).mono hr (a9 (a7 (a6 1)) (a9 (a7 (a6 2)) (a9 (a7 (a6 3)) ak)))))) (aW (cL Z.u37 ho)) bU) (aP (bK (bw (jr (gN (bF (BG Z).mono hr (ad (a6 4) am))))) (aW (cL Z.u37 ho)) bU) (aP (bh (aO 5 sc.nd (a7 (bF (BI Z).mono hr (ad (a6 1) (ad (a6 4) am)))))) (aP (bh (dL (ns:=c_.take 0) Z.u2q Z.u2w (a7 (a6 0)) (a7 (a6 1)))) (aP (bh (dL (ns:=c_.take 1) Z.u2q Z.u2x (a7 (a6 0)) (HZ Z.u24 (a7 (a6 2))))) (aP (bh (dL (ns:=c_.take 2) Z.u2q Z.u2y (a7 (a6 0)) (a7 (a6 4)))) (aP (bh (dL (ns:=c_.take 3) Z.u2q Z.u2z (a7 (a6 0)) (HX (tP Z).mono hr (a9 (a7 (a6 3)) (a9 (a7 (a6 5)) ak))))) (aP (bh (dL (ns:=c_.take 4) Z.u2q Z.u30 (a7 (a6 0)) (HY (BF Z).mono hr (a9 (a7 (a6 2)) (a9 (a7 (a6 3)) (a9 (a7 (a6 5)) (a9 (a7 (bp (gQ (BH Z).mono hr (ad (a6 1) (ad (a6 4) am))))) ak))))))) (aP (bh (dL (ns:=c_.take 5) Z.u2q Z.u31 (a7 (a6 0)) (a7 ae))) (aP (bh (dL (ns:=c_.take 6) Z.u2q Z.u32 (a7 (a6 0)) (a7 ae))) (aP (bh (dL (ns:=c_.take 7) Z.u2q Z.u33 (a7 (a6 0)) (a7 ae))) (aP (bh (dL (ns:=c_.take 8) Z.u2q Z.u35 (a7 (a6 0)) (a7 e8))) (aW (bh (dL (ns:=c_.take 9) Z.u2q Z.u36 (a7 (a6 0)) (a7 e8))))))))))))))))
def Ps:DefE P w K mg base "read_words" 1 ["row"] (sV b_ a_):=by
 have sc:FnScope ["row","words"] ["row"] (ao Bb):=by walk_at"sc"
 refine mkA Z.u19 (by walk_at"bd") λ_ _ Fn=>cV rfl rfl rfl Fn sc (λ_ _ _ _ _ _ _ _ hr ho=>?_)
 exact(aP (bh (aO 1 sc.nd (lB (KY (a6 0))))) (aP (bK (La (a7 aD) (a7 (a6 1))) (aW (cL Z.u37 ho)) bU) (aW (bh (b6 (a7 (a6 1)))))))
def Pt:MetN P w K mg base a_ "worth" 1 ["self"] (oA b_ a_):=by
 have sc:FnScope ["self"] ["self"] (ao Bc):=by walk_at"sc"
 refine mkM Z.u1a (by walk_at"bd") λ_ _ Fn=>cj rfl rfl rfl Fn sc (λ_ _ _ _ _ _ hr=>?_)
 exact(aU (b6 (nI (a9 (dt (dt (aV (i:=4) (ns:=c_) Z.u2q Z.u30 (a7 (a6 0))) (a7 ae) (λ_ _=>rfl)) (aV (i:=0) (ns:=c_) Z.u2q Z.u2w (a7 (a6 0))) (λ_ _=>rfl)) (a9 (dt (aV (i:=3) (ns:=c_) Z.u2q Z.u2z (a7 (a6 0))) (a7 ae) (λ_ _=>rfl)) ak)))))
def Pu:MetE P w K mg base b_ "tell" 5 ["self","head"] (e9 b_ a_):=by
 have sc:FnScope ["self","head"] ["self","head"] (ao Be):=by walk_at"sc"
 refine mkM Z.u1b (by walk_at"bd") λ_ _ Fn=>cV rfl rfl rfl Fn sc (λ_ _ _ _ _ _ _ _ hr ho=>?_)
 exact(aP (bK (bw (bM hr (a6 1) aD)) (aW (fN ho (yF (BK Z).mono hr (iP (fo (ns:=c_) Z.u2q (tQ Z).mono hr (aV (i:=4) (ns:=d_) Z.u2p Z.u2v (a7 (a6 0))) (a9 (a7 e8) ak)) jP)))) bU) (aP (bh (bT (bw (bM hr (a6 1) aD)) (aU (b6 (iQ Z.u29 (a9 (cU (ns:=c_) Z.u2q (ki Z).mono hr (aV (i:=4) (ns:=d_) Z.u2p Z.u2v (a7 (a6 0)))) ak)))) bS)) (aP (bh (bT (bw (bM hr (a6 1) aD)) (aU (b6 (iQ Z.u29 (a9 (cU (ns:=c_) Z.u2q (pz Z).mono hr (aV (i:=4) (ns:=d_) Z.u2p Z.u2v (a7 (a6 0)))) ak)))) bS)) (aP (bh (bT (bw (bM hr (a6 1) aD)) (aU (b6 (iQ Z.u29 (a9 (cU (ns:=c_) Z.u2q (py Z).mono hr (aV (i:=4) (ns:=d_) Z.u2p Z.u2v (a7 (a6 0)))) ak)))) bS)) (aP (bK (bw (bM hr (a6 1) aD)) (aW (fN ho (yI (yH (y:="number") (J3:=[]) (cn:=[]) (by walk_at"cp") rfl (xU (ns:=c_) Z.u2q (BO Z).mono hr (aV (i:=4) (ns:=d_) Z.u2p Z.u2v (a7 (a6 0)))) (by walk_at"pg") (λ_ _ _ _=>(a7 (bF (Pk Z).mono hr (ad (a6 0) am)))))))) bU) (aP (bh (bT (bw (bM hr (a6 1) aD)) (aU (b6 (nW (Lp (y:="number") (J3:=[]) (cn:=[]) (by walk_at"cp") rfl (cU (ns:=c_) Z.u2q (Pt Z).mono hr (aV (i:=4) (ns:=d_) Z.u2p Z.u2v (a7 (a6 0)))) (by walk_at"pg") (λ_ _ _ _=>(a7 (fR Z.u29 (ad (a6 0) am)))))))) bS)) (aW (cL Z.u37 ho))))))))
def Pw:MetE P w K mg base b_ "place_of" 1 ["self","name"] (jR b_ a_):=by
 have sc:FnScope ["self","name"] ["self","name"] (ao Bf):=by walk_at"sc"
 refine mkM Z.u1c (by walk_at"bd") λ_ _ Fn=>cV rfl rfl rfl Fn sc (λ_ _ _ _ _ _ _ _ hr ho=>?_)
 exact(aP (bK (Li hr (a7 (a6 1)) (aV (i:=0) (ns:=d_) Z.u2p Z.u2r (a7 (a6 0)))) (aW (sj Z.u37 ho (a6 1))) bU) (aW (bh (b6 (Lj hr (aV (i:=0) (ns:=d_) Z.u2p Z.u2r (a7 (a6 0))) (a7 (a6 1)) (λ_ _=>rfl))))))
def pA:DefE P w K mg base "read_number" 2 ["word"] (iT b_ a_):=by
 have sc:FnScope ["word"] ["word"] (ao Bg):=by walk_at"sc"
 refine mkA Z.u1d (by walk_at"bd") λ_ _ Fn=>cV rfl rfl rfl Fn sc (λ_ _ _ _ _ _ _ _ hr ho=>?_)
 exact(aP (bK (bw (fE (qh (jr (gN (bF (BJ Z).mono hr (ad (a6 0) (ad (yd Z.u2d.choose_spec) (ad (eD Z.u2i.choose_spec) am)))))) (qg (fE (io (bM hr (sd (a6 0) ae (λ_ _=>rfl)) aD) (im (nc hr (a6 0) aD)))))))) (aW (sj Z.u37 ho (a6 0))) bU) (aW (bh (b6 (a7 (KN Z.u21 (ad (a6 0) am)))))))
def Px:MetE P w K mg base b_ "serve" 6 ["self","head","rest"] (jS b_ a_):=by
 have sc:FnScope ["self","head","rest"] ["self","head","rest"] (ao Bh):=by walk_at"sc"
 refine mkM Z.u1e (by walk_at"bd") λ_ _ Fn=>cV rfl rfl rfl Fn sc (λ_ _ _ _ _ _ _ _ hr ho=>?_)
 exact(aP (bK (bw (fE (io (bM hr (a6 1) aD) (im (bM hr (cS Z.u23 (ad (a6 2) am)) ae))))) (aW (fN ho (yF (BK Z).mono hr (iP (o9 (ns:=c_) Z.u2q (tQ Z).mono hr (aV (i:=4) (ns:=d_) Z.u2p Z.u2v (a7 (a6 0))) (iP (fo (ns:=d_) Z.u2p (Pw Z).mono hr (a7 (a6 0)) (a9 (a7 (bn (aM 2) ae (λ_ _=>rfl))) ak)) jP)) jP)))) bU) (aP (bK (bw (fE (io (bM hr (a6 1) aD) (im (bM hr (cS Z.u23 (ad (a6 2) am)) ae))))) (aW (fN ho (yE Z.u29 (o9 (ns:=c_) Z.u2q (BN Z).mono hr (aV (i:=4) (ns:=d_) Z.u2p Z.u2v (a7 (a6 0))) (iP (jI (pA Z).mono hr (a9 (a7 (bn (aM 2) ae (λ_ _=>rfl))) ak)) jP))))) bU) (aP (bK (bw (vo (cS Z.u23 (ad (a6 2) am)) ae)) (aW (cL Z.u37 ho)) bU) (aW (fN ho (fo (ns:=d_) Z.u2p (Pu Z).mono hr (a7 (a6 0)) (a9 (a7 (a6 1)) ak)))))))
def Py:MetE P w K mg base b_ "add_class" 3 ["self","name","fare"] (sW b_ a_):=by
 have sc:FnScope ["self","name","fare"] ["self","name","fare"] (ao Bi):=by walk_at"sc"
 refine mkM Z.u1f (by walk_at"bd") λ_ _ Fn=>cV rfl rfl rfl Fn sc (λ_ _ _ _ _ _ _ _ hr ho=>?_)
 exact(aP (bK (Lh hr (a7 (a6 1)) (aV (i:=0) (ns:=d_) Z.u2p Z.u2r (a7 (a6 0)))) (aW Lr) bU) (aP (bK (Ht (iK Z.u23 (a9 (aV (i:=2) (ns:=d_) Z.u2p Z.u2t (a7 (a6 0))) ak)) (a7 ae)) (aW (cL Z.u37 ho)) bU) (aP (bK (gr hr (iK Z.u23 (a9 (aV (i:=1) (ns:=d_) Z.u2p Z.u2s (a7 (a6 0))) ak)) (a7 (eD Z.u2h.choose_spec))) (aW (cL Z.u37 ho)) bU) (aP (bK (bw (jr (gN (bF (BB Z).mono hr (ad (bp (cY (ad (a6 2) am))) am))))) (aW (cL Z.u37 ho)) bU) (aP (bh (Lk hr (aV (i:=0) (ns:=d_) Z.u2p Z.u2r (a7 (a6 0))) (a7 (a6 1)) (iK Z.u23 (a9 (aV (i:=1) (ns:=d_) Z.u2p Z.u2s (a7 (a6 0))) ak)))) (aW (bh (lE (aV (i:=1) (ns:=d_) Z.u2p Z.u2s (a7 (a6 0))) (a7 (a6 2))))))))))
def Pz:DefE P w K mg base "read_name" 2 ["word"] (sX b_ a_):=by
 have sc:FnScope ["word"] ["word"] (ao Bj):=by walk_at"sc"
 refine mkA Z.u1g (by walk_at"bd") λ_ _ Fn=>cV rfl rfl rfl Fn sc (λ_ _ _ _ _ _ _ _ hr ho=>?_)
 exact(aP (bK (bw (jr (gN (bF (BJ Z).mono hr (ad (a6 0) (ad (yd Z.u2e.choose_spec) (ad (eD Z.u2j.choose_spec) am))))))) (aW (sj Z.u37 ho (a6 0))) bU) (aW (bh (b6 (a7 (a6 0))))))
def PB:MetE P w K mg base b_ "add_turn" 3 ["self","row"] (sY b_ a_):=by
 have sc:FnScope ["self","row","classes"] ["self","row"] (ao Bk):=by walk_at"sc"
 refine mkM Z.u1h (by walk_at"bd") λ_ _ Fn=>cV rfl rfl rfl Fn sc (λ_ _ _ _ _ _ _ _ hr ho=>?_)
 exact(aP (bh (aO 2 sc.nd (iK Z.u23 (a9 (aV (i:=1) (ns:=d_) Z.u2p Z.u2s (a7 (a6 0))) ak)))) (aP (bK (bw (fE (qh (bM hr (a6 2) ae) (qg (nc hr (cS Z.u23 (ad (a6 1) am)) (cQ (a6 2) ae)))))) (aW (cL Z.u37 ho)) bU) (aP (bK (gr hr (iK Z.u23 (a9 (aV (i:=2) (ns:=d_) Z.u2p Z.u2t (a7 (a6 0))) ak)) (a7 (eD Z.u2n.choose_spec))) (aW (cL Z.u37 ho)) bU) (aP (bK (bw (jr (gN (bF (BD Z).mono hr (ad (a6 1) (ad (a6 2) am)))))) (aW (cL Z.u37 ho)) bU) (aW (bh (lE (aV (i:=2) (ns:=d_) Z.u2p Z.u2t (a7 (a6 0))) (a7 (a6 1)))))))))
def BR:DefN P w K mg base "read_numbers" 3 ["words"] (oB b_ a_):=by
 have sc:FnScope ["words"] ["words"] (ao Bl):=by walk_at"sc"
 refine mkA Z.u1i (by walk_at"bd") λ_ _ Fn=>cj rfl rfl rfl Fn sc (λ_ _ _ _ _ _ hr=>?_)
 exact(aU (b6 (xE (y:="word") (J3:=[]) (cn:=[]) (by walk_at"cp") rfl (a7 (a6 0)) (by walk_at"pg") (λ_ _ _ _=>(aL (pA Z).quiet.mono hr (a9 (a7 (a6 0)) ak))))))
def PD:MetE P w K mg base b_ "set_rule" 3 ["self","rule"] (yS b_ a_):=by
 have sc:FnScope ["self","rule"] ["self","rule"] (ao Bm):=by walk_at"sc"
 refine mkM Z.u1j (by walk_at"bd") λ_ _ Fn=>cV rfl rfl rfl Fn sc (λ_ _ _ _ _ _ _ _ hr ho=>?_)
 exact(aP (bK (bw (jr (gN (bF (BG Z).mono hr (ad (a6 1) am))))) (aW (cL Z.u37 ho)) bU) (aW (bh (jG (i:=3) (ns:=d_) Z.u2p Z.u2u (a7 (a6 0)) (a7 (a6 1))))))
def PF:MetE P w K mg base b_ "begin" 8 ["self","seats"] (oC b_ a_):=by
 have sc:FnScope ["self","seats","rule"] ["self","seats"] (ao Bn):=by walk_at"sc"
 refine mkM Z.u1k (by walk_at"bd") λ_ _ Fn=>cV rfl rfl rfl Fn sc (λ_ _ _ _ _ _ _ _ hr ho=>?_)
 exact(aP (bh (aO 2 sc.nd (xi (jB (aV (i:=3) (ns:=d_) Z.u2p Z.u2u (a7 (a6 0)))) (a7 (mG (ad (a6 1) (ad ae (ad ae (ad ae am)))))) (aV (i:=3) (ns:=d_) Z.u2p Z.u2u (a7 (a6 0)))))) (aW (Ly (i:=4) (ns:=d_) ho Z.u2p Z.u2v (a7 (a6 0)) (IC ((BQ Z).mono (k:=6)) (hr.mono (by decide)) (a9 (a7 (a6 1)) (a9 (aV (i:=1) (ns:=d_) Z.u2p Z.u2s (a7 (a6 0))) (a9 (aV (i:=2) (ns:=d_) Z.u2p Z.u2t (a7 (a6 0))) (a9 (a7 (a6 2)) ak))))))))
def PJ:MetE P w K mg base b_ "gather" 9 ["self","head","rest"] (gx b_ a_):=by
 have sc:FnScope ["self","head","rest"] ["self","head","rest"] (ao Bp):=by walk_at"sc"
 refine mkM Z.u1l (by walk_at"bd") λ_ _ Fn=>cV rfl rfl rfl Fn sc (λ_ _ _ _ _ _ _ _ hr ho=>?_)
 exact(aP (bK (bw (fE (io (bM hr (a6 1) aD) (im (bM hr (cS Z.u23 (ad (a6 2) am)) ae))))) (aW (oa ho (o9 (ns:=d_) Z.u2p (Py Z).mono hr (a7 (a6 0)) (iP (jI (Pz Z).mono hr (a9 (a7 (bn (aM 2) ae (λ_ _=>rfl))) ak)) (iP (jI (pA Z).mono hr (a9 (a7 (bn (aM 2) ae (λ_ _=>rfl))) ak)) jP))))) (aW (bK (bw (fE (io (bM hr (a6 1) aD) (im (vo (cS Z.u23 (ad (a6 2) am)) ae))))) (aW (oa ho (fo (ns:=d_) Z.u2p (PB Z).mono hr (a7 (a6 0)) (a9 (aL (BR Z).mono hr (a9 (a7 (a6 2)) ak)) ak)))) (aW (bK (bw (fE (io (bM hr (a6 1) aD) (im (bM hr (cS Z.u23 (ad (a6 2) am)) ae))))) (aW (oa ho (fo (ns:=d_) Z.u2p (PD Z).mono hr (a7 (a6 0)) (a9 (Lq Z.u2b (aL (BR Z).mono hr (a9 (a7 (a6 2)) ak))) ak)))) (aW (bK (bw (fE (io (bM hr (a6 1) aD) (im (bM hr (cS Z.u23 (ad (a6 2) am)) ae))))) (aW (oa ho (o9 (ns:=d_) Z.u2p (PF Z).mono hr (a7 (a6 0)) (iP (jI (pA Z).mono hr (a9 (a7 (bn (aM 2) ae (λ_ _=>rfl))) ak)) jP)))) (aW (cL Z.u37 ho))))))))) (aW (bh (b6 (a7 aD)))))
def BS:MetE P w K mg base b_ "say" 10 ["self","row"] (cu b_ a_):=by
 have sc:FnScope ["self","row","words"] ["self","row"] (ao Bq):=by walk_at"sc"
 refine mkM Z.u1m (by walk_at"bd") λ_ _ Fn=>cV rfl rfl rfl Fn sc (λ_ _ _ _ _ _ _ _ hr ho=>?_)
 exact(aP (xK 2 ho sc.nd (jI (Ps Z).mono hr (a9 (a7 (a6 1)) ak))) (aP (bK (jB (aV (i:=4) (ns:=d_) Z.u2p Z.u2v (a7 (a6 0)))) (aW (fN ho (fo (ns:=d_) Z.u2p (PJ Z).mono hr (a7 (a6 0)) (a9 (dI (a7 (a6 2)) (a7 ae) (λ_ _=>rfl)) (a9 (xG (k:=1) (a7 (a6 2))) ak))))) bU) (aW (fN ho (fo (ns:=d_) Z.u2p (Px Z).mono hr (a7 (a6 0)) (a9 (dI (a7 (a6 2)) (a7 ae) (λ_ _=>rfl)) (a9 (xG (k:=1) (a7 (a6 2))) ak)))))))
def BU:DefN P w K mg base "_law_opened" 11 ["sale","names"] (jT b_ a_):=by
 have sc:FnScope ["sale","names","seats","fares","turns","rule","desk","rows","row"] ["sale","names"] (ao Br):=by walk_at"sc"
 refine mkA Z.u1n (by walk_at"bd") λ_ _ Fn=>cj rfl rfl rfl Fn sc (λ_ _ _ _ _ _ hr=>?_)
 exact(az (HF [2,3,4,5] rfl sc.nd (a7 (a6 0)) (.cons (i:=2) rfl (by first|exact Or.inl rfl|exact Or.inr rfl) (.inl rfl) (.cons (i:=3) rfl (by first|exact Or.inl rfl|exact Or.inr rfl) (.inl rfl) (.cons (i:=4) rfl (by first|exact Or.inl rfl|exact Or.inr rfl) (.inl rfl) (.cons (i:=5) rfl (by first|exact Or.inl rfl|exact Or.inr rfl) (.inl rfl) Tgs.nil rfl) rfl) rfl) rfl)) (az (aO 6 sc.nd (Lx ((Pr Z).mono (k:=9)) (hr.mono (by decide)))) (az (Ls 7 sc.nd (own:=["k","fare"]) (J3:=[1]) (cn:=["names"]) (by walk_at"cp") rfl (wp Z.u20 (aM 3)) (λ_ _ _ _=>j9 rfl (Tgs.ok (is:=[0,1]) (show(["k","fare","names"]:j_).Nodup from by decide +kernel) (.cons (i:=0) rfl (Or.inl rfl) (.inr rfl) (.cons (i:=1) rfl (Or.inl rfl) (.inr rfl) Tgs.nil rfl) rfl))) (mU [0,1]) (by decide) (λ_ _ _ _=>da) (λ_ _ _ _=>(dA (dA (dA aD (bn (aM 2) (a6 0) (λ_ _=>rfl))) aD) (fR Z.u29 (ad (a6 1) am))))) (az (aO 7 sc.nd (Lt (a7 (a6 7)) (xE (y:="row") (J3:=[]) (cn:=[]) (by walk_at"cp") rfl (a7 (a6 4)) (by walk_at"pg") (λ_ _ _ _=>(lI (a7 aD) (nW (a7 (bp (dq (own:=["weight"]) (J3:=[]) (cn:=[]) (by walk_at"cp") rfl (gi (aM 0)) (by walk_at"pg") (dZ 0) (by decide) (λ_ _ _ _=>da) (λ_ _ _ _=>(fR Z.u29 (ad (a6 0) am)))))))))))) (az (bT (bw (nc hr (a6 5) (mG (ad (a6 2) (ad ae (ad ae (ad ae am))))))) (aU (lE (a7 (a6 7)) (lI (a7 aD) (nW (a7 (bp (dq (own:=["number"]) (J3:=[]) (cn:=[]) (by walk_at"cp") rfl (Lz (a6 5)) (by walk_at"pg") (dZ 0) (by decide) (λ_ _ _ _=>da) (λ_ _ _ _=>(fR Z.u29 (ad (a6 0) am)))))))))) bS) (az (HJ 8 sc.nd rfl (Lu (a7 (a6 7)) (a7 (bp (cY (ad (dA aD (fR Z.u29 (ad (a6 2) am))) am))))) (aU (bT (Hu hr (xS (ns:=d_) Z.u2p (BS Z).quiet.mono hr (a7 (a6 6)) (a9 (a7 (a6 8)) ak)) (a7 aD)) (aU (b6 (a7 e8))) bS))) (aU (b6 (rF (a9 (a7 (a6 6)) (a9 (HE ((BQ Z).quiet.mono (k:=9)) (hr.mono (by decide)) (a9 (a7 (a6 2)) (a9 (lB (kQ Z.u24 (aM 3))) (a9 (lB (dq (own:=["row"]) (J3:=[]) (cn:=[]) (by walk_at"cp") rfl (gi (aM 4)) (by walk_at"pg") (dZ 0) (by decide) (λ_ _ _ _=>da) (λ_ _ _ _=>(bp (kQ Z.u24 (aM 0)))))) (a9 (a7 (a6 5)) ak))))) ak)))))))))))
def pB:DefN P w K mg base "_law_pool" 2 ["script","k"] (iU b_ a_):=by
 have sc:FnScope ["script","k"] ["script","k"] (ao Bs):=by walk_at"sc"
 refine mkA Z.u1o (by walk_at"bd") λ_ _ Fn=>cj rfl rfl rfl Fn sc (λ_ _ _ _ _ _ hr=>?_)
 exact(aU (b6 (HP (ns:=["rest","mixed","count"]) (rK (bF (BL Z).mono hr (ad (a6 0) (ad (a6 1) am))) (rK (EB hr (fC (bF (BL Z).mono hr (ad (a6 0) (ad ae am))) ae) ae) (rK (cQ ae (a6 1)) HN))))))
def j6:DefN P w K mg base "_law_said" 11 ["desk","row"] (dC b_ a_):=by
 have sc:FnScope ["desk","row","caught","answer","e"] ["desk","row"] (ao Bt):=by walk_at"sc"
 refine mkA Z.u1p (by walk_at"bd") λ_ _ Fn=>cj rfl rfl rfl Fn sc (λ_ _ _ _ _ _ hr=>?_)
 exact(az (aO 2 sc.nd (a7 e8)) (az (aO 3 sc.nd (a7 e8)) (az (xN 3 2 4 Z.u37 sc.nd (fo (ns:=d_) Z.u2p (BS Z).mono hr (a7 (a6 0)) (a9 (a7 (a6 1)) ak))) (az (bT (bw (ni (a6 2))) (aU (b6 (a7 (a6 3)))) bS) (aU (b6 (aL (BP Z).mono hr (a9 (a7 (a6 2)) ak))))))))
def PK:DefN P w K mg base "_law_stranger" 2 ["pool","names","many"] (sZ b_ a_):=by
 have sc:FnScope ["pool","names","many","name","at","spoilt","some"] ["pool","names","many"] (ao Bu):=by walk_at"sc"
 refine mkA Z.u1q (by walk_at"bd") λ_ _ Fn=>cj rfl rfl rfl Fn sc (λ_ _ _ _ _ _ hr=>?_)
 exact(az (aO 3 sc.nd (dt (a7 (a6 1)) (aL (bO Z).mono hr (a9 (a7 (a6 0)) (a9 (a7 (a6 2)) ak))) (λ_ _=>rfl))) (az (aO 4 sc.nd (aL (bO Z).mono hr (a9 (a7 (a6 0)) (a9 (a7 (se Z.u23 (ad (a6 3) am))) ak)))) (az (aO 5 sc.nd (lI (lI (a7 (hW (a6 3) gg (f8 (a6 4)))) (yi (a7 aD) (aL (bO Z).mono hr (a9 (a7 (a6 0)) (a9 (a7 ae) ak))) (λ_ _=>rfl))) (a7 (hW (a6 3) (f8 (cQ (a6 4) ae)) gg)))) (az (aO 6 sc.nd (jD (a9 (a7 (bn (aM 1) ae (λ_ _=>rfl))) (a9 (a7 (a6 5)) (a9 (a7 (dA (a6 3) aD)) (a9 (lI (LM (a7 (a6 3))) (a7 aD)) (a9 (a7 (dA (hW (a6 3) (f8 ae) gg) aD)) (a9 (LD (a7 (a6 3))) (a9 (a7 (Kx aD ae)) (a9 (a7 (dA (a6 3) aD)) ak)))))))))) (aU (b6 (dt (a7 (bp (js (aM 6) (dE (bp (cY (ad (hW (a6 3) gg (f8 (qm rfl Z.u25 (ad ae (ad (a6 4) am))))) am))))))) (aL (bO Z).mono hr (a9 (a7 (a6 0)) (a9 (a7 ae) ak))) (λ_ _=>rfl))))))))
def PL:DefN P w K mg base "_law_row" 12 ["pool","both","names","many","worth"] (lM b_ a_):=by
 have sc:FnScope ["pool","both","names","many","worth","way","words","word","sold","name","number"] ["pool","both","names","many","worth"] (ao Bv):=by walk_at"sc"
 refine mkA Z.u1r (by walk_at"bd") λ_ _ Fn=>cj rfl rfl rfl Fn sc (λ_ _ _ _ _ _ hr=>?_)
 exact(az (aO 5 sc.nd (aL (bO Z).mono hr (a9 (a7 (a6 0)) (a9 (a7 ae) ak)))) (az (aO 6 sc.nd (a7 (bp (js (dE (bp (vC (cY (ad aD am)) ae))) (dE (bp (cY (ad aD (ad aD (ad aD (ad aD (ad aD (ad aD (ad aD (ad aD (ad aD am)))))))))))))))) (az (aO 7 sc.nd (a7 (bn (aM 6) (a6 5) (λ_ _=>rfl)))) (az (aO 8 sc.nd (cU (ns:=c_) Z.u2q (pz Z).mono hr (dI (a7 (a6 1)) (a7 ae) (λ_ _=>rfl)))) (az (bT (bw (bM hr (a6 7) aD)) (az (aO 9 sc.nd (dt (a7 (a6 2)) (aL (bO Z).mono hr (a9 (a7 (a6 0)) (a9 (a7 (a6 3)) ak))) (λ_ _=>rfl))) (az (bT (gr hr (aL (bO Z).mono hr (a9 (a7 (a6 0)) (a9 (a7 ae) ak))) (a7 ae)) (aU (aO 9 sc.nd (aL (PK Z).mono hr (a9 (a7 (a6 0)) (a9 (a7 (a6 2)) (a9 (a7 (a6 3)) ak)))))) bS) (az (bT (bw (Fj (a6 9) (bp (vA (aM 2) gg (f8 (a6 3)))))) (aU (b6 (hV hr (aL (j6 Z).mono hr (a9 (dI (a7 (a6 1)) (a7 ae) (λ_ _=>rfl)) (a9 (a7 (dA aD (a6 9))) ak))) (a7 (bp (js (dE (bp (cY (ad kG am)))) (dE (bp (vC (cY (ad kG am)) ae))))))))) bS) (aU (b6 (hV hr (aL (j6 Z).mono hr (a9 (dI (a7 (a6 1)) (a7 ae) (λ_ _=>rfl)) (a9 (a7 (dA aD (a6 9))) ak))) (aL (tR Z).mono hr (a9 (dI (a7 (a6 1)) (a7 ae) (λ_ _=>rfl)) (a9 (a7 aD) (a9 (LH (a7 (a6 2)) (a7 (a6 9))) ak)))))))))) bS) (az (bT (bw (bM hr (a6 7) aD)) (az (aO 10 sc.nd (dt (jD (a9 (aL (bO Z).mono hr (a9 (a7 (a6 0)) (a9 (a7 ae) ak))) (a9 (aL (bO Z).mono hr (a9 (a7 (a6 0)) (a9 (a7 (cQ (a6 8) ae)) ak))) (a9 (a7 ae) ak)))) (aL (bO Z).mono hr (a9 (a7 (a6 0)) (a9 (a7 ae) ak))) (λ_ _=>rfl))) (aU (b6 (hV hr (aL (j6 Z).mono hr (a9 (dI (a7 (a6 1)) (a7 ae) (λ_ _=>rfl)) (a9 (a7 (dA aD (fR Z.u29 (ad (a6 10) am)))) ak))) (aL (tR Z).mono hr (a9 (dI (a7 (a6 1)) (a7 ae) (λ_ _=>rfl)) (a9 (a7 aD) (a9 (a7 (a6 10)) ak)))))))) bS) (az (bT (bw (bM hr (a6 7) aD)) (aU (b6 (hV hr (aL (j6 Z).mono hr (a9 (dI (a7 (a6 1)) (a7 ae) (λ_ _=>rfl)) (a9 (a7 aD) ak))) (a7 (a6 4))))) bS) (aU (b6 (hV hr (aL (j6 Z).mono hr (a9 (dI (a7 (a6 1)) (a7 ae) (λ_ _=>rfl)) (a9 (a7 (a6 7)) ak))) (aL (tR Z).mono hr (a9 (dI (a7 (a6 1)) (a7 ae) (λ_ _=>rfl)) (a9 (a7 (a6 7)) (a9 (a7 e8) ak))))))))))))))
def tS:DefN P w K mg base "_law_size" 2 ["pool","most"] (lN b_ a_):=by
 have sc:FnScope ["pool","most","kind"] ["pool","most"] (ao Bw):=by walk_at"sc"
 refine mkA Z.u1s (by walk_at"bd") λ_ _ Fn=>cj rfl rfl rfl Fn sc (λ_ _ _ _ _ _ hr=>?_)
 exact(az (aO 2 sc.nd (aL (bO Z).mono hr (a9 (a7 (a6 0)) (a9 (a7 ae) ak)))) (az (bT (bw (bM hr (a6 2) ae)) (aU (b6 (aL (bO Z).mono hr (a9 (a7 (a6 0)) (a9 (a7 (vJ rfl Z.u26 (ad ae (ad (a6 1) am)))) ak))))) bS) (az (bT (bw (bM hr (a6 2) ae)) (aU (b6 (a7 (ge (a6 1) ae)))) bS) (aU (b6 (aL (bO Z).mono hr (a9 (a7 (a6 0)) (a9 (a7 (a6 1)) ak))))))))
def PM:DefN P w K mg base "_law_rule" 3 ["pool"] (t3 b_ a_):=by
 have sc:FnScope ["pool","of"] ["pool"] (ao Bx):=by walk_at"sc"
 refine mkA Z.u1t (by walk_at"bd") λ_ _ Fn=>cj rfl rfl rfl Fn sc (λ_ _ _ _ _ _ hr=>?_)
 exact(az (aO 1 sc.nd (fL (a7 ae) (aL (tS Z).mono hr (a9 (a7 (a6 0)) (a9 (a7 ae) ak))))) (aU (b6 (nI (a9 (aL (bO Z).mono hr (a9 (a7 (a6 0)) (a9 (a7 ae) ak))) (a9 (aL (bO Z).mono hr (a9 (a7 (a6 0)) (a9 (a7 (cQ (a6 1) ae)) ak))) (a9 (a7 (a6 1)) (a9 (aL (tS Z).mono hr (a9 (a7 (a6 0)) (a9 (a7 (cQ (vk ae ae) ae)) ak))) ak))))))))
def PN:DefN P w K mg base "_law_weights" 2 ["pool","many"] (t4 b_ a_):=by
 have sc:FnScope ["pool","many","row","k"] ["pool","many"] (ao By):=by walk_at"sc"
 refine mkA Z.u1u (by walk_at"bd") λ_ _ Fn=>cj rfl rfl rfl Fn sc (λ_ _ _ _ _ _ hr=>?_)
 exact(az (aO 2 sc.nd (lB (cY am))) (az (xy 3 sc.nd rfl Z.u27 (a9 (a7 (cQ (a6 1) ae)) ak) (aU (lE (a7 (a6 2)) (dt (jD (a9 (a7 ae) (a9 (aL (bO Z).mono hr (a9 (a7 (a6 0)) (a9 (a7 ae) ak))) (a9 (aL (bO Z).mono hr (a9 (a7 (a6 0)) (a9 (a7 ae) ak))) ak)))) (aL (bO Z).mono hr (a9 (a7 (a6 0)) (a9 (a7 ae) ak))) (λ_ _=>rfl))))) (az (bT (gr hr (HS rfl Z.u2a (a9 (a7 (a6 2)) ak)) (a7 ae)) (aU (xT (a7 (a6 2)) (a7 (a6 1)) (a7 ae))) bS) (aU (xo 2)))))
def PQ:DefN P w K mg base "_law_sale" 4 ["script","k"] (t5 b_ a_):=by
 have sc:FnScope ["script","k","pool","seats","fares","rule","many"] ["script","k"] (ao Bz):=by walk_at"sc"
 refine mkA Z.u1v (by walk_at"bd") λ_ _ Fn=>cj rfl rfl rfl Fn sc (λ_ _ _ _ _ _ hr=>?_)
 exact(az (aO 2 sc.nd (aL (pB Z).mono hr (a9 (a7 (a6 0)) (a9 (a7 (a6 1)) ak)))) (az (aO 3 sc.nd (aL (bO Z).mono hr (a9 (a7 (a6 2)) (a9 (a7 ae) ak)))) (az (aO 4 sc.nd (rM (y:="j") (J3:=[2]) (cn:=["pool"]) (by walk_at"cp") rfl Z.u27 (a9 (fL (a7 ae) (aL (bO Z).mono hr (a9 (a7 (a6 2)) (a9 (a7 ae) ak)))) ak) (by walk_at"pg") (λ_ _ _ _=>(fL (a7 ae) (aL (tS Z).mono hr (a9 (a7 (a6 1)) (a9 (a7 (vk ae ae)) ak))))))) (az (aO 5 sc.nd (aL (PM Z).mono hr (a9 (a7 (a6 2)) ak))) (az (aO 6 sc.nd (aL (bO Z).mono hr (a9 (a7 (a6 2)) (a9 (a7 ae) ak)))) (az (aO 2 sc.nd (aL (pB Z).mono hr (a9 (a7 (a6 0)) (a9 (a7 (cQ (a6 1) ae)) ak)))) (aU (b6 (nI (a9 (a7 (a6 3)) (a9 (a7 (a6 4)) (a9 (rM (y:="j") (J3:=[2,4]) (cn:=["pool","fares"]) (by walk_at"cp") rfl Z.u27 (a9 (a7 (a6 6)) ak) (by walk_at"pg") (λ_ _ _ _=>(aL (PN Z).mono hr (a9 (a7 (a6 1)) (a9 (a7 (cS Z.u23 (ad (a6 2) am))) ak))))) (a9 (a7 (a6 5)) ak)))))))))))))
def PR{a:Addr}{fd:FuncData}(Fn:Fun K "law" "law" tO a fd):FnOk P w K mg base CX0 13 a fd ["script"] (spN K (t6 b_ a_)):=by
 have sc:FnScope ["script","sale","pool","names","many","worth","both","k"] ["script"] (ao tO):=by walk_at"sc"
 refine cj rfl rfl rfl Fn sc (λcdv A outer s H E hr=>?_);exact(az (aO 1 sc.nd (aL (PQ Z).mono hr (a9 (a7 (a6 0)) (a9 (a7 ae) ak)))) (az (aO 2 sc.nd (aL (pB Z).mono hr (a9 (a7 (a6 0)) (a9 (a7 ae) ak)))) (az (aO 3 sc.nd (aL (Pq Z).mono hr (a9 (a7 (a6 2)) (a9 (a7 ae) ak)))) (az (bT (gr hr (aL (bO Z).mono hr (a9 (a7 (a6 2)) (a9 (a7 ae) ak))) (a7 ae)) (aU (aO 1 sc.nd (a7 (mG (ad (bn (aM 1) ae (λ_ _=>rfl)) (ad (bn (aM 1) ae (λ_ _=>rfl)) (ad (bn (aM 1) ae (λ_ _=>rfl)) (ad (mG (ad (bn (aM 1) ae (λ_ _=>rfl)) (ad ae (ad ae (ad ae am))))) am)))))))) bS) (az (aO 4 sc.nd (a7 (cS Z.u23 (ad (bn (aM 1) ae (λ_ _=>rfl)) am)))) (az (aO 5 sc.nd (a7 (bF (Pl Z).mono hr (ad (a6 1) am)))) (az (aO 6 sc.nd (aL (BU Z).mono hr (a9 (a7 (a6 1)) (a9 (a7 (a6 3)) ak)))) (az (bT (jB (a7 (a6 6))) (aU (b6 (a7 kG))) bS) (az (HK 7 sc.nd rfl Z.u27 (a9 (a7 ae) (a9 (a7 (vJ rfl Z.u26 (ad ae (ad (cS Z.u23 (ad (a6 0) am)) am)))) ak)) (az (aO 2 sc.nd (aL (pB Z).mono hr (a9 (a7 (a6 0)) (a9 (a7 (a6 7)) ak)))) (az (bT (rD (xh (gr hr (cU (ns:=c_) Z.u2q (pz Z).mono hr (dI (a7 (a6 6)) (a7 ae) (λ_ _=>rfl))) (a7 (cS Z.u23 (ad (bn (aM 1) ae (λ_ _=>rfl)) am)))) (xg (gr hr (aL (bO Z).mono hr (a9 (a7 (a6 2)) (a9 (a7 ae) ak))) (a7 ae))))) (aU (aO 6 sc.nd (aL (BU Z).mono hr (a9 (a7 (a6 1)) (a9 (a7 (a6 3)) ak))))) bS) (aU (bT (rD (Hz (jB (a7 (a6 6))) (Hy (jC (iJ (aL (PL Z).mono hr (a9 (a7 (a6 2)) (a9 (a7 (a6 6)) (a9 (a7 (a6 3)) (a9 (a7 (a6 4)) (a9 (a7 (a6 5)) ak))))))))))) (aU (b6 (a7 kG))) bS))))) (aU (b6 (xk (hV hr (aL (j6 Z).mono hr (a9 (dI (a7 (a6 6)) (a7 ae) (λ_ _=>rfl)) (a9 (a7 aD) ak))) (iQ Z.u29 (a9 (cU (ns:=c_) Z.u2q (py Z).mono hr (dI (a7 (a6 6)) (a7 ae) (λ_ _=>rfl))) ak))) (xj (hV hr (aL (j6 Z).mono hr (a9 (dI (a7 (a6 6)) (a7 ae) (λ_ _=>rfl)) (a9 (a7 aD) ak))) (a7 (a6 5))))))))))))))))
end
def tT(K:K0):Sp:=λvs H Q E=>∀b_ a_:Nat,spN K (t6 b_ a_) vs H Q E
def all_mk{l:W.OpenLaw}{w:World}{K:K0}{mg:Str->v_}{fa b_ a_:Addr}(hfa:mg "law"=some (.ref fa))(h_:W.nsIn K mainGlobals "Desk"=some (some (.ref b_)))(i_:W.nsIn K mainGlobals "Office"=some (some (.ref a_)))(Z:∀base,AF l.prog w K mg base b_ a_):
  ∃fd:FuncData,(∀(s:Shared) (v:Value),BindsTo s fd ⟨[v],[]⟩ [("script",v)])/\∀base:Heap,K.In base->base.Ns mainGlobals mg->FnOk l.prog w K mg base CX0 13 fa fd ["script"] (tT K):=by
 obtain⟨a,fd,Fn,m⟩:=(Z default).u1w;cases hfa.symm.trans m;have Fm:=Fn;obtain⟨oc,od,kV,doc,pm,an,cdv,ct,osl,rfl,lk,hcd⟩:=Fm.ex;exact⟨_,λs v=>.of_eq rfl,λbase _ _=>(PR (Z base) Fn).imp λvs H Q E h=>h b_ a_⟩
def walk{l:W.OpenLaw}{q:Program}{loose:j_}{XP:(Str->v_)->Heap->Prop}{YP:World->Heap->Prop}{d:DefRec}{K:Params->K0}(hn:l.most=some 63)(hdf:d.params.defaults=[])(hY:∀(w:World) (h:Heap),YP w h->(K w.params).In h)(Fm:∀(w:World) (mg:Str->v_) (fa:Addr) (h:Heap),(K w.params).In h->h.Ns mainGlobals mg->mg d.name=some (.ref fa) ->
   ∃fd:FuncData,(∀(s:Shared) (u:Value),BindsTo s fd ⟨[u],[]⟩ [("script",u)])/\∀base:Heap,(K w.params).In base->base.Ns mainGlobals mg->FnOk l.prog w (K w.params) mg base CX0 13 fa fd ["script"] (tT (K w.params))):
  W.WalkO q loose XP YP l.row.toRowW d [] (λf vs=>PySem.call f vs):=
 L2.walk_of (n:=63) (k:=13) (x:="script") (CX:=λ_=>CX0) (sp:=λw=>tT (K w.params)) hn (by decide) hdf ⟨rfl,by decide,by decide⟩ hY Fm (λ_ _ a ns hl _ hS b_ a_=>HM hS (OX ns hl b_ a_)) λ_ _ _ _ _ z=>z
end My
end VL
namespace PySem.W.Fast
def tw1381194267573535403:=Nat
def tw15862708193987110734:=Nat
def tw16733089345667772982:=Nat
def tw16467125867275314778:=Nat
def tw15223894584402106509:=Nat
def tw15775677050647922995:=Nat
def tw8786530313051477443:=Nat
def tw16439283953054073279:=Nat
def tw8619846134150846224:=Nat
def tw2785559620960273278:=Nat
def tw1323557747559524423:=Nat
def tw3806756712518546370:=Nat
def tw13021267921863847751:=Nat
def tw11866815457046062159:=Nat
def tw18349123261985138126:=Nat
def tw1260135671051279828:=Nat
def tw11534184071408272828:=Nat
def tw12774517784957336020:=Nat
def tw5444621077286105228:=Nat
def tw7416444564629835997:=Nat
def tw16600230274904494381:=Nat
def tw14810747790902078219:=Nat
def tw3142674172151154813:=Nat
def tw2775702022907636900:=Nat
def tw206065331678764165:=Nat
def tw15144029552933009328:=Nat
def tw14853714328949191359:=Nat
def tw3796542762297060589:=Nat
def tw7413742144173967421:=Nat
def tw14607880215953290197:=Nat
def tw16994920373641177952:=Nat
def tw11563405042354831304:=Nat
def tw9640928850073887999:=Nat
def tw8723576404438107932:=Nat
def tw10446332511041657341:=Nat
def tw16194499613652336594:=Nat
def tw15940681205709312513:=Nat
def tw6439873041113849312:=Nat
def tw4225755980110773254:=Nat
def tw7640249917642653086:=Nat
def tw12745791372654288754:=Nat
def tw14683894605901917298:=Nat
def tw9095710019590882317:=Nat
def tw4978131764600099887:=Nat
def tw13476240770068085370:=Nat
def tw11919743717590577723:=Nat
def tw12961636509220133499:=Nat
def tw16829953978021198257:=Nat
def tw6996818688652059621:=Nat
def tw2461647351590486723:=Nat
def tw13060269574434656982:=Nat
def tw16068428267859867174:=Nat
def tw8767009653605933674:=Nat
def tw11332857160697314127:=Nat
def tw8440597733360706012:=Nat
def tw2267033309970073071:=Nat
def tw13504470106360696006:=Nat
def tw1372623749574855776:=Nat
def tw18416478227141244200:=Nat
def tw6522359195306661630:=Nat
def tw2503712108654108903:=Nat
def tw14791283148289499509:=Nat
def tw15317374334301119770:=Nat
def tw15117260796897571060:=Nat
def tw1304336901952105957:=Nat
def tw588764448754926605:=Nat
def tw7471776463527290468:=Nat
def tw10823966875035254608:=Nat
def tw6250815809404372140:=Nat
def tw17103642092981667610:=Nat
def tw1121202973455484067:=Nat
def tw9898410826812670517:=Nat
def tw15593506003535037889:=Nat
def tw4638779344853881993:=Nat
def tw18240114455929531919:=Nat
def tw9700534870434392469:=Nat
def tw5229395461069717968:=Nat
def tw15233550383034557141:=Nat
def tw35088174782279825:=Nat
def tw17257801902229335119:=Nat
def tw716165059088322901:=Nat
def tw14412439370783307020:=Nat
def tw4763642843327293554:=Nat
def tw510468186038359683:=Nat
def tw851959193910108599:=Nat
def tw12298678008115295439:=Nat
def tw1115603946766094118:=Nat
def tw4228234290693063202:=Nat
def tw15877669382498334892:=Nat
def tw1889056800149510196:=Nat
def tw9577580280620367554:=Nat
def tw9891500629769679759:=Nat
def tw9738558043262352362:=Nat
def tw1269760150304583048:=Nat
def tw17581928931760732987:=Nat
def tw13899167454216341337:=Nat
def tw9923894551843688121:=Nat
def tw7372300888640947320:=Nat
def tw6391552897984920578:=Nat
def tw54300164715740140:=Nat
def tw6743415359740100803:=Nat
def tw7398514361798442324:=Nat
def tw1806634911287132316:=Nat
def tw15552454053029155628:=Nat
def tw16210432036430248210:=Nat
def tw7693959341370003473:=Nat
def tw7284918118430194677:=Nat
def tw771689647579749987:=Nat
def tw16078505751822545240:=Nat
def tw15754914079278477775:=Nat
def tw4572981531168237870:=Nat
def tw3234994851142070554:=Nat
def tw2559775874883947450:=Nat
def tw1974911599716611776:=Nat
def tw10531439080214997823:=Nat
def tw13477641127520009267:=Nat
def tw14905591790386798179:=Nat
def tw3454495441076659211:=Nat
def tw4230011814175333419:=Nat
def tw16518475660033553457:=Nat
def tw13678622899111107775:=Nat
def tw16088457520005412814:=Nat
def tw982148703702690669:=Nat
def tw9717321903992135375:=Nat
def tw12861750330552225153:=Nat
def tw1050837607130938051:=Nat
def tw8045384887964891460:=Nat
def tw14172080927603222002:=Nat
def tw10503686880211378517:=Nat
def tw4891673111676825178:=Nat
def tw10639458349975441450:=Nat
def tw14165271025003766079:=Nat
def tw13858359672725304401:=Nat
def tw17942853133062520103:=Nat
def tw13984719193951096680:=Nat
def tw2486855122898861905:=Nat
def tw17395567863010158037:=Nat
def tw4557679792106114718:=Nat
def tw6269531323047874138:=Nat
def tw14554050175175829630:=Nat
def tw14893597726170592168:=Nat
def tw5514199395700196811:=Nat
def tw13506772977700507050:=Nat
def tw5287079228441227470:=Nat
def tw10955461254987690045:=Nat
def tw4511271046825736584:=Nat
def tw5389403933857257002:=Nat
def tw6956855347427305706:=Nat
def tw6124860681302178501:=Nat
def tw2240139137577223072:=Nat
def tw898495713460946419:=Nat
def tw9032675627865195264:=Nat
def tw5184758801954672941:=Nat
def tw11764537344838822445:=Nat
def tw4600756613889478354:=Nat
def tw1790293950618944041:=Nat
def tw3222610970261323814:=Nat
def tw11653149445686223296:=Nat
def tw7249971815715695370:=Nat
def tw8177096737049771473:=Nat
def tw13130504251260683906:=Nat
def tw8074226108515058673:=Nat
def tw15592411428578875465:=Nat
def tw8329854908836293051:=Nat
def tw2511971643716626222:=Nat
def tw9071051541575972932:=Nat
def tw16490595945562814951:=Nat
def tw5841128652241161251:=Nat
def tw9044543473719897877:=Nat
def tw15506352269174707705:=Nat
def tw10138351201512038984:=Nat
def tw15798417572879488075:=Nat
def tw8640622535730291436:=Nat
def tw15080013691027953785:=Nat
def tw7839030776699850915:=Nat
def tw10722201179337967050:=Nat
def tw256262086729709226:=Nat
def tw11778966546331996820:=Nat
def tw6076604256283987760:=Nat
def tw18412868690649451733:=Nat
def tw9032275086960832591:=Nat
def tw3512034162599108157:=Nat
def tw7733474522045911076:=Nat
def tw6794517395298416833:=Nat
end PySem.W.Fast
open PySem PySem.W PyProof.Rows
theorem PySem.Challenge.cw_latefare_k49_rows_behind_open_holds : PySem.Challenge.rw_latefare_k49_rows_behind_open.Holds := by
 w_on;o_law;k_head;(case hw=>w_witness2)
 k_fill
 refine VL.My.walk (l:=PySem.Challenge.rw_latefare_k49_rows_behind_open) rfl rfl (fun w h Y=>PySem.W.kIn_of Y) ?F
 case F =>
  intro w mg fa h KX G hmg
  refine' VL.My.all_mk hmg ?h_ ?i_ (fun base=>?Z)
  (case h_=>k_is);(case i_=>k_is)
  case Z =>
   constructor
   all_goals first | (refine' VL.FA.of KX G ?a ?l ?c ?k;(case a=>k_is);(case l=>k_is);(case c=>k_is);(case k=>k_is)) | (refine' VL.MA.of ?a ?i ?l ?c ?k;(case a=>k_is);(case i=>k_is);(case l=>k_is);(case c=>k_is);(case k=>k_is)) | (refine' VL.IA.of KX G ?a ?i ?l ?c ?k ?b ?m ?e;(case a=>k_is);(case i=>k_is);(case l=>k_is);(case c=>k_is);(case k=>k_is);(case b=>k_is);(case m=>k_is);(case e=>k_is)) | (with_reducible refine' PySem.W.mg_none_of KX G ?_;k_is) | (refine' VL.gi_of KX G ?a;(case a=>k_is)) | (refine' VL.gs_of KX G ?a;(case a=>k_is)) | ((with_reducible refine' L2.Cls.mk ?_ ?_ ?_ ?_) <;> k_is) | (unfold L2.NoAttr;k_is) | kernel_rfl
