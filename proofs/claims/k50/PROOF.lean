import PyProof.Rows.All
import Wide.All
import KE.KDictOf
import KE.KFromBytes
import KE.KIntText
import KE.KIsAll
import KE.KItem
import KE.KRevIter
import KE.KStrOpen
import KE.RegMulBits
import Wide.FinOn
import Lean
import PyProof.EqAt
import PyProof.EqKinds
import PyProof.TupleCall
import PySem.Challenge.RW_latefare_k50_refused_rows
set_option Elab.async false
set_option linter.all false
set_option compiler.extract_closed false
set_option tactic.hygienic false
set_option maxRecDepth 100000
set_option maxHeartbeats 8000000
noncomputable section
local macro_rules|`(⇑$h)=>`(by simpa using $h)
local macro_rules|`($x<|>$y)=>`(autoParam $x $y)
def R0z(a:True:=by rfl):True:=a
def R0:=R0z._auto_1
def R1z(a:True:=by decide):True:=a
def R1:=R1z._auto_1
def R3z(a:True:=by walk_at"o"):True:=a
def R3:=R3z._auto_1
def R4z(a:True:=by intro _;rfl):True:=a
def R4:=R4z._auto_1
def R5z(a:True:=by decide +kernel):True:=a
def R5:=R5z._auto_1
def R6z(a:True:=by with_unfolding_all rfl):True:=a
def R6:=R6z._auto_1
def R7z(a:True:=by exact z5f):True:=a
def R7:=R7z._auto_1
def R8z(a:True:=by walk_at"bd"):True:=a
def R8:=R8z._auto_1
def R9z(a:True:=by walk_at"sc"):True:=a
def R9:=R9z._auto_1
def S0z(a:True:=by first|exact .inl rfl|exact .inr rfl|assumption):True:=a
def S0:=S0z._auto_1
abbrev K0:=PySem.W.Frag
local macro_rules|`(tactic| walk_at"o")=>`(tactic| first|exact .inl rfl|exact .inr rfl|exact .inr (.inl rfl)|exact .inr (.inr rfl))
def z9a:=@List.length_map
def z9b:=@List.mem_cons_self
def z9c:=@List.length_cons
def z9d:=@List.mem_cons_of_mem
def z9e:=@List.getElem?_eq_some_iff
def z9f:=@List.length_append
def z9g:=@List.mem_cons
def z9h:=@List.getElem?_set_ne
def z9i:=@PySem.wpAny_bind
def z9j:=@Option.bind_some
def z9k:=@List.length_nil
def z9l:=@List.mem_singleton
def z9m:=@PySem.Heap.get?_push_of_some
def z9n:=@PySem.Heap.lt_size
def z9o:=@Nat.le_refl
def z9p:=@List.getElem?_eq_getElem
def z9q:=@List.mem_append_right
def z9r:=@List.map_cons
def z9s:=@List.getElem?_set_self
def z9t:=@List.size_toArray
def z9u:=@List.all_eq_true
def z9v:=@Nat.lt_of_lt_of_le
def z9w:=@List.getElem_mem
def z9x:=@List.getElem?_map
def z9y:=@List.length_replicate
def z9z:=@List.getElem?_append_right
def z8a:=@PySem.wpAny_pure
def z8b:=@List.mem_append
def z8c:=@List.getElem?_append_left
def z8d:=@List.mem_of_getElem?
def z8e:=@List.map_append
def z8f:=@List.length_take
def z8g:=@List.mem_append_left
def z8h:=@List.length_set
def z8i:=@List.mem_map
def z8j:=@List.length_range
def z8k:=@List.drop_eq_getElem_cons
def z8l:=@Bool.false_ne_true
def z8m:=@List.not_mem_nil
def z8n:=@Nat.ne_of_lt
def z8o:=@PySem.wpAny_mono
def z8p:=@decide_eq_true
def z8q:=@PySem.Heap.get?_push_size
def z8r:=@Bool.and_eq_true
def z8s:=@List.nodup_cons
def z8t:=@List.take_of_length_le
def z8u:=@decide_eq_false
def z8v:=@PyProof.Rows.callWith_type1
def z8w:=@List.append_nil
def z8x:=@List.map_map
def z8y:=@List.getD_eq_getElem?_getD
def z8z:=@List.lookup_cons
def z7a:=@List.take_succ_eq_append_getElem
def z7b:=@Option.map_some
def z7c:=@Int.toNat_natCast
def z7d:=@congrArg
def z7e:=@List.sum_cons
def z7f:=@Option.some.inj
def z7g:=@Option.getD_some
def z7h:=@beq_eq_false_iff_ne
def z7i:=@beq_iff_eq
def z7j:=@List.getElem?_replicate
def z7k:=@List.zip_cons_cons
def z7l:=@List.length_drop
def z7m:=@Int.mul_le_mul_of_nonneg_left
def z7n:=@List.replicate_succ
def z7o:=@List.append_assoc
def z7p:=@Nat.le_trans
def z7q:=@List.mem_range
def z7r:=@Nat.zero_le
def z7s:=@List.drop_eq_nil_of_le
def z7t:=@Int.mul_le_mul
def z7u:=@or_false
def z7v:=@Nat.lt_irrefl
def z7w:=@List.all_cons
def z7x:=@Int.mul_nonneg
def z7y:=@Option.some.injEq
def z7z:=@PySem.mem_of_lookup
def z6a:=@List.length_reverse
def z6b:=@List.map_nil
def z6c:=@PySem.Heap.get?_update_other
def z6d:=@Int.pow_succ
def z6e:=@Array.getElem?_eq_some_iff
def z6f:=@Bool.false_eq_true
def z6g:=@PySem.sizeLine_eq
def z6h:=@PySem.W.kia_one
def z6i:=@PySem.wpAny_truthy_bool
def z6j:=@List.reverse_cons
def z6k:=@List.flatten_cons
def z6l:=@of_decide_eq_true
def z6m:=@List.any_cons
def z6n:=@List.length_pos_iff
def z6o:=@List.drop_succ_cons
def z6p:=@List.map_congr_left
def z6q:=@List.drop_length
def z6r:=@List.drop_zero
def z6s:=@PySem.wpAny_Call_Name_kw
def z6t:=@PySem.W.callWith_K
def z6u:=@PySem.W.methodCall_KW
def z6v:=@PySem.W.mg_of
def z6w:=@List.getElem?_zip_eq_some
def z6x:=@List.mem_or_eq_of_mem_set
def z6y:=@beq_self_eq_true
def z6z:=@PySem.wpAny_comprehension_free
def z5a:=@List.cons_append
def z5b:=@List.getElem_of_mem
def z5c:=@List.mem_filter
def z5d:=@PySem.W.of_hideAll
def z5e:=@List.find?_cons
def z5f:=@PySem.PassesOwn.never
def z5g:=@Nat.min_eq_left
def z5h:=@if_false
def z5i:=@PySem.wpAny_loadPart_at
def z5j:=@PySem.W.looks_findIn
def z5k:=@Option.getD_none
def z5l:=@List.map_reverse
def z5m:=@decide_eq_decide
def z5n:=@List.reverse_reverse
def z5o:=@Bool.not_true
def z5p:=@Sum.inr.inj
def z5q:=@List.filterMap_cons
def z5r:=@PySem.W.looks_mroIn
def z5s:=@PySem.wpAny_execs_nil
def z5t:=@PySem.wpAny_passesOwn
def z5u:=@List.nil_append
def z5v:=@Bool.eq_iff_iff
def z5w:=@PySem.codeAny_mono
def z5x:=@PySem.tupleKind_room_in1
def z5y:=@PySem.F.slot_list_append
def z5z:=@PySem.F.type_list_append
def z4a:=@Nat.succ.inj
def z4b:=@decide_eq_true_iff
def z4c:=@List.mem_replicate
def z4d:=@PySem.call_meets
def z4e:=@PySem.F.plainAttrs_list
def z4f:=@Bool.not_eq_true'
def z4g:=@Array.getElem?_eq_none
def z4h:=@PySem.F.plainAttrs_str
def z4i:=@PySem.F.slot_str_split
def z4j:=@PySem.Heap.get?_update_self
def z4k:=@List.length_singleton
def z4l:=@List.getElem?_reverse
def z4m:=@PySem.F.typeOf_object_class
def z4n:=@List.getElem?_eq_none
def z4o:=@List.map_uncurry_zip_eq_zipWith
def z4p:=@Nat.le_of_lt
def z4q:=@Nat.ne_of_gt
def z4r:=@List.of_mem_zip
def z4s:=@PySem.typeIs_str
def z4t:=@PySem.Calls.evalArgs_plain
def z4u:=@List.foldl_cons
def z4v:=@Int.pow_zero
def z4w:=@List.headD_cons
def z4x:=@List.cons.injEq
def z4y:=@List.mem_of_mem_drop
def z4z:=@PySem.W.hideAll_get
def z3a:=@PySem.W.plainGet_of
def z3b:=@PySem.W.callWith_K0
def z3c:=@if_true
def z3d:=@List.mem_filterMap
def z3e:=@PySem.Calls.spliced_cons
def z3f:=@PySem.F.args_str_split_2
def z3g:=@List.map_replicate
def z3h:=@PySem.Paired.length
def z3i:=@PySem.wpAny_holding
def z3j:=@PySem.Calls.spliced_nil
def z3k:=@Option.isSome_map
def z3l:=@PySem.F.entry_str_split
local macro_rules|`(tactic| ext)=>`(tactic| first|decide|(with_reducible assumption)|(with_reducible exact Int.natCast_nonneg _)|(with_reducible exact z7p (by with_reducible assumption) (by decide))|(with_reducible exact Nat.lt_of_le_of_lt (by with_reducible assumption) (by decide))|(with_reducible exact z9v (by with_reducible assumption) (by decide))|(with_reducible exact Int.le_trans (by with_reducible assumption) (by decide))|(with_reducible exact Int.lt_of_le_of_lt (by with_reducible assumption) (by decide))|(with_reducible exact Int.lt_of_lt_of_le (by decide) (by with_reducible assumption))|lia (config:={})|omega)
local macro_rules|`(∅)=>`(by ext)
local macro_rules|`(tactic|show $t)=>`(tactic|refine $t)
local macro_rules|`(tactic|ext $h:ident)=>`(tactic|cases $h:ident)
local macro_rules|`(tactic|ext($p:rcasesPat:$t))=>`(tactic|obtain $p:rcasesPat:=$t)
local macro_rules|`(tactic|erw[$[$t:term],*]$[$l]?)=>`(tactic|simp only[$[$t:term],*]$[$l]?)
section
open PySem PySem.Spec
abbrev z9:=List Nat
abbrev h_:=List Int
abbrev i_:=List Str
abbrev j_:=List Value
abbrev k_:=List Expr
abbrev l_:=List Addr
abbrev m_:=List Keyword
abbrev n_:=List Stmt
abbrev o_:=List Bool
abbrev p_:=List (Addr×Obj)
abbrev u_:=Option Value
abbrev v_:=Option Int
abbrev A_:=Option Bool
end
namespace L2
open PySem PySem.Spec PyProof.Rows
abbrev Key:=Sum Int Str
noncomputable def jf:Key->Value->Bool
 |.inl k,v=>Value.isInt k v
 |.inr x,v=>Value.isStrOf x v
noncomputable def BC(w:World):Key->Int
 |.inl k=>hashInt k
 |.inr x=>hashStr w x
theorem gb:∀{k:Key} {v:Value},jf k v=true->(∃i t,k=Sum.inl i/\v=Value.int i t)\/(∃x t,k=Sum.inr x/\v=Value.str x t)
 |.inl i,v,h=>by ext(⟨t,e⟩:Value.isInt_shape (k:=i) (v:=v) h);show .inl ⟨i,t,rfl,e⟩
 |.inr x,v,h=>by ext(⟨t,e⟩:Value.isStrOf_shape (x:=x) (v:=v) h);show .inr ⟨x,t,rfl,e⟩
def BD(i:Int)(t:Tok):jf (.inl i) (.int i t)=true:=by simp[jf,Value.isInt]
def BE(x:Str)(t:Tok):jf (.inr x) (.str x t)=true:=by simp[jf,Value.isStrOf]
def BF(a b:Int):decide ((Sum.inl a:Key)=Sum.inl b)=(a==b):=by
 by_cases e:a=b
 ·subst e;simp
 ·have h:¬(Sum.inl a:Key)=Sum.inl b:=λq=>e (Sum.inl.inj q)
  rw[z8u h];show(z7h.mpr e).symm
def BG(a b:Str):decide ((Sum.inr a:Key)=Sum.inr b)=decide (a=b):=by
 by_cases e:a=b
 ·subst e;simp
 ·have h:¬(Sum.inr a:Key)=Sum.inr b:=λq=>e (z5p q)
  rw[z8u h,z8u e]
def BH(a:Int)(b:Str):decide ((Sum.inl a:Key)=Sum.inr b)=false:=z8u (λq=>nomatch q)
def BI(a:Str)(b:Int):decide ((Sum.inr a:Key)=Sum.inl b)=false:=z8u (λq=>nomatch q)
def dh(prog:Program)(w:World):PySem.KeyKind prog w Key where
 is:=jf
 hash:=BC w
 inj:= λv a b ha hb=>by
  rcases gb ha with⟨i,t,rfl,rfl⟩|⟨x,t,rfl,rfl⟩
  ·rcases gb hb with⟨j,u,rfl,e⟩|⟨y,u,rfl,e⟩
   ·injection e with e1 _;rw[e1]
   ·show nomatch e
  ·rcases gb hb with⟨j,u,rfl,e⟩|⟨y,u,rfl,e⟩
   ·show nomatch e
   ·injection e with e1 _;rw[e1]
 byValue:=λk v h=>by rcases gb h with⟨i,t,rfl,rfl⟩|⟨x,t,rfl,rfl⟩<;>rfl
 pyHash:=λhv h=>by
  rcases gb hv with⟨i,t,rfl,rfl⟩|⟨x,t,rfl,rfl⟩
  ·show wpAny_pyHash_int h
  ·show wpAny_pyHash_str h
 eqBool:=λhu hv h=>by
  rcases gb hu with⟨i,t,rfl,rfl⟩|⟨x,t,rfl,rfl⟩
  ·rcases gb hv with⟨j,u,rfl,rfl⟩|⟨y,u,rfl,rfl⟩
   ·rw[BF]at h;show wpAny_eqBool_int h
   ·rw[BH]at h;show SeqAt.EqAt.int_str i t y u _ _ _ _ h
  ·rcases gb hv with⟨j,u,rfl,rfl⟩|⟨y,u,rfl,rfl⟩
   ·rw[BI]at h;show SeqAt.EqAt.str_int x t j u _ _ _ _ h
   ·rw[BG]at h;show wpAny_eqBool_str h
 «strs»:= λk x t v h=>by
  rcases gb h with⟨i,u,rfl,e⟩|⟨y,u,rfl,e⟩
  ·show nomatch e
  ·injection e with e1 _
   subst e1;ext v<;>rfl
def BJ(prog:Program)(w:World)(i:Int)(t:Tok):(dh prog w).is (.inl i) (.int i t)=true:=BD i t
def BK(prog:Program)(w:World)(x:Str)(t:Tok):(dh prog w).is (.inr x) (.str x t)=true:=BE x t
inductive V where
 |non|bl (b:Bool)|int (i:Int)|str (x:Str)|byt (b:Array UInt8)|flt (b:UInt64)|ref (a:Addr)|ty (n:String)
 deriving DecidableEq
abbrev _root_.B_:=List V
abbrev _root_.C_:=Option V
def RelV:V->Value->Prop
 |.non,u=>u=Value.none
 |.bl b,u=>u=Value.bool b
 |.int i,u=>∃t,u=Value.int i t
 |.str x,u=>∃t,u=Value.str x t
 |.byt b,u=>∃t,u=Value.bytes b t
 |.flt b,u=>∃t,u=Value.float b t
 |.ref a,u=>u=Value.ref a
 |.ty n,u=>u=Value.type n
abbrev Vals:B_->j_->Prop:=Paired RelV
def Vals.length{xs:B_}{us:j_}(r:Vals xs us):xs.length=us.length:=z3h r
theorem Vals.get:∀{xs:B_} {us:j_} {i:Nat} {x:V},Vals xs us->xs[i]?=some x->∃u,us[i]?=some u/\RelV x u
 |_,_,_,_,.nil,e=>by simp at e
 |_,_,0,_,.cons r _,e=>by simp at e;subst e;show⟨_,rfl,r⟩
 |_,_,i+1,x,.cons _ t,e=>by ext(⟨u,h1,h2⟩:Vals.get (i:=i) (x:=x) t (⇑e));show⟨u,⇑h1,h2⟩
theorem Vals.set{x:V}{u:Value}(r:RelV x u):∀{xs:B_} {us:j_} (i:Nat),Vals xs us->Vals (xs.set i x) (us.set i u)
 |_,_,_,.nil=>.nil
 |_,_,0,.cons _ t=>.cons r t
 |_,_,i+1,.cons q t=>.cons q (Vals.set r i t)
theorem Vals.append:∀{xs ys:B_} {us ws:j_},Vals xs us->Vals ys ws->Vals (xs++ys) (us++ws)
 |_,_,_,_,.nil,s=>s
 |_,_,_,_,.cons r t,s=>.cons r (Vals.append t s)
theorem Vals.take:∀{xs:B_} {us:j_} (n:Nat),Vals xs us->Vals (xs.take n) (us.take n)
 |_,_,0,_=>.nil
 |_,_,_+1,.nil=>.nil
 |_,_,n+1,.cons r t=>.cons r (Vals.take n t)
theorem Vals.drop:∀{xs:B_} {us:j_} (n:Nat),Vals xs us->Vals (xs.drop n) (us.drop n)
 |_,_,0,r=>r
 |_,_,_+1,.nil=>.nil
 |_,_,n+1,.cons _ t=>Vals.drop n t
def RelO:C_->u_->Prop
 |some v,some u=>RelV v u
 |none,none=>True
 |_,_=>False
def KV{κ:Type}:List (κ×V)->List (κ×Value)->Prop:=Paired λ(p:κ×V) (q:κ×Value)=>p.1=q.1/\RelV p.2 q.2
noncomputable def kV:Key->V
 |.inl i=>.int i
 |.inr x=>.str x
inductive HO where
 |lst (xs:B_)
 |tup (xs:B_)
 |dK (kvs:List (Key×V))|dT (kvs:List (List Key×V))
 |set (S:Int->Bool) (n:Nat)
 |ins (C dx:Addr) (fs:List (Str×V))
 |own (x:Addr)
 |xd (fs:List (Str×V))
 |met (f x:Addr)
 |rng (lo hi:Int)
 |frz (o:Obj) (u:HO)
 |tbl (ps:Array Value)
 |ext (φ:Heap->Prop)
abbrev Hp:=Addr->Option HO
noncomputable def upd(H:Hp)(a:Addr)(o:HO):Hp:=λb=>if b=a then some o else H b
def bi{H:Hp}{a:Addr}{o:HO}:upd H a o a=some o:=by unfold upd;rw[if_pos rfl]
def aJ{H:Hp}{a b:Addr}{o:HO}(h:b≠a):upd H a o b=H b:=by unfold upd;rw[if_neg h]
def BL{H:Hp}{a b:Addr}{o u:HO}(h:H a=some o)(h':H b=some u)(d:o≠u):a≠b:=by intro e;subst e;rw[h]at h';show d (z7f h')
def bZ{H:Hp}{a b:Addr}{o:HO}(h:H a=some o)(h':H b=none):a≠b:=by intro e;subst e;rw[h]at h';ext h'
section
variable (P:Program)(w:World)
def ObjOk(H:Hp)(h:Heap)(a:Addr):HO->Prop
 |.lst xs=>xs.length<=sizeLine/\∃(its:j_) (n:Nat),Vals xs its/\h.get? a=some {cls:=.type "list",data:=.seq its.toArray n}
 |.tup xs=>xs.length<=sizeLine/\∃its:j_,Vals xs its/\IsTup h a its.toArray
 |.dK kvs=>kvs.length<=sizeLine/\(a==sysModules)=false/\∃vs,KV kvs vs/\h.DictOf (dh P w) a vs
 | .dT kvs=>kvs.length<=sizeLine/\(a==sysModules)=false/\∃xs:List (List Key×Addr×Value),
   Paired (λ(p:List Key×V) (q:List Key×Addr×Value)=>p.1=q.1/\H q.2.1=some (.tup (p.1.map kV))/\RelV p.2 q.2.2) kvs xs /\
   ∃o es ep,h.get? a=some o/\o.ExactDict/\o.data=.dict es ep/\es.toList=xs.map (entryOfKey (tupleKind (dh P w)))/\(xs.map (·.1)).Nodup
 |.set S n=>h.SetOf (intKind P w) a S n
 | .ins C dx fs=>H dx=some (.own a)/\fs.length<=1000/\dx≠a/\h.get? a=some (W.instObj C dx) /\
   ∃mA,h.Ns1 dx mA/\(∀f,RelO (fs.lookup f) (mA f))/\PySem.Within mA (fs.map (·.1))
 |.own _=>∃o,h.get? a=some o
 |.xd fs=>∃mA,h.Ns1 a mA/\∀f,RelO (fs.lookup f) (mA f)
 |.rng lo hi=>∃t u v,h.get? a=some {cls:=.type "range",data:=.fields #[.int lo t,.int hi u,.int 1 v]}
 |.frz o u=>h.get? a=some o/\ObjOk H h a u
 |.tbl ps=>h.get? a=some {cls:=.none,data:=.fields ps}
 |.met f x=>h.get? a=some (W.methodObj (.ref f) (.ref x))
 |.ext φ=>φ h/\(∃o,h.get? a=some o)/\∀h1 h2:Heap,φ h1->(∀o,h1.get? a=some o->h2.get? a=some o)->φ h2
def HOk(H:Hp)(h:Heap):Prop:=∀a o,H a=some o->ObjOk P w H h a o
end
section
variable {P:Program}{w:World}{H H':Hp}{h h':Heap}{a:Addr}{o:HO}
def ObjOk.lt(x:ObjOk P w H h a o):a<h.objs.size:=by
 cases o with
 |lst xs=>ext(⟨_,_,_,_,e⟩:x);show z9n e
 |tup xs=>ext(⟨_,_,_,p⟩:x);show p.lt
 |dK kvs=>ext(⟨_,_,_,_,o,_,_,e,_⟩:x);show z9n e
 |dT kvs=>ext(⟨_,_,_,_,o,_,_,e,_⟩:x);show z9n e
 |set S n=>ext(⟨o,_,_,_,e,_⟩:x);show z9n e
 |ins C dx fs=>ext(⟨_,_,_,e,_⟩:x);show z9n e
 |own y=>ext(⟨_,e⟩:x);show z9n e
 |xd fs=>ext(⟨_,⟨_,_,_,e,_⟩,_⟩:x);show z9n e
 |rng lo hi=>ext(⟨_,_,_,e⟩:x);show z9n e
 |frz ob u=>ext(⟨e,_⟩:x);show z9n e
 |tbl ps=>show z9n (show h.get? a=some _ from x)
 |met f y=>show z9n (show h.get? a=some _ from x)
 |ext φ=>ext(⟨_,⟨_,e⟩,_⟩:x);show z9n e
theorem Paired.mapP{α β:Type}{F G:α->β->Prop}:∀{y7:List α} {y8:List β},Paired F y7 y8->(∀a b,F a b->G a b)->Paired G y7 y8
 |_,_,.nil,_=>.nil
 |_,_,.cons r t,f=>.cons (f _ _ r) (Paired.mapP t f)
def ObjOk.stay(x:ObjOk P w H h a o)(k:∀b u,(b=a\/H b=some (.own a))->h.get? b=some u->h'.get? b=some u)(ho:∀b,H b=some (.own a)->H' b=some (.own a))(ht:∀b xs,H b=some (.tup xs)->H' b=some (.tup xs)):ObjOk P w H' h' a o:=by
 induction o with
 |lst xs=>ext(⟨z,its,n,r,e⟩:x);show⟨z,its,n,r,k _ _ (.inl rfl) e⟩
 |tup xs=>ext(⟨z,its,r,ob,e,c⟩:x);show⟨z,its,r,ob,k _ _ (.inl rfl) e,c⟩
 |dK kvs=>ext(⟨z,y,vs,r,ob,es,ep,e,c⟩:x);show⟨z,y,vs,r,ob,es,ep,k _ _ (.inl rfl) e,c⟩
 |dT kvs=>ext(⟨z,y,xs,r,ob,es,ep,e,c⟩:x);show⟨z,y,xs,Paired.mapP r λp q z=>⟨z.1,ht _ _ z.2.1,z.2.2⟩,ob,es,ep,k _ _ (.inl rfl) e,c⟩
 |set S n=>ext(⟨ob,es,ep,t,e,c⟩:x);show⟨ob,es,ep,t,k _ _ (.inl rfl) e,c⟩
 |ins C dx fs=>ext(⟨d,z,ne,e,mA,⟨od,es,ep,e2,c⟩,r⟩:x);show⟨ho _ d,z,ne,k _ _ (.inl rfl) e,mA,⟨od,es,ep,k _ _ (.inr d) e2,c⟩,r⟩
 |own y=>ext(⟨ob,e⟩:x);show⟨ob,k _ _ (.inl rfl) e⟩
 |xd fs=>ext(⟨mA,⟨od,es,ep,e,c⟩,r⟩:x);show⟨mA,⟨od,es,ep,k _ _ (.inl rfl) e,c⟩,r⟩
 |rng lo hi=>ext(⟨t,u,v,e⟩:x);show⟨t,u,v,k _ _ (.inl rfl) e⟩
 |frz ob u ih=>ext(⟨e,q⟩:x);show⟨k _ _ (.inl rfl) e,ih q⟩
 |tbl ps=>have e:h.get? a=some {cls:=.none,data:=.fields ps}:=x;change h'.get? a=some {cls:=.none,data:=.fields ps};show k a _ (.inl rfl) e
 |met f y=>have e:h.get? a=some (W.methodObj (.ref f) (.ref y)):=x;change h'.get? a=some (W.methodObj (.ref f) (.ref y));show k a _ (.inl rfl) e
 |ext φ=>ext(⟨p,⟨o,e⟩,st⟩:x);show⟨st _ _ p λo q=>k _ _ (.inl rfl) q,⟨o,k _ _ (.inl rfl) e⟩,st⟩
def HOk.lt(x:HOk P w H h)(e:H a=some o):a<h.objs.size:=(x a o e).lt
def HOk.fresh(x:HOk P w H h)(e:h.objs.size<=a):H a=none:=by
 cases q:H a with
 |none=>rfl
 |some u=>show absurd (z9v (x.lt q) e) (z7v _)
def HOk.kept(x:HOk P w H h)(k:∀b u,h.get? b=some u->h'.get? b=some u):HOk P w H h':=λa o e=>(x a o e).stay (λb u _ q=>k b u q) (λ_ q=>q) λ_ _ q=>q
def HOk.laid(x:HOk P w H h)(k:∀b u,h.get? b=some u->h'.get? b=some u)(hp:h.objs.size<=a)(new:ObjOk P w (upd H a o) h' a o):HOk P w (upd H a o) h':=λb u e=>by
 have hn:=x.fresh hp;by_cases hb:b=a
 ·subst hb;rw[bi]at e;ext e;show new
 ·rw[aJ hb]at e
  show(x b u e).stay (λc v _ q=>k c v q) (λc q=>by rw[aJ (bZ q hn)];show q) λc xs q=>by rw[aJ (bZ q hn)];show q
end
def Rd(H:Hp)(a:Addr)(u:HO):Prop:=H a=some u\/∃o,H a=some (.frz o u)
def Rd.ok{P:Program}{w:World}{H:Hp}{h:Heap}{a:Addr}{u:HO}(r:Rd H a u)(x:HOk P w H h):ObjOk P w H h a u:=by
 ext((r|⟨o,r⟩):r)
 ·show x a u r
 ·ext(⟨_,q⟩:x a _ r)
  show q
def Mut:Option HO->Prop
 |some (.lst _)=>True
 |some (.dK _)=>True
 |some (.dT _)=>True
 |some (.set _ _)=>True
 |some (.ins _ _ _)=>True
 |some (.ext _)=>True
 |_=>False
section
variable {P:Program}{w:World}{H:Hp}{h h':Heap}{x e:Addr}{o':HO}
def HOk.write(ok:HOk P w H h)(mu:Mut (H x))(he:e=x\/H e=some (.own x))(k:∀b u,b≠e->h.get? b=some u->h'.get? b=some u)(heo:∃u,h'.get? e=some u)(new:ObjOk P w (upd H x o') h' x o'):HOk P w (upd H x o') h':=λb u q=>by
 have nown:∀c y,H c=some (.own y)->c≠x:=λc y r z=>by subst z;rw[r]at mu;show mu
 have ntup:∀c xs,H c=some (.tup xs)->c≠x:=λc xs r z=>by subst z;rw[r]at mu;show mu
 by_cases hb:b=x
 ·subst hb;rw[bi]at q;ext q;show new
 ·rw[aJ hb]at q
  by_cases hbe:b=e
  ·have q':H b=some (.own x):=by
    ext((z|z):he)
    ·show absurd (hbe.trans z) hb
    ·rw[hbe];show z
   rw[q]at q';ext q';ext(⟨v,hv⟩:heo);show⟨v,by rw[hbe];show hv⟩
  ·show(ok b u q).stay (λc v hc r=>k c v ?_ r) (λc r=>by rw[aJ (nown c b r)];show r) λc xs r=>by rw[aJ (ntup c xs r)];show r
   ext((rfl|hc):hc)
   ·show hbe
   ·rintro rfl
    ext((z|z):he)
    ·show nown c b hc z
    ·rw[hc]at z;ext z;show hb rfl
end
structure Un (fs ex:l_) (H H':Hp) (h h':Heap):Prop where
 keep:∀b o,h.get? b=some o->H b=none->b∉fs->b∉ex->h'.get? b=some o
 slot:∀b o,h.get? b=some o->H b=none->b∈fs->b∉ex->∃sl,h'.get? b=some {o with slots:=sl}
 free:∀b o,h.get? b=some o->H b=none->b∉ex->H' b=none
 there:∀b o,h.get? b=some o->b∉ex->∃o',h'.get? b=some o'
 tups:∀b xs,H b=some (.tup xs)->H' b=some (.tup xs)
 frzs:∀b o u,H b=some (.frz o u)->H' b=some (.frz o u)
 tbls:∀b ps,H b=some (.tbl ps)->∃more,H' b=some (.tbl (ps++more))
section
variable {fs ex:l_}{H H1:Hp}{h h1 h':Heap}{a x e:Addr}{o:HO}
def Un.any(u:Un fs ex H H1 h h1){b:Addr}{ob:Obj}(q:h.get? b=some ob)(n:H b=none)(hx:b∉ex):∃sl,h1.get? b=some {ob with slots:=sl}:=by
 by_cases hb:b∈fs
 ·show u.slot b ob q n hb hx
 ·show⟨ob.slots,u.keep b ob q n hb hx⟩
def Un.kept(k:∀b u,h.get? b=some u->h'.get? b=some u):Un fs ex H H h h':=
 ⟨λb ob q _ _ _=>k b ob q,λb ob q _ _ _=>⟨ob.slots,k b ob q⟩,λ_ _ _ n _=>n,λb ob q _=>⟨ob,k b ob q⟩,λ_ _ q=>q,λ_ _ _ q=>q,λ_ ps q=>⟨#[],by rw[q];simp⟩⟩
def Un.refl:Un fs ex H H h h:=Un.kept λ_ _ q=>q
def Un.laid(k:∀b u,h.get? b=some u->h'.get? b=some u)(hp:h.objs.size<=a)(hn:H a=none):Un fs ex H (upd H a o) h h' where
 keep:=λb u q _ _ _=>k b u q
 slot:=λb u q _ _ _=>⟨u.slots,k b u q⟩
 free:=λb u q n _=>by rw[aJ (z8n (z9v (z9n q) hp))];show n
 there:=λb u q _=>⟨u,k b u q⟩
 tups:=λb xs q=>by rw[aJ (bZ q hn)];show q
 frzs:=λb u xs q=>by rw[aJ (bZ q hn)];show q
 tbls:=λb ps q=>⟨#[],by rw[aJ (bZ q hn),q];simp⟩
def Un.write(mu:Mut (H x))(he:e=x\/H e=some (.own x))(k:∀b u,b≠e->h.get? b=some u->h'.get? b=some u)(heo:∃u,h'.get? e=some u):Un fs ex H (upd H x o) h h':=by
 have hx:∀b,H b=none->b≠x:=λb n z=>by subst z;rw[n]at mu;show mu
 have hb:∀b,H b=none->b≠e:=λb n z=>by
  subst z;ext((r|r):he)
  ·show hx b n r
  ·rw[n]at r;ext r
 have hm:∀b u,H b=some u->¬Mut (some u)->b≠x:=λb u q nm z=>by subst z;rw[q]at mu;show nm mu
 show⟨λb u q n _ _=>k b u (hb b n) q,λb u q n _ _=>⟨u.slots,k b u (hb b n) q⟩,λb u q n _=>by rw[aJ (hx b n)];show n,λb u q _=>?_,
  λb xs q=>by rw[aJ (hm b _ q λz=>z)];show q,λb u xs q=>by rw[aJ (hm b _ q λz=>z)];show q,λb ps q=>⟨#[],by rw[aJ (hm b _ q λz=>z),q];simp⟩⟩
 by_cases hbe:b=e
 ·subst hbe;show heo
 ·show⟨u,k b u hbe q⟩
end
noncomputable def trk(h:Heap)(H:Hp):l_:=(List.range h.objs.size).filter λa=>(H a).isSome
def ge(h:Heap)(H:Hp):Heap:=W.hideAll h (trk h H)
def BM(h:Heap)(H:Hp):(ge h H).objs.size=h.objs.size:=W.hideAll_size _ _
def BN{h:Heap}{H:Hp}{b:Addr}{o:Obj}(e:h.get? b=some o)(n:H b=none):(ge h H).get? b=some o:=
 z4z _ e λhm=>by have q:(H b).isSome=true:=(z5c.mp hm).2;rw[n]at q;simp at q
def BO{h:Heap}{H:Hp}{b:Addr}{o:Obj}(e:(ge h H).get? b=some o):h.get? b=some o/\H b=none:=by
 have e':h.get? b=some o:=z5d (trk h H) e;show⟨e',?_⟩;cases q:H b with
 |none=>rfl
 |some x=>have hm:b∈trk h H:=z5c.mpr ⟨z7q.mpr (z9n e'),by simp[q]⟩;have z:(ge h H).get? b=none:=W.hideAll_none (trk h H) hm;rw[z]at e;ext e
noncomputable def BP(g h:Heap)(L:Addr):p_:=(List.range h.objs.size).filterMap λa=>if a=L\/(g.get? a).isSome=true then none else(h.get? a).map λo=>(a,o)
def rest(g h:Heap)(L d:Addr):p_:=(BP g h L).filter λp=>decide (p.1≠d)
structure Mod (K:K0) (mg:Str->u_) (base:Heap):Prop where
 kin:K.In base
 glob:base.Ns mainGlobals mg
 blt:∃mb,base.Ns builtinsNs mb/\∀x:Str,x ≠ "__name__"->mb x=bootBuiltins x
 nolimit:base.NoLimit
structure Cx where
 prog:Program
 w:World
 K:K0
 mg:Str->u_
 base:Heap
 A:Around
 N:i_
 s₀:Shared
 H₀:Hp
 env:Env
 outer:List Env
 stack:List Env
 ex:l_
 fn:Str->Bool
 calm:Bool
 pn:p_
 xe:Value->Shared->Prop
abbrev SE(a:Expr)(l:k_)(X:Cx):Prop:=starEach (a::l) X.env=(false,eval a X.env)::starEach l X.env
abbrev BT(p:Pos)(l:k_)(X:Cx):Prop:=(backTo p (starEach l X.env)).any (·.1)=false
abbrev DB(x:Str):Prop:=(x==("__debug__" : Str))=false
noncomputable def frs(l:List Env):l_:=l.filterMap (·.frame)
abbrev Cx.fs(X:Cx):l_:=frs X.outer
def Vis(sc:Scope)(x:Str):Prop:=sc.names.lookup x=some .local\/sc.names.lookup x=some .cell\/sc.names.lookup x=some .free
def Loc(sc:Scope)(x:Str):Prop:=sc.names.lookup x=some .local\/sc.names.lookup x=some .cell
def BQ(env:Env)(h:Heap)(m:Str->u_)(x:Str)(u:Value):Prop:=
 (env.kindOf x=some .local/\m x=some u)\/((env.kindOf x=some .cell\/env.kindOf x=some .free)/\∃c,env.cells.lookup x=some c/\h.IsCell c (some u))
structure Cx.Ok (X:Cx):Prop where
 mod:Mod X.K X.mg X.base
 kind:X.env.scope.kind=.function
 glob:X.env.globals=mainGlobals
 blt:X.env.builtins=builtinsNs
 above:X.s₀.heap.objs.size<=X.env.locals
 inj:∀x y c,X.env.cells.lookup x=some c->X.env.cells.lookup y=some c->x=y
 has:∀x,(X.env.kindOf x=some .cell\/X.env.kindOf x=some .free)->∃c,X.env.cells.lookup x=some c
 cab:∀x c,X.fn x=true->X.env.cells.lookup x=some c->X.s₀.heap.objs.size<=c
 hd:X.calm=true->X.A.handled=none
 frames:X.A.frames=some X.stack
 stk:X.stack=X.outer\/(X.stack=X.env::X.outer/\X.env.frame=some X.env.locals)
 exf:∀b∈X.ex,b≠X.env.locals/\∀x c,X.env.cells.lookup x=some c->c≠b
 bs:∀b o,X.base.get? b=some o->X.s₀.heap.get? b=some o/\X.H₀ b=none
 bsz:X.base.objs.size<=X.s₀.heap.objs.size
 noex:∀b o,X.base.get? b=some o->b∉X.ex
 exfs:∀b∈X.ex,b∉X.fs
 funs:X.s₀.heap.FunFrames X.base X.outer
 frf:∀b∈X.fs,X.H₀ b=none
structure Inv (X:Cx) (G_:p_) (σ:List C_) (H:Hp) (s:Shared):Prop where
 ok:X.Ok
 os:s.os=X.s₀.os
 bare:AllBare s.gens
 base:Un X.fs X.ex X.H₀ H X.s₀.heap s.heap
 loc:∃m,s.heap.Ns X.env.locals m/\∀(i:Nat) (x:Str) (v:V),X.N[i]?=some x->σ[i]?=some (some v)->Vis X.env.scope x->∃u,RelV v u/\BQ X.env s.heap m x u
 cell:∀x c,X.env.cells.lookup x=some c->∃v,s.heap.IsCell c v
 free:H X.env.locals=none
 freeC:∀x c,X.env.cells.lookup x=some c->H c=none
 pin:∀p∈X.pn++G_,s.heap.get? p.1=some p.2/\H p.1=none/\p.1≠X.env.locals/\p.1∉X.fs/\∀v,p.2.data≠.cell v
 hok:HOk X.prog X.w H s.heap
 len:σ.length=X.N.length
section
variable {X:Cx}{G_:p_}{σ:List C_}{H H':Hp}{s:Shared}{h':Heap}
def Cx.Ok.nofr(ok:X.Ok){b:Addr}{o:Obj}(e:X.base.get? b=some o):b∉X.fs:=λhb=>by have:=(ok.funs.mem hb).1;rw[e]at this;ext this
def Inv.bs(I:Inv X G_ σ H s):∀b o,X.base.get? b=some o->s.heap.get? b=some o/\H b=none:=λb o e=>⟨I.base.keep b o (I.ok.bs b o e).1 (I.ok.bs b o e).2 (I.ok.nofr e) (I.ok.noex b o e),I.base.free b o (I.ok.bs b o e).1 (I.ok.bs b o e).2 (I.ok.noex b o e)⟩
def Inv.bk(I:Inv X G_ σ H s):∀b o,X.base.get? b=some o->s.heap.get? b=some o:=λb o e=>(I.bs b o e).1
def Inv.mod(I:Inv X G_ σ H s):Mod X.K X.mg X.base:=I.ok.mod
def Inv.kIn(I:Inv X G_ σ H s):X.K.In s.heap:=I.ok.mod.kin.keeps I.bk
def Inv.lt(I:Inv X G_ σ H s):X.env.locals<s.heap.objs.size:=let⟨_,hn,_⟩:=I.loc;hn.lt
def Inv.sz(I:Inv X G_ σ H s):X.s₀.heap.objs.size<=s.heap.objs.size:=z7p I.ok.above (z4p I.lt)
def Inv.nofs(I:Inv X G_ σ H s){a:Addr}(h:s.heap.objs.size<=a):a∉X.fs:=λhb=>by ext(⟨_,o,ho,_⟩:I.ok.funs.mem hb);show absurd (z9v (z9n ho) (z7p I.sz h)) (z7v _)
def Inv.cne(I:Inv X G_ σ H s):∀x c,X.env.cells.lookup x=some c->c≠X.env.locals:=λx c e z=>by ext(⟨v,o,ho,hd⟩:I.cell x c e);ext(⟨m,⟨o',es,ep,ho',hd',_⟩,_⟩:I.loc);rw[z,ho']at ho;ext ho;rw[hd']at hd;ext hd
def Inv.funs(I:Inv X G_ σ H s):s.heap.FunFrames X.base X.outer:=by
 have all:∀(l:List Env),(∀b∈frs l,b∈X.fs)->X.s₀.heap.FunFrames X.base l->s.heap.FunFrames X.base l:=by
  intro l
  induction l with
  |nil=>intro _ _;trivial
  | cons env r ih=>
    intro hs hl;ext(⟨hk,⟨L,o,hf,hn,ho,hd⟩,hr⟩:hl);have hL:L∈X.fs:=hs L (by unfold frs;rw[z5q,hf];show z9b);ext(⟨sl,e⟩:I.base.slot L o ho (I.ok.frf L hL) hL λz=>I.ok.exfs L z hL)
    show⟨hk,⟨L,_,hf,hn,e,hd⟩,ih (λb hb=>hs b (by unfold frs;rw[z5q,hf];show z9d _ hb)) hr⟩
 show all X.outer (λ_ hb=>hb) I.ok.funs
def Inv.stack(I:Inv X G_ σ H s):s.heap.FunFrames X.base X.stack:=by
 ext((e|⟨e,hf⟩):I.ok.stk)
 ·rw[e];show I.funs
 ·rw[e]
  ext(⟨m,hn,_⟩:I.loc);show .cons (by rw[I.ok.kind];decide) hf hn ?_ I.funs;show Heap.get?_none_of_le (z7p I.ok.bsz I.ok.above)
def Inv.stkSub(I:Inv X G_ σ H s):∀b∈frs X.stack,b∈X.env.locals::X.fs:=λb hb=>by
 ext((e|⟨e,hf⟩):I.ok.stk)
 ·rw[e]at hb;show z9d _ hb
 ·rw[e]at hb
  unfold frs at hb;rw[z5q,hf]at hb;show hb
def Inv.stkFree(I:Inv X G_ σ H s):∀b∈frs X.stack,H b=none:=λb hb=>by
 rcases z9g.mp (I.stkSub b hb)with e|hb
 ·rw[e];show I.free
 ·ext(⟨_,o,ho,_⟩:I.ok.funs.mem hb)
  show I.base.free b o ho (I.ok.frf b hb) λz=>I.ok.exfs b z hb
def Inv.step{g':Array GenState}{t':Nat}{d':Drawn}{ch:l_}(I:Inv X G_ σ H s)(hch:∀b∈ch,(b∈X.ex\/X.s₀.heap.objs.size<=b)/\b≠X.env.locals/\(∀x c,X.env.cells.lookup x=some c->c≠b)/\∀p∈X.pn++G_,p.1≠b)(keep:∀b o,b≠X.env.locals->b∉X.fs->b∉ch->s.heap.get? b=some o->H b=none->h'.get? b=some o)(slot:∀b o,b≠X.env.locals->b∈X.fs->b∉ch->s.heap.get? b=some o->H b=none->∃sl,h'.get? b=some {o with slots:=sl})(free:∀b o,b∉ch->s.heap.get? b=some o->H b=none->H' b=none)(there:∀b o,b∉ch->s.heap.get? b=some o->∃o',h'.get? b=some o')(tups:∀b xs,H b=some (.tup xs)->H' b=some (.tup xs))(frzs:∀b o u,H b=some (.frz o u)->H' b=some (.frz o u))(tbls:∀b ps,H b=some (.tbl ps)->∃more,H' b=some (.tbl (ps++more)))(ns:∀m,s.heap.Ns X.env.locals m->h'.Ns X.env.locals m)(hok:HOk X.prog X.w H' h')(hg:AllBare g'):
  Inv X G_ σ H' {s with heap:=h',gens:=g',drawn:=d',toks:=t'}:=by
 have neL:∀b o,X.s₀.heap.get? b=some o->b≠X.env.locals:=λb o e=>z8n (z9v (z9n e) I.ok.above)
 have neC:∀b o,X.s₀.heap.get? b=some o->b∉X.ex->b∉ch:=λb o e hx hb=>by
  rcases(hch b hb).1 with z|z
  ·show hx z
  ·show absurd (z9v (z9n e) z) (z7v _)
 have cellK:∀x c,X.env.cells.lookup x=some c->∀v,s.heap.IsCell c v->h'.IsCell c v:=λx c e v z_=>by
  ext(⟨o,ho,hd⟩:z_);have nch:c∉ch:=λz=>(hch c z).2.2.1 x c e rfl
  by_cases hc:c∈X.fs
  ·ext(⟨sl,q⟩:slot c o (I.cne x c e) hc nch ho (I.freeC x c e))
   show⟨_,q,hd⟩
  ·show⟨o,keep c o (I.cne x c e) hc nch ho (I.freeC x c e),hd⟩
 show⟨I.ok,I.os,hg,⟨λb o e n hb hx=>?_,λb o e n hb hx=>?_,λb o e n hx=>?_,λb o e hx=>?_,λb xs e=>tups b xs (I.base.tups b xs e),λb o xs e=>frzs b o xs (I.base.frzs b o xs e),λb ps e=>?_⟩,?_,λx c e=>?_,?_,λx c e=>?_,λp hp=>?_,hok,I.len⟩
 ·show keep b o (neL b o e) hb (neC b o e hx) (I.base.keep b o e n hb hx) (I.base.free b o e n hx)
 ·ext(⟨sl,e1⟩:I.base.slot b o e n hb hx)
  ext(⟨sl',e2⟩:slot b _ (neL b o e) hb (neC b o e hx) e1 (I.base.free b o e n hx));show⟨sl',e2⟩
 ·ext(⟨o',e1⟩:I.base.there b o e hx)
  show free b o' (neC b o e hx) e1 (I.base.free b o e n hx)
 ·ext(⟨o',e1⟩:I.base.there b o e hx)
  show there b o' (neC b o e hx) e1
 ·ext(⟨m1,e1⟩:I.base.tbls b ps e)
  ext(⟨m2,e2⟩:tbls b _ e1);show⟨m1++m2,by rw[e2,Array.append_assoc]⟩
 ·ext(⟨m,hn,hl⟩:I.loc)
  show⟨m,ns m hn,λi x v e1 e2 e3=>?_⟩;ext(⟨u,r,l⟩:hl i x v e1 e2 e3);show⟨u,r,?_⟩;ext((l|⟨k,c,e,z⟩):l)
  ·show .inl l
  ·show .inr ⟨k,c,e,cellK x c e _ z⟩
 ·ext(⟨v,z⟩:I.cell x c e)
  show⟨v,cellK x c e v z⟩
 ·ext(⟨m,⟨o,_,_,ho,_⟩,_⟩:I.loc)
  show free _ o (λz=>(hch _ z).2.1 rfl) ho I.free
 ·ext(⟨v,o,ho,hd⟩:I.cell x c e)
  show free c o (λz=>(hch c z).2.2.1 x c e rfl) ho (I.freeC x c e)
 ·ext(⟨e,n,ne,nf,d⟩:I.pin p hp)
  have nch:p.1∉ch:=λz=>(hch p.1 z).2.2.2 p hp rfl
  show⟨keep p.1 p.2 ne nf nch e n,free p.1 p.2 nch e n,ne,nf,d⟩
def Inv.un{t':Nat}(I:Inv X G_ σ H s)(u:Un X.fs [] H H' s.heap h')(hok:HOk X.prog X.w H' h'):Inv X G_ σ H' {s with heap:=h',toks:=t'}:=by
 ext(⟨m,⟨o,es,ep,ho,r⟩,_⟩:id I.loc);ext(⟨sl,hL⟩:u.any ho I.free (by simp));show I.step (g':=s.gens) (d':=s.drawn) (ch:=[]) (λ_ z=>nomatch z) (λb o _ hb _ e n=>u.keep b o e n hb (by simp)) (λb o _ hb _ e n=>u.slot b o e n hb (by simp)) (λb o _ e n=>u.free b o e n (by simp)) (λb o _ e=>u.there b o e (by simp)) u.tups u.frzs u.tbls (λm' hm=>by ext(⟨o',es',ep',ho',r'⟩:hm);rw[ho]at ho';ext ho';show⟨_,es',ep',hL,r'⟩) hok I.bare
def Inv.call{g':Array GenState}{t':Nat}{d':Drawn}{ch:l_}(I:Inv X G_ σ H s)(u:Un (frs X.stack) ch H H' s.heap h')(hok:HOk X.prog X.w H' h')(hg:AllBare g')(hch:∀b∈ch,(b∈X.ex\/X.s₀.heap.objs.size<=b)/\b≠X.env.locals/\(∀x c,X.env.cells.lookup x=some c->c≠b)/\∀p∈X.pn++G_,p.1≠b):
  Inv X G_ σ H' {s with heap:=h',gens:=g',drawn:=d',toks:=t'}:=by
 ext(⟨m,⟨o,es,ep,ho,r⟩,_⟩:id I.loc);ext(⟨sl,hL⟩:u.any ho I.free λz=>(hch _ z).2.1 rfl)
 show I.step (ch:=ch) hch (λb o hL hb hc e n=>u.keep b o e n (λz=>(z9g.mp (I.stkSub b z)).elim hL hb) hc) (λb o _ _ hc e n=>u.any e n hc) (λb o hc e n=>u.free b o e n hc) (λb o hc e=>u.there b o e hc) u.tups u.frzs u.tbls (λm' hm=>by ext(⟨o',es',ep',ho',r'⟩:hm);rw[ho]at ho';ext ho';show⟨_,es',ep',hL,r'⟩) hok hg
def Inv.turned{t':Nat}{it:Addr}(I:Inv X G_ σ H s)(k:∀b o,b≠it->s.heap.get? b=some o->h'.get? b=some o)(hn:H it=none)(hL:it≠X.env.locals)(h1:it∈X.ex\/X.s₀.heap.objs.size<=it)(h2:∀x c,X.env.cells.lookup x=some c->c≠it)(h3:∀p∈X.pn++G_,p.1≠it):Inv X G_ σ H {s with heap:=h',toks:=t'}:=by
 have nit:∀b u,H b=some u->b≠it:=λb u e z=>by rw[z,hn]at e;ext e
 show I.step (g':=s.gens) (d':=s.drawn) (ch:=[it]) (λb hb=>?_) (λb o _ _ hc e _=>k b o (λz=>hc (by simp[z])) e) (λb o _ _ hc e _=>⟨o.slots,k b o (λz=>hc (by simp[z])) e⟩) (λ_ _ _ _ n=>n)
  (λb o hc e=>⟨o,k b o (λz=>hc (by simp[z])) e⟩) (λ_ _ e=>e) (λ_ _ _ e=>e) (λb ps e=>⟨#[],by rw[e];simp⟩) (λm hm=>?_) (λb u e=>?_) I.bare
 ·have e:b=it:=⇑hb
  subst e;show⟨h1,hL,h2,h3⟩
 ·ext(⟨o,es,ep,ho,r⟩:hm)
  show⟨o,es,ep,k _ o (Ne.symm hL) ho,r⟩
 ·show(I.hok b u e).stay (λc v hc q=>k c v ?_ q) (λ_ q=>q) λ_ _ q=>q
  ext((z|z):hc)
  ·rw[z];show nit b u e
  ·show nit c _ z
def Inv.tok(I:Inv X G_ σ H s)(t:Nat):Inv X G_ σ H {s with toks:=t}:=I.un (h':=s.heap) (t':=t) Un.refl I.hok
def Inv.kept{t':Nat}(I:Inv X G_ σ H s)(k:∀b u,s.heap.get? b=some u->h'.get? b=some u):Inv X G_ σ H {s with heap:=h',toks:=t'}:=I.un (Un.kept k) (I.hok.kept k)
def Inv.laid{a:Addr}{o:HO}{t':Nat}(I:Inv X G_ σ H s)(k:∀b u,s.heap.get? b=some u->h'.get? b=some u)(hp:s.heap.objs.size<=a)(new:ObjOk X.prog X.w (upd H a o) h' a o):
  Inv X G_ σ (upd H a o) {s with heap:=h',toks:=t'}:=I.un (Un.laid k hp (I.hok.fresh hp)) (I.hok.laid k hp new)
def Inv.write{x e:Addr}{o:HO}{t':Nat}(I:Inv X G_ σ H s)(mu:Mut (H x))(he:e=x\/H e=some (.own x))(k:∀b u,b≠e->s.heap.get? b=some u->h'.get? b=some u)(heo:∃u,h'.get? e=some u)(new:ObjOk X.prog X.w (upd H x o) h' x o):Inv X G_ σ (upd H x o) {s with heap:=h',toks:=t'}:=I.un (Un.write mu he k heo) (I.hok.write mu he k heo new)
def Inv.pins_of{pins':p_}(I:Inv X G_ σ H s)(h:∀p∈pins',s.heap.get? p.1=some p.2/\H p.1=none/\p.1≠X.env.locals/\p.1∉X.fs/\∀v,p.2.data≠.cell v):Inv X pins' σ H s:=
 ⟨I.ok,I.os,I.bare,I.base,I.loc,I.cell,I.free,I.freeC,λp hp=>(z8b.mp hp).elim (λz=>I.pin p (z8g _ z)) (h p),I.hok,I.len⟩
def qe{N:i_}(hN:N.Nodup){i j:Nat}{x:Str}(a:N[i]?=some x)(b:N[j]?=some x):i=j:=by ext(⟨h1,e1⟩:z9e.mp a);ext(⟨h2,e2⟩:z9e.mp b);show(List.getElem_inj hN).mp (e1.trans e2.symm)
def uU{M:Model}{A:Around}{E:Value->Shared->Prop}{i:Nat}{x:Str}{v:V}{u:Value}{Q:Unit->Shared->Prop}(I:Inv X G_ σ H s)(hN:X.N.Nodup)(hi:X.N[i]?=some x)(hx:Loc X.env.scope x)(r:RelV v u)(h:∀s',Inv X G_ (σ.set i (some v)) H s'->(∃a,Heap.SameBut a s.heap s'.heap/\(a=X.env.locals\/X.env.cells.lookup x=some a))->Q () s')(hf:X.fn x=true\/X.env.scope.names.lookup x=some .local<|>S0):wpAny M A (storeName X.env x u) Q E s:=by
 ext(⟨m,hn,hl⟩:id I.loc);have hcls:(X.env.scope.kind==.class||(X.env.scope.kind==.module&&X.env.locals != X.env.globals))=false:=by rw[I.ok.kind];rfl
 have hiσ:i<σ.length:=by rw[I.len];show(z9e.mp hi).1
 have cne:=I.cne;have tracked:∀{a:Addr} {h':Heap},(∃o,s.heap.get? a=some o/\H a=none)->Heap.SameBut a s.heap h'->HOk X.prog X.w H h':=λ{a h'} ha hs b ob e=>by
  ext(⟨_,_,hfree⟩:ha);show(I.hok b ob e).stay (λc w' hc q=>(hs.2 c ?_).trans q) (λ_ q=>q) λ_ _ q=>q
  rintro rfl;ext((rfl|hc):hc)
  ·rw[hfree]at e;ext e
  ·rw[hfree]at hc;ext hc
 ext((hk|hk):hx)
 ·show wpAny_storeName_local hk hn (λh' hn' hs=>?_) hcls
  ext(⟨oL,_,_,hoL,_⟩:id hn);show h _ ⟨I.ok,I.os,I.bare,⟨λb o e n hb hx=>?_,λb o e n hb hx=>?_,I.base.free,λb o e hx=>?_,I.base.tups,I.base.frzs,I.base.tbls⟩,⟨_,hn',λj y v' e1 e2 e3=>?_⟩,λy c e=>?_,I.free,I.freeC,λp hp=>?_,tracked ⟨oL,hoL,I.free⟩ hs,⇑I.len⟩ ⟨_,hs,.inl rfl⟩
  ·show(hs.2 b (z8n (z9v (z9n e) I.ok.above))).trans (I.base.keep b o e n hb hx)
  ·ext(⟨sl,e1⟩:I.base.slot b o e n hb hx)
   show⟨sl,(hs.2 b (z8n (z9v (z9n e) I.ok.above))).trans e1⟩
  ·ext(⟨o',e1⟩:I.base.there b o e hx)
   show⟨o',(hs.2 b (z8n (z9v (z9n e) I.ok.above))).trans e1⟩
  ·by_cases hj:j=i
   ·subst hj
    rw[hi]at e1;ext e1;rw[z9s hiσ]at e2;ext e2;show⟨u,r,.inl ⟨hk,by simp⟩⟩
   ·rw[z9h (Ne.symm hj)]at e2
    ext(⟨u',r',q⟩:hl j y v' e1 e2 e3);show⟨u',r',?_⟩;rcases q with⟨k,e⟩|⟨k,c,e,z⟩
    ·show .inl ⟨k,?_⟩
     have:y≠x:=λe=>hj (qe hN e1 (e▸hi))
     simp[this,e]
    ·show .inr ⟨k,c,e,z.sameBut hs (cne y c e)⟩
  ·ext(⟨w',z⟩:I.cell y c e)
   show⟨w',z.sameBut hs (cne y c e)⟩
  ·ext(⟨e,n,ne,nf,d⟩:I.pin p hp)
   show⟨(hs.2 p.1 ne).trans e,n,ne,nf,d⟩
 ·have hfn:X.fn x=true:=by
   ext((z|z):hf)
   ·show z
   ·rw[z]at hk;ext hk
  ext(⟨c,hc⟩:I.ok.has x (.inl hk));ext(⟨w',z⟩:I.cell x c hc);show wpAny_storeName_cell I.ok.kind hk hc z (λh' hc' hs=>?_);ext(⟨oc,hoc,hocd⟩:id z);show h {s with heap:=h'} ⟨I.ok,I.os,I.bare,⟨λb o e n hb hx=>?_,λb o e n hb hx=>?_,I.base.free,λb o e hx=>?_,I.base.tups,I.base.frzs,I.base.tbls⟩,⟨m,hn.sameBut hs (Ne.symm (cne x c hc)),λj y v' e1 e2 e3=>?_⟩,λy c' e=>?_,I.free,I.freeC,λp hp=>?_,tracked ⟨oc,hoc,I.freeC x c hc⟩ hs,⇑I.len⟩ ⟨c,hs,.inr hc⟩
  ·show(hs.2 b (z8n (z9v (z9n e) (I.ok.cab x c hfn hc)))).trans (I.base.keep b o e n hb hx)
  ·ext(⟨sl,e1⟩:I.base.slot b o e n hb hx)
   show⟨sl,(hs.2 b (z8n (z9v (z9n e) (I.ok.cab x c hfn hc)))).trans e1⟩
  ·ext(⟨o',e1⟩:I.base.there b o e hx)
   show⟨o',(hs.2 b (z8n (z9v (z9n e) (I.ok.cab x c hfn hc)))).trans e1⟩
  ·by_cases hj:j=i
   ·subst hj
    rw[hi]at e1;ext e1;rw[z9s hiσ]at e2;ext e2;show⟨u,r,.inr ⟨.inl hk,c,hc,hc'⟩⟩
   ·rw[z9h (Ne.symm hj)]at e2
    ext(⟨u',r',q⟩:hl j y v' e1 e2 e3);show⟨u',r',?_⟩;ext((q|⟨k,c',e,z'⟩):q)
    ·show .inl q
    ·show .inr ⟨k,c',e,z'.sameBut hs ?_⟩
     rintro rfl;show hj (qe hN e1 (I.ok.inj _ _ _ e hc▸hi))
  ·by_cases hcc:c'=c
   ·subst hcc;show⟨_,hc'⟩
   ·ext(⟨w2,z2⟩:I.cell y c' e)
    show⟨w2,z2.sameBut hs hcc⟩
  ·ext(⟨e,n,ne,nf,d⟩:I.pin p hp)
   show⟨(hs.2 p.1 ?_).trans e,n,ne,nf,d⟩;intro q;rw[q,hoc]at e;have q':oc=p.2:=z7f e;show d w' (by rw[<- q'];show hocd)
def mD{M:Model}{A:Around}{E:Value->Shared->Prop}{i:Nat}{x:Str}{v:V}{u:Value}{Q:Unit->Shared->Prop}(I:Inv X G_ σ H s)(hN:X.N.Nodup)(hi:X.N[i]?=some x)(hx:Loc X.env.scope x)(r:RelV v u)(h:∀s',Inv X G_ (σ.set i (some v)) H s'->Q () s')(hf:X.fn x=true\/X.env.scope.names.lookup x=some .local<|>S0):wpAny M A (storeName X.env x u) Q E s:=
 uU I hN hi hx r (λs' I' _=>h s' I') hf
def Inv.call'{s':Shared}{ch:l_}(I:Inv X G_ σ H s)(ho:s'.os=s.os)(u:Un (frs X.stack) ch H H' s.heap s'.heap)(hok:HOk X.prog X.w H' s'.heap)(hg:AllBare s'.gens)(hch:∀b∈ch,(b∈X.ex\/X.s₀.heap.objs.size<=b)/\b≠X.env.locals/\(∀x c,X.env.cells.lookup x=some c->c≠b)/\∀p∈X.pn++G_,p.1≠b):Inv X G_ σ H' s':=by ext(⟨h',g',d',t',o'⟩:s');have e:o'=s.os:=ho;subst e;show I.call (g':=g') (t':=t') (d':=d') u hok hg hch
end
abbrev XK:=Value->Option Addr->Hp->Prop
abbrev St:=List C_
abbrev VK:=V->Hp->Prop
abbrev TE:=St->Hp->VK->Prop
abbrev TT:=St->Hp->(Bool->Hp->Prop)->Prop
abbrev TA:=St->Hp->(B_->Hp->Prop)->Prop
structure Ends where
 nx:St->Hp->Prop
 rt:VK
 bk:St->Hp->Prop:=λ_ _=>False
 ct:St->Hp->Prop:=λ_ _=>False
abbrev TS:=Ends->St->Hp->Prop
def EP(X:Cx)(G_:p_)(σ:St)(Q:VK)(u:Value)(s':Shared):Prop:=∃v H',Inv X G_ σ H' s'/\RelV v u/\Q v H'
def TP(X:Cx)(G_:p_)(σ:St)(Q:Bool->Hp->Prop)(b:Bool)(s':Shared):Prop:=∃H',Inv X G_ σ H' s'/\Q b H'
def AP(X:Cx)(G_:p_)(σ:St)(Q:B_->Hp->Prop)(us:j_)(s':Shared):Prop:=∃vs H',Inv X G_ σ H' s'/\Vals vs us/\Q vs H'
def SP(X:Cx)(G_:p_)(D:Ends)(f:Flow)(s':Shared):Prop:=
 match f with
 |.next=>∃σ' H',Inv X G_ σ' H' s'/\D.nx σ' H'
 |.brk=>∃σ' H',Inv X G_ σ' H' s'/\D.bk σ' H'
 |.cont=>∃σ' H',Inv X G_ σ' H' s'/\D.ct σ' H'
 |.ret u=>∃v σ' H',Inv X G_ σ' H' s'/\RelV v u/\D.rt v H'
def PE(X:Cx)(e:Expr)(t:TE):Prop:=
 ∀(G_:p_) (s:Shared) (σ:St) (H:Hp) (Q:VK),Inv X G_ σ H s->t σ H Q->wpAny (model X.prog X.w) X.A (eval e X.env) (EP X G_ σ Q) X.xe s
def PT(X:Cx)(e:Expr)(t:TT):Prop:=
 ∀(G_:p_) (s:Shared) (σ:St) (H:Hp) (Q:Bool->Hp->Prop),Inv X G_ σ H s->t σ H Q->wpAny (model X.prog X.w) X.A (isTrue e X.env (eval e X.env)) (TP X G_ σ Q) X.xe s
def PW(X:Cx)(e:Expr)(t:TT):Prop:=
 ∀(whole:Sem Value) (G_:p_) (s:Shared) (σ:St) (H:Hp) (Q:Bool->Hp->Prop),Inv X G_ σ H s->t σ H Q->wpAny (model X.prog X.w) X.A (isTrue e X.env whole) (TP X G_ σ Q) X.xe s
def PW.pt{X:Cx}{e:Expr}{t:TT}(h:PW X e t):PT X e t:=h _
def PA(X:Cx)(es:k_)(t:TA):Prop:=
 ∀(pos:Pos) (G_:p_) (s:Shared) (σ:St) (H:Hp) (Q:B_->Hp->Prop),Inv X G_ σ H s->t σ H Q->wpAny (model X.prog X.w) X.A (spliced (backTo pos (starEach es X.env))) (AP X G_ σ Q) X.xe s
def PS(X:Cx)(st:Stmt)(t:TS):Prop:=
 ∀(G_:p_) (s:Shared) (σ:St) (H:Hp) (D:Ends),Inv X G_ σ H s->t D σ H->wpAny (model X.prog X.w) X.A (exec st X.env) (SP X G_ D) X.xe s
def PSs(X:Cx)(st:n_)(t:TS):Prop:=
 ∀(G_:p_) (s:Shared) (σ:St) (H:Hp) (D:Ends),Inv X G_ σ H s->t D σ H->wpAny (model X.prog X.w) X.A (execs st X.env) (SP X G_ D) X.xe s
def thn{α:Type}{t:Sem α}{Q Q':α->Shared->Prop}{M:Model}{A:Around}{E:Value->Shared->Prop}{s:Shared}(h:wpAny M A t Q E s)(hQ:∀a s,Q a s->Q' a s):wpAny M A t Q' E s:=z8o h hQ λ_ _ x=>x
def b8{X:Cx}{G_:p_}{σ:St}{Q:VK}{t:Sem Value}{Q':Value->Shared->Prop}{M:Model}{A:Around}{E:Value->Shared->Prop}{s:Shared}(h:wpAny M A t (EP X G_ σ Q) E s)(hQ:∀u s' v H',Inv X G_ σ H' s'->RelV v u->Q v H'->Q' u s'):wpAny M A t Q' E s:=z8o h (λu s' z_=>by ext(⟨v,H',I,r,q⟩:z_);show hQ u s' v H' I r q) λ_ _ x=>x
def cK{X:Cx}{G_:p_}{σ:St}{Q:B_->Hp->Prop}{t:Sem j_}{Q':j_->Shared->Prop}{M:Model}{A:Around}{E:Value->Shared->Prop}{s:Shared}(h:wpAny M A t (AP X G_ σ Q) E s)(hQ:∀u s' v H',Inv X G_ σ H' s'->Vals v u->Q v H'->Q' u s'):wpAny M A t Q' E s:=z8o h (λu s' z_=>by ext(⟨v,H',I,r,q⟩:z_);show hQ u s' v H' I r q) λ_ _ x=>x
def kz{X:Cx}{G_:p_}{σ:St}{Q:Bool->Hp->Prop}{t:Sem Bool}{Q':Bool->Shared->Prop}{M:Model}{A:Around}{E:Value->Shared->Prop}{s:Shared}(h:wpAny M A t (TP X G_ σ Q) E s)(hQ:∀u s' H',Inv X G_ σ H' s'->Q u H'->Q' u s'):wpAny M A t Q' E s:=z8o h (λu s' z_=>by ext(⟨H',I,q⟩:z_);show hQ u s' H' I q) λ_ _ x=>x
section
variable {X:Cx}
def uV(i:Nat):TE:=λσ H Q=>∃v,σ[i]?=some (some v)/\Q v H
def tC(v:V):TE:=λ_ H Q=>Q v H
def gf{i:Nat}{x:Str}{pos:Pos}(hN:X.N[i]?=some x)(hv:Vis X.env.scope x)(hd:DB x<|>R1)(hcd:(x==("__classdict__" : Str))=false<|>R1):PE X (.Name x pos) (uV i):=by
 intro G_ s σ H Q I h;ext(⟨v,e,h⟩:h);ext(⟨m,hn,hl⟩:I.loc);ext(⟨u,r,l⟩:hl i x v hN e hv);have fin:EP X G_ σ Q u s:=⟨v,H,I,r,h⟩;rcases l with⟨hk,hm⟩|⟨hk,c,hc,hcell⟩
 ·show wpAny_Name (wpAny_loadName_local I.ok.kind hk hn hm fin) hd
 ·ext((hk|hk):hk)
  ·show wpAny_Name (wpAny_loadName_cell I.ok.kind hk hc hcell fin) hd
  ·show wpAny_Name (wpAny_loadName_free I.ok.kind hk hc hcell fin hcd) hd
def uW{i j pos}:PE X (.Constant (.int i) j pos) (tC (.int i)):=λ_ _ _ H _ I h=>wpAny_Constant_int ⟨.int i,H,I.tok _,⟨_,rfl⟩,h⟩
def BR{b j pos}:PE X (.Constant (.bool b) j pos) (tC (.bl b)):=λ_ _ _ H _ I h=>Constant_bool ⟨.bl b,H,I,rfl,h⟩
def BS{j pos}:PE X (.Constant .none j pos) (tC .non):=λ_ _ _ H _ I h=>Constant_none ⟨.non,H,I,rfl,h⟩
def gJ{x j pos}:PE X (.Constant (.str x) j pos) (tC (.str x)):=λ_ _ _ H _ I h=>Calls.Constant_str ⟨.str x,H,I.tok _,⟨_,rfl⟩,h⟩
def Gl(X:Cx)(x:Str):Prop:=X.env.kindOf x=some .globalImplicit
def gK{E:Value->Shared->Prop}{G_:p_}{s:Shared}{σ:St}{H:Hp}{x:Str}{u:Value}{pos:Pos}{Q:Value->Shared->Prop}(I:Inv X G_ σ H s)(hg:Gl X x)(hm:X.mg x=some u)(h:Q u s)(hd:DB x<|>R1):wpAny (model X.prog X.w) X.A (eval (.Name x pos) X.env) Q E s:=
 Calls.Name_function_global I.ok.kind hg (Calls.loadGlobal_global (by rw[I.ok.glob];show I.mod.glob.keeps I.bk) hm h) hd
def eG{E:Value->Shared->Prop}{G_:p_}{s:Shared}{σ:St}{H:Hp}{x:Str}{u:Value}{pos:Pos}{Q:Value->Shared->Prop}(I:Inv X G_ σ H s)(hg:Gl X x)(hm:X.mg x=none)(hv:bootBuiltins x=some u)(h:Q u s)(hn:x ≠ "__name__"<|>R1)(hd:DB x<|>R1):wpAny (model X.prog X.w) X.A (eval (.Name x pos) X.env) Q E s:=by ext(⟨mb,h1,h2⟩:I.mod.blt);show Calls.Name_function_global I.ok.kind hg (Calls.loadGlobal_builtin (by rw[I.ok.glob];show I.mod.glob.keeps I.bk) hm (by rw[I.ok.blt];show h1.keeps I.bk) ((h2 x hn).trans hv) h) hd
def qf{x:Str}{v:V}{u:Value}{pos:Pos}(hg:Gl X x)(hm:X.mg x=some u)(r:RelV v u)(hd:DB x<|>R1):PE X (.Name x pos) (tC v):=
 λ_ _ _ H _ I h=>gK I hg hm ⟨v,H,I,r,h⟩ hd
def uX{x:Str}{v:V}{u:Value}{pos:Pos}(hg:Gl X x)(hm:X.mg x=none)(hv:bootBuiltins x=some u)(r:RelV v u)(hn:x ≠ "__name__"<|>R1)(hd:DB x<|>R1):PE X (.Name x pos) (tC v):=
 λ_ _ _ H _ I h=>eG I hg hm hv ⟨v,H,I,r,h⟩ hn hd
variable {a b:Expr}{ta tb:TE}{pos:Pos}
def PC(X:Cx)(op:CmpOp)(a b:Expr)(t:TE):Prop:=
 ∀(G_:p_) (s:Shared) (σ:St) (H:Hp) (Q:VK),Inv X G_ σ H s->t σ H Q ->
   wpAny (model X.prog X.w) X.A (eval a X.env) (λv z0=>wpAny (model X.prog X.w) X.A (eval b X.env) (λu z5=>wpAny (model X.prog X.w) X.A (compareOp op v u) (EP X G_ σ Q) X.xe z5) X.xe z0) X.xe s
def BU(b:Expr){op:CmpOp}(h:op≠.In)(h2:op≠.NotIn):behindInMarks op b=false:=by
 have e1:(op==CmpOp.In)=false:=by ext op<;>first|rfl|show absurd rfl h
 have e2:(op==CmpOp.NotIn)=false:=by ext op<;>first|rfl|show absurd rfl h2
 ext b<;>simp[behindInMarks,e1,e2]
def tB(t:TE):TT:=λσ H Q=>t σ H λx H1=>∃c,x=.bl c/\Q c H1
def uY{op:CmpOp}{t:TE}(h:PC X op a b t)(h1:behindInMarks op b=false:=by first|show BU _ (by decide) (by decide)|rfl):PT X (.Compare a [op] [b] pos) (tB t):=by intro G_ s σ H Q I hw;show wpAny_isTrue_Compare1 (thn (h G_ s σ H _ I hw) λv s1 h1=>thn h1 λu s2 h2=>b8 h2 λc s3 x H1 I1 r1 q1=>?_) h1;ext(⟨d,rfl,q⟩:q1);ext r1;show z6i ⟨H1,I1,q⟩
variable {tA tB':TT}{rest:k_}
def BV(t u:TT):TT:=λσ H Q=>t σ H λc H1=>if c=true then u σ H1 Q else Q false H1
def tOr(t u:TT):TT:=λσ H Q=>t σ H λc H1=>if c=true then Q true H1 else u σ H1 Q
def BW(t:TT):TT:=λσ H Q=>t σ H λc H1=>Q (!c) H1
def uZ(ha:PT X a tA):PW X (.BoolOp .And [a] pos) tA:=by
 intro wh G_ s σ H Q I h;show isTrue_and (thn (ha G_ s σ H Q I h) λc s1 e=>?_);cases c with
 |true=>show isTrue_and_nil e
 |false=>show e
def v4(ha:PT X a tA):PW X (.BoolOp .Or [a] pos) tA:=by
 intro wh G_ s σ H Q I h;show isTrue_or (thn (ha G_ s σ H Q I h) λc s1 e=>?_);cases c with
 |false=>show isTrue_or_nil e
 |true=>show e
def v5(ha:PT X a tA)(hb:PW X (.BoolOp .And (b::rest) pos) tB'):PW X (.BoolOp .And (a::b::rest) pos) (BV tA tB'):=by
 intro wh G_ s σ H Q I h;show isTrue_and (kz (ha G_ s σ H _ I h) λc s1 H1 I1 q1=>?_);cases c with
 |true=>show hb wh G_ s1 σ H1 Q I1 q1
 |false=>show⟨H1,I1,q1⟩
def v6(ha:PT X a tA)(hb:PW X (.BoolOp .Or (b::rest) pos) tB'):PW X (.BoolOp .Or (a::b::rest) pos) (tOr tA tB'):=by
 intro wh G_ s σ H Q I h;show isTrue_or (kz (ha G_ s σ H _ I h) λc s1 H1 I1 q1=>?_);cases c with
 |true=>show⟨H1,I1,q1⟩
 |false=>show hb wh G_ s1 σ H1 Q I1 q1
def v7(ha:PT X a tA):PT X (.UnaryOp .Not a pos) (BW tA):=by intro G_ s σ H Q I h;show isTrue_not (ha G_ s σ H (λc H1=>Q (!c) H1) I h)
def BX(ta tb:TE):TE:=λσ H Q=>ta σ H λx H1=>∃c,x=.bl c/\if c=true then tb σ H1 Q else Q (.bl false) H1
def BY(ta:TE):TE:=λσ H Q=>ta σ H λx H1=>∃c,x=.bl c/\Q (.bl (!c)) H1
def v8{op}{t:TE}(h:PE X a t):PE X (.BoolOp op [a] pos) t:=λG_ s σ H Q I hw=>BoolOp_one (h G_ s σ H Q I hw)
def v9(ha:PE X a ta)(hb:PE X (.BoolOp .And (b::rest) pos) tb):PE X (.BoolOp .And (a::b::rest) pos) (BX ta tb):=by
 intro G_ s σ H Q I h;show BoolOp_and (b8 (ha G_ s σ H _ I h) λv s1 x H1 I1 r1 q1=>?_);ext(⟨c,rfl,q1⟩:q1);ext r1;show z6i ?_;cases c with
 |true=>show hb G_ s1 σ H1 Q I1 q1
 |false=>show⟨.bl false,H1,I1,rfl,q1⟩
def BZ(ha:PE X a ta):PE X (.UnaryOp .Not a pos) (BY ta):=by intro G_ s σ H Q I h;show UnaryOp_ (b8 (ha G_ s σ H _ I h) λv s1 x H1 I1 r1 q1=>?_);ext(⟨c,rfl,q1⟩:q1);ext r1;show not_of (z6i ⟨.bl (!c),H1,I1,rfl,q1⟩)
def tIf(t:TT)(ta tb:TE):TE:=λσ H Q=>t σ H λc H1=>if c=true then ta σ H1 Q else tb σ H1 Q
def va{c:Expr}(hc:PT X c tA)(ha:PE X a ta)(hb:PE X b tb):PE X (.IfExp c a b pos) (tIf tA ta tb):=by
 intro G_ s σ H Q I h;show wpAny_IfExp (kz (hc G_ s σ H _ I h) λd s1 H1 I1 q1=>?_);cases d with
 |true=>show ha G_ s1 σ H1 Q I1 q1
 |false=>show hb G_ s1 σ H1 Q I1 q1
end
def SqL(K:K0)(H:Hp)(a:Addr)(xs:B_):Prop:=
 Rd H a (.lst xs) \/
  ∃(o:Obj) (its:Array Value) (n:Nat),K.lookup a=some o/\o.cls=.type "list"/\o.dict=none/\o.data=.seq its n/\its.size<=sizeLine/\Vals xs its.toList
def SqT(K:K0)(H:Hp)(a:Addr)(xs:B_):Prop:=
 Rd H a (.tup xs) \/
  ∃(o:Obj) (its:Array Value) (n:Nat),K.lookup a=some o/\o.cls=.type "tuple"/\o.data=.seq its n/\its.size<=sizeLine/\Vals xs its.toList
noncomputable def C0:Value->C_
 |.none=>some .non
 |.bool b=>some (.bl b)
 |.int i _=>some (.int i)
 |.str x _=>some (.str x)
 |.bytes b _=>some (.byt b)
 |.float b _=>some (.flt b)
 |.ref a=>some (.ref a)
 |.type n=>some (.ty n)
 |_=>none
def RelV.abs{x:V}{u:Value}(r:RelV x u):C0 u=some x:=by
 cases x with
 |non=>ext r;rfl
 |bl _=>ext r;rfl
 |int _=>ext(⟨t,rfl⟩:r);rfl
 |str _=>ext(⟨t,rfl⟩:r);rfl
 |byt _=>ext(⟨t,rfl⟩:r);rfl
 |flt _=>ext(⟨t,rfl⟩:r);rfl
 |ref _=>ext r;rfl
 |ty _=>ext r;rfl
def RelV.inj{x y:V}{u:Value}(r:RelV x u)(q:RelV y u):x=y:=z7f (r.abs.symm.trans q.abs)
theorem Vals.inj:∀{xs ys:B_} {us:j_},Vals xs us->Vals ys us->xs=ys
 |_,_,_,.nil,.nil=>rfl
 |_,_,_,.cons r t,.cons r' t'=>by rw[r.inj r',Vals.inj t t']
section
variable {X:Cx}{G_:p_}{σ:St}{H:Hp}{s:Shared}{a:Addr}{xs ys:B_}
def SqL.of{K:K0}(h:H a=some (.lst xs)):SqL K H a xs:=.inl (.inl h)
def SqT.of{K:K0}(h:H a=some (.tup xs)):SqT K H a xs:=.inl (.inl h)
def Inv.list(I:Inv X G_ σ H s)(h:SqL X.K H a xs):∃its:j_,Vals xs its/\PlainL s.heap a its.toArray/\xs.length<=sizeLine:=by
 ext((h|⟨o,its,n,hk,hc,hd,hs,hz,r⟩):h)
 ·ext(⟨z,its,n,r,e⟩:h.ok I.hok)
  show⟨its,r,⟨_,n,e,rfl,rfl,rfl⟩,z⟩
 ·show⟨its.toList,r,⟨o,n,I.kIn a o hk,hc,hd,⇑hs⟩,?_⟩
  have e:=r.length;erw[Array.length_toList]at e;ext
def Inv.tuple(I:Inv X G_ σ H s)(h:SqT X.K H a xs):∃its:j_,Vals xs its/\IsTup s.heap a its.toArray/\xs.length<=sizeLine:=by
 ext((h|⟨o,its,n,hk,hc,hs,hz,r⟩):h)
 ·ext(⟨z,its,r,p⟩:h.ok I.hok)
  show⟨its,r,p,z⟩
 ·show⟨its.toList,r,⟨o,I.kIn a o hk,hc,n,⇑hs⟩,?_⟩
  have e:=r.length;erw[Array.length_toList]at e;ext
def Inv.list_inj(I:Inv X G_ σ H s)(h:SqL X.K H a xs)(h':SqL X.K H a ys):xs=ys:=by
 ext(⟨its,r,⟨o,n,e,_,_,d⟩,_⟩:I.list h);ext(⟨its',r',⟨o',n',e',_,_,d'⟩,_⟩:I.list h');rw[e]at e';ext e';rw[d]at d';injection d' with d1 _
 have:its=its':=by simpa using z7d Array.toList d1
 subst this;show r.inj r'
def Inv.tuple_inj(I:Inv X G_ σ H s)(h:SqT X.K H a xs)(h':SqT X.K H a ys):xs=ys:=by
 ext(⟨its,r,⟨o,e,_,n,d⟩,_⟩:I.tuple h);ext(⟨its',r',⟨o',e',_,n',d'⟩,_⟩:I.tuple h');rw[e]at e';ext e';rw[d]at d';injection d' with d1 _
 have:its=its':=by simpa using z7d Array.toList d1
 subst this;show r.inj r'
end
abbrev Cx.wish(X:Cx)(E:Value->Shared->Prop):Cx:={X with xe:=E}
abbrev Cx.nox(X:Cx):Cx:=X.wish λ_ _=>False
def Cx.Ok.wish{X:Cx}(ok:X.Ok)(E:Value->Shared->Prop):(X.wish E).Ok:=
 ⟨ok.mod,ok.kind,ok.glob,ok.blt,ok.above,ok.inj,ok.has,ok.cab,ok.hd,ok.frames,ok.stk,ok.exf,ok.bs,ok.bsz,ok.noex,ok.exfs,ok.funs,ok.frf⟩
def Cx.Ok.unwish{X:Cx}{E:Value->Shared->Prop}(ok:(X.wish E).Ok):X.Ok:=
 ⟨ok.mod,ok.kind,ok.glob,ok.blt,ok.above,ok.inj,ok.has,ok.cab,ok.hd,ok.frames,ok.stk,ok.exf,ok.bs,ok.bsz,ok.noex,ok.exfs,ok.funs,ok.frf⟩
section
variable {X:Cx}{G_:p_}{σ:St}{H:Hp}{s:Shared}{E:Value->Shared->Prop}
def Inv.wish(I:Inv X G_ σ H s)(E:Value->Shared->Prop):Inv (X.wish E) G_ σ H s:=⟨I.ok.wish E,I.os,I.bare,I.base,I.loc,I.cell,I.free,I.freeC,I.pin,I.hok,I.len⟩
def Inv.unwish(I:Inv (X.wish E) G_ σ H s):Inv X G_ σ H s:=⟨I.ok.unwish,I.os,I.bare,I.base,I.loc,I.cell,I.free,I.freeC,I.pin,I.hok,I.len⟩
def SP.unwish{D:Ends}{f:Flow}{s':Shared}(h:SP (X.wish E) G_ D f s'):SP X G_ D f s':=by
 cases f with
 |next=>ext(⟨σ',H',I,q⟩:h);show⟨σ',H',I.unwish,q⟩
 |brk=>ext(⟨σ',H',I,q⟩:h);show⟨σ',H',I.unwish,q⟩
 |cont=>ext(⟨σ',H',I,q⟩:h);show⟨σ',H',I.unwish,q⟩
 |ret u=>ext(⟨v,σ',H',I,r,q⟩:h);show⟨v,σ',H',I.unwish,r,q⟩
def PE.nox{e:Expr}{t:TE}(h:PE X.nox e t):PE X e t:=λG_ s σ H Q I hw=>z8o (h G_ s σ H Q (I.wish _) hw) (λ_ _ z_=>by ext(⟨v,H',I',r,q⟩:z_);show⟨v,H',I'.unwish,r,q⟩) λ_ _ z=>False.elim z
def PT.nox{e:Expr}{t:TT}(h:PT X.nox e t):PT X e t:=λG_ s σ H Q I hw=>z8o (h G_ s σ H Q (I.wish _) hw) (λ_ _ z_=>by ext(⟨H',I',q⟩:z_);show⟨H',I'.unwish,q⟩) λ_ _ z=>False.elim z
def PSs.nox{st:n_}{t:TS}(h:PSs X.nox st t):PSs X st t:=λG_ s σ H D I hw=>z8o (h G_ s σ H D (I.wish _) hw) (λ_ _ q=>q.unwish) λ_ _ z=>False.elim z
end
section
variable {X:Cx}{st:Stmt}{rest:n_}{t u:TS}{e:Expr}{te:TE}{pos:Pos}
def C2:TS:=λD σ H=>D.nx σ H
def C3(t u:TS):TS:=λD σ H=>t {D with nx:=u D} σ H
def qg:PSs X [] C2:=λ_ _ σ H _ I h=>z5s ⟨σ,H,I,h⟩
def jh(h1:PS X st t)(h2:PSs X rest u):PSs X (st::rest) (C3 t u):=by
 intro G_ s σ H D I h;show wpAny_execs_cons (thn (h1 G_ s σ H {D with nx:=u D} I h) λf s1 q=>?_);cases f with
 |next=>ext(⟨σ',H',I',q⟩:q);show h2 G_ s1 σ' H' D I' q
 |ret v=>show q
 |brk=>show q
 |cont=>show q
def kA(h1:PS X st t):PSs X [st] t:=by
 intro G_ s σ H D I h;show wpAny_execs_cons (thn (h1 G_ s σ H D I h) λf s1 q=>?_);cases f with
 |next=>show z5s q
 |ret v=>show q
 |brk=>show q
 |cont=>show q
def Inv.quiet{G_:p_}{σ:St}{H:Hp}{s:Shared}(I:Inv X G_ σ H s):interactive X.env=false:=by simp[interactive,I.ok.kind]
def C4(te:TE):TS:=λD σ H=>te σ H λ_ H1=>D.nx σ H1
def mE(he:PE X e te)(hs:swapsWith e none pos.line X.env=pure false<|>R0):PS X (.Expr e pos) (C4 te):=by intro G_ s σ H D I h;show wpAny_Expr_any (b8 (he G_ s σ H _ I h) λv s1 x H1 I1 r1 q1=>⟨σ,H1,I1,q1⟩) I.quiet hs
def C5(te:TE):TS:=λD σ H=>te σ H D.rt
def gL(he:PE X e te):PS X (.Return (some e) pos) (C5 te):=by intro G_ s σ H D I h;show wpAny_Return_some (b8 (he G_ s σ H _ I h) λv s1 x H1 I1 r1 q1=>⟨x,σ,H1,I1,r1,q1⟩)
def C6(c:TT)(t u:TS):TS:=λD σ H=>c σ H λb H1=>if b=true then t D σ H1 else u D σ H1
def qh{c:Expr}{a b:n_}{tc:TT}(hc:PT X c tc)(ha:PSs X a t)(hb:PSs X b u):PS X (.If c a b pos) (C6 tc t u):=by
 intro G_ s σ H D I h;show wpAny_If (kz (hc G_ s σ H _ I h) λd s1 H1 I1 q1=>?_);cases d with
 |true=>show ha G_ s1 σ H1 D I1 q1
 |false=>show hb G_ s1 σ H1 D I1 q1
def C7:TS:=λ_ _ _=>False
def C8:PS X st C7:=λ_ _ _ _ _ _ h=>h.elim
end
abbrev TG:=V->St->Hp->(St->Hp->Prop)->Prop
abbrev TGs:=B_->St->Hp->(St->Hp->Prop)->Prop
def PG(X:Cx)(target:Expr)(t:TG):Prop:=
 ∀(G_:p_) (s:Shared) (σ:St) (H:Hp) (v:V) (u:Value) (Q:St->Hp->Prop),Inv X G_ σ H s->RelV v u->t v σ H Q ->
   wpAny (model X.prog X.w) X.A (assign target X.env u) (λ_ s'=>∃σ' H',Inv X G_ σ' H' s'/\Q σ' H') X.xe s
def PGs(X:Cx)(ts:k_)(t:TGs):Prop:=
 ∀(G_:p_) (s:Shared) (σ:St) (H:Hp) (vs:B_) (us:j_) (Q:St->Hp->Prop),Inv X G_ σ H s->Vals vs us->t vs σ H Q ->
   wpAny (model X.prog X.w) X.A (assignInOrder ((assignEach ts X.env).map (·.2)) us) (λ_ s'=>∃σ' H',Inv X G_ σ' H' s'/\Q σ' H') X.xe s
abbrev qi:=V->V->V->Hp->(Hp->Prop)->Prop
def vb(X:Cx)(t:qi):Prop:=
 ∀(G_:p_) (s:Shared) (σ:St) (H:Hp) (o i v:V) (ov iv u:Value) (Q:Hp->Prop),Inv X G_ σ H s->RelV o ov->RelV i iv->RelV v u->t o i v H Q ->
   wpAny (model X.prog X.w) X.A (setItem ov iv u) (λ_ s'=>∃H',Inv X G_ σ H' s'/\Q H') X.xe s
section
variable {X:Cx}{pos:Pos}
def c9(i:Nat):TG:=λv σ H Q=>Q (σ.set i (some v)) H
def gM{i:Nat}{x:Str}(hN:X.N.Nodup)(hi:X.N[i]?=some x)(hx:Loc X.env.scope x)(hf:X.fn x=true\/X.env.scope.names.lookup x=some .local<|>S0):PG X (.Name x pos) (c9 i):=by intro G_ s σ H v u Q I r h;show wpAny_assign_Name (mD I hN hi hx r (λs' I'=>⟨_,H,I',h⟩) hf)
def vc:TGs:=λvs σ H Q=>vs=[]/\Q σ H
def vd(t:TG)(u:TGs):TGs:=λvs σ H Q=>∃v r,vs=v::r/\t v σ H λσ' H'=>u r σ' H' Q
def C9:PGs X [] vc:=by intro G_ s σ H vs us Q I r h;ext(⟨e,h⟩:h);subst e;ext r;show assignInOrder_nil ⟨σ,H,I,h⟩
def Ca{e:Expr}{es:k_}{t:TG}{u:TGs}(h1:PG X e t)(h2:PGs X es u)(hs:(assignEach (e::es) X.env).map (·.2)=assign e X.env::(assignEach es X.env).map (·.2)<|>R0):PGs X (e::es) (vd t u):=by
 intro G_ s σ H vs us Q I r h;ext(⟨v,vr,e1,h⟩:h);subst e1;cases r with
 |cons r rr=>rw[hs];show assignInOrder_cons (thn (h1 G_ s σ H _ _ _ I r h) λ_ s1 z_=>?_);ext(⟨σ1,H1,I1,q1⟩:z_);show h2 G_ s1 σ1 H1 _ _ Q I1 rr q1
def vf(K:K0)(n:Nat)(t:TGs):TG:=λv σ H Q=>∃a xs,v=.ref a/\SqT K H a xs/\xs.length=n/\t xs σ H Q
def kB{es:k_}{k:Nat}{t:TGs}{n:Nat}(hc:X.calm=true)(h:PGs X es t)(hn:(assignEach es X.env).length=n<|>R0)(hst:(assignEach es X.env).findIdx? (·.1)=none<|>R0):PG X (.Tuple es k pos) (vf X.K n t):=by
 intro G_ s σ H v u Q I r hw;ext(⟨a,xs,e1,hq,hl,hw⟩:hw);subst e1;ext r;ext(⟨its,rv,ht,hz⟩:I.tuple hq);show assign_Tuple_tuple (I.ok.hd hc) ht (by simp[hn,<- hl,rv.length]) hst λh' hx=>?_
 have I1:Inv X G_ σ H {s with heap:=h'}:=I.kept (t':=s.toks) λb o e=>hx b o (z8n (z9n e)) e
 show h G_ _ σ H xs _ Q I1 (⇑rv) hw
def Cb(to ti:TE)(t:qi):TG:=λv σ H Q=>to σ H λo H1=>ti σ H1 λi H2=>t o i v H2 λH3=>Q σ H3
def Cc{o i:Expr}{to ti:TE}{t:qi}(ho:PE X o to)(hi:PE X i ti)(hs:vb X t)(ha:(∀v,assign (.Subscript o i pos) X.env v=(do
   let ov <- holding [v] (eval o X.env);let iv <- holding [v,ov] (eval i X.env)
   standAt pos
   holding [v,ov,iv] (setItem ov iv v)
   release [v,ov,iv] []))<|>R4):PG X (.Subscript o i pos) (Cb to ti t):=by
 intro G_ s σ H v u Q I r h;rw[ha];show z9i (z3i (b8 (ho G_ s σ H _ I h) λov s1 x H1 I1 r1 q1=>?_));show z9i (z3i (b8 (hi G_ s1 σ H1 _ I1 q1) λiv s2 y H2 I2 r2 q2=>?_));show z9i (wpAny_standAt (z9i (z3i (thn (hs G_ s2 σ H2 x y v ov iv u _ I2 r1 r2 r q2) λ_ s3 z_=>?_))));ext(⟨H3,I3,q3⟩:z_);show wpAny_release ⟨σ,H3,I3,q3⟩
def qj(te:TE)(g:TG):TS:=λD σ H=>te σ H λx H1=>g x σ H1 D.nx
def vg{tg e:Expr}{te:TE}{g:TG}(he:PE X e te)(hg:PG X tg g)(hs:swapsWithSole [tg] e pos.line X.env=pure false<|>R0)(hw:swappedStores [tg] e X.env=pure none<|>R0)(h1:(assignEach [tg] X.env).map (·.2)=[assign tg X.env]<|>R0):PS X (.Assign [tg] e pos) (qj te g):=by intro G_ s σ H D I h;show wpAny_Assign_stores (b8 (he G_ s σ H _ I h) λv s1 x H1 I1 r1 q1=>?_) hs hw;rw[h1];show thn (hg G_ s1 σ H1 x v _ I1 r1 q1) λ_ s2 q=>q
def ji{i:Nat}{x:Str}{e:Expr}{te:TE}{pos':Pos}(hN:X.N.Nodup)(hi:X.N[i]?=some x)(hx:Loc X.env.scope x)(he:PE X e te)(hs:swapsWith e (some (.Name x pos')) pos.line X.env=pure false<|>R0)(hf:X.fn x=true\/X.env.scope.names.lookup x=some .local<|>S0):
  PS X (.Assign [.Name x pos'] e pos) (qj te (c9 i)):=by
 intro G_ s σ H D I h;show wpAny_Assign_Name (b8 (he G_ s σ H _ I h) λv s1 y H1 I1 r1 q1=>?_) hs;show mD I1 hN hi hx r1 (λs2 I2=>⟨_,H1,I2,q1⟩) hf
end
structure It where
 go:Nat->Hp->Prop
 yld:Nat->Hp->V->Hp->Prop
 stop:Nat->Hp->Prop
def ck(X:Cx)(G_:p_)(H:Hp)(b:Addr):Prop:=
 H b=none/\b≠X.env.locals/\b∉X.fs/\(b∈X.ex\/X.s₀.heap.objs.size<=b)/\(∀x c,X.env.cells.lookup x=some c->c≠b)/\∀p∈X.pn++G_,p.1≠b
def Inv.fpOk{X:Cx}{G_:p_}{σ:St}{H H':Hp}{s:Shared}{b:Addr}(I:Inv X G_ σ H s)(hb:s.heap.objs.size<=b)(hn:H' b=none):ck X G_ H' b:=by
 show⟨hn,z4q (z9v I.lt hb),I.nofs hb,.inr (z7p I.sz hb),λx c e z=>?_,λp hp z=>?_⟩
 ·ext(⟨v,q⟩:I.cell x c e)
  show absurd (z9v q.lt (by rw[z];show hb)) (z7v _)
 ·show absurd (z9v (z9n (I.pin p hp).1) (by rw[z];show hb)) (z7v _)
structure Turn (P:Program) (w:World) (K:K0) (tg:Expr) (J:It) (fp:l_) (it:Addr) (tn:Nat->Heap->Prop):Prop where
 mem:it∈fp
 obj:∀i h,tn i h->∀b∈fp,∃o,h.get? b=some o/\∀v,o.data≠.cell v
 keep:∀i h h',tn i h->(∀b∈fp,∀o,h.get? b=some o->h'.get? b=some o)->tn i h'
 item:∀(X:Cx),X.prog=P->X.w=w->X.K=K->X.calm=true->∀(i:Nat) (G_:p_) (s:Shared) (σ:St) (H:Hp) (E:Value->Shared->Prop),Inv X G_ σ H s->(∀b∈fp,ck X G_ H b)->tn i s.heap->J.go i H ->
  wpAny (model P w) X.A (pyNext (.ref it)) (λr s1=>∃u,r=some u /\
   wpAny (model P w) X.A (letOwnedTupleGo tg (.ref it) u) (λ_ s2=>∃x H',Inv X G_ σ H' s2/\RelV x u/\J.yld i H x H'/\tn (i+1) s2.heap/\∀b∈fp,H' b=none) E s1) E s
 done:∀(X:Cx),X.prog=P->X.w=w->X.K=K->X.calm=true->∀(i:Nat) (G_:p_) (s:Shared) (σ:St) (H:Hp) (E:Value->Shared->Prop),Inv X G_ σ H s->(∀b∈fp,ck X G_ H b)->tn i s.heap->J.stop i H ->
  wpAny (model P w) X.A (pyNext (.ref it)) (λr s1=>r=none/\Inv X G_ σ H s1) E s
 self:∀(A:Around) (i:Nat) (s:Shared) (Q:Value->Shared->Prop) (E:Value->Shared->Prop),tn i s.heap->Q (.ref it) s->wpAny (model P w) A (pyIter (.ref it)) Q E s
abbrev TI:=St->Hp->(It->Hp->Prop)->Prop
def PIE(X:Cx)(G_:p_)(σ:St)(tg:Expr)(R:It->Hp->Prop)(itv:Value)(s2:Shared):Prop:=
 ∃(it:Addr) (fp:l_) (tn:Nat->Heap->Prop) (J:It) (H':Hp),itv=.ref it/\Inv X G_ σ H' s2/\Turn X.prog X.w X.K tg J fp it tn/\tn 0 s2.heap/\(∀b∈fp,ck X G_ H' b)/\R J H'
def PI(X:Cx)(tg iter:Expr)(wi:TI):Prop:=
 ∀(G_:p_) (s:Shared) (σ:St) (H:Hp) (R:It->Hp->Prop),Inv X G_ σ H s->wi σ H R ->
   wpAny (model X.prog X.w) X.A (eval iter X.env) (λv s1=>wpAny (model X.prog X.w) X.A (pyIter v) (PIE X G_ σ tg R) X.xe s1) X.xe s
def jj{M:Model}{A:Around}{E:Value->Shared->Prop}{s:Shared}{tg:Expr}{it:Addr}{u:Value}{o:Obj}{n:String}{vs:Array Value}{Q:Unit->Shared->Prop}(ho:s.heap.get? it=some o)(hc:o.cls=.type n)(hd:o.data=.fields vs)(hn:["enumerate","zip","dict_itemiterator","dict_reverseitemiterator","odict_iterator","itertools.zip_longest","itertools.pairwise"].contains n=false)(hQ:Q () s):wpAny M A (letOwnedTupleGo tg (.ref it) u) Q E s:=by
 unfold letOwnedTupleGo;ext tg<;>first
  |show z8a hQ
  | (ext u<;>first
    |show z8a hQ
    | (show z9i (wpAny_load ho ?_)
       rw[hc,hd];change wpAny M A (if(["enumerate","zip","dict_itemiterator","dict_reverseitemiterator","odict_iterator","itertools.zip_longest","itertools.pairwise"].contains n&&vs[0]?==some (rawInt _))=true then _ else _) Q E s;rw[if_neg (by intro h;rw[hn,Bool.false_and]at h;ext h)];show z8a hQ))
noncomputable def Itl(K:K0)(a:Addr):It:=
 ⟨λi H=>∃xs x,SqL K H a xs/\xs[i]?=some x,λi H x H'=>H'=H/\∀xs,SqL K H a xs->xs[i]?=some x,λi H=>∃xs,SqL K H a xs/\xs.length<=i⟩
noncomputable def Itt(K:K0)(a:Addr):It:=
 ⟨λi H=>∃xs x,SqT K H a xs/\xs[i]?=some x,λi H x H'=>H'=H/\∀xs,SqT K H a xs->xs[i]?=some x,λi H=>∃xs,SqT K H a xs/\xs.length<=i⟩
noncomputable def Itr(lo:Int)(n:Nat):It:=⟨λi _=>i<n,λi H x H'=>H'=H/\x=.int (lo+i),λi _=>n<=i⟩
def Cd{P:Program}{w:World}{K:K0}{tg:Expr}(a it:Addr):Turn P w K tg (Itl K a) [it] it (λi h=>h.IsListIter it a i) where
 mem:=by simp
 obj:=λi h st b hb=>by
  have e:b=it:=⇑hb
  subst e;ext(⟨o,e,c,d⟩:st);show⟨o,e,λv z=>by rw[d]at z;ext z⟩
 keep:=λi h h' st k=>st.at λo e=>k it (by simp) o e
 item:=by
  intro X hP hw hK hc i G_ s σ H E I hf st hg;subst hP hw hK;ext(⟨xs,x,hq,hx⟩:hg);ext(⟨its,rv,p,hz⟩:I.list hq);ext(⟨u,hu,ru⟩:rv.get hx);ext(⟨f0,f1,f2,f3,f4,f5⟩:hf it (by simp));show wpAny_pyNext_list_item st p.isList (x:=u) (⇑hu) λh' st' sb=>?_
  have I1:Inv X G_ σ H {s with heap:=h'}:=I.turned (t':=s.toks) (λb o hb e=>(sb.2 b hb).trans e) f0 f1 f3 f4 f5;ext(⟨o,e,c,d⟩:id st');show⟨u,rfl,jj (s:={s with heap:=h'}) e c d (by decide) ⟨x,H,I1,ru,⟨rfl,λys hy=>by rw[I.list_inj hy hq];show hx⟩,st',λb hb=>(hf b hb).1⟩⟩
 done:=by intro X hP hw hK hc i G_ s σ H E I hf st hg;subst hP hw hK;ext(⟨xs,hq,hx⟩:hg);ext(⟨its,rv,p,hz⟩:I.list hq);ext(⟨f0,f1,f2,f3,f4,f5⟩:hf it (by simp));have hl:=rv.length;show wpAny_pyNext_list_end (I.ok.hd hc) st p.isList (by simp;ext) λh' eb=>⟨rfl,I.turned (t':=s.toks) (λb o hb e=>eb b o hb e) f0 f1 f3 f4 f5⟩
 self:=λ_ _ _ _ _ st h=>wpAny_pyIter_listiter st h
def Ce{P:Program}{w:World}{K:K0}{tg:Expr}(a it:Addr):Turn P w K tg (Itt K a) [it] it (λi h=>h.IsTupleIter it a i) where
 mem:=by simp
 obj:=λi h st b hb=>by
  have e:b=it:=⇑hb
  subst e;ext(⟨o,e,c,d⟩:st);show⟨o,e,λv z=>by rw[d]at z;ext z⟩
 keep:=λi h h' st k=>st.at λo e=>k it (by simp) o e
 item:=by
  intro X hP hw hK hc i G_ s σ H E I hf st hg;subst hP hw hK;ext(⟨xs,x,hq,hx⟩:hg);ext(⟨its,rv,p,hz⟩:I.tuple hq);ext(⟨u,hu,ru⟩:rv.get hx);ext(⟨f0,f1,f2,f3,f4,f5⟩:hf it (by simp));show wpAny_pyNext_tuple_item st (show s.heap.IsTuple a its.toArray from p) (x:=u) (⇑hu) λh' st' sb=>?_
  have I1:Inv X G_ σ H {s with heap:=h'}:=I.turned (t':=s.toks) (λb o hb e=>(sb.2 b hb).trans e) f0 f1 f3 f4 f5;ext(⟨o,e,c,d⟩:id st');show⟨u,rfl,jj (s:={s with heap:=h'}) e c d (by decide) ⟨x,H,I1,ru,⟨rfl,λys hy=>by rw[I.tuple_inj hy hq];show hx⟩,st',λb hb=>(hf b hb).1⟩⟩
 done:=by intro X hP hw hK hc i G_ s σ H E I hf st hg;subst hP hw hK;ext(⟨xs,hq,hx⟩:hg);ext(⟨its,rv,p,hz⟩:I.tuple hq);ext(⟨f0,f1,f2,f3,f4,f5⟩:hf it (by simp));have hl:=rv.length;show wpAny_pyNext_tuple_end (I.ok.hd hc) st (show s.heap.IsTuple a its.toArray from p) (by simp;ext) λh' eb=>⟨rfl,I.turned (t':=s.toks) (λb o hb e=>eb b o hb e) f0 f1 f3 f4 f5⟩
 self:=λ_ _ _ _ _ st h=>wpAny_pyIter_tupleiter st h
def Cf{P:Program}{w:World}{K:K0}{tg:Expr}(it:Addr)(lo:Int)(n:Nat):Turn P w K tg (Itr lo n) [it] it (λi h=>IsRangeIter h it (lo+(i:Nat)*1) ((n:Int)-(i:Nat)) 1) where
 mem:=by simp
 obj:= λi h st b hb=>by
  have e:b=it:=⇑hb
  subst e;show⟨_,st,λv z=>by have z':Data.fields _=Data.cell v:=z;ext z'⟩
 keep:=λi h h' st k=>k it (by simp) _ st
 item:=by
  intro X hP hw hK hc i G_ s σ H E I hf st hg;subst hP hw hK;ext(⟨f0,f1,f2,f3,f4,f5⟩:hf it (by simp));have W:=Walks.range (prog:=X.prog) (w:=X.w) (I.ok.hd hc) it lo 1 n;show W.item i s _ _ hg st λv h' tk hv st' kk=>?_
  ext(⟨t,rfl⟩:hv);have I1:Inv X G_ σ H {s with heap:=h',toks:=tk}:=I.turned (λb o hb e=>kk b o (⇑hb) e) f0 f1 f3 f4 f5;show⟨_,rfl,jj (s:={s with heap:=h',toks:=tk}) (n:="range_iterator") st' rfl rfl (by decide) ⟨.int (lo+i),H,I1,⟨t,?_⟩,⟨rfl,rfl⟩,st',λb hb=>(hf b hb).1⟩⟩;rw[Int.mul_one]
 done:=by intro X hP hw hK hc i G_ s σ H E I hf st hg;subst hP hw hK;ext(⟨f0,f1,f2,f3,f4,f5⟩:hf it (by simp));show wpAny_pyNext_range_end (I.ok.hd hc) st (by have:n<=i:=hg;ext) λh' eb=>⟨rfl,I.turned (t':=s.toks) (λb o hb e=>eb b o hb e) f0 f1 f3 f4 f5⟩
 self:=λ_ _ _ _ _ st h=>wpAny_pyIter_rangeiter st h
section
variable {X:Cx}{tg:Expr}
def qk(K:K0)(tl:TE):TI:=λσ H R=>tl σ H λx H1=>∃a,x=.ref a/\(∃xs,SqL K H1 a xs)/\R (Itl K a) H1
def Cg(K:K0)(tl:TE):TI:=λσ H R=>tl σ H λx H1=>∃a,x=.ref a/\(∃xs,SqT K H1 a xs)/\R (Itt K a) H1
def kC{l:Expr}{tl:TE}(hl:PE X l tl):PI X tg l (qk X.K tl):=by
 intro G_ s σ H R I h;show b8 (hl G_ s σ H _ I h) λv s1 x H1 I1 r1 q1=>?_
 ext(⟨a,e,⟨xs,hq⟩,q⟩:q1);subst e;ext r1;ext(⟨its,rv,p,hz⟩:I1.list hq);show wpAny_pyIter_list p.isList ?_;show⟨s1.heap.objs.size,[s1.heap.objs.size],_,_,H1,rfl,I1.kept (t':=s1.toks) λb o e=>z9m _ e,Cd a _,⟨_,z8q _ rfl,rfl,rfl⟩,λb hb=>?_,q⟩;have e:b=s1.heap.objs.size:=⇑hb
 subst e;show I1.fpOk (z9o _) (I1.hok.fresh (z9o _))
def ql{l:Expr}{tl:TE}(hl:PE X l tl):PI X tg l (Cg X.K tl):=by
 intro G_ s σ H R I h;show b8 (hl G_ s σ H _ I h) λv s1 x H1 I1 r1 q1=>?_
 ext(⟨a,e,⟨xs,hq⟩,q⟩:q1);subst e;ext r1;ext(⟨its,rv,p,hz⟩:I1.tuple hq);show wpAny_pyIter_tuple (show s1.heap.IsTuple a its.toArray from p) ?_;show⟨s1.heap.objs.size,[s1.heap.objs.size],_,_,H1,rfl,I1.kept (t':=s1.toks) λb o e=>z9m _ e,Ce a _,⟨_,z8q _ rfl,rfl,rfl⟩,λb hb=>?_,q⟩;have e:b=s1.heap.objs.size:=⇑hb
 subst e;show I1.fpOk (z9o _) (I1.hok.fresh (z9o _))
def Ch{G_:p_}{σ:St}{H:Hp}{s:Shared}{R:It->Hp->Prop}{E:Value->Shared->Prop}{lo hi:Int}{t u v:Tok}{tk:Nat}(I:Inv X G_ σ H s)(h1:-(2 ^ 62)<=lo)(h2:lo<2 ^ 62)(h3:-(2 ^ 62)<=hi)(h4:hi<2 ^ 62)(q:R (Itr lo (hi-lo).toNat) H):wpAny (model X.prog X.w) X.A (pyIter (.ref s.heap.objs.size)) (PIE X G_ σ tg R) E {s with heap:=s.heap.push {cls:=.type "range",data:=.fields #[.int lo t,.int hi u,.int 1 v]},toks:=tk}:=by
 show wpAny_pyIter_range (IsRange.new ..) (small_one h1 h2 h3 h4) ?_;have I1:Inv X G_ σ H {s with heap:=s.heap.push {cls:=.type "range",data:=.fields #[.int lo t,.int hi u,.int 1 v]},toks:=tk}:=I.kept λb o e=>z9m _ e
 show⟨(s.heap.push {cls:=.type "range",data:=.fields #[.int lo t,.int hi u,.int 1 v]}).objs.size,[(s.heap.push {cls:=.type "range",data:=.fields #[.int lo t,.int hi u,.int 1 v]}).objs.size],_,_,H,rfl,
  I1.kept (t':=tk) λb o e=>z9m _ e,Cf _ lo (hi-lo).toNat,?_,λb hb=>?_,q⟩
 ·have e1:lo+((0:Nat):Int)*1=lo:=by simp
  have e2:(((hi-lo).toNat:Nat):Int)-((0:Nat):Int)=Builtin.Range.rangeSize lo hi 1:=by rw[rangeSize_one];split<;>ext
  change IsRangeIter _ _ (lo+((0:Nat):Int)*1) ((((hi-lo).toNat:Nat):Int)-((0:Nat):Int)) 1;rw[e1,e2];show z8q _ rfl
 ·have e:b=(s.heap.push {cls:=.type "range",data:=.fields #[.int lo t,.int hi u,.int 1 v]}).objs.size:=⇑hb
  subst e;show I1.fpOk (z9o _) (I1.hok.fresh (z9o _))
def vh(ta:TA):TI:=λσ H R=>ta σ H λvs H1=>∃j:Int,vs=[.int j]/\-(2 ^ 62)<=j/\j<2 ^ 62/\R (Itr 0 j.toNat) H1
def mF{a:Expr}{ta:TA}{p pos:Pos}(hg:Gl X "range")(hm:X.mg "range"=none)(ha:PA X [a] ta)(hs:starEach [a] X.env=[(false,eval a X.env)]<|>R0):PI X tg (.Call (.Name "range" p) [a] [] pos) (vh ta):=by
 intro G_ s σ H R I h;show Call_ (eG I hg hm boot_range (z8v (cK (ha pos G_ s σ H _ I h) λus s1 vs H1 I1 r1 q1=>?_) hs rfl));ext(⟨j,e,q1,q2,q⟩:q1);subst e;cases r1 with
 |cons r rr=>ext rr;ext(⟨t,rfl⟩:r);show call_range_1 (Ch I1 ∅ ∅ q1 q2 (⇑q))
def Ci(wi:TI)(g:TG)(tb:TS):TS:=λD σ H=>wi σ H λJ H1=>∃W:Nat->Nat->St->Hp->Prop,(∃m,W 0 m σ H1)/\∀i m σ H,W i m σ H ->
 (J.stop i H/\D.nx σ H)\/(J.go i H/\∃N:St->Hp->Prop,(∀σ' H',N σ' H'->∃m',m'<m/\W (i+1) m' σ' H')/\∀x H',J.yld i H x H'->g x σ H' λσ2 H2=>tb {D with nx:=N,ct:=N,bk:=D.nx} σ2 H2)
noncomputable def kD(fp:l_)(h:Heap):p_:=fp.filterMap λb=>(h.get? b).map λo=>(b,o)
def mG{fp:l_}{h:Heap}{b:Addr}{o:Obj}(hb:b∈fp)(e:h.get? b=some o):(b,o)∈kD fp h:=z3d.mpr ⟨b,hb,by rw[e];rfl⟩
def Cj{fp:l_}{h:Heap}{p:Addr×Obj}(hp:p∈kD fp h):p.1∈fp/\h.get? p.1=some p.2:=by
 ext(⟨b,hb,e⟩:z3d.mp hp);cases q:h.get? b with
 |none=>rw[q]at e;ext e
 |some o=>rw[q]at e;have e':(b,o)=p:=z7f e;subst e';show⟨hb,q⟩
def Inv.pinned{G_:p_}{σ:St}{H:Hp}{s:Shared}{fp:l_}(I:Inv X G_ σ H s)(hf:∀b∈fp,ck X G_ H b)(ho:∀b∈fp,∃o,s.heap.get? b=some o/\∀v,o.data≠.cell v):Inv X (G_++kD fp s.heap) σ H s:=
 I.pins_of λp hp=>(z8b.mp hp).elim (λz=>I.pin p (z9q _ z)) λz=>by ext(⟨hb,e⟩:Cj z);ext(⟨f0,f1,f2,_⟩:hf p.1 hb);ext(⟨o,e',d⟩:ho p.1 hb);rw[e]at e';ext e';show⟨e,f0,f1,f2,d⟩
def Inv.unpinned{G_ pl:p_}{σ:St}{H:Hp}{s:Shared}(I:Inv X (G_++pl) σ H s):Inv X G_ σ H s:=I.pins_of λp hp=>I.pin p (z9q _ (z8g _ hp))
def jk{iter:Expr}{body:n_}{wi:TI}{g:TG}{tb:TS}{pos:Pos}(hp:PassesOwn (model X.prog X.w) X.A X.env X.xe)(hc:X.calm=true)(hi:PI X tg iter wi)(hg:PG X tg g)(hb:PSs X body tb)(hs:(∀x,foldedSetIterable iter X.env x=pure x)<|>R4):PS X (.For tg iter body [] pos) (Ci wi g tb):=by
 intro G_ s σ H D I h;show wpAny_For (thn (hi G_ s σ H _ I h) λv s1 h1=>thn h1 λitv s2 h2=>?_) hs;ext(⟨it,fp,tn,J,H2,e,I2,T,st2,f2,W,⟨m0,w0⟩,turn⟩:h2);subst e;have stat:∀{H':Hp},(∀b∈fp,H' b=none)->∀b∈fp,ck X G_ H' b:=λhn b hb=>⟨hn b hb,(f2 b hb).2⟩
 show codeAny_forLoop_any (λn s'=>∃i σ' H',Inv X G_ σ' H' s'/\tn i s'.heap/\(∀b∈fp,H' b=none)/\W i n σ' H') ?_ m0 ⟨0,σ,H2,I2,st2,λb hb=>(f2 b hb).1,w0⟩;rintro n s3 ⟨i,σ3,H3,I3,st3,fr3,w3⟩;rcases turn i n σ3 H3 w3 with⟨stop,qn⟩|⟨go,N,hN,step⟩
 ·show z5t hp (thn (T.done X rfl rfl rfl hc i G_ s3 σ3 H3 X.xe I3 (stat fr3) st3 stop) λr s4 z_=>?_)
  ext(⟨hr,I4⟩:z_);subst hr;show z5s ⟨σ3,H3,I4,qn⟩
 ·show z5t hp (thn (T.item X rfl rfl rfl hc i G_ s3 σ3 H3 X.xe I3 (stat fr3) st3 go) λr s4 z_=>?_)
  ext(⟨u,hr,h4⟩:z_);subst hr;show z5t hp (thn h4 λ_ s5 z_=>?_);ext(⟨x,H5,I5,r5,y5,st5,fr5⟩:z_);have I5':=I5.pinned (stat fr5) (T.obj _ _ st5);show z5t hp (thn (hg _ s5 σ3 H5 x u _ I5' r5 (step x H5 y5)) λ_ s6 z_=>?_);ext(⟨σ6,H6,I6,q6⟩:z_);show z5t hp (thn (hb _ s6 σ6 H6 _ I6 q6) λf s7 q7=>?_);have again:∀{σ7:St} {H7:Hp},Inv X (G_++kD fp s5.heap) σ7 H7 s7->N σ7 H7->∃m,m<n/\∃i σ' H',Inv X G_ σ' H' s7/\tn i s7.heap/\(∀b∈fp,H' b=none)/\W i m σ' H':=λ{σ7 H7} I7 n7=>by ext(⟨m',hm,w7⟩:hN σ7 H7 n7);show⟨m',hm,i+1,σ7,H7,I7.unpinned,T.keep _ _ _ st5 λb hb o e=>(I7.pin (b,o) (z9q _ (z9q _ (mG hb e)))).1,λb hb=>?_,w7⟩;ext(⟨o,e,d⟩:T.obj _ _ st5 b hb);show(I7.pin (b,o) (z9q _ (z9q _ (mG hb e)))).2.1
  cases f with
  |next=>ext(⟨σ7,H7,I7,n7⟩:q7);show again I7 n7
  |cont=>ext(⟨σ7,H7,I7,n7⟩:q7);show again I7 n7
  |brk=>ext(⟨σ7,H7,I7,q7⟩:q7);show⟨σ7,H7,I7.unpinned,q7⟩
  |ret v=>ext(⟨x7,σ7,H7,I7,r7,q7⟩:q7);show⟨x7,σ7,H7,I7.unpinned,r7,q7⟩
end
def vi{K:K0}{a:Addr}{xs:B_}{g:TG}{tb:TS}{D:Ends}{σ:St}{H:Hp}(Pv:Nat->St->Hp->Prop)(h0:Pv 0 σ H)(hl:∀i σ H,i<=xs.length->Pv i σ H->SqL K H a xs)(hs:∀i x σ H,xs[i]?=some x->Pv i σ H->g x σ H λσ2 H2=>tb {D with nx:=Pv (i+1),ct:=Pv (i+1),bk:=D.nx} σ2 H2)(hd:∀σ H,Pv xs.length σ H->D.nx σ H):
  ∃W:Nat->Nat->St->Hp->Prop,(∃m,W 0 m σ H)/\∀i m σ H,W i m σ H ->
    ((Itl K a).stop i H/\D.nx σ H)\/((Itl K a).go i H/\∃N:St->Hp->Prop,(∀σ' H',N σ' H'->∃m',m'<m/\W (i+1) m' σ' H')/\∀x H',(Itl K a).yld i H x H'->g x σ H' λσ2 H2=>tb {D with nx:=N,ct:=N,bk:=D.nx} σ2 H2):=by
 show⟨λi m σ H=>m=xs.length-i/\i<=xs.length/\Pv i σ H,⟨xs.length,by simp,z7r _,h0⟩,?_⟩;rintro i m σ H ⟨rfl,hi,p⟩;have q:=hl i σ H hi p;by_cases hlt:i<xs.length
 ·show .inr ⟨⟨xs,xs[i],q,by simp[hlt]⟩,Pv (i+1),λσ' H' p'=>⟨xs.length-(i+1),by ext,rfl,hlt,p'⟩,λx H' y=>?_⟩
  ext(⟨e,y⟩:y);subst e;show hs i x σ _ (y xs q) p
 ·have e:i=xs.length:=by ext
  subst e;show .inl ⟨⟨xs,q,z9o _⟩,hd σ H p⟩
def vj{lo:Int}{n:Nat}{g:TG}{tb:TS}{D:Ends}{σ:St}{H:Hp}(Pv:Nat->St->Hp->Prop)(h0:Pv 0 σ H)(hs:∀i σ H,i<n->Pv i σ H->g (.int (lo+i)) σ H λσ2 H2=>tb {D with nx:=Pv (i+1),ct:=Pv (i+1),bk:=D.nx} σ2 H2)(hd:∀σ H,Pv n σ H->D.nx σ H):
  ∃W:Nat->Nat->St->Hp->Prop,(∃m,W 0 m σ H)/\∀i m σ H,W i m σ H ->
    ((Itr lo n).stop i H/\D.nx σ H)\/((Itr lo n).go i H/\∃N:St->Hp->Prop,(∀σ' H',N σ' H'->∃m',m'<m/\W (i+1) m' σ' H')/\∀x H',(Itr lo n).yld i H x H'->g x σ H' λσ2 H2=>tb {D with nx:=N,ct:=N,bk:=D.nx} σ2 H2):=by
 show⟨λi m σ H=>m=n-i/\i<=n/\Pv i σ H,⟨n,by simp,z7r _,h0⟩,?_⟩;rintro i m σ H ⟨rfl,hi,p⟩;by_cases hlt:i<n
 ·show .inr ⟨hlt,Pv (i+1),λσ' H' p'=>⟨n-(i+1),by ext,rfl,hlt,p'⟩,λx H' y=>?_⟩
  ext(⟨e,y⟩:y);subst e y;show hs i σ _ hlt p
 ·have e:i=n:=by ext
  subst e;show .inl ⟨z9o _,hd σ H p⟩
abbrev R2:=V->V->Hp->VK->Prop
def OpR(X:Cx)(f:Value->Value->Sem Value)(r:R2):Prop:=
 ∀(G_:p_) (s:Shared) (σ:St) (H:Hp) (x y:V) (v u:Value) (Q:VK),Inv X G_ σ H s->RelV x v->RelV y u->r x y H Q ->
   wpAny (model X.prog X.w) X.A (f v u) (EP X G_ σ Q) X.xe s
def UnR(X:Cx)(f:Value->Sem Value)(r:V->Hp->VK->Prop):Prop:=
 ∀(G_:p_) (s:Shared) (σ:St) (H:Hp) (x:V) (v:Value) (Q:VK),Inv X G_ σ H s->RelV x v->r x H Q ->
   wpAny (model X.prog X.w) X.A (f v) (EP X G_ σ Q) X.xe s
def cX(X:Cx)(f:Value)(r:B_->Hp->VK->Prop):Prop:=
 ∀(G_:p_) (s:Shared) (σ:St) (H:Hp) (xs:B_) (us:j_) (Q:VK),Inv X G_ σ H s->Vals xs us->r xs H Q ->
   wpAny (model X.prog X.w) X.A (call f us) (EP X G_ σ Q) X.xe s
def Ck(X:Cx)(r:V->Hp->(Bool->Hp->Prop)->Prop):Prop:=
 ∀(G_:p_) (s:Shared) (σ:St) (H:Hp) (x:V) (v:Value) (Q:Bool->Hp->Prop),Inv X G_ σ H s->RelV x v->r x H Q ->
   wpAny (model X.prog X.w) X.A (truthy v) (TP X G_ σ Q) X.xe s
def tOp(r:R2)(ta tb:TE):TE:=λσ H Q=>ta σ H λx H1=>tb σ H1 λy H2=>r x y H2 Q
def tUn(r:V->Hp->VK->Prop)(ta:TE):TE:=λσ H Q=>ta σ H λx H1=>r x H1 Q
def rI(C:Int->Int->Prop)(g:Int->Int->V):R2:=λx y H Q=>∃i j,x=.int i/\y=.int j/\C i j/\Q (g i j) H
def rI0(g:Int->Int->V):R2:=λx y H Q=>∃i j,x=.int i/\y=.int j/\Q (g i j) H
def rU(g:Int->V):V->Hp->VK->Prop:=λx H Q=>∃i,x=.int i/\Q (g i) H
section
variable {X:Cx}{a b:Expr}{ta tb:TE}{pos:Pos}
def qm(ha:PE X a ta)(hb:PE X b tb){G_:p_}{s:Shared}{σ:St}{H:Hp}{R:V->V->Hp->Prop}(I:Inv X G_ σ H s)(h:ta σ H λx H1=>tb σ H1 λy H2=>R x y H2){Q:Value->Shared->Prop}{f:Value->Value->Sem Value}(hf:∀v u s2 x y H2,Inv X G_ σ H2 s2->RelV x v->RelV y u->R x y H2->wpAny (model X.prog X.w) X.A (f v u) Q X.xe s2):
  wpAny (model X.prog X.w) X.A (eval a X.env) (λv z0=>wpAny (model X.prog X.w) X.A (eval b X.env) (λu z5=>wpAny (model X.prog X.w) X.A (f v u) Q X.xe z5) X.xe z0) X.xe s:=by
 show b8 (ha G_ s σ H _ I h) λv s1 x H1 I1 r1 q1=>?_
 show b8 (hb G_ s1 σ H1 _ I1 q1) λu s2 y H2 I2 r2 q2=>?_
 show hf v u s2 x y H2 I2 r1 r2 q2
def iA{op:Operator}{r:R2}(ho:OpR X (binaryOp op) r)(ha:PE X a ta)(hb:PE X b tb):PE X (.BinOp a op b pos) (tOp r ta tb):=by intro G_ s σ H Q I h;show wpAny_BinOp (qm ha hb I h λv u s2 x y H2 I2 rx ry q=>ho G_ s2 σ H2 x y v u Q I2 rx ry q)
def Cl{op:UnaryOp}{r:V->Hp->VK->Prop}(ho:UnR X (unaryOp op) r)(ha:PE X a ta):PE X (.UnaryOp op a pos) (tUn r ta):=by intro G_ s σ H Q I h;show UnaryOp_ (b8 (ha G_ s σ H _ I h) λv s1 x H1 I1 r1 q1=>ho G_ s1 σ H1 x v Q I1 r1 q1)
def opI{f:Value->Value->Sem Value}{C:Int->Int->Prop}{g:Int->Int->Int}(rule:∀(i j:Int) (t u:Tok) (s:Shared) (Q:Value->Shared->Prop) (E:Value->Shared->Prop),C i j->Q (.int (g i j) s.toks) {s with toks:=s.toks+1}->wpAny (model X.prog X.w) X.A (f (.int i t) (.int j u)) Q E s):
  OpR X f (rI C λi j=>.int (g i j)):=by
 intro G_ s σ H x y v u Q I rx ry h;ext(⟨i,j,rfl,rfl,hc,q⟩:h);ext(⟨t,rfl⟩:rx);ext(⟨t',rfl⟩:ry);show rule i j t t' s _ _ hc ⟨.int (g i j),H,I.tok _,⟨_,rfl⟩,q⟩
def vk{f:Value->Value->Sem Value}{g:Int->Int->Int}(rule:∀(i j:Int) (t u:Tok) (s:Shared) (Q:Value->Shared->Prop) (E:Value->Shared->Prop),Q (.int (g i j) s.toks) {s with toks:=s.toks+1}->wpAny (model X.prog X.w) X.A (f (.int i t) (.int j u)) Q E s):
  OpR X f (rI0 λi j=>.int (g i j)):=by
 intro G_ s σ H x y v u Q I rx ry h;ext(⟨i,j,rfl,rfl,q⟩:h);ext(⟨t,rfl⟩:rx);ext(⟨t',rfl⟩:ry);show rule i j t t' s _ _ ⟨.int (g i j),H,I.tok _,⟨_,rfl⟩,q⟩
def mH{f:Value->Value->Sem Value}{g:Int->Int->Bool}(rule:∀(i j:Int) (t u:Tok) (s:Shared) (Q:Value->Shared->Prop) (E:Value->Shared->Prop),Q (.bool (g i j)) s->wpAny (model X.prog X.w) X.A (f (.int i t) (.int j u)) Q E s):
  OpR X f (rI0 λi j=>.bl (g i j)):=by
 intro G_ s σ H x y v u Q I rx ry h;ext(⟨i,j,rfl,rfl,q⟩:h);ext(⟨t,rfl⟩:rx);ext(⟨t',rfl⟩:ry);show rule i j t t' s _ _ ⟨.bl (g i j),H,I,rfl,q⟩
def vm:OpR X (binaryOp .Add) (rI0 λi j=>.int (i+j)):=vk λ_ _ _ _ _ _ _ q=>add_int q
def vn:OpR X (binaryOp .Sub) (rI0 λi j=>.int (i-j)):=vk λ_ _ _ _ _ _ _ q=>sub_int q
def Cm:OpR X (binaryOp .Mod) (rI (λ_ j=>0<j) λi j=>.int (i % j)):=opI λi j _ _ _ _ _ hc q=>by have h1:(0:Int)<j:=hc;show mod_int' ∅ (by rw[Int.fmod_eq_emod_of_nonneg i ∅];show q)
def unI{f:Value->Sem Value}{g:Int->Int}(rule:∀(i:Int) (t:Tok) (s:Shared) (Q:Value->Shared->Prop) (E:Value->Shared->Prop),Q (.int (g i) s.toks) {s with toks:=s.toks+1}->wpAny (model X.prog X.w) X.A (f (.int i t)) Q E s):
  UnR X f (rU λi=>.int (g i)):=by
 intro G_ s σ H x v Q I rx h;ext(⟨i,rfl,q⟩:h);ext(⟨t,rfl⟩:rx);show rule i t s _ _ ⟨.int (g i),H,I.tok _,⟨_,rfl⟩,q⟩
def Cn:UnR X (unaryOp .USub) (rU λi=>.int (-i)):=unI λ_ _ _ _ _ q=>neg_int q
end
section
variable {X:Cx}{a b c:Expr}{ta tb tc:TE}{pos:Pos}
def qo{G_:p_}{σ:St}{H:Hp}{s:Shared}{Q:VK}{k k':Bool}(I:Inv X G_ σ H s)(q:Q (.bl k) H)(e:k=k'):EP X G_ σ Q (.bool k') s:=by subst e;show⟨.bl k,H,I,rfl,q⟩
def Co:OpR X (compareOp .Lt) (rI0 λi j=>.bl (decide (i<j))):=mH λ_ _ _ _ _ _ _ q=>lt_int q
def qp:OpR X (compareOp .LtE) (rI0 λi j=>.bl (decide (i<=j))):=mH λ_ _ _ _ _ _ _ q=>le_int q
def qq:OpR X (compareOp .Gt) (rI0 λi j=>.bl (decide (j<i))):=mH λ_ _ _ _ _ _ _ q=>gt_int q
def Cp:OpR X (compareOp .GtE) (rI0 λi j=>.bl (decide (j<=i))):=mH λ_ _ _ _ _ _ _ q=>ge_int q
def Cq:OpR X (compareOp .In) (λx y H Q=>∃i j,x=.str i/\y=.str j/\Q (.bl (!(Builtin.Str.occurrences j i 0 j.length 1).isEmpty)) H):=by intro G_ s σ H x y v u Q I rx ry h;ext(⟨i,j,rfl,rfl,q⟩:h);ext(⟨t,rfl⟩:rx);ext(⟨t',rfl⟩:ry);show in_str (qo I q rfl)
def vo:OpR X (compareOp .Is) (λx y H Q=>y=.non/\Q (.bl (decide (x=.non))) H):=by
 intro G_ s σ H x y v u Q I rx ry h;ext(⟨rfl,q⟩:h);ext ry;show is_none_gen (qo I q ?_);ext x<;>first
  |(ext rx;rfl)
  |(ext(⟨t,rfl⟩:rx);rfl)
def vp:OpR X (compareOp .IsNot) (λx y H Q=>y=.non/\Q (.bl (!decide (x=.non))) H):=by
 intro G_ s σ H x y v u Q I rx ry h;ext(⟨rfl,q⟩:h);ext ry;show isnot_none_gen (qo I q ?_);ext x<;>first
  |(ext rx;rfl)
  |(ext(⟨t,rfl⟩:rx);rfl)
noncomputable def Cr:HO->Bool
 |.lst _=>true
 |.ins _ _ _=>true
 |_=>false
def jl{G_:p_}{s:Shared}{σ:St}{H:Hp}{a:Addr}{o:HO}(I:Inv X G_ σ H s)(h:H a=some o)(p:Cr o=true):∃ob,s.heap.get? a=some ob/\ob.cls≠.type "tuple":=by
 cases o with
 |lst xs=>obtain⟨_,its,n,_,e⟩:xs.length<=sizeLine/\∃(its:j_) (n:Nat),Vals xs its/\s.heap.get? a=some {cls:=.type "list",data:=.seq its.toArray n}:=I.hok a _ h;show⟨_,e,(by change Value.type "list" ≠ .type "tuple";decide +kernel)⟩
 |ins C dx fs=>have x:=I.hok a _ h;ext(⟨_,_,_,e,_⟩:x);show⟨_,e,(by change Value.ref C≠.type "tuple";show λz=>by ext z)⟩
 |_=>show absurd (show false=true from p) z8l
def di(b:Expr){op:CmpOp}(h:op≠.In<|>R1)(h2:op≠.NotIn<|>R1):behindInMarks op b=false:=by
 have e1:(op==CmpOp.In)=false:=by ext op<;>first|rfl|show absurd rfl h
 have e2:(op==CmpOp.NotIn)=false:=by ext op<;>first|rfl|show absurd rfl h2
 ext b<;>simp[behindInMarks,e1,e2]
def vq{op:CmpOp}{r:R2}(ho:OpR X (compareOp op) r)(ha:PE X a ta)(hb:PE X b tb)(hm:behindInMarks op b=false):PE X (.Compare a [op] [b] pos) (tOp r ta tb):=by intro G_ s σ H Q I h;show wpAny_Compare1 (qm ha hb I h λv u s2 x y H2 I2 rx ry q=>ho G_ s2 σ H2 x y v u Q I2 rx ry q) hm
def Cs(t:TE):TT:=λσ H Q=>t σ H λx H'=>∃k,x=.bl k/\Q k H'
def qr{op:CmpOp}{r:R2}(ho:OpR X (compareOp op) r)(ha:PE X a ta)(hb:PE X b tb)(hm:behindInMarks op b=false):PT X (.Compare a [op] [b] pos) (Cs (tOp r ta tb)):=by
 intro G_ s σ H Q I h;show wpAny_isTrue_Compare1 (b8 (ha G_ s σ H _ I h) λv s1 x H1 I1 r1 q1=>b8 (hb G_ s1 σ H1 _ I1 q1) λu s2 y H2 I2 r2 q2=>b8 (ho G_ s2 σ H2 x y v u _ I2 r1 r2 q2) λc s3 z H3 I3 r3 ⟨k,e,q3⟩=>?_) hm
 subst e;ext r3;show z6i ⟨H3,I3,q3⟩
def vt(r r':R2)(ta tb tc:TE):TE:=λσ H Q=>ta σ H λx H1=>tb σ H1 λy H2=>r x y H2 λz H3=>∃k,z=.bl k /\
 (if k=true then tc σ H3 λw' H4=>r' y w' H4 Q else Q (.bl false) H3)
def Ct{op op':CmpOp}{r r':R2}(ho:OpR X (compareOp op) r)(ho':OpR X (compareOp op') r')(ha:PE X a ta)(hb:PE X b tb)(hc:PE X c tc)(hm:lastMarks [op,op'] [b,c]=false<|>R6):PE X (.Compare a [op,op'] [b,c] pos) (vt r r' ta tb tc):=by
 intro G_ s σ H Q I h;show Compare_chain (b8 (ha G_ s σ H _ I h) λv s1 x H1 I1 r1 q1=>chain_link (b8 (hb G_ s1 σ H1 _ I1 q1) λu s2 y H2 I2 r2 q2=>b8 (ho G_ s2 σ H2 x y v u _ I2 r1 r2 q2) λd s3 z H3 I3 r3 ⟨k,e,q3⟩=>?_)) hm
 subst e;ext r3;show z6i ?_;cases k with
 |false=>show ite_ff ⟨.bl false,H3,I3,rfl,q3⟩
 |true=>show ite_tt (chain_last (b8 (hc G_ s3 σ H3 _ I3 q3) λw' s4 z' H4 I4 r4 q4=>ho' G_ s4 σ H4 y z' u w' Q I4 r2 r4 q4))
def qt(K:K0)(x:V)(H:Hp)(k:Bool):Prop:=
 match x with
 |.non=>k=false
 |.bl b=>k=b
 |.int i=>k=(i != 0)
 |.str y=>y.length<=sizeLine/\k=((y.length:Int) != 0)
 |.byt y=>y.size<=sizeLine/\k=((y.size:Int) != 0)
 |.ref p=>(∃xs,SqL K H p xs/\k = !xs.isEmpty)\/(∃xs,SqT K H p xs/\k = !xs.isEmpty)\/∃kvs,H p=some (.dK kvs)/\k = !kvs.isEmpty
 |_=>False
def Cu{κ:Type}{kvs:List (κ×V)}{vs:List (κ×Value)}(r:KV kvs vs):(!vs.isEmpty) = !kvs.isEmpty:=by ext r<;>rfl
def vz{xs:B_}{its:j_}(r:Vals xs its):(!its.toArray.isEmpty) = !xs.isEmpty:=by ext r<;>simp
def iB:(sizeLine:Nat)<2 ^ 63:=by rw[z6g];decide
def Cv:Ck X (λx H Q=>∃k,qt X.K x H k/\Q k H):=by
 intro G_ s σ H x v Q I rx h;ext(⟨k,e,q⟩:h);have hl:=iB;have hs:sizeLine=16777216:=z6g;cases x with
 |non=>ext rx;have e':k=false:=e;subst e';show truthy_none ⟨H,I,q⟩
 |bl b=>ext rx;have e':k=b:=e;subst e';show z6i ⟨H,I,q⟩
 |int i=>ext(⟨t,rfl⟩:rx);have e':k=(i != 0):=e;subst e';show PySem.P.truthy_int ⟨H,I,q⟩
 |str y=>ext(⟨t,rfl⟩:rx);obtain⟨hy,e'⟩:y.length<=sizeLine/\k=((y.length:Int) != 0):=e;subst e';show PySem.P.truthy_str ∅ ⟨H,I.tok _,q⟩
 |byt y=>ext(⟨t,rfl⟩:rx);obtain⟨hy,e'⟩:y.size<=sizeLine/\k=((y.size:Int) != 0):=e;subst e';show W.truthy_bytes ∅ ⟨H,I.tok _,q⟩
 | ref p=>
   ext rx;have e':(∃xs,SqL X.K H p xs/\k = !xs.isEmpty)\/(∃xs,SqT X.K H p xs/\k = !xs.isEmpty)\/∃kvs,H p=some (.dK kvs)/\k = !kvs.isEmpty:=e;rcases e' with⟨xs,hx,e'⟩|⟨xs,hx,e'⟩|⟨kvs,hx,e'⟩
   ·subst e'
    ext(⟨its,r,pl,hz⟩:I.list hx);have hlen:=r.length;show wpAny_truthy_list pl.isList (by erw[z9t];ext) ⟨H,I.tok _,by rw[vz r];show q⟩
   ·subst e'
    ext(⟨its,r,pl,hz⟩:I.tuple hx);have hlen:=r.length;show truthy_tuple pl (by erw[z9t];ext) ⟨H,I.tok _,by rw[vz r];show q⟩
   ·subst e'
    obtain⟨hz,hS,vs,r,m⟩:kvs.length<=sizeLine/\(p==sysModules)=false/\∃vs,KV kvs vs/\s.heap.DictOf (dh X.prog X.w) p vs:=I.hok p _ hx;have hlen:kvs.length=vs.length:=z3h r;show wpAny_truthy_dict hS m ∅ ⟨H,I.tok _,by rw[Cu r];show q⟩
 |_=>show(show False from e).elim
def vA(ha:PE X a ta)(he:∀whole,isTrue a X.env whole=(do let v <- whole;standAt a.pos;holding [v] (truthy v))):
  PT X a (λσ H Q=>ta σ H λx H'=>∃k,qt X.K x H' k/\Q k H'):=by
 intro G_ s σ H Q I h;show isTrue_plain (b8 (ha G_ s σ H _ I h) λv s1 x H1 I1 r1 q1=>Cv G_ s1 σ H1 x v Q I1 r1 q1) (he _)
def vB:OpR X (binaryOp .Add) (λx y H Q=>∃i j,x=.str i/\y=.str j/\i.length+j.length<=sizeLine/\Q (.str (i++j)) H):=by intro G_ s σ H x y v u Q I rx ry h;ext(⟨i,j,rfl,rfl,hz,q⟩:h);ext(⟨t,rfl⟩:rx);ext(⟨t',rfl⟩:ry);show add_str (λt' tk=>⟨.str (i++j),H,I.tok _,⟨_,rfl⟩,q⟩) hz
def eg{x:V}{us:j_}(r:Vals [x] us):∃u,us=[u]/\RelV x u:=by
 cases r with
 |cons r1 r2=>ext r2;show⟨_,rfl,r1⟩
def jm{x y:V}{us:j_}(r:Vals [x,y] us):∃u w',us=[u,w']/\RelV x u/\RelV y w':=by
 cases r with
 | cons r1 r2=>
   cases r2 with
   |cons r3 r4=>ext r4;show⟨_,_,rfl,r1,r3⟩
def vC(hc:X.calm=true):cX X (.builtin "max") (λxs H Q=>∃i j,xs=[.int i,.int j]/\Q (.int (if j > i then j else i)) H):=by
 intro G_ s σ H xs us Q I r h;ext(⟨i,j,rfl,q⟩:h);ext(⟨u,w',rfl,⟨t,rfl⟩,⟨t',rfl⟩⟩:jm r);show max_two_ints (I.ok.hd hc) λh' tk k=>⟨_,H,I.kept k,?_,q⟩
 by_cases hj:j > i
 ·rw[if_pos hj,if_pos hj];show⟨_,rfl⟩
 ·rw[if_neg hj,if_neg hj];show⟨_,rfl⟩
def Cw(hc:X.calm=true):cX X (.builtin "min") (λxs H Q=>∃i j,xs=[.int i,.int j]/\Q (.int (if j<i then j else i)) H):=by
 intro G_ s σ H xs us Q I r h;ext(⟨i,j,rfl,q⟩:h);ext(⟨u,w',rfl,⟨t,rfl⟩,⟨t',rfl⟩⟩:jm r);show min_two_ints (I.ok.hd hc) λh' tk k=>⟨_,H,I.kept k,?_,q⟩
 by_cases hj:j<i
 ·rw[if_pos hj,if_pos hj];show⟨_,rfl⟩
 ·rw[if_neg hj,if_neg hj];show⟨_,rfl⟩
def qu:cX X (.type "str") (λxs H Q=>∃i,xs=[.int i]/\i.natAbs.log2<1920/\Q (.str (toString i)) H):=by intro G_ s σ H xs us Q I r h;ext(⟨i,rfl,hz,q⟩:h);ext(⟨u,rfl,t,rfl⟩:eg r);show PySem.P.str_of_int hz ⟨.str _,H,I.tok _,⟨_,rfl⟩,q⟩
end
structure ObjM (h:Heap) (x dx C:Addr) (mA:Str->u_):Prop where
 obj:h.get? x=some (W.instObj C dx)
 ns:h.Ns1 dx mA
 ne:dx≠x
def Cy{h:Heap}{dx:Addr}{mA:Str->u_}(n:h.Ns1 dx mA):∃od,h.get? dx=some od/\∀name,W.lookIn name od=some (mA name):=by
 ext(⟨o,es,ep,ho,hd,hk,_,hm⟩:n);show⟨o,ho,λname=>?_⟩;have e:=hm name;unfold nsFind findBy at e;rw[<- Array.find?_toList]at e;unfold W.lookIn;rw[hd];dsimp only
 set_option tactic.hygienic true in split
 ·rename_i y q
  rw[q]at e;show z7d some e
 ·rename_i q
  rw[q]at e;have a:es.toList.any (·.refKey)=false:=by rw[List.any_eq_false];intro y hy;ext(⟨z,t,hkey⟩:hk y (Array.mem_toList_iff.mp hy));simp[DictEntry.refKey,hkey]
  have a':¬es.toList.any (·.refKey)=true:=by rw[a];show z8l
  rw[if_neg a'];show z7d some e
def ObjM.look{h:Heap}{x dx C:Addr}{mA:Str->u_}(I:ObjM h x dx C mA):∃od,W.InstAt h x (W.instObj C dx) C (some od)/\∀name,W.lookIn name od=some (mA name):=
 let⟨od,ho,hl⟩:=Cy I.ns
 ⟨od,⟨I.obj,rfl,rfl,ho⟩,hl⟩
section
variable {prog:Program}{w:World}{A:Around}{E:Value->Shared->Prop}{s:Shared}{K:K0}{x dx C f:Addr}{mA:Str->u_}{name:Str}{v:Value}
def Cz{expr:Bool}{Q:Value->Shared->Prop}(X:K.In s.heap)(I:ObjM s.heap x dx C mA)(hg:W.plainGet K C name=true)(hh:W.hasDictIn K C=true)(ha:W.findIn K (.ref C) name=some none)(hv:mA name=some v)(hv':W.handedIn v=true)(h:Q v {s with toks:=s.toks+1}):
  wpAny (model prog w) A (getAttr (.ref x) name expr) Q E s:=by
 ext(⟨od,J,hl⟩:I.look);show W.get_value X J (z3a hg).1 (W.findObj_own hh ha rfl (by rw[hl,hv])) hv' h
def CA{pl:Sem Bool}{Q:Value×j_->Shared->Prop}(X:K.In s.heap)(I:ObjM s.heap x dx C mA)(hg:W.plainGet K C name=true)(hf:W.findIn K (.ref C) name=some (some (.ref f)))(ht:W.isFn K (.ref f)=true)(hv:mA name=none)(h:Q (.ref f,[.ref x]) s):
  wpAny (model prog w) A (getMethod (.ref x) name pl) Q E s:=by
 ext(⟨od,J,hl⟩:I.look);show W.method_fn X J (z3a hg).1 (z3a hg).2 hf (z7i.mp ht) (by change(W.lookIn name od).map (·.isSome)=some false;rw[hl,hv];rfl) h
def vD{ns:i_}{Q:Unit->Shared->Prop}(X:K.In s.heap)(I:ObjM s.heap x dx C mA)(hs:W.findIn K (.ref C) "__setattr__"=some (some (.builtin "object.__setattr__")))(hp:W.plainOver K C=true)(ht:W.takerIn K C name=some none)(hh:W.hasDictIn K C=true)(hw:PySem.Within mA ns)(hsz:ns.length<=sizeLine)(h:∀h',ObjM h' x dx C (λy=>if y=name then some v else mA y)->Heap.SameBut dx s.heap h'->Q () {s with heap:=h',toks:=s.toks+2}):
  wpAny (model prog w) A (setAttr (.ref x) name v) Q E s:=by
 ext(⟨od,J,hl⟩:I.look);show W.set_plain X J hs (W.osa_open (s:={s with toks:=s.toks+1}) (r:=none) X J hp ht λb=>?_);ext(⟨cd,hc,hd'⟩:W.any_some hh);have hx:s.heap.get? x=some ⟨.ref C,some dx,.plain,#[]⟩:=I.obj;show z9i (z8a (z9i (z9i (wpAny_loadPart hx (z9i (W.Looks.here (s:={s with toks:=s.toks+1}) (W.looks_clsIn X hc) ?_))))));rw[hd'];show z8a (a:=some dx) (z9i (z8a (z9i ?_)));show wpAny_nsSet1 (s:={s with toks:=s.toks+1}) I.ns λh' hn2 hs2=>?_
 ext(⟨oD,esD,epD,hoD,hdD,hcD⟩:hn2.count (PySem.Within.cons name v hw));show z9i (wpAny_lookBehind hoD (by rw[hdD];show pastItsLine_dict (z7p hcD (by rw[z9c];ext))) ?_);show z8a (h _ ⟨(hs2.2 _ (Ne.symm I.ne)).trans I.obj,hn2,I.ne⟩ hs2)
def vE{R:Result->Shared->Prop}{vs:j_}{kw:List (Str×Value)}(X:K.In s.heap)(hm:W.makesIn K C=true)(hi:W.findIn K (.ref C) "__init__"=some (some (.ref f)))(hf:W.typeIn K (.ref f)=some (.type "function"))(h:codeAny (model prog w) (A.under (.builtin "type.__call__" ⟨.ref C::vs,kw⟩)) (.call (.ref f) ⟨.ref (s.heap.objs.size+1)::vs,kw⟩) (W.InitBack (s.heap.objs.size+1) R)
   {s with heap:=(s.heap.push W.emptyDict).push (W.instObj C s.heap.objs.size)}):
  codeAny (model prog w) A (.call (.ref C) ⟨vs,kw⟩) R s:=by
 ext(⟨hh,g,d,t,os⟩:s);show W.make_core (W.makes_of X hm) (z5j X hi) (λself=>W.bind_fn X self hf) (.inl rfl) h
end
noncomputable def cx(f:Str)(v:V):List (Str×V)->List (Str×V)
 |[]=>[(f,v)]
 |(g,x)::r=>if g=f then(g,v)::r else(g,x)::cx f v r
theorem vF(f g:Str)(v:V):∀fs:List (Str×V),(cx f v fs).lookup g=if g=f then some v else fs.lookup g
 | []=>by
   change List.lookup g [(f,v)]=_;by_cases h:g=f
   ·have hb:(g==f)=true:=z7i.mpr h
    erw[List.lookup,hb,if_pos h]
   ·have hb:(g==f)=false:=z7h.mpr h
    erw[List.lookup,hb,if_neg h]
 | (k, x)::r=>by
   have ih:=vF f g v r;rw[show cx f v ((k,x)::r)=(if k=f then(k,v)::r else(k,x)::cx f v r)from rfl];by_cases hk:k=f
   ·rw[if_pos hk]
    by_cases h:g=k
    ·have hb:(g==k)=true:=z7i.mpr h
     erw[List.lookup,hb,if_pos (h.trans hk)]
    ·have hb:(g==k)=false:=z7h.mpr h
     erw[List.lookup,hb,if_neg (λe:g=f=>h (e.trans hk.symm))]
   ·rw[if_neg hk]
    by_cases h:g=k
    ·have hb:(g==k)=true:=z7i.mpr h
     erw[List.lookup,hb,if_neg (λe:g=f=>hk (h.symm.trans e))]
    ·have hb:(g==k)=false:=z7h.mpr h
     erw[List.lookup,hb];show ih
theorem qv(f:Str)(v:V):∀fs:List (Str×V),f∈(cx f v fs).map (·.1)/\∀g,g∈fs.map (·.1)->g∈(cx f v fs).map (·.1)
 |[]=>⟨by simp[cx],λg h=>by simp at h⟩
 | (k, x)::r=>by
   ext(⟨i1,i2⟩:qv f v r);rw[show cx f v ((k,x)::r)=(if k=f then(k,v)::r else(k,x)::cx f v r)from rfl];by_cases hk:k=f
   ·rw[if_pos hk]
    subst hk;show⟨by simp,λg h=>⇑h⟩
   ·rw[if_neg hk]
    show⟨?_,λg h=>?_⟩
    ·rw[z9r]
     show z9d _ i1
    ·rw[z9r]at h ⊢
     ext((e|e):z9g.mp h)
     ·show z9g.mpr (.inl e)
     ·show z9d _ (i2 g e)
theorem vG(f:Str)(v:V):∀fs:List (Str×V),(cx f v fs).length<=fs.length+1
 |[]=>by simp[cx]
 | (k,x)::r=>by
   have ih:=vG f v r;rw[show cx f v ((k,x)::r)=(if k=f then(k,v)::r else(k,x)::cx f v r)from rfl];by_cases hk:k=f
   ·rw[if_pos hk,z9c,z9c];ext
   ·rw[if_neg hk,z9c,z9c];ext
def RelO.some_of{v:V}{o:u_}(r:RelO (some v) o):∃u,o=some u/\RelV v u:=by
 cases o with
 |none=>show(show False from r).elim
 |some u=>show⟨u,rfl,r⟩
def RelO.none_of{o:u_}(r:RelO none o):o=none:=by
 cases o with
 |none=>rfl
 |some u=>show(show False from r).elim
def CB{v:V}{u:Value}(r:RelV v u):W.handedIn u=true:=by
 cases v with
 |non=>cases(show u=Value.none from r);rfl
 |bl b=>cases(show u=Value.bool b from r);rfl
 |int i=>ext(⟨t,e⟩:(show ∃t,u=Value.int i t from r));ext e;rfl
 |str x=>ext(⟨t,e⟩:(show ∃t,u=Value.str x t from r));ext e;rfl
 |byt b=>ext(⟨t,e⟩:(show ∃t,u=Value.bytes b t from r));ext e;rfl
 |flt b=>ext(⟨t,e⟩:(show ∃t,u=Value.float b t from r));ext e;rfl
 |ref a=>cases(show u=Value.ref a from r);rfl
 |ty n=>cases(show u=Value.type n from r);rfl
section
variable {P:Program}{w:World}{H:Hp}{h:Heap}{a C dx:Addr}{fs:List (Str×V)}
def qw(hok:HOk P w H h)(e:H a=some (.ins C dx fs)):∃mA,ObjM h a dx C mA/\(∀f,RelO (fs.lookup f) (mA f))/\PySem.Within mA (fs.map (·.1))/\fs.length<=1000/\H dx=some (.own a):=by ext(⟨d,z,ne,ob,mA,n,r,q⟩:(show ObjOk P w H h a (.ins C dx fs)from hok a _ e));show⟨mA,⟨ob,n,ne⟩,r,q,z,d⟩
end
structure Cls (K:K0) (C:Addr):Prop where
 pg:W.plainGet K C Str.empty=true
 hd:W.hasDictIn K C=true
 po:W.plainOver K C=true
 sa:W.findIn K (.ref C) "__setattr__"=some (some (.builtin "object.__setattr__"))
def Cls.get{K:K0}{C:Addr}(c:Cls K C)(f:Str):W.plainGet K C f=true:=c.pg
def NoAttr(K:K0)(C:Addr)(f:Str):Prop:=W.findIn K (.ref C) f=some none
def NoAttr.taker{K:K0}{C:Addr}{f:Str}(n:NoAttr K C f):W.takerIn K C f=some none:=by unfold W.takerIn;rw[show W.findIn K (.ref C) f=some none from n];rfl
structure Meth (K:K0) (C:Addr) (m:Str) (f:Addr):Prop where
 at_:W.findIn K (.ref C) m=some (some (.ref f))
 fn:W.isFn K (.ref f)=true
 kp:W.keepIn K (.ref f)=true
section
variable {X:Cx}{G_:p_}{σ:St}{H:Hp}{s:Shared}{a C dx:Addr}{fs:List (Str×V)}{f:Str}{v:V}{A:Around}{E:Value->Shared->Prop}
def CC{b:Bool}{Q:Value->Shared->Prop}(I:Inv X G_ σ H s)(e:H a=some (.ins C dx fs))(c:Cls X.K C)(n:NoAttr X.K C f)(l:fs.lookup f=some v)(h:∀u s',Inv X G_ σ H s'->RelV v u->Q u s'):wpAny (model X.prog X.w) A (getAttr (.ref a) f b) Q E s:=by ext(⟨mA,O,r,_,_,_⟩:qw I.hok e);ext(⟨u,hu,ru⟩:RelO.some_of (v:=v) (o:=mA f) (by rw[<- l];show r f));show Cz I.kIn O (c.get f) c.hd n hu (CB ru) (h u _ (I.tok _) ru)
def kE{m:Str}{g:Addr}{pl:Sem Bool}{Q:Value×j_->Shared->Prop}(I:Inv X G_ σ H s)(e:H a=some (.ins C dx fs))(c:Cls X.K C)(k:Meth X.K C m g)(l:fs.lookup m=none)(h:Q (.ref g,[.ref a]) s):wpAny (model X.prog X.w) A (getMethod (.ref a) m pl) Q E s:=by ext(⟨mA,O,r,_,_,_⟩:qw I.hok e);have hn:mA m=none:=RelO.none_of (by rw[<- l];show r m);show CA I.kIn O (c.get m) k.at_ k.fn hn h
def CF{y:V}{u:Value}{Q:Unit->Shared->Prop}(I:Inv X G_ σ H s)(e:H a=some (.ins C dx fs))(c:Cls X.K C)(n:NoAttr X.K C f)(hl:fs.length<1000)(ry:RelV y u)(h:∀s',Inv X G_ σ (upd H a (.ins C dx (cx f y fs))) s'->Q () s'):wpAny (model X.prog X.w) A (setAttr (.ref a) f u) Q E s:=by
 ext(⟨mA,O,r,wi,_,ho⟩:qw I.hok e);have hz:(fs.map (·.1)).length<=sizeLine:=by rw[z9a,z6g];ext
 show vD I.kIn O c.sa c.po n.taker c.hd wi hz λh' O' sb=>h _ ?_
 have hd:∃o,h'.get? dx=some o:=let⟨o,_,_,e',_⟩:=O'.ns;⟨o,e'⟩;show I.write (x:=a) (e:=dx) (by rw[e];show True.intro) (.inr ho) (λb q hb z=>(sb.2 b hb).trans z) hd ?_;show⟨by rw[aJ O.ne];show ho,?_,O.ne,O'.obj,_,O'.ns,λg=>?_,λg hg=>?_⟩
 ·have:=vG f y fs;ext
 ·change RelO ((cx f y fs).lookup g) (if g=f then some u else mA g)
  rw[vF];by_cases q:g=f
  ·rw[if_pos q,if_pos q];show ry
  ·rw[if_neg q,if_neg q];show r g
 ·by_cases q:g=f
  ·rw[q];show(qv f y fs).1
  ·show(qv f y fs).2 g (wi g λz=>hg ?_)
   change(if g=f then some u else mA g)=none;rw[if_neg q];show z
def Inv.made(I:Inv X G_ σ H s):Inv X G_ σ (upd (upd H s.heap.objs.size (.own (s.heap.objs.size+1))) (s.heap.objs.size+1) (.ins C s.heap.objs.size []))
  {s with heap:=(s.heap.push W.emptyDict).push (W.instObj C s.heap.objs.size)}:=by
 have e1:(s.heap.push W.emptyDict).get? s.heap.objs.size=some W.emptyDict:=z8q s.heap rfl;have e2:((s.heap.push W.emptyDict).push (W.instObj C s.heap.objs.size)).get? (s.heap.objs.size+1)=some (W.instObj C s.heap.objs.size):=by
  have:=z8q (s.heap.push W.emptyDict) (o:=W.instObj C s.heap.objs.size) rfl
  rwa [Heap.size_push]at this
 have e3:(s.heap.push W.emptyDict).Ns s.heap.objs.size (λ_=>none):=⟨W.emptyDict,#[],_,e1,rfl,(λe he=>absurd he (by simp)),λ_=>rfl⟩;have I1:=I.laid (a:=s.heap.objs.size) (o:=.own (s.heap.objs.size+1)) (h':=s.heap.push W.emptyDict) (t':=s.toks) (λb u q=>z9m _ q) (z9o _) ⟨_,e1⟩;show I1.laid (a:=s.heap.objs.size+1) (o:=.ins C s.heap.objs.size []) (t':=s.toks) (λb u q=>z9m _ q) (Nat.le_of_eq (Heap.size_push _ _)) ?_;have ne:s.heap.objs.size≠s.heap.objs.size+1:=z8n (Nat.lt_succ_self _);show⟨by rw[aJ ne,bi],z7r _,ne,e2,λ_=>none,(Heap.Ns1.of_empty e3).at λo q=>z9m _ q,λ_=>True.intro,λy hy=>absurd rfl hy⟩
def CG{prog:Program}{w:World}{env:Env}{e:Expr}{f:Str}{pos:Pos}{s:Shared}{Q:Value->Shared->Prop}(hb:attributeBase e f env (eval e env)=eval e env)(h:wpAny (model prog w) A (eval e env) (λo z0=>wpAny (model prog w) A (getAttr o f true) Q E z0) E s):wpAny (model prog w) A (eval (.Attribute e f pos) env) Q E s:=
 Attribute_any_ h (by rw[arm_eval_Attribute,hb])
end
def CH(K:K0)(ta:TE)(f:Str):TE:=λσ H Q=>ta σ H λx H1=>∃a C dx fs v,x=.ref a/\H1 a=some (.ins C dx fs)/\Cls K C/\NoAttr K C f/\fs.lookup f=some v/\Q v H1
def CI(K:K0)(ta tv:TE)(f:Str):TS:=λD σ H=>tv σ H λy H1=>ta σ H1 λx H2=>∃a C dx fs,x=.ref a/\H2 a=some (.ins C dx fs)/\Cls K C/\NoAttr K C f/\fs.length<1000 /\
 D.nx σ (upd H2 a (.ins C dx (cx f y fs)))
section
variable {X:Cx}{o e value:Expr}{f:Str}{pos pos':Pos}{ta tv:TE}
def CJ(he:PE X e ta)(hb:attributeBase e f X.env (eval e X.env)=eval e X.env):PE X (.Attribute e f pos) (CH X.K ta f):=by intro G_ s σ H Q I h;show CG hb (b8 (he G_ s σ H _ I h) λu s1 x H1 I1 rx z_=>?_);ext(⟨a,C,dx,fs,v,ex,ea,c,n,l,q⟩:z_);subst ex;obtain rfl:u=Value.ref a:=rx;show CC I1 ea c n l λu' s2 I2 ru=>⟨v,H1,I2,ru,q⟩
def qz(ha:PE X o ta)(hv:PE X value tv)(hs:swapsWith value (some (.Attribute o f pos')) pos.line X.env=pure false):PS X (.Assign [.Attribute o f pos'] value pos) (CI X.K ta tv f):=by intro G_ s σ H D I h;show plainObj_wpAny_Assign_Attribute (b8 (hv G_ s σ H _ I h) λu s1 y H1 I1 ry q=>b8 (ha G_ s1 σ H1 _ I1 q) λov s2 x H2 I2 rx z_=>?_) hs;ext(⟨a,C,dx,fs,ex,ea,c,n,l,q2⟩:z_);subst ex;obtain rfl:ov=Value.ref a:=rx;show CF I2 ea c n l ry λs3 I3=>⟨σ,_,I3,q2⟩
end
structure Room (k:Nat) (A:Around):Prop where
 hd:A.handled=none
 dp:A.depth+3*k+5<recursionLimit
 un:A.units+16*k+200<cLine
def Room.mono{j k:Nat}{A:Around}(r:Room k A)(h:j<=k):Room j A:=⟨r.hd,by have:=r.dp;ext,by have:=r.un;ext⟩
def Room.deeper{k:Nat}{A:Around}(r:Room (k+1) A)(env:Env):Room k (A.deeper env):=
 ⟨r.hd,by have:=r.dp;change A.depth+1+3*k+5<_;ext,by have:=r.un;change A.units+3+16*k+200<_;ext⟩
def CK{A:Around}{C:Addr}{us:j_}{kw:List (Str×Value)}:(A.under (.builtin "type.__call__" ⟨.ref C::us,kw⟩)).depth=A.depth+1:=by first|rfl|simp[Around.under,Code.weight,Code.isCreation,Code.isGuard,Code.isCaller,Code.frames,Code.isFrame,guardIds]
def CL{A:Around}{C:Addr}{us:j_}{kw:List (Str×Value)}:(A.under (.builtin "type.__call__" ⟨.ref C::us,kw⟩)).units=A.units+1:=by first|rfl|simp[Around.under,Code.cUnits,Code.frames,Code.isFrame]
def Room.make{k:Nat}{A:Around}(r:Room (k+1) A)(C:Addr)(us:j_)(kw:List (Str×Value)):Room k (A.under (.builtin "type.__call__" ⟨.ref C::us,kw⟩)):=
 ⟨r.hd,by have:=r.dp;rw[CK];ext,by have:=r.un;rw[CL];ext⟩
def Room.depth{k:Nat}{A:Around}(r:Room k A):A.depth<recursionLimit:=by have:=r.dp;ext
def Room.units{k:Nat}{A:Around}(r:Room k A):A.units+64<cLine:=by have:=r.un;ext
def mI:TA:=λ_ H Q=>Q [] H
def vH(ta:TE)(tr:TA):TA:=λσ H Q=>ta σ H λx H1=>tr σ H1 λxs H2=>Q (x::xs) H2
section
variable {X:Cx}{e:Expr}{es:k_}{te:TE}{t:TA}{pos:Pos}
def ca:PA X [] mI:=λ_ _ _ _ H Q I h=>z3j ⟨[],H,I,.nil,h⟩
def bS(ha:PE X e te)(hr:PA X es t)(hs:SE e es X<|>R0):PA X (e::es) (vH te t):=by intro pos G_ s σ H Q I h;rw[hs];change wpAny _ _ (spliced ((false,eval e X.env)::backTo pos (starEach es X.env))) _ _ s;show z3e (b8 (ha G_ s σ H _ I h) λu s1 x H1 I1 r1 q1=>?_);show cK (hr pos G_ s1 σ H1 _ I1 q1) λus s2 xs H2 I2 r2 q2=>⟨x::xs,H2,I2,.cons r1 r2,q2⟩
def CM(t:TA):TE:=λσ H Q=>t σ H λxs H1=>xs.length<=sizeLine/\∀p,H1 p=none->Q (.ref p) (upd H1 p (.tup xs))
def CN(t:TA):TE:=λσ H Q=>t σ H λxs H1=>xs.length<=sizeLine/\∀p,H1 p=none->Q (.ref p) (upd H1 p (.lst xs))
def vI{x1}(h:PA X es t):PE X (.Tuple es x1 pos) (CM t):=by intro G_ s σ H Q I hq;show wpAny_Tuple_spliced (cK (h pos G_ s σ H _ I hq) λus s1 xs H1 I1 r ⟨z,q⟩=>⟨by rw[<- r.length];show z,?_⟩);have hf:H1 s1.heap.objs.size=none:=I1.hok.fresh (z9o _);show⟨.ref s1.heap.objs.size,upd H1 s1.heap.objs.size (.tup xs),I1.laid (t':=s1.toks) (λb u e=>z9m _ e) (z9o _) ?_,rfl,q _ hf⟩;show⟨z,us,r,⟨_,z8q _ rfl,rfl,_,rfl⟩⟩
def mJ(h:PA X es t):PE X (.List es pos) (CN t):=by intro G_ s σ H Q I hq;show wpAny_List_spliced (cK (h pos G_ s σ H _ I hq) λus s1 xs H1 I1 r ⟨z,q⟩=>⟨by rw[<- r.length];show z,?_⟩);have hf:H1 s1.heap.objs.size=none:=I1.hok.fresh (z9o _);show⟨.ref s1.heap.objs.size,upd H1 s1.heap.objs.size (.lst xs),I1.laid (t':=s1.toks) (λb u e=>z9m _ e) (z9o _) ?_,rfl,q _ hf⟩;show⟨z,us,0,r,z8q _ rfl⟩
end
abbrev Sp:=B_->Hp->VK->XK->Prop
abbrev CXT:=List Env->Hp->Shared->XK->Value->Shared->Prop
structure Env0 (P:Program) (w:World) (K:K0) (mg:Str->u_) (base:Heap) (A:Around) (outer:List Env) (s:Shared) (H:Hp):Prop where
 frames:A.frames=some outer
 mod:Mod K mg base
 bs:∀b o,base.get? b=some o->s.heap.get? b=some o/\H b=none
 bsz:base.objs.size<=s.heap.objs.size
 funs:s.heap.FunFrames base outer
 frf:∀b∈frs outer,H b=none
 hok:HOk P w H s.heap
 bare:AllBare s.gens
def CE(outer:List Env)(P:Program)(w:World)(H:Hp)(s:Shared)(Q:VK)(u:Value)(s':Shared):Prop:=
 ∃v H',s'.os=s.os/\AllBare s'.gens/\Un (frs outer) [] H H' s.heap s'.heap/\HOk P w H' s'.heap/\RelV v u/\Q v H'
def CR(CX:CXT)(outer:List Env)(P:Program)(w:World)(H:Hp)(s:Shared)(Q:VK)(E:XK)(r:Result)(s':Shared):Prop:=
 match r with
 |.ok (.ret u)=>CE outer P w H s Q u s'
 |.ok _=>False
 |.error e=>CX outer H s E e s'
structure FnOk (P:Program) (w:World) (K:K0) (mg:Str->u_) (base:Heap) (CX:CXT) (k:Nat) (f:Addr) (fd:FuncData) (ps:i_) (sp:Sp):Prop where
 len:∀vs H Q E,sp vs H Q E->vs.length=ps.length
 run:∀(A:Around) (outer:List Env) (s:Shared) (H:Hp) (args:Args) (us:j_) (vs:B_) (Q:VK) (E:XK),Room k A->Env0 P w K mg base A outer s H->BindsTo s fd args (ps.zip us)->Vals vs us->sp vs H Q E ->
  codeAny (model P w) A (.call (.ref f) args) (CR CX outer P w H s Q E) s
theorem FnOk.mono{P:Program}{w:World}{K:K0}{mg:Str->u_}{base:Heap}{CX:CXT}{j k:Nat}{f:Addr}{fd:FuncData}{ps:i_}{sp:Sp}(F:FnOk P w K mg base CX j f fd ps sp)(h:j<=k):
  FnOk P w K mg base CX k f fd ps sp:=⟨F.len,λA outer s H args us vs Q E hr=>F.run A outer s H args us vs Q E (hr.mono h)⟩
theorem FnOk.imp{P:Program}{w:World}{K:K0}{mg:Str->u_}{base:Heap}{CX:CXT}{k:Nat}{f:Addr}{fd:FuncData}{ps:i_}{sp sp':Sp}(F:FnOk P w K mg base CX k f fd ps sp)(h:∀vs H Q E,sp' vs H Q E->sp vs H Q E):FnOk P w K mg base CX k f fd ps sp':=
 ⟨λvs H Q E q=>F.len vs H Q E (h _ _ _ _ q),λA outer s H args us vs Q E hr he hb hv hs=>F.run A outer s H args us vs Q E hr he hb hv (h _ _ _ _ hs)⟩
def Env0.make{P:Program}{w:World}{K:K0}{mg:Str->u_}{base:Heap}{A:Around}{outer:List Env}{s:Shared}{H:Hp}(e:Env0 P w K mg base A outer s H)(C:Addr)(us:j_)(kw:List (Str×Value)):
  Env0 P w K mg base (A.under (.builtin "type.__call__" ⟨.ref C::us,kw⟩)) outer s H:=⟨by first|show e.frames|(simpa [Around.under,Code.envs,Code.isFrame,pushEnvs]using e.frames),e.mod,e.bs,e.bsz,e.funs,e.frf,e.hok,e.bare⟩
section
variable {X:Cx}{G_:p_}{σ:St}{H:Hp}{s s':Shared}
def Inv.env0(I:Inv X G_ σ H s):Env0 X.prog X.w X.K X.mg X.base X.A X.stack s H:=
 ⟨I.ok.frames,I.ok.mod,I.bs,z7p I.ok.bsz I.sz,I.stack,I.stkFree,I.hok,I.bare⟩
def Inv.after{Q:VK}{u:Value}(I:Inv X G_ σ H s)(h:CE X.stack X.prog X.w H s Q u s'):EP X G_ σ Q u s':=by ext(⟨v,H',os,bare,un,hok,r,q⟩:h);ext(⟨hh,g,d,t,os'⟩:s');obtain rfl:os'=s.os:=os;show⟨v,H',I.call (h':=hh) (g':=g) (d':=d) (t':=t) (ch:=[]) un hok bare (λb z=>absurd z (by simp)),r,q⟩
end
def CO(sp:Sp)(dvs:B_)(E:XK)(t:TA):TE:=λσ H Q=>t σ H λvs H1=>sp (vs++dvs) H1 Q E
def vJ(C:Addr)(m:Str)(sp:Sp)(dvs:B_)(E:XK)(ta:TE)(t:TA):TE:=λσ H Q=>ta σ H λx H1=>∃a dx fs,x=.ref a/\H1 a=some (.ins C dx fs)/\fs.lookup m=none /\
 t σ H1 λvs H2=>sp (x::(vs++dvs)) H2 Q E
def CP(C:Addr)(sp:Sp)(dvs:B_)(E:XK)(t:TA):TE:=λσ H Q=>t σ H λvs H1=>∀x dx,H1 x=none->H1 dx=none->dx≠x ->
 sp (.ref x::(vs++dvs)) (upd (upd H1 dx (.own x)) x (.ins C dx [])) (λv H2=>v=.non/\Q (.ref x) H2) E
def Binds(K:K0)(fd:FuncData)(ps:i_)(ds:j_):Prop:=
 ∀(s:Shared) (us:j_),K.In s.heap->(us++ds).length=ps.length->BindsTo s fd ⟨us,[]⟩ (ps.zip (us++ds))
def Binds.all{K:K0}{fd:FuncData}{ps:i_}(h:∀us:j_,us.length=ps.length->bindArgs fd ⟨us,[]⟩=pure (ps.zip us)):Binds K fd ps []:=λs us _ hl=>by rw[z8w]at hl ⊢;show .of_eq (h us hl)
def gg(CX:CXT)(X:Cx)(E:XK):Prop:=∀(G_:p_) (σ:St) (H:Hp) (s:Shared) (e:Value) (s':Shared),Inv X G_ σ H s->CX X.stack H s E e s'->X.xe e s'
section
variable {X:Cx}{CX:CXT}{k:Nat}{f C:Addr}{fd:FuncData}{ps:i_}{sp:Sp}{dvs:B_}{ds:j_}{E:XK}{x m:Str}{p pos apos:Pos}{e o:Expr}{es:k_}{ta:TE}{t:TA}
theorem qA{G_:p_}{σ:St}{H:Hp}{s:Shared}{Q:VK}{us:j_}{vs:B_}(F:FnOk X.prog X.w X.K X.mg X.base CX k f fd ps sp)(hr:Room k X.A)(hb:Binds X.K fd ps ds)(hd:Vals dvs ds)(hx:gg CX X E)(I:Inv X G_ σ H s)(r:Vals vs us)(h:sp (vs++dvs) H Q E):wpAny (model X.prog X.w) X.A (call (.ref f) us) (EP X G_ σ Q) X.xe s:=by
 have r2:Vals (vs++dvs) (us++ds):=r.append hd;have hl:(us++ds).length=ps.length:=by rw[<- r2.length];show F.len _ _ _ _ h
 show wpAny_call (z5w (F.run X.A X.stack s H ⟨us,[]⟩ (us++ds) (vs++dvs) Q E hr I.env0 (hb s us I.kIn hl) r2 h) λr s' hq=>?_);cases r with
 |error e=>show hx G_ σ H s e s' I hq
 | ok fl=>
   cases fl with
   |ret u=>show I.after hq
   |next=>show False.elim hq
   |brk=>show False.elim hq
   |cont=>show False.elim hq
def gN(F:FnOk X.prog X.w X.K X.mg X.base CX k f fd ps sp)(hr:Room k X.A)(hg:Gl X x)(hm:X.mg x=some (.ref f))(hk:W.keepIn X.K (.ref f)=true)(hb:Binds X.K fd ps ds)(hd:Vals dvs ds)(hx:gg CX X E)(ha:PA X (e::es) t)(hdb:DB x<|>R1)(he:SE e es X<|>R0)(hpl:BT pos es X<|>R0):
  PE X (.Call (.Name x p) (e::es) [] pos) (CO sp dvs E t):=by
 intro G_ s σ H Q I h;show z6s (gK I hg hm ?_ hdb);show z6t (h₀:=X.base) I.ok.mod.kin hk (cK (ha pos G_ s σ H _ I h) λus s1 vs H1 I1 r q=>⟨I1.kIn,?_⟩) he hpl;show qA F hr hb hd hx I1 r q
def CQ{pl:Sem Bool}(he:PE X o ta)(c:Cls X.K C)(hm:Meth X.K C m f)(F:FnOk X.prog X.w X.K X.mg X.base CX k f fd ps sp)(hr:Room k X.A)(hb:Binds X.K fd ps ds)(hd:Vals dvs ds)(hx:gg CX X E)(ha:PA X (e::es) t)(hst:SE e es X<|>R0)(hpl:BT pos es X<|>R0)(ht:(eval (.Call (.Attribute o m apos) (e::es) [] pos) X.env=(do
   let ov <- eval o X.env
   standAt apos.atName
   let(f,first) <- holding [ov] (getMethod ov m pl)
   callWith pos f first (backTo pos (starEach (e::es) X.env)) (backToKw pos (keywordEach [] X.env))))<|>R0):
  PE X (.Call (.Attribute o m apos) (e::es) [] pos) (vJ C m sp dvs E ta t):=by
 intro G_ s σ H Q I h;show z6u (pl:=pl) (b8 (he G_ s σ H _ I h) λu s1 x H1 I1 rx z_=>?_) ht;ext(⟨a,dx,fs,ex,ea,l,q⟩:z_);subst ex;obtain rfl:u=Value.ref a:=rx;show kE I1 ea c hm l ?_;show z6t (first:=[.ref a]) (h₀:=X.base) I.ok.mod.kin hm.kp (cK (ha pos G_ s1 σ H1 _ I1 q) λus s2 vs H2 I2 r q2=>⟨I2.kIn,?_⟩) hst hpl;show qA (us:=.ref a::us) (vs:=.ref a::vs) F hr hb hd hx I2 (.cons rfl r) q2
def CS{pl:Sem Bool}(he:PE X o ta)(c:Cls X.K C)(hm:Meth X.K C m f)(F:FnOk X.prog X.w X.K X.mg X.base CX k f fd ps sp)(hr:Room k X.A)(hb:Binds X.K fd ps ds)(hd:Vals dvs ds)(hx:gg CX X E)(ht:(eval (.Call (.Attribute o m apos) [] [] pos) X.env=(do
   let ov <- eval o X.env
   standAt apos.atName
   let(f,first) <- holding [ov] (getMethod ov m pl)
   callWith pos f first (backTo pos (starEach [] X.env)) (backToKw pos (keywordEach [] X.env))))<|>R0):
  PE X (.Call (.Attribute o m apos) [] [] pos) (vJ C m sp dvs E ta mI):=by
 intro G_ s σ H Q I h;show z6u (pl:=pl) (b8 (he G_ s σ H _ I h) λu s1 x H1 I1 rx z_=>?_) ht;ext(⟨a,dx,fs,ex,ea,l,q⟩:z_);subst ex;obtain rfl:u=Value.ref a:=rx;show kE I1 ea c hm l ?_;show z3b (first:=[.ref a]) I1.kIn hm.kp (qA (us:=[.ref a]) (vs:=[.ref a]) F hr hb hd hx I1 (.cons rfl .nil) q)
structure Mk (K:K0) (C f:Addr):Prop where
 makes:W.makesIn K C=true
 init:W.findIn K (.ref C) "__init__"=some (some (.ref f))
 fn:W.isFn K (.ref f)=true
 kp:W.keepIn K (.ref C)=true
theorem CT{G_:p_}{σ:St}{H:Hp}{s:Shared}{Q:VK}{us:j_}{vs:B_}(M:Mk X.K C f)(F:FnOk X.prog X.w X.K X.mg X.base CX k f fd ps sp)(hr:Room (k+1) X.A)(hb:Binds X.K fd ps ds)(hd:Vals dvs ds)(hx:gg CX X E)(I:Inv X G_ σ H s)(r:Vals vs us)(h:∀x dx,H x=none->H dx=none->dx≠x->sp (.ref x::(vs++dvs)) (upd (upd H dx (.own x)) x (.ins C dx [])) (λv H2=>v=.non/\Q (.ref x) H2) E):
  wpAny (model X.prog X.w) X.A (call (.ref C) us) (EP X G_ σ Q) X.xe s:=by
 have hq:=h (s.heap.objs.size+1) s.heap.objs.size (I.hok.fresh (Nat.le_succ _)) (I.hok.fresh (z9o _)) (z8n (Nat.lt_succ_self _));have I2:=Inv.made (C:=C) I;have r2:Vals (V.ref (s.heap.objs.size+1)::(vs++dvs)) (Value.ref (s.heap.objs.size+1)::(us++ds)):=.cons rfl (r.append hd);have hl:(Value.ref (s.heap.objs.size+1)::us++ds).length=ps.length:=by have e:=r2.length;rw[F.len _ _ _ _ hq]at e;show e.symm
 show wpAny_call (vE (f:=f) I.kIn M.makes M.init (z7i.mp M.fn) (z5w (F.run _ X.stack _ _ ⟨Value.ref (s.heap.objs.size+1)::us,[]⟩ (Value.ref (s.heap.objs.size+1)::(us++ds)) _ _ E (hr.make C us [])
  (I2.env0.make C us []) (hb _ (Value.ref (s.heap.objs.size+1)::us) I2.kIn hl) r2 hq) λr s' hq'=>?_))
 cases r with
 |error e=>show hx G_ σ _ _ e s' I2 hq'
 | ok fl=>
   cases fl with
   |ret u=>ext(⟨v,H',I3,rv,ev,q3⟩:I2.after hq');subst ev;show⟨rv,⟨V.ref (s.heap.objs.size+1),H',I3,rfl,q3⟩⟩
   |next=>show False.elim hq'
   |brk=>show False.elim hq'
   |cont=>show False.elim hq'
def CU(M:Mk X.K C f)(F:FnOk X.prog X.w X.K X.mg X.base CX k f fd ps sp)(hr:Room (k+1) X.A)(hg:Gl X x)(hm:X.mg x=some (.ref C))(hb:Binds X.K fd ps ds)(hd:Vals dvs ds)(hx:gg CX X E)(hdb:DB x<|>R1):PE X (.Call (.Name x p) [] [] pos) (CP C sp dvs E mI):=by intro G_ s σ H Q I h;show z6s (gK I hg hm ?_ hdb);show z3b I.kIn M.kp (CT (us:=[]) M F hr hb hd hx I .nil h)
end
structure FnScope (N P:i_) (sc:Scope):Prop where
 kind:sc.kind=.function
 co:sc.isCoroutine=false
 gen:sc.isGenerator=false
 nd:N.Nodup
 pre:N.take P.length=P
 par:∀x∈P,sc.names.lookup x=some .local\/sc.names.lookup x=some .cell
 nofree:∀y∈sc.names,y.2≠.free
theorem vK{kindOf:Str->Option NameKind}{x:Str}:∀{binds:List (Str×Value)} {m:Str->u_},(∀v,(x,v)∉binds)->bindL kindOf binds m x=m x
 |[],_,_=>rfl
 | (n,v)::r,m,h=>by
   unfold bindL;rw[vK λw hw=>h w (z9d _ hw)];split
   ·have:x≠n:=by rintro rfl;show h v z9b
    simp[this]
   ·rfl
theorem vL{kindOf:Str->Option NameKind}{x:Str}:∀{binds:List (Str×Value)} {m:Str->u_},(∀v,(x,v)∉binds)->bindC kindOf binds m x=m x
 |[],_,_=>rfl
 | (n,v)::r,m,h=>by
   unfold bindC;rw[vL λw hw=>h w (z9d _ hw)];split
   ·rfl
   ·have:x≠n:=by rintro rfl;show h v z9b
    simp[this]
theorem vM{kindOf:Str->Option NameKind}{x:Str}{v:Value}:∀{P:i_} {vs:j_} {i:Nat} {m:Str->u_},P.Nodup->P[i]?=some x->vs[i]?=some v->kindOf x=some .local ->
  bindL kindOf (P.zip vs) m x=some v
 |[],_,_,_,_,h,_,_=>by simp at h
 |_::_,[],_,_,_,_,h,_=>by simp at h
 |p::P,w::vs,0,m,nd,h1,h2,hk=>by simp at h1 h2;subst h1;subst h2;change bindL kindOf ((p,w)::P.zip vs) m p=_;unfold bindL;rw[vK λv hv=>(z8s.mp nd).1 (z4r hv).1,if_pos hk];simp
 |p::P,w::vs,i+1,m,nd,h1,h2,hk=>by change bindL kindOf ((p,w)::P.zip vs) m x=_;unfold bindL;show vM (i:=i) (z8s.mp nd).2 (⇑h1) (⇑h2) hk
theorem vN{kindOf:Str->Option NameKind}{x:Str}{v:Value}:∀{P:i_} {vs:j_} {i:Nat} {m:Str->u_},P.Nodup->P[i]?=some x->vs[i]?=some v->kindOf x≠some .local ->
  bindC kindOf (P.zip vs) m x=some v
 |[],_,_,_,_,h,_,_=>by simp at h
 |_::_,[],_,_,_,_,h,_=>by simp at h
 |p::P,w::vs,0,m,nd,h1,h2,hk=>by simp at h1 h2;subst h1;subst h2;change bindC kindOf ((p,w)::P.zip vs) m p=_;unfold bindC;rw[vL λv hv=>(z8s.mp nd).1 (z4r hv).1,if_neg hk];simp
 |p::P,w::vs,i+1,m,nd,h1,h2,hk=>by change bindC kindOf ((p,w)::P.zip vs) m x=_;unfold bindC;show vN (i:=i) (z8s.mp nd).2 (⇑h1) (⇑h2) hk
noncomputable def start(N:i_)(vs:B_):St:=vs.map some++List.replicate (N.length-vs.length) none
noncomputable def c4(CX:CXT)(P:Program)(w:World)(K:K0)(mg:Str->u_)(base:Heap)(N:i_)(qual:Str)(scope:Scope)(f:Addr)(cd:Value)(A:Around)(outer:List Env)(s:Shared)(H:Hp)(E:XK):Cx where
 prog:=P
 w:=w
 K:=K
 mg:=mg
 base:=base
 A:=A.deeper (envOfC qual scope s.heap.objs.size f cd)
 N:=N
 s₀:=s
 H₀:=H
 env:=envOfC qual scope s.heap.objs.size f cd
 outer:=outer
 stack:=envOfC qual scope s.heap.objs.size f cd::outer
 ex:=[]
 calm:=true
 fn:=λ_=>true
 pn:=[]
 xe:=λe s'=>wpAny (model P w) (A.deeper (envOfC qual scope s.heap.objs.size f cd)) (leaving (envOfC qual scope s.heap.objs.size f cd) e) (λ_ s''=>CX outer H s E e s'') (λe' s''=>CX outer H s E e' s'') s'
def vO{sc:Scope}{n:Nat}{x:Str}(h:sc.names.lookup x=some .cell):∃c,(cellsFrom n sc.names []).lookup x=some c:=by have q:=W.cellsFrom_some sc.names n [] (.inl h);show Option.isSome_iff_exists.mp q
def CV{CX:CXT}{P:Program}{w:World}{K:K0}{mg:Str->u_}{base:Heap}{N ps:i_}{qual:Str}{scope:Scope}{f:Addr}{cd:Value}{A:Around}{outer:List Env}{s s1:Shared}{H:Hp}{E:XK}{us:j_}{vs:B_}(S:FnScope N ps scope)(hd:A.handled=none)(e0:Env0 P w K mg base A outer s H)(hl:vs.length=ps.length)(r:Vals vs us)(x:InCallC s s.heap.objs.size (bindL (envOfC qual scope s.heap.objs.size f cd).kindOf (ps.zip us) λ_=>none) (cellsFrom (s.heap.objs.size+1) scope.names []) (bindC (envOfC qual scope s.heap.objs.size f cd).kindOf (ps.zip us) λ_=>none) s1):
  Inv (c4 CX P w K mg base N qual scope f cd A outer s H E) [] (start N vs) H s1:=by
 have hpl:ps.length<=N.length:=by have:=z7d List.length S.pre;rw[z8f]at this;ext
 ext(⟨h1,tk,rfl,hk⟩:x.done);have noA:∀b:Addr,b∉(c4 CX P w K mg base N qual scope f cd A outer s H E).ex:=λb z=>absurd (show b∈([]:l_)from z) (by simp)
 show⟨⟨e0.mod,S.kind,rfl,rfl,z9o _,λy z c h1 h2=>?_,λy hy=>?_,λy c _ h=>?_,λ_=>hd,Around.frames_deeper e0.frames,.inr ⟨rfl,rfl⟩,λb z=>absurd z (noA b),e0.bs,e0.bsz,λb _ _=>noA b,λb z=>absurd z (noA b),e0.funs,e0.frf⟩,
  rfl,e0.bare,Un.kept hk,⟨_,x.toInCall.ns,λi y v h1 h2 h3=>?_⟩,λy c h=>⟨_,x.cell y c h⟩,e0.hok.fresh (z9o _),λy c h=>?_,λp hp=>absurd (show p∈([]:p_)from hp) (by simp),e0.hok.kept hk,?_⟩
 ·show name_of_addr x.apart (z7z h1) (z7z h2)
 ·have hy:scope.names.lookup y=some .cell\/scope.names.lookup y=some .free:=hy
  ext((hy|hy):hy)
  ·show vO hy
  ·show absurd rfl (S.nofree _ (z7z hy))
 ·show z4p (x.above y c (z7z h))
 ·have hi:i<vs.length:=by
   unfold start at h2;by_cases hi:i<vs.length
   ·show hi
   ·rw[z9z (⇑hi)]at h2
    rw[z7j]at h2;split at h2<;>ext h2
  have ha:vs[i]?=some v:=by
   unfold start at h2;rw[z8c (⇑hi),z9x]at h2;cases e:vs[i]? with
   |none=>rw[e]at h2;ext h2
   |some a=>rw[e]at h2;ext h2;rfl
  ext(⟨u,hu,rv⟩:r.get ha);have hp:ps[i]?=some y:=by rw[<- S.pre,List.getElem?_take_of_lt ∅];show h1
  have ndP:ps.Nodup:=by rw[<- S.pre];show S.nd.sublist (List.take_sublist _ _)
  show⟨u,rv,?_⟩;rcases S.par y (z8d hp)with k|k
  ·show .inl ⟨k,vM ndP hp hu k⟩
  ·ext(⟨c,e⟩:vO (n:=s.heap.objs.size+1) k)
   show .inr ⟨.inl k,c,e,?_⟩;have q:=x.cell y c e;rw[vN ndP hp hu (by change scope.names.lookup y≠_;rw[k];decide)]at q;show q
 ·show e0.hok.fresh (z4p (x.above y c (z7z h)))
 ·unfold start
  change _=N.length;rw[z9f,z9a,z9y];ext
def vP{CX:CXT}{P:Program}{w:World}{K:K0}{mg:Str->u_}{base:Heap}{k:Nat}{f:Addr}{name qual:Str}{params:Arguments}{body:n_}{scope:Scope}{dV kV doc pm cdv ct oc:Value}{an od:Option Addr}{osl:Array u_}{N ps:i_}{sp:Sp}(lk:K.lookup f=some ⟨oc,od,.func (W.fnOf name qual params body scope dV kV doc pm an cdv ct),osl⟩)(hcd:W.codeIn K cdv qual=true)(S:FnScope N ps scope)(len:∀vs H Q E,sp vs H Q E->vs.length=ps.length)(hbody:∀(A:Around) (outer:List Env) (s:Shared) (H:Hp) (vs:B_) (Q:VK) (E:XK),Room k (A.deeper (envOfC qual scope s.heap.objs.size f cdv))->sp vs H Q E ->
   ∃t,PSs (c4 CX P w K mg base N qual scope f cdv A outer s H E) body t/\t {nx:=λ_ H'=>Q .non H',rt:=Q} (start N vs) H):
  FnOk P w K mg base CX (k+1) f (W.fnOf name qual params body scope dV kV doc pm an cdv ct) ps sp:=by
 show⟨len,λA outer s H args us vs Q E hr e0 hb r hsp=>?_⟩;have hl:=len _ _ _ _ hsp;have KX:K.In s.heap:=e0.mod.kin.keeps λb o e=>(e0.bs b o e).1
 have lim:s.heap.NoLimit:=e0.mod.nolimit.keeps λb o e=>(e0.bs b o e).1
 have hkind:∀y∈ps.zip us,scope.names.lookup y.1=some .local\/(scope.names.lookup y.1=some .cell/\((cellsFrom (s.heap.objs.size+1) scope.names []).lookup y.1).isSome=true):=λz_ hy=>by
  ext(⟨n,v⟩:z_);ext((q|q):S.par n (z4r hy).1)
  ·show .inl q
  ·show .inr ⟨q,W.cellsFrom_some _ _ _ (.inl q)⟩
 show codeAny_call_function hr.depth (KX _ _ lk) rfl S.co S.gen rfl (W.codeRec_of KX hcd) (hb _ _ _ _ ?_);show wpAny_newFunctionEnv_cells S.kind hkind λenv he s1 x=>?_
 subst he;show⟨lim.keeps x.toInCall.keep,codeAny_func ?_⟩;ext(⟨t,ht,hq⟩:hbody A outer s H vs Q E (hr.deeper _) hsp);have I:Inv (c4 CX P w K mg base N qual scope f cdv A outer s H E) [] (start N vs) H s1:=CV S hr.hd e0 hl r x;show z8o (ht [] s1 (start N vs) H _ I hq) (λfl s' hs=>?_) λe s' hs=>hs
 have fin:∀{σ':St} {H':Hp} {v:V} {u:Value},Inv (c4 CX P w K mg base N qual scope f cdv A outer s H E) [] σ' H' s'->RelV v u->Q v H'->CE outer P w H s Q u s':=
  λ{σ' H' v u} J rv q=>⟨v,H',J.os,J.bare,J.base,J.hok,rv,q⟩
 cases fl with
 |ret u=>ext(⟨v,σ',H',J,rv,q⟩:hs);show fin J rv q
 |next=>ext(⟨σ',H',J,q⟩:hs);show fin (v:=V.non) (u:=Value.none) J rfl q
 |brk=>ext(⟨_,_,_,q⟩:hs);show False.elim q
 |cont=>ext(⟨_,_,_,q⟩:hs);show False.elim q
section
variable {X:Cx}{x:Str}{p pos:Pos}{e:Expr}{es:k_}{t:TA}{id T:String}{r:B_->Hp->VK->Prop}
def tCB(r:B_->Hp->VK->Prop)(t:TA):TE:=λσ H Q=>t σ H λvs H1=>r vs H1 Q
def kF(hc:cX X (.builtin id) r)(hg:Gl X x)(hm:X.mg x=none)(hv:bootBuiltins x=some (.builtin id))(ha:PA X (e::es) t)(hn:x ≠ "__name__"<|>R1)(hdb:DB x<|>R1)(he:SE e es X<|>R0)(hpl:BT pos es X<|>R0):PE X (.Call (.Name x p) (e::es) [] pos) (tCB r t):=by intro G_ s σ H Q I h;show z6s (eG I hg hm hv ?_ hn hdb);show PyProof.Rows.callWith_builtin1 (cK (ha pos G_ s σ H _ I h) λus s1 vs H1 I1 r1 q1=>hc G_ s1 σ H1 vs us Q I1 r1 q1) he hpl
def iC(hc:cX X (.type T) r)(hg:Gl X x)(hm:X.mg x=none)(hv:bootBuiltins x=some (.type T))(ha:PA X (e::es) t)(hn:x ≠ "__name__"<|>R1)(hdb:DB x<|>R1)(he:SE e es X<|>R0)(hpl:BT pos es X<|>R0):PE X (.Call (.Name x p) (e::es) [] pos) (tCB r t):=by intro G_ s σ H Q I h;show z6s (eG I hg hm hv ?_ hn hdb);show z8v (cK (ha pos G_ s σ H _ I h) λus s1 vs H1 I1 r1 q1=>hc G_ s1 σ H1 vs us Q I1 r1 q1) he hpl
end
end L2
variable {xs vs ys:List L2.V}{us its its':List PySem.Value}{H H' H1 H2:L2.Hp}{a b e c tg iter value elt:PySem.Expr}{o o':L2.HO}{u cd doc pm cdv ct oc a0:PySem.Value}{P prog q:PySem.Program}{w:PySem.World}{h base h' B w_:PySem.Heap}{t' i j n tk nown np ek:Nat}{d':PySem.Drawn}{ch fp ex:List PySem.Addr}{it f l C dx:PySem.Addr}{x m qual name:PySem.Str}{pins' G_:List (PySem.Addr×PySem.Obj)}{N ns ps loose cn own:List PySem.Str}{A:PySem.Around}{E Er:PySem.Value->PySem.Shared->Prop}{v y:L2.V}{Q:L2.VK}{s' s s1:PySem.Shared}{X:L2.Cx}{t to tl:L2.TE}{σ:L2.St}{pos pos' p p2 ap cp pr pn ep pos2 pc pa ph pf apos cpos spos p3 p1:PySem.Pos}{op op':PySem.CmpOp}{K:K0}{st:PySem.Stmt}{R:PySem.Result->PySem.Shared->Prop}{lo dep:Int}{hi:Option PySem.Expr}{pl:PySem.Sem Bool}{body:List PySem.Stmt}{wi:L2.TI}{r r':L2.R2}{mA mg:PySem.Str->Option PySem.Value}{kw:List (PySem.Str×PySem.Value)}{env:PySem.Env}{CX:L2.CXT}{fd:PySem.FuncData}{sp:L2.Sp}{outer:List PySem.Env}{scope:PySem.Scope}{an od:Option PySem.Addr}{osl:Array (Option PySem.Value)}{XP:(PySem.Str->Option PySem.Value)->PySem.Heap->Prop}{kvs:List (List L2.Key×L2.V)}{trs:List (L2.TE×L2.TE)}{keys:List (Option PySem.Expr)}{fz fr:Bool}{C':Int->Int->Prop}{kv:Int->Int->L2.V}{O O' OL OL' J6 is O1 O2:z9}{De:L2.Ends}{J:L2.It}{cl:List (PySem.Str×PySem.Addr)}{RR:PySem.Value->PySem.Addr->PySem.Result->PySem.Shared->Prop}{elts es' ifs:List PySem.Expr}{names:List (PySem.Str×PySem.NameKind)}{S:Nat->Prop}{tt:L2.TT}
namespace HT
open PySem PyProof.Rows
noncomputable def sIx(n d:Nat):v_->Nat
 |none=>d
 |some v=>if v<0 then(v+(n:Int)).toNat else min v.toNat n
end HT
namespace L2
open PySem PySem.Spec PyProof.Rows
abbrev TO:=St->Hp->(v_->Hp->Prop)->Prop
def PO(X:Cx)(e:Option Expr)(t:TO):Prop:=
 ∀(G_:p_) (s:Shared) (σ:St) (H:Hp) (Q:v_->Hp->Prop),Inv X G_ σ H s->t σ H Q ->
   wpAny (model X.prog X.w) X.A (evalPart e X.env) (λu s'=>∃o H',Inv X G_ σ H' s'/\IsPart u o/\Q o H') X.xe s
def CW:TO:=λ_ H Q=>Q none H
def CY(t:TE):TO:=λσ H Q=>t σ H λx H1=>∃i,x=.int i/\Q (some i) H1
def CZ{ns:h_}:∀{us:j_},Vals (ns.map V.int) us->IntsAre us ns:=by
 induction ns with
 |nil=>intro us r;rw[z6b]at r;ext r;show .nil
 | cons n ns ih=>
   intro us r;rw[z9r]at r;cases r with
   |cons r1 r2=>ext(⟨t,e⟩:r1);subst e;show .cons n t (ih r2)
section
variable {te:TE}{lo:Option Expr}{tl th:TO}
def mK:PO X none CW:=by intro G_ s σ H Q I h;rw[evalPart_none];show z8a ⟨none,H,I,.none,h⟩
def mL(h:PE X e te):PO X (some e) (CY te):=by
 intro G_ s σ H Q I hw;rw[evalPart_some];show b8 (h G_ s σ H _ I hw) λu s1 x H1 I1 r1 q1=>?_
 ext(⟨i,rfl,q⟩:q1);ext(⟨t,rfl⟩:r1);show⟨some i,H1,I1,.int i t,q⟩
def SlR(X:Cx)(r:V->v_->v_->Hp->VK->Prop):Prop:=
 ∀(G_:p_) (s:Shared) (σ:St) (H:Hp) (x:V) (v vl vu:Value) (lo hi:v_) (sl:Addr) (Q:VK),Inv X G_ σ H s->RelV x v->s.heap.IsSliceOf sl vl vu .none->IsPart vl lo->IsPart vu hi->r x lo hi H Q ->
   ∃T id,typeLookup (.type T) "__getitem__"=pure (some (.builtin id))/\s.TypeIs v T/\wpAny (model X.prog X.w) X.A (getItem v (.ref sl)) (EP X G_ σ Q) X.xe s
def tSl(r:V->v_->v_->Hp->VK->Prop)(te:TE)(tl th:TO):TE:=λσ H Q=>te σ H λx H1=>tl σ H1 λl H2=>th σ H2 λu H3=>r x l u H3 Q
def kG{r:V->v_->v_->Hp->VK->Prop}(hr:SlR X r)(he:PE X e te)(hl:PO X lo tl)(hu:PO X hi th):PE X (.Subscript e (.Slice lo hi none p2) pos) (tSl r te tl th):=by
 intro G_ s σ H Q I h;show Subscript_ (b8 (he G_ s σ H _ I h) λv s1 x H1 I1 r1 q1=>?_);show wpAny_Slice (thn (hl G_ s1 σ H1 _ I1 q1) λvl s2 ⟨l,H2,I2,pl,q2⟩=>thn (hu G_ s2 σ H2 _ I2 q2) λvu s3 ⟨u,H3,I3,pu,q3⟩=>?_);rw[evalPart_none];show z8a ?_;have I4:Inv X G_ σ H3 {s3 with heap:=s3.heap.push {cls:=.type "slice",data:=.fields #[vl,vu,.none]}}:=I3.kept (t':=s3.toks) λb ob q=>z9m _ q
 ext(⟨T,id,hT,ht,hg⟩:hr G_ {s3 with heap:=s3.heap.push {cls:=.type "slice",data:=.fields #[vl,vu,.none]}} σ H3 x v vl vu l u s3.heap.objs.size Q I4 r1 (Heap.IsSliceOf.new ..) pl pu q3);change wpAny (model X.prog X.w) X.A (subscriptTail e (.Slice lo hi none p2) v (.ref s3.heap.objs.size)) (EP X G_ σ Q) X.xe {s3 with heap:=s3.heap.push {cls:=.type "slice",data:=.fields #[vl,vu,.none]}};show tail_any (ops:=[.ref s3.heap.objs.size,v]) ht hT hg (by with_unfolding_all rfl)
def jo(xs:B_)(lo hi:v_):B_:=(xs.drop (HT.sIx xs.length 0 lo)).take (HT.sIx xs.length xs.length hi-HT.sIx xs.length 0 lo)
def D0(xs:B_)(lo hi:v_):(jo xs lo hi).length<=xs.length:=by unfold jo;rw[z8f,z7l];ext
end
noncomputable def ixN(n:Nat)(i:Int):Option Nat:=if 0<=i then(if i<n then some i.toNat else none)else if -(n:Int)<=i then some (i+n).toNat else none
def atI{α:Type}(xs:List α)(i:Int):Option α:=(ixN xs.length i).bind λj=>xs[j]?
def vQ{i:Int}(h:ixN n i=some j):seqIndex? i n=some j/\j<n/\-(n:Int)<=i/\i<n:=by
 unfold ixN at h;by_cases h0:0<=i
 ·rw[if_pos h0]at h
  by_cases h1:i<n
  ·rw[if_pos h1]at h
   have e:i.toNat=j:=z7f h;show⟨by rw[seqIndex_of h0 h1,e],by ext,by ext,h1⟩
  ·rw[if_neg h1]at h;ext h
 ·rw[if_neg h0]at h
  by_cases h1:-(n:Int)<=i
  ·rw[if_pos h1]at h
   have e:(i+n).toNat=j:=z7f h;show⟨by rw[seqIndex_neg ∅ h1,e],by ext,h1,by ext⟩
  ·rw[if_neg h1]at h;ext h
def iD{α:Type}{xs:List α}{i:Int}{v:α}(h:atI xs i=some v):∃j,seqIndex? i xs.length=some j/\xs[j]?=some v/\j<xs.length/\-(xs.length:Int)<=i/\i<xs.length:=by
 unfold atI at h;cases e:ixN xs.length i with
 |none=>rw[e]at h;ext h
 |some j=>rw[e]at h;ext(⟨h1,h2,h3,h4⟩:vQ e);show⟨j,h1,h,h2,h3,h4⟩
def jp(b:Expr):Prop:=∀o i,subscripted b false o i=operate [o,i] (getItem o i)
def IxR(X:Cx)(r:R2):Prop:=
 ∀(value slice:Expr) (G_:p_) (s:Shared) (σ:St) (H:Hp) (x y:V) (v u:Value) (Q:VK),Inv X G_ σ H s->RelV x v->RelV y u->r x y H Q ->
   subscripted slice false v u=operate [v,u] (getItem v u)->wpAny (model X.prog X.w) X.A (subscriptTail value slice v u) (EP X G_ σ Q) X.xe s
def MtR(X:Cx)(id:String)(r:V->B_->Hp->VK->Prop):Prop:=
 ∀(G_:p_) (s:Shared) (σ:St) (H:Hp) (x:V) (xs:B_) (v:Value) (us:j_) (Q:VK),Inv X G_ σ H s->RelV x v->Vals xs us->r x xs H Q ->
   wpAny (model X.prog X.w) X.A (call (.builtin id) (v::us)) (EP X G_ σ Q) X.xe s
section
variable {ta tb:TE}
def IxR.or(h:IxR X r)(h':IxR X r'):IxR X (λx y H Q=>r x y H Q\/r' x y H Q):=by
 intro value slice G_ s σ H x y v u Q I rx ry q hs;ext((q|q):q)
 ·show h value slice G_ s σ H x y v u Q I rx ry q hs
 ·show h' value slice G_ s σ H x y v u Q I rx ry q hs
def kH(hr:IxR X r)(ha:PE X a ta)(hb:PE X b tb)(hs:jp b):PE X (.Subscript a b pos) (tOp r ta tb):=by intro G_ s σ H Q I h;show Subscript_ (qm ha hb I h λv u s2 x y H2 I2 rx ry q=>hr a b G_ s2 σ H2 x y v u Q I2 rx ry q (hs _ _))
def D1(K:K0):R2:=λx y H Q=>∃p xs i v,x=.ref p/\y=.int i/\SqL K H p xs/\atI xs i=some v/\Q v H
def D2(K:K0):R2:=λx y H Q=>∃p xs i v,x=.ref p/\y=.int i/\SqT K H p xs/\atI xs i=some v/\Q v H
def vR:R2:=λx y H Q=>∃z i c,x=.str z/\y=.int i/\z.length<=sizeLine/\atI z.cps.toList i=some c/\Q (.str ⟨#[c]⟩) H
def ix_list:IxR X (D1 X.K):=by
 intro value slice G_ s σ H x y v u Q I rx ry h hs;ext(⟨p,xs,i,z,rfl,rfl,hq,he,q⟩:h);ext rx;ext(⟨t,rfl⟩:ry);ext(⟨its,r,pl,hz⟩:I.list hq);ext(⟨j,h1,h2,h3,h4,h5⟩:iD he);ext(⟨w,ew,rw'⟩:r.get h2);have hl:=r.length;have hn:=iB;have fin:EP X G_ σ Q w s:=⟨z,H,I,rw',q⟩;by_cases h0:0<=i
 ·have hj:i.toNat=j:=by rw[seqIndex_of h0 h5]at h1;show z7f h1
  show item_listR pl.isList h0 ∅ (by rw[hj];simpa using ew) fin hs
 ·have hj:(i+(its.toArray.size:Int)).toNat=j:=by rw[seqIndex_neg ∅ h4]at h1;rw[z9t,<- hl];show z7f h1
  show subscriptTail_builtinR (x:=w) pl.isList.typeIs slot_list_getitem.lookup
   (wpAny_getItem_list_neg (Q:=λr s'=>r=w/\EP X G_ σ Q r s') pl.isList ∅ (by rw[z9t]<;>ext) ∅ (by rw[hj];simpa using ew) ⟨rfl,fin⟩) hs
def qB:IxR X (D2 X.K):=by
 intro value slice G_ s σ H x y v u Q I rx ry h hs;ext(⟨p,xs,i,z,rfl,rfl,hq,he,q⟩:h);ext rx;ext(⟨t,rfl⟩:ry);ext(⟨its,r,pl,hz⟩:I.tuple hq);ext(⟨j,h1,h2,h3,h4,h5⟩:iD he);ext(⟨w,ew,rw'⟩:r.get h2);have hl:=r.length;have hn:=iB;have fin:EP X G_ σ Q w s:=⟨z,H,I,rw',q⟩;show subscriptTail_builtinR (x:=w) pl.typeIs slot_tuple_getitem.lookup
  (getItem_tuple (j:=j) (Q:=λr s'=>r=w/\EP X G_ σ Q r s') pl ∅ ∅ (by rw[z9t,<- hl];show h1) (⇑ew) ⟨rfl,fin⟩) hs
def vS:IxR X vR:=by
 intro value slice G_ s σ H x y v u Q I rx ry h hs;ext(⟨z,i,c,rfl,rfl,hz,he,q⟩:h);ext(⟨t,rfl⟩:rx);ext(⟨t',rfl⟩:ry);ext(⟨j,h1,h2,h3,h4,h5⟩:iD he);have hl:z.cps.toList.length=z.length:=by simp[Str.length]
 rw[hl]at h1 h4 h5;have hn:=iB;show tail_any (z4s s z t) slot_str_getitem.lookup (getItem_str (c:=c) (by
  have e1:decide (i < -(2 ^ 63:Int))=false:=z8u ∅;have e2:decide (i≥2 ^ 63)=false:=z8u ∅;rw[e1,e2,Bool.or_false]) (by rw[h1];simpa using h2) ⟨.str ⟨#[c]⟩,H,I.tok _,⟨_,rfl⟩,q⟩) hs
def D3(its:j_)(n j:Nat)(u:Value):Obj.mapSeq (·.setIfInBounds j u) {cls:=.type "list",data:=.seq its.toArray n}={cls:=.type "list",data:=.seq (its.set j u).toArray n}:=by simp[Obj.mapSeq]
def Inv.lst{G_:p_}{σ:St}{H:Hp}{s:Shared}{p:Addr}{xs:B_}(I:Inv X G_ σ H s)(h:H p=some (.lst xs)):
  ∃(its:j_) (n:Nat),Vals xs its/\s.heap.get? p=some {cls:=.type "list",data:=.seq its.toArray n}/\xs.length<=sizeLine:=by
 ext(⟨z,its,n,r,e⟩:I.hok p _ h);show⟨its,n,r,e,z⟩
def Inv.lstUpd{p:Addr}{n':Nat}{f:Obj->Obj}(I:Inv X G_ σ H s)(h:H p=some (.lst xs))(ho:s.heap.get? p=some {cls:=.type "list",data:=.seq its.toArray n})(hf:f {cls:=.type "list",data:=.seq its.toArray n}={cls:=.type "list",data:=.seq its'.toArray n'})(r:Vals ys its')(hz:ys.length<=sizeLine)(t:Nat):
  Inv X G_ σ (upd H p (.lst ys)) {s with heap:=s.heap.update p f,toks:=t}:=by
 have e:(s.heap.update p f).get? p=some {cls:=.type "list",data:=.seq its'.toArray n'}:=by rw[z4j f ho (by rw[hf]<;>rfl),hf]
 show I.write (x:=p) (e:=p) (by rw[h];trivial) (.inl rfl) (λb u hb q=>(z6c _ _ (Ne.symm hb)).trans q) ⟨_,e⟩ ?_;show⟨hz,its',n',r,e⟩
def D4:V->V->V->Hp->(Hp->Prop)->Prop:=λo i v H Q=>∃p xs k j,o=.ref p/\i=.int k/\H p=some (.lst xs)/\ixN xs.length k=some j/\Q (upd H p (.lst (xs.set j v)))
def D5:vb X D4:=by
 intro G_ s σ H o i v ov iv u Q I ro ri rv h;ext(⟨p,xs,k,j,rfl,rfl,hp,hj,q⟩:h);ext ro;ext(⟨t,rfl⟩:ri);ext(⟨its,n,r,ho,hz⟩:I.lst hp);ext(⟨h1,h2,h3,h4⟩:vQ hj);have hl:=r.length;have hn:=iB;have I':Inv X G_ σ (upd H p (.lst (xs.set j v))) {s with heap:=s.heap.update p (Obj.mapSeq (·.setIfInBounds j u))}:=
  I.lstUpd hp ho (D3 its n j u) (r.set rv j) (by rw[z8h];show hz) s.toks
 by_cases h0:0<=k
 ·have hk:k.toNat=j:=by rw[seqIndex_of h0 h4]at h1;show z7f h1
  show W.ki_setAt ho h0 ∅ (by rw[z9t,<- hl];show h4) (by rw[hk];show⟨_,I',q⟩)
 ·have hk:(k+(its.toArray.size:Int)).toNat=j:=by rw[seqIndex_neg ∅ h3]at h1;rw[z9t,<- hl];show z7f h1
  show W.ki_setBack ho ∅ (by rw[z9t,<- hl];show h3) ∅ (by rw[hk];show⟨_,I',q⟩)
def D6(lo hi:v_)(n:Nat):(sliceBounds lo hi none n).1=((HT.sIx n 0 lo:Nat):Int)/\(sliceBounds lo hi none n).2.1=((HT.sIx n n hi:Nat):Int)/\(sliceBounds lo hi none n).2.2=1:=by
 show⟨?_,?_,rfl⟩
 ·cases lo with
  |none=>simp[sliceBounds,HT.sIx]
  | some i=>
    erw[sliceBounds,HT.sIx,z5k,show(1:Int) > 0 by decide,z3c];by_cases h:i<0
    ·erw[h,z3c]<;>ext
    ·erw[h,z5h]<;>ext
 ·cases hi with
  |none=>simp[sliceBounds,HT.sIx]
  | some i=>
    erw[sliceBounds,HT.sIx,z5k,show(1:Int) > 0 by decide,z3c];by_cases h:i<0
    ·erw[h,z3c]<;>ext
    ·erw[h,z5h]<;>ext
def D7(its:j_)(lo hi:v_):slicePick its.toArray lo hi none=((its.drop (HT.sIx its.length 0 lo)).take (HT.sIx its.length its.length hi-HT.sIx its.length 0 lo)).toArray:=by ext(⟨h1,h2,h3⟩:D6 lo hi its.toArray.size);unfold slicePick;rw[h1,h2,h3];erw[sliceRange_one,pick_run,z9t]<;>rfl
def D8(K:K0):V->v_->v_->Hp->VK->Prop:=λx lo hi H Q=>∃a xs,x=.ref a/\SqL K H a xs/\∀p,H p=none->Q (.ref p) (upd H p (.lst (jo xs lo hi)))
def qC:SlR X (D8 X.K):=by intro G_ s σ H x v vl vu lo hi sl Q I rx hs pl pu h;ext(⟨a,xs,rfl,hx,q⟩:h);ext rx;ext(⟨its,r,ht,hz⟩:I.list hx);have hlen:=r.length;show⟨"list",_,slot_list_getitem.lookup,ht.isList.typeIs,?_⟩;show wpAny_getItem_list_slice ht.isList hs pl pu .none (by simp) ?_ (by rw[z9t]<;>ext);rw[D7,<- hlen];show⟨.ref s.heap.objs.size,_,I.laid (t':=s.toks) (o:=.lst (jo xs lo hi)) (λb ob q=>z9m _ q) (z9o _) ?_,rfl,q _ (I.hok.fresh (z9o _))⟩;show⟨z7p (D0 xs lo hi) hz,_,0,(r.drop (HT.sIx xs.length 0 lo)).take (HT.sIx xs.length xs.length hi-HT.sIx xs.length 0 lo),z8q _ rfl⟩
noncomputable def fJ:V->Bool
 |.non=>true
 |.bl _=>true
 |.int _=>true
 |.str _=>true
 |_=>false
noncomputable def eqV:V->V->Bool
 |.non,.non=>true
 |.bl a,.bl b=>a==b
 |.bl a,.int b=>(if a then 1 else 0)==b
 |.int a,.bl b=>a==(if b then 1 else 0)
 |.int a,.int b=>a==b
 |.str a,.str b=>a==b
 |_,_=>false
def D9{x:V}{v:Value}(ry:RelV y u)(rx:RelV x v)(fy:fJ y=true)(fx:fJ x=true):SeqAt.EqAt A s u v (eqV y x):=by
 cases y with
 | non=>
   ext ry;cases x with
   |non=>ext rx;show SeqAt.EqAt.same _
   |bl b=>ext rx;show SeqAt.EqAt.none_bool b
   |int b=>ext(⟨t,rfl⟩:rx);show SeqAt.EqAt.none_int b t
   |str b=>ext(⟨t,rfl⟩:rx);show SeqAt.EqAt.none_str b t
   |_=>show absurd (show false=true from fx) z8l
 | bl a=>
   ext ry;cases x with
   |non=>ext rx;show SeqAt.EqAt.bool_none a
   |bl b=>ext rx;show SeqAt.EqAt.bool_bool a b
   |int b=>ext(⟨t,rfl⟩:rx);show SeqAt.EqAt.bool_int a b t
   |str b=>ext(⟨t,rfl⟩:rx);show SeqAt.EqAt.bool_str a b t
   |_=>show absurd (show false=true from fx) z8l
 | int a=>
   ext(⟨t',rfl⟩:ry);cases x with
   |non=>ext rx;show SeqAt.EqAt.int_none a t'
   |bl b=>ext rx;show SeqAt.EqAt.int_bool a t' b
   |int b=>ext(⟨t,rfl⟩:rx);show SeqAt.EqAt.int_int a t' b t
   |str b=>ext(⟨t,rfl⟩:rx);show SeqAt.EqAt.int_str a t' b t
   |_=>show absurd (show false=true from fx) z8l
 | str a=>
   ext(⟨t',rfl⟩:ry);cases x with
   |non=>ext rx;show SeqAt.EqAt.str_none a t'
   |bl b=>ext rx;show SeqAt.EqAt.str_bool a t' b
   |int b=>ext(⟨t,rfl⟩:rx);show SeqAt.EqAt.str_int a t' b t
   |str b=>ext(⟨t,rfl⟩:rx);show SeqAt.EqAt.str_str a t' b t
   |_=>show absurd (show false=true from fx) z8l
 |_=>show absurd (show false=true from fy) z8l
def eqU(x:V)(u:Value):Bool:=match u with
 |.none=>eqV .non x
 |.bool b=>eqV (.bl b) x
 |.int i _=>eqV (.int i) x
 |.str z _=>eqV (.str z) x
 |_=>false
def vT{x:V}(r:RelV y u)(f:fJ y=true):eqU x u=eqV y x:=by
 cases y with
 |non=>ext r;rfl
 |bl b=>ext r;rfl
 |int i=>ext(⟨t,rfl⟩:r);rfl
 |str z=>ext(⟨t,rfl⟩:r);rfl
 |_=>show absurd (show false=true from f) z8l
theorem kI{x:V}:∀{xs:B_} {us:j_},Vals xs us->xs.all fJ=true->us.any (eqU x)=xs.any λy=>eqV y x
 |_,_,.nil,_=>rfl
 |y::xs,u::us,.cons r t,f=>by rw[z7w,z8r]at f;rw[z6m,z6m,vT r f.1,kI t f.2]
theorem kJ{A:Around}{s:Shared}{x:V}{v:Value}(rx:RelV x v)(fx:fJ x=true):∀{xs:B_} {us:j_},Vals xs us->xs.all fJ=true->∀u∈us,SeqAt.EqAt A s u v (eqU x u)
 |_,_,.nil,_=>λu hu=>by ext hu
 | y::xs,u::us,.cons r t,f=>λu' hu=>by
   rw[z7w,z8r]at f;ext((rfl|hu):z9g.mp hu)
   ·rw[vT r f.1];show D9 r rx f.1 fx
   ·show kJ rx fx t f.2 u' hu
def inV(x:V)(xs:B_):Bool:=xs.any λy=>eqV y x
def rIn(K:K0)(neg:Bool):R2:=λx y H Q=>∃p xs,y=.ref p/\(SqL K H p xs\/SqT K H p xs)/\fJ x=true/\xs.all fJ=true/\Q (.bl (if neg then !inV x xs else inV x xs)) H
def vU:OpR X (compareOp .In) (rIn X.K false):=by
 intro G_ s σ H x y v u Q I rx ry h;ext(⟨p,xs,rfl,hq,fx,fs,q⟩:h);ext ry;ext((hq|hq):hq)
 ·ext(⟨its,r,pl,hz⟩:I.list hq)
  show SeqAt.in_listAt (eqU x) pl.isList (λw hw=>kJ rx fx r fs w (⇑hw)) ⟨.bl _,H,I,rfl,?_⟩;rw[show its.toArray.any (eqU x)=its.any (eqU x)by simp,kI r fs];show q
 ·ext(⟨its,r,pl,hz⟩:I.tuple hq)
  show SeqAt.in_tupleAt (eqU x) pl (λw hw=>kJ rx fx r fs w (⇑hw)) ⟨.bl _,H,I,rfl,?_⟩;rw[show its.toArray.any (eqU x)=its.any (eqU x)by simp,kI r fs];show q
def Da:OpR X (compareOp .NotIn) (rIn X.K true):=by
 intro G_ s σ H x y v u Q I rx ry h;ext(⟨p,xs,rfl,hq,fx,fs,q⟩:h);ext ry;ext((hq|hq):hq)
 ·ext(⟨its,r,pl,hz⟩:I.list hq)
  show SeqAt.notIn_listAt (eqU x) pl.isList (λw hw=>kJ rx fx r fs w (⇑hw)) ⟨.bl _,H,I,rfl,?_⟩;rw[show its.toArray.any (eqU x)=its.any (eqU x)by simp,kI r fs];show q
 ·ext(⟨its,r,pl,hz⟩:I.tuple hq)
  show SeqAt.notIn_tupleAt (eqU x) pl (λw hw=>kJ rx fx r fs w (⇑hw)) ⟨.bl _,H,I,rfl,?_⟩;rw[show its.toArray.any (eqU x)=its.any (eqU x)by simp,kI r fs];show q
def vV:cX X (.builtin "len") (λxs H Q=>∃p ys,xs=[.ref p]/\(SqL X.K H p ys\/SqT X.K H p ys)/\Q (.int ys.length) H):=by
 intro G_ s σ H xs us Q I r h;ext(⟨p,ys,rfl,hq,q⟩:h);ext(⟨u,rfl,rx⟩:eg r);ext rx;have hn:=iB;ext((hq|hq):hq)
 ·ext(⟨its,r',pl,hz⟩:I.list hq)
  have hlen:=r'.length;show Calls.call_len_list pl.isList (by erw[z9t]<;>ext) ⟨.int ys.length,H,I.tok _,⟨s.toks+1,by rw[z9t,hlen]⟩,q⟩
 ·ext(⟨its,r',pl,hz⟩:I.tuple hq)
  have hlen:=r'.length;show len_tuple pl (by erw[z9t]<;>ext) ⟨.int ys.length,H,I.tok _,⟨s.toks+1,by rw[z9t,hlen]⟩,q⟩
def Db:cX X (.builtin "len") (λxs H Q=>∃z,xs=[.str z]/\z.length<=sizeLine/\Q (.int z.length) H):=by intro G_ s σ H xs us Q I r h;ext(⟨z,rfl,hz,q⟩:h);ext(⟨u,rfl,t,rfl⟩:eg r);have hn:=iB;show len_str ∅ ⟨.int z.length,H,I.tok _,⟨_,rfl⟩,q⟩
def vW:cX X (.type "list") (λxs H Q=>∃p ys,xs=[.ref p]/\(SqL X.K H p ys\/SqT X.K H p ys)/\∀l,H l=none->Q (.ref l) (upd H l (.lst ys))):=by
 intro G_ s σ H xs us Q I r h;ext(⟨p,ys,rfl,hq,q⟩:h);ext(⟨u,rfl,rx⟩:eg r);ext rx;have fin:∀(its:j_),Vals ys its->ys.length<=sizeLine->∀(h':Heap) (c':Nat),(∀b o',s.heap.get? b=some o'->h'.get? b=some o') ->
   h'.get? s.heap.objs.size=some {cls:=.type "list",dict:=none,data:=.seq its.toArray c',slots:=#[]}->EP X G_ σ Q (.ref s.heap.objs.size) {s with heap:=h'}:=λits r' hz h' c' kp e=>
  ⟨.ref s.heap.objs.size,_,I.laid (t':=s.toks) kp (z9o _) (show ObjOk X.prog X.w _ h' _ (.lst ys)from⟨hz,its,c',r',e⟩),rfl,q _ (I.hok.fresh (z9o _))⟩
 ext((hq|hq):hq)
 ·ext(⟨its,r',pl,hz⟩:I.list hq)
  have hlen:=r'.length;ext(⟨o,ho,hc,n,hd⟩:pl.isList);show call_list_seq p (.inl rfl) ho hc hd (λh' c' kp e=>fin its r' hz h' c' kp e) (by erw[z9t]<;>ext)
 ·ext(⟨its,r',pl,hz⟩:I.tuple hq)
  have hlen:=r'.length;ext(⟨o,ho,hc,n,hd⟩:pl);show call_list_seq p (.inr rfl) ho hc hd (λh' c' kp e=>fin its r' hz h' c' kp e) (by erw[z9t]<;>ext)
def Dc:cX X (.type "tuple") (λxs H Q=>∃p ys,xs=[.ref p]/\((SqL X.K H p ys/\∀l,H l=none->Q (.ref l) (upd H l (.tup ys)))\/(SqT X.K H p ys/\Q (.ref p) H))):=by
 intro G_ s σ H xs us Q I r h;ext(⟨p,ys,rfl,h⟩:h);ext(⟨u,rfl,rx⟩:eg r);ext rx;rcases h with⟨hq,q⟩|⟨hq,q⟩
 ·ext(⟨its,r',pl,hz⟩:I.list hq)
  have hlen:=r'.length;show call_tuple_list pl.isList (λh' kp=>?_) (by erw[z9t]<;>ext);have I1:Inv X G_ σ H {s with heap:=h'}:=I.kept (t':=s.toks) kp;have I2:Inv X G_ σ (upd H h'.objs.size (.tup ys)) {s with heap:=h'.push {cls:=.type "tuple",data:=.seq its.toArray}}:=
   I1.laid (t':=s.toks) (λb o e=>z9m _ e) (z9o _) (show ObjOk X.prog X.w _ _ _ (.tup ys)from⟨hz,its,r',IsTup.new _ _⟩)
  show⟨.ref h'.objs.size,_,I2,rfl,q _ (I1.hok.fresh (z9o _))⟩
 ·ext(⟨its,r',pl,hz⟩:I.tuple hq)
  show call_tuple_same pl ⟨.ref p,H,I,rfl,q⟩
def tyV(K:K0)(T:String)(x:V)(H:Hp):Prop:=match x with
 |.str _=>T="str"
 |.int _=>T="int"
 | .ref p=>(T="list"/\∃xs,SqL K H p xs)\/(T="tuple"/\∃o,K.lookup p=some o/\o.cls=.type "tuple"/\o.dict=none) \/
   (T="dict"/\((∃kvs,H p=some (.dK kvs))\/∃kvs,H p=some (.dT kvs)))\/(T="set"/\∃S n,H p=some (.set S n))
 |_=>False
def vX{T:String}{x:V}{v:Value}(I:Inv X G_ σ H s)(r:RelV x v)(ty:tyV X.K T x H):
  s.TypeIs v T/\∀a,v=.ref a->∃ob,s.heap.get? a=some ob/\ob.dict=none:=by
 cases x with
 |str z=>ext(⟨t,rfl⟩:r);cases(show T="str" from ty);show⟨z4s s z t,λ_ e=>nomatch e⟩
 |int i=>ext(⟨t,rfl⟩:r);cases(show T="int" from ty);show⟨typeIs_int s i t,λ_ e=>nomatch e⟩
 | ref p=>
   ext r;rcases ty with⟨rfl,xs,hq⟩|⟨rfl,o,hk,hc,hd⟩|⟨rfl,hk⟩|⟨rfl,S,n,hk⟩
   ·ext(⟨its,_,pl,_⟩:I.list hq)
    show⟨pl.isList.typeIs,λa e=>?_⟩;ext e;ext(⟨o,n,e,c,hd,_⟩:pl);show⟨o,e,hd⟩
   ·show⟨⟨o,I.kIn p o hk,hc⟩,λa e=>?_⟩
    ext e;show⟨o,I.kIn _ o hk,hd⟩
   ·have z:∃o,s.heap.get? p=some o/\o.ExactDict:=by
     rcases hk with⟨kvs,hk⟩|⟨kvs,hk⟩
     ·ext(⟨_,_,_,_,o,_,_,e,ex,_⟩:I.hok p _ hk)
      show⟨o,e,ex⟩
     ·ext(⟨_,_,_,_,o,_,_,e,ex,_⟩:I.hok p _ hk)
      show⟨o,e,ex⟩
    ext(⟨o,e,ex⟩:z);show⟨⟨o,e,ex.1⟩,λa e2=>?_⟩;ext e2;show⟨o,e,ex.2.1⟩
   ·ext(⟨o,_,_,_,e,ex,_⟩:I.hok p _ hk)
    show⟨⟨o,e,ex.1⟩,λa e2=>?_⟩;ext e2;show⟨o,e,ex.2.1⟩
 |_=>show False.elim ty
def Dd(K:K0)(T:String)(r:V->B_->Hp->VK->Prop)(to:TE):TE:=λσ H Q=>to σ H λx H1=>tyV K T x H1/\r x [] H1 Q
def tBM(K:K0)(T:String)(r:V->B_->Hp->VK->Prop)(to:TE)(t:TA):TE:=λσ H Q=>to σ H λx H1=>tyV K T x H1/\t σ H1 λxs H2=>r x xs H2 Q
variable {o:Expr}{es:k_}{t:TA}{T id:String}{r:V->B_->Hp->VK->Prop}
def Df(pa:PlainAttrs T)(slot:Slot T name id)(hty:typeOf (.builtin id)=pure (.type "method_descriptor"))(hm:MtR X id r)(ho:PE X o to)(hbase:attributeBase o name X.env (eval o X.env)=eval o X.env<|>R0)(hline:(apos.endLine==cpos.line)=true<|>R0):PE X (.Call (.Attribute o name apos) [] [] cpos) (Dd X.K T r to):=by intro G_ s σ H Q I h;show wpAny_Call_method0_late hbase hline (b8 (ho G_ s σ H _ I h) λv s1 x H1 I1 r1 z_=>?_);ext(⟨ty,q1⟩:z_);ext(⟨h1,h2⟩:vX I1 r1 ty);show⟨T,id,pa,slot,hty,h1,h2,Calls.callWith_builtin rfl (PySem.evalArgs_none (hm G_ s1 σ H1 x [] v [] Q I1 r1 .nil q1))⟩
def jq(pa:PlainAttrs T)(slot:Slot T name id)(hty:typeOf (.builtin id)=pure (.type "method_descriptor"))(hm:MtR X id r)(ho:PE X o to)(ha:PA X (e::es) t)(hbase:attributeBase o name X.env (eval o X.env)=eval o X.env<|>R0)(hfew:(((backTo cpos (starEach (e::es) X.env)).all (λx=>!x.1)&&(backToKw cpos (keywordEach [] X.env)).all (λx=>x.1.isSome)
   && decide ((e::es).length+([]:m_).length+(if([]:m_).isEmpty then 0 else 1)<30))=true)<|>R0)(hline:(apos.endLine==cpos.line)=true<|>R0)(hs:SE e es X<|>R0)(hplain:BT cpos es X<|>R0):
  PE X (.Call (.Attribute o name apos) (e::es) [] cpos) (tBM X.K T r to t):=by
 intro G_ s σ H Q I h;show wpAny_Call_method_late hbase hfew hline rfl (b8 (ho G_ s σ H _ I h) λv s1 x H1 I1 r1 z_=>?_);ext(⟨ty,q1⟩:z_);ext(⟨h1,h2⟩:vX I1 r1 ty);show⟨T,id,pa,slot,hty,h1,h2,?_⟩;have hA:=ha cpos G_ s1 σ H1 _ I1 q1;rw[hs]at hA ⊢;show Calls.callWith_builtin (by change(false||(backTo cpos (starEach es X.env)).any (·.1))=false;rw[hplain]<;>rfl) (z4t ?_);show cK hA λus s2 vs H2 I2 r2 q2=>hm G_ s2 σ H2 x vs v us Q I2 r1 r2 q2
end
def MtM(X:Cx)(id:String)(r:V->B_->Hp->VK->Prop):Prop:=
 ∀(G_:p_) (s:Shared) (σ:St) (H:Hp) (x:V) (xs:B_) (v:Value) (us:j_) (Q:VK),Inv X G_ σ H s->RelV x v->Vals xs us->r x xs H Q ->
   wpAny (model X.prog X.w) X.A (call (.builtin id) (v::us)) (EP X G_ σ Q) X.xe s
theorem Vals.one:∀{x:V} {us:j_},Vals [x] us->∃u,us=[u]/\RelV x u
 |_,_,.cons r .nil=>⟨_,rfl,r⟩
def Vals.reverse(h:Vals xs us):Vals xs.reverse us.reverse:=by
 induction h with
 |nil=>show .nil
 |cons r t ih=>rw[z6j,z6j];show Vals.append ih (.cons r .nil)
theorem Vals.rep{xs:B_}{us:j_}(h:Vals xs us):∀k:Nat,Vals (List.replicate k xs).flatten (List.replicate k us).flatten
 |0=>.nil
 |k+1=>by rw[z7n,z7n,z6k,z6k];show Vals.append h (Vals.rep h k)
theorem vY(its:j_):∀(k:Nat) (acc:j_),
  List.foldl (λx1 x2=>x1++x2) acc.toArray (List.replicate k its.toArray)=(acc++(List.replicate k its).flatten).toArray
 |0,acc=>by simp
 | k + 1,acc=>by
   have e:acc.toArray++its.toArray=(acc++its).toArray:=by simp
   have e2:(acc++its)++(List.replicate k its).flatten=acc++(List.replicate (k+1) its).flatten:=by rw[z7n,z6k,z7o]
   rw[<- e2,<- vY its k (acc++its),<- e,z7n,z4u]
def Inv.lset{f:Array Value->Array Value}(I:Inv X G_ σ H s)(hH:H l=some (.lst xs))(e:s.heap.get? l=some {cls:=.type "list",data:=.seq its.toArray n})(hf:f its.toArray=its'.toArray)(hv:Vals ys its')(hz:ys.length<=sizeLine):
  Inv X G_ σ (upd H l (.lst ys)) {s with heap:=s.heap.update l (Obj.mapSeq f),toks:=t'}:=by
 have q:=PySem.IsL.update e f;rw[hf]at q;show I.write (x:=l) (e:=l) (by rw[hH];show trivial) (.inl rfl) (λb' u hb hu=>(z6c s.heap (Obj.mapSeq f) (Ne.symm hb)).trans hu) ⟨_,q⟩ ?_;show⟨hz,its',_,hv,q⟩
def Inv.lnew(I:Inv X G_ σ H s)(hv:Vals ys its)(hz:ys.length<=sizeLine):
  Inv X G_ σ (upd H s.heap.objs.size (.lst ys)) {s with heap:=s.heap.push {cls:=.type "list",data:=.seq its.toArray},toks:=t'}:=
 I.laid (λ_ _ q=>z9m _ q) (z9o _) ⟨hz,its,0,hv,z8q _ rfl⟩
def Inv.fresh(I:Inv X G_ σ H s):H s.heap.objs.size=none:=I.hok.fresh (z9o _)
def Inv.lstM(I:Inv X G_ σ H s)(hH:H l=some (.lst xs)):xs.length<=sizeLine/\∃(its:j_) (n:Nat),Vals xs its/\xs.length=its.length/\s.heap.get? l=some {cls:=.type "list",data:=.seq its.toArray n}:=by ext(⟨z,its,n,r,e⟩:I.hok l _ hH);show⟨z,its,n,r,r.length,e⟩
def Dg(h:n<=sizeLine):Builtin.List.listTooLong n=false:=by unfold Builtin.List.listTooLong;show z8u ∅
def Dh:V->B_->Hp->VK->Prop:=λx vs H Q=>∃l xs y,x=.ref l/\vs=[y]/\H l=some (.lst xs)/\xs.length<sizeLine/\Q .non (upd H l (.lst (xs++[y])))
theorem qD:MtM X "list.append" Dh:=by intro G_ s σ H x vs v us Q I rx rv h;ext(⟨l,xs,y,rfl,rfl,hH,hz,q⟩:h);ext rx;ext(⟨u,rfl,ru⟩:rv.one);ext(⟨z,its,n,r,hl,e⟩:I.lstM hH);show z4d F.slot_list_append ⟨_,e,rfl⟩ F.entry_list_append (F.args_list_append_2 _ _) (PySem.list_append l its.toArray n u (by rw[z9t];ext)) ⟨e,?_⟩;show⟨.non,_,I.lset (its':=its++[u]) hH e (by simp) (r.append (.cons ru .nil)) ?_,rfl,q⟩;rw[z9f,z4k];ext
def Di:R2:=λx y H Q=>∃l k xs,x=.ref l/\y=.int k/\H l=some (.lst xs)/\-(2 ^ 63)<=k/\k<2 ^ 63/\xs.length*k.toNat<=sizeLine /\
 ∀p,H p=none->Q (.ref p) (upd H p (.lst (List.replicate k.toNat xs).flatten))
def Dj{α:Type}(xs:List α)(k:Nat):(List.replicate k xs).flatten.length=k*xs.length:=by
 induction k with
 |zero=>simp
 |succ k ih=>rw[z7n,z6k,z9f,ih,Nat.succ_mul,Nat.add_comm]
theorem qE:OpR X (binaryOp .Mult) Di:=by
 intro G_ s σ H x y v u Q I rx ry h;ext(⟨l,k,xs,rfl,rfl,hH,h1,h2,hz,q⟩:h);ext rx;ext(⟨t,rfl⟩:ry);ext(⟨z,its,n,r,hl,e⟩:I.lstM hH);have hlen:its.toArray.size*k.toNat<=sizeLine:=by rw[z9t,<- hl];show hz
 have hcap:¬its.toArray.size*k.toNat > (2 ^ 63-1) / 8:=by
  have:(sizeLine:Nat)<=(2 ^ 63-1) / 8:=by decide
  ext
 have hfit:¬(!Builtin.List.listFitsIndex k)=true:=by rw[fitsIndex_both h1 h2];show z8l
 have hlong:¬Builtin.List.listTooLong (its.toArray.size*k.toNat)=true:=by rw[Dg hlen];show z8l
 have hnew:List.foldl (λx1 x2=>x1++x2) #[] (List.replicate (if its.toArray.isEmpty=true then 0 else k.toNat) its.toArray)=(List.replicate k.toNat its).flatten.toArray:=by
  have f0:∀m:Nat,List.foldl (λx1 x2=>x1++x2) #[] (List.replicate m its.toArray)=(List.replicate m its).flatten.toArray:=λm=>by have:=vY its m [];rw[z5u]at this;show this
  rw[f0];cases its with
  |nil=>simp
  |cons a r'=>rw[if_neg (by simp)]
 show wpAny_binaryOp_repeat_ref (T:="list") (U:="int") (by decide) ⟨_,e,rfl⟩ (λs'=>typeIs_int s' k t) noFill_list_mul F.fills_int_mul F.slot_int_rmul repeat_list F.slot_int_index.lookup
  (z4d F.slot_int_rmul (typeIs_int s k t) F.entry_int_rmul (F.args_int_rmul_2 _ _) (int___rmul___int_list k t l its.toArray n)
   ⟨e,rfl,⟨_,e,rfl⟩,z4d F.slot_list_mul ⟨_,e,rfl⟩ F.entry_list_mul (F.args_list_mul_2 _ _) (AutoListH.list___mul___list_int_3 l its.toArray n k t hfit hcap hlong) ⟨e,?_⟩⟩)
 rw[hnew];show⟨.ref _,_,I.lnew (t':=s.toks) (r.rep k.toNat) (by rw[Dj,Nat.mul_comm];show hz),rfl,q _ I.fresh⟩
end L2
namespace Att
open PySem PySem.W PySem.Calls PyProof.Rows
def Dl{P:Params}:∀(ns:h_) (vs:j_),WellAll P h vs (ns.map WData.int)->IntsAre vs ns:=by
 intro ns
 induction ns with
 |nil=>intro vs w;rw[z6b]at w;ext w;show .nil
 | cons n ns ih=>
   intro vs w;rw[z9r]at w;cases w with
   |cons a b=>ext a;show .cons _ _ (ih _ b)
def Dm{l:OpenLaw}(hn:l.most=some n){P:Params}{args:List WData}{vals:j_}(hpre:l.row.toRowW.claim.pre args=true)(hwl:WellAll P h vals args):
  ∃a vs ns,vals=[Value.ref a]/\args=[WData.list (ns.map WData.int)]/\h.get? a=some {cls:=.type "list",data:=.seq vs.toArray}/\IntsAre vs ns/\ns.length<=n:=by
 have hsh:WShape.hasAll [] args [.list .int]=true:=(pre_splitW hpre).1;have hc:l.pre.holds [] {args:=args}=true:=(pre_splitW hpre).2;ext(⟨d,r,rfl,h1,h2⟩:hasAllW_cons hsh);obtain rfl:=hasAllW_nil h2;ext(⟨xs,rfl,h3⟩:hasW_list h1);ext(⟨ns,rfl⟩:items_int h3);have hlen:ns.length<=n:=by
  unfold OpenLaw.pre at hc;have h4:(WTm.not (.lt (.lit (.int (n:Int))) (.len (.arg 0)))).holds [] {args:=[.list (ns.map .int)]}=true:=by have h4:=(holds_andW hc).1;rw[hn]at h4;show h4
  have h5:=condW_of h4 (w_not (w_lt w_lit (w_len_list (w_arg rfl))));rw[z9a]at h5;show Nat.le_of_not_lt λq=>?_
  have q':(n:Int)<((ns.length:Nat):Int):=by ext
  first
   |(rw[z8p q']at h5;show absurd h5 (by decide))
   |(simp at h5;ext)
 cases hwl with
 | cons w1 w2=>
   ext w2;cases w1 with
   |list ho hall=>show⟨_,_,ns,rfl,rfl,ho,Dl ns _ hall,hlen⟩
def Dn(l:OpenLaw)(args:List WData):l.row.toRowW.claim.post args (.bool true) args=true:=
 postW_of (r:=l.row.toRowW) (X:=(true==true))
  (show WShape.has [] (.bool true) .bool=true by first|rfl|decide|simp[WShape.has,WShape.arms,WShape.armsAll])
  (show(WTm.eq .res (.lit (.bool true))).value [] {args:=args,res:=some (.bool true),after:=args}=some (.bool (true==true))from w_eq_bool (w_res rfl) w_lit) rfl
def attach_call{l:OpenLaw}{YP:World->Heap->Prop}{d:DefRec}(hn:l.most=some n)(hdf:d.params.defaults=[])(call:∀(w:World) (s₀ z0:Shared) (mg mb:Str->u_) (fa:Addr) (o:Obj) (pm cd doc:Value) (a:Addr) (vs:j_) (ns:h_),
   Ground q loose [] XP w s₀ mg mb z0.heap->YP w z0.heap ->
   z0.heap.get? fa=some o->o.data=.func (docDef d.name d.params d.body d.scope pm cd doc)->z0.heap.CodeRec cd d.name->mg d.name=some (.ref fa) ->
   z0.heap.get? a=some {cls:=.type "list",data:=.seq vs.toArray}->IntsAre vs ns->ns.length<=n->z0.gens=#[] ->
   codeAny (model l.prog w) callerA (.call (.ref fa) ⟨[.ref a],[]⟩) (λr s'=>r=.ok (.ret (.bool true))/\OldK z0.heap s'.heap/\s'.os=z0.os/\AllBare s'.gens) z0):
  WalkO q loose XP YP l.row.toRowW d [] (λf vs=>PySem.call f vs):=by
 intro w s₀ z0 mg mb G Y fa o pm cd doc dV kV ho hd hcd hD hmg hg args vals as hpre hlay hrd hwl hlo;obtain rfl:dV=.none:=Dflts.none hD hdf;obtain rfl:kV=.none:=Dflts.noKw hD;ext(⟨a,vs,ns,rfl,rfl,hobj,hints,hlen⟩:Dm hn hpre hwl);show enter_call (z5w (call w s₀ z0 mg mb fa o pm cd doc a vs ns G Y ho (fd_plain hd) hcd hmg hobj hints hlen hg) λr s' hq=>?_);ext(⟨rfl,h2,h3,h4⟩:hq);show⟨.inl ⟨.bool true,.bool true,[],rfl,λ_=>rfl,.bool true,Dn l _,λ_=>⟨List.Pairwise.nil,λ_ hm=>(nomatch hm)⟩⟩,h2,h3,h4⟩
end Att
namespace L2
open PySem PySem.Spec PyProof.Rows
theorem vZ:∀{vs:j_} {ns:h_},IntsAre vs ns->Vals (ns.map V.int) vs
 |_,_,.nil=>.nil
 |_,_,.cons n t h=>.cons ⟨t,rfl⟩ (vZ h)
def qF(H:Hp):Prop:=∀b,H b=none\/∃o xs,H b=some (.frz o (.lst xs))
def Do{mb:Str->u_}{k:Nat}{fa a:Addr}{z0:Shared}{vs:j_}{ns:h_}(KX:K.In z0.heap)(hns:z0.heap.Ns mainGlobals mg)(hb:z0.heap.Ns builtinsNs mb)(hbb:∀x:Str,x ≠ "__name__"->mb x=bootBuiltins x)(hlim:z0.heap.NoLimit)(hg:z0.gens=#[])(ha:z0.heap.get? a=some {cls:=.type "list",data:=.seq vs.toArray})(hi:IntsAre vs ns)(hl:ns.length<=sizeLine)(hr:Room k callerA)(F:∀base:Heap,K.In base->base.Ns mainGlobals mg->FnOk P w K mg base CX k fa fd [x] sp)(hbind:∀(s:Shared) (u:Value),BindsTo s fd ⟨[u],[]⟩ [(x,u)])(hsp:∀H:Hp,qF H->SqL K H a (ns.map V.int)->sp [.ref a] H (λv _=>v=.bl true) λ_ _ _=>False)(hCX:∀H e s',CX [] H z0 (λ_ _ _=>False) e s'->False):
  codeAny (model P w) callerA (.call (.ref fa) ⟨[.ref a],[]⟩) (λr s'=>r=.ok (.ret (.bool true))/\OldK z0.heap s'.heap/\s'.os=z0.os/\AllBare s'.gens) z0:=by
 have rv:=vZ hi;have lenV:=hi.length;have core : ∀H:Hp,qF H->SqL K H a (ns.map V.int)->HOk P w H z0.heap->(∀b,H b≠none->b=a)->(H a≠none->K.lookup a=none) ->
   codeAny (model P w) callerA (.call (.ref fa) ⟨[.ref a],[]⟩) (λr s'=>r=.ok (.ret (.bool true))/\OldK z0.heap s'.heap/\s'.os=z0.os/\AllBare s'.gens) z0:=by
  intro H hO hS hok hA hK;have base_of:∀{b:Addr} {o:Obj},z0.heap.get? b=some o->H b=none->(ge z0.heap H).get? b=some o:=λe n=>BN e n
  have noA:∀{b:Addr} {o:Obj} {es:Array DictEntry} {ep:Nat},z0.heap.get? b=some o->o.data=.dict es ep->H b=none:=λ{b o es ep} e d=>by
   cases q:H b with
   |none=>rfl
   |some u=>have e':b=a:=hA b (by rw[q];simp);subst e';rw[ha]at e;ext e;have d':Data.seq vs.toArray _=Data.dict es ep:=d;ext d'
  have nsK:∀{b:Addr} {m:Str->u_},z0.heap.Ns b m->(ge z0.heap H).Ns b m:=λ{b m} ⟨o,es,ep,e,d,r⟩=>⟨o,es,ep,base_of e (noA e d),d,r⟩
  have hKb:K.In (ge z0.heap H):=λb o e=>base_of (KX b o e) (by
   cases q:H b with
   |none=>rfl
   |some u=>have e':b=a:=hA b (by rw[q];simp);subst e';rw[hK (by rw[q];simp)]at e;ext e)
  have hM:Mod K mg (ge z0.heap H):=⟨hKb,nsK hns,⟨mb,nsK hb,hbb⟩,let⟨mc,h1,h2⟩:=hlim;⟨mc,nsK h1,h2⟩⟩;have e0:Env0 P w K mg (ge z0.heap H) callerA [] z0 H:=⟨rfl,hM,λb o e=>BO e,Nat.le_of_eq (BM _ _),trivial,λb hb=>absurd (show b∈([]:l_)from hb) (by simp),hok,.of_eq hg⟩;show z5w ((F _ hKb (nsK hns)).run callerA [] z0 H ⟨[.ref a],[]⟩ [.ref a] [.ref a] _ _ hr e0 (hbind z0 (.ref a)) (.cons rfl .nil) (hsp H hO hS)) λr s' h=>?_
  cases r with
  |error e=>show(hCX H e s' h).elim
  | ok fl=>
    cases fl with
    |next=>show False.elim h
    |brk=>show False.elim h
    |cont=>show False.elim h
    | ret u=>
      ext(⟨v,H',os,bare,un,hok',r',q⟩:h);have q':v=.bl true:=q;subst q';obtain rfl:u=Value.bool true:=r';show⟨rfl,OldK.of_keep λb o e=>?_,os,bare⟩;cases q:H b with
      |none=>show un.keep b o e q (by intro z;show absurd (show b∈([]:l_)from z) (by simp)) (by simp)
      | some u=>
        ext((z|⟨ob,xs,z⟩):hO b)
        ·rw[q]at z;ext z
        ·have z2:=un.frzs b ob _ z
         ext(⟨e1,_⟩:hok b _ z);ext(⟨e2,_⟩:hok' b _ z2);rw[e]at e1;ext e1;show e2
 cases hk:K.lookup a with
 |some o=>have e:=KX a o hk;rw[ha]at e;ext e;show core (λ_=>none) (λ_=>.inl rfl) (.inr ⟨_,vs.toArray,_,hk,rfl,rfl,rfl,by rw[z9t,lenV];show hl,⇑rv⟩) (λb u z=>by have z':(none:Option HO)=some u:=z;ext z') (λb z=>absurd rfl z) λz=>absurd rfl z
 | none=>
   show core (λb=>if b=a then some (.frz {cls:=.type "list",data:=.seq vs.toArray} (.lst (ns.map V.int)))else none) (λb=>?_) (.inl (.inr ⟨{cls:=.type "list",data:=.seq vs.toArray},if_pos rfl⟩)) (λb u z=>?_) (λb z=>?_) λ_=>hk
   ·by_cases hb:b=a
    ·show .inr ⟨_,_,if_pos hb⟩
    ·show .inl (if_neg hb)
   ·by_cases hb:b=a
    ·have z':=(if_pos hb).symm.trans z
     ext z';subst hb;show⟨ha,by rw[z9a];show hl,vs,_,rv,ha⟩
    ·have z':=(if_neg hb).symm.trans z
     ext z'
   ·by_cases hb:b=a
    ·show hb
    ·show absurd (if_neg hb) z
def walk_of{l:W.OpenLaw}{k:Nat}{YP:World->Heap->Prop}{d:DefRec}{K:Params->K0}{CX:World->CXT}{sp:World->Sp}(hn:l.most=some n)(hn2:n<=sizeLine)(hdf:d.params.defaults=[])(hr:Room k callerA)(hY:∀(w:World) (h:Heap),YP w h->(K w.params).In h)(F:∀(w:World) (mg:Str->u_) (fa:Addr) (h:Heap),(K w.params).In h->h.Ns mainGlobals mg->mg d.name=some (.ref fa) ->
   ∃fd:FuncData,(∀(s:Shared) (u:Value),BindsTo s fd ⟨[u],[]⟩ [(x,u)]) /\
     ∀base:Heap,(K w.params).In base->base.Ns mainGlobals mg->FnOk l.prog w (K w.params) mg base (CX w) k fa fd [x] (sp w))(hsp:∀(w:World) (H:Hp) (a:Addr) (ns:h_),ns.length<=n->qF H->SqL (K w.params) H a (ns.map V.int)->sp w [.ref a] H (λv _=>v=.bl true) λ_ _ _=>False)(hCX:∀(w:World) (H:Hp) (s:Shared) (e:Value) (s':Shared),CX w [] H s (λ_ _ _=>False) e s'->False):
  W.WalkO q loose XP YP l.row.toRowW d [] (λf vs=>PySem.call f vs):=by
 show Att.attach_call hn hdf λw s₀ z0 mg mb fa o pm cd doc a vs ns G Y ho hd hcd hmg hobj hints hlen hg=>?_
 have KX:=hY w _ Y;ext(⟨fd,hb,hF⟩:F w mg fa _ KX G.T.g hmg);show Do KX G.T.g G.T.b G.T.builtins G.T.nolimit hg hobj hints (z7p hlen hn2) hr hF hb (λH hO hS=>hsp w H a ns hlen hO hS) λH e s'=>hCX w H z0 e s'
noncomputable def cq(s:Stmt)(j:Nat):Stmt:=match s with
 |.ClassDef _ _ _ body _ _ _ _ _ _ _=>body.getD j (.Pass ⟨0,0,0,0⟩)
 |_=>.Pass ⟨0,0,0,0⟩
noncomputable def gO(s:Stmt):Arguments:=match s with
 |.FunctionDef _ a _ _ _ _ _ _ _ _=>a
 |_=>{posonlyargs:=[],args:=[],vararg:=none,kwonlyargs:=[],kw_defaults:=[],kwarg:=none,defaults:=[]}
noncomputable def cy(s:Stmt):n_:=match s with
 |.FunctionDef _ _ b _ _ _ _ _ _ _=>b
 |_=>[]
noncomputable def aN(s:Stmt):Scope:=match s with
 |.FunctionDef _ _ _ _ _ _ sc _ _ _=>sc
 |_=>{kind:=.function,names:=[],isGenerator:=false,isCoroutine:=false}
abbrev CX0:CXT:=λ_ _ _ _ _ _=>False
abbrev E0:XK:=λ_ _ _=>False
def ff:gg CX0 X E0:=λ_ _ _ _ _ _ _ h=>h.elim
structure Fun (K:K0) (x qual:Str) (st:Stmt) (f:Addr) (fd:FuncData):Prop where
 ex:∃(oc:Value) (od:Option Addr) (kV doc pm:Value) (an:Option Addr) (cdv ct:Value) (osl:Array u_),
  fd=W.fnOf x qual (gO st) (cy st) (aN st) .none kV doc pm an cdv ct/\K.lookup f=some ⟨oc,od,.func fd,osl⟩/\W.codeIn K cdv qual=true
 kp:W.keepIn K (.ref f)=true
theorem Fun.ok{k:Nat}(F:Fun K x qual st f fd)(S:FnScope N ps (aN st))(len:∀vs H Q E,sp vs H Q E->vs.length=ps.length)(hbody:∀(cdv:Value) (A:Around) (outer:List Env) (s:Shared) (H:Hp) (vs:B_) (Q:VK) (E:XK),Room k (A.deeper (envOfC qual (aN st) s.heap.objs.size f cdv))->sp vs H Q E ->
   ∃t,PSs (c4 CX0 P w K mg base N qual (aN st) f cdv A outer s H E).nox (cy st) t/\t {nx:=λ_ H'=>Q .non H',rt:=Q} (start N vs) H):FnOk P w K mg base CX0 (k+1) f fd ps sp:=by
 ext(⟨oc,od,kV,doc,pm,an,cdv,ct,osl,rfl,lk,hcd⟩:F.ex);show vP lk hcd S len λA outer s H vs Q E hr hsp=>?_
 ext(⟨t,h,q⟩:hbody cdv A outer s H vs Q E hr hsp);show⟨t,h.nox,q⟩
theorem Fun.binds(F:Fun K x qual st f fd)(h:∀(kV doc pm:Value) (an:Option Addr) (cdv ct:Value) (us:j_),us.length=ps.length->bindArgs (W.fnOf x qual (gO st) (cy st) (aN st) .none kV doc pm an cdv ct) ⟨us,[]⟩=pure (ps.zip us)):Binds K fd ps []:=by ext(⟨oc,od,kV,doc,pm,an,cdv,ct,osl,rfl,lk,hcd⟩:F.ex);show .all (h kV doc pm an cdv ct)
def qG{kV:Value}(l:K.lookup f=some ⟨oc,od,.func (W.fnOf x qual (gO st) (cy st) (aN st) .none kV doc pm an cdv ct),osl⟩)(c:W.codeIn K cdv qual=true)(k:W.keepIn K (.ref f)=true):Fun K x qual st f (W.fnOf x qual (gO st) (cy st) (aN st) .none kV doc pm an cdv ct):=⟨⟨oc,od,kV,doc,pm,an,cdv,ct,osl,rfl,l,c⟩,k⟩
def Dp(h:n<=1000):n<sizeLine:=Nat.lt_of_le_of_lt h (by decide)
def pv(i:Nat)(hN:X.N[i]?=some x<|>R0)(hv:Vis X.env.scope x<|>R3)(hd:DB x<|>R1)(hcd:(x==("__classdict__" : Str))=false<|>R1):PE X (.Name x pos) (uV i):=gf hN hv hd hcd
def eh{A B:Prop}(h:B):if false=true then A else B:=by rw[if_neg z8l];show h
def eo{A B:Prop}(h:A):if true=true then A else B:=by rw[if_pos rfl];show h
def Same(H H':Hp):Prop:=∀b o,H b=some o->H' b=some o
def Same.refl(H:Hp):Same H H:=λ_ _ h=>h
def Same.trans(a:Same H H1)(b:Same H1 H2):Same H H2:=λc o h=>b c o (a c o h)
def Same.free(e:Same H H')(h:H' l=Option.none):H l=Option.none:=by
 cases q:H l with
 |none=>rfl
 |some o=>rw[e l o q]at h;ext h
def Same.seq{a:Addr}(e:Same H H')(h:SqL K H a xs):SqL K H' a xs:=by
 rcases h with(h|⟨o,h⟩)|h
 ·show .inl (.inl (e _ _ h))
 ·show .inl (.inr ⟨o,e _ _ h⟩)
 ·show .inr h
section
variable {κ:Type}[DecidableEq κ]
noncomputable def bQ(kvs:List (κ×V))(k:κ):C_:=(kvs.find? λkv=>decide (kv.1=k)).map (·.2)
noncomputable def cL(kvs:List (κ×V))(k:κ)(v:V):List (κ×V):=
 if(kvs.any λkv=>decide (kv.1=k))=true then kvs.map (λkv=>if kv.1=k then(kv.1,v)else kv)else kvs++[(k,v)]
def Dq{k:κ}:bQ ([]:List (κ×V)) k=none:=rfl
def mM{p:κ×V}{r:List (κ×V)}{k:κ}(e:p.1=k):bQ (p::r) k=some p.2:=by simp[bQ,z5e,e]
def mO{p:κ×V}{r:List (κ×V)}{k:κ}(e:¬p.1=k):bQ (p::r) k=bQ r k:=by simp[bQ,z5e,e]
theorem mP(k:κ):∀kvs:List (κ×V),(kvs.any λkv=>decide (kv.1=k))=(bQ kvs k).isSome
 |[]=>rfl
 | p::r=>by
   rw[z6m];by_cases e:p.1=k
   ·erw[mM e,z8p e,Bool.true_or,Option.isSome_some]
   ·rw[mO e,z8u e,Bool.false_or];show mP k r
def qH(kvs:List (κ×V))(k:κ)(v:V):(cL kvs k v).length<=kvs.length+1:=by
 unfold cL;split
 ·rw[z9a];ext
 ·rw[z9f,z9c,z9k];ext
def w5{kvs:List (κ×V)}{k:κ}(v:V)(h:bQ kvs k=none):cL kvs k v=kvs++[(k,v)]:=by unfold cL;rw[mP,h];show if_neg (by decide)
def RelO.isSome_eq{o:C_}{u:u_}(r:RelO o u):o.isSome=u.isSome:=by
 cases o with
 | none=>cases u with
   |none=>rfl
   |some _=>show(show False from r).elim
 | some _=>cases u with
   |none=>show(show False from r).elim
   |some _=>rfl
def KV.val{kvs:List (κ×V)}{vs:List (κ×Value)}(r:KV kvs vs)(k:κ):RelO (bQ kvs k) (valueAt vs k):=by
 unfold KV at r
 induction r with
 |nil=>show True.intro
 | @cons p q ps qs h t ih=>
   ext(⟨h1,h2⟩:h);by_cases e:p.1=k
   ·have e':q.1=k:=h1.symm.trans e
    have b:valueAt (q::qs) k=some q.2:=by simp[valueAt,z5e,e']
    rw[mM e,b];show h2
   ·have e':¬q.1=k:=λz=>e (h1.trans z)
    have b:valueAt (q::qs) k=valueAt qs k:=by simp[valueAt,z5e,e']
    rw[mO e,b];show ih
def KV.any{kvs:List (κ×V)}{vs:List (κ×Value)}(r:KV kvs vs)(k:κ):(kvs.any λkv=>decide (kv.1=k))=vs.any λkv=>decide (kv.1=k):=by
 unfold KV at r
 induction r with
 |nil=>rfl
 |cons h t ih=>rw[z6m,z6m,ih,h.1]
def KV.repl{kvs:List (κ×V)}{vs:List (κ×Value)}(r:KV kvs vs)(k:κ)(ry:RelV y u):
  KV (kvs.map λkv=>if kv.1=k then(kv.1,y)else kv) (vs.map λkv=>if kv.1=k then(kv.1,u)else kv):=by
 unfold KV at r ⊢
 induction r with
 |nil=>show .nil
 | @cons p q ps qs h t ih=>
   rw[z9r,z9r];show .cons ?_ ih;ext(⟨h1,h2⟩:h);by_cases e:p.1=k
   ·rw[if_pos e,if_pos (h1.symm.trans e)];show⟨h1,ry⟩
   ·rw[if_neg e,if_neg (λz=>e (h1.trans z))];show⟨h1,h2⟩
def KV.put{kvs:List (κ×V)}{vs:List (κ×Value)}(r:KV kvs vs)(k:κ)(ry:RelV y u):KV (cL kvs k y) (stored vs k u):=by
 unfold cL stored;rw[r.any k];by_cases e:(vs.any λkv=>decide (kv.1=k))=true
 ·rw[if_pos e,if_pos e];show r.repl k ry
 ·rw[if_neg e,if_neg e];show Paired.snoc r ⟨rfl,ry⟩
def KV.length{kvs:List (κ×V)}{vs:List (κ×Value)}(r:KV kvs vs):kvs.length=vs.length:=z3h r
end
def jr{k:Key}(r:RelV (kV k) u):(dh P w).is k u=true:=by
 cases k with
 |inl i=>ext(⟨t,e⟩:(show ∃t,u=Value.int i t from r));subst e;show BJ P w i t
 |inr x=>ext(⟨t,e⟩:(show ∃t,u=Value.str x t from r));subst e;show BK P w x t
theorem w6{P:Program}{w:World}:∀{ks:List Key} {us:j_},Vals (ks.map kV) us->ItemsAre (dh P w) ks us
 |[],_,r=>by rw[z6b]at r;ext r;show .nil
 | k::ks,_,r=>by
   rw[z9r]at r;cases r with
   |cons h t=>show .cons (jr h) (w6 t)
abbrev KT(H:Hp):List (List Key×V)->List (List Key×Addr×Value)->Prop:=Paired λp q=>p.1=q.1/\H q.2.1=some (.tup (p.1.map kV))/\RelV p.2 q.2.2
def KT.val{xs:List (List Key×Addr×Value)}(r:KT H kvs xs)(k:List Key):RelO (bQ kvs k) ((atKey xs k).map (·.2)):=by
 induction r with
 |nil=>show True.intro
 | @cons p q ps qs h t ih=>
   ext(⟨h1,_,h2⟩:h);by_cases e:p.1=k
   ·have e':q.1=k:=h1.symm.trans e
    have b:atKey (q::qs) k=some q.2:=by simp[atKey,z5e,e']
    rw[mM e,b];show h2
   ·have e':¬q.1=k:=λz=>e (h1.trans z)
    have b:atKey (q::qs) k=atKey qs k:=by simp[atKey,z5e,e']
    rw[mO e,b];show ih
def KT.repl{xs:List (List Key×Addr×Value)}(r:KT H kvs xs)(k:List Key)(ry:RelV y u):
  KT H (kvs.map λkv=>if kv.1=k then(kv.1,y)else kv) (xs.map (putAt k u)):=by
 induction r with
 |nil=>show .nil
 | @cons p q ps qs h t ih=>
   rw[z9r,z9r];show .cons ?_ ih;ext(⟨h1,h2,h3⟩:h);unfold putAt;by_cases e:p.1=k
   ·rw[if_pos e,if_pos (h1.symm.trans e)];show⟨h1,h2,ry⟩
   ·rw[if_neg e,if_neg (λz=>e (h1.trans z))];show⟨h1,h2,h3⟩
def KT.put{xs:List (List Key×Addr×Value)}(r:KT H kvs xs)(k:List Key){b:Addr}(hb:H b=some (.tup (k.map kV)))(ry:RelV y u):
  KT H (cL kvs k y) (storedH xs k b u):=by
 have e:(kvs.any λkv=>decide (kv.1=k))=(atKey xs k).isSome:=by rw[mP,(r.val k).isSome_eq,z3k]
 unfold cL storedH;rw[e];by_cases q:(atKey xs k).isSome=true
 ·rw[if_pos q,if_pos q];show r.repl k ry
 ·rw[if_neg q,if_neg q];show Paired.snoc r ⟨rfl,hb,ry⟩
def KT.keeps{xs:List (List Key×Addr×Value)}(r:KT H kvs xs)(ht:∀b ys,H b=some (.tup ys)->H' b=some (.tup ys)):KT H' kvs xs:=
 Paired.mapP r λ_ _ z=>⟨z.1,ht _ _ z.2.1,z.2.2⟩
section
variable {a:Addr}
def w8{u:HO}(ok:HOk P w H h)(e:Rd H a u):ObjOk P w H h a u:=e.ok ok
def js{kvs:List (Key×V)}(ok:HOk P w H h)(e:Rd H a (.dK kvs)):kvs.length<=sizeLine/\(a==sysModules)=false/\∃vs,KV kvs vs/\h.DictOf (dh P w) a vs:=
 show ObjOk P w H h a (.dK kvs)from w8 ok e
def w9{kvs:List (Key×V)}(ok:HOk P w H h)(e:H a=some (.dK kvs)):kvs.length<=sizeLine/\(a==sysModules)=false/\∃vs,KV kvs vs/\h.DictOf (dh P w) a vs:=js ok (.inl e)
def kK{ks:List Key}(ok:HOk P w H h)(e:H a=some (.tup (ks.map kV))):(tupleKind (dh P w)).is h ks a:=by ext(⟨_,its,r,o,h1,h2,n,h3⟩:(show ObjOk P w H h a (.tup (ks.map kV))from ok a _ e));show⟨o,its.toArray,n,h1,h2,h3,by simpa using w6 r⟩
def kL(ok:HOk P w H h)(e:Rd H a (.dT kvs)):kvs.length<=sizeLine/\(a==sysModules)=false /\
  ∃xs,KT H kvs xs/\h.DictOfH (tupleKind (dh P w)) a xs:=by
 ext(⟨z,y,xs,r,o,es,ep,h1,h2,h3,h4,h5⟩:(show ObjOk P w H h a (.dT kvs)from w8 ok e));show⟨z,y,xs,r,o,es,ep,h1,h2,h3,h4,λx hx=>?_,h5⟩;have all:∀{l:List (List Key×V)} {m:List (List Key×Addr×Value)},KT H l m->∀x∈m,(tupleKind (dh P w)).is h x.1 x.2.1:=by
  intro l m q
  induction q with
  |nil=>intro x hx;show nomatch hx
  | @cons p q ps qs hq t ih=>
    intro x hx;ext((e|hx):z9g.mp hx)
    ·subst e
     show kK ok (by rw[<- hq.1];show hq.2.1)
    ·show ih x hx
 show all r x hx
def Dr(ok:HOk P w H h)(e:H a=some (.dT kvs)):kvs.length<=sizeLine/\(a==sysModules)=false /\
  ∃xs,KT H kvs xs/\h.DictOfH (tupleKind (dh P w)) a xs:=kL ok (.inl e)
end
def DGet(H:Hp)(a:Addr)(y:V)(r:C_):Prop:=
 (∃kvs k,Rd H a (.dK kvs)/\y=kV k/\r=bQ kvs k)\/∃kvs k b,Rd H a (.dT kvs)/\y=.ref b/\H b=some (.tup (k.map kV))/\r=bQ kvs k
def wa(H:Hp)(a:Addr)(y v:V)(H':Hp):Prop:=
 (∃kvs k,H a=some (.dK kvs)/\y=kV k/\kvs.length<sizeLine/\H'=upd H a (.dK (cL kvs k v))) \/
 ∃kvs k b,H a=some (.dT kvs)/\y=.ref b/\H b=some (.tup (k.map kV))/\kvs.length<sizeLine/\H'=upd H a (.dT (cL kvs k v))
def DGet.k{a:Addr}{kvs:List (Key×V)}{k:Key}(e:H a=some (.dK kvs)):DGet H a (kV k) (bQ kvs k):=.inl ⟨kvs,k,.inl e,rfl,rfl⟩
section
variable {a:Addr}{r:Value}{o:C_}
def Inv.big(I:Inv X G_ σ H s):sysModules<s.heap.objs.size:=by have h:mainGlobals<s.heap.objs.size:=(I.mod.glob.keeps I.bk).lt;show Nat.lt_trans (by decide) h
def Ds{Q:Value->Shared->Prop}(hu:A.units+1<cLine)(I:Inv X G_ σ H s)(g:DGet H a y (some v))(ry:RelV y u)(h:∀w' s',Inv X G_ σ H s'->RelV v w'->Q w' s'):
  wpAny (model X.prog X.w) A (getItem (.ref a) u) Q E s:=by
 rcases g with⟨kvs,k,e,ey,l⟩|⟨kvs,k,b,e,ey,eb,l⟩
 ·subst ey
  ext(⟨z,hd,vs,rel,dd⟩:js I.hok e);ext(⟨w',hw,rw'⟩:RelO.some_of (v:=v) (o:=valueAt vs k) (by rw[l];show rel.val k));show wpAny_getItem_of (jr ry) dd.mapOf hw (h w' _ (I.tok _) rw')
 ·subst ey
  cases(show u=Value.ref b from ry);ext(⟨z,hd,xs,rel,dd⟩:kL I.hok e);ext(⟨w',hw,rw'⟩:RelO.some_of (v:=v) (o:=(atKey xs k).map (·.2)) (by rw[l];show rel.val k));ext(⟨p,hp,hp2⟩:Option.map_eq_some_iff.mp hw);show wpAny_getItem_heap (z5x hu) (kK I.hok eb) dd hp ?_;rw[hp2];show h w' _ (I.tok _) rw'
def Dt{Q:Value->Shared->Prop}(hu:A.units+1<cLine)(I:Inv X G_ σ H s)(g:DGet H a y o)(ry:RelV y u)(h:∀s',Inv X G_ σ H s'->Q (.bool o.isSome) s'):
  wpAny (model X.prog X.w) A (compareOp .In u (.ref a)) Q E s:=by
 rcases g with⟨kvs,k,e,ey,l⟩|⟨kvs,k,b,e,ey,eb,l⟩
 ·subst ey
  ext(⟨z,hd,vs,rel,dd⟩:js I.hok e);show wpAny_in_of (jr ry) hd dd.mapOf ?_;rw[<- (rel.val k).isSome_eq,<- l];show h _ (I.tok _)
 ·subst ey
  cases(show u=Value.ref b from ry);ext(⟨z,hd,xs,rel,dd⟩:kL I.hok e);show wpAny_in_heap (z5x hu) (kK I.hok eb) hd dd ?_;have q:=(rel.val k).isSome_eq;rw[z3k]at q;rw[<- q,<- l];show h _ (I.tok _)
def Du{Q:Value->Shared->Prop}(hu:A.units+1<cLine)(I:Inv X G_ σ H s)(g:DGet H a y o)(ry:RelV y u)(h:∀s',Inv X G_ σ H s'->Q (.bool (!o.isSome)) s'):
  wpAny (model X.prog X.w) A (compareOp .NotIn u (.ref a)) Q E s:=by
 rcases g with⟨kvs,k,e,ey,l⟩|⟨kvs,k,b,e,ey,eb,l⟩
 ·subst ey
  ext(⟨z,hd,vs,rel,dd⟩:js I.hok e);show wpAny_notIn_of (jr ry) hd dd.mapOf ?_;rw[<- (rel.val k).isSome_eq,<- l];show h _ (I.tok _)
 ·subst ey
  cases(show u=Value.ref b from ry);ext(⟨z,hd,xs,rel,dd⟩:kL I.hok e);show wpAny_notIn_heap (z5x hu) (kK I.hok eb) hd dd ?_;have q:=(rel.val k).isSome_eq;rw[z3k]at q;rw[<- q,<- l];show h _ (I.tok _)
def qI{ob:HO}(I:Inv X G_ σ H s)(mu:Mut (H a))(hs:Heap.SameBut a s.heap h')(he:∃q,h'.get? a=some q)(new:ObjOk X.prog X.w (upd H a ob) h' a ob):
  Inv X G_ σ (upd H a ob) {s with heap:=h',toks:=t'}:=
 I.write (x:=a) (e:=a) mu (.inl rfl) (λb q hb z=>(hs.2 b hb).trans z) he new
def wc{kvs:List (Key×V)}{vs:List (Key×Value)}(z:kvs.length<=sizeLine)(hd:(a==sysModules)=false)(rel:KV kvs vs)(dd:h'.DictOf (dh P w) a vs):
  ObjOk P w H' h' a (.dK kvs):=⟨z,hd,vs,rel,dd⟩
def Dv{Q:Unit->Shared->Prop}(hu:A.units+1<cLine)(I:Inv X G_ σ H s)(g:wa H a y v H')(ry:RelV y u)(rv:RelV v r)(h:∀s',Inv X G_ σ H' s'->Q () s'):
  wpAny (model X.prog X.w) A (setItem (.ref a) u r) Q E s:=by
 rcases g with⟨kvs,k,e,ey,l,eH⟩|⟨kvs,k,b,e,ey,eb,l,eH⟩
 ·subst ey eH
  ext(⟨z,hd,vs,rel,dd⟩:w9 I.hok e);have hz:vs.length<=sizeLine:=by rw[<- rel.length];show z
  have hl:(cL kvs k v).length<=sizeLine:=by have:=qH kvs k v;ext
  show wpAny_setItem_pairs (hsz:=hz) (jr ry) dd λh' dd' hs=>h _ ?_
  have he:∃q,h'.get? a=some q:=let⟨q,_,_,hq,_⟩:=dd';⟨q,hq⟩;show qI I (by rw[e];show True.intro) hs he (wc hl hd (rel.put k rv) dd')
 ·subst ey eH
  cases(show u=Value.ref b from ry);ext(⟨z,hd,xs,rel,dd⟩:Dr I.hok e);have hz:xs.length<=sizeLine:=by rw[<- z3h rel];show z
  have hl:(cL kvs k v).length<=sizeLine:=by have:=qH kvs k v;ext
  show wpAny_setItem_heap (hsz:=hz) (z5x hu) (kK I.hok eb) dd λh' dd' hs=>h _ ?_
  ext(⟨q,es,ep,hq,h2,h3,h4,_,h5⟩:dd');show qI I (by rw[e];show True.intro) hs ⟨q,hq⟩ ⟨hl,hd,_,(rel.put k eb rv).keeps λc ys ec=>?_,q,es,ep,hq,h2,h3,h4,h5⟩;rw[aJ (BL ec e (λz=>nomatch z))];show ec
end
def mQ(i:Expr):Prop:=∀ov iv,subscripted i false ov iv=operate [ov,iv] (getItem ov iv)
def Dw{slice:Expr}{T id:String}{Q:Value->Shared->Prop}(hl:typeLookup (.type T) "__getitem__"=pure (some (.builtin id)))(hs:mQ slice)(h:wpAny (model prog w) A (eval value env) (λo z0=>wpAny (model prog w) A (eval slice env) (λi z5=>z5.TypeIs o T/\wpAny (model prog w) A (getItem o i) Q E z5) E z0) E s):
  wpAny (model prog w) A (eval (.Subscript value slice pos) env) Q E s:=by
 show Subscript_ (z8o h (λo z0 w_=>z8o w_ (λi z5 x3=>?_) λ_ _ x=>x) λ_ _ x=>x);ext(⟨hT,x3⟩:x3);unfold subscriptTail;show z9i ?_;rw[getitemInPython_of_ne hT.not_modules];show z9i (wpAny_specialOf hT hl ?_);have fin:wpAny (model prog w) A (subscripted slice false o i) (λr z6=>wpAny (model prog w) A (letTemporaryGo value o r >>= λ_=>pure r) Q E z6) E z5:=by rw[hs o i];show wpAny_operating (z8o x3 (λr z6 x5=>z9i (wpAny_letTemporaryGo (z8a x5))) λ_ _ x=>x)
 first
  |show z8a (z9i fin)
  |show z9i (z8a (z9i fin))
  |show z9i fin
def Dx{a:Addr}{o:C_}(I:Inv X G_ σ H s)(g:DGet H a y o):s.TypeIs (.ref a) "dict":=by
 rcases g with⟨kvs,k,e,_,_⟩|⟨kvs,k,b,e,_,_,_⟩
 ·ext(⟨_,_,vs,_,dd⟩:js I.hok e)
  show dd.typeIs
 ·ext(⟨_,_,xs,_,dd⟩:kL I.hok e)
  show dd.typeIs
def Dy(td ty:TE):TE:=λσ H Q=>td σ H λx H1=>ty σ H1 λy H2=>∃a v,x=.ref a/\DGet H2 a y (some v)/\Q v H2
def we(ty td:TE):TE:=λσ H Q=>ty σ H λy H1=>td σ H1 λx H2=>∃a o,x=.ref a/\DGet H2 a y o/\Q (.bl o.isSome) H2
def wf(ty td:TE):TE:=λσ H Q=>ty σ H λy H1=>td σ H1 λx H2=>∃a o,x=.ref a/\DGet H2 a y o/\Q (.bl (!o.isSome)) H2
def Dz(td ty tv:TE):TS:=λD σ H=>tv σ H λv H1=>td σ H1 λx H2=>ty σ H2 λy H3=>∃a H4,x=.ref a/\wa H3 a y v H4/\D.nx σ H4
section
variable {o i:Expr}{td ty tv:TE}
def wg(hu:X.A.units+1<cLine)(ho:PE X o td)(hi:PE X i ty)(hs:mQ i):PE X (.Subscript o i pos) (Dy td ty):=by intro G_ s σ H Q I h;show Dw PySem.F.slot_dict_getitem.lookup hs (b8 (ho G_ s σ H _ I h) λu s1 x H1 I1 rx q1=>b8 (hi G_ s1 σ H1 _ I1 q1) λiv s2 y H2 I2 ry z_=>?_);ext(⟨a,v,ex,g,q2⟩:z_);subst ex;obtain rfl:u=Value.ref a:=rx;show⟨Dx I2 g,Ds hu I2 g ry λw' s3 I3 rw'=>⟨v,H2,I3,rw',q2⟩⟩
def DA(hu:X.A.units+1<cLine)(hi:PE X i ty)(ho:PE X o td):PC X .In i o (we ty td):=by
 intro G_ s σ H Q I h;show b8 (hi G_ s σ H _ I h) λiv s1 y H1 I1 ry q1=>b8 (ho G_ s1 σ H1 _ I1 q1) λu s2 x H2 I2 rx z_=>?_
 ext(⟨a,ov,ex,g,q2⟩:z_);subst ex;obtain rfl:u=Value.ref a:=rx;show Dt hu I2 g ry λs3 I3=>⟨.bl ov.isSome,H2,I3,rfl,q2⟩
def DC(hu:X.A.units+1<cLine)(hi:PE X i ty)(ho:PE X o td):PC X .NotIn i o (wf ty td):=by
 intro G_ s σ H Q I h;show b8 (hi G_ s σ H _ I h) λiv s1 y H1 I1 ry q1=>b8 (ho G_ s1 σ H1 _ I1 q1) λu s2 x H2 I2 rx z_=>?_
 ext(⟨a,ov,ex,g,q2⟩:z_);subst ex;obtain rfl:u=Value.ref a:=rx;show Du hu I2 g ry λs3 I3=>⟨.bl (!ov.isSome),H2,I3,rfl,q2⟩
def wj(hu:X.A.units+1<cLine)(ho:PE X o td)(hi:PE X i ty)(hv:PE X value tv)(hs:swapsWith value (some (.Subscript o i pos')) pos.line X.env=pure false):
  PS X (.Assign [.Subscript o i pos'] value pos) (Dz td ty tv):=by
 intro G_ s σ H D I h;show wpAny_Assign_Subscript (b8 (hv G_ s σ H _ I h) λr s1 v H1 I1 rv q1=>b8 (ho G_ s1 σ H1 _ I1 q1) λu s2 x H2 I2 rx q2=>b8 (hi G_ s2 σ H2 _ I2 q2) λiv s3 y H3 I3 ry z_=>?_) hs;ext(⟨a,H4,ex,g,q3⟩:z_);subst ex;obtain rfl:u=Value.ref a:=rx;show Dv hu I3 g ry rv λs4 I4=>⟨σ,H4,I4,q3⟩
end
def wm(h:Heap)(hb:sysModules<h.objs.size):ObjOk P w H (h.push {cls:=.type "dict",data:=.dict #[]}) h.objs.size (.dK []):=
 ⟨z7r _,z7h.mpr (Ne.symm (z8n hb)),[],.nil,Heap.DictOf.new h⟩
def DD:TE:=λ_ H Q=>∀p,H p=none->Q (.ref p) (upd H p (.dK []))
def DE:PE X (.Dict [] [] pos) DD:=λG_ s σ H Q I h=>wpAny_Dict_empty ⟨.ref s.heap.objs.size,_,I.laid (a:=s.heap.objs.size) (o:=.dK []) (t':=s.toks) (λ_ _ q=>z9m _ q) (z9o _) (wm s.heap I.big),rfl,h _ (I.hok.fresh (z9o _))⟩
def mR:List (TE×TE)->St->Hp->(List (V×V)->Hp->Prop)->Prop
 |[],_,H,Q=>Q [] H
 |(tk,tv)::r,σ,H,Q=>tk σ H λx H1=>tv σ H1 λy H2=>mR r σ H2 λps H3=>Q ((x,y)::ps) H3
abbrev VV:List (V×V)->List (Value×Value)->Prop:=Paired λp q=>RelV p.1 q.1/\RelV p.2 q.2
def PPs(X:Cx)(pos:Pos)(keys:List (Option Expr))(values:k_)(trs:List (TE×TE)):Prop:=
 ∀(G_:p_) (s:Shared) (σ:St) (H:Hp) (Q:List (V×V)->Hp->Prop),Inv X G_ σ H s->mR trs σ H Q ->
   wpAny (model X.prog X.w) X.A (evalPairs (pairTrees keys values X.env pos)) (λvs s'=>∃ps H',Inv X G_ σ H' s'/\VV ps vs/\Q ps H') X.xe s
def DF:PPs X pos [] [] []:=λG_ s σ H Q I h=>pairTrees_nil_walk ⟨[],H,I,.nil,h⟩
def DG{k v:Expr}{ks:List (Option Expr)}{vs:k_}{tk tv:TE}(hk:PE X k tk)(hv:PE X v tv)(hr:PPs X pos ks vs trs):
  PPs X pos (some k::ks) (v::vs) ((tk,tv)::trs):=λG_ s σ H Q I h=>
 pairTrees_cons_walk (b8 (hk G_ s σ H _ I h) λu s1 x H1 I1 rx q1=>b8 (hv G_ s1 σ H1 _ I1 q1) λw2 s2 y H2 I2 ry q2=>thn (hr G_ s2 σ H2 _ I2 q2) λws s3 z_=>by ext(⟨ps,H3,I3,rel,q3⟩:z_);show⟨(x,y)::ps,H3,I3,.cons ⟨rx,ry⟩ rel,q3⟩)
def gh(kvs more:List (Key×V)):List (Key×V):=more.foldl (λacc kv=>cL acc kv.1 kv.2) kvs
def KV.merge:∀{more:List (Key×V)} {rs:List (Key×Value)} {kvs:List (Key×V)} {vs:List (Key×Value)},KV more rs->KV kvs vs->KV (gh kvs more) (merged vs rs):=by
 intro more rs kvs vs r;unfold KV at r
 induction r generalizing kvs vs with
 |nil=>intro q;show q
 | @cons p q ps qs h t ih=>
   intro r0;have e:KV (cL kvs p.1 p.2) (stored vs q.1 q.2):=by have:=r0.put p.1 h.2;rw[<- h.1];show this
   show ih e
theorem wo:∀(more kvs:List (Key×V)),(gh kvs more).length<=kvs.length+more.length
 |[],kvs=>by change kvs.length<=kvs.length+0;ext
 |p::r,kvs=>by have h1:=wo r (cL kvs p.1 p.2);have h2:=qH kvs p.1 p.2;change(gh (cL kvs p.1 p.2) r).length<=_;rw[z9c];ext
theorem wq{P:Program}{w:World}:∀{kvs:List (Key×V)} {ws:List (Value×Value)},VV (kvs.map λkv=>(kV kv.1,kv.2)) ws->∃rs,Carries (dh P w) ws rs/\KV kvs rs
 |[],_,r=>by rw[z6b]at r;ext r;show⟨[],True.intro,.nil⟩
 | p::kvs,_,r=>by
   rw[z9r]at r;cases r with
   |@cons a b as bs h t=>ext(⟨rs,c,q⟩:wq (P:=P) (w:=w) t);ext(⟨b1,b2⟩:b);show⟨(p.1,b2)::rs,⟨jr h.1,rfl,c⟩,.cons ⟨rfl,h.2⟩ q⟩
def DH(trs:List (TE×TE)):TE:=λσ H Q=>∀p,H p=none->mR trs σ (upd H p (.dK [])) λps H2=>H2 p=some (.dK [])/\∃kvs:List (Key×V),ps=kvs.map (λkv=>(kV kv.1,kv.2))/\kvs.length<=15/\Q (.ref p) (upd H2 p (.dK (gh [] kvs)))
def DJ{values:k_}(h:PPs X pos keys values trs)(hall:keys.all (·.isSome)=true)(hl:keys.length=values.length)(h0:keys≠[])(h15:keys.length<=15):PE X (.Dict keys values pos) (DH trs):=by
 intro G_ s σ H Q I q;have hn:=I.hok.fresh (z9o s.heap.objs.size);have I1:=I.laid (a:=s.heap.objs.size) (o:=.dK []) (h':=s.heap.push {cls:=.type "dict",data:=.dict #[]}) (t':=s.toks) (λ_ _ q=>z9m _ q) (z9o _) (wm s.heap I.big);show wpAny_Dict_walk (knd:=dh X.prog X.w) hall hl h0 h15 (thn (h G_ _ σ _ _ I1 (q _ hn)) λws s2 z_=>?_);ext(⟨ps,H2,I2,rel,e,kvs,ep,lk,q2⟩:z_);subst ep;ext(⟨rs,c,rk⟩:wq (P:=X.prog) (w:=X.w) rel);ext(⟨z,hd,vs0,r0,dd⟩:w9 I2.hok e);ext r0;show⟨rs,c,dd,λh' dd' hs=>⟨.ref s.heap.objs.size,_,?_,rfl,q2⟩⟩;have hz:(gh [] kvs).length<=sizeLine:=by have h1:=wo kvs [];rw[z9k]at h1;rw[z6g];ext
 have he:∃q,h'.get? s.heap.objs.size=some q:=let⟨q,_,_,hq,_⟩:=dd';⟨q,hq⟩;show qI I2 (by rw[e];show True.intro) hs he (wc hz hd (rk.merge .nil) dd')
structure M1 (X:Cx) (o:Expr) (m:Str) (apos:Pos) (e:Expr) (cpos:Pos):Prop where
 base:attributeBase o m X.env (eval o X.env)=eval o X.env
 few:((backTo cpos (starEach [e] X.env)).all (λx=>!x.1)&&(backToKw cpos (keywordEach [] X.env)).all (λx=>x.1.isSome)
  && decide (([e]:k_).length+([]:m_).length+(if([]:m_).isEmpty then 0 else 1)<30))=true
 line:(apos.endLine==cpos.line)=true
 trees:backTo cpos (starEach [e] X.env)=[(false,eval e X.env)]
structure M2 (X:Cx) (o:Expr) (m:Str) (apos:Pos) (e f:Expr) (cpos:Pos):Prop where
 base:attributeBase o m X.env (eval o X.env)=eval o X.env
 few:((backTo cpos (starEach [e,f] X.env)).all (λx=>!x.1)&&(backToKw cpos (keywordEach [] X.env)).all (λx=>x.1.isSome)
  && decide (([e,f]:k_).length+([]:m_).length+(if([]:m_).isEmpty then 0 else 1)<30))=true
 line:(apos.endLine==cpos.line)=true
 trees:backTo cpos (starEach [e,f] X.env)=[(false,eval e X.env),(false,eval f X.env)]
section
variable {κ:Type}[DecidableEq κ]
def mS{kvs:List (κ×V)}{k:κ}(h:bQ kvs k=some v):k∈kvs.map (·.1):=by
 have q:(kvs.any λkv=>decide (kv.1=k))=true:=by
  rw[mP,h]
  all_goals rfl
 ext(⟨p,hp,e⟩:List.any_eq_true.mp q);show z8i.mpr ⟨p,hp,z6l e⟩
end
end L2
namespace VL
open PySem PySem.Spec PyProof.Rows L2
abbrev St:=L2.St
inductive D where
 |non|bl (b:Bool)|int (i:Int)|str (x:Str)|lst (xs:List D)|tup (xs:List D)
 |scr (ns:h_)
 |dct (fz:Bool) (kvs:List (Int×Int))
 |ptr (a:Nat)
abbrev _root_.D_:=List D
abbrev _root_.E_:=Option D
noncomputable def kN(kvs:List (Int×Int)):List (Key×V):=kvs.map λp=>(Sum.inl p.1,V.int p.2)
def DRd(H:Hp)(a:Addr)(fz:Bool)(kvs:List (Int×Int)):Prop:=(fz=true/\∃o,H a=some (.frz o (.dK (kN kvs))))\/(fz=false/\H a=some (.dK (kN kvs)))
def DRd.same{a:Addr}{kvs:List (Int×Int)}(e:Same H H')(h:DRd H a fz kvs):DRd H' a fz kvs:=by
 rcases h with⟨z,o,h⟩|⟨z,h⟩
 ·show .inl ⟨z,o,e _ _ h⟩
 ·show .inr ⟨z,e _ _ h⟩
def DRd.rd{a:Addr}{kvs:List (Int×Int)}(h:DRd H a fz kvs):Rd H a (.dK (kN kvs)):=by
 rcases h with⟨_,o,h⟩|⟨_,h⟩
 ·show .inr ⟨o,h⟩
 ·show .inl h
mutual
inductive Rep (K:K0) (H:Hp):V->D->Prop where
 |non:Rep K H V.non D.non
 |bl (b:Bool):Rep K H (V.bl b) (D.bl b)
 |int (i:Int):Rep K H (V.int i) (D.int i)
 |str (x:Str):Rep K H (V.str x) (D.str x)
 |lst {a:Addr} {xs:B_} {ds:D_}:Rd H a (.lst xs)->Reps K H xs ds->Rep K H (V.ref a) (D.lst ds)
 |tup {a:Addr} {xs:B_} {ds:D_}:H a=some (.tup xs)->Reps K H xs ds->Rep K H (V.ref a) (D.tup ds)
 |scr {a:Addr} {ns:h_}:SqL K H a (ns.map V.int)->Rep K H (V.ref a) (D.scr ns)
 |dct {a:Addr} {fz:Bool} {kvs:List (Int×Int)}:DRd H a fz kvs->Rep K H (V.ref a) (D.dct fz kvs)
 |ptr (a:Addr):Rep K H (V.ref a) (D.ptr a)
inductive Reps (K:K0) (H:Hp):B_->D_->Prop where
 |nil:Reps K H [] []
 |cons {v:V} {d:D} {vs:B_} {ds:D_}:Rep K H v d->Reps K H vs ds->Reps K H (v::vs) (d::ds)
end
def dG{a:Addr}{u:HO}(e:Same H H')(h:Rd H a u):Rd H' a u:=by
 ext((h|⟨o,h⟩):h)
 ·show .inl (e _ _ h)
 ·show .inr ⟨o,e _ _ h⟩
def eI{a:Addr}{u:HO}(h:H a=some u):Rd H a u:=.inl h
def gP{a:Addr}(h:Rd H a (.lst xs))(h':Rd H a (.lst ys)):xs=ys:=by ext((h|⟨o,h⟩):h)<;>ext((h' | ⟨o',h'⟩):h')<;>rw[h]at h'<;>ext h'<;>rfl
def kO{a:Addr}(h:Rd H a (.tup xs))(h':Rd H a (.tup ys)):xs=ys:=by ext((h|⟨o,h⟩):h)<;>ext((h' | ⟨o',h'⟩):h')<;>rw[h]at h'<;>ext h'<;>rfl
def wu{a:Addr}(h:Rd H a (.lst xs))(h':Rd H a (.tup ys)):False:=by ext((h|⟨o,h⟩):h)<;>ext((h' | ⟨o',h'⟩):h')<;>rw[h]at h'<;>ext h'
def aA(e:Same H H'){d:D}(h:Rep K H v d):Rep K H' v d:=
 Rep.rec (motive_1:=λv d _=>Rep K H' v d) (motive_2:=λvs ds _=>Reps K H' vs ds)
  .non (λb=>.bl b) (λi=>.int i) (λx=>.str x) (λh _ ih=>.lst (dG e h) ih) (λh _ ih=>.tup (e _ _ h) ih) (λh=>.scr (e.seq h)) (λh=>.dct (h.same e)) (λa=>.ptr a)
  .nil (λ_ _ ih1 ih2=>.cons ih1 ih2) h
def aT(e:Same H H'){ds:D_}(h:Reps K H vs ds):Reps K H' vs ds:=
 Reps.rec (motive_1:=λv d _=>Rep K H' v d) (motive_2:=λvs ds _=>Reps K H' vs ds)
  .non (λb=>.bl b) (λi=>.int i) (λx=>.str x) (λh _ ih=>.lst (dG e h) ih) (λh _ ih=>.tup (e _ _ h) ih) (λh=>.scr (e.seq h)) (λh=>.dct (h.same e)) (λa=>.ptr a)
  .nil (λ_ _ ih1 ih2=>.cons ih1 ih2) h
theorem Reps.length:∀{vs:B_} {ds:D_},Reps K H vs ds->vs.length=ds.length
 |[],_,h=>by ext h;rfl
 |_::vs,_,h=>by cases h with|cons _ t=>simp[Reps.length t]
theorem Reps.append:∀{vs ws:B_} {ds es:D_},Reps K H vs ds->Reps K H ws es->Reps K H (vs++ws) (ds++es)
 |[],_,_,_,h,h2=>by ext h;show h2
 |_::_,_,_,_,h,h2=>by cases h with|cons a t=>show .cons a (Reps.append t h2)
theorem Reps.get:∀{vs:B_} {ds:D_} {i:Nat} {d:D},Reps K H vs ds->ds[i]?=some d->∃v,vs[i]?=some v/\Rep K H v d
 |[],_,_,_,h,e=>by ext h;simp at e
 |_::_,_,0,_,h,e=>by cases h with|cons a t=>simp at e;subst e;show⟨_,rfl,a⟩
 | _::_,_,i+1,_,h,e=>by
   cases h with
   |cons a t=>ext(⟨v,e1,r⟩:Reps.get (i:=i) t (⇑e));show⟨v,⇑e1,r⟩
theorem Reps.getV:∀{vs:B_} {ds:D_} {i:Nat} {v:V},Reps K H vs ds->vs[i]?=some v->∃d,ds[i]?=some d/\Rep K H v d
 |[],_,_,_,h,e=>by simp at e
 |_::_,_,0,_,h,e=>by cases h with|cons a t=>simp at e;subst e;show⟨_,rfl,a⟩
 | _::_,_,i+1,_,h,e=>by
   cases h with
   |cons a t=>ext(⟨v,e1,r⟩:Reps.getV (i:=i) t (⇑e));show⟨v,⇑e1,r⟩
theorem Reps.take:∀{vs:B_} {ds:D_} (n:Nat),Reps K H vs ds->Reps K H (vs.take n) (ds.take n)
 |_,_,0,_=>⇑Reps.nil
 |[],_,n+1,h=>by ext h;simpa using Reps.nil
 |_::_,_,n+1,h=>by cases h with|cons a t=>show .cons a (Reps.take n t)
theorem Reps.drop:∀{vs:B_} {ds:D_} (n:Nat),Reps K H vs ds->Reps K H (vs.drop n) (ds.drop n)
 |_,_,0,h=>⇑h
 |[],_,n+1,h=>by ext h;simpa using Reps.nil
 |_::_,_,n+1,h=>by cases h with|cons a t=>show Reps.drop n t
theorem Reps.set{v:V}{d:D}(r:Rep K H v d):∀{vs:B_} {ds:D_} (i:Nat),Reps K H vs ds->Reps K H (vs.set i v) (ds.set i d)
 |[],_,_,h=>by ext h;simpa using Reps.nil
 |_::_,_,0,h=>by cases h with|cons a t=>show .cons r t
 |_::_,_,i+1,h=>by cases h with|cons a t=>show .cons a (Reps.set r i t)
theorem Reps.reverse:∀{vs:B_} {ds:D_},Reps K H vs ds->Reps K H vs.reverse ds.reverse
 |[],_,h=>by ext h;show .nil
 | _::_,_,h=>by
   cases h with
   |cons a t=>rw[z6j,z6j];show Reps.append (Reps.reverse t) (.cons a .nil)
theorem Reps.ints:∀ns:h_,Reps K H (ns.map V.int) (ns.map D.int)
 |[]=>.nil
 |n::ns=>.cons (.int n) (Reps.ints ns)
theorem Reps.rep{vs:B_}{ds:D_}(h:Reps K H vs ds):∀k:Nat,Reps K H (List.replicate k vs).flatten (List.replicate k ds).flatten
 |0=>.nil
 |k+1=>by rw[z7n,z7n,z6k,z6k];show h.append (Reps.rep h k)
noncomputable def az(H:Hp)(A:Addr->Prop):Hp:=λb=>@ite _ (A b) (Classical.propDecidable _) none (H b)
def DK{A:Addr->Prop}{b:Addr}(h:A b):az H A b=none:=by unfold az;rw[if_pos h]
def cb{A:Addr->Prop}{b:Addr}(h:¬A b):az H A b=H b:=by unfold az;rw[if_neg h]
def eJ{A:Addr->Prop}{b:Addr}(h:az H A b=some o):¬A b/\H b=some o:=by
 by_cases q:A b
 ·rw[DK q]at h;ext h
 ·rw[cb q]at h;show⟨q,h⟩
def aU(H:Hp)(A:Addr->Prop):Same (az H A) H:=λ_ _ h=>(eJ h).2
def cD{A B:Addr->Prop}(e:Same H H')(s:∀b,B b->A b):Same (az H A) (az H' B):=λb o h=>by ext(⟨n,h⟩:eJ h);rw[cb λq=>n (s b q)];show e b o h
def wv{A:Addr->Prop}(e:Same H H')(n:∀b,A b->H b=none):Same H (az H' A):=λb o h=>by rw[cb λq=>by rw[n b q]at h;ext h];show e b o h
abbrev fg:Addr->Prop:=λ_=>False
def jt(H:Hp):Same H (az H fg):=wv (λ_ _ h=>h) λ_ h=>h.elim
def bj{p:Addr}(h:H p=none)(o:HO):Same H (upd H p o):=λb u q=>by rw[aJ (bZ q h)];show q
def Dom(H:Hp)(A:Addr->Prop):Prop:=∀b,A b->H b≠none
def Dom.mono{A:Addr->Prop}(d:Dom H A)(e:Same H H'):Dom H' A:=λb h n=>d b h (e.free n)
def Dom.none(H:Hp):Dom H fg:=λ_ h=>h.elim
def Dom.not_new{A:Addr->Prop}(d:Dom H A)(h:H l=Option.none):¬A l:=λq=>d l q h
noncomputable def aV:D->Bool
 |.lst _=>false
 |.tup _=>false
 |.scr _=>false
 |.dct _ _=>false
 |.ptr _=>false
 |_=>true
def kP{d:D}(s:aV d=true)(h:Rep K H v d):Rep K H' v d:=by
 cases h with
 |non=>show .non
 |bl b=>show .bl b
 |int i=>show .int i
 |str x=>show .str x
 |lst _ _=>ext s
 |tup _ _=>ext s
 |scr _=>ext s
 |dct _=>ext s
 |ptr a=>ext s
abbrev ag:=List E_
abbrev FE:=ag->E_
inductive Es where
 |full (j:Nat)
 |el (j:Nat)
abbrev _root_.F_:=List Es
def EnvR(K:K0)(H:Hp)(σ:St)(ρ:ag):Prop:=∀(i:Nat) (d:D),ρ[i]?=some (some d)->∃v,σ[i]?=some (some v)/\Rep K H v d
def EnvR.mono{ρ:ag}(h:EnvR K H σ ρ)(e:Same H H'):EnvR K H' σ ρ:=λi d q=>by ext(⟨v,h1,h2⟩:h i d q);show⟨v,h1,aA e h2⟩
noncomputable def DL:D->Option Unit
 |.scr _=>some ()
 |.dct _ _=>some ()
 |.ptr _=>some ()
 |_=>none
def ElR(K:K0)(H:Hp)(A:Addr->Prop)(v:V)(d:D):Prop:=
 (aV d=true\/∃u,DL d=some u)\/∃p xs ds,v=V.ref p/\((d=.lst ds/\Rd H p (.lst xs))\/(d=.tup ds/\Rd H p (.tup xs)))/\Reps K (az H A) xs ds
def Av(K:K0)(H:Hp)(σ:St)(ρ:ag)(A:Addr->Prop):Es->Prop
 |.full j=>∀v d,σ[j]?=some (some v)->ρ[j]?=some (some d)->Rep K (az H A) v d
 |.el j=>∀v d,σ[j]?=some (some v)->ρ[j]?=some (some d)->ElR K H A v d
def cz{A:Addr->Prop}(e:Same H H'):Same (az H A) (az H' A):=cD e λ_ h=>h
def ElR.mono{A:Addr->Prop}{d:D}(e:Same H H')(h:ElR K H A v d):ElR K H' A v d:=by
 ext((h|⟨p,xs,ds,h1,h2,h3⟩):h)
 ·show .inl h
 ·show .inr ⟨p,xs,ds,h1,?_,aT (cz e) h3⟩
  rcases h2 with⟨h2,h4⟩|⟨h2,h4⟩
  ·show .inl ⟨h2,dG e h4⟩
  ·show .inr ⟨h2,dG e h4⟩
def Av.mono{ρ:ag}{A:Addr->Prop}{x:Es}(e:Same H H')(h:Av K H σ ρ A x):Av K H' σ ρ A x:=by
 cases x with
 |full j=>show λv d h1 h2=>aA (cz e) (h v d h1 h2)
 |el j=>show λv d h1 h2=>(h v d h1 h2).mono e
def Rep.el{A:Addr->Prop}{d:D}(h:Rep K (az H A) v d):ElR K H A v d:=by
 cases h with
 |non=>show .inl (.inl rfl)
 |bl b=>show .inl (.inl rfl)
 |int i=>show .inl (.inl rfl)
 |str x=>show .inl (.inl rfl)
 |lst h1 h2=>show .inr ⟨_,_,_,rfl,.inl ⟨rfl,dG (aU H A) h1⟩,h2⟩
 |tup h1 h2=>show .inr ⟨_,_,_,rfl,.inr ⟨rfl,dG (aU H A) (eI h1)⟩,h2⟩
 |scr h1=>show .inl (.inr ⟨_,rfl⟩)
 |dct h1=>show .inl (.inr ⟨_,rfl⟩)
 |ptr a=>show .inl (.inr ⟨_,rfl⟩)
structure Post (K:K0) (σ:St) (ρ:ag) (H:Hp) (es:F_) (d:D) (v:V) (H':Hp):Prop where
 same:Same H H'
 rep:Rep K H' v d
 av:∀A,Dom H A->(∀e∈es,Av K H σ ρ A e)->Rep K (az H' A) v d
structure PostF (K:K0) (σ:St) (ρ:ag) (H:Hp) (es:F_) (d:D) (v:V) (H':Hp):Prop where
 same:Same H H'
 new:∃l xs ds,v=V.ref l/\d=.lst ds/\H l=none/\H' l=some (.lst xs)/\∀A,Dom H A->(∀e∈es,Av K H σ ρ A e)->Reps K (az H' λb=>A b\/b=l) xs ds
def Av.none{ρ:ag}(hE:EnvR K H σ ρ)(e:Es):Av K H σ ρ fg e:=by
 have full:∀(j:Nat) (v:V) (d:D),σ[j]?=some (some v)->ρ[j]?=some (some d)->Rep K (az H fg) v d:=λj v d h1 h2=>by ext(⟨v',h3,h4⟩:hE j d h2);rw[h1]at h3;ext h3;show aA (jt H) h4
 cases e with
 |full j=>show full j
 |el j=>show λv d h1 h2=>(full j v d h1 h2).el
def PostF.post{ρ:ag}{es:F_}{d:D}(h:PostF K σ ρ H es d v H')(hE:EnvR K H σ ρ):Post K σ ρ H es d v H':=by
 ext(⟨l,xs,ds,rfl,rfl,hl,hl',h3⟩:h.new);have av:∀A,Dom H A->(∀e∈es,Av K H σ ρ A e)->Rep K (az H' A) (V.ref l) (.lst ds):=λA hA ha=>.lst (.inl (by rw[cb (hA.not_new hl)];show hl')) (aT (cD (λ_ _ q=>q) λb q=>.inl q) (h3 A hA ha))
 show⟨h.same,aA (aU H' _) (av fg (Dom.none H) λe _=>Av.none hE e),av⟩
def tv(K:K0)(f:FE)(es:F_):TE:=λσ H Q=>∃ρ d,EnvR K H σ ρ/\f ρ=some d/\∀v H',Post K σ ρ H es d v H'->Q v H'
def tvF(K:K0)(f:FE)(es:F_):TE:=λσ H Q=>∃ρ d,EnvR K H σ ρ/\f ρ=some d/\∀v H',PostF K σ ρ H es d v H'->Q v H'
def tvT(K:K0)(f:ag->A_):TT:=λσ H Q=>∃ρ b,EnvR K H σ ρ/\f ρ=some b/\∀H',Same H H'->Q b H'
abbrev FEs:=ag->Option D_
structure Posts (K:K0) (σ:St) (ρ:ag) (H:Hp) (es:F_) (ds:D_) (vs:B_) (H':Hp):Prop where
 same:Same H H'
 rep:Reps K H' vs ds
 av:∀A,Dom H A->(∀e∈es,Av K H σ ρ A e)->Reps K (az H' A) vs ds
def tvA(K:K0)(f:FEs)(es:F_):TA:=λσ H Q=>∃ρ ds,EnvR K H σ ρ/\f ρ=some ds/\∀vs H',Posts K σ ρ H es ds vs H'->Q vs H'
abbrev VE(X:Cx)(e:Expr)(f:FE)(es:F_):Prop:=PE X e (tv X.K f es)
structure JE (X:Cx) (e:Expr) (f:FE) (es:F_):Prop where
 h:VE X e f es
abbrev VF(X:Cx)(e:Expr)(f:FE)(es:F_):Prop:=PE X e (tvF X.K f es)
structure JF (X:Cx) (e:Expr) (f:FE) (es:F_):Prop where
 h:VF X e f es
abbrev VT(X:Cx)(e:Expr)(f:ag->A_):Prop:=PT X e (tvT X.K f)
structure JT (X:Cx) (e:Expr) (f:ag->A_):Prop where
 h:VT X e f
abbrev VW(X:Cx)(e:Expr)(f:ag->A_):Prop:=PW X e (tvT X.K f)
structure JW (X:Cx) (e:Expr) (f:ag->A_):Prop where
 h:VW X e f
abbrev VA(X:Cx)(e:k_)(f:FEs)(es:F_):Prop:=PA X e (tvA X.K f es)
structure JA (X:Cx) (e:k_) (f:FEs) (es:F_):Prop where
 h:VA X e f es
def cT{t':TE}(h:PE X e t)(i:∀σ H Q,t' σ H Q->t σ H Q):PE X e t':=λG_ s σ H Q I q=>h G_ s σ H Q I (i σ H Q q)
def mT{t t':TT}(h:PT X e t)(i:∀σ H Q,t' σ H Q->t σ H Q):PT X e t':=λG_ s σ H Q I q=>h G_ s σ H Q I (i σ H Q q)
def qJ{t t':TT}(h:PW X e t)(i:∀σ H Q,t' σ H Q->t σ H Q):PW X e t':=λw G_ s σ H Q I q=>h w G_ s σ H Q I (i σ H Q q)
def kQ{e:k_}{t t':TA}(h:PA X e t)(i:∀σ H Q,t' σ H Q->t σ H Q):PA X e t':=λpos G_ s σ H Q I q=>h pos G_ s σ H Q I (i σ H Q q)
def eK{f:FE}{es:F_}(h:PE X e t)(i:∀σ H Q ρ d,EnvR X.K H σ ρ->f ρ=some d->(∀v H',Post X.K σ ρ H es d v H'->Q v H')->t σ H Q):PE X e (tv X.K f es):=cT h λσ H Q z_=>by ext(⟨ρ,d,hE,hf,hQ⟩:z_);show i σ H Q ρ d hE hf hQ
def gQ{f:FE}{es:F_}(h:PE X e t)(i:∀σ H Q ρ d,EnvR X.K H σ ρ->f ρ=some d->(∀v H',PostF X.K σ ρ H es d v H'->Q v H')->t σ H Q):PE X e (tvF X.K f es):=cT h λσ H Q z_=>by ext(⟨ρ,d,hE,hf,hQ⟩:z_);show i σ H Q ρ d hE hf hQ
def qK{t:TT}{f:ag->A_}(h:PT X e t)(i:∀σ H Q ρ d,EnvR X.K H σ ρ->f ρ=some d->(∀H',Same H H'->Q d H')->t σ H Q):PT X e (tvT X.K f):=mT h λσ H Q z_=>by ext(⟨ρ,d,hE,hf,hQ⟩:z_);show i σ H Q ρ d hE hf hQ
section
variable {es ea eb ec:F_}{fa fb fc:FE}
def VF.ve{f:FE}(h:VF X a f es):VE X a f es:=eK h λσ H Q ρ d hE hf hQ=>⟨ρ,d,hE,hf,λv H' p=>hQ v H' (p.post hE)⟩
noncomputable def a5(i:Nat):FE:=λρ=>(ρ[i]?).getD none
def gR{ρ:ag}{d:D}(h:a5 i ρ=some d):ρ[i]?=some (some d):=by
 unfold a5 at h;cases e:ρ[i]? with
 |none=>rw[e]at h;ext h
 |some o=>rw[e]at h;erw[z7g]at h;rw[h]
def a6(i:Nat)(hN:X.N[i]?=some x<|>R0)(hv:Vis X.env.scope x<|>R3)(hd:DB x<|>R1)(hcd:(x==("__classdict__" : Str))=false<|>R1):JE X (.Name x pos) (a5 i) [.full i]:=⟨
 eK (gf hN hv hd hcd) λσ H Q ρ d hE hf hQ=>by have h:=gR hf;ext(⟨v,hv,r⟩:hE i d h);show⟨v,hv,hQ v H ⟨Same.refl H,r,λA _ av=>av (.full i) (z9l.mpr rfl) v d hv h⟩⟩⟩
noncomputable def eC(d:D):FE:=λ_=>some d
def ju{d:D}(h:PE X e (tC v))(r:∀H,Rep X.K H v d):VE X e (eC d) []:=
 eK h λσ H Q ρ d' hE hf hQ=>by ext hf;show hQ v H ⟨Same.refl H,r H,λA _ _=>r _⟩
def ae{i j pos}:JE X (.Constant (.int i) j pos) (eC (.int i)) []:=⟨ju uW λ_=>.int i⟩
def cY{i j pos}:JE X (.Constant (.bool i) j pos) (eC (.bl i)) []:=⟨ju BR λ_=>.bl i⟩
def kR{j pos}:VE X (.Constant .none j pos) (eC .non) []:=ju BS λ_=>.non
def ar{x j pos}:JE X (.Constant (.str x) j pos) (eC (.str x)) []:=⟨ju gJ λ_=>.str x⟩
def eM{i:Int}{t:Tok}(hm:X.mg x=some (.int i t))(hg:Gl X x<|>R0)(hd:DB x<|>R1):JE X (.Name x pos) (eC (.int i)) []:=⟨
 ju (qf (v:=.int i) hg hm ⟨t,rfl⟩ hd) λ_=>.int i⟩
noncomputable def e2(g:D->D->E_)(a b:FE):FE:=λρ=>(a ρ).bind λx=>(b ρ).bind λy=>g x y
noncomputable def e1(g:D->E_)(a:FE):FE:=λρ=>(a ρ).bind g
def bind_some{α β:Type}{o:Option α}{f:α->Option β}{b:β}(h:o.bind f=some b):∃a,o=some a/\f a=some b:=by
 cases o with
 |none=>ext h
 |some a=>show⟨a,rfl,h⟩
def Post.up{ρ:ag}{es:F_}{d:D}(h:Post K σ ρ H es d v H1)(e:Same H1 H2):Post K σ ρ H es d v H2:=
 ⟨h.same.trans e,aA e h.rep,λA hA ha=>aA (cz e) (h.av A hA ha)⟩
def Post.down{ρ:ag}{es:F_}{d:D}(h:Post K σ ρ H1 es d v H2)(e:Same H H1):Post K σ ρ H es d v H2:=
 ⟨e.trans h.same,h.rep,λA hA ha=>h.av A (hA.mono e) λx hx=>(ha x hx).mono e⟩
def OpV(K:K0)(r:R2)(g:D->D->E_):Prop:=
 ∀(x y:V) (H:Hp) (dx dy d:D) (Q:VK),Rep K H x dx->Rep K H y dy->g dx dy=some d ->
   (∀v H',Same H H'->Rep K H' v d->(∀A,Dom H A->Rep K (az H A) x dx->Rep K (az H A) y dy->Rep K (az H' A) v d)->Q v H')->r x y H Q
def UnV(K:K0)(r:V->Hp->VK->Prop)(g:D->E_):Prop:=
 ∀(x:V) (H:Hp) (dx d:D) (Q:VK),Rep K H x dx->g dx=some d ->
   (∀v H',Same H H'->Rep K H' v d->(∀A,Dom H A->Rep K (az H A) x dx->Rep K (az H' A) v d)->Q v H')->r x H Q
def mU{g:D->D->E_}(hr:OpV K r g)(h:tv K (e2 g fa fb) (ea++eb) σ H Q):tOp r (tv K fa ea) (tv K fb eb) σ H Q:=by
 ext(⟨ρ,d,hE,hf,hQ⟩:h);ext(⟨dx,h1,hf⟩:bind_some hf);ext(⟨dy,h2,hf⟩:bind_some hf);show⟨ρ,dx,hE,h1,λx H1 p1=>⟨ρ,dy,hE.mono p1.same,h2,λy H2 p2=>?_⟩⟩;have q1:=p1.up p2.same;have q2:=p2.down p1.same;show hr x y H2 dx dy d Q q1.rep q2.rep hf λv H' e r' av=>hQ v H' ⟨q1.same.trans e,r',λA hA ha=>?_⟩
 show av A (hA.mono q1.same) (q1.av A hA λz hz=>ha z (z8g _ hz)) (q2.av A hA λz hz=>ha z (z9q _ hz))
def DM{r:V->Hp->VK->Prop}{g:D->E_}(hr:UnV K r g)(h:tv K (e1 g fa) ea σ H Q):tUn r (tv K fa ea) σ H Q:=by ext(⟨ρ,d,hE,hf,hQ⟩:h);ext(⟨dx,h1,hf⟩:bind_some hf);show⟨ρ,dx,hE,h1,λx H1 p1=>?_⟩;show hr x H1 dx d Q p1.rep hf λv H' e r' av=>hQ v H' ⟨p1.same.trans e,r',λA hA ha=>av A (hA.mono p1.same) (p1.av A hA ha)⟩
def ww{op:Operator}{g:D->D->E_}(ho:OpR X (binaryOp op) r)(hr:OpV X.K r g)(ha:VE X a fa ea)(hb:VE X b fb eb):VE X (.BinOp a op b pos) (e2 g fa fb) (ea++eb):=
 cT (iA ho ha hb) λ_ _ _ h=>mU hr h
def jv{f:FE}(h:VE X a f es)(hs:∀ρ d,f ρ=some d->aV d=true):VE X a f []:=
 eK h λσ H Q ρ d hE hf hQ=>⟨ρ,d,hE,hf,λv H' p=>hQ v H' ⟨p.same,p.rep,λA _ _=>kP (hs ρ d hf) p.rep⟩⟩
def mV{g:D->D->E_}(h:∀x y d,g x y=some d->aV d=true)(fa fb:FE)(ρ:ag)(d:D)(e:e2 g fa fb ρ=some d):aV d=true:=by ext(⟨x,_,e⟩:bind_some e);ext(⟨y,_,e⟩:bind_some e);show h x y d e
def DN{g:D->E_}(h:∀x d,g x=some d->aV d=true)(fa:FE)(ρ:ag)(d:D)(e:e1 g fa ρ=some d):aV d=true:=by ext(⟨x,_,e⟩:bind_some e);show h x d e
noncomputable def gI(C:Int->Int->Prop)[∀i j,Decidable (C i j)](k:Int->Int->D):D->D->E_
 |.int i,.int j=>if C i j then some (k i j)else none
 |_,_=>none
def wx{C:Int->Int->Prop}[∀i j,Decidable (C i j)]{k:Int->Int->D}{x y d:D}(h:gI C k x y=some d):∃i j,x=.int i/\y=.int j/\C i j/\k i j=d:=by
 unfold gI at h;split at h
 ·split at h
  ·ext h;show⟨_,_,rfl,rfl,‹_›,rfl⟩
  ·ext h
 ·ext h
def kS{C:Int->Int->Prop}[∀i j,Decidable (C' i j)]{k:Int->Int->D}(K:K0)(hC:∀i j,C' i j->C i j)(hk:∀i j H,Rep K H (kv i j) (k i j)):OpV K (rI C kv) (gI C' k):=by intro x y H dx dy d Q rx ry hg hQ;ext(⟨i,j,rfl,rfl,c,rfl⟩:wx hg);ext rx;ext ry;show⟨i,j,rfl,rfl,hC i j c,hQ _ H (Same.refl H) (hk i j H) λA _ _ _=>hk i j _⟩
def kU[∀i j,Decidable (C' i j)]{k:Int->Int->D}(K:K0)(hk:∀i j H,Rep K H (kv i j) (k i j)):OpV K (rI0 kv) (gI C' k):=by intro x y H dx dy d Q rx ry hg hQ;ext(⟨i,j,rfl,rfl,c,rfl⟩:wx hg);ext rx;ext ry;show⟨i,j,rfl,rfl,hQ _ H (Same.refl H) (hk i j H) λA _ _ _=>hk i j _⟩
abbrev jw(_ _:Int):Prop:=True
def small(i:Int):Prop:=-18446744073709551616<i/\i<18446744073709551616
instance (i:Int):Decidable (small i):=inferInstanceAs (Decidable (_/\_))
def mid(i:Int):Prop:=i.natAbs.log2<4000
instance (i:Int):Decidable (mid i):=inferInstanceAs (Decidable (_<_))
def okMul(i j:Int):Prop:=small i\/small j\/(mid i/\mid j)
instance (i j:Int):Decidable (okMul i j):=inferInstanceAs (Decidable (_\/_))
def kW(_ j:Int):Prop:=0<j/\mid j
instance (i j:Int):Decidable (kW i j):=inferInstanceAs (Decidable (_/\_))
def mW(_ j:Int):Prop:=0<j
instance (i j:Int):Decidable (mW i j):=inferInstanceAs (Decidable (_<_))
def kX(i j:Int):Prop:=(0<=j/\j<=1000000)/\small i
instance (i j:Int):Decidable (kX i j):=inferInstanceAs (Decidable (_/\_))
def wy{i:Int}(h:mid i):Builtin.Int.intBits i<=4000:=by
 unfold Builtin.Int.intBits;split
 ·show z7r _
 ·show h
def okMul.ok{i j:Int}(h:okMul i j):IntMulOk i j:=by
 ext((h|h|⟨h1,h2⟩):h)
 ·show .of_left (intBits_le_64 h.1 h.2)
 ·show .of_right (intBits_le_64 h.1 h.2)
 ·show PyProof.Rows.mulOk_of_bits (wy h1) (wy h2) (by decide)
abbrev br:=gI jw λi j=>.int (i+j)
abbrev cZ:=gI jw λi j=>.int (i-j)
abbrev dm:=gI okMul λi j=>.int (i*j)
abbrev jx:=gI kW λi j=>.int (i / j)
abbrev eN:=gI mW λi j=>.int (i % j)
abbrev mX:=gI kX λi j=>.int (i ^ j.toNat)
def kY{C:Int->Int->Prop}[∀i j,Decidable (C i j)]{k:Int->Int->D}(hk:∀i j,aV (k i j)=true)(x y d:D)(h:gI C k x y=some d):aV d=true:=by
 unfold gI at h;split at h
 ·split at h
  ·ext h;show hk _ _
  ·ext h
 ·ext h
def wz:OpR X (binaryOp .Mult) (rI okMul λi j=>.int (i*j)):=opI λ_ _ _ _ _ _ _ hc q=>mul_int q hc.ok
def DO:OpR X (binaryOp .FloorDiv) (rI kW λi j=>.int (i / j)):=opI λi j _ _ _ _ _ hc q=>by have h1:(0:Int)<j:=hc.1;have h2:j.natAbs.log2<4000:=hc.2;show floordiv_int ∅ (by rw[Int.fdiv_eq_ediv_of_nonneg i ∅];show q) (.inl (PyProof.noPylong_of_log2 ∅))
def DP:OpR X (binaryOp .Pow) (rI kX λi j=>.int (i ^ j.toNat)):=opI λi j _ _ _ _ _ hc q=>by have h1:-18446744073709551616<i/\i<18446744073709551616:=hc.2;show pow_int_small hc.1.1 hc.1.2 ∅ q
def jz{op:Operator}{C:Int->Int->Prop}[∀i j,Decidable (C i j)]{k:Int->Int->D}(ho:OpR X (binaryOp op) r)(hr:OpV X.K r (gI C k))(hk:∀i j,aV (k i j)=true)(ha:VE X a fa ea)(hb:VE X b fb eb):
  VE X (.BinOp a op b pos) (e2 (gI C k) fa fb) []:=jv (ww ho hr ha hb) (mV (kY hk) fa fb)
def cM(ha:JE X a fa ea)(hb:JE X b fb eb):JE X (.BinOp a .Add b pos) (e2 br fa fb) []:=⟨have ha:=ha.h;have hb:=hb.h;jz vm (kU X.K λ_ _ _=>.int _) (λ_ _=>rfl) ha hb⟩
def gi(ha:JE X a fa ea)(hb:JE X b fb eb):JE X (.BinOp a .Sub b pos) (e2 cZ fa fb) []:=⟨have ha:=ha.h;have hb:=hb.h;jz vn (kU X.K λ_ _ _=>.int _) (λ_ _=>rfl) ha hb⟩
def fj(ha:JE X a fa ea)(hb:JE X b fb eb):JE X (.BinOp a .Mult b pos) (e2 dm fa fb) []:=⟨have ha:=ha.h;have hb:=hb.h;jz wz (kS X.K (λ_ _ h=>h) λ_ _ _=>.int _) (λ_ _=>rfl) ha hb⟩
def mY(ha:JE X a fa ea)(hb:JE X b fb eb):JE X (.BinOp a .FloorDiv b pos) (e2 jx fa fb) []:=⟨have ha:=ha.h;have hb:=hb.h;jz DO (kS X.K (λ_ _ h=>h) λ_ _ _=>.int _) (λ_ _=>rfl) ha hb⟩
def fK(ha:JE X a fa ea)(hb:JE X b fb eb):JE X (.BinOp a .Mod b pos) (e2 eN fa fb) []:=⟨have ha:=ha.h;have hb:=hb.h;jz Cm (kS X.K (λ_ _ h=>h) λ_ _ _=>.int _) (λ_ _=>rfl) ha hb⟩
def wA(ha:JE X a fa ea)(hb:JE X b fb eb):JE X (.BinOp a .Pow b pos) (e2 mX fa fb) []:=⟨have ha:=ha.h;have hb:=hb.h;jz DP (kS X.K (λ_ _ h=>h) λ_ _ _=>.int _) (λ_ _=>rfl) ha hb⟩
noncomputable def fk:D->E_
 |.int i=>some (.int (-i))
 |_=>none
def DQ(x d:D)(h:fk x=some d):aV d=true:=by
 ext x<;>erw[fk]at h<;>ext h
 rfl
def jA(ha:JE X a fa ea):JE X (.UnaryOp .USub a pos) (e1 fk fa) []:=⟨have ha:=ha.h;
 jv (es:=ea) (cT (Cl Cn ha) λ_ _ _ h=>DM (λx H dx d Q rx hg hQ=>by
  ext rx<;>erw[fk]at hg<;>ext hg
  show⟨_,rfl,hQ _ H (Same.refl H) (.int _) λA _ _=>.int _⟩) h) (DN DQ fa)⟩
abbrev ltI:=gI jw λi j=>.bl (decide (i<j))
abbrev leI:=gI jw λi j=>.bl (decide (i<=j))
abbrev gtI:=gI jw λi j=>.bl (decide (j<i))
abbrev geI:=gI jw λi j=>.bl (decide (j<=i))
def jB{g:D->D->E_}(ho:OpR X (compareOp op) r)(hr:OpV X.K r g)(ha:VE X a fa ea)(hb:VE X b fb eb)(hm:behindInMarks op b=false)(hs:∀x y d,g x y=some d->aV d=true):
  VE X (.Compare a [op] [b] pos) (e2 g fa fb) []:=jv (es:=ea++eb) (cT (vq ho ha hb hm) λ_ _ _ h=>mU hr h) (mV hs fa fb)
noncomputable def tru:D->A_
 |.bl b=>some b
 |.int i=>some (i != 0)
 |.non=>some false
 |.lst xs=>some (!xs.isEmpty)
 |.tup xs=>some (!xs.isEmpty)
 |.str _=>none
 |.scr ns=>some (!ns.isEmpty)
 |.dct _ _=>none
 |.ptr _=>none
noncomputable def eT(f:FE):ag->A_:=λρ=>(f ρ).bind λd=>match d with | .bl b=>some b|_=>none
def jC{g:D->D->E_}(ho:OpR X (compareOp op) r)(hr:OpV X.K r g)(ha:VE X a fa ea)(hb:VE X b fb eb)(hm:behindInMarks op b=false):VT X (.Compare a [op] [b] pos) (eT (e2 g fa fb)):=
 qK (qr ho ha hb hm) λσ H Q ρ b hE hf hQ=>by
  ext(⟨d,h1,h2⟩:bind_some hf);show mU hr ⟨ρ,d,hE,h1,λv H' p=>?_⟩;ext d<;>simp only at h2<;>ext h2
  cases p.rep;show⟨b,rfl,hQ H' p.same⟩
def gS[∀i j,Decidable (C' i j)]{k:Int->Int->Bool}(K:K0):OpV K (rI0 λi j=>.bl (k i j)) (gI C' λi j=>.bl (k i j)):=kU K λ_ _ _=>.bl _
def DR(ha:JE X a fa ea)(hb:JE X b fb eb):JE X (.Compare a [.LtE] [b] pos) (e2 leI fa fb) []:=⟨have ha:=ha.h;have hb:=hb.h;jB qp (gS X.K) ha hb (di _) (kY λ_ _=>rfl)⟩
def wB(ha:JE X a fa ea)(hb:JE X b fb eb):JE X (.Compare a [.Gt] [b] pos) (e2 gtI fa fb) []:=⟨have ha:=ha.h;have hb:=hb.h;jB qq (gS X.K) ha hb (di _) (kY λ_ _=>rfl)⟩
def DT(ha:JE X a fa ea)(hb:JE X b fb eb):JE X (.Compare a [.GtE] [b] pos) (e2 geI fa fb) []:=⟨have ha:=ha.h;have hb:=hb.h;jB Cp (gS X.K) ha hb (di _) (kY λ_ _=>rfl)⟩
def wC(ha:JE X a fa ea)(hb:JE X b fb eb):JT X (.Compare a [.Lt] [b] pos) (eT (e2 ltI fa fb)):=⟨have ha:=ha.h;have hb:=hb.h;jC Co (gS X.K) ha hb (di _)⟩
def wD(ha:JE X a fa ea)(hb:JE X b fb eb):JT X (.Compare a [.Gt] [b] pos) (eT (e2 gtI fa fb)):=⟨have ha:=ha.h;have hb:=hb.h;jC qq (gS X.K) ha hb (di _)⟩
noncomputable def e3c(g g':D->D->E_)(a b c:FE):FE:=λρ=>(a ρ).bind λx=>(b ρ).bind λy=>(g x y).bind λz=>match z with
 |.bl true=>(c ρ).bind λw=>g' y w
 |.bl false=>some (.bl false)
 |_=>none
def DU{g g':D->D->E_}(hr:OpV K r g)(hr':OpV K r' g')(hs:∀x y d,g' x y=some d->aV d=true)(h:tv K (e3c g g' fa fb fc) [] σ H Q):
  vt r r' (tv K fa ea) (tv K fb eb) (tv K fc ec) σ H Q:=by
 ext(⟨ρ,d,hE,hf,hQ⟩:h);ext(⟨dx,h1,hf⟩:bind_some hf);ext(⟨dy,h2,hf⟩:bind_some hf);ext(⟨dz,h3,hf⟩:bind_some hf);show⟨ρ,dx,hE,h1,λx H1 p1=>⟨ρ,dy,hE.mono p1.same,h2,λy H2 p2=>?_⟩⟩;have q1:=p1.up p2.same;have q2:=p2.down p1.same;show hr x y H2 dx dy dz _ q1.rep q2.rep h3 λv H3 e3 r3 _=>?_
 have e03:=q1.same.trans e3;cases dz with
 | bl k=>
   ext r3;show⟨k,rfl,?_⟩;cases k with
   |false=>ext hf;show eh (hQ _ H3 ⟨e03,.bl _,λA _ _=>.bl _⟩)
   |true=>ext(⟨dw,h4,hf⟩:bind_some hf);show eo ⟨ρ,dw,hE.mono e03,h4,λw H4 p4=>?_⟩;show hr' y w H4 dy dw d Q (aA (e3.trans p4.same) q2.rep) p4.rep hf λv' H' e r' _=>hQ v' H' ⟨(e03.trans p4.same).trans e,r',λA _ _=>kP (hs _ _ _ hf) r'⟩
 |_=>ext hf
def DV{g g':D->D->E_}(ho:OpR X (compareOp op) r)(ho':OpR X (compareOp op') r')(hr:OpV X.K r g)(hr':OpV X.K r' g')(hs:∀x y d,g' x y=some d->aV d=true)(ha:VE X a fa ea)(hb:VE X b fb eb)(hc:VE X c fc ec)(hm:lastMarks [op,op'] [b,c]=false<|>R6):VE X (.Compare a [op,op'] [b,c] pos) (e3c g g' fa fb fc) []:=
 cT (Ct ho ho' ha hb hc hm) λ_ _ _ h=>DU hr hr' hs h
def qL(ha:JE X a fa ea)(hb:JE X b fb eb)(hc:JE X c fc ec)(hm:lastMarks [.LtE,.LtE] [b,c]=false<|>R6):JE X (.Compare a [.LtE,.LtE] [b,c] pos) (e3c leI leI fa fb fc) []:=⟨have ha:=ha.h;have hb:=hb.h;have hc:=hc.h;DV qp qp (gS X.K) (gS X.K) (kY λ_ _=>rfl) ha hb hc hm⟩
def dP(f:FE):ag->A_:=λρ=>(f ρ).bind tru
def wE{d:D}{k:Bool}(r:Rep K H v d)(h:tru d=some k):qt K v H k:=by
 cases r with
 |non=>ext h;rfl
 |bl b=>ext h;rfl
 |int i=>ext h;rfl
 |str x=>ext h
 |lst h1 h2=>ext h;show .inl ⟨_,.inl h1,?_⟩;ext h2<;>rfl
 |tup h1 h2=>ext h;show .inr (.inl ⟨_,.inl (eI h1),?_⟩);ext h2<;>rfl
 |@scr a ns h1=>ext h;show .inl ⟨_,h1,by ext ns<;>rfl⟩
 |dct h1=>ext h
 |ptr a=>ext h
def fm{f:FE}(h:JE X a f es)(he:(∀whole,isTrue a X.env whole=(do let v <- whole;standAt a.pos;holding [v] (truthy v)))<|>R4):JT X a (dP f):=⟨have h:=h.h;
 qK (vA h he) λσ H Q ρ b hE hf hQ=>by ext(⟨d,h1,h2⟩:bind_some hf);show⟨ρ,d,hE,h1,λv H' p=>⟨b,wE p.rep h2,hQ H' p.same⟩⟩⟩
noncomputable def er(f g:ag->A_):ag->A_:=λρ=>(f ρ).bind λb=>if b=true then g ρ else some false
noncomputable def bOr(f g:ag->A_):ag->A_:=λρ=>(f ρ).bind λb=>if b=true then some true else g ρ
noncomputable def fo(f:ag->A_):ag->A_:=λρ=>(f ρ).map (!·)
variable {ta tb:ag->A_}{rest:k_}
def gj(ha:JT X a ta):JW X (.BoolOp .And [a] pos) ta:=⟨have ha:=ha.h;uZ ha⟩
def qM(ha:JT X a ta):JW X (.BoolOp .Or [a] pos) ta:=⟨have ha:=ha.h;v4 ha⟩
theorem gk(ha:JT X a ta)(hb:JW X (.BoolOp .And (b::rest) pos) tb):JW X (.BoolOp .And (a::b::rest) pos) (er ta tb):=⟨have ha:=ha.h;have hb:=hb.h;
 qJ (v5 ha hb) λσ H Q z_=>by
  ext(⟨ρ,b,hE,hf,hQ⟩:z_);ext(⟨k,h1,h2⟩:bind_some hf);show⟨ρ,k,hE,h1,λH1 e1=>?_⟩;cases k with
  |true=>show eo ⟨ρ,b,hE.mono e1,h2,λH2 e2=>hQ H2 (e1.trans e2)⟩
  |false=>ext h2;show eh (hQ H1 e1)⟩
theorem qN(ha:JT X a ta)(hb:JW X (.BoolOp .Or (b::rest) pos) tb):JW X (.BoolOp .Or (a::b::rest) pos) (bOr ta tb):=⟨have ha:=ha.h;have hb:=hb.h;
 qJ (v6 ha hb) λσ H Q z_=>by
  ext(⟨ρ,b,hE,hf,hQ⟩:z_);ext(⟨k,h1,h2⟩:bind_some hf);show⟨ρ,k,hE,h1,λH1 e1=>?_⟩;cases k with
  |false=>show eh ⟨ρ,b,hE.mono e1,h2,λH2 e2=>hQ H2 (e1.trans e2)⟩
  |true=>ext h2;show eo (hQ H1 e1)⟩
def eO(h:JW X a ta):JT X a ta:=⟨have h:=h.h;h.pt⟩
theorem iE(ha:JT X a ta):JT X (.UnaryOp .Not a pos) (fo ta):=⟨have ha:=ha.h;
 qK (v7 ha) λσ H Q ρ b hE hf hQ=>by
  unfold fo at hf;cases h1:ta ρ with
  |none=>rw[h1]at hf;ext hf
  |some k=>rw[h1]at hf;ext hf;show⟨ρ,k,hE,h1,hQ⟩⟩
noncomputable def dq(f g:FE):FE:=λρ=>(f ρ).bind λd=>match d with | .bl true=>g ρ | .bl false=>some (.bl false)|_=>none
noncomputable def kZ(f:FE):FE:=λρ=>(f ρ).bind λd=>match d with | .bl b=>some (.bl (!b))|_=>none
def gm{op}{f:FE}(h:JE X a f es):JE X (.BoolOp op [a] pos) f es:=⟨have h:=h.h;v8 h⟩
theorem eP(ha:JE X a fa ea)(hb:JE X (.BoolOp .And (b::rest) pos) fb eb):JE X (.BoolOp .And (a::b::rest) pos) (dq fa fb) eb:=⟨have ha:=ha.h;have hb:=hb.h;
 eK (v9 ha hb) λσ H Q ρ d hE hf hQ=>by
  ext(⟨k,h1,h2⟩:bind_some hf);show⟨ρ,k,hE,h1,λx H1 p1=>?_⟩;cases k with
  | bl b=>
    cases p1.rep;show⟨b,rfl,?_⟩;cases b with
    |true=>show eo ⟨ρ,d,hE.mono p1.same,h2,λv H2 p2=>hQ v H2 (p2.down p1.same)⟩
    |false=>ext h2;show eh (hQ _ H1 ⟨p1.same,.bl _,λA _ _=>.bl _⟩)
  |_=>ext h2⟩
theorem wF(ha:JE X a fa ea):JE X (.UnaryOp .Not a pos) (kZ fa) []:=⟨have ha:=ha.h;
 eK (BZ ha) λσ H Q ρ d hE hf hQ=>by
  ext(⟨k,h1,h2⟩:bind_some hf);show⟨ρ,k,hE,h1,λx H1 p1=>?_⟩;cases k with
  |bl b=>cases p1.rep;ext h2;show⟨b,rfl,hQ _ H1 ⟨p1.same,.bl _,λA _ _=>.bl _⟩⟩
  |_=>ext h2⟩
noncomputable def eIf(t:ag->A_)(f g:FE):FE:=λρ=>(t ρ).bind λb=>if b=true then f ρ else g ρ
theorem wG(hc:JT X c ta)(ha:JE X a fa ea)(hb:JE X b fb eb):JE X (.IfExp c a b pos) (eIf ta fa fb) (ea++eb):=⟨have hc:=hc.h;have ha:=ha.h;have hb:=hb.h;
 eK (va hc ha hb) λσ H Q ρ d hE hf hQ=>by
  ext(⟨k,h1,h2⟩:bind_some hf);show⟨ρ,k,hE,h1,λH1 e1=>?_⟩;have fin:∀{es':F_} {v H2},(∀z∈es',z∈ea++eb)->Post X.K σ ρ H1 es' d v H2->Q v H2:=λ{es' v H2} hs p2=>hQ v H2 ⟨e1.trans p2.same,p2.rep,λA hA hz=>p2.av A (hA.mono e1) λz q=>(hz z (hs z q)).mono e1⟩
  cases k with
  |true=>show eo ⟨ρ,d,hE.mono e1,h2,λv H2 p2=>fin (λz q=>z8g _ q) p2⟩
  |false=>show eh ⟨ρ,d,hE.mono e1,h2,λv H2 p2=>fin (λz q=>z9q _ q) p2⟩⟩
noncomputable def ak:FEs:=λ_=>some []
noncomputable def a8(f:FE)(g:FEs):FEs:=λρ=>(f ρ).bind λd=>(g ρ).bind λds=>some (d::ds)
def am:JA X [] ak []:=⟨kQ ca λσ H Q z_=>by ext(⟨ρ,ds,hE,hf,hQ⟩:z_);ext hf;show hQ [] H ⟨Same.refl H,.nil,λ_ _ _=>.nil⟩⟩
def a9{xs:k_}{fs:FEs}(ha:JE X a fa ea)(hr:JA X xs fs eb)(hs:SE a xs X<|>R0):JA X (a::xs) (a8 fa fs) (ea++eb):=⟨have ha:=ha.h;have hr:=hr.h;
 kQ (bS ha hr hs) λσ H Q z_=>by ext(⟨ρ,ds,hE,hf,hQ⟩:z_);ext(⟨d,h1,hf⟩:bind_some hf);ext(⟨dr,h2,hf⟩:bind_some hf);ext hf;show⟨ρ,d,hE,h1,λv H1 p1=>⟨ρ,dr,hE.mono p1.same,h2,λvs H2 p2=>hQ _ H2 ⟨p1.same.trans p2.same,.cons (aA p2.same p1.rep) p2.rep,λA hA hz=>?_⟩⟩⟩;show .cons (aA (cz p2.same) (p1.av A hA λz q=>hz z (z8g _ q))) (p2.av A (hA.mono p1.same) λz q=>(hz z (z9q _ q)).mono p1.same)⟩
noncomputable def b5(f:FEs):FE:=λρ=>(f ρ).bind λds=>if ds.length<=1000 then some (.lst ds)else none
noncomputable def wH(f:FEs):FE:=λρ=>(f ρ).bind λds=>if ds.length<=1000 then some (.tup ds)else none
def l4(h:n<=1000):n<=sizeLine:=z4p (Dp h)
def bC{α:Type}{c:Prop}[Decidable c]{a b:α}(h:(if c then some a else none)=some b):c/\a=b:=by
 by_cases q:c
 ·rw[if_pos q]at h;show⟨q,z7f h⟩
 ·rw[if_neg q]at h;ext h
def b9{xs:k_}{fs:FEs}(h:JA X xs fs es):JF X (.List xs pos) (b5 fs) es:=⟨have h:=h.h;
 gQ (mJ h) λσ H Q ρ d hE hf hQ=>by ext(⟨ds,h1,hf⟩:bind_some hf);ext(⟨hl,rfl⟩:bC hf);show⟨ρ,ds,hE,h1,λvs H1 p=>⟨by rw[p.rep.length];show l4 hl,λl hl1=>hQ _ _ ⟨p.same.trans (bj hl1 _),⟨l,vs,ds,rfl,rfl,p.same.free hl1,bi,λA hA hz=>?_⟩⟩⟩⟩;show aT (λb o q=>?_) (p.av A hA hz);ext(⟨n,q⟩:eJ q);have ne:b≠l:=bZ q hl1;rw[cb (λz=>z.elim n ne),aJ ne];show q⟩
def DW{xs:k_}{fs:FEs}{x1}(h:JA X xs fs es):JE X (.Tuple xs x1 pos) (wH fs) es:=⟨have h:=h.h;
 eK (vI h) λσ H Q ρ d hE hf hQ=>by ext(⟨ds,h1,hf⟩:bind_some hf);ext(⟨hl,rfl⟩:bC hf);show⟨ρ,ds,hE,h1,λvs H1 p=>⟨by rw[p.rep.length];show l4 hl,λl hl1=>hQ _ _ ⟨p.same.trans (bj hl1 _),.tup bi (aT (bj hl1 _) p.rep),λA hA hz=>?_⟩⟩⟩;have hA1:=hA.mono p.same;show .tup ?_ (aT (cz (bj hl1 _)) (p.av A hA hz));rw[cb (hA1.not_new hl1)];show bi⟩
end
structure PostB (K:K0) (σ:St) (ρ:ag) (H:Hp) (es:F_) (d:D) (v:V) (H':Hp):Prop where
 same:Same H H'
 rep:Rep K H' v d
 av:∀A,Dom H A->(∀e∈es,Av K H σ ρ A e)->ElR K H' A v d
def tvB(K:K0)(f:FE)(es:F_):TE:=λσ H Q=>∃ρ d,EnvR K H σ ρ/\f ρ=some d/\∀v H',PostB K σ ρ H es d v H'->Q v H'
abbrev VB(X:Cx)(e:Expr)(f:FE)(es:F_):Prop:=PE X e (tvB X.K f es)
structure JB (X:Cx) (e:Expr) (f:FE) (es:F_):Prop where
 h:VB X e f es
def wI{f:FE}{es:F_}(h:PE X e t)(i:∀σ H Q ρ d,EnvR X.K H σ ρ->f ρ=some d->(∀v H',PostB X.K σ ρ H es d v H'->Q v H')->t σ H Q):PE X e (tvB X.K f es):=cT h λσ H Q z_=>by ext(⟨ρ,d,hE,hf,hQ⟩:z_);show i σ H Q ρ d hE hf hQ
def PostB.up{ρ:ag}{es:F_}{d:D}(h:PostB K σ ρ H es d v H1)(e:Same H1 H2):PostB K σ ρ H es d v H2:=
 ⟨h.same.trans e,aA e h.rep,λA hA ha=>(h.av A hA ha).mono e⟩
def PostB.down{ρ:ag}{es:F_}{d:D}(h:PostB K σ ρ H1 es d v H2)(e:Same H H1):PostB K σ ρ H es d v H2:=
 ⟨e.trans h.same,h.rep,λA hA ha=>h.av A (hA.mono e) λx hx=>(ha x hx).mono e⟩
section
variable {es ea eb:F_}{fa fb:FE}
def d9(h:JE X a fa es):JB X a fa es:=⟨have h:=h.h;wI h λσ H Q ρ d hE hf hQ=>⟨ρ,d,hE,hf,λv H' p=>hQ v H' ⟨p.same,p.rep,λA hA ha=>(p.av A hA ha).el⟩⟩⟩
def aW(i:Nat)(hN:X.N[i]?=some x<|>R0)(hv:Vis X.env.scope x<|>R3)(hd:DB x<|>R1)(hcd:(x==("__classdict__" : Str))=false<|>R1):JB X (.Name x pos) (a5 i) [.el i]:=⟨
 wI (gf hN hv hd hcd) λσ H Q ρ d hE hf hQ=>by have h:=gR hf;ext(⟨v,hv,r⟩:hE i d h);show⟨v,hv,hQ v H ⟨Same.refl H,r,λA _ av=>av (.el i) (z9l.mpr rfl) v d hv h⟩⟩⟩
noncomputable def items:D->Option D_
 |.lst ds=>some ds
 |.tup ds=>some ds
 |.scr ns=>some (ns.map .int)
 |_=>none
def jD{d:D}{ds:D_}(r:Rep K H v d)(h:items d=some ds):∃p xs,v=V.ref p/\(SqL K H p xs\/SqT K H p xs)/\Reps K H xs ds/\∀A,ElR K H A v d->Reps K (az H A) xs ds:=by
 cases r with
 | @lst p xs ds' h1 h2=>
   ext h;show⟨p,xs,rfl,.inl (.inl h1),h2,λA e=>?_⟩;rcases e with(e|⟨_,e⟩)|⟨q,ys,es',e,⟨e1,e2⟩|⟨e1,e2⟩,e3⟩
   ·ext e
   ·ext e
   ·ext e;ext e1;rw[gP h1 e2];show e3
   ·ext e1
 | @tup p xs ds' h1 h2=>
   ext h;have h1:=eI h1;show⟨p,xs,rfl,.inr (.inl h1),h2,λA e=>?_⟩;rcases e with(e|⟨_,e⟩)|⟨q,ys,es',e,⟨e1,e2⟩|⟨e1,e2⟩,e3⟩
   ·ext e
   ·ext e
   ·ext e1
   ·ext e;ext e1;rw[kO h1 e2];show e3
 |@scr p ns h1=>ext h;show⟨p,_,rfl,.inl h1,Reps.ints ns,λA _=>Reps.ints ns⟩
 |_=>ext h
noncomputable def dt:D->Bool
 |.tup _=>true
 |_=>false
def fq{d:D}{ds:D_}(r:Rep K H v d)(h:items d=some ds)(n:dt d=false):∃p xs,v=V.ref p/\SqL K H p xs/\Reps K H xs ds/\∀A,ElR K H A v d->Reps K (az H A) xs ds:=by
 cases r with
 | @lst p xs ds' h1 h2=>
   ext h;show⟨p,xs,rfl,.inl h1,h2,λA e=>?_⟩;rcases e with(e|⟨_,e⟩)|⟨q,ys,es',e,⟨e1,e2⟩|⟨e1,e2⟩,e3⟩
   ·ext e
   ·ext e
   ·ext e;ext e1;rw[gP h1 e2];show e3
   ·ext e1
 |@scr p ns h1=>ext h;show⟨p,_,rfl,h1,Reps.ints ns,λA _=>Reps.ints ns⟩
 |tup _ _=>ext n
 |_=>ext h
def fL{ds:D_}(r:Rep K H v (.lst ds)):∃p xs,v=V.ref p/\Rd H p (.lst xs)/\Reps K H xs ds/\∀A,ElR K H A v (.lst ds)->Reps K (az H A) xs ds:=by
 cases r with
 | @lst p xs _ h1 h2=>
   show⟨p,xs,rfl,h1,h2,λA e=>?_⟩;rcases e with(e|⟨_,e⟩)|⟨q,ys,es',e,⟨e1,e2⟩|⟨e1,e2⟩,e3⟩
   ·ext e
   ·ext e
   ·ext e;ext e1;rw[gP h1 e2];show e3
   ·ext e1
def ixD:D->D->E_
 |x,.int i=>(items x).bind λds=>atI ds i
 |_,_=>none
def mZ{ds:D_}{i:Int}{d:D}(r:Reps K H xs ds)(h:atI ds i=some d):∃v,atI xs i=some v/\Rep K H v d:=by unfold atI at h ⊢;rw[r.length];ext(⟨j,h1,h2⟩:bind_some h);ext(⟨v,h3,h4⟩:r.get h2);show⟨v,by rw[h1];show h3,h4⟩
theorem bM(ha:JB X a fa ea)(hb:JE X b fb eb)(hs:jp b):JE X (.Subscript a b pos) (e2 ixD fa fb) ea:=⟨have ha:=ha.h;have hb:=hb.h;
 eK (kH (ix_list.or qB) ha hb hs) λσ H Q ρ d hE hf hQ=>by
  ext(⟨dx,h1,hf⟩:bind_some hf);ext(⟨dy,h2,hf⟩:bind_some hf);show⟨ρ,dx,hE,h1,λx H1 p1=>⟨ρ,dy,hE.mono p1.same,h2,λy H2 p2=>?_⟩⟩;have q1:=p1.up p2.same;cases dy with
  | int i=>
    cases p2.rep;ext(⟨ds,h3,h4⟩:bind_some hf);ext(⟨p,xs,rfl,hp,hx,hA⟩:jD q1.rep h3);ext(⟨v,h5,h6⟩:mZ hx h4);have fin:Q v H2:=hQ v H2 ⟨q1.same,h6,λA hD hz=>by ext(⟨v',h7,h8⟩:mZ (hA A (q1.av A hD hz)) h4);rw[h5]at h7;ext h7;show h8⟩
    ext((hp|hp):hp)
    ·show .inl ⟨p,xs,i,v,rfl,rfl,hp,h5,fin⟩
    ·show .inr ⟨p,xs,i,v,rfl,rfl,hp,h5,fin⟩
  |_=>ext hf⟩
def gT{ρ:ag}{es:F_}{ds:D_}(e:Same H H1)(hl:H1 l=none)(h:∀A,Dom H A->(∀z∈es,Av K H σ ρ A z)->Reps K (az H1 A) xs ds):PostF K σ ρ H es (.lst ds) (.ref l) (upd H1 l (.lst xs)):=by show⟨e.trans (bj hl _),⟨l,xs,ds,rfl,rfl,e.free hl,bi,λA hA hz=>?_⟩⟩;show aT (λb o q=>?_) (h A hA hz);ext(⟨n,q⟩:eJ q);have ne:b≠l:=bZ q hl;rw[cb (λz=>z.elim n ne),aJ ne];show q
def cU{α:Type}(xs:List α)(lo hi:v_):List α:=(xs.drop (HT.sIx xs.length 0 lo)).take (HT.sIx xs.length xs.length hi-HT.sIx xs.length 0 lo)
def qO{ds:D_}(r:Reps K H xs ds)(lo hi:v_):Reps K H (jo xs lo hi) (cU ds lo hi):=by unfold jo cU;rw[r.length];show(r.drop _).take _
abbrev FO:=ag->Option v_
def tvO(K:K0)(f:FO):TO:=λσ H Q=>∃ρ o,EnvR K H σ ρ/\f ρ=some o/\∀H',Same H H'->Q o H'
abbrev VO(X:Cx)(e:Option Expr)(f:FO):Prop:=PO X e (tvO X.K f)
structure JO (X:Cx) (e:Option Expr) (f:FO):Prop where
 h:VO X e f
def wJ{e:Option Expr}{t t':TO}(h:PO X e t)(i:∀σ H Q,t' σ H Q->t σ H Q):PO X e t':=λG_ s σ H Q I q=>h G_ s σ H Q I (i σ H Q q)
noncomputable def cE:FO:=λ_=>some none
noncomputable def ci(f:FE):FO:=λρ=>(f ρ).bind λd=>match d with | .int i=>some (some i)|_=>none
def da:JO X none cE:=⟨wJ mK λσ H Q z_=>by ext(⟨ρ,o,hE,hf,hQ⟩:z_);ext hf;show hQ H (Same.refl H)⟩
def cN(h:JE X a fa ea):JO X (some a) (ci fa):=⟨have h:=h.h;wJ (mL h) λσ H Q z_=>by
 ext(⟨ρ,o,hE,hf,hQ⟩:z_);ext(⟨d,h1,hf⟩:bind_some hf);show⟨ρ,d,hE,h1,λv H' p=>?_⟩;ext d<;>simp only at hf<;>ext hf
 cases p.rep;show⟨_,rfl,hQ H' p.same⟩⟩
def eSl(fa:FE)(lo hi:FO):FE:=λρ=>(fa ρ).bind λx=>(lo ρ).bind λl=>(hi ρ).bind λh=>if dt x=true then none else(items x).bind λds=>some (.lst (cU ds l h))
theorem n8{lo:Option Expr}{flo fhi:FO}(ha:JB X a fa ea)(hl:JO X lo flo)(hh:JO X hi fhi):JF X (.Subscript a (.Slice lo hi none p2) pos) (eSl fa flo fhi) ea:=⟨have ha:=ha.h;have hl:=hl.h;have hh:=hh.h;
 gQ (kG qC ha hl hh) λσ H Q ρ d hE hf hQ=>by
  ext(⟨dx,h1,hf⟩:bind_some hf);ext(⟨l,h2,hf⟩:bind_some hf);ext(⟨h,h3,hf⟩:bind_some hf);show⟨ρ,dx,hE,h1,λx H1 p1=>⟨ρ,l,hE.mono p1.same,h2,λH2 e2=>⟨ρ,h,hE.mono (p1.same.trans e2),h3,λH3 e3=>?_⟩⟩⟩;have q:=p1.up (e2.trans e3);cases ht:dt dx with
  |true=>rw[if_pos ht]at hf;ext hf
  |false=>rw[if_neg (by rw[ht];show z8l)]at hf;ext(⟨ds,h4,hf⟩:bind_some hf);ext hf;ext(⟨p,xs,rfl,hp,hx,hA⟩:fq q.rep h4 ht);show⟨p,xs,rfl,hp,λr hr=>hQ _ _ (gT q.same hr λA hD hz=>qO (hA A (q.av A hD hz)) l h)⟩⟩
def wK:R2:=λx y H Q=>∃l b xs zs,x=.ref l/\y=.ref b/\Rd H l (.lst xs)/\Rd H b (.lst zs)/\xs.length+zs.length<=sizeLine/\∀p,H p=none->Q (.ref p) (upd H p (.lst (xs++zs)))
def qP(I:Inv X G_ σ H s)(h:Rd H l (.lst xs)):xs.length<=sizeLine/\∃(its:j_) (n:Nat),Vals xs its/\xs.length=its.length/\s.heap.get? l=some {cls:=.type "list",data:=.seq its.toArray n}:=by ext(⟨z,its,n,r,e⟩:h.ok I.hok);show⟨z,its,n,r,r.length,e⟩
def qQ:OpR X (binaryOp .Add) wK:=by
 intro G_ s σ H x y v u Q I rx ry h;ext(⟨l,b,xs,zs,rfl,rfl,hH,hB,hz,q⟩:h);ext rx;ext ry;ext(⟨z,its,n,r,hl,e⟩:qP I hH);ext(⟨z2,its2,n2,r2,hl2,e2⟩:qP I hB);show PySem.P.add_list e e2 ?_ (by rw[z9t,z9t];ext);have ea:its.toArray++its2.toArray=(its++its2).toArray:=by simp
 rw[ea];show⟨.ref _,_,I.lnew (t':=s.toks) (r.append r2) (by rw[z9f];ext),rfl,q _ I.fresh⟩
noncomputable def c5:D->D->E_
 |.lst xs,.lst ys=>if xs.length+ys.length<=100000 then some (.lst (xs++ys))else none
 |_,_=>none
def cV(h:n<=100000):n<=sizeLine:=z7p h (by decide)
theorem ft(ha:JB X a fa ea)(hb:JB X b fb eb):JF X (.BinOp a .Add b pos) (e2 c5 fa fb) (ea++eb):=⟨have ha:=ha.h;have hb:=hb.h;
 gQ (iA qQ ha hb) λσ H Q ρ d hE hf hQ=>by
  ext(⟨dx,h1,hf⟩:bind_some hf);ext(⟨dy,h2,hf⟩:bind_some hf);show⟨ρ,dx,hE,h1,λx H1 p1=>⟨ρ,dy,hE.mono p1.same,h2,λy H2 p2=>?_⟩⟩;have q1:=p1.up p2.same;have q2:=p2.down p1.same;cases dx with
  | lst ds=>
    cases dy with
    |lst es'=>ext(⟨hl,rfl⟩:bC hf);ext(⟨p,xs,rfl,hp,hx,hA⟩:fL q1.rep);ext(⟨p',ys,rfl,hp',hy,hA'⟩:fL q2.rep);show⟨p,p',xs,ys,rfl,rfl,hp,hp',by rw[hx.length,hy.length];show cV hl,λr hr=>hQ _ _ (gT q1.same hr λA hD hz=>?_)⟩;show(hA A (q1.av A hD λz w=>hz z (z8g _ w))).append (hA' A (q2.av A hD λz w=>hz z (z9q _ w)))
    |_=>ext hf
  |_=>ext hf⟩
noncomputable def fM:D->D->E_
 |.lst xs,.int k=>if xs.length*k.toNat<=100000/\k<100000/\-100000<k then some (.lst (List.replicate k.toNat xs).flatten)else none
 |_,_=>none
theorem wL(ha:JF X a fa ea)(hb:JE X b fb eb):JF X (.BinOp a .Mult b pos) (e2 fM fa fb) ea:=⟨have ha:=ha.h;have hb:=hb.h;
 gQ (iA qE ha hb) λσ H Q ρ d hE hf hQ=>by
  ext(⟨dx,h1,hf⟩:bind_some hf);ext(⟨dy,h2,hf⟩:bind_some hf);show⟨ρ,dx,hE,h1,λx H1 p1=>⟨ρ,dy,hE.mono p1.same,h2,λy H2 p2=>?_⟩⟩;ext(⟨l,xs,ds,rfl,rfl,hl0,hl1,hA⟩:p1.new);cases dy with
  |int k=>cases p2.rep;ext(⟨⟨hl,hk1,hk2⟩,rfl⟩:bC hf);have hx:Reps X.K H1 xs ds:=aT (aU _ _) (hA fg (Dom.none H) λe _=>Av.none hE e);show⟨l,k,xs,rfl,rfl,p2.same _ _ hl1,by ext,by ext,by rw[hx.length];show cV hl,λr hr=>hQ _ _ (gT (p1.same.trans p2.same) hr λA hD hz=>?_)⟩;show(aT (cD p2.same λ_ q=>.inl q) (hA A hD hz)).rep k.toNat
  |_=>ext hf⟩
def bA:D->E_:=λd=>(items d).bind λds=>some (.int ds.length)
noncomputable def aB(g:D->E_):D_->E_
 |[x]=>g x
 |_=>none
noncomputable def dH(g:D->D->E_):D_->E_
 |[x,y]=>g x y
 |_=>none
noncomputable def eA(f:D_->E_)(as:FEs):FE:=λρ=>(as ρ).bind f
def fN(K:K0)(r:B_->Hp->VK->Prop)(g:D_->E_):Prop:=
 ∀(xs:B_) (H:Hp) (ds:D_) (d:D) (Q:VK),Reps K H xs ds->g ds=some d->(∀v,(∀H',Rep K H' v d)->Q v H)->r xs H Q
def jE{id:String}{r:B_->Hp->VK->Prop}{g:D_->E_}{xs:k_}{as:FEs}(hc:cX X (.builtin id) r)(hv:fN X.K r g)(hm:X.mg x=none)(hb:bootBuiltins x=some (.builtin id))(ha:VA X (a::xs) as es)(hg:Gl X x<|>R0)(hn:x ≠ "__name__"<|>R1)(hdb:DB x<|>R1)(he:SE a xs X<|>R0)(hpl:BT pos xs X<|>R0):
  VE X (.Call (.Name x p) (a::xs) [] pos) (eA g as) []:=
 eK (kF hc hg hm hb ha hn hdb he hpl) λσ H Q ρ d hE hf hQ=>by ext(⟨ds,h1,hf⟩:bind_some hf);show⟨ρ,ds,hE,h1,λvs H1 p=>hv vs H1 ds d Q p.rep hf λv hr=>hQ v H1 ⟨p.same,hr _,λA _ _=>hr _⟩⟩
def fO{d:D}(h:Reps K H vs [d]):∃v,vs=[v]/\Rep K H v d:=by
 cases h with
 |cons h1 h2=>ext h2;show⟨_,rfl,h1⟩
def qR{d e:D}(h:Reps K H vs [d,e]):∃v w,vs=[v,w]/\Rep K H v d/\Rep K H w e:=by
 cases h with
 | cons h1 h2=>
   cases h2 with
   |cons h3 h4=>ext h4;show⟨_,_,rfl,h1,h3⟩
def iF{g:D->E_}{ds:D_}{d:D}(h:aB g ds=some d):∃x,ds=[x]/\g x=some d:=by
 match ds,h with
 |[x],h=>show⟨x,rfl,h⟩
def qS{g:D->D->E_}{ds:D_}{d:D}(h:dH g ds=some d):∃x y,ds=[x,y]/\g x y=some d:=by
 match ds,h with
 |[x,y],h=>show⟨x,y,rfl,h⟩
def wM:fN X.K (λxs H Q=>∃p ys,xs=[.ref p]/\(SqL X.K H p ys\/SqT X.K H p ys)/\Q (.int ys.length) H) (aB bA):=by intro xs H ds d Q r hg hQ;ext(⟨x,rfl,hg1⟩:iF hg);ext(⟨v,rfl,r1⟩:fO r);ext(⟨es,h1,hg2⟩:bind_some hg1);ext hg2;ext(⟨p,ys,rfl,hp,hx,_⟩:jD r1 h1);show⟨p,ys,rfl,hp,hQ _ λH'=>by rw[hx.length];show .int _⟩
def cA{as:FEs}(ml:X.mg "len"=none)(ha:JA X [a] as es)(hg:Gl X "len"<|>R0)(he:SE a [] X<|>R0)(hpl:BT pos [] X<|>R0):
  JE X (.Call (.Name "len" p) [a] [] pos) (eA (aB bA) as) []:=⟨have ha:=ha.h;jE vV wM ml PySem.boot_len ha hg (by decide) (by decide) he hpl⟩
def qT:D->E_:=λd=>(items d).bind λds=>some (.lst ds)
def DX(ml:X.mg "list"=none)(ha:JB X a fa ea)(hg:Gl X "list"<|>R0)(he:SE a [] X<|>R0)(hpl:BT pos [] X<|>R0):
  JF X (.Call (.Name "list" p) [a] [] pos) (e1 qT fa) ea:=⟨have ha:=ha.h;
 gQ (iC vW hg ml (by decide +kernel) (bS ha ca he) (by decide) (by decide) he hpl) λσ H Q ρ d hE hf hQ=>by ext(⟨dx,h1,hf⟩:bind_some hf);ext(⟨ds,h2,hf⟩:bind_some hf);ext hf;show⟨ρ,dx,hE,h1,λx H1 p1=>?_⟩;ext(⟨p,xs,rfl,hp,hx,hA⟩:jD p1.rep h2);show⟨p,xs,rfl,hp,λl hl=>hQ _ _ (gT p1.same hl λA hD hz=>hA A (p1.av A hD hz))⟩⟩
noncomputable def iG:D_->Option h_
 |[]=>some []
 |.int i::r=>(iG r).map (i::·)
 |_::_=>none
theorem wN:∀{ds:D_} {ns:h_},iG ds=some ns->ds=ns.map D.int
 |[],ns,h=>by ext h;rfl
 | .int i::r,ns,h=>by
   erw[iG]at h;cases e:iG r with
   |none=>rw[e]at h;ext h
   |some ms=>rw[e]at h;ext h;rw[wN e];rfl
 |.non::_,_,h=>by ext h
 |.bl _::_,_,h=>by ext h
 |.str _::_,_,h=>by ext h
 |.lst _::_,_,h=>by ext h
 |.tup _::_,_,h=>by ext h
 |.scr _::_,_,h=>by ext h
theorem wO{K:K0}{H:Hp}:∀{ns:h_} {xs:B_},Reps K H xs (ns.map D.int)->xs=ns.map V.int
 |[],xs,h=>by ext h;rfl
 | n::ns,xs,h=>by
   cases h with
   |cons h1 h2=>ext h1;rw[wO h2];rfl
def wP(hc:X.calm=true):cX X (.builtin "sum") (λxs H Q=>∃(p:Addr) (ns:h_),xs=[.ref p]/\SqL X.K H p (ns.map V.int)/\Q (.int ns.sum) H):=by
 intro G_ s σ H xs us Q I r h;ext(⟨p,ns,rfl,hp,q⟩:h);ext(⟨u,rfl,ru⟩:eg r);ext ru;ext(⟨its,rv,pl,hz⟩:I.list hp);have hi:=CZ rv;ext(⟨ys,e⟩:hi.allInts.items);have hl:=pl.isList;rw[e]at hl;show sum_intListG (I.ok.hd hc) hl λh' tk t' hk=>?_
 have e2:preSum (numAt ys) ys.size=ns.sum:=by rw[preSum_eq,z8t (by simp),<- hi.numsOf];rw[show its=its.toArray.toList from rfl,e,nums_intItems]
 rw[e2];show⟨.int ns.sum,H,I.kept (t':=tk) hk,⟨_,rfl⟩,q⟩
def fu:D->E_:=λd=>if dt d=true then none else(items d).bind λds=>(iG ds).bind λns=>some (.int ns.sum)
def wQ:fN X.K (λxs H Q=>∃(p:Addr) (ns:h_),xs=[.ref p]/\SqL X.K H p (ns.map V.int)/\Q (.int ns.sum) H) (aB fu):=by
 intro xs H ds d Q r hg hQ;ext(⟨x,rfl,hg1⟩:iF hg);ext(⟨v,rfl,r1⟩:fO r);unfold fu at hg1;cases ht:dt x with
 |true=>rw[if_pos ht]at hg1;ext hg1
 |false=>rw[if_neg (by rw[ht];show z8l)]at hg1;ext(⟨es,h1,hg2⟩:bind_some hg1);ext(⟨ns,h2,hg3⟩:bind_some hg2);ext hg3;ext(⟨p,ys,rfl,hp,hx,_⟩:fq r1 h1 ht);rw[wN h2]at hx;rw[wO hx]at hp;show⟨p,ns,rfl,hp,hQ _ λH'=>.int _⟩
def qU{as:FEs}(hc:X.calm=true)(ml:X.mg "sum"=none)(ha:JA X [a] as es)(hg:Gl X "sum"<|>R0)(he:SE a [] X<|>R0)(hpl:BT pos [] X<|>R0):
  JE X (.Call (.Name "sum" p) [a] [] pos) (eA (aB fu) as) []:=⟨have ha:=ha.h;jE (wP hc) wQ ml PyProof.Rows.boot_sum ha hg (by decide) (by decide) he hpl⟩
noncomputable def fP:D->D->E_
 |.int i,.int j=>some (.int (if j > i then j else i))
 |_,_=>none
noncomputable def iH:D->D->E_
 |.int i,.int j=>some (.int (if j<i then j else i))
 |_,_=>none
def wS:fN X.K (λxs H Q=>∃i j,xs=[.int i,.int j]/\Q (.int (if j > i then j else i)) H) (dH fP):=by
 intro xs H ds d Q r hg hQ;ext(⟨x,y,rfl,hg1⟩:qS hg);ext(⟨v,w,rfl,r1,r2⟩:qR r);clear hg r;unfold fP at hg1;split at hg1
 ·ext hg1;ext r1;ext r2;show⟨_,_,rfl,hQ _ λH'=>.int _⟩
 ·ext hg1
def DY:fN X.K (λxs H Q=>∃i j,xs=[.int i,.int j]/\Q (.int (if j<i then j else i)) H) (dH iH):=by
 intro xs H ds d Q r hg hQ;ext(⟨x,y,rfl,hg1⟩:qS hg);ext(⟨v,w,rfl,r1,r2⟩:qR r);clear hg r;unfold iH at hg1;split at hg1
 ·ext hg1;ext r1;ext r2;show⟨_,_,rfl,hQ _ λH'=>.int _⟩
 ·ext hg1
def wU{as:FEs}(hc:X.calm=true)(ml:X.mg "max"=none)(ha:JA X [a,b] as es)(hg:Gl X "max"<|>R0)(he:SE a [b] X<|>R0)(hpl:BT pos [b] X<|>R0):
  JE X (.Call (.Name "max" p) [a,b] [] pos) (eA (dH fP) as) []:=⟨have ha:=ha.h;jE (vC hc) wS ml PyProof.Rows.boot_max ha hg (by decide) (by decide) he hpl⟩
def qV{as:FEs}(hc:X.calm=true)(ml:X.mg "min"=none)(ha:JA X [a,b] as es)(hg:Gl X "min"<|>R0)(he:SE a [b] X<|>R0)(hpl:BT pos [b] X<|>R0):
  JE X (.Call (.Name "min" p) [a,b] [] pos) (eA (dH iH) as) []:=⟨have ha:=ha.h;jE (Cw hc) DY ml PyProof.Rows.boot_min ha hg (by decide) (by decide) he hpl⟩
noncomputable def tyD:D->String
 |.non=>"NoneType" | .bl _=>"bool" | .int _=>"int" | .str _=>"str" | .lst _=>"list" | .tup _=>"tuple" | .scr _=>"list" | .dct _ _=>"dict" | .ptr _=>"list"
noncomputable def iI(T:String)(t:String):Bool:=t==T||(T=="int" && t=="bool")
end
inductive Out where
 |nx (ρ:ag)
 |rt (d:D)
 |bk (ρ:ag)
 |ct (ρ:ag)
abbrev FS:=ag->Option Out
def DZ(σ:St)(O:z9):Addr->Prop:=λa=>∃i∈O,σ[i]?=some (some (V.ref a))
structure Fr0 where
 H0:Hp
 PA:(Addr->Prop)->Prop
 n:Nat
 dom:∀A,PA A->Dom H0 A
 none:PA fg
structure Hd where
 P:Hp->Prop
 up:∀H H',Same H H'->P H->P H'
def HdOk(K:K0)(H:Hp)(p:Hd):Prop:=p.P H
def HdOk.mono{p:Hd}(e:Same H H')(h:HdOk K H p):HdOk K H' p:=p.up H H' e h
noncomputable def hdL(K:K0)(q:Addr)(xs:B_)(ds:D_):Hd:=⟨λH=>SqL K H q xs/\Reps K H xs ds,λ_ _ e h=>⟨e.seq h.1,aT e h.2⟩⟩
def hdD(q:Addr)(o:Obj)(kvs:List (Int×Int)):Hd:=⟨λH=>H q=some (.frz o (.dK (kN kvs))),λ_ _ e h=>e _ _ h⟩
def OwnC(K:K0)(H:Hp)(o:HO)(d:D):Prop:=(∃xs ds,o=.lst xs/\d=.lst ds/\Reps K H xs ds)\/∃kvs,o=.dK (kN kvs)/\d=.dct false kvs
def OwnC.mono{d:D}(e:Same H H')(h:OwnC K H o d):OwnC K H' o d:=by
 rcases h with⟨xs,ds,h1,h2,h3⟩|h
 ·show .inl ⟨xs,ds,h1,h2,aT e h3⟩
 ·show .inr h
def OwnC.rep{a:Addr}{d:D}(ha:H a=some o)(h:OwnC K H' o d)(e:Same H' H):Rep K H (.ref a) d:=by
 rcases h with⟨xs,ds,rfl,rfl,h3⟩|⟨kvs,rfl,rfl⟩
 ·show .lst (.inl ha) (aT e h3)
 ·show .dct (.inr ⟨rfl,ha⟩)
def OwnC.el{A:Addr->Prop}{a:Addr}{d:D}(ha:H a=some o)(h:OwnC K (az H A) o d):ElR K H A (.ref a) d:=by
 rcases h with⟨xs,ds,rfl,rfl,h3⟩|⟨kvs,rfl,rfl⟩
 ·show .inr ⟨a,xs,ds,rfl,.inl ⟨rfl,.inl ha⟩,h3⟩
 ·show .inl (.inr ⟨_,rfl⟩)
def Off(σ:St)(O:z9)(A:Addr->Prop):Addr->Prop:=λb=>DZ σ O b\/A b
structure EnvO (K:K0) (F:Fr0) (held:List Hd) (O:z9) (σ:St) (ρ:ag) (H:Hp):Prop where
 same:Same F.H0 H
 lσ:σ.length=F.n
 lρ:ρ.length=F.n
 val:∀i d,ρ[i]?=some (some d)->i∉O->∃v,σ[i]?=some (some v)/\∀A,F.PA A->Rep K (az H (Off σ O A)) v d
 hld:∀p∈held,∀A,F.PA A->HdOk K (az H (Off σ O A)) p
 own:∀i∈O,∃a o d,σ[i]?=some (some (V.ref a))/\ρ[i]?=some (some d)/\H a=some o/\F.H0 a=Option.none/\∀A,F.PA A->OwnC K (az H (Off σ O A)) o d
 inj:∀i∈O,∀j∈O,∀a,σ[i]?=some (some (V.ref a))->σ[j]?=some (some (V.ref a))->i=j
section
variable {F:Fr0}{held:List Hd}{ρ:ag}
theorem EnvO.envR(h:EnvO K F held O σ ρ H):EnvR K H σ ρ:=λi d e=>by
 by_cases hi:i∈O
 ·ext(⟨a,xs,ds,h1,h2,h3,_,h5⟩:h.own i hi)
  rw[h2]at e;ext e;show⟨_,h1,(h5 _ F.none).rep h3 (aU _ _)⟩
 ·ext(⟨v,h1,h2⟩:h.val i d e hi)
  show⟨v,h1,aA (aU _ _) (h2 _ F.none)⟩
def n9(hs:∀i∈O',i∈O){A:Addr->Prop}:∀b,Off σ O' A b->Off σ O A b:=λb h=>by
 rcases h with⟨i,hi,e⟩|h
 ·show .inl ⟨i,hs i hi,e⟩
 ·show .inr h
theorem EnvO.weaken(h:EnvO K F held O σ ρ H)(hs:∀i∈O',i∈O):EnvO K F held O' σ ρ H:=by
 have up:∀{A:Addr->Prop},Same (az H (Off σ O A)) (az H (Off σ O' A)):=cD (λ_ _ q=>q) (n9 hs);show⟨h.same,h.lσ,h.lρ,λi d e hi=>?_,λp hp A hA=>(h.hld p hp A hA).mono up,λi hi=>?_,λi hi j hj=>h.inj i (hs i hi) j (hs j hj)⟩
 ·by_cases hi':i∈O
  ·ext(⟨a,xs,ds,h1,h2,h3,h4,h5⟩:h.own i hi')
   rw[h2]at e;ext e;show⟨_,h1,λA hA=>(h5 A hA).rep ?_ up⟩;rw[cb]
   ·show h3
   ·rintro(⟨j,hj,ej⟩|q)
    ·show hi (h.inj i hi' j (hs j hj) a h1 ej▸hj)
    ·show F.dom A hA a q h4
  ·ext(⟨v,h1,h2⟩:h.val i d e hi')
   show⟨v,h1,λA hA=>aA up (h2 A hA)⟩
 ·ext(⟨a,xs,ds,h1,h2,h3,h4,h5⟩:h.own i (hs i hi))
  show⟨a,xs,ds,h1,h2,h3,h4,λA hA=>(h5 A hA).mono up⟩
def EnvO.up(h:EnvO K F held O σ ρ H)(e:Same H H'):EnvO K F held O σ ρ H':=
 ⟨h.same.trans e,h.lσ,h.lρ,λi d q hi=>let⟨v,h1,h2⟩:=h.val i d q hi;⟨v,h1,λA hA=>aA (cz e) (h2 A hA)⟩,λp hp A hA=>(h.hld p hp A hA).mono (cz e),
  λi hi=>let⟨a,xs,ds,h1,h2,h3,h4,h5⟩:=h.own i hi;⟨a,xs,ds,h1,h2,e _ _ h3,h4,λA hA=>(h5 A hA).mono (cz e)⟩,h.inj⟩
theorem EnvO.dom(h:EnvO K F held O σ ρ H){A:Addr->Prop}(hA:F.PA A):Dom H (Off σ O A):=λb q=>by
 rcases q with⟨i,hi,e⟩|q
 ·ext(⟨a,xs,ds,h1,h2,h3,_⟩:h.own i hi)
  rw[e]at h1;ext h1;rw[h3];show λz=>nomatch z
 ·show((F.dom A hA).mono h.same) b q
noncomputable def iJ(O:z9):Es->Bool
 |.full j=>!O.contains j
 |.el _=>true
theorem EnvO.av(h:EnvO K F held O σ ρ H){A:Addr->Prop}(hA:F.PA A){e:Es}(he:iJ O e=true):Av K H σ ρ (Off σ O A) e:=by
 have out:∀(j:Nat) (v:V) (d:D),j∉O->σ[j]?=some (some v)->ρ[j]?=some (some d)->Rep K (az H (Off σ O A)) v d:=λj v d hj h1 h2=>by ext(⟨v',h3,h4⟩:h.val j d h2 hj);rw[h1]at h3;ext h3;show h4 A hA
 cases e with
 |full j=>show λv d=>out j v d (by simpa [iJ]using he)
 | el j=>
   intro v d h1 h2;by_cases hj:j∈O
   ·ext(⟨a,xs,ds,h3,h4,h5,_,h6⟩:h.own j hj)
    rw[h1]at h3;ext h3;rw[h2]at h4;ext h4;show(h6 A hA).el h5
   ·show(out j v d hj h1 h2).el
def dI(O:z9)(es:F_):z9:=O.filter λi=>es.all (iJ [i])
def nc{es:F_}:∀i∈dI O es,i∈O:=λi h=>(z5c.mp h).1
def qW{es:F_}{e:Es}(he:e∈es):iJ (dI O es) e=true:=by
 cases e with
 |el j=>rfl
 |full j=>change(!(dI O es).contains j)=true;rw[z4f,Bool.eq_false_iff];intro q;have q':=List.contains_iff_mem.mp q;have:=z9u.mp (z5c.mp q').2 _ he;simp[iJ]at this
theorem EnvO.eval(h:EnvO K F held O σ ρ H){es:F_}{d:D}(p:Post K σ ρ H es d v H'):EnvO K F held (dI O es) σ ρ H'/\∀A,F.PA A->Rep K (az H' (Off σ (dI O es) A)) v d:=by have h1:=h.weaken (O':=dI O es) nc;show⟨h1.up p.same,λA hA=>p.av _ (h1.dom hA) λe he=>h1.av hA (qW he)⟩
def E2{v:C_}{A:Addr->Prop}(hi:i∉O)(b:Addr):Off (σ.set i v) O A b↔Off σ O A b:=by
 have:∀j∈O,(σ.set i v)[j]?=σ[j]?:=λj hj=>z9h (λ(e:i=j)=>hi (e▸hj))
 constructor
 ·rintro(⟨j,hj,e⟩|q)
  ·show .inl ⟨j,hj,by rw[this j hj]at e;show e⟩
  ·show .inr q
 ·rintro(⟨j,hj,e⟩|q)
  ·show .inl ⟨j,hj,by rw[this j hj];show e⟩
  ·show .inr q
theorem EnvO.set(h:EnvO K F held O σ ρ H){d:D}(hi:i∉O)(hv:∀A,F.PA A->Rep K (az H (Off σ O A)) v d):EnvO K F held O (σ.set i (some v)) (ρ.set i (some d)) H:=by
 have ne:∀{j:Nat},j∈O->i≠j:=λhj e=>hi (e▸hj)
 have up:∀{A:Addr->Prop},Same (az H (Off σ O A)) (az H (Off (σ.set i (some v)) O A)):=cD (λ_ _ q=>q) λb q=>(E2 hi b).mp q
 show⟨h.same,by rw[z8h];show h.lσ,by rw[z8h];show h.lρ,λj e q hj=>?_,λp hp A hA=>(h.hld p hp A hA).mono up,λj hj=>?_,λj hj k hk a e1 e2=>?_⟩
 ·by_cases e1:j=i
  ·subst e1
   have hl:j<ρ.length:=by
    have:=(z9e.mp q).1
    rwa [z8h]at this
   rw[z9s hl]at q;ext q;show⟨v,z9s (by rw[h.lσ,<- h.lρ];show hl),λA hA=>aA up (hv A hA)⟩
  ·rw[z9h (Ne.symm e1)]at q
   ext(⟨v',h1,h2⟩:h.val j e q hj);show⟨v',by rw[z9h (Ne.symm e1)];show h1,λA hA=>aA up (h2 A hA)⟩
 ·ext(⟨a,xs,ds,h1,h2,h3,h4,h5⟩:h.own j hj)
  show⟨a,xs,ds,by rw[z9h (ne hj)];show h1,by rw[z9h (ne hj)];show h2,h3,h4,λA hA=>(h5 A hA).mono up⟩
 ·rw[z9h (ne hj)]at e1
  rw[z9h (ne hk)]at e2;show h.inj j hj k hk a e1 e2
theorem EnvO.setF(h:EnvO K F held O σ ρ H){es:F_}{d:D}(p:PostF K σ ρ H es d v H')(hn:i<F.n)(hi:i∉O)(he:∀e∈es,iJ O e=true):EnvO K F held (i::O) (σ.set i (some v)) (ρ.set i (some d)) H':=by
 ext(⟨l,xs,ds,rfl,rfl,hl,hl',hr⟩:p.new);have ne:∀{j:Nat},j∈O->i≠j:=λhj e=>hi (e▸hj)
 have at_i:(σ.set i (some (V.ref l)))[i]?=some (some (V.ref l)):=z9s (by rw[h.lσ];show hn);have off:∀{A:Addr->Prop} (b:Addr),Off (σ.set i (some (V.ref l))) (i::O) A b↔(Off σ O A b\/b=l):=λ{A} b=>by
  constructor
  ·rintro(⟨j,hj,e⟩|q)
   ·ext((e1|hj):z9g.mp hj)
    ·subst e1;rw[at_i]at e;ext e;show .inr rfl
    ·rw[z9h (ne hj)]at e;show .inl (.inl ⟨j,hj,e⟩)
   ·show .inl (.inr q)
  ·rintro((⟨j,hj,e⟩|q)|rfl)
   ·show .inl ⟨j,z9d _ hj,by rw[z9h (ne hj)];show e⟩
   ·show .inr q
   ·show .inl ⟨i,z9b,at_i⟩
 have up:∀{A:Addr->Prop},Same (az H (Off σ O A)) (az H' (Off (σ.set i (some (V.ref l))) (i::O) A)):=λ{A} b o q=>by ext(⟨n,q⟩:eJ q);rw[cb λz=>((off b).mp z).elim n (bZ q hl)];show p.same b o q
 show⟨h.same.trans p.same,by rw[z8h];show h.lσ,by rw[z8h];show h.lρ,λj e q hj=>?_,λz hz A hA=>(h.hld z hz A hA).mono up,λj hj=>?_,λj hj k hk a e1 e2=>?_⟩
 ·have e1:j≠i:=λe=>hj (e▸z9b)
  rw[z9h (Ne.symm e1)]at q;ext(⟨v',h1,h2⟩:h.val j e q λz=>hj (z9d _ z))
  show⟨v',by rw[z9h (Ne.symm e1)];show h1,λA hA=>aA up (h2 A hA)⟩
 ·by_cases e1:j=i
  ·subst e1
   show⟨l,_,_,at_i,z9s (by rw[h.lρ];show hn),hl',h.same.free hl,λA hA=>.inl ⟨xs,ds,rfl,rfl,?_⟩⟩;show aT (cD (λ_ _ q=>q) λb q=>(off b).mp q) (hr _ (h.dom hA) λe q=>h.av hA (he e q))
  ·have hj:j∈O:=(z9g.mp hj).resolve_left e1
   ext(⟨a,ys,es',h1,h2,h3,h4,h5⟩:h.own j hj);show⟨a,ys,es',by rw[z9h (Ne.symm e1)];show h1,by rw[z9h (Ne.symm e1)];show h2,p.same _ _ h3,h4,λA hA=>(h5 A hA).mono up⟩
 ·have key:∀{m:Nat} {b:Addr},m∈O->(σ.set i (some (V.ref l)))[m]?=some (some (V.ref b))->b≠l:=λ{m b} hm e z=>by subst z;rw[z9h (ne hm)]at e;ext(⟨a',_,_,h1,_,h3,_⟩:h.own m hm);rw[e]at h1;ext h1;rw[hl]at h3;ext h3
  ext((e3|hj'):z9g.mp hj)<;>ext((e4|hk'):z9g.mp hk)
  ·rw[e3,e4]
  ·rw[e3,at_i]at e1;ext e1;show absurd rfl (key hk' e2)
  ·rw[e4,at_i]at e2;ext e2;show absurd rfl (key hj' e1)
  ·rw[z9h (ne hj')]at e1
   rw[z9h (ne hk')]at e2;show h.inj j hj' k hk' a e1 e2
theorem EnvO.putC(h:EnvO K F held O σ ρ H){a:Addr}{d':D}(hi:i∈O)(ha:σ[i]?=some (some (V.ref a)))(hr:∀A,F.PA A->OwnC K (az H (Off σ O A)) o' d'):
  EnvO K F held O σ (ρ.set i (some d')) (upd H a o'):=by
 ext(⟨a',xs,ds,h1,h2,h3,h4,h5⟩:h.own i hi);rw[ha]at h1;ext h1;have up:∀{A:Addr->Prop},Same (az H (Off σ O A)) (az (upd H a o') (Off σ O A)):=λ{A} b o q=>by
  ext(⟨n,q⟩:eJ q);have ne:b≠a:=λe=>n (.inl ⟨i,hi,e▸ha⟩)
  rw[cb n,aJ ne];show q
 have hl:i<ρ.length:=(z9e.mp h2).1;show⟨λb o q=>?_,h.lσ,by rw[z8h];show h.lρ,λj e q hj=>?_,λp hp A hA=>(h.hld p hp A hA).mono up,λj hj=>?_,h.inj⟩
 ·rw[aJ (bZ q h4)]
  show h.same b o q
 ·have e1:j≠i:=λe=>hj (e▸hi)
  rw[z9h (Ne.symm e1)]at q;ext(⟨v',k1,k2⟩:h.val j e q hj);show⟨v',k1,λA hA=>aA up (k2 A hA)⟩
 ·by_cases e1:j=i
  ·subst e1
   show⟨a,_,_,ha,z9s hl,bi,h4,λA hA=>(hr A hA).mono up⟩
  ·ext(⟨b,zs,es',k1,k2,k3,k4,k5⟩:h.own j hj)
   have ne:b≠a:=λe=>e1 (h.inj j hj i hi a (e▸k1) ha)
   show⟨b,zs,es',k1,by rw[z9h (Ne.symm e1)];show k2,by rw[aJ ne];show k3,k4,λA hA=>(k5 A hA).mono up⟩
theorem EnvO.put(h:EnvO K F held O σ ρ H){a:Addr}{es:D_}(hi:i∈O)(ha:σ[i]?=some (some (V.ref a)))(hr:∀A,F.PA A->Reps K (az H (Off σ O A)) ys es):
  EnvO K F held O σ (ρ.set i (some (.lst es))) (upd H a (.lst ys)):=h.putC hi ha λA hA=>.inl ⟨ys,es,rfl,rfl,hr A hA⟩
theorem EnvO.ownL(h:EnvO K F held O σ ρ H)(hi:i∈O){ds0:D_}(hd:ρ[i]?=some (some (.lst ds0))):∃a xs ds,σ[i]?=some (some (V.ref a))/\ρ[i]?=some (some (.lst ds))/\H a=some (.lst xs)/\F.H0 a=Option.none/\∀A,F.PA A->Reps K (az H (Off σ O A)) xs ds:=by
 ext(⟨a,o,d,h1,h2,h3,h4,h5⟩:h.own i hi);rw[hd]at h2;ext h2;rcases h5 _ F.none with⟨xs,ds,rfl,e,_⟩|⟨kvs,_,e⟩
 ·ext e
  show⟨a,xs,ds0,h1,hd,h3,h4,λA hA=>?_⟩;rcases h5 A hA with⟨xs',ds',e1,e2,h6⟩|⟨kvs,e1,_⟩
  ·ext e1;ext e2;show h6
  ·ext e1
 ·ext e
theorem EnvO.hold{p:Hd}(h:EnvO K F held O σ ρ H)(hv:∀A,F.PA A->HdOk K (az H (Off σ O A)) p):EnvO K F (p::held) O σ ρ H:=
 ⟨h.same,h.lσ,h.lρ,h.val,λq hq=>(z9g.mp hq).elim (λe=>e▸hv) (h.hld q),h.own,h.inj⟩
def EnvO.unhold{p:Hd}(h:EnvO K F (p::held) O σ ρ H):EnvO K F held O σ ρ H:=⟨h.same,h.lσ,h.lρ,h.val,λq hq=>h.hld q (z9d _ hq),h.own,h.inj⟩
end
structure Ret (K:K0) (F:Fr0) (fr:Bool) (d:D) (v:V) (H':Hp):Prop where
 same:Same F.H0 H'
 rep:∀A,F.PA A->Rep K (az H' A) v d
 new:fr=true->∃l xs ds,v=V.ref l/\d=.lst ds/\F.H0 l=none/\H' l=some (.lst xs)/\∀A,F.PA A->Reps K (az H' λb=>A b\/b=l) xs ds
def tsP(K:K0)(F:Fr0)(held:List Hd)(O' OL:z9)(fr:Bool)(De:Ends):Out->Prop
 |.nx ρ'=>∀σ' H',EnvO K F held O' σ' ρ' H'->De.nx σ' H'
 |.bk ρ'=>∀σ' H',EnvO K F held OL σ' ρ' H'->De.bk σ' H'
 |.ct ρ'=>∀σ' H',EnvO K F held OL σ' ρ' H'->De.ct σ' H'
 |.rt d=>∀v H',Ret K F fr d v H'->De.rt v H'
def ts(K:K0)(F:Fr0)(held:List Hd)(O O' OL:z9)(fr:Bool)(f:FS):TS:=λDe σ H=>∃ρ o,EnvO K F held O σ ρ H/\f ρ=some o/\tsP K F held O' OL fr De o
abbrev VS(X:Cx)(F:Fr0)(O:z9)(st:Stmt)(f:FS)(O' OL:z9)(fr:Bool):Prop:=∀held,PS X st (ts X.K F held O O' OL fr f)
structure JS (X:Cx) (F:Fr0) (O:z9) (st:Stmt) (f:FS) (O' OL:z9) (fr:Bool):Prop where
 h:VS X F O st f O' OL fr
abbrev VSs(X:Cx)(F:Fr0)(O:z9)(st:n_)(f:FS)(O' OL:z9)(fr:Bool):Prop:=∀held,PSs X st (ts X.K F held O O' OL fr f)
structure JSs (X:Cx) (F:Fr0) (O:z9) (st:n_) (f:FS) (O' OL:z9) (fr:Bool):Prop where
 h:VSs X F O st f O' OL fr
def dA{e:Stmt}{t t':TS}(h:PS X e t)(i:∀De σ H,t' De σ H->t De σ H):PS X e t':=λG_ s σ H De I q=>h G_ s σ H De I (i De σ H q)
def fv{e:n_}{t t':TS}(h:PSs X e t)(i:∀De σ H,t' De σ H->t De σ H):PSs X e t':=λG_ s σ H De I q=>h G_ s σ H De I (i De σ H q)
def iK{e:Stmt}{t:TS}{F:Fr0}{held:List Hd}{f:FS}(h:PS X e t)(i:∀De σ H ρ o,EnvO X.K F held O σ ρ H->f ρ=some o->tsP X.K F held O' OL fr De o->t De σ H):PS X e (ts X.K F held O O' OL fr f):=dA h λDe σ H z_=>by ext(⟨ρ,o,hE,hf,hQ⟩:z_);show i De σ H ρ o hE hf hQ
def qX{e:n_}{t:TS}{F:Fr0}{held:List Hd}{f:FS}(h:PSs X e t)(i:∀De σ H ρ o,EnvO X.K F held O σ ρ H->f ρ=some o->tsP X.K F held O' OL fr De o->t De σ H):PSs X e (ts X.K F held O O' OL fr f):=fv h λDe σ H z_=>by ext(⟨ρ,o,hE,hf,hQ⟩:z_);show i De σ H ρ o hE hf hQ
section
variable {F:Fr0}{f g:FS}{rest:n_}{fe:FE}{es:F_}
noncomputable def ng:FS:=λρ=>some (.nx ρ)
noncomputable def bE(f g:FS):FS:=λρ=>(f ρ).bind λo=>match o with
 |.nx ρ'=>g ρ'
 |.rt d=>some (.rt d)
 |.bk ρ'=>some (.bk ρ')
 |.ct ρ'=>some (.ct ρ')
def wV:JSs X F O [] ng O OL fr:=⟨λheld=>qX qg λDe σ H ρ o hE hf hQ=>by ext hf;show hQ σ H hE⟩
theorem cO(h1:JS X F O st f O1 OL fr)(h2:JSs X F O1 rest g O2 OL fr):JSs X F O (st::rest) (bE f g) O2 OL fr:=⟨have h1:=h1.h;have h2:=h2.h;λheld=>qX (jh (h1 held) (h2 held)) λDe σ H ρ o hE hf hQ=>by
 ext(⟨o1,h1,hf⟩:bind_some hf);show⟨ρ,o1,hE,h1,?_⟩;cases o1 with
 |nx ρ'=>show λσ' H' hE'=>⟨ρ',o,hE',hf,hQ⟩
 |rt d=>ext hf;show hQ
 |bk ρ'=>ext hf;show hQ
 |ct ρ'=>ext hf;show hQ⟩
def bF(h1:JS X F O st f O1 OL fr):JSs X F O [st] f O1 OL fr:=⟨have h1:=h1.h;λheld=>fv (kA (h1 held)) λDe σ H h=>h⟩
theorem l5(h:VSs X F O rest f O1 OL fr)(hs:∀i∈O',i∈O1):VSs X F O rest f O' OL fr:=λheld=>qX (h held) λDe σ H ρ o hE hf hQ=>⟨ρ,o,hE,hf,by
 cases o with
 |nx ρ'=>show λσ' H' hE'=>hQ σ' H' (hE'.weaken hs)
 |rt d=>show hQ
 |bk ρ'=>show hQ
 |ct ρ'=>show hQ⟩
noncomputable def sIf(t:ag->A_)(f g:FS):FS:=λρ=>(t ρ).bind λb=>if b=true then f ρ else g ρ
theorem wW{tc:ag->A_}{a b:n_}(hc:JT X c tc)(ha:JSs X F O a f O1 OL fr)(hb:JSs X F O b g O2 OL fr)(h1:(∀i∈O',i∈O1)<|>R1)(h2:(∀i∈O',i∈O2)<|>R1):JS X F O (.If c a b pos) (sIf tc f g) O' OL fr:=⟨have hc:=hc.h;have ha:=ha.h;have hb:=hb.h;λheld=>
 iK (qh hc (l5 ha h1 held) (l5 hb h2 held)) λDe σ H ρ o hE hf hQ=>by
  ext(⟨k,h1,hf⟩:bind_some hf);show⟨ρ,k,hE.envR,h1,λH1 e1=>?_⟩;cases k with
  |true=>show eo ⟨ρ,o,hE.up e1,hf,hQ⟩
  |false=>show eh ⟨ρ,o,hE.up e1,hf,hQ⟩⟩
noncomputable def bx(f:FE):FS:=λρ=>(f ρ).map .rt
def qY{f:FE}{ρ:ag}{o:Out}(h:bx f ρ=some o):∃d,f ρ=some d/\o=.rt d:=by
 unfold bx at h;cases e:f ρ with
 |none=>rw[e]at h;ext h
 |some d=>rw[e]at h;ext h;show⟨d,rfl,rfl⟩
def qZ{A:Addr->Prop}:Same (az H (Off σ O A)) (az H A):=cD (λ_ _ q=>q) λ_ q=>.inr q
def ce(he:JE X e fe es):JS X F O (.Return (some e) pos) (bx fe) O' OL false:=⟨have he:=he.h;λheld=>iK (gL he) λDe σ H ρ o hE hf hQ=>by ext(⟨d,h1,rfl⟩:qY hf);show⟨ρ,d,hE.envR,h1,λv H' p=>hQ v H' ?_⟩;ext(⟨hE',hr⟩:hE.eval p);show⟨hE'.same,λA hA=>aA qZ (hr A hA),λz=>nomatch z⟩⟩
def nh(he:JF X e fe es):JS X F O (.Return (some e) pos) (bx fe) O' OL fr:=⟨have he:=he.h;λheld=>iK (gL he) λDe σ H ρ o hE hf hQ=>by ext(⟨d,h1,rfl⟩:qY hf);show⟨ρ,d,hE.envR,h1,λv H' p=>hQ v H' ?_⟩;ext(⟨hE',hr⟩:hE.eval (p.post hE.envR));show⟨hE'.same,λA hA=>aA qZ (hr A hA),λ_=>?_⟩;ext(⟨l,xs,ds,e1,e2,hl,hl',hA⟩:p.new);have h1:=hE.weaken (O':=dI O es) nc;show⟨l,xs,ds,e1,e2,hE.same.free hl,hl',λA hPA=>aT (cD (λ_ _ q=>q) λb q=>q.elim (λz=>.inl (.inr z)) .inr) (hA _ (h1.dom hPA) λe he=>h1.av hPA (qW he))⟩⟩
noncomputable def eL(f:FE):FE:=λρ=>(f ρ).bind λd=>match d with
 |.lst ds=>some (.lst ds)
 |_=>none
def E3{f:FE}{ρ:ag}{d:D}(h:eL f ρ=some d):∃ds,d=.lst ds/\f ρ=some (.lst ds):=by
 ext(⟨x,h1,h2⟩:bind_some h);cases x with
 |lst ds=>ext h2;show⟨ds,rfl,h1⟩
 |_=>ext h2
theorem E4(i:Nat)(hi:i∈O<|>R1)(hN:X.N[i]?=some x<|>R0)(hv:Vis X.env.scope x<|>R3)(hd:DB x<|>R1)(hcd:(x==("__classdict__" : Str))=false<|>R1):JS X F O (.Return (some (.Name x p2)) pos) (bx (eL (a5 i))) O' OL fr:=⟨λheld=>iK (gL (gf hN hv hd hcd)) λDe σ H ρ o hE hf hQ=>by
 ext(⟨d,h1,rfl⟩:qY hf);ext(⟨ds0,e0,h10⟩:E3 h1);subst e0;have h2:=gR h10;ext(⟨a,xs,ds,k1,k2,k3,k4,k5⟩:hE.ownL hi h2);rw[k2]at h2;ext h2;show⟨_,k1,hQ _ H ⟨hE.same,λA hA=>?_,λ_=>⟨a,xs,_,rfl,rfl,k4,k3,λA hA=>?_⟩⟩⟩
 ·show .lst (.inl ?_) (aT qZ (k5 A hA))
  rw[cb λq=>F.dom A hA a q k4];show k3
 ·show aT (cD (λ_ _ q=>q) λb q=>q.elim .inr λz=>.inl ⟨i,hi,z▸k1⟩) (k5 A hA)⟩
noncomputable def c6(i:Nat)(f:FE):FS:=λρ=>(f ρ).map λd=>.nx (ρ.set i (some d))
def ni{f:FE}{ρ:ag}{o:Out}(h:c6 i f ρ=some o):∃d,f ρ=some d/\o=.nx (ρ.set i (some d)):=by
 unfold c6 at h;cases e:f ρ with
 |none=>rw[e]at h;ext h
 |some d=>rw[e]at h;ext h;show⟨d,rfl,rfl⟩
noncomputable def nj(O:z9)(i:Nat):z9:=O.filter λj=>j != i
def nk:∀j∈nj O i,j∈O:=λj h=>(z5c.mp h).1
def wX:i∉nj O i:=λh=>by simpa using(z5c.mp h).2
def gp(i:Nat)(hN:X.N.Nodup)(he:JE X e fe es)(hi:X.N[i]?=some x<|>R0)(hx:Loc X.env.scope x<|>R3)(hs:swapsWith e (some (.Name x p2)) pos.line X.env=pure false<|>R0)(hfn:X.fn x=true\/X.env.scope.names.lookup x=some .local<|>R3):JS X F O (.Assign [.Name x p2] e pos) (c6 i fe) (nj (dI O es) i) OL fr:=⟨have he:=he.h;λheld=>
 iK (ji hN hi hx he hs hfn) λDe σ H ρ o hE hf hQ=>by ext(⟨d,h1,rfl⟩:ni hf);show⟨ρ,d,hE.envR,h1,λv H' p=>hQ _ _ ?_⟩;ext(⟨hE',hr⟩:hE.eval p);show(hE'.weaken nk).set wX λA hA=>aA (cD (λ_ _ q=>q) (n9 nk)) (hr A hA)⟩
theorem iL(i:Nat)(hN:X.N.Nodup)(he:JF X e fe es)(hn:i<F.n)(hi:X.N[i]?=some x<|>R0)(hx:Loc X.env.scope x<|>R3)(hs:swapsWith e (some (.Name x p2)) pos.line X.env=pure false<|>R0)(hfn:X.fn x=true\/X.env.scope.names.lookup x=some .local<|>R3):JS X F O (.Assign [.Name x p2] e pos) (c6 i fe) (i::nj (dI O es) i) OL fr:=⟨have he:=he.h;λheld=>
 iK (ji hN hi hx he hs hfn) λDe σ H ρ o hE hf hQ=>by
  ext(⟨d,h1,rfl⟩:ni hf);show⟨ρ,d,hE.envR,h1,λv H' p=>hQ _ _ ?_⟩;show(hE.weaken λj hj=>nc j (nk j hj)).setF p hn wX λz hz=>?_
  have:=qW (O:=O) hz;cases z with
  |el j=>rfl
  |full j=>erw[iJ,z4f,List.contains_eq_mem,decide_eq_false_iff_not]at this ⊢;show λq=>this (nk j q)⟩
end
section
variable {F:Fr0}{f g:FS}{fe:FE}{es:F_}
def l6(i:Nat)(f:FE):FS:=λρ=>(a5 i ρ).bind λx=>match x with
 |.lst ds=>(f ρ).bind λd=>if ds.length<100000 then some (.nx (ρ.set i (some (.lst (ds++[d])))))else none
 |_=>none
theorem E5(i:Nat)(he:VE X e fe es)(hi:i∈dI O es)(hN:X.N[i]?=some x)(hv:Vis X.env.scope x<|>R3)(hd:DB x)(hcd:(x==("__classdict__" : Str))=false)(hbase:attributeBase (.Name x p2) "append" X.env (eval (.Name x p2) X.env)=eval (.Name x p2) X.env)(hfew:(((backTo cp (starEach [e] X.env)).all (λx=>!x.1)&&(backToKw cp (keywordEach [] X.env)).all (λx=>x.1.isSome)
   && decide (([e]:k_).length+([]:m_).length+(if([]:m_).isEmpty then 0 else 1)<30))=true)<|>R0)(hline:(ap.endLine==cp.line)=true<|>R0)(hs:SE e [] X<|>R0)(hplain:BT cp [] X<|>R0)(hsw:swapsWith (.Call (.Attribute (.Name x p2) "append" ap) [e] [] cp) none pos.line X.env=pure false<|>R0):
  VS X F O (.Expr (.Call (.Attribute (.Name x p2) "append" ap) [e] [] cp) pos) (l6 i fe) (dI O es) OL fr:=λheld=>
 iK (mE (jq z4e z5y z5z qD (gf hN hv hd hcd) (bS he ca hs) hbase hfew hline hs hplain) hsw) λDe σ H ρ o hE hf hQ=>by
  ext(⟨x,h1,hf⟩:bind_some hf);have h1:=gR h1;obtain⟨ds0,rfl⟩:∃ds0,x=.lst ds0:=by ext x<;>first|show⟨_,rfl⟩|ext hf
  ext(⟨a,xs,ds,k1,k2,k3,k4,k5⟩:hE.ownL (nc i hi) h1);rw[k2]at h1;ext h1;ext(⟨d,h2,hf⟩:bind_some hf);ext(⟨hl,rfl⟩:bC hf);show⟨_,k1,.inl ⟨rfl,xs,.inl (.inl k3)⟩,ρ,d,hE.envR,h2,λv H1 p=>?_⟩;ext(⟨hE1,hr⟩:hE.eval p);ext(⟨a',ys,ds',m1,m2,m3,m4,m5⟩:hE1.ownL hi k2);rw[k1]at m1;ext m1;rw[k2]at m2;ext m2;have e3:=p.same _ _ k3;have e4:xs=ys:=by rw[m3]at e3;ext e3;rfl
  subst e4;have len:=(m5 _ F.none).length;show⟨a,xs,v,rfl,rfl,m3,z9v (show xs.length<100000 by ext) (by decide),hQ σ _ ?_⟩;show hE1.put hi k1 λA hA=>(m5 A hA).append (.cons (hr A hA) .nil)
inductive Tgs (X:Cx):k_->z9->Prop where
 |nil:Tgs X [] []
 | cons {i:Nat} {x:Str} {p:Pos} {es:k_} {is:z9} (hi:X.N[i]?=some x) (hx:Loc X.env.scope x) (hf:X.fn x=true\/X.env.scope.names.lookup x=some .local) (t:Tgs X es is)
   (hs:(assignEach (.Name x p::es) X.env).map (·.2)=assign (.Name x p) X.env::(assignEach es X.env).map (·.2)):Tgs X (.Name x p::es) (i::is)
def l7:z9->TGs
 |[]=>vc
 |i::is=>vd (c9 i) (l7 is)
theorem Tgs.ok(hN:X.N.Nodup):∀{es:k_} {is:z9},Tgs X es is->PGs X es (l7 is)
 |_,_,.nil=>C9
 |_,_,.cons hi hx hf t hs=>Ca (gM hN hi hx hf) (Tgs.ok hN t) hs
def wY{ds:D_}(r:Rep K H v (.tup ds)):∃p xs,v=V.ref p/\Rd H p (.tup xs)/\Reps K H xs ds:=by
 cases r with
 |@tup p xs _ h1 h2=>show⟨p,xs,rfl,.inl h1,h2⟩
def E6{A:Addr->Prop}{p:Addr}{ds:D_}(h1:Rd H p (.tup xs))(r:Rep K (az H A) (.ref p) (.tup ds)):Reps K (az H A) xs ds:=by
 cases r with
 |tup h2 h3=>rw[kO h1 (dG (aU H A) (.inl h2))];show h3
def wZ{A:Addr->Prop}{p:Addr}{ds:D_}(h1:Rd H p (.lst xs))(r:Rep K (az H A) (.ref p) (.lst ds)):Reps K (az H A) xs ds:=by
 cases r with
 |lst h2 h3=>rw[gP h1 (dG (aU H A) h2)];show h3
noncomputable def bU(body:D->FS):D_->FS
 |[],ρ=>some (.nx ρ)
 | x::r,ρ=>(body x ρ).bind λo=>match o with
   |.nx ρ'=>bU body r ρ'
   |.ct ρ'=>bU body r ρ'
   |.bk ρ'=>some (.nx ρ')
   |.rt d=>some (.rt d)
theorem l8{body:D->FS}{x:D}{r:D_}{ρ:ag}:bU body (x::r) ρ=(body x ρ).bind λo=>match o with
  |.nx ρ'=>bU body r ρ'
  |.ct ρ'=>bU body r ρ'
  |.bk ρ'=>some (.nx ρ')
  |.rt d=>some (.rt d):=rfl
def r8{held held':List Hd}{d:D}{ds:D_}{o:Out}{ρ:ag}{body:D->FS}{N:St->Hp->Prop}{o1:Out}(h1:body d ρ=some o1)(hf:bU body (d::ds) ρ=some o)(hQ:tsP K F held OL OL' fr De o)(hh:∀σ ρ H,EnvO K F held' OL σ ρ H->EnvO K F held OL σ ρ H)(hN:∀σ' H' ρ',EnvO K F held' OL σ' ρ' H'->bU body ds ρ'=some o->N σ' H'):tsP K F held' OL OL fr {De with nx:=N,ct:=N,bk:=De.nx} o1:=by
 rw[l8,h1]at hf;cases o1 with
 |nx ρ'=>show λσ' H' hE'=>hN σ' H' ρ' hE' hf
 |ct ρ'=>show λσ' H' hE'=>hN σ' H' ρ' hE' hf
 |bk ρ'=>ext hf;show λσ' H' hE'=>hQ σ' H' (hh _ _ _ hE')
 |rt d'=>ext hf;show hQ
theorem xb{d:D}{ds:D_}(hr:∀A,F.PA A->Rep K (az H (Off σ O A)) v d)(hds:items d=some ds)(ht:dt d=false):
  ∃q xs,v=V.ref q/\∀A,F.PA A->HdOk K (az H (Off σ O A)) (hdL K q xs ds):=by
 have h0:=hr _ F.none;cases h0 with
 | @lst q xs ds' h1 h2=>
   ext hds;show⟨q,xs,rfl,λA hA=>?_⟩;cases hr A hA with
   |@lst _ ys _ h3 h4=>have e:=gP (dG (aU _ _) h1) (dG (aU _ _) h3);subst e;show⟨.inl h3,h4⟩
 | @scr q ns h1=>
   ext hds;show⟨q,ns.map V.int,rfl,λA hA=>?_⟩;cases hr A hA with
   |scr h3=>show⟨h3,Reps.ints ns⟩
 |tup _ _=>ext ht
 |_=>ext hds
def nq(t:Nat)(it:FE)(tb:FS):FS:=λρ=>(it ρ).bind λd=>if dt d=true then none else(items d).bind λds=>bU (λx ρ=>tb (ρ.set t (some x))) ds ρ
theorem E7(t:Nat){fi:FE}{ei:F_}{tb:FS}(Ol:z9)(hN:X.N.Nodup)(hc:X.calm=true)(hi:JE X iter fi ei)(hb:JSs X F Ol body tb O2 Ol fr)(h1:(∀i∈Ol,i∈dI O ei)<|>R1)(h2:(∀i∈Ol,i∈O2)<|>R1)(h3:t∉Ol<|>R1)(hp:PassesOwn (model X.prog X.w) X.A X.env X.xe<|>R7)(hxN:X.N[t]?=some x<|>R0)(hx:Loc X.env.scope x<|>R3)(hfn:X.fn x=true\/X.env.scope.names.lookup x=some .local<|>R3)(hs:(∀x,foldedSetIterable iter X.env x=pure x)<|>R4):JS X F O (.For (.Name x p2) iter body [] pos) (nq t fi tb) Ol OL fr:=⟨have hi:=hi.h;have hb:=hb.h;λheld=>by
 have hb':PSs X body (λDe σ H=>∃p:Hd,ts X.K F (p::held) Ol Ol Ol fr tb De σ H):=λG_ s σ H De I z_=>by ext(⟨p,h⟩:z_);show l5 hb h2 (p::held) G_ s σ H De I h
 show dA (jk hp hc (kC hi) (gM hN hxN hx hfn) hb' hs) λDe σ H h=>?_
 ext(⟨ρ,o,hE,hf,hQ⟩:h);ext(⟨d,hd,hf⟩:bind_some hf);cases ht:dt d with
 |true=>rw[if_pos ht]at hf;ext hf
 | false=>
   rw[if_neg (by rw[ht];show z8l)]at hf;ext(⟨ds,hds,hf⟩:bind_some hf);show⟨ρ,d,hE.envR,hd,λv H1 p=>?_⟩;ext(⟨hE1,hr⟩:hE.eval p);have hE2:=hE1.weaken h1;have hr2:∀A,F.PA A->Rep X.K (az H1 (Off σ Ol A)) v d:=λA hA=>aA (cD (λ_ _ q=>q) (n9 h1)) (hr A hA)
   ext(⟨q,xs,rfl,hq⟩:xb hr2 hds ht);have len:xs.length=ds.length:=(hq _ F.none).2.length;show⟨q,rfl,⟨xs,(aU _ _).seq (hq _ F.none).1⟩,?_⟩;show vi (K:=X.K) (a:=q) (xs:=xs) (g:=c9 t) (tb:=λDe σ H=>∃p:Hd,ts X.K F (p::held) Ol Ol Ol fr tb De σ H) (D:=De) (λi σ' H'=>∃ρ',EnvO X.K F (hdL X.K q xs ds::held) Ol σ' ρ' H'/\bU (λx ρ=>tb (ρ.set t (some x))) (ds.drop i) ρ'=some o) ⟨ρ,hE2.hold hq,⇑hf⟩ ?_ ?_ ?_
   ·rintro i σ' H' _ ⟨ρ',hE',_⟩
    show(aU _ _).seq (hE'.hld _ z9b _ F.none).1
   ·rintro i y σ' H' hy ⟨ρ',hE',hf'⟩
    ext(⟨dy,h4,_⟩:(hE'.hld _ z9b _ F.none).2.getV hy);have h5:∀A,F.PA A->Rep X.K (az H' (Off σ' Ol A)) y dy:=λA hA=>by ext(⟨dy',h6,h7⟩:(hE'.hld _ z9b A hA).2.getV hy);rw[h4]at h6;ext h6;show h7
    have hi':i<ds.length:=(z9e.mp h4).1;have ed:ds.drop i=dy::ds.drop (i+1):=by rw[z8k hi'];have e2:ds[i]=dy:=(z9e.mp h4).2;rw[e2]
    rw[ed]at hf';have hf2:=hf';rw[l8]at hf2;ext(⟨o1,h8,_⟩:bind_some hf2);show⟨hdL X.K q xs ds,ρ'.set t (some dy),o1,hE'.set h3 h5,h8,?_⟩;show r8 h8 hf' hQ (λ_ _ _ z=>z.unhold) λσ'' H'' ρ'' hE'' hf''=>⟨ρ'',hE'',hf''⟩
   ·rintro σ' H' ⟨ρ',hE',hf'⟩
    rw[len,z6q]at hf';ext hf';show hQ σ' H' hE'.unhold⟩
noncomputable def db(lo:Int)(n:Nat):D_:=(List.range n).map λ(k:Nat)=>.int (lo+k)
def E8(h:i<n):(db lo n).drop i=.int (lo+i)::(db lo n).drop (i+1):=by
 have hl:i<(db lo n).length:=by simpa [db]using h
 rw[z8k hl];simp[db]
def okR(j:Int):Prop:=-4611686018427387904<=j/\j<4611686018427387904
instance (j:Int):Decidable (okR j):=inferInstanceAs (Decidable (_/\_))
def l9(t:Nat)(as:FEs)(tb:FS):FS:=λρ=>(as ρ).bind λds=>match ds with
 |[.int j]=>if okR j then bU (λx ρ=>tb (ρ.set t (some x))) (db 0 j.toNat) ρ else none
 |_=>none
def E9{held:List Hd}{o:Out}{ρ:ag}{t:Nat}{Ol:z9}{tb:FS}(hE:EnvO K F held Ol σ ρ H)(h3:t∉Ol)(hf:bU (λx ρ=>tb (ρ.set t (some x))) (db lo n) ρ=some o)(hQ:tsP K F held Ol OL' fr De o):
  ∃W:Nat->Nat->St->Hp->Prop,(∃m,W 0 m σ H)/\∀i m σ H,W i m σ H ->
    ((Itr lo n).stop i H/\De.nx σ H)\/((Itr lo n).go i H/\∃N:St->Hp->Prop,(∀σ' H',N σ' H'->∃m',m'<m/\W (i+1) m' σ' H')/\∀x H',(Itr lo n).yld i H x H'->c9 t x σ H' λσ2 H2=>ts K F held Ol Ol Ol fr tb {De with nx:=N,ct:=N,bk:=De.nx} σ2 H2):=by
 show vj (lo:=lo) (n:=n) (g:=c9 t) (tb:=ts K F held Ol Ol Ol fr tb) (D:=De) (λi σ' H'=>∃ρ',EnvO K F held Ol σ' ρ' H'/\bU (λx ρ=>tb (ρ.set t (some x))) ((db lo n).drop i) ρ'=some o) ⟨ρ,hE,⇑hf⟩ ?_ ?_
 ·rintro i σ' H' hi ⟨ρ',hE',hf'⟩
  rw[E8 hi]at hf';have hf2:=hf';rw[l8]at hf2;ext(⟨o1,h8,_⟩:bind_some hf2);show⟨ρ'.set t (some (.int (lo+i))),o1,hE'.set h3 λA hA=>.int _,h8,?_⟩;show r8 h8 hf' hQ (λ_ _ _ z=>z) λσ'' H'' ρ'' hE'' hf''=>⟨ρ'',hE'',hf''⟩
 ·rintro σ' H' ⟨ρ',hE',hf'⟩
  rw[z7s (by simp[db])]at hf';ext hf';show hQ σ' H' hE'
def EnvO.evals{held:List Hd}{ρ:ag}(h:EnvO K F held O σ ρ H){ds:D_}(p:Posts K σ ρ H es ds vs H'):EnvO K F held O σ ρ H':=h.up p.same
theorem xc(t:Nat){as:FEs}{ei:F_}{tb:FS}(Ol:z9)(hN:X.N.Nodup)(hc:X.calm=true)(mr:X.mg "range"=none)(hi:JA X [a] as ei)(hb:JSs X F Ol body tb O2 Ol fr)(h1:(∀i∈Ol,i∈O)<|>R1)(h2:(∀i∈Ol,i∈O2)<|>R1)(h3:t∉Ol<|>R1)(hp:PassesOwn (model X.prog X.w) X.A X.env X.xe<|>R7)(hg:Gl X "range"<|>R0)(hst:starEach [a] X.env=[(false,eval a X.env)]<|>R0)(hxN:X.N[t]?=some x<|>R0)(hx:Loc X.env.scope x<|>R3)(hfn:X.fn x=true\/X.env.scope.names.lookup x=some .local<|>R3)(hs:(∀x,foldedSetIterable (.Call (.Name "range" pn) [a] [] pr) X.env x=pure x)<|>R4):JS X F O (.For (.Name x p2) (.Call (.Name "range" pn) [a] [] pr) body [] pos) (l9 t as tb) Ol OL fr:=⟨have hi:=hi.h;have hb:=hb.h;λheld=>by
 show dA (jk hp hc (mF hg mr hi hst) (gM hN hxN hx hfn) (l5 hb h2 held) hs) λDe σ H h=>?_
 ext(⟨ρ,o,hE,hf,hQ⟩:h);ext(⟨ds,hd,hf⟩:bind_some hf);show⟨ρ,ds,hE.envR,hd,λvs H1 p=>?_⟩;have hE1:=(hE.evals p).weaken h1
 match ds,hf,p with
 | [.int j],hf,p=>
   by_cases hj:okR j
   ·erw[if_pos hj]at hf
    ext(⟨v,rfl,r⟩:fO p.rep);ext r;show⟨j,rfl,hj.1,hj.2,E9 hE1 h3 hf hQ⟩
   ·erw[if_neg hj]at hf
    ext hf⟩
end
structure RetC (K:K0) (H:Hp) (vs:B_) (ds:D_) (fr:Bool) (d:D) (v:V) (H':Hp):Prop where
 same:Same H H'
 rep:∀A,Dom H A->Reps K (az H A) vs ds->Rep K (az H' A) v d
 new:fr=true->∃l xs es,v=V.ref l/\d=.lst es/\H l=none/\H' l=some (.lst xs)/\∀A,Dom H A->Reps K (az H A) vs ds->Reps K (az H' λb=>A b\/b=l) xs es
def spF(K:K0)(G:D_->E_)(fr:Bool):Sp:=λvs H Q _=>∃ds d,Reps K H vs ds/\G ds=some d/\∀v H',RetC K H vs ds fr d v H'->Q v H'
noncomputable def mkF(fr:Bool)(np n:Nat)(body:FS):D_->E_:=λds=>if ds.length=np then(body (ds.map some++List.replicate (n-np) none)).bind λo=>match o with
 |.rt d=>some d
 |.nx _=>if fr=true then none else some .non
 |_=>none
 else none
theorem Ea{k:Nat}{body:FS}(Fn:Fun K x qual st f fd)(S:FnScope N ps (aN st))(h:∀(cdv:Value) (A:Around) (outer:List PySem.Env) (s:Shared) (H:Hp) (E:XK) (F:Fr0),F.n=N.length->Room k (A.deeper (envOfC qual (aN st) s.heap.objs.size f cdv)) ->
   VSs (c4 CX0 P w K mg base N qual (aN st) f cdv A outer s H E).nox F [] (cy st) body O' OL fr):
  FnOk P w K mg base CX0 (k+1) f fd ps (spF K (mkF fr ps.length N.length body) fr):=by
 have hpl:ps.length<=N.length:=by have:=z7d List.length S.pre;rw[z8f]at this;ext
 show Fn.ok S (λvs H Q E h=>?_) (λcdv A outer s H vs Q E hr h'=>?_)
 ·ext(⟨ds,d,r,hg,_⟩:h)
  unfold mkF at hg;by_cases hl:ds.length=ps.length
  ·rw[r.length,hl]
  ·rw[if_neg hl]at hg;ext hg
 ·ext(⟨ds,d,r,hg,hQ⟩:h')
  unfold mkF at hg;by_cases hl:ds.length=ps.length
  ·rw[if_pos hl]at hg
   ext(⟨o,ho,hg⟩:bind_some hg);let F:Fr0:=⟨H,λA=>Dom H A/\Reps K (az H A) vs ds,N.length,λA h=>h.1,⟨Dom.none H,aT (jt H) r⟩⟩;show⟨_,h cdv A outer s H E F rfl hr [],ds.map some++List.replicate (N.length-ps.length) none,o,?_,ho,?_⟩
   ·have lv:=r.length
    have get:∀(i:Nat) (d:D),(ds.map some++List.replicate (N.length-ps.length) none)[i]?=some (some d)->ds[i]?=some d:=λi d q=>by
     by_cases hi:i<ds.length
     ·rw[z8c (⇑hi),z9x]at q
      cases e:ds[i]? with
      |none=>rw[e]at q;ext q
      |some z=>rw[e]at q;simpa using q
     ·rw[z9z (⇑hi),z7j]at q
      split at q<;>ext q
    show⟨Same.refl H,?_,?_,λi d q _=>?_,λp hp=>absurd hp (by simp),λi hi=>absurd hi (by simp),λi hi=>absurd hi (by simp)⟩
    ·change(L2.start N vs).length=N.length
     unfold L2.start;rw[z9f,z9a,z9y];ext
    ·change _=N.length
     rw[z9f,z9a,z9y];ext
    ·have h1:=get i d q
     ext(⟨v,h2,_⟩:r.get h1);show⟨v,?_,λA hA=>?_⟩
     ·unfold L2.start
      have hi:i<vs.length:=(z9e.mp h2).1;rw[z8c (⇑hi),z9x,h2];rfl
     ·ext(⟨v',h3,h4⟩:hA.2.get h1)
      rw[h2]at h3;ext h3;show aA (cD (λ_ _ z=>z) λb z=>z.elim (λz_=>by ext(⟨_,hj,_⟩:z_);show absurd hj (by simp)) id) h4
   ·cases o with
    |rt d'=>ext hg;show λv H' rt=>hQ v H' ⟨rt.same,λA hA hr=>rt.rep A ⟨hA,hr⟩,λe=>let⟨l,xs,es,e1,e2,e3,e4,e5⟩:=rt.new e;⟨l,xs,es,e1,e2,e3,e4,λA hA hr=>e5 A ⟨hA,hr⟩⟩⟩
    | nx ρ'=>
      cases fr with
      |true=>ext hg
      |false=>ext hg;show λσ' H' hE=>hQ _ H' ⟨hE.same,λA hA hr=>.non,λe=>nomatch e⟩
    |_=>ext hg
  ·rw[if_neg hl]at hg;ext hg
section
variable {k:Nat}{G:D_->E_}{as:FEs}{es:F_}
def Eb(Gk:FnOk X.prog X.w X.K X.mg X.base CX0 k f fd ps (spF X.K G fr))(hr:Room k X.A)(hm:X.mg x=some (.ref f))(hk:W.keepIn X.K (.ref f)=true)(hb:Binds X.K fd ps [])(ha:VA X (e::es') as es)(hg:Gl X x<|>R0)(hdb:DB x<|>R1)(he:SE e es' X<|>R0)(hpl:BT pos es' X<|>R0):
  VE X (.Call (.Name x p) (e::es') [] pos) (eA G as) es:=
 eK (gN Gk hr hg hm hk hb .nil ff ha hdb he hpl) λσ H Q ρ d hE hf hQ=>by ext(⟨ds,h1,hf⟩:bind_some hf);show⟨ρ,ds,hE,h1,λvs H1 p=>?_⟩;change spF X.K G fr (vs++[]) H1 Q E0;rw[z8w];show⟨ds,d,p.rep,hf,λv H' r=>hQ v H' ⟨p.same.trans r.same,aA (aU _ _) (r.rep fg (Dom.none _) (aT (jt _) p.rep)),λA hA hz=>r.rep A (hA.mono p.same) (p.av A hA hz)⟩⟩
def Ec(Gk:FnOk X.prog X.w X.K X.mg X.base CX0 k f fd ps (spF X.K G true))(hr:Room k X.A)(hm:X.mg x=some (.ref f))(hk:W.keepIn X.K (.ref f)=true)(hb:Binds X.K fd ps [])(ha:VA X (e::es') as es)(hg:Gl X x<|>R0)(hdb:DB x<|>R1)(he:SE e es' X<|>R0)(hpl:BT pos es' X<|>R0):
  VF X (.Call (.Name x p) (e::es') [] pos) (eA G as) es:=
 gQ (gN Gk hr hg hm hk hb .nil ff ha hdb he hpl) λσ H Q ρ d hE hf hQ=>by ext(⟨ds,h1,hf⟩:bind_some hf);show⟨ρ,ds,hE,h1,λvs H1 p=>?_⟩;change spF X.K G true (vs++[]) H1 Q E0;rw[z8w];show⟨ds,d,p.rep,hf,λv H' r=>hQ v H' ⟨p.same.trans r.same,?_⟩⟩;ext(⟨l,xs,es,e1,e2,e3,e4,e5⟩:r.new rfl);show⟨l,xs,es,e1,e2,p.same.free e3,e4,λA hA hz=>e5 A (hA.mono p.same) (p.av A hA hz)⟩
end
theorem rb(env:PySem.Env):∀(names:List (Str×NameKind)) (acc:List (Str×Addr)),(∀x∈names,x.2=.free->∃c,env.cells.lookup x.1=some c) ->
  ∃cl,(forIn names acc λx r=>(if(x.2==NameKind.free)=true then(do let c <- cellOf env x.1;pure (ForInStep.yield ((x.1,c)::r)))else pure (ForInStep.yield r):Sem (ForInStep (List (Str×Addr)))))=pure cl /\
    (∀x c,cl.lookup x=some c->acc.lookup x=some c\/env.cells.lookup x=some c)/\(∀x,(∃c,acc.lookup x=some c)->∃c,cl.lookup x=some c)/\(∀x∈names,x.2=.free->∃c,cl.lookup x.1=some c)
 |[],acc,_=>⟨acc,rfl,λ_ _ h=>.inl h,λ_ h=>h,λ_ h=>nomatch h⟩
 | (n, k)::r,acc,h=>by
   have hr:∀x∈r,x.2=.free->∃c,env.cells.lookup x.1=some c:=λx hx=>h x (z9d _ hx)
   by_cases hk:k=.free
   ·subst hk
    ext(⟨c,hc⟩:h (n,.free) z9b rfl);ext(⟨cl,e,h1,h2,h3⟩:rb env r ((n,c)::acc) hr);show⟨cl,?_,λx c' hx=>?_,λx ⟨c',hx⟩=>?_,λx hx hf=>?_⟩
    ·rw[List.forIn_cons]
     have e1:cellOf env n=pure c:=by unfold cellOf;rw[hc]
     erw[z6y,z3c,e1,pure_bind];show e
    ·ext((q|q):h1 x c' hx)
     ·rw[z8z]at q
      cases hxn:x==n with
      | true=>
        rw[hxn]at q;have e2:x=n:=⇑hxn
        ext q;rw[e2];show .inr hc
      |false=>rw[hxn]at q;show .inl q
     ·show .inr q
    ·show h2 x ?_
     rw[z8z];cases x==n with
     |true=>show⟨_,rfl⟩
     |false=>show⟨c',hx⟩
    ·ext((q|q):z9g.mp hx)
     ·subst q
      show h2 n ⟨c,?_⟩;rw[z8z];simp
     ·show h3 x q hf
   ·ext(⟨cl,e,h1,h2,h3⟩:rb env r acc hr)
    show⟨cl,?_,h1,h2,λx hx hf=>?_⟩
    ·rw[List.forIn_cons]
     have e1:(k==NameKind.free)=false:=⇑hk
     erw[e1,z6f,z5h,pure_bind];show e
    ·ext((q|q):z9g.mp hx)
     ·subst q;show absurd hf hk
     ·show h3 x q hf
def nu{env:PySem.Env}(h:∀x∈scope.names,x.2=.free->∃c,env.cells.lookup x.1=some c):
  ∃cl,closureFor scope env=pure cl/\(∀x c,cl.lookup x=some c->env.cells.lookup x=some c)/\(∀x∈scope.names,x.2=.free->∃c,cl.lookup x.1=some c):=by
 ext(⟨cl,e,h1,h2,h3⟩:rb env scope.names [] h);show⟨cl,?_,λx c q=>(h1 x c q).resolve_left (λz=>by simp at z),h3⟩;erw[closureFor];rw[e]
 first|rfl|simp
def Ed{elt target iter:Expr}{ifs:k_}{scope:Scope}{pos:Pos}{it acc:Value}{env:PySem.Env}{E1:Value->Shared->Prop}(hE1:∀x s,E1 x s->wpAny (model prog w) A (noteFrame x env) (λ_ s'=>R (.error x) s') (λe s'=>R (.error e) s') s)(I:Nat->Shared->Prop)(turn : ∀n s,I n s->wpAny (model prog w) A (pyNext it) (λr z0=>match r with
   |none=>R (.ok .next) z0
   | some v=>wpAny (model prog w) A (letOwnedTupleGo target it v) (λ_ z4=>wpAny (model prog w) A (assign target env v) (λ_ z5=>
     wpAny (model prog w) A (forIn ifs true λc r=>if r=true then do let ok <- isTrue c env (eval c env);pure (ForInStep.yield ok)else pure (ForInStep.yield r)) (λok z6=>
      if ok=true then wpAny (model prog w) A (eval elt env) (λx z7=>wpAny (model prog w) A (call (.builtin "list.append") [acc,x]) (λ_ z8=>∃m,m<n/\I m z8) (λ_ _=>False) z7) E1 z6
      else ∃m,m<n/\I m z6) (λ_ _=>False) z5) (λ_ _=>False) z4) (λ_ _=>False) z0) (λ_ _=>False) s)(n:Nat)(h:I n s):codeAny (model prog w) A (.compLoop (.ListComp elt [⟨target,iter,ifs,0⟩] scope pos) 0 it acc env) R s:=by
 show codeAny_loop rfl I (λn s hI=>?_) n h;change wpAny _ A ((compTurn (.ListComp elt [⟨target,iter,ifs,0⟩] scope pos) 0 it acc env).onRaise (λx=>do noteFrame x env;theTreesLotGoes x)) _ _ s;show wpAny_noted ?_;rw[compTurn_list];show z9i (wpAny_standAt (z9i (z8o (turn n s hI) (λr z0 w_=>?_) λ_ _ h'=>h'.elim)));cases r with
 |none=>show z8a w_
 | some v=>
   show z9i (z8o w_ (λ_ z4 x_=>?_) λ_ _ h'=>h'.elim);show z9i (z8o x_ (λ_ z5 x3=>z9i (z8o x3 (λok z6 x5=>?_) λ_ _ h'=>h'.elim)) λ_ _ h'=>h'.elim);cases ok with
   |false=>show z8a ⟨rfl,x5⟩
   |true=>show z9i (z9i (z8o x5 (λx z7 x9=>z9i (z8o x9 (λ_ z8 y_=>z8a (z8a ⟨rfl,y_⟩)) λ_ _ h'=>h'.elim)) hE1))
noncomputable def blk(X:Cx)(N:i_)(s:Shared)(H:Hp)(scope:Scope)(cl:List (Str×Addr))(ex:l_):Cx:=
 {X with N:=N,s₀:=s,H₀:=H,env:=compEnvC scope cl s.heap.objs.size X.env,outer:=X.stack,ex:=ex,fn:=λ_=>false,pn:=[],xe:=λ_ _=>False}
structure BlkOk (X:Cx) (scope:Scope) (own:i_) (J6:z9) (cn:i_):Prop where
 kind:scope.kind=.function
 nocell:∀x∈scope.names,x.2≠.cell
 locals:∀x∈scope.names,x.2=.local->scope.names.lookup x.1=some .local
 free:∀x∈scope.names,x.2=.free->(X.env.kindOf x.1=some .cell\/X.env.kindOf x.1=some .free)
 names:J6.map (λj=>X.N[j]?)=cn.map some
 capf:∀x∈cn,scope.names.lookup x=some .free
 nd:(own++cn).Nodup
theorem rf{env:PySem.Env}:∀{names:List (Str×NameKind)} {x:Str} {k:NameKind},(names.map λ(n,k)=>if(k==NameKind.free&&env.scope.kind==.function&&env.kindOf n==some .cell)then(n,NameKind.cell)else(n,k)).lookup x=some k ->
  (∀y∈names,y.2≠.cell)->(k=.cell\/k=.free)->(x,NameKind.free)∈names
 |[],_,_,h,_,_=>by simp at h
 | (n, k')::r,x,k,h,hc,hk=>by
   have ih:=@rf env r x k;have h:List.lookup x ((if(k'==NameKind.free&&env.scope.kind==.function&&env.kindOf n==some .cell)=true then(n,NameKind.cell)else(n,k'))::(r.map λ(n,k)=>if(k==NameKind.free&&env.scope.kind==.function&&env.kindOf n==some .cell)then(n,NameKind.cell)else(n,k)))=some k:=h;have hr:∀y∈r,y.2≠.cell:=λy hy=>hc y (z9d _ hy)
   by_cases hcd:(k'==NameKind.free&&env.scope.kind==.function&&env.kindOf n==some .cell)=true
   ·have hk':k'=.free:=by rw[z8r,z8r]at hcd;simpa using hcd.1.1
    rw[if_pos hcd,z8z]at h;cases hx:x==n with
    | true=>
      have e:x=n:=⇑hx
      rw[e,hk'];show z9b
    |false=>rw[hx]at h;show z9d _ (ih h hr hk)
   ·rw[if_neg hcd,z8z]at h
    cases hx:x==n with
    | true=>
      have e:x=n:=⇑hx
      rw[hx]at h;ext h;ext((hk|hk):hk)
      ·show absurd hk (hc (n,k') z9b)
      ·rw[e,<- hk];show z9b
    |false=>rw[hx]at h;show z9d _ (ih h hr hk)
theorem xf{env:PySem.Env}:∀{names:List (Str×NameKind)} {x:Str},names.lookup x=some .free ->
  (names.map λ(n,k)=>if(k==NameKind.free&&env.scope.kind==.function&&env.kindOf n==some .cell)then(n,NameKind.cell)else(n,k)).lookup x≠some .local
 |[],_,h=>by simp at h
 | (n,k)::r,x,h=>by
   have ih:=@xf env r x;change List.lookup x ((if(k==NameKind.free&&env.scope.kind==.function&&env.kindOf n==some .cell)=true then(n,NameKind.cell)else(n,k))::(r.map λ(n,k)=>if(k==NameKind.free&&env.scope.kind==.function&&env.kindOf n==some .cell)then(n,NameKind.cell)else(n,k)))≠some .local;rw[z8z]at h;by_cases hcd:(k==NameKind.free&&env.scope.kind==.function&&env.kindOf n==some .cell)=true
   ·rw[if_pos hcd,z8z]
    cases hx:x==n with
    |true=>show λz=>by ext z
    |false=>rw[hx]at h;show ih h
   ·rw[if_neg hcd,z8z]
    cases hx:x==n with
    |true=>rw[hx]at h;ext h;show λz=>by ext z
    |false=>rw[hx]at h;show ih h
noncomputable def dc(σ:St)(J6:z9):St:=J6.map λj=>(σ[j]?).getD none
def Ee(I:L2.Inv X G_ σ H s)(B:BlkOk X scope own J6 cn)(hcl:∀x c,cl.lookup x=some c->X.env.cells.lookup x=some c)(hha:∀x∈scope.names,x.2=.free->∃c,cl.lookup x.1=some c)(hex:∀b∈ex,ck X G_ H b/\b<s.heap.objs.size)(hns:w_.Ns s.heap.objs.size (λ_=>none))(hk:∀b o,s.heap.get? b=some o->w_.get? b=some o):
  L2.Inv (blk X (own++cn) s H scope cl ex) [] (List.replicate own.length none++dc σ J6) H {s with heap:=w_,toks:=tk}:=by
 have hcap:cn.length=J6.length:=by have:=z7d List.length B.names;simpa using this.symm
 show⟨⟨I.ok.mod,B.kind,I.ok.glob,I.ok.blt,z9o _,λx y c h1 h2=>I.ok.inj x y c (hcl x c h1) (hcl y c h2),λx hx=>?_,λx c h=>(nomatch h),I.ok.hd,I.ok.frames,.inl rfl,λb hb=>?_,λb o e=>I.bs b o e,z7p I.ok.bsz I.sz,λb o e hb=>?_,λb hb hfs=>?_,I.stack,I.stkFree⟩,
  rfl,I.bare,Un.kept hk,⟨_,hns,λi x v h1 h2 h3=>?_⟩,λx c h=>?_,I.hok.fresh (z9o _),λx c h=>I.freeC x c (hcl x c h),λp hp=>absurd hp (by simp[blk]),I.hok.kept hk,?_⟩
 ·have hx':(relabel scope X.env).names.lookup x=some .cell\/(relabel scope X.env).names.lookup x=some .free:=hx
  have m:(x,NameKind.free)∈scope.names:=by
   ext((q|q):hx')
   ·show rf q B.nocell (.inl rfl)
   ·show rf q B.nocell (.inr rfl)
  show hha _ m rfl
 ·ext(⟨f,lt⟩:hex b hb)
  show⟨z8n lt,λx c h=>f.2.2.2.2.1 x c (hcl x c h)⟩
 ·ext(⟨f,lt⟩:hex b hb)
  ext((q|q):f.2.2.2.1)
  ·show I.ok.noex b o e q
  ·show absurd (z9v (z9n e) I.ok.bsz) (Nat.not_lt.mpr q)
 ·ext(⟨f,lt⟩:hex b hb)
  rcases z9g.mp (I.stkSub b hfs)with q|q
  ·show f.2.1 q
  ·show f.2.2.1 q
 ·
  have hlen:(List.replicate own.length (none:C_)).length=own.length:=z9y;by_cases hi:i<own.length
  ·rw[z8c (by rw[hlen];show hi),z7j,if_pos hi]at h2
   ext h2
  ·rw[z9z (by rw[hlen];ext),hlen]at h2
   have h1':cn[i-own.length]?=some x:=by
    have h1'':(own++cn)[i]?=some x:=h1
    rwa [z9z ∅]at h1''
   unfold dc at h2;rw[z9x]at h2;cases hj:J6[i-own.length]? with
   |none=>rw[hj]at h2;ext h2
   | some j=>
     rw[hj]at h2;have hN:X.N[j]?=some x:=by have q:=z7d (λl=>l[i-own.length]?) B.names;erw[z9x,hj,h1',z7b]at q;show z7f q
     have hσ:σ[j]?=some (some v):=by
      erw[z7b,z7y]at h2;cases e:σ[j]? with
      |none=>rw[e]at h2;ext h2
      |some o=>rw[e]at h2;erw[z7g]at h2;rw[h2]
     have hxf:scope.names.lookup x=some .free:=B.capf x (z8d h1');have hkind:=B.free (x,.free) (z7z hxf) rfl;have hvis:Vis X.env.scope x:=hkind.elim (λq=>.inr (.inl q)) λq=>.inr (.inr q)
     ext(⟨m,hm,hl⟩:I.loc);ext(⟨u,r,look⟩:hl j x v hN hσ hvis);rcases look with⟨hloc,_⟩|⟨_,c,hc,hcell⟩
     ·ext((q|q):hkind)<;>rw[q]at hloc<;>ext hloc
     ·ext(⟨c',hc'⟩:hha (x,.free) (z7z hxf) rfl)
      have e:=hcl x c' hc';rw[hc]at e;ext e;show⟨u,r,.inr ⟨?_,c,hc',?_⟩⟩
      ·ext((q|q|q):h3)
       ·exfalso
        have:(relabel scope X.env).names.lookup x=some .local:=q;unfold relabel at this;have z:=@xf X.env scope.names x hxf;show z this
       ·show .inl q
       ·show .inr q
      ·ext(⟨oc,ho,hd⟩:hcell)
       show⟨oc,hk _ _ ho,hd⟩
 ·ext(⟨v,oc,ho,hd⟩:I.cell x c (hcl x c h))
  show⟨v,oc,hk _ _ ho,hd⟩
 ·change(List.replicate own.length none++dc σ J6).length=(own++cn).length
  simp[dc,hcap]
def Inv.track{d:Addr}(I:L2.Inv X G_ σ H s)(e:s.heap.get? d=some {cls:=.type "list",data:=.seq its.toArray n})(hv:Vals ys its)(hz:ys.length<=sizeLine)(f:ck X G_ H d)(f3:X.s₀.heap.objs.size<=d):L2.Inv X G_ σ (upd H d (.lst ys)) s:=by
 ext(⟨f0,f1,f2,_,f4,f5⟩:f);have old:∀b o,X.s₀.heap.get? b=some o->b≠d:=λb o q z=>absurd (z9v (z9n q) (by rw[z];show f3)) (z7v _)
 have nd:∀b u,H b=some u->b≠d:=λb u q z=>by rw[z,f0]at q;ext q
 show⟨I.ok,I.os,I.bare,⟨I.base.keep,I.base.slot,λb o q n hx=>?_,I.base.there,λb xs q=>?_,λb o u q=>?_,λb ps q=>?_⟩,I.loc,I.cell,?_,λx c q=>?_,λp hp=>?_,λb o q=>?_,I.len⟩
 ·rw[aJ (old b o q)];show I.base.free b o q n hx
 ·have z:=I.base.tups b xs q;rw[aJ (nd b _ z)];show z
 ·have z:=I.base.frzs b o u q;rw[aJ (nd b _ z)];show z
 ·ext(⟨more,z⟩:I.base.tbls b ps q);show⟨more,by rw[aJ (nd b _ z)];show z⟩
 ·rw[aJ (Ne.symm f1)];show I.free
 ·rw[aJ (f4 x c q)];show I.freeC x c q
 ·ext(⟨k1,k2,k3,k4,k5⟩:I.pin p hp)
  show⟨k1,by rw[aJ (f5 p hp)];show k2,k3,k4,k5⟩
 ·by_cases hb:b=d
  ·subst hb
   rw[bi]at q;ext q;show⟨hz,its,n,hv,e⟩
  ·rw[aJ hb]at q
   show(I.hok b o q).stay (λc v _ z=>z) (λc z=>?_) λc xs z=>?_
   ·rw[aJ (nd c _ z)];show z
   ·rw[aJ (nd c _ z)];show z
def PTs(X:Cx)(ifs:k_)(t:TT):Prop:=
 ∀(G_:p_) (s:Shared) (σ:St) (H:Hp) (Q:Bool->Hp->Prop),L2.Inv X G_ σ H s->t σ H Q ->
   wpAny (model X.prog X.w) X.A (forIn ifs true λc r=>if r=true then do let ok <- isTrue c X.env (eval c X.env);pure (ForInStep.yield ok)else pure (ForInStep.yield r)) (TP X G_ σ Q) X.xe s
def jF:PTs X [] (λ_ H Q=>Q true H):=λG_ s σ H Q I h=>wpAny_tests_nil ⟨H,I,h⟩
def gU(nown:Nat)(J6:z9)(wi:TI)(g:TG)(tt:TT)(te:TE):TE:=λσ H Q=>wi σ H λJ H1=>∃W:Nat->Nat->B_->St->Hp->Prop,
 (∃m, W 0 m [] (List.replicate nown none++dc σ J6) H1)/\∀i m ys σb H2,W i m ys σb H2->ys.length<sizeLine /\
  ((J.stop i H2/\∀d,H2 d=none->Q (.ref d) (upd H2 d (.lst ys))) \/
   (J.go i H2/\∀x H3,J.yld i H2 x H3->g x σb H3 λσb' H4=>tt σb' H4 λb H5=>if b=true then te σb' H5 λy H6=>∃m',m'<m/\W (i+1) m' (ys++[y]) σb' H6 else ∃m',m'<m/\W (i+1) m' ys σb' H5))
section
variable {g:TG}{te:TE}
structure After (X:Cx) (G_:p_) (σ:St) (H:Hp) (d c:Addr) (ys:B_) (s:Shared):Prop where
 inv:L2.Inv X G_ σ (upd H d (.lst ys)) s
 ns:∃m,s.heap.Ns c m
 new:H d=none
 cf:ck X G_ (upd H d (.lst ys)) c
def PEx(X:Cx)(e:Expr)(t:TE)(E:Value->Shared->Prop):Prop:=
 ∀(G_:p_) (s:Shared) (σ:St) (H:Hp) (Q:VK),L2.Inv X G_ σ H s->t σ H Q->wpAny (model X.prog X.w) X.A (eval e X.env) (EP X G_ σ Q) E s
theorem Ef{Ex:Value->Shared->Prop}(B:BlkOk X scope own J6 cn)(hc:X.calm=true)(hg:∀s H cl ex,PG (blk X (own++cn) s H scope cl ex) tg g)(ht:∀s H cl ex,PTs (blk X (own++cn) s H scope cl ex) ifs tt){s3:Shared}{d:Addr}{tn:Nat->Heap->Prop}{W:Nat->Nat->B_->St->Hp->Prop}{m0:Nat}(I3:L2.Inv X G_ σ H2 s3)(hcl:∀x c,cl.lookup x=some c->X.env.cells.lookup x=some c)(hha:∀x∈scope.names,x.2=.free->∃c,cl.lookup x.1=some c)(T:Turn X.prog X.w X.K tg J fp it tn)(st:tn 0 s3.heap)(f2:∀b∈fp,ck X G_ H2 b)(fpd:ck X G_ H2 d)(fd3:X.s₀.heap.objs.size<=d)(dnf:∀b∈fp,b≠d)(hd3:s3.heap.get? d=some {cls:=.type "list",data:=.seq #[] 0})(w0:W 0 m0 [] (List.replicate own.length none++dc σ J6) H2)(turn : ∀i m ys σb H2,W i m ys σb H2->ys.length<sizeLine /\
   ((J.stop i H2/\∀d,H2 d=none->Q (.ref d) (upd H2 d (.lst ys))) \/
    (J.go i H2/\∀x H3,J.yld i H2 x H3->g x σb H3 λσb' H4=>tt σb' H4 λb H5=>if b=true then te σb' H5 λy H6=>∃m',m'<m/\W (i+1) m' (ys++[y]) σb' H6 else ∃m',m'<m/\W (i+1) m' ys σb' H5)))(hns:w_.Ns s3.heap.objs.size (λ_=>none))(hk:∀b o,s3.heap.get? b=some o->w_.get? b=some o)(he:PEx (blk X (own++cn) s3 H2 scope cl (d::fp)) elt te Ex){RR:Value->Addr->Result->Shared->Prop}(hRR:∀d c ys H' s',After X G_ σ H' d c ys s'->Q (.ref d) (upd H' d (.lst ys))->RR (.ref d) c (.ok .next) s')(hX:∀e s',Ex e s'->wpAny (model X.prog X.w) X.A (noteFrame e (compEnvC scope cl s3.heap.objs.size X.env)) (λ_ s''=>RR (.ref d) s3.heap.objs.size (.error e) s'') (λe s''=>RR (.ref d) s3.heap.objs.size (.error e) s'') s'):
  codeAny (model X.prog X.w) X.A (.compStart (.ListComp elt [⟨tg,iter,ifs,0⟩] scope pos) 0 (.ref it) (.ref d) (compEnvC scope cl s3.heap.objs.size X.env)) (RR (.ref d) s3.heap.objs.size) {s3 with heap:=w_,toks:=tk}:=by
 have lt3:∀b∈d::fp,b<s3.heap.objs.size:=λb hb=>by
  ext((e|hb):z9g.mp hb)
  ·rw[e];show z9n hd3
  ·ext(⟨o,e,_⟩:T.obj _ _ st b hb);show z9n e
 have fex:∀b∈d::fp,ck X G_ H2 b:=λb hb=>(z9g.mp hb).elim (λe=>e▸fpd) (f2 b)
 have IB:=Ee (ex:=d::fp) (tk:=tk) I3 B hcl hha (λb hb=>⟨fex b hb,lt3 b hb⟩) hns hk;have fpB:∀{P:p_} {H':Hp},(∀b∈fp,H' b=none)->(∀p∈P,p.1=d)->∀b∈fp,ck (blk X (own++cn) s3 H2 scope cl (d::fp)) P H' b:=λ{P H'} hn hP b hb=>by
  show⟨hn b hb,z8n (lt3 b (z9d _ hb)),λz=>?_,.inl (z9d _ hb),λx c q=>(f2 b hb).2.2.2.2.1 x c (hcl x c q),λp hp=>?_⟩
  ·rcases z9g.mp (I3.stkSub b z)with q|q
   ·show(f2 b hb).2.1 q
   ·show(f2 b hb).2.2.1 q
  ·have hp':p∈P:=by simpa [blk]using hp
   rw[hP p hp'];show Ne.symm (dnf b hb)
 have dB:∀{P:p_} {H':Hp},H' d=none->(∀p∈P,p.1∈fp)->ck (blk X (own++cn) s3 H2 scope cl (d::fp)) P H' d:=λ{P H'} hn hP=>by
  show⟨hn,z8n (lt3 d z9b),λz=>?_,.inl z9b,λx c q=>fpd.2.2.2.2.1 x c (hcl x c q),λp hp=>?_⟩
  ·rcases z9g.mp (I3.stkSub d z)with q|q
   ·show fpd.2.1 q
   ·show fpd.2.2.1 q
  ·have hp':p∈P:=by simpa [blk]using hp
   show λe=>dnf p.1 (hP p hp') e
 have loop:∀s':Shared,s'={s3 with heap:=w_,toks:=tk}->codeAny (model X.prog X.w) X.A (.compLoop (.ListComp elt [⟨tg,iter,ifs,0⟩] scope pos) 0 (.ref it) (.ref d) (compEnvC scope cl s3.heap.objs.size X.env)) (RR (.ref d) s3.heap.objs.size) s':=by
  rintro s' rfl;show Ed hX (λn s'=>∃(i:Nat) (ys:B_) (σb:St) (H':Hp) (its:j_) (nn:Nat),L2.Inv (blk X (own++cn) s3 H2 scope cl (d::fp)) [] σb H' s'/\tn i s'.heap/\(∀b∈fp,H' b=none)/\H' d=none/\s'.heap.get? d=some {cls:=.type "list",data:=.seq its.toArray nn}/\Vals ys its/\W i n ys σb H') ?_ m0
   ⟨0,[],_,H2,[],0,IB,T.keep _ _ _ st λb _ o e=>hk b o e,λb hb=>(f2 b hb).1,fpd.1,hk _ _ hd3,.nil,w0⟩
  rintro n s4 ⟨i,ys,σb,H',its,nn,I4,st4,fr4,hd4,o4,r4,w4⟩;have I4p:L2.Inv (blk X (own++cn) s3 H2 scope cl (d::fp)) [(d,{cls:=.type "list",data:=.seq its.toArray nn})] σb H' s4:=I4.pins_of λp hp=>by
   have e:p=(d,{cls:=.type "list",data:=.seq its.toArray nn}):=⇑hp
   subst e;ext(⟨a0,a1,a2,_⟩:dB (P:=[]) hd4 (by simp));show⟨o4,a0,a1,a2,λv z=>by ext z⟩
  ext(⟨hys,alt⟩:turn i n ys σb H' w4);rcases alt with⟨stop,q⟩|⟨go,step⟩
  ·show thn (T.done (blk X (own++cn) s3 H2 scope cl (d::fp)) rfl rfl rfl hc i [(d,{cls:=.type "list",data:=.seq its.toArray nn})] s4 σb H' _ I4p (fpB fr4 (by simp)) st4 stop) λr s5 z_=>?_
   ext(⟨hr,I5⟩:z_);subst hr;ext(⟨o5,_⟩:I5.pin (d,{cls:=.type "list",data:=.seq its.toArray nn}) (by simp[blk]));have IX:L2.Inv X G_ σ H' s5:=I3.call' (ch:=d::fp) I5.os I5.base I5.hok I5.bare λb hb=>⟨(fex b hb).2.2.2.1,(fex b hb).2.1,(fex b hb).2.2.2.2.1,(fex b hb).2.2.2.2.2⟩
   have fpd':ck X G_ H' d:=⟨hd4,fpd.2⟩;have IT:=Inv.track IX o5 r4 (z4p hys) fpd' fd3;show hRR d s3.heap.objs.size ys H' s5 ⟨IT,?_,hd4,?_⟩ (q d hd4)
   ·ext(⟨m,hm,_⟩:I5.loc);show⟨m,hm⟩
   ·have cf:H' s3.heap.objs.size=none:=I5.free
    show I3.fpOk (z9o _) ?_;rw[aJ (Ne.symm (z8n (lt3 d z9b)))];show cf
  ·show thn (T.item (blk X (own++cn) s3 H2 scope cl (d::fp)) rfl rfl rfl hc i [(d,{cls:=.type "list",data:=.seq its.toArray nn})] s4 σb H' _ I4p (fpB fr4 (by simp)) st4 go) λr s5 z_=>?_
   ext(⟨u,hr,h5⟩:z_);subst hr;show thn h5 λ_ s6 z_=>?_
   ext(⟨x,H6,I6,r6,y6,st6,fr6⟩:z_);have I6':=I6.pinned (fpB fr6 (by simp)) (T.obj _ _ st6);show thn (hg s3 H2 cl (d::fp) _ s6 σb H6 x u _ I6' r6 (step x H6 y6)) λ_ s7 z_=>?_
   ext(⟨σ7,H7,I7,q7⟩:z_);show kz (ht s3 H2 cl (d::fp) _ s7 σ7 H7 _ I7 q7) λb s8 H8 I8 q8=>?_
   have fin:∀{H9:Hp} {s9:Shared},L2.Inv (blk X (own++cn) s3 H2 scope cl (d::fp)) ([(d,{cls:=.type "list",data:=.seq its.toArray nn})]++kD fp s6.heap) σ7 H9 s9 ->
     L2.Inv (blk X (own++cn) s3 H2 scope cl (d::fp)) [] σ7 H9 s9/\tn (i+1) s9.heap/\(∀b∈fp,H9 b=none)/\H9 d=none/\s9.heap.get? d=some {cls:=.type "list",data:=.seq its.toArray nn}:=λ{H9 s9} I9=>by
    have pd:=I9.pin (d,{cls:=.type "list",data:=.seq its.toArray nn}) (by simp[blk]);show⟨I9.pins_of λp hp=>absurd hp (by simp),T.keep _ _ _ st6 λb hb o e=>(I9.pin (b,o) (z9q _ (z9q _ (mG hb e)))).1,λb hb=>?_,pd.2.1,pd.1⟩;ext(⟨o,e,_⟩:T.obj _ _ st6 b hb);show(I9.pin (b,o) (z9q _ (z9q _ (mG hb e)))).2.1
   cases b with
   |false=>ext(⟨m',hm,w'⟩:q8);ext(⟨k1,k2,k3,k4,k5⟩:fin I8);show⟨m',hm,i+1,ys,σ7,H8,its,nn,k1,k2,k3,k4,k5,r4,w'⟩
   | true=>
     show z8o (he _ s8 σ7 H8 _ I8 q8) (λv s9 y9=>?_) λ_ _ z=>z
     ext(⟨y,H9,I9,r9,z_⟩:y9);ext(⟨m',hm,w'⟩:z_);ext(⟨k1,k2,k3,k4,k5⟩:fin I9);have lv:=r4.length;show z4d F.slot_list_append ⟨_,k5,rfl⟩ F.entry_list_append (F.args_list_append_2 _ _) (PySem.list_append d its.toArray nn v (by rw[z9t];ext)) ⟨k5,?_⟩;have up:=PySem.IsL.update k5 (λa=>a.push v);have ep:its.toArray.push v=(its++[v]).toArray:=by simp
     rw[ep]at up;show⟨m',hm,i+1,ys++[y],σ7,H9,its++[v],_,?_,?_,k3,k4,up,r4.append (.cons r9 .nil),w'⟩
     ·show k1.turned (it:=d) (λb o hb e=>(z6c s9.heap _ (Ne.symm hb)).trans e) k4 (dB (P:=[]) k4 (by simp)).2.1 (.inl z9b) (dB (P:=[]) k4 (by simp)).2.2.2.2.1 λp hp=>absurd hp (by simp[blk])
     ·show T.keep _ _ _ k2 λb hb o e=>(z6c s9.heap _ (Ne.symm (dnf b hb))).trans e
 show codeAny_compStart_list (loop _ rfl) (T.self X.A 0 _ _ _ (T.keep _ _ _ st λb _ o e=>hk b o e) (loop _ rfl))
def xg{Ex:Shared->Hp->List (Str×Addr)->l_->Value->Shared->Prop}(B:BlkOk X scope own J6 cn)(hc:X.calm=true)(hi:PI X tg iter wi)(hg:∀s H cl ex,PG (blk X (own++cn) s H scope cl ex) tg g)(ht:∀s H cl ex,PTs (blk X (own++cn) s H scope cl ex) ifs tt)(he:∀s H cl ex,PEx (blk X (own++cn) s H scope cl ex) elt te (Ex s H cl ex))(I:L2.Inv X G_ σ H s)(h:gU own.length J6 wi g tt te σ H Q)(hcl:∀x c,cl.lookup x=some c->X.env.cells.lookup x=some c)(hha:∀x∈scope.names,x.2=.free->∃c,cl.lookup x.1=some c)(hRR:∀d c ys H' s',After X G_ σ H' d c ys s'->Q (.ref d) (upd H' d (.lst ys))->RR (.ref d) c (.ok .next) s')(hX:∀s3 H2 d fp e s',L2.Inv X G_ σ H2 s3->(∀b∈d::fp,ck X G_ H2 b)->Ex s3 H2 cl (d::fp) e s'->wpAny (model X.prog X.w) X.A (noteFrame e (compEnvC scope cl s3.heap.objs.size X.env)) (λ_ s''=>RR (.ref d) s3.heap.objs.size (.error e) s'') (λe s''=>RR (.ref d) s3.heap.objs.size (.error e) s'') s'):
  wpAny (model X.prog X.w) X.A (eval iter X.env) (λx z0=>wpAny (model X.prog X.w) X.A (pyIter x) (λit z5=>wpAny (model X.prog X.w) X.A (newList []) (λacc z6=>
   wpAny (model X.prog X.w) X.A (newFunctionEnv scope X.env.globals cl [] X.env.qual none .none (some X.env)) (λcenv z7=>codeAny (model X.prog X.w) X.A (.compStart (.ListComp elt [⟨tg,iter,ifs,0⟩] scope pos) 0 it acc {cenv with scope:=relabel scope X.env}) (RR acc cenv.locals) z7) X.xe z6) X.xe z5) X.xe z0) X.xe s:=by
 show thn (hi G_ s σ H _ I h) λx s1 h1=>thn h1 λitv s2 h2=>?_
 ext(⟨it,fp,tn,J,H2,rfl,I2,T,st2,f2,W,⟨m0,w0⟩,turn⟩:h2);show wpAny_newObj_type (wpAny_newFunctionEnv B.nocell (by intro y hy;simp at hy) (λw_ s_ t_=>?_) B.kind);dsimp only at s_ t_ ⊢;generalize hd:s2.heap.objs.size=d at s_ t_ ⊢;have hfd:H2 d=none:=by rw[<- hd];show I2.hok.fresh (z9o _)
 have fpd:ck X G_ H2 d:=I2.fpOk (by rw[hd];show z9o _) hfd;have fpl:∀b∈fp,b<s2.heap.objs.size:=λb hb=>by ext(⟨o,e,_⟩:T.obj _ _ st2 b hb);show z9n e
 have dnf:∀b∈fp,b≠d:=λb hb e=>absurd (fpl b hb) (by rw[e,hd];show z7v _)
 have I3:L2.Inv X G_ σ H2 {s2 with heap:=s2.heap.push {cls:=.type "list",dict:=none,data:=.seq ([]:j_).toArray}}:=I2.kept (t':=s2.toks) λb o e=>z9m _ e
 show Ef (s3:={s2 with heap:=s2.heap.push {cls:=.type "list",dict:=none,data:=.seq ([]:j_).toArray}}) B hc hg ht I3 hcl hha T (T.keep _ _ _ st2 λb _ o e=>z9m _ e) f2 fpd (by rw[<- hd];show I2.sz) dnf
  (by rw[<- hd];show z8q _ rfl) w0 turn s_ (λb o e=>t_.extBut b o (z8n (z9n e)) (z9m _ e)) (he _ _ _ _) hRR λe s' z=>hX _ _ _ _ e s' I3 (λb hb=>(z9g.mp hb).elim (λq=>q▸fpd) (f2 b)) z
def rh(B:BlkOk X scope own J6 cn)(hc:X.calm=true)(hi:PI X tg iter wi)(hg:∀s H cl ex,PG (blk X (own++cn) s H scope cl ex) tg g)(ht:∀s H cl ex,PTs (blk X (own++cn) s H scope cl ex) ifs tt)(he:∀s H cl ex,PE (blk X (own++cn) s H scope cl ex) elt te)(I:L2.Inv X G_ σ H s)(h:gU own.length J6 wi g tt te σ H Q)(hcl:∀x c,cl.lookup x=some c->X.env.cells.lookup x=some c)(hha:∀x∈scope.names,x.2=.free->∃c,cl.lookup x.1=some c)(hRR:∀d c ys H' s',After X G_ σ H' d c ys s'->Q (.ref d) (upd H' d (.lst ys))->RR (.ref d) c (.ok .next) s'):
  wpAny (model X.prog X.w) X.A (eval iter X.env) (λx z0=>wpAny (model X.prog X.w) X.A (pyIter x) (λit z5=>wpAny (model X.prog X.w) X.A (newList []) (λacc z6=>
   wpAny (model X.prog X.w) X.A (newFunctionEnv scope X.env.globals cl [] X.env.qual none .none (some X.env)) (λcenv z7=>codeAny (model X.prog X.w) X.A (.compStart (.ListComp elt [⟨tg,iter,ifs,0⟩] scope pos) 0 it acc {cenv with scope:=relabel scope X.env}) (RR acc cenv.locals) z7) X.xe z6) X.xe z5) X.xe z0) X.xe s:=
 xg (Ex:=λ_ _ _ _ _ _=>False) B hc hi hg ht he I h hcl hha hRR λ_ _ _ _ _ _ _ _ z=>z.elim
end
structure PostI (K:K0) (σ:St) (ρ:ag) (H:Hp) (es:F_) (ds:D_) (J:It) (H1:Hp):Prop where
 same:Same H H1
 go:∀(i:Nat) (d:D) (H':Hp),ds[i]?=some d->Same H1 H'->J.go i H'/\∀x H'',J.yld i H' x H''->Same H' H''/\Rep K H'' x d/\∀A,Dom H A->(∀e∈es,Av K H σ ρ A e)->Rep K (az H'' A) x d
 stop:∀H',Same H1 H'->J.stop ds.length H'
def tvI(K:K0)(f:FEs)(es:F_):TI:=λσ H R=>∃ρ ds,EnvR K H σ ρ/\f ρ=some ds/\∀J H1,PostI K σ ρ H es ds J H1->R J H1
abbrev VI(X:Cx)(tg iter:Expr)(f:FEs)(es:F_):Prop:=PI X tg iter (tvI X.K f es)
structure JI (X:Cx) (tg iter:Expr) (f:FEs) (es:F_):Prop where
 h:VI X tg iter f es
def rj{t t':TI}(h:PI X tg e t)(i:∀σ H R,t' σ H R->t σ H R):PI X tg e t':=λG_ s σ H R I q=>h G_ s σ H R I (i σ H R q)
def nv{t:TI}{f:FEs}{es:F_}(h:PI X tg e t)(i:∀σ H R ρ ds,EnvR X.K H σ ρ->f ρ=some ds->(∀J H1,PostI X.K σ ρ H es ds J H1->R J H1)->t σ H R):PI X tg e (tvI X.K f es):=rj h λσ H R z_=>by ext(⟨ρ,d,hE,hf,hQ⟩:z_);show i σ H R ρ d hE hf hQ
section
variable {fi:FE}{as:FEs}{ei:F_}
def fQ(f:FE):FEs:=λρ=>(f ρ).bind λd=>if dt d=true then none else items d
theorem iM(h:JB X iter fi ei):JI X tg iter (fQ fi) ei:=⟨have h:=h.h;nv (kC h) λσ H R ρ ds hE hf hR=>by
 ext(⟨d,h1,hf⟩:bind_some hf);cases ht:dt d with
 |true=>rw[if_pos ht]at hf;ext hf
 |false=>rw[if_neg (by rw[ht];show z8l)]at hf;show⟨ρ,d,hE,h1,λv H1 p=>?_⟩;ext(⟨q,xs,rfl,hq,hx,hA⟩:fq p.rep hf ht);have len:=hx.length;show⟨q,rfl,⟨xs,hq⟩,hR _ _ ⟨p.same,λi d' H' hd e=>?_,λH' e=>⟨xs,e.seq hq,by ext⟩⟩⟩;ext(⟨x,h2,h3⟩:hx.get hd);show⟨⟨xs,x,e.seq hq,h2⟩,λy H'' z_=>?_⟩;ext(⟨eq,hy⟩:z_);subst eq;have e2:=hy xs (e.seq hq);rw[h2]at e2;ext e2;show⟨Same.refl _,aA e h3,λA hD hz=>?_⟩;ext(⟨x',h4,h5⟩:(hA A (p.av A hD hz)).get hd);rw[h2]at h4;ext h4;show aA (cz e) h5⟩
def Eg{ρ:ag}(e:Same H H1):PostI K σ ρ H [] (db lo n) (Itr lo n) H1:=by
 show⟨e,λi d H' hd _=>?_,λH' _=>?_⟩
 ·have hi:i<n:=by have:=(z9e.mp hd).1;simpa [db]using this
  have ed:d=.int (lo+i):=by have:=(z9e.mp hd).2;rw[<- this];simp[db]
  subst ed;show⟨hi,λx H'' z_=>?_⟩;ext(⟨e1,e2⟩:z_);subst e1 e2;show⟨Same.refl _,.int _,λA _ _=>.int _⟩
 ·change n<=(db lo n).length
  simp[db]
def iR1(as:FEs):FEs:=λρ=>(as ρ).bind λds=>match ds with
 |[.int j]=>if okR j then some (db 0 j.toNat)else none
 |_=>none
theorem xh(mr:X.mg "range"=none)(hi:JA X [a] as ei)(hg:Gl X "range"<|>R0)(hst:starEach [a] X.env=[(false,eval a X.env)]<|>R0):JI X tg (.Call (.Name "range" pn) [a] [] pr) (iR1 as) []:=⟨have hi:=hi.h;
 nv (mF hg mr hi hst) λσ H R ρ ds hE hf hR=>by
  ext(⟨vs,h1,hf⟩:bind_some hf);show⟨ρ,vs,hE,h1,λxs H1 p=>?_⟩
  match vs,hf,p with
  |[.int j],hf,p=>ext(⟨hj,rfl⟩:bC hf);ext(⟨v,rfl,r⟩:fO p.rep);ext r;show⟨j,rfl,hj.1,hj.2,hR _ _ (Eg p.same)⟩⟩
end
noncomputable def bG{α:Type}(σ:List (Option α))(is:z9)(xs:List α):List (Option α):=(is.zip xs).foldl (λr p=>r.set p.1 (some p.2)) σ
structure TgV (K:K0) (g:TG) (is:z9) (un:D->Option D_):Prop where
 ok:∀(x:V) (σ:St) (H:Hp) (Q:St->Hp->Prop) (d:D) (ds:D_),Rep K H x d->un d=some ds->(∀xs:B_,Reps K H xs ds->(∀A,Rep K (az H A) x d->Reps K (az H A) xs ds)->Q (bG σ is xs) H)->g x σ H Q
 len:∀d ds,un d=some ds->ds.length=is.length
noncomputable def un1(d:D):Option D_:=some [d]
def fw(t:Nat):TgV K (c9 t) [t] un1 where
 ok:=λx σ H Q d ds r hd h=>by ext hd;show h [x] (.cons r .nil) λA r'=>.cons r' .nil
 len:=λd ds h=>by ext h;rfl
noncomputable def unT(n:Nat):D->Option D_
 |.tup ds=>if ds.length=n then some ds else none
 |_=>none
theorem xi{Q:St->Hp->Prop}{H:Hp}:∀{is:z9} {xs:B_} {σ:St},is.length=xs.length->Q (bG σ is xs) H->l7 is xs σ H Q
 |[],[],_,_,h=>⟨rfl,h⟩
 |[],_::_,_,h,_=>by ext h
 |_::_,[],_,h,_=>by ext h
 |i::is,x::xs,σ,hl,h=>⟨x,xs,rfl,xi (σ:=σ.set i (some x)) (⇑hl) h⟩
theorem nw(is:z9):TgV K (vf K is.length (l7 is)) is (unT is.length) where
 ok:=λx σ H Q d ds r hd h=>by
  cases d with
  |tup es=>ext(⟨hl,rfl⟩:bC hd);ext(⟨p,xs,rfl,hp,hx⟩:wY r);have len:=hx.length;show⟨p,xs,rfl,.inl hp,by ext,xi ∅ (h xs hx λA r'=>E6 hp r')⟩
  |_=>ext hd
 len:=λd ds h=>by
  cases d with
  |tup es=>ext(⟨hl,rfl⟩:bC h);show hl
  |_=>ext h
noncomputable def bh(nown:Nat)(J6:z9)(ρ:ag):ag:=List.replicate nown none++J6.map λj=>(ρ[j]?).getD none
theorem ny{P:Nat->V->D->Prop}:∀{is:z9} {xs:B_} {ds:D_} {σ:St} {ρ:ag},σ.length=ρ.length->xs.length=ds.length->(∀(j:Nat) v d,σ[j]?=some (some v)->ρ[j]?=some (some d)->P j v d) ->
  (∀(k:Nat) j v d,is[k]?=some j->xs[k]?=some v->ds[k]?=some d->P j v d)->∀(j:Nat) v d,(bG σ is xs)[j]?=some (some v)->(bG ρ is ds)[j]?=some (some d)->P j v d
 |[],_,_,_,_,_,_,h0,_=>by simpa [bG]using h0
 |i::is,[],[],_,_,_,_,h0,_=>by simpa [bG]using h0
 |i::is,[],_::_,_,_,_,h,_,_=>by ext h
 |i::is,_::_,[],_,_,_,h,_,_=>by ext h
 | i::is,x::xs,d::ds,σ,ρ,hl,hx,h0,h1=>by
   show ny (is:=is) (xs:=xs) (ds:=ds) (σ:=σ.set i (some x)) (ρ:=ρ.set i (some d)) (⇑hl) (⇑hx) (λj v d' e1 e2=>?_) λk j v d' a1 a2 a3=>h1 (k+1) j v d' (⇑a1) (⇑a2) (⇑a3)
   by_cases hj:j=i
   ·subst hj
    have l1:j<σ.length:=by have:=(z9e.mp e1).1;simpa using this
    rw[z9s l1]at e1;rw[z9s ∅]at e2;ext e1;ext e2;show h1 0 j x d rfl rfl rfl
   ·rw[z9h (Ne.symm hj)]at e1 e2
    show h0 j v d' e1 e2
theorem xj{α β:Type}:∀{is:z9} {xs:List α} {ds:List β} {σ:List (Option α)} {ρ:List (Option β)},σ.length=ρ.length->xs.length=ds.length->(∀(j:Nat) d,ρ[j]?=some (some d)->∃v,σ[j]?=some (some v)) ->
  ∀(j:Nat) d,(bG ρ is ds)[j]?=some (some d)->∃v,(bG σ is xs)[j]?=some (some v)
 |[],_,_,_,_,_,_,h0=>by simpa [bG]using h0
 |i::is,[],[],_,_,_,_,h0=>by simpa [bG]using h0
 |i::is,[],_::_,_,_,_,h,_=>by ext h
 |i::is,_::_,[],_,_,_,h,_=>by ext h
 | i::is,x::xs,d::ds,σ,ρ,hl,hx,h0=>by
   show xj (is:=is) (xs:=xs) (ds:=ds) (σ:=σ.set i (some x)) (ρ:=ρ.set i (some d)) (⇑hl) (⇑hx) λj d' e2=>?_
   by_cases hj:j=i
   ·subst hj
    have l1:j<ρ.length:=by have:=(z9e.mp e2).1;simpa using this
    show⟨x,z9s ∅⟩
   ·rw[z9h (Ne.symm hj)]at e2 ⊢
    show h0 j d' e2
theorem xk{α:Type}:∀{is:z9} {xs:List α} {σ:List (Option α)},(bG σ is xs).length=σ.length
 |[],_,_=>by simp[bG]
 |_::_,[],_=>by simp[bG]
 |i::is,x::xs,σ=>by have:=xk (is:=is) (xs:=xs) (σ:=σ.set i (some x));simpa [bG]using this
theorem xl{α:Type}{n:Nat}:∀{is:z9} {xs:List α} {σ:List (Option α)},(∀i∈is,i<n)->∀j,n<=j->(bG σ is xs)[j]?=σ[j]?
 |[],_,_,_,_,_=>by simp[bG]
 |_::_,[],_,_,_,_=>by simp[bG]
 |i::is,x::xs,σ,h,j,hj=>by have:=xl (is:=is) (xs:=xs) (σ:=σ.set i (some x)) (λk hk=>h k (z9d _ hk)) j hj;have hi:=h i z9b;rw[z9h ∅]at this;simpa [bG]using this
noncomputable def esC(nown:Nat)(J6:z9)(ei:F_):F_->F_
 |[]=>[]
 |.full j::r=>(if j<nown then ei else [.full (J6.getD (j-nown) 0)])++esC nown J6 ei r
 |.el j::r=>(if j<nown then ei else [.el (J6.getD (j-nown) 0)])++esC nown J6 ei r
theorem nz{nown:Nat}{J6:z9}{ei:F_}:∀{ee:F_} {e:Es},e∈ee->(∀j,e=.full j\/e=.el j->j<nown)->∀z∈ei,z∈esC nown J6 ei ee
 | .full j::r,e,he,hj,z,hz=>by
   ext((q|q):z9g.mp he)
   ·have:=hj j (.inl q)
    change z∈(if j<nown then ei else _)++_;rw[if_pos this];show z8g _ hz
   ·show z9q _ (nz q hj z hz)
 | .el j::r,e,he,hj,z,hz=>by
   ext((q|q):z9g.mp he)
   ·have:=hj j (.inr q)
    change z∈(if j<nown then ei else _)++_;rw[if_pos this];show z8g _ hz
   ·show z9q _ (nz q hj z hz)
theorem rm{nown:Nat}{J6:z9}{ei:F_}{j:Nat}(hj:¬j<nown):∀{ee:F_},Es.full j∈ee->Es.full (J6.getD (j-nown) 0)∈esC nown J6 ei ee
 | .full k::r,he=>by
   ext((q|q):z9g.mp he)
   ·ext q
    change _∈(if j<nown then ei else _)++_;rw[if_neg hj];show z8g _ z9b
   ·show z9q _ (rm hj q)
 | .el k::r,he=>by
   ext((q|q):z9g.mp he)
   ·ext q
   ·show z9q _ (rm hj q)
theorem rn{nown:Nat}{J6:z9}{ei:F_}{j:Nat}(hj:¬j<nown):∀{ee:F_},Es.el j∈ee->Es.el (J6.getD (j-nown) 0)∈esC nown J6 ei ee
 | .full k::r,he=>by
   ext((q|q):z9g.mp he)
   ·ext q
   ·show z9q _ (rn hj q)
 | .el k::r,he=>by
   ext((q|q):z9g.mp he)
   ·ext q
    change _∈(if j<nown then ei else _)++_;rw[if_neg hj];show z8g _ z9b
   ·show z9q _ (rn hj q)
noncomputable def gq(g:D->Option E_):D_->Option D_
 |[]=>some []
 |x::r=>(g x).bind λo=>(gq g r).bind λds=>some (match o with|some d=>d::ds|none=>ds)
def iN(is:z9)(un:D->Option D_)(c:ag->A_)(fe:FE)(ρ:ag):D->Option E_:=λd=>(un d).bind λds=>(c (bG ρ is ds)).bind λb=>if b=true then(fe (bG ρ is ds)).map some else some none
def c7(nown:Nat)(J6:z9)(is:z9)(un:D->Option D_)(fi:FEs)(c:ag->A_)(fe:FE):FE:=λρ=>(fi ρ).bind λds=>if ds.length<100000 then(gq (iN is un c fe (bh nown J6 ρ)) ds).map .lst else none
noncomputable def cg:ag->A_:=λ_=>some true
def xm{un:D->Option D_}{fi:FEs}{ei ee:F_}{g:TG}{c:ag->A_}{fe:FE}(hg:TgV K g is un)(his:∀i∈is,i<nown)(h:tvF K (c7 nown J6 is un fi c fe) (esC nown J6 ei ee) σ H Q):gU nown J6 (tvI K fi ei) g (tvT K c) (tv K fe ee) σ H Q:=by
 ext(⟨ρ,dd,hE,hf,hQ⟩:h);ext(⟨ds,h1,hf⟩:bind_some hf);by_cases hl:ds.length<100000
 ·rw[if_pos hl]at hf
  cases htot:gq (iN is un c fe (bh nown J6 ρ)) ds with
  |none=>rw[htot]at hf;ext hf
  | some tot=>
    rw[htot]at hf;ext hf;show⟨ρ,ds,hE,h1,λJ H1 p=>?_⟩;show⟨λi m ys σb H2=>m=ds.length-i/\i<=ds.length/\Same H1 H2/\(σb.length=nown+J6.length/\∀k,nown<=k->σb[k]?=(dc σ J6)[k-nown]?) /\
     ∃done rest,gq (iN is un c fe (bh nown J6 ρ)) (ds.drop i)=some rest/\tot=done++rest/\done.length<=i/\Reps K H2 ys done/\∀A,Dom H A->(∀e∈esC nown J6 ei ee,Av K H σ ρ A e)->Reps K (az H2 A) ys done,?_,?_⟩
    ·show⟨ds.length,by simp,z7r _,Same.refl _,⟨by simp[dc],λk hk=>?_⟩,[],tot,⇑htot,rfl,z9o _,.nil,λ_ _ _=>.nil⟩
     rw[z9z (⇑hk)];simp
    ·rintro i m ys σb H2 ⟨rfl,hi,e2,⟨hlen,hcap⟩,done,rest,hgo,htot',hdl,hr,hA⟩
     have lys:=hr.length;show⟨z9v (show ys.length<100000 by ext) (by decide),?_⟩;by_cases hlt:i<ds.length
     ·obtain⟨d,hd⟩:∃d,ds[i]?=some d:=⟨ds[i],by simp[hlt]⟩
      have ed:ds.drop i=d::ds.drop (i+1):=by rw[z8k hlt];have q:=(z9e.mp hd).2;rw[q]
      rw[ed]at hgo;ext(⟨o,ho,hgo⟩:bind_some hgo);ext(⟨rest',hgo',hgo⟩:bind_some hgo);ext hgo;ext(⟨ts,hun,ho⟩:bind_some ho);ext(⟨b,hb,ho⟩:bind_some ho);ext(⟨jg,jy⟩:p.go i d H2 hd e2);show .inr ⟨jg,λx H3 y=>?_⟩;ext(⟨e3,rx,ax⟩:jy x H3 y);show hg.ok x σb H3 _ d ts rx hun λxs rxs axs=>?_
      have e13:Same H H3:=(p.same.trans e2).trans e3;have lx:=rxs.length;have lts:=hg.len d ts hun;have lb:σb.length=(bh nown J6 ρ).length:=by rw[hlen];simp[bh]
      have base:∀(j:Nat) v d',σb[j]?=some (some v)->(bh nown J6 ρ)[j]?=some (some d')->¬j<nown/\∃k,J6[j-nown]?=some k/\σ[k]?=some (some v)/\ρ[k]?=some (some d'):=λj v d' q1 q2=>by
       by_cases hj:j<nown
       ·unfold bh at q2
        rw[z8c (⇑hj),z7j,if_pos hj]at q2;ext q2
       ·rw[hcap j ∅]at q1
        unfold bh at q2;rw[z9z (by simp;ext)]at q2;erw[z9y,z9x]at q2;unfold dc at q1;rw[z9x]at q1;cases hk:J6[j-nown]? with
        |none=>rw[hk]at q1;ext q1
        | some k=>
          rw[hk]at q1 q2;show⟨hj,k,rfl,?_,?_⟩
          ·erw[z7b,z7y]at q1
           cases e:σ[k]? with
           |none=>rw[e]at q1;ext q1
           |some o'=>rw[e]at q1;erw[z7g]at q1;rw[q1]
          ·erw[z7b,z7y]at q2
           cases e:ρ[k]? with
           |none=>rw[e]at q2;ext q2
           |some o'=>rw[e]at q2;erw[z7g]at q2;rw[q2]
      have hE':EnvR K H3 (bG σb is xs) (bG (bh nown J6 ρ) is ts):=λj d' q=>by
       obtain⟨v,hv⟩:=xj lb lx (λj' d'' q'=>by
        by_cases hj:j'<nown
        ·unfold bh at q'
         rw[z8c (⇑hj),z7j,if_pos hj]at q';ext q'
        ·have q0:=q'
         unfold bh at q';rw[z9z (by simp;ext)]at q';erw[z9y,z9x]at q';cases hk:J6[j'-nown]? with
         |none=>rw[hk]at q';ext q'
         | some k=>
           rw[hk]at q';erw[z7b,z7y]at q';cases e:ρ[k]? with
           |none=>rw[e]at q';ext q'
           |some o'=>rw[e]at q';erw[z7g]at q';subst q';ext(⟨v,hv,_⟩:hE k d'' e);show⟨v,?_⟩;rw[hcap j' ∅];unfold dc;rw[z9x,hk];simp[hv]) j d' q
       show⟨v,hv,ny (P:=λ_ v d=>Rep K H3 v d) lb lx (λj v d' q1 q2=>?_) (λk j v d' a1 a2 a3=>?_) j v d' hv q⟩
       ·ext(⟨_,k,_,k1,k2⟩:base j v d' q1 q2)
        ext(⟨v',k3,k4⟩:hE k d' k2);rw[k1]at k3;ext k3;show aA e13 k4
       ·ext(⟨v',k3,k4⟩:rxs.get a3)
        rw[a2]at k3;ext k3;show k4
      have av:∀A,Dom H A->(∀e∈esC nown J6 ei ee,Av K H σ ρ A e)->∀H5,Same H3 H5->∀e∈ee,Av K H5 (bG σb is xs) (bG (bh nown J6 ρ) is ts) A e:=λA hD hz H5 e5 e he=>by
       have item:(∀z∈ei,z∈esC nown J6 ei ee)->Reps K (az H3 A) xs ts:=λhsub=>axs A (ax A hD λz hz'=>hz z (hsub z hz'))
       show Av.mono e5 ?_;cases e with
       | full j0=>
         intro v d' q1 q2;show ny (P:=λj v d=>j=j0->Rep K (az H3 A) v d) lb lx (λj v d' q3 q4 ej=>?_) (λk j v d' a1 a2 a3 ej=>?_) j0 v d' q1 q2 rfl
         ·rw[<- ej]at he
          ext(⟨hj,k,hk,k1,k2⟩:base j v d' q3 q4);have:=hz _ (rm hj he);rw[z8y,hk]at this;show aA (cz e13) (this v d' k1 k2)
         ·rw[<- ej]at he
          have hj:=his j (z8d a1);ext(⟨v',k3,k4⟩:(item (nz he λj' hj'=>by ext((q|q):hj')<;>ext q;show hj)).get a3);rw[a2]at k3;ext k3;show k4
       | el j0=>
         intro v d' q1 q2;show ny (P:=λj v d=>j=j0->ElR K H3 A v d) lb lx (λj v d' q3 q4 ej=>?_) (λk j v d' a1 a2 a3 ej=>?_) j0 v d' q1 q2 rfl
         ·rw[<- ej]at he
          ext(⟨hj,k,hk,k1,k2⟩:base j v d' q3 q4);have:=hz _ (rn hj he);rw[z8y,hk]at this;show(this v d' k1 k2).mono e13
         ·rw[<- ej]at he
          have hj:=his j (z8d a1);ext(⟨v',k3,k4⟩:(item (nz he λj' hj'=>by ext((q|q):hj')<;>ext q;show hj)).get a3);rw[a2]at k3;ext k3;show k4.el
      have shape:(bG σb is xs).length=nown+J6.length/\∀k,nown<=k->(bG σb is xs)[k]?=(dc σ J6)[k-nown]?:=⟨by rw[xk];show hlen,λk hk=>by rw[xl his k hk];show hcap k hk⟩;show⟨_,b,hE',hb,λH5 e5=>?_⟩;have e25:Same H2 H5:=e3.trans e5;cases b with
      |false=>ext ho;show eh ⟨ds.length-(i+1),by ext,rfl,hlt,e2.trans e25,shape,done,rest',hgo',htot',by ext,aT e25 hr,λA hD hz=>aT (cz e25) (hA A hD hz)⟩
      | true=>
        have ho':(fe (bG (bh nown J6 ρ) is ts)).map some=some o:=ho;cases hfe:fe (bG (bh nown J6 ρ) is ts)with
        |none=>rw[hfe]at ho';ext ho'
        |some dv=>rw[hfe]at ho';ext ho';show eo ⟨_,dv,hE'.mono e5,hfe,λv H6 p6=>?_⟩;have e26:Same H2 H6:=e25.trans p6.same;show⟨ds.length-(i+1),by ext,rfl,hlt,e2.trans e26,shape,done++[dv],rest',hgo',by rw[htot'];simp,by simp;ext,(aT e26 hr).append (.cons p6.rep .nil),λA hD hz=>?_⟩;show(aT (cz e26) (hA A hD hz)).append (.cons (p6.av A (hD.mono (e13.trans e5)) (av A hD hz H5 e5)) .nil)
     ·have ei':i=ds.length:=by ext
      subst ei';rw[z6q]at hgo;ext hgo;rw[z8w]at htot';subst htot';show .inl ⟨p.stop H2 e2,λd hd=>hQ _ _ (gT (p.same.trans e2) hd λA hD hz=>hA A hD hz)⟩
 ·rw[if_neg hl]at hf;ext hf
noncomputable def b2z(b:Bool):Int:=if b then 1 else 0
def dQ:D->D->Bool
 |.non,.non=>true
 |.bl a,.bl b=>a==b
 |.int i,.int j=>i==j
 |.str x,.str y=>x==y
 |.bl a,.int j=>b2z a==j
 |.int i,.bl b=>i==b2z b
 |_,_=>false
noncomputable def bz:Nat->D->D->Bool
 |k+1,.lst xs,.lst ys=>xs.length==ys.length&&(xs.zip ys).all λp=>bz k p.1 p.2
 |k+1,.tup xs,.tup ys=>xs.length==ys.length&&(xs.zip ys).all λp=>bz k p.1 p.2
 |_,d,e=>dQ d e
noncomputable def bD:Nat->D->Bool
 |_,.scr _=>false
 |_,.dct _ _=>false
 |_,.ptr _=>false
 |0,.lst _=>false
 |0,.tup _=>false
 |k+1,.lst xs=>xs.all (bD k)
 |k+1,.tup xs=>xs.all (bD k)
 |_,_=>true
structure Cmp3 (A:Around) (s:Shared) (v u:Value) (b:Bool):Prop where
 eq:SeqAt.EqAt A s v u b
 rc:SeqAt.RcAt A s v u b
 ne:SeqAt.RcNeAt A s v u (!b)
theorem rq(f:D->D->Bool):∀(xs ys:D_),xs.length=ys.length ->
  (List.range xs.length).all (λj=>match xs[j]?,ys[j]? with|some a,some b=>f a b|_,_=>false)=(xs.zip ys).all λp=>f p.1 p.2
 |[],[],_=>rfl
 |[],_::_,h=>by ext h
 |_::_,[],h=>by ext h
 |x::xs,y::ys,h=>by have ih:=rq f xs ys (⇑h);rw[z9c,List.range_succ_eq_map,z7w,List.all_map,z7k,z7w,<- ih];simp[Function.comp_def]
noncomputable def rz:D->Bool
 |.scr _=>true
 |.dct _ _=>true
 |.ptr _=>true
 |_=>false
noncomputable def nB:D->D->Bool
 |.lst _,.lst _=>true
 |.tup _,.tup _=>true
 |_,_=>false
def xn(I:L2.Inv X G_ σ H s)(A:Around)(v u:V)(vv uu:Value)(d e:D)(hu:A.units<cLine)(nd:rz d=false)(ne:rz e=false)(nl:nB d e=false)(rd:Rep X.K H v d)(re:Rep X.K H u e)(rv:RelV v vv)(ru:RelV u uu):Cmp3 A s vv uu (dQ d e):=by
 cases rd with
 |scr _=>ext nd
 |dct _=>ext nd
 |ptr _=>ext nd
 | non=>
   ext rv;cases re with
   |scr _=>ext ne
   |dct _=>ext ne
   |ptr _=>ext ne
   |non=>ext ru;show⟨.same _,.none_none,.none_none⟩
   |bl b2=>ext ru;show⟨.none_bool b2,.none_bool b2,.none_bool b2⟩
   |int i2=>ext(⟨t2,rfl⟩:ru);show⟨.none_int i2 t2,.none_int i2 t2,.none_int i2 t2⟩
   |str x2=>ext(⟨t2,rfl⟩:ru);show⟨.none_str x2 t2,.none_str x2 t2,.none_str x2 t2⟩
   |@lst p2 xs2 ds2 h2 r2=>ext ru;ext(⟨its2,q2,pl2,z2⟩:I.list (.inl h2));have l2:=pl2.isList;show⟨.none_list l2 hu,.none_list l2 hu,.none_list l2 hu⟩
   |@tup p2 xs2 ds2 h2 r2=>have h2:=eI h2;ext ru;ext(⟨its2,q2,l2,z2⟩:I.tuple (.inl h2));show⟨.none_tuple l2 hu,.none_tuple l2 hu,.none_tuple l2 hu⟩
 | bl b1=>
   ext rv;cases re with
   |scr _=>ext ne
   |dct _=>ext ne
   |ptr _=>ext ne
   |non=>ext ru;show⟨.bool_none b1,.bool_none b1,.bool_none b1⟩
   |bl b2=>ext ru;show⟨.bool_bool b1 b2,.bool_bool b1 b2,.bool_bool b1 b2⟩
   |int i2=>ext(⟨t2,rfl⟩:ru);show⟨.bool_int b1 i2 t2,.bool_int b1 i2 t2,.bool_int b1 i2 t2⟩
   |str x2=>ext(⟨t2,rfl⟩:ru);show⟨.bool_str b1 x2 t2,.bool_str b1 x2 t2,.bool_str b1 x2 t2⟩
   |@lst p2 xs2 ds2 h2 r2=>ext ru;ext(⟨its2,q2,pl2,z2⟩:I.list (.inl h2));have l2:=pl2.isList;show⟨.bool_list b1 l2 hu,.bool_list b1 l2 hu,.bool_list b1 l2 hu⟩
   |@tup p2 xs2 ds2 h2 r2=>have h2:=eI h2;ext ru;ext(⟨its2,q2,l2,z2⟩:I.tuple (.inl h2));show⟨.bool_tuple b1 l2 hu,.bool_tuple b1 l2 hu,.bool_tuple b1 l2 hu⟩
 | int i1=>
   ext(⟨t1,rfl⟩:rv);cases re with
   |scr _=>ext ne
   |dct _=>ext ne
   |ptr _=>ext ne
   |non=>ext ru;show⟨.int_none i1 t1,.int_none i1 t1,.int_none i1 t1⟩
   |bl b2=>ext ru;show⟨.int_bool i1 t1 b2,.int_bool i1 t1 b2,.int_bool i1 t1 b2⟩
   |int i2=>ext(⟨t2,rfl⟩:ru);show⟨.int_int i1 t1 i2 t2,.int_int i1 t1 i2 t2,.int_int i1 t1 i2 t2⟩
   |str x2=>ext(⟨t2,rfl⟩:ru);show⟨.int_str i1 t1 x2 t2,.int_str i1 t1 x2 t2,.int_str i1 t1 x2 t2⟩
   |@lst p2 xs2 ds2 h2 r2=>ext ru;ext(⟨its2,q2,pl2,z2⟩:I.list (.inl h2));have l2:=pl2.isList;show⟨.int_list i1 t1 l2 hu,.int_list i1 t1 l2 hu,.int_list i1 t1 l2 hu⟩
   |@tup p2 xs2 ds2 h2 r2=>have h2:=eI h2;ext ru;ext(⟨its2,q2,l2,z2⟩:I.tuple (.inl h2));show⟨.int_tuple i1 t1 l2 hu,.int_tuple i1 t1 l2 hu,.int_tuple i1 t1 l2 hu⟩
 | str x1=>
   ext(⟨t1,rfl⟩:rv);cases re with
   |scr _=>ext ne
   |dct _=>ext ne
   |ptr _=>ext ne
   |non=>ext ru;show⟨.str_none x1 t1,.str_none x1 t1,.str_none x1 t1⟩
   |bl b2=>ext ru;show⟨.str_bool x1 t1 b2,.str_bool x1 t1 b2,.str_bool x1 t1 b2⟩
   |int i2=>ext(⟨t2,rfl⟩:ru);show⟨.str_int x1 t1 i2 t2,.str_int x1 t1 i2 t2,.str_int x1 t1 i2 t2⟩
   |str x2=>ext(⟨t2,rfl⟩:ru);show⟨.str_str x1 t1 x2 t2,.str_str x1 t1 x2 t2,.str_str x1 t1 x2 t2⟩
   |@lst p2 xs2 ds2 h2 r2=>ext ru;ext(⟨its2,q2,pl2,z2⟩:I.list (.inl h2));have l2:=pl2.isList;show⟨.str_list x1 t1 l2 hu,.str_list x1 t1 l2 hu,.str_list x1 t1 l2 hu⟩
   |@tup p2 xs2 ds2 h2 r2=>have h2:=eI h2;ext ru;ext(⟨its2,q2,l2,z2⟩:I.tuple (.inl h2));show⟨.str_tuple x1 t1 l2 hu,.str_tuple x1 t1 l2 hu,.str_tuple x1 t1 l2 hu⟩
 | @lst p1 xs1 ds1 h1 r1=>
   ext rv;ext(⟨its1,q1,pl1,z1⟩:I.list (.inl h1));have l1:=pl1.isList;cases re with
   |scr _=>ext ne
   |dct _=>ext ne
   |ptr _=>ext ne
   |non=>ext ru;show⟨.list_none l1 hu,.list_none l1 hu,.list_none l1 hu⟩
   |bl b2=>ext ru;show⟨.list_bool b2 l1 hu,.list_bool b2 l1 hu,.list_bool b2 l1 hu⟩
   |int i2=>ext(⟨t2,rfl⟩:ru);show⟨.list_int i2 t2 l1 hu,.list_int i2 t2 l1 hu,.list_int i2 t2 l1 hu⟩
   |str x2=>ext(⟨t2,rfl⟩:ru);show⟨.list_str x2 t2 l1 hu,.list_str x2 t2 l1 hu,.list_str x2 t2 l1 hu⟩
   |lst _ _=>ext nl
   |@tup p2 xs2 ds2 h2 r2=>have h2:=eI h2;ext ru;ext(⟨its2,q2,l2,z2⟩:I.tuple (.inl h2));show⟨.list_tuple l1 l2 hu,.list_tuple l1 l2 hu,.list_tuple l1 l2 hu⟩
 | @tup p1 xs1 ds1 h1 r1=>
   have h1:=eI h1;ext rv;ext(⟨its1,q1,l1,z1⟩:I.tuple (.inl h1));cases re with
   |scr _=>ext ne
   |dct _=>ext ne
   |ptr _=>ext ne
   |non=>ext ru;show⟨.tuple_none l1 hu,.tuple_none l1 hu,.tuple_none l1 hu⟩
   |bl b2=>ext ru;show⟨.tuple_bool b2 l1 hu,.tuple_bool b2 l1 hu,.tuple_bool b2 l1 hu⟩
   |int i2=>ext(⟨t2,rfl⟩:ru);show⟨.tuple_int i2 t2 l1 hu,.tuple_int i2 t2 l1 hu,.tuple_int i2 t2 l1 hu⟩
   |str x2=>ext(⟨t2,rfl⟩:ru);show⟨.tuple_str x2 t2 l1 hu,.tuple_str x2 t2 l1 hu,.tuple_str x2 t2 l1 hu⟩
   |@lst p2 xs2 ds2 h2 r2=>ext ru;ext(⟨its2,q2,pl2,z2⟩:I.list (.inl h2));have l2:=pl2.isList;show⟨.tuple_list l1 l2 hu,.tuple_list l1 l2 hu,.tuple_list l1 l2 hu⟩
   |tup _ _=>ext nl
def xo:∀(k:Nat) (H:Hp) {xs:B_} {j:Nat} {d e:D},(∃v,xs[j]?=some v/\Rep K H v d)->(∃v,xs[j]?=some v/\Rep K H v e)->bD k d=true->bD k e=true->bz k d e=true:=by
 intro k H;have main:∀(k:Nat) {v:V} {d e:D},Rep K H v d->Rep K H v e->bD k d=true->bD k e=true->bz k d e=true:=by
  intro k
  induction k with
  |zero=>intro v d e h1 h2 f1 f2;ext h1<;>ext h2<;>first|(ext f1;done)|(ext f2;done)|simp[bz,dQ]
  | succ k ih=>
    intro v d e h1 h2 f1 f2;have seq:∀{xs:B_} {ds es:D_},Reps K H xs ds->Reps K H xs es->ds.all (bD k)=true->es.all (bD k)=true->(ds.length==es.length&&(ds.zip es).all λp=>bz k p.1 p.2)=true:=by
     intro xs ds es r1 r2 g1 g2;rw[z8r];show⟨by rw[<- r1.length,r2.length];simp,z9u.mpr λz hz=>?_⟩;ext(⟨j,hj,ej⟩:z5b hz);have ej':(ds.zip es)[j]?=some z:=by rw[z9p hj,ej]
     rw[z6w]at ej';ext(⟨a,a1,a2⟩:r1.get ej'.1);ext(⟨b,b1,b2⟩:r2.get ej'.2);rw[a1]at b1;ext b1;show ih a2 b2 (z9u.mp g1 _ (z8d ej'.1)) (z9u.mp g2 _ (z8d ej'.2))
    cases h1 with
    | lst a1 a2=>
      cases h2 with
      |lst b1 b2=>rw[gP a1 b1]at a2;show seq a2 b2 f1 f2
      |tup b1 b2=>show(wu a1 (.inl b1)).elim
      |scr _=>ext f2
      |dct _=>ext f2
      |ptr _=>ext f2
    | tup a1 a2=>
      cases h2 with
      |tup b1 b2=>rw[kO (.inl a1) (.inl b1)]at a2;show seq a2 b2 f1 f2
      |lst b1 b2=>show(wu b1 (.inl a1)).elim
      |scr _=>ext f2
      |dct _=>ext f2
      |ptr _=>ext f2
    |scr _=>ext f1
    |dct _=>ext f1
    |ptr _=>ext f1
    |_=>ext h2;simp[bz,dQ]
 intro xs j d e ⟨v,h1,r1⟩ ⟨w,h2,r2⟩ f1 f2;rw[h1]at h2;ext h2;show main k r1 r2 f1 f2
def xp{k:Nat}{d e:D}(h:nB d e=false):bz k d e=dQ d e:=by ext k<;>ext d<;>ext e<;>first|rfl|ext h
def nC{k:Nat}{d:D}(h:bD k d=true):rz d=false:=by ext d<;>first|rfl|(ext k<;>ext h)
def xq{X: Cx}(I:L2.Inv X G_ σ H s):∀(k:Nat) (A:Around) (v u:V) (vv uu:Value) (d e:D),A.units+k<cLine->bD k d=true->bD k e=true ->
  Rep X.K H v d->Rep X.K H u e->RelV v vv->RelV u uu->Cmp3 A s vv uu (bz k d e):=by
 intro k
 induction k with
 | zero=>
   intro A v u vv uu d e hA fd fe rd re rv ru;have nb:nB d e=false:=by ext d<;>ext e<;>first|rfl|ext fd
   rw[xp nb];show xn I A v u vv uu d e ∅ (nC fd) (nC fe) nb rd re rv ru
 | succ k ih=>
   intro A v u vv uu d e hA fd fe rd re rv ru;have hu:A.units<cLine:=by ext
   have hin:A.in1.units+k<cLine:=by change A.units+1+k<cLine;ext
   cases nb:nB d e with
   |false=>rw[xp nb];show xn I A v u vv uu d e hu (nC fd) (nC fe) nb rd re rv ru
   | true=>
     have items:∀{ds es:D_} {xs ys:B_} {its its2:j_},ds.all (bD k)=true->es.all (bD k)=true->Reps X.K H xs ds->Reps X.K H ys es->Vals xs its->Vals ys its2 ->
       ∀j (h1:j<its.toArray.size) (h2:j<its2.toArray.size),SeqAt.EqAt A.in1 s its.toArray[j] its2.toArray[j] (match ds[j]?,es[j]? with|some a,some b=>bz k a b|_,_=>false):=by
      intro ds es xs ys its its2 hd he rx ry vx vy j h1 h2;have lx:=rx.length;have ly:=ry.length;have mx:=vx.length;have my:=vy.length;have k1:j<ds.length:=by erw[z9t]at h1;ext
      have k2:j<es.length:=by erw[z9t]at h2;ext
      obtain⟨a,ea⟩:∃a,ds[j]?=some a:=⟨_,z9p k1⟩;obtain⟨b,eb⟩:∃b,es[j]?=some b:=⟨_,z9p k2⟩;ext(⟨x,ex,qx⟩:rx.get ea);ext(⟨y,ey,qy⟩:ry.get eb);ext(⟨w1,e1,r1⟩:vx.get ex);ext(⟨w2,e2,r2⟩:vy.get ey);have f1:its.toArray[j]=w1:=by have:=(z9e.mp e1).2;simpa using this
      have f2:its2.toArray[j]=w2:=by have:=(z9e.mp e2).2;simpa using this
      rw[f1,f2,ea,eb];show(ih A.in1 x y w1 w2 a b hin (z9u.mp hd a (z8d ea)) (z9u.mp he b (z8d eb)) qx qy r1 r2).eq
     cases rd with
     | @lst p xs ds h1 h2=>
       ext rv;cases re with
       | @lst q ys es h3 h4=>
         ext ru;ext(⟨its,vx,pl,hz⟩:I.list (.inl h1));ext(⟨its2,vy,pl2,hz2⟩:I.list (.inl h3));have e1:its.toArray.size=ds.length:=by rw[z9t,<- vx.length,h2.length]
         have e2:its2.toArray.size=es.length:=by rw[z9t,<- vy.length,h4.length]
         have core:SeqAt.RcAt A s (.ref p) (.ref q) (bz (k+1) (.lst ds) (.lst es))/\SeqAt.RcNeAt A s (.ref p) (.ref q) (!bz (k+1) (.lst ds) (.lst es)):=by
          by_cases hl:ds.length=es.length
          ·have val:bz (k+1) (.lst ds) (.lst es)=(List.range its.toArray.size).all (λj=>match ds[j]?,es[j]? with|some a,some b=>bz k a b|_,_=>false):=by rw[e1,rq (bz k) ds es hl];change(ds.length==es.length&&_)=_;rw[hl];simp
           rw[val];show⟨.lists pl.isList pl2.isList ∅ hu (items fd fe h2 h4 vx vy),.lists pl.isList pl2.isList ∅ hu (items fd fe h2 h4 vx vy)⟩
          ·have val:bz (k+1) (.lst ds) (.lst es)=false:=by change(ds.length==es.length&&_)=false;rw[show(ds.length==es.length)=false by simpa using hl];rfl
           rw[val];have hne:(its.toArray.size != its2.toArray.size)=true:=by rw[e1,e2];simpa using hl
           show⟨.lists_lengths pl.isList pl2.isList hne hu,.lists_lengths pl.isList pl2.isList hne hu⟩
         show⟨?_,core.1,core.2⟩;by_cases hpq:p=q
         ·subst hpq
          have ev:bz (k+1) (.lst ds) (.lst es)=true:=by
           have exy:=gP h1 h3;subst exy;change(ds.length==es.length&&(ds.zip es).all λp=>bz k p.1 p.2)=true;rw[z8r];show⟨by rw[<- h2.length,h4.length];simp,z9u.mpr λz hz=>?_⟩;ext(⟨j,hj,ej⟩:z5b hz);have ej':(ds.zip es)[j]?=some z:=by rw[z9p hj,ej]
           rw[z6w]at ej';show xo k H (h2.get ej'.1) (h4.get ej'.2) (z9u.mp fd _ (z8d ej'.1)) (z9u.mp fe _ (z8d ej'.2))
          rw[ev];show .same _
         ·show .of_refs hpq core.1
       |tup _ _=>ext nb
       |_=>ext nb
     | @tup p xs ds h1 h2=>
       have h1:=eI h1;ext rv;cases re with
       | @tup q ys es h3 h4=>
         have h3:=eI h3;ext ru;ext(⟨its,vx,pl,hz⟩:I.tuple (.inl h1));ext(⟨its2,vy,pl2,hz2⟩:I.tuple (.inl h3));have e1:its.toArray.size=ds.length:=by rw[z9t,<- vx.length,h2.length]
         have e2:its2.toArray.size=es.length:=by rw[z9t,<- vy.length,h4.length]
         have core:SeqAt.RcAt A s (.ref p) (.ref q) (bz (k+1) (.tup ds) (.tup es))/\SeqAt.RcNeAt A s (.ref p) (.ref q) (!bz (k+1) (.tup ds) (.tup es)):=by
          have val:bz (k+1) (.tup ds) (.tup es)=((List.range (min its.toArray.size its2.toArray.size)).all (λj=>match ds[j]?,es[j]? with|some a,some b=>bz k a b|_,_=>false)&&its.toArray.size==its2.toArray.size):=by
           rw[e1,e2];by_cases hl:ds.length=es.length
           ·rw[<- hl,Nat.min_self,rq (bz k) ds es hl]
            change(ds.length==es.length&&_)=_;rw[hl];simp
           ·change(ds.length==es.length&&_)=_
            rw[show(ds.length==es.length)=false by simpa using hl];simp
          rw[val];show⟨.tuples pl pl2 hu (items fd fe h2 h4 vx vy),.tuples pl pl2 hu (items fd fe h2 h4 vx vy)⟩
         show⟨?_,core.1,core.2⟩;by_cases hpq:p=q
         ·subst hpq
          have ev:bz (k+1) (.tup ds) (.tup es)=true:=by
           have exy:=kO h1 h3;subst exy;change(ds.length==es.length&&(ds.zip es).all λp=>bz k p.1 p.2)=true;rw[z8r];show⟨by rw[<- h2.length,h4.length];simp,z9u.mpr λz hz=>?_⟩;ext(⟨j,hj,ej⟩:z5b hz);have ej':(ds.zip es)[j]?=some z:=by rw[z9p hj,ej]
           rw[z6w]at ej';show xo k H (h2.get ej'.1) (h4.get ej'.2) (z9u.mp fd _ (z8d ej'.1)) (z9u.mp fe _ (z8d ej'.2))
          rw[ev];show .same _
         ·show .of_refs hpq core.1
       |lst _ _=>ext nb
       |_=>ext nb
     |_=>ext e<;>ext nb
section
variable {es ea eb:F_}{fa fb:FE}{k:Nat}
def xr(K:K0):R2:=λx y H Q=>∃d e,Rep K H x d/\Rep K H y e/\bD 4 d=true/\bD 4 e=true/\Q (.bl (bz 4 d e)) H
def xu(K:K0):R2:=λx y H Q=>∃d e,Rep K H x d/\Rep K H y e/\bD 4 d=true/\bD 4 e=true/\Q (.bl (!bz 4 d e)) H
def nD(hr:Room k X.A):OpR X (compareOp .Eq) (xr X.K):=by intro G_ s σ H x y v u Q I rx ry h;ext(⟨d,e,r1,r2,f1,f2,q⟩:h);have hu:=hr.units;show(xq I 4 X.A x y v u d e ∅ f1 f2 r1 r2 rx ry).rc X.prog X.w X.xe _ ⟨.bl _,H,I,rfl,q⟩
def xv(hr:Room k X.A):OpR X (compareOp .NotEq) (xu X.K):=by intro G_ s σ H x y v u Q I rx ry h;ext(⟨d,e,r1,r2,f1,f2,q⟩:h);have hu:=hr.units;show(xq I 4 X.A x y v u d e ∅ f1 f2 r1 r2 rx ry).ne X.prog X.w X.xe _ ⟨.bl _,H,I,rfl,q⟩
def eqD(d e:D):E_:=if bD 4 d=true/\bD 4 e=true then some (.bl (bz 4 d e))else none
def neD(d e:D):E_:=if bD 4 d=true/\bD 4 e=true then some (.bl (!bz 4 d e))else none
def nE(K:K0):OpV K (xr K) eqD:=by intro x y H dx dy d Q rx ry hg hQ;ext(⟨⟨h1,h2⟩,rfl⟩:bC hg);show⟨dx,dy,rx,ry,h1,h2,hQ _ H (Same.refl H) (.bl _) λA _ _ _=>.bl _⟩
def xw(K:K0):OpV K (xu K) neD:=by intro x y H dx dy d Q rx ry hg hQ;ext(⟨⟨h1,h2⟩,rfl⟩:bC hg);show⟨dx,dy,rx,ry,h1,h2,hQ _ H (Same.refl H) (.bl _) λA _ _ _=>.bl _⟩
def Eh(x y d:D)(h:eqD x y=some d):aV d=true:=by ext(⟨_,rfl⟩:bC h);rfl
def Ei(hr:Room k X.A)(ha:JE X a fa ea)(hb:JE X b fb eb):JE X (.Compare a [.Eq] [b] pos) (e2 eqD fa fb) []:=⟨have ha:=ha.h;have hb:=hb.h;jB (nD hr) (nE X.K) ha hb (di _) Eh⟩
def bN(hr:Room k X.A)(ha:JE X a fa ea)(hb:JE X b fb eb):JT X (.Compare a [.Eq] [b] pos) (eT (e2 eqD fa fb)):=⟨have ha:=ha.h;have hb:=hb.h;jC (nD hr) (nE X.K) ha hb (di _)⟩
def nF(hr:Room k X.A)(ha:JE X a fa ea)(hb:JE X b fb eb):JT X (.Compare a [.NotEq] [b] pos) (eT (e2 neD fa fb)):=⟨have ha:=ha.h;have hb:=hb.h;jC (xv hr) (xw X.K) ha hb (di _)⟩
def Ej(K:K0)(d:D):W.kitOne K (.type (tyD d)) (.type "int")=some (iI "int" (tyD d)):=by ext d<;>first|rfl|kernel_rfl
def Ek(K:K0)(d:D):W.kitOne K (.type (tyD d)) (.type "bool")=some (iI "bool" (tyD d)):=by ext d<;>first|rfl|kernel_rfl
noncomputable def rA:D->Bool
 |.ptr _=>true
 |_=>false
def El{T:String}(hk:∀K d,W.kitOne K (.type (tyD d)) (.type T)=some (iI T (tyD d))):cX X (.builtin "isinstance") (λxs H Q=>∃x d,xs=[x,.ty T]/\Rep X.K H x d/\rA d=false/\Q (.bl (iI T (tyD d))) H):=by
 intro G_ s σ H xs us Q I r h;ext(⟨x,d,rfl,rx,np,q⟩:h);ext(⟨u,w,rfl,ru,rw'⟩:jm r);ext rw';have fin:∀tk,EP X G_ σ Q (.bool (iI T (tyD d))) {s with toks:=tk}:=λtk=>⟨.bl _,H,I.tok tk,rfl,q⟩
 have e:=hk X.K d;cases rx with
 |non=>ext ru;show z6h W.kitx_none I.kIn True.intro e (λz=>nomatch z) fin
 |bl b=>ext ru;show z6h W.kitx_bool I.kIn True.intro e (λz=>nomatch z) fin
 |int i=>ext(⟨t,rfl⟩:ru);show z6h W.kitx_int I.kIn True.intro e (λz=>nomatch z) fin
 |str i=>ext(⟨t,rfl⟩:ru);show z6h W.kitx_str I.kIn True.intro e (λz=>nomatch z) fin
 |lst h1 h2=>ext ru;ext(⟨its,_,⟨o,n,e1,e2,_⟩,_⟩:I.list (.inl h1));show z6h W.kitx_list I.kIn ⟨o,e1,e2⟩ e (λz=>nomatch z) fin
 |scr h1=>ext ru;ext(⟨its,_,⟨o,n,e1,e2,_⟩,_⟩:I.list h1);show z6h W.kitx_list I.kIn ⟨o,e1,e2⟩ e (λz=>nomatch z) fin
 |tup h1 h2=>ext ru;ext(⟨its,_,⟨o,e1,e2,_⟩,_⟩:I.tuple (.inl (eI h1)));show z6h W.kitx_tuple I.kIn ⟨o,e1,e2⟩ e (λz=>nomatch z) fin
 |dct h1=>ext ru;ext(⟨_,_,vs,_,o,es,ep,e1,e2,_⟩:js I.hok h1.rd);show z6h W.kitx_dict I.kIn ⟨o,e1,e2.1⟩ e (λz=>nomatch z) fin
 |ptr a=>ext np
def iO(T:String):D->E_:=λd=>if rA d=true then none else some (.bl (iI T (tyD d)))
theorem xx{T:Str}{TS:String}(hk:∀K d,W.kitOne K (.type (tyD d)) (.type TS)=some (iI TS (tyD d)))(hT:bootBuiltins T=some (.type TS))(mi:X.mg "isinstance"=none)(mt:X.mg T=none)(ha:JE X a fa ea)(hg:Gl X "isinstance"<|>R0)(hgT:Gl X T<|>R0)(hn:T ≠ "__name__"<|>R1)(hd:DB T<|>R1)(hs:SE a [.Name T p2] X<|>R0)(hs2:starEach [.Name T p2] X.env=(false,eval (.Name T p2) X.env)::starEach [] X.env<|>R0)(hpl:BT pos [.Name T p2] X<|>R0):
  JE X (.Call (.Name "isinstance" p) [a,.Name T p2] [] pos) (e1 (iO TS) fa) []:=⟨have ha:=ha.h;
 eK (kF (El hk) hg mi (by decide +kernel) (bS ha (bS (uX (v:=.ty TS) hgT mt hT rfl hn hd) ca hs2) hs) (by decide) (by decide) hs hpl) λσ H Q ρ d hE hf hQ=>by
  ext(⟨dx,h1,hf⟩:bind_some hf);cases np:rA dx with
  |true=>erw[iO,np]at hf;ext hf
  |false=>
  erw[iO,np]at hf;ext hf;show⟨ρ,dx,hE,h1,λx H1 p1=>⟨x,dx,rfl,p1.rep,np,hQ _ H1 ⟨p1.same,.bl _,λA _ _=>.bl _⟩⟩⟩⟩
noncomputable def iP:D_->Option o_
 |[]=>some []
 |.bl b::r=>(iP r).map (b::·)
 |_::_=>none
theorem xy:∀{ds:D_} {bs:o_},iP ds=some bs->ds=bs.map D.bl
 |[],bs,h=>by ext h;rfl
 | .bl i::r,bs,h=>by
   erw[iP]at h;cases e:iP r with
   |none=>rw[e]at h;ext h
   |some ms=>rw[e]at h;ext h;rw[xy e];rfl
 |.non::_,_,h=>by ext h
 |.int _::_,_,h=>by ext h
 |.str _::_,_,h=>by ext h
 |.lst _::_,_,h=>by ext h
 |.tup _::_,_,h=>by ext h
 |.scr _::_,_,h=>by ext h
theorem xz{K:K0}{H:Hp}:∀{bs:o_} {xs:B_},Reps K H xs (bs.map D.bl)->xs=bs.map V.bl
 |[],xs,h=>by ext h;rfl
 | n::ns,xs,h=>by
   cases h with
   |cons h1 h2=>ext h1;rw[xz h2];rfl
def Em{bs:o_}(h:Vals (bs.map V.bl) us):us=bs.map Value.bool:=by
 induction bs generalizing us with
 |nil=>ext h;rfl
 | cons b r ih=>
   cases h with
   |cons h1 h2=>ext h1;rw[ih h2];rfl
def En(bs:o_):((List.range bs.length).all λi=>(bs[i]?).getD true)=bs.all id:=by
 rw[z5v,z9u,z9u];constructor
 ·intro h b hb
  ext(⟨i,hi,rfl⟩:z5b hb);have:=h i (z7q.mpr hi);simpa [z9p hi]using this
 ·intro h i hi
  have hi':=z7q.mp hi;simpa [z9p hi']using h _ (z9w hi')
def Eo(hc:X.calm=true):cX X (.builtin "all") (λxs H Q=>∃(q:Addr) (bs:o_),xs=[.ref q]/\SqL X.K H q (bs.map V.bl)/\Q (.bl (bs.all id)) H):=by
 intro G_ s σ H xs us Q I r h;ext(⟨q,bs,rfl,hq,hQ⟩:h);ext(⟨u,rfl,ru⟩:eg r);ext ru;ext(⟨its,rv,pl,hz⟩:I.list hq);have ei:=Em rv;have hl:=pl.isList;have hlt:q<s.heap.objs.size:=by ext(⟨_,e,_⟩:hl);show z9n e
 show call_all_walk (wpAny_pyIter_list hl ⟨s.heap.objs.size,[s.heap.objs.size,q],[s.heap.objs.size],its.toArray.size,_,_,λi=>(bs[i]?).getD true,rfl,Walks.list (A:=X.A.in1) (I.ok.hd hc) _ q (z8n hlt) its.toArray,
  ⟨⟨_,z8q _ rfl,rfl,rfl⟩,hl.push _⟩,λi v s' Q' E' hP hQ'=>?_,λh' tk hk=>?_⟩)
 ·have hP':its[i]?=some v:=⇑hP
  rw[ei,z9x]at hP';cases e:bs[i]? with
  |none=>rw[e]at hP';ext hP'
  |some b=>rw[e]at hP';ext hP';erw[e,z7g]at hQ';show z6i hQ'
 ·have e:its.toArray.size=bs.length:=by rw[z9t,ei,z9a]
  rw[e,En];show⟨.bl _,H,I.kept (t':=tk) λb o z=>hk b o (λhm=>?_) (z9m _ z),rfl,hQ⟩;rw[z9l.mp hm]at z;show z7v _ (z9n z)
def gW(g:o_->Bool):D->E_
 |.lst ds=>(iP ds).bind λbs=>some (.bl (g bs))
 |_=>none
def Ep(g:o_->Bool):fN X.K (λxs H Q=>∃(q:Addr) (bs:o_),xs=[.ref q]/\SqL X.K H q (bs.map V.bl)/\Q (.bl (g bs)) H) (aB (gW g)):=by
 intro xs H ds d Q r hg hQ;ext(⟨x,rfl,hg1⟩:iF hg);ext(⟨v,rfl,r1⟩:fO r);cases x with
 |lst es=>ext(⟨bs,h2,hg3⟩:bind_some hg1);ext hg3;ext(⟨q,ys,rfl,hq,hx,_⟩:fL r1);rw[xy h2]at hx;rw[xz hx]at hq;show⟨q,bs,rfl,.inl hq,hQ _ λH'=>.bl _⟩
 |_=>ext hg1
def nG{as:FEs}(hc:X.calm=true)(ml:X.mg "all"=none)(ha:JA X [a] as es)(hg:Gl X "all"<|>R0)(he:SE a [] X<|>R0)(hpl:BT pos [] X<|>R0):
  JE X (.Call (.Name "all" p) [a] [] pos) (eA (aB (gW λbs=>bs.all id)) as) []:=⟨have ha:=ha.h;jE (Eo hc) (Ep _) ml PyProof.Rows.boot_all ha hg (by decide) (by decide) he hpl⟩
end
section
variable {g:TG}{un:D->Option D_}{fi:FEs}{ei ee:F_}{c:ag->A_}{fe:FE}
def dJ:PTs X [] (tvT X.K cg):=λG_ s σ H Q I h=>by ext(⟨ρ,b,_,hb,hQ⟩:h);ext hb;show jF G_ s σ H Q I (hQ H (Same.refl H))
def dR(B:BlkOk X scope own J6 cn)(hc:X.calm=true)(hi:JI X tg iter fi ei)(hg:∀s H cl ex,PG (blk X (own++cn) s H scope cl ex) tg g)(hgv:TgV X.K g is un)(his:∀i∈is,i<own.length)(ht:∀s H cl ex,PTs (blk X (own++cn) s H scope cl ex) ifs (tvT X.K c))(he:∀s H cl ex,JE (blk X (own++cn) s H scope cl ex) elt fe ee)(hs:(∀x,foldedSetIterable iter X.env x=pure x)<|>R4):
  JF X (.ListComp elt [⟨tg,iter,ifs,0⟩] scope pos) (c7 own.length J6 is un fi c fe) (esC own.length J6 ei ee):=⟨by
 have hi:=hi.h;have he:=(λs H cl ex=>(he s H cl ex).h);intro G_ s σ H Q I h;ext(⟨cl,hclos,hcl,hha⟩:nu (scope:=scope) (env:=X.env) λx hx hf=>I.ok.has x.1 (B.free x hx hf))
 rw[eval_ListComp];show z6z (use:=none) rfl hs hclos B.kind B.locals (rh B hc hi hg ht he I (xm hgv his h) hcl hha (RR:=λacc C=>compPost (model X.prog X.w) X.A X.xe none (EP X G_ σ Q) acc C) λd c ys H' s' af q=>?_);ext(⟨m,hm⟩:af.ns);ext(⟨f0,f1,_,f3,f4,f5⟩:af.cf);show⟨m,hm,λh' sb=>⟨.ref d,_,af.inv.turned (t':=s'.toks) (it:=c) (λb o hb e=>(sb.2 b hb).trans e) f0 f1 f3 f4 f5,rfl,q⟩⟩⟩
def Et(i:Nat)(hN:X.N.Nodup)(B:BlkOk X scope own J6 cn)(hc:X.calm=true)(hi:VI X tg iter fi ei)(hg:∀s H cl ex,PG (blk X (own++cn) s H scope cl ex) tg g)(hgv:TgV X.K g is un)(his:∀i∈is,i<own.length)(ht:∀s H cl ex,PTs (blk X (own++cn) s H scope cl ex) ifs (tvT X.K c))(he:∀s H cl ex,VE (blk X (own++cn) s H scope cl ex) elt fe ee)(hsw:swapsWith (.ListComp elt [⟨tg,iter,ifs,0⟩] scope pos) (some (.Name x p2)) spos.line X.env=pure true)(hxi:X.N[i]?=some x)(hx:Loc X.env.scope x)(hfn:X.fn x=true\/X.env.scope.names.lookup x=some .local)(hs:(∀x,foldedSetIterable iter X.env x=pure x)<|>R4):
  PS X (.Assign [.Name x p2] (.ListComp elt [⟨tg,iter,ifs,0⟩] scope pos) spos) (qj (tvF X.K (c7 own.length J6 is un fi c fe) (esC own.length J6 ei ee)) (c9 i)):=by
 intro G_ s σ H De I h;ext(⟨cl,hclos,hcl,hha⟩:nu (scope:=scope) (env:=X.env) λx hx hf=>I.ok.has x.1 (B.free x hx hf))
 rw[exec_Assign_Name_used _ _ _ _ hsw];show z9i (wpAny_standAt (z9i ?_));change wpAny _ X.A (do let _ <- comprehension (.ListComp elt [⟨tg,iter,ifs,0⟩] scope pos) scope X.env _ (newList []) false (eval iter X.env) (some (assign (.Name x p2) X.env))) _ _ s;show z9i (z8o (z6z (use:=some (assign (.Name x p2) X.env)) (Q:=λ_ s'=>SP X G_ De .next s') rfl hs hclos B.kind B.locals
  (rh B hc hi hg ht he I (xm hgv his h) hcl hha (RR:=λacc C=>compPost (model X.prog X.w) X.A X.xe (some (assign (.Name x p2) X.env)) (λ_ s'=>SP X G_ De .next s') acc C) λd c ys H' s' af q=>?_)) (λ_ s' hq=>z8a (z8a hq)) λ_ _ e=>e)
 ext(⟨m,hm⟩:af.ns);ext(⟨f0,f1,_,f3,f4,f5⟩:af.cf);change wpAny _ X.A (assign (.Name x p2) X.env (.ref d)) _ _ _;show wpAny_assign_Name (uU af.inv hN hxi hx (show RelV (.ref d) (.ref d)from rfl) (λs2 I2 z_=>?_) hfn);ext(⟨a,sb,ha⟩:z_);have ac:c≠a:=by
  ext((z|z):ha)
  ·show λe=>f1 (e.trans z)
  ·show λe=>f4 x a z e.symm
 show⟨m,hm.sameBut sb ac,λh' sb'=>⟨_,_,I2.turned (t':=s2.toks) (it:=c) (λb o hb e=>(sb'.2 b hb).trans e) f0 f1 f3 f4 f5,q⟩⟩
end
def Def(P:Program)(w:World)(K:K0)(mg:Str->u_)(base:Heap)(x:Str)(k:Nat)(ps:i_)(G:D_->E_)(fr:Bool):Prop:=
 ∃f fd,FnOk P w K mg base CX0 k f fd ps (spF K G fr)/\mg x=some (.ref f)/\W.keepIn K (.ref f)=true/\Binds K fd ps []
def scF(G:D_->E_):D_->E_:=λds=>(G ds).bind λd=>if aV d=true then some d else none
def xB{G:D_->E_}{ds:D_}{d:D}(h:scF G ds=some d):G ds=some d/\aV d=true:=by ext(⟨e,h1,h2⟩:bind_some h);ext(⟨h3,rfl⟩:bC h2);show⟨h1,h3⟩
section
variable {k:Nat}{G:D_->E_}
theorem Def.sc(h:Def P w K mg base x k ps G fr):Def P w K mg base x k ps (scF G) fr:=
 let⟨f,fd,F,m,kp,b⟩:=h
 ⟨f,fd,F.imp λvs H Q E z_=>by ext(⟨ds,d,r,hg,q⟩:z_);show⟨ds,d,r,(xB hg).1,q⟩,m,kp,b⟩
theorem Def.mono(h:Def P w K mg base x j ps G fr)(hk:j<=k<|>R1):Def P w K mg base x k ps G fr:=
 let⟨f,fd,F,m,kp,b⟩:=h
 ⟨f,fd,F.mono hk,m,kp,b⟩
theorem Eu{body:FS}(O' OL:z9)(h1:ps.length=np)(h2:N.length=n)(h3:G=mkF fr np n body)(Fn:Fun K x qual st f fd)(S:FnScope N ps (aN st))(h:∀(cdv:Value) (A:Around) (outer:List PySem.Env) (s:Shared) (H:Hp) (E:XK) (F:Fr0),F.n=n->Room k (A.deeper (envOfC qual (aN st) s.heap.objs.size f cdv)) ->
   VSs (c4 CX0 P w K mg base N qual (aN st) f cdv A outer s H E).nox F [] (cy st) body O' OL fr):
  FnOk P w K mg base CX0 (k+1) f fd ps (spF K G fr):=by
 subst h1 h2 h3;show Ea Fn S h
end
section
variable {k:Nat}{G:D_->E_}{as:FEs}{es:F_}
def Ev(d:Def X.prog X.w X.K X.mg X.base x k ps G fr)(hr:Room k X.A)(ha:VA X (e::es') as es)(hg:Gl X x<|>R0)(hdb:DB x<|>R1)(he:SE e es' X<|>R0)(hpl:BT pos es' X<|>R0):
  VE X (.Call (.Name x p) (e::es') [] pos) (eA G as) es:=
 let⟨_,_,F,m,kp,b⟩:=d
 Eb F hr m kp b ha hg hdb he hpl
def lf(d:Def X.prog X.w X.K X.mg X.base x k ps G true)(hr:Room k X.A)(ha:JA X (e::es') as es)(hg:Gl X x<|>R0)(hdb:DB x<|>R1)(he:SE e es' X<|>R0)(hpl:BT pos es' X<|>R0):
  JF X (.Call (.Name x p) (e::es') [] pos) (eA G as) es:=⟨have ha:=ha.h;
 let⟨_,_,F,m,kp,b⟩:=d
 Ec F hr m kp b ha hg hdb he hpl⟩
def bH(d:Def X.prog X.w X.K X.mg X.base x k ps (scF G) fr)(hr:Room k X.A)(ha:JA X (e::es') as es)(hg:Gl X x<|>R0)(hdb:DB x<|>R1)(he:SE e es' X<|>R0)(hpl:BT pos es' X<|>R0):
  JE X (.Call (.Name x p) (e::es') [] pos) (eA (scF G) as) []:=⟨have ha:=ha.h;
 jv (Ev d hr ha hg hdb he hpl) λρ d h=>by ext(⟨ds,_,h2⟩:bind_some h);show(xB h2).2⟩
end
noncomputable def rB:D->Bool
 |.non=>true
 |_=>false
def dC:D->E_:=λd=>some (.bl (rB d))
def gr:D->E_:=λd=>some (.bl (!rB d))
def rC:D->D->E_
 |d,.non=>dC d
 |_,_=>none
def nH:D->D->E_
 |d,.non=>gr d
 |_,_=>none
def xC{d:D}(r:Rep K H v d):decide (v=.non)=rB d:=by ext r<;>rfl
def xD(K:K0):OpV K (λx y H Q=>y=.non/\Q (.bl (decide (x=.non))) H) rC:=λx y H dx dy d Q rx ry hg q=>by
 ext dy<;>first|(ext hg;done)|skip
 ext ry;have hg:some (D.bl _)=some d:=hg;ext hg;show⟨rfl,q _ _ (Same.refl H) ?_ λA _ _ _=>?_⟩<;>(rw[xC rx];show .bl _)
def xE(K:K0):OpV K (λx y H Q=>y=.non/\Q (.bl (!decide (x=.non))) H) nH:=λx y H dx dy d Q rx ry hg q=>by
 ext dy<;>first|(ext hg;done)|skip
 ext ry;have hg:some (D.bl _)=some d:=hg;ext hg;show⟨rfl,q _ _ (Same.refl H) ?_ λA _ _ _=>?_⟩<;>(rw[xC rx];show .bl _)
section
variable {fa:FE}{ea:F_}
def Ey(x y d:D)(h:nH x y=some d):aV d=true:=by ext y<;>first|(ext h;done)|(have h:some (D.bl _)=some d:=h;ext h;rfl)
def Ez(fa:FE):e2 rC fa (eC .non)=e1 dC fa:=by funext ρ;unfold e2 e1 eC;cases fa ρ<;>rfl
def EA(fa:FE):e2 nH fa (eC .non)=e1 gr fa:=by funext ρ;unfold e2 e1 eC;cases fa ρ<;>rfl
def rD{j}(ha:JE X a fa ea):JT X (.Compare a [.Is] [.Constant .none j p2] pos) (eT (e1 dC fa)):=⟨by have ha:=ha.h;rw[<- Ez];show jC vo (xD X.K) ha kR (di _)⟩
def EB{j}(ha:JE X a fa ea):JE X (.Compare a [.IsNot] [.Constant .none j p2] pos) (e1 gr fa) []:=⟨by have ha:=ha.h;rw[<- EA];show jB vp (xE X.K) ha kR (di _) Ey⟩
def xF{ds:D_}(r:Rep K H v (.tup ds)):∃p xs,v=V.ref p/\H p=some (.tup xs)/\Reps K H xs ds:=by
 cases r with
 |@tup p xs _ h1 h2=>show⟨p,xs,rfl,h1,h2⟩
def EC{ds:D_}(r:Rep K H v (.tup ds)):∃p xs,v=V.ref p/\Rd H p (.tup xs)/\Reps K H xs ds:=by
 cases r with
 |@tup p xs _ h1 h2=>show⟨p,xs,rfl,.inl h1,h2⟩
def ED{p:Addr}{ds:D_}{A:Addr->Prop}(h:Rd H p (.tup xs))(r:Rep K (az H A) (.ref p) (.tup ds)):Reps K (az H A) xs ds:=by ext(⟨q,ys,e,h1,h2⟩:EC r);ext e;rw[kO h (dG (aU _ _) h1)];show h2
end
def cj(d:D):Option D_:=if dt d=true then none else items d
def nI(t:Nat)(it:FE)(tb:FS):FS:=λρ=>(it ρ).bind λd=>(cj d).bind λds=>bU (λx ρ=>tb (ρ.set t (some x))) ds.reverse ρ
def rE:D->E_:=λd=>(cj d).bind λds=>some (.lst ds.reverse)
noncomputable def gX(ds:D_):D_:=ds.zipIdx.map λp=>.tup [.int (p.2:Nat),p.1]
noncomputable def gY(ds es:D_):D_:=(ds.zip es).map λp=>.tup [p.1,p.2]
def lh(a:FE):FEs:=λρ=>(a ρ).bind λd=>(cj d).bind λds=>some (gX ds)
def li(a b:FE):FEs:=λρ=>(a ρ).bind λd=>(b ρ).bind λe=>(cj d).bind λds=>(cj e).bind λes=>some (gY ds es)
def rF(I:Inv X G_ σ H s)(k:∀b o,b∉ch->s.heap.get? b=some o->h'.get? b=some o)(hf:∀b∈ch,ck X G_ H b):
  Inv X G_ σ H {s with heap:=h',toks:=t'}:=by
 have nit:∀b u,H b=some u->b∉ch:=λb u e z=>by rw[(hf b z).1]at e;ext e
 have hL:X.env.locals∉ch:=λz=>(hf _ z).2.1 rfl
 show I.step (g':=s.gens) (d':=s.drawn) (ch:=ch) (λb hb=>?_) (λb o _ _ hc e _=>k b o hc e) (λb o _ _ hc e _=>⟨o.slots,k b o hc e⟩) (λ_ _ _ _ n=>n)
  (λb o hc e=>⟨o,k b o hc e⟩) (λ_ _ e=>e) (λ_ _ _ e=>e) (λb ps e=>⟨#[],by rw[e];simp⟩) (λm hm=>?_) (λb u e=>?_) I.bare
 ·ext(⟨f0,f1,f2,f3,f4,f5⟩:hf b hb)
  show⟨f3,f1,f4,f5⟩
 ·ext(⟨o,es,ep,ho,r⟩:hm)
  show⟨o,es,ep,k _ o hL ho,r⟩
 ·show(I.hok b u e).stay (λc v hc q=>k c v ?_ q) (λ_ q=>q) λ_ _ q=>q
  ext((z|z):hc)
  ·rw[z];show nit b u e
  ·show nit c _ z
def nJ{T:Addr}(I:Inv X G_ σ H s)(hf:ck X G_ H T)(new:ObjOk X.prog X.w (upd H T o) s.heap T o):Inv X G_ σ (upd H T o) s:=by
 ext(⟨f0,f1,f2,f3,f4,f5⟩:hf);have key:=I.step (h':=s.heap) (H':=upd H T o) (g':=s.gens) (d':=s.drawn) (t':=s.toks) (ch:=[T]) (λb hb=>?_) (λb o _ _ hc e _=>e) (λb o _ _ hc e _=>⟨o.slots,e⟩) (λb o' hc e n=>by rw[aJ (⇑hc)];show n)
  (λb o hc e=>⟨o,e⟩) (λb xs e=>by rw[aJ (bZ e f0)];show e) (λb o u e=>by rw[aJ (bZ e f0)];show e) (λb ps e=>⟨#[],by rw[aJ (bZ e f0),e];simp⟩) (λm hm=>hm) (λb u e=>?_) I.bare
 ·show key
 ·have e:b=T:=⇑hb
  subst e;show⟨f3,f1,f4,f5⟩
 ·by_cases hb:b=T
  ·subst hb;rw[bi]at e;ext e;show new
  ·rw[aJ hb]at e
   show(I.hok b u e).stay (λc v _ q=>q) (λc q=>by rw[aJ (bZ q f0)];show q) λc xs q=>by rw[aJ (bZ q f0)];show q
noncomputable def Itv(K:K0)(a:Addr)(n:Nat):It:=
 ⟨λi H=>∃xs x,SqL K H a xs/\xs.length=n/\i<n/\xs[n-1-i]?=some x,λi H x H'=>H'=H/\∀xs,SqL K H a xs->xs[n-1-i]?=some x,λi H=>i=n⟩
def EE(a it:Addr)(n:Nat):Turn P w K tg (Itv K a n) [it] it (λi h=>h.IsRevIter it a ((n:Int)-1-(i:Nat))) where
 mem:=by simp
 obj:=λi h st b hb=>by
  have e:b=it:=⇑hb
  subst e;ext(⟨o,e,c,d⟩:st);show⟨o,e,λv z=>by rw[d]at z;ext z⟩
 keep:=λi h h' st k=>st.at λo e=>k it (by simp) o e
 item:=by
  intro X hP hw hK hc i G_ s σ H E I hf st hg;subst hP hw hK;ext(⟨xs,x,hq,hn,hi,hx⟩:hg);ext(⟨its,rv,p,hz⟩:I.list hq);ext(⟨u,hu,ru⟩:rv.get hx);ext(⟨f0,f1,f2,f3,f4,f5⟩:hf it (by simp));have st':s.heap.IsRevIter it a ((n-1-i:Nat):Int):=by
   have e:((n-1-i:Nat):Int)=(n:Int)-1-(i:Nat):=by ext
   rw[e];show st
  show wpAny_pyNext_rev_item st' p.isList (x:=u) (⇑hu) λh' st2 sb=>?_
  have I1:Inv X G_ σ H {s with heap:=h'}:=I.turned (t':=s.toks) (λb o hb e=>(sb.2 b hb).trans e) f0 f1 f3 f4 f5;ext(⟨o,e,c,d⟩:id st2);show⟨u,rfl,jj (s:={s with heap:=h'}) e c d (by decide) ⟨x,H,I1,ru,⟨rfl,λys hy=>by rw[I.list_inj hy hq];show hx⟩,?_,λb hb=>(hf b hb).1⟩⟩;have e:(n:Int)-1-((i+1:Nat):Int)=((n-1-i:Nat):Int)-1:=by ext
  change h'.IsRevIter it a ((n:Int)-1-((i+1:Nat):Int));rw[e];show st2
 done:=by
  intro X hP hw hK hc i G_ s σ H E I hf st hg;subst hP hw hK;have hg:i=n:=hg;subst hg;ext(⟨f0,f1,f2,f3,f4,f5⟩:hf it (by simp));have st':s.heap.IsRevIter it a (-1):=by
   have e:(-1:Int)=(i:Int)-1-(i:Nat):=by ext
   rw[e];show st
  show wpAny_pyNext_rev_end (I.ok.hd hc) st' λh' eb=>⟨rfl,I.turned (t':=s.toks) (λb o hb e=>eb b o hb e) f0 f1 f3 f4 f5⟩
 self:=λ_ _ _ _ _ st h=>wpAny_pyIter_revIter st h
def Ite(K:K0)(a:Addr):It:=
 ⟨λi H=>∃xs x,SqL K H a xs/\xs[i]?=some x,λi H x H'=>∃T y,H T=none/\x=.ref T/\H'=upd H T (.tup [.int (i:Nat),y])/\∀xs,SqL K H a xs->xs[i]?=some y,λi H=>∃xs,SqL K H a xs/\xs.length<=i⟩
def nK(I:Inv X G_ σ H s):ck X G_ H s.heap.objs.size:=I.fpOk (z9o _) (I.hok.fresh (z9o _))
def EF(a e it:Addr)(hei:e≠it):Turn P w K (.Tuple elts ek ep) (Ite K a) [e,it] e (λi h=>(∃old,IsEnum h e it (i:Nat) old)/\h.IsListIter it a i) where
 mem:=by simp
 obj:= λi h st b hb=>by
  ext(⟨⟨old,he⟩,hit⟩:st);have e:b=e\/b=it:=⇑hb
  ext((rfl|rfl):e)
  ·show⟨_,he,λv z=>by have z':Data.fields _=Data.cell v:=z;ext z'⟩
  ·ext(⟨o,e,c,d⟩:hit)
   show⟨o,e,λv z=>by rw[d]at z;ext z⟩
 keep:=λi h h' st k=>⟨let⟨old,he⟩:=st.1;⟨old,k e (by simp) _ he⟩,st.2.at λo q=>k it (by simp) o q⟩
 item:=by
  intro X hP hw hK hc i G_ s σ H E I hf st hg;subst hP hw hK;ext(⟨⟨old,he⟩,hit⟩:st);ext(⟨xs,x,hq,hx⟩:hg);ext(⟨its,rv,p,hz⟩:I.list hq);ext(⟨u,hu,ru⟩:rv.get hx);have fT:=nK I;have hsz:∀b∈[e,it],b<s.heap.objs.size:=λb hb=>by
   have:b=e\/b=it:=⇑hb
   ext((rfl|rfl):this)
   ·show z9n he
   ·ext(⟨o,q,_⟩:hit);show z9n q
  show wpAny_pyNext_enum_item he hit p.isList (x:=u) (⇑hu) hei λh' ho hit' hT hs' hk=>?_
  show⟨_,rfl,wpAny_letOwnedTupleGo_enum (s:={s with heap:=h',toks:=s.toks+1}) ho λh2 he2 hs2=>?_⟩;have hT2:h2.get? s.heap.objs.size=some {cls:=.type "tuple",data:=.seq #[.int i s.toks,u]}:=(hs2.2 _ (z4q (hsz e (by simp)))).trans hT;have I1:Inv X G_ σ H {s with heap:=h2,toks:=s.toks+1}:=rF I (λb o hb q=>(hs2.2 b λz=>hb (by simp[z])).trans (hk b o (λz=>hb (by simp[z])) (λz=>hb (by simp[z])) q)) hf;have I2:=nJ (o:=.tup [.int (i:Nat),x]) I1 fT ⟨show 2<=sizeLine by decide,[.int i s.toks,u],.cons ⟨_,rfl⟩ (.cons ru .nil),⟨_,hT2,rfl,_,rfl⟩⟩;show⟨.ref s.heap.objs.size,_,I2,rfl,⟨s.heap.objs.size,x,fT.1,rfl,rfl,λys hy=>by rw[I.list_inj hy hq];show hx⟩,⟨⟨u,?_⟩,?_⟩,λb hb=>?_⟩
  ·have q:((i+1:Nat):Int)=(i:Int)+1:=by ext
   change IsEnum h2 e it ((i+1:Nat):Int) u;rw[q];show he2
  ·show hit'.at λo q=>(hs2.2 it hei.symm).trans q
  ·rw[aJ (z8n (hsz b hb))];show(hf b hb).1
 done:=by intro X hP hw hK hc i G_ s σ H E I hf st hg;subst hP hw hK;ext(⟨⟨old,he⟩,hit⟩:st);ext(⟨xs,hq,hx⟩:hg);ext(⟨its,rv,p,hz⟩:I.list hq);have hl:=rv.length;ext(⟨f0,f1,f2,f3,f4,f5⟩:hf it (by simp));show wpAny_pyNext_enum_end (I.ok.hd hc) he hit p.isList (z4g (by simp;ext)) λh' eb=>⟨rfl,I.turned (t':=s.toks) (λb o hb e=>eb b o hb e) f0 f1 f3 f4 f5⟩
 self:=λ_ _ _ _ _ st h=>let⟨⟨_,he⟩,_⟩:=st;wpAny_pyIter_enum he h
def Itz(K:K0)(l1 l2:Addr):It:=
 ⟨λi H=>∃xs ys x y,SqL K H l1 xs/\SqL K H l2 ys/\xs[i]?=some x/\ys[i]?=some y,
  λi H v H'=>∃T x y,H T=none/\v=.ref T/\H'=upd H T (.tup [x,y])/\∀xs ys,SqL K H l1 xs->SqL K H l2 ys->xs[i]?=some x/\ys[i]?=some y,
  λi H=>∃xs ys,SqL K H l1 xs/\SqL K H l2 ys/\(xs.length<=i\/ys.length<=i)⟩
def EG(l1 l2 z TI TO i1 i2:Addr)(D:ZipApart z TI TO i1 i2 l1 l2):
  Turn P w K (.Tuple elts ek ep) (Itz K l1 l2) [z,TI,TO,i1,i2] z (λi h=>IsZip h z TI TO .none/\IsPair h TI (.ref i1) (.ref i2)/\(∃a b,IsPair h TO a b)/\h.IsListIter i1 l1 i/\h.IsListIter i2 l2 i) where
 mem:=by simp
 obj:= λi h st b hb=>by
  ext(⟨hz,hTI,⟨a,b',hTO⟩,h1,h2⟩:st);have e:b=z\/b=TI\/b=TO\/b=i1\/b=i2:=⇑hb
  ext((rfl|rfl|rfl|rfl|rfl):e)
  ·show⟨_,hz,λv z=>by have z':Data.fields _=Data.cell v:=z;ext z'⟩
  ·show⟨_,hTI,λv z=>by have z':Data.seq _ _=Data.cell v:=z;ext z'⟩
  ·show⟨_,hTO,λv z=>by have z':Data.seq _ _=Data.cell v:=z;ext z'⟩
  ·ext(⟨o,e,c,d⟩:h1)
   show⟨o,e,λv z=>by rw[d]at z;ext z⟩
  ·ext(⟨o,e,c,d⟩:h2)
   show⟨o,e,λv z=>by rw[d]at z;ext z⟩
 keep:=λi h h' st k=>by ext(⟨hz,hTI,⟨a,b',hTO⟩,h1,h2⟩:st);show⟨k z (by simp) _ hz,k TI (by simp) _ hTI,⟨a,b',k TO (by simp) _ hTO⟩,h1.at λo q=>k i1 (by simp) o q,h2.at λo q=>k i2 (by simp) o q⟩
 item:=by
  intro X hP hw hK hc i G_ s σ H E I hf st hg;subst hP hw hK;ext(⟨hz,hTI,⟨a,b',hTO⟩,h1,h2⟩:st);ext(⟨xs,ys,x,y,hq1,hq2,hx,hy⟩:hg);ext(⟨its1,rv1,p1,hz1⟩:I.list hq1);ext(⟨its2,rv2,p2,hz2⟩:I.list hq2);ext(⟨u,hu,ru⟩:rv1.get hx);ext(⟨v,hv,rv⟩:rv2.get hy);have fT:=nK I;have hsz:∀b∈[z,TI,TO,i1,i2],b<s.heap.objs.size:=λb hb=>by
   have e:b=z\/b=TI\/b=TO\/b=i1\/b=i2:=⇑hb
   ext((rfl|rfl|rfl|rfl|rfl):e)
   ·show z9n hz
   ·show z9n hTI
   ·show z9n hTO
   ·ext(⟨o,q,_⟩:h1);show z9n q
   ·ext(⟨o,q,_⟩:h2);show z9n q
  show wpAny_pyNext_zip_item D hz hTI hTO h1 h2 p1.isList p2.isList (x:=u) (y:=v) (⇑hu) (⇑hv) λh' hz' hTO' h1' h2' hT hs' hk=>?_
  show⟨_,rfl,wpAny_letOwnedTupleGo_zip (s:={s with heap:=h'}) hz' λh3 hz3 hs3=>?_⟩;have hT3:IsPair h3 s.heap.objs.size u v:=(hs3.2 _ (z4q (hsz z (by simp)))).trans hT;have I1:Inv X G_ σ H {s with heap:=h3,toks:=s.toks}:=rF I (λb o hb q=>(hs3.2 b λz=>hb (by simp[z])).trans (hk b o (λz=>hb (by simp[z])) (λz=>hb (by simp[z])) (λz=>hb (by simp[z])) (λz=>hb (by simp[z])) q)) hf;have I2:=nJ (o:=.tup [x,y]) I1 fT ⟨show 2<=sizeLine by decide,[u,v],.cons ru (.cons rv .nil),⟨_,hT3,rfl,_,rfl⟩⟩;show⟨.ref s.heap.objs.size,_,I2,rfl,⟨s.heap.objs.size,x,y,fT.1,rfl,rfl,λas bs ha hb=>⟨by rw[I.list_inj ha hq1];show hx,by rw[I.list_inj hb hq2];show hy⟩⟩,⟨hz3,?_,⟨u,v,?_⟩,?_,?_⟩,λb hb=>?_⟩
  ·show(hs3.2 TI D.TIz).trans (hk TI _ D.TIz D.TITO D.TIi1 D.TIi2 hTI)
  ·show(hs3.2 TO D.TOz).trans hTO'
  ·show h1'.at λo q=>(hs3.2 i1 D.i1z).trans q
  ·show h2'.at λo q=>(hs3.2 i2 D.i2z).trans q
  ·rw[aJ (z8n (hsz b hb))];show(hf b hb).1
 done:=by
  intro X hP hw hK hc i G_ s σ H E I hf st hg;subst hP hw hK;ext(⟨hz,hTI,⟨a,b',hTO⟩,h1,h2⟩:st);ext(⟨xs,ys,hq1,hq2,hx⟩:hg);ext(⟨its1,rv1,p1,hz1⟩:I.list hq1);ext(⟨its2,rv2,p2,hz2⟩:I.list hq2);have l1:=rv1.length;have l2:=rv2.length;show wpAny_pyNext_zip_end (I.ok.hd hc) D hz hTI hTO h1 h2 p1.isList p2.isList (hx.imp (λq=>z4g (by simp;ext)) λq=>z4g (by simp;ext)) λh' hk=>⟨rfl,?_⟩
  show rF (t':=s.toks) I (λb o hb q=>hk b o (λz=>hb (by simp[z])) (λz=>hb (by simp[z])) (λz=>hb (by simp[z])) (λz=>hb (by simp[z])) q) hf
 self:=λ_ _ _ _ _ st h=>wpAny_pyIter_zip st.1 h
section
variable {ta:TA}
def EH(K:K0)(ta:TA):TI:=λσ H R=>ta σ H λvs H1=>∃p xs,vs=[.ref p]/\SqL K H1 p xs/\R (Itv K p xs.length) H1
def EI(hg:Gl X "reversed")(hm:X.mg "reversed"=none)(ha:PA X [a] ta)(hs:starEach [a] X.env=[(false,eval a X.env)]<|>R0):PI X tg (.Call (.Name "reversed" pn) [a] [] pr) (EH X.K ta):=by
 intro G_ s σ H R I h;show Call_ (eG I hg hm boot_reversed (z8v (cK (ha pr G_ s σ H _ I h) λus s1 vs H1 I1 r1 q1=>?_) hs rfl));ext(⟨p,xs,rfl,hq,q⟩:q1);ext(⟨u,rfl,ru⟩:eg r1);ext ru;ext(⟨its,rv,pl,hz⟩:I1.list hq);have hl:=rv.length;show call_reversed_list pl.isList ?_;have e0:(s1.heap.push (revObj p ((its.toArray.size:Int)-1))).get? s1.heap.objs.size=some (revObj p ((its.toArray.size:Int)-1)):=z8q _ rfl;show wpAny_pyIter_revIter ⟨_,e0,rfl,rfl⟩ ?_;show⟨s1.heap.objs.size,[s1.heap.objs.size],_,_,H1,rfl,I1.kept (t':=s1.toks) λb o e=>z9m _ e,EE p _ xs.length,⟨_,e0,rfl,?_⟩,λb hb=>?_,q⟩
 ·rw[hl];simp[revObj]
 have e:b=s1.heap.objs.size:=⇑hb
 subst e;show I1.fpOk (z9o _) (I1.hok.fresh (z9o _))
def EJ(K:K0)(ta:TA):TI:=λσ H R=>ta σ H λvs H1=>∃p xs,vs=[.ref p]/\SqL K H1 p xs/\R (Ite K p) H1
def EK(hg:Gl X "enumerate")(hm:X.mg "enumerate"=none)(ha:PA X [a] ta)(hs:starEach [a] X.env=[(false,eval a X.env)]<|>R0):PI X (.Tuple elts ek ep) (.Call (.Name "enumerate" pn) [a] [] pr) (EJ X.K ta):=by
 intro G_ s σ H R I h;show Call_ (eG I hg hm boot_enumerate (z8v (cK (ha pr G_ s σ H _ I h) λus s1 vs H1 I1 r1 q1=>?_) hs rfl));ext(⟨p,xs,rfl,hq,q⟩:q1);ext(⟨u,rfl,ru⟩:eg r1);ext ru;ext(⟨its,rv,pl,hz⟩:I1.list hq);show call_enumerate_list pl.isList λh' he hit hsz hk=>?_
 show wpAny_pyIter_enum he ?_;show⟨s1.heap.objs.size+1,[s1.heap.objs.size+1,s1.heap.objs.size],_,_,H1,rfl,I1.kept (t':=s1.toks) λb o e=>hk b o e,EF p _ _ (by simp),⟨⟨_,he⟩,hit⟩,λb hb=>?_,q⟩;have e:b=s1.heap.objs.size+1\/b=s1.heap.objs.size:=⇑hb
 ext((rfl|rfl):e)
 ·show I1.fpOk ∅ (I1.hok.fresh ∅)
 ·show I1.fpOk (z9o _) (I1.hok.fresh (z9o _))
def EL(K:K0)(ta:TA):TI:=λσ H R=>ta σ H λvs H1=>∃p p' xs ys,vs=[.ref p,.ref p']/\SqL K H1 p xs/\SqL K H1 p' ys/\R (Itz K p p') H1
def EM(hg:Gl X "zip")(hm:X.mg "zip"=none)(ha:PA X [a,b] ta)(hs:starEach [a,b] X.env=[(false,eval a X.env),(false,eval b X.env)]<|>R0)(hs2:starEach [b] X.env=[(false,eval b X.env)]<|>R0):
  PI X (.Tuple elts ek ep) (.Call (.Name "zip" pn) [a,b] [] pr) (EL X.K ta):=by
 intro G_ s σ H R I h;show Call_ (eG I hg hm boot_zip (z8v (cK (ha pr G_ s σ H _ I h) λus s1 vs H1 I1 r1 q1=>?_) (by rw[hs,hs2]) (by rw[hs2];rfl)));ext(⟨p,p',xs,ys,rfl,hq,hq',q⟩:q1);cases r1 with
 | cons ru rr=>
   cases rr with
   | cons rv' rr=>
     ext rr;ext ru;ext rv';ext(⟨its,rv,pl,hz⟩:I1.list hq);ext(⟨its',rv',pl',hz'⟩:I1.list hq');have lt1:p<s1.heap.objs.size:=by ext(⟨o,e,_⟩:pl.isList);show z9n e
     have lt2:p'<s1.heap.objs.size:=by ext(⟨o,e,_⟩:pl'.isList);show z9n e
     show call_zip_2 pl.isList pl'.isList λh' hz hTI hTO hit1 hit2 hsz hk=>?_
     show wpAny_pyIter_zip hz ?_;show⟨s1.heap.objs.size+4,[s1.heap.objs.size+4,s1.heap.objs.size+2,s1.heap.objs.size+3,s1.heap.objs.size,s1.heap.objs.size+1],_,_,H1,rfl,I1.kept (t':=s1.toks) λb o e=>hk b o e,
      EG p p' _ _ _ _ _ (zipApart_new lt1 lt2),⟨hz,hTI,⟨_,_,hTO⟩,hit1,hit2⟩,λb hb=>?_,q⟩
     have e:b=s1.heap.objs.size+4\/b=s1.heap.objs.size+2\/b=s1.heap.objs.size+3\/b=s1.heap.objs.size\/b=s1.heap.objs.size+1:=⇑hb
     ext((rfl|rfl|rfl|rfl|rfl):e)<;>show I1.fpOk ∅ (I1.hok.fresh ∅)
end
def ll{d:D}{ds:D_}(h:cj d=some ds):dt d=false/\items d=some ds:=by
 unfold cj at h;cases ht:dt d with
 |true=>rw[if_pos ht]at h;ext h
 |false=>rw[if_neg (by rw[ht];show z8l)]at h;show⟨rfl,h⟩
def EN{ds:D_}{d:D}(h:(gX ds)[i]?=some d):∃e,ds[i]?=some e/\d=.tup [.int (i:Nat),e]:=by
 unfold gX at h;rw[z9x,List.getElem?_zipIdx]at h;cases e:ds[i]? with
 |none=>rw[e]at h;ext h
 |some x=>rw[e]at h;simp at h;show⟨x,rfl,h.symm⟩
def EO{ds es:D_}{d:D}(h:(gY ds es)[i]?=some d):∃a b,ds[i]?=some a/\es[i]?=some b/\d=.tup [a,b]:=by
 unfold gY at h;rw[z9x]at h;cases e:(ds.zip es)[i]? with
 |none=>rw[e]at h;ext h
 |some p=>rw[e]at h;ext(⟨h1,h2⟩:z6w.mp e);simp at h;show⟨p.1,p.2,h1,h2,h.symm⟩
def EQ(ds:D_):(gX ds).length=ds.length:=by simp[gX]
def ER(ds es:D_):(gY ds es).length=min ds.length es.length:=by simp[gY]
section
variable {fa fb:FE}{ea eb:F_}
def xG(mr:X.mg "enumerate"=none)(h:JB X a fa ea)(hg:Gl X "enumerate"<|>R0)(hst:starEach [a] X.env=[(false,eval a X.env)]<|>R0):JI X (.Tuple elts ek ep) (.Call (.Name "enumerate" pn) [a] [] pr) (lh fa) ea:=⟨have h:=h.h;
 nv (EK hg mr (bS h ca hst) hst) λσ H R ρ ds hE hf hR=>by ext(⟨d,h1,hf⟩:bind_some hf);ext(⟨es,h2,hf⟩:bind_some hf);ext hf;ext(⟨ht,hi⟩:ll h2);show⟨ρ,d,hE,h1,λv H1 p=>?_⟩;ext(⟨q,xs,rfl,hq,hx,hA⟩:fq p.rep hi ht);have len:=hx.length;show⟨q,xs,rfl,hq,hR _ _ ⟨p.same,λi d' H' hd e=>?_,λH' e=>⟨xs,e.seq hq,by rw[EQ];ext⟩⟩⟩;ext(⟨e',hd2,rfl⟩:EN hd);ext(⟨x,h3,h4⟩:hx.get hd2);show⟨⟨xs,x,e.seq hq,h3⟩,λy H'' z_=>?_⟩;ext(⟨T,y',hT,ey,eH,hy⟩:z_);subst ey eH;have e2:=hy xs (e.seq hq);rw[h3]at e2;ext e2;have sn:=bj hT (.tup [.int (i:Nat),x]);show⟨sn,.tup bi (.cons (.int _) (.cons (aA (e.trans sn) h4) .nil)),λA hD hz=>?_⟩;ext(⟨x',h5,h6⟩:(hA A (p.av A hD hz)).get hd2);rw[h3]at h5;ext h5;show .tup ?_ (.cons (.int _) (.cons (aA (cz (e.trans sn)) h6) .nil));rw[cb ((hD.mono (p.same.trans e)).not_new hT)];show bi⟩
def xH(mr:X.mg "zip"=none)(ha:JB X a fa ea)(hb:JB X b fb eb)(hg:Gl X "zip"<|>R0)(hst:starEach [a,b] X.env=[(false,eval a X.env),(false,eval b X.env)]<|>R0)(hst2:starEach [b] X.env=[(false,eval b X.env)]<|>R0):
  JI X (.Tuple elts ek ep) (.Call (.Name "zip" pn) [a,b] [] pr) (li fa fb) (ea++eb):=⟨have ha:=ha.h;have hb:=hb.h;
 nv (EM hg mr (bS ha (bS hb ca hst2) (by unfold SE;rw[hst,hst2])) hst hst2) λσ H R ρ ds hE hf hR=>by ext(⟨d,h1,hf⟩:bind_some hf);ext(⟨d2,h1',hf⟩:bind_some hf);ext(⟨es,h2,hf⟩:bind_some hf);ext(⟨es2,h2',hf⟩:bind_some hf);ext hf;ext(⟨ht,hi⟩:ll h2);ext(⟨ht',hi'⟩:ll h2');show⟨ρ,d,hE,h1,λv H1 p1=>⟨ρ,d2,hE.mono p1.same,h1',λv2 H2 p2=>?_⟩⟩;have p:=p1.up p2.same;have p':=p2.down p1.same;ext(⟨q,xs,rfl,hq,hx,hA⟩:fq p.rep hi ht);ext(⟨q',ys,rfl,hq',hy,hA'⟩:fq p'.rep hi' ht');have len:=hx.length;have len':=hy.length;show⟨q,q',xs,ys,rfl,hq,hq',hR _ _ ⟨p.same,λi d' H' hd e=>?_,λH' e=>⟨xs,ys,e.seq hq,e.seq hq',by rw[ER];ext⟩⟩⟩;ext(⟨e1,e2,hd1,hd2,rfl⟩:EO hd);ext(⟨x,h3,h4⟩:hx.get hd1);ext(⟨y,h3',h4'⟩:hy.get hd2);show⟨⟨xs,ys,x,y,e.seq hq,e.seq hq',h3,h3'⟩,λw H'' z_=>?_⟩;ext(⟨T,x',y',hT,ey,eH,hxy⟩:z_);subst ey eH;ext(⟨g1,g2⟩:hxy xs ys (e.seq hq) (e.seq hq'));rw[h3]at g1;ext g1;rw[h3']at g2;ext g2;have sn:=bj hT (.tup [x,y]);show⟨sn,.tup bi (.cons (aA (e.trans sn) h4) (.cons (aA (e.trans sn) h4') .nil)),λA hD hz=>?_⟩;ext(⟨x'',h5,h6⟩:(hA A (p.av A hD λz hz'=>hz z (z8g _ hz'))).get hd1);rw[h3]at h5;ext h5;ext(⟨y'',h5',h6'⟩:(hA' A (p'.av A hD λz hz'=>hz z (z9q _ hz'))).get hd2);rw[h3']at h5';ext h5';show .tup ?_ (.cons (aA (cz (e.trans sn)) h6) (.cons (aA (cz (e.trans sn)) h6') .nil));rw[cb ((hD.mono (p.same.trans e)).not_new hT)];show bi⟩
end
def ES{a:Addr}{g:TG}{tb:TS}{D:Ends}(Pv:Nat->St->Hp->Prop)(h0:Pv 0 σ H)(hl:∀i σ H,i<=xs.length->Pv i σ H->SqL K H a xs)(hs:∀i x σ H,xs.reverse[i]?=some x->Pv i σ H->g x σ H λσ2 H2=>tb {D with nx:=Pv (i+1),ct:=Pv (i+1),bk:=D.nx} σ2 H2)(hd:∀σ H,Pv xs.length σ H->D.nx σ H):
  ∃W:Nat->Nat->St->Hp->Prop,(∃m,W 0 m σ H)/\∀i m σ H,W i m σ H ->
    ((Itv K a xs.length).stop i H/\D.nx σ H)\/((Itv K a xs.length).go i H/\∃N:St->Hp->Prop,(∀σ' H',N σ' H'->∃m',m'<m/\W (i+1) m' σ' H')/\∀x H',(Itv K a xs.length).yld i H x H'->g x σ H' λσ2 H2=>tb {D with nx:=N,ct:=N,bk:=D.nx} σ2 H2):=by
 show⟨λi m σ H=>m=xs.length-i/\i<=xs.length/\Pv i σ H,⟨xs.length,by simp,z7r _,h0⟩,?_⟩;rintro i m σ H ⟨rfl,hi,p⟩;have q:=hl i σ H hi p;by_cases hlt:i<xs.length
 ·have hlt':xs.length-1-i<xs.length:=by ext
  show .inr ⟨⟨xs,xs[xs.length-1-i],q,rfl,hlt,by simp[hlt']⟩,Pv (i+1),λσ' H' p'=>⟨xs.length-(i+1),by ext,rfl,hlt,p'⟩,λx H' y=>?_⟩;ext(⟨e,y⟩:y);subst e;show hs i x σ _ (by rw[z4l hlt];show y xs q) p
 ·have e:i=xs.length:=by ext
  subst e;show .inl ⟨rfl,hd σ H p⟩
section
variable {F:Fr0}{fa:FE}{ea:F_}{tb:FS}
theorem ET(t:Nat)(Ol:z9)(hN:X.N.Nodup)(hc:X.calm=true)(mr:X.mg "reversed"=none)(hi:JE X a fa ea)(hb:JSs X F Ol body tb O2 Ol fr)(h1:(∀i∈Ol,i∈dI O ea)<|>R1)(h2:(∀i∈Ol,i∈O2)<|>R1)(h3:t∉Ol<|>R1)(hp:PassesOwn (model X.prog X.w) X.A X.env X.xe<|>R7)(hg:Gl X "reversed"<|>R0)(hst:starEach [a] X.env=[(false,eval a X.env)]<|>R0)(hxN:X.N[t]?=some x<|>R0)(hx:Loc X.env.scope x<|>R3)(hfn:X.fn x=true\/X.env.scope.names.lookup x=some .local<|>R3)(hs:(∀x,foldedSetIterable (.Call (.Name "reversed" pn) [a] [] pr) X.env x=pure x)<|>R4):JS X F O (.For (.Name x p2) (.Call (.Name "reversed" pn) [a] [] pr) body [] pos) (nI t fa tb) Ol OL fr:=⟨have hi:=hi.h;have hb:=hb.h;λheld=>by
 have hb':PSs X body (λDe σ H=>∃p:Hd,ts X.K F (p::held) Ol Ol Ol fr tb De σ H):=λG_ s σ H De I z_=>by ext(⟨p,h⟩:z_);show l5 hb h2 (p::held) G_ s σ H De I h
 show dA (jk hp hc (EI hg mr (bS hi ca hst) hst) (gM hN hxN hx hfn) hb' hs) λDe σ H h=>?_
 ext(⟨ρ,o,hE,hf,hQ⟩:h);ext(⟨d,hd,hf⟩:bind_some hf);ext(⟨ds,hsq,hf⟩:bind_some hf);ext(⟨ht,hds⟩:ll hsq);show⟨ρ,d,hE.envR,hd,λv H1 p=>?_⟩;ext(⟨hE1,hr⟩:hE.eval p);have hE2:=hE1.weaken h1;have hr2:∀A,F.PA A->Rep X.K (az H1 (Off σ Ol A)) v d:=λA hA=>aA (cD (λ_ _ q=>q) (n9 h1)) (hr A hA)
 ext(⟨q,xs,rfl,hq⟩:xb hr2 hds ht);have len:xs.length=ds.length:=(hq _ F.none).2.length;show⟨q,xs,rfl,(aU _ _).seq (hq _ F.none).1,?_⟩;show ES (K:=X.K) (a:=q) (xs:=xs) (g:=c9 t) (tb:=λDe σ H=>∃p:Hd,ts X.K F (p::held) Ol Ol Ol fr tb De σ H) (D:=De) (λi σ' H'=>∃ρ',EnvO X.K F (hdL X.K q xs ds::held) Ol σ' ρ' H'/\bU (λx ρ=>tb (ρ.set t (some x))) (ds.reverse.drop i) ρ'=some o) ⟨ρ,hE2.hold hq,⇑hf⟩ ?_ ?_ ?_
 ·rintro i σ' H' _ ⟨ρ',hE',_⟩
  show(aU _ _).seq (hE'.hld _ z9b _ F.none).1
 ·rintro i y σ' H' hy ⟨ρ',hE',hf'⟩
  ext(⟨dy,h4,_⟩:(hE'.hld _ z9b _ F.none).2.reverse.getV hy);have h5:∀A,F.PA A->Rep X.K (az H' (Off σ' Ol A)) y dy:=λA hA=>by ext(⟨dy',h6,h7⟩:(hE'.hld _ z9b A hA).2.reverse.getV hy);rw[h4]at h6;ext h6;show h7
  have h4:ds.reverse[i]?=some dy:=h4;have hi':i<ds.reverse.length:=(z9e.mp h4).1;have ed:ds.reverse.drop i=dy::ds.reverse.drop (i+1):=by rw[z8k hi'];have e2:ds.reverse[i]=dy:=(z9e.mp h4).2;rw[e2]
  rw[ed]at hf';have hf2:=hf';rw[l8]at hf2;ext(⟨o1,h8,_⟩:bind_some hf2);show⟨hdL X.K q xs ds,ρ'.set t (some dy),o1,hE'.set h3 h5,h8,?_⟩;show r8 h8 hf' hQ (λ_ _ _ z=>z.unhold) λσ'' H'' ρ'' hE'' hf''=>⟨ρ'',hE'',hf''⟩
 ·rintro σ' H' ⟨ρ',hE',hf'⟩
  rw[len,<- z6a,z6q]at hf';ext hf';show hQ σ' H' hE'.unhold⟩
end
def EU:typeLookup (.type "list_reverseiterator") "__len__"=pure none:=by rw[typeLookup_type,builtinLookup_eq_fast];kernel_rfl
def EV:typeLookup (.type "list_reverseiterator") "__length_hint__"=pure (some (.builtin "list_reverseiterator.__length_hint__")):=by rw[typeLookup_type,builtinLookup_eq_fast];kernel_rfl
section
variable {I:Addr}{wr:l_}{G:Array GenState->Array GenState->Prop}{P:Nat->Value->Prop}{St:Nat->Shared->Prop}
theorem EW(W:WalksS prog w A.in1 I fp wr G n P St)(hT:∀i s,St i s->s.TypeIs (.ref I) "list_reverseiterator")(S:Addr)(res:Value)(q_:Nat)(hst:St 0 s)(hSf:S∉fp)(hI:I∈fp)(hS:s.heap.get? S=some {cls:=.type "list",data:=.seq #[] q_})(hR:∀s' acc' c',Moved (S::wr) G s s'->s'.heap.get? S=some {cls:=.type "list",dict:=none,data:=.seq acc' c',slots:=#[]}->ItemsOf P acc' n->R (.ok (.ret res)) s')(hn:n<=sizeLine):
  wpAny (model prog w) A.in1 (Builtin.List.listExtendWith (.ref S) (.ref I) res)
   (λfin s'=>match fin with | .done f=>R (.ok f) s' | .again c'=>c'.quiet=true/\codeAny (model prog w) A c' R s') (λe s'=>R (.error e) s') s:=by
 have hSI:S≠I:=λe=>hSf (e▸hI)
 unfold Builtin.List.listExtendWith;show z9i (wpAny_typeOf (hT 0 _ hst) ?_);have h1:Builtin.List.listSameRef (.ref S) (.ref I)=false:=by simp[Builtin.List.listSameRef,hSI]
 rw[if_neg (by rw[h1];decide)];show z9i (W.self 0 _ _ _ hst ?_);show z9i (z3i ?_);unfold Builtin.List.listLengthHint;show z9i (wpAny_specialOf (hT 0 _ hst) EU ?_);change wpAny _ A.in1 (specialOf (Value.ref I) (Str.ofString "__length_hint__") >>= _) _ _ _;show z9i (wpAny_specialOf (hT 0 _ hst) EV ?_)
 (generalize hid:("list_reverseiterator.__length_hint__" : String)=id0;(fail_if_success (clear hid id0));wp_delta;rw[show splitId id0=some ("list_reverseiterator","__length_hint__")from by subst hid;decide +kernel];subst hid)
 show z9i (wpAny_isInstance (b:=true) (hT 0 _ hst) (by rw[isSubtype_type];kernel_rfl) ?_);show z8a ?_;rw[if_neg (by decide)];show z8a ⟨plainId_quiet F.plain_extend_loop _,codeAny_extend_loopS W hn _ hSf _ n 0 _ _ _ rfl (z7r _) hst hS (ItemsOf.nil P) λs' acc' c' hm hS' hacc=>hR s' acc' c' hm hS' hacc⟩
def EY(W:WalksS prog w A.in1 I fp wr G n P St)(hT:∀i s,St i s->s.TypeIs (.ref I) "list_reverseiterator")(S:Addr)(hst:St 0 s)(hSf:S∉fp)(hI:I∈fp)(hS:s.heap.get? S=some {cls:=.type "list",data:=.seq #[]})(hR:∀s' acc' c',Moved (S::wr) G s s'->s'.heap.get? S=some {cls:=.type "list",dict:=none,data:=.seq acc' c',slots:=#[]}->ItemsOf P acc' n->R (.ok (.ret .none)) s')(hn:n<=sizeLine):
  wpAny (model prog w) A.in1 (Builtin.«list.__init__» ⟨[.ref S,.ref I],[]⟩)
   (λfin s'=>match fin with | .done f=>R (.ok f) s' | .again c'=>c'.quiet=true/\codeAny (model prog w) A c' R s') (λe s'=>R (.error e) s') s:=by
 change wpAny _ A.in1 (do let old <- Builtin.List.listItems (.ref S);Builtin.List.listUpdate (.ref S) (λ_=>#[]);letGo old.toList.reverse;Builtin.List.listExtendWith (.ref S) (.ref I) .none) _ _ s;show z9i ?_;unfold Builtin.List.listItems;show z9i (wpAny_seqItems hS rfl (z8a ?_));change wpAny _ A.in1 (updateSeq S (λ_=>#[]) >>= λ_=>letGo (#[]:Array Value).toList.reverse >>= λ_=>Builtin.List.listExtendWith (.ref S) (.ref I) .none) _ _ s;show z9i (wpAny_updateSeq hS rfl ?_);have r_:=z4j (Obj.mapSeq (λ_=>(#[]:Array Value))) hS rfl;have oth:∀b o,b≠S->s.heap.get? b=some o->(s.heap.update S (Obj.mapSeq (λ_=>(#[]:Array Value)))).get? b=some o:=
  λb o hb e=>(z6c _ _ (Ne.symm hb)).trans e
 show z9i (wpAny_letGo ?_);show EW (hn:=hn) W hT S .none _ (W.frame 0 s _ s.toks hst (z9o _) λb hb o e=>oth b o (λh=>hSf (h▸hb)) e) hSf hI r_ λs' acc' c' hm hS' hacc=>?_
 show hR s' acc' c' (Moved.trans W.gtrans ((Moved.refl W.grefl).then_heap (z9o _) λb o hb e=>oth b o (λh=>hb (h▸z9b)) e) hm) hS' hacc
end
theorem EZ{items:Array Value}{Q:Value->Shared->Prop}(hh:A.handled=none)(hit:s.heap.IsRevIter it l ((items.size:Int)-1))(hl:s.heap.IsList l items)(hne:l≠it)(hn:items.size<=sizeLine)(hQ:∀(h':Heap) (tk:Nat) (acc':Array Value) (c':Nat),(∀b o,b≠it->s.heap.get? b=some o->h'.get? b=some o) ->
   h'.get? s.heap.objs.size=some {cls:=.type "list",dict:=none,data:=.seq acc' c',slots:=#[]}->ItemsOf (λi v=>items[items.size-1-i]?=some v) acc' items.size->Q (.ref s.heap.objs.size) {s with heap:=h',toks:=tk}):
  wpAny (model prog w) A (call (.type "list") [.ref it]) Q E s:=by
 show callType_codes (Q₁:=λobj z0=>obj=.ref s.heap.objs.size/\z0={s with heap:=s.heap.push {cls:=.type "list",data:=.seq #[]}}) F.called_list (F.typeCall_list_1 _) F.entry_list_init
  (code_list_new _ ⟨rfl,rfl⟩) λobj z0 w_=>?_
 ext(⟨rfl,rfl⟩:w_);have hS:(s.heap.push {cls:=.type "list",data:=.seq #[]}).get? s.heap.objs.size=some {cls:=.type "list",data:=.seq #[]}:=z8q _ rfl;have lt1:it<s.heap.objs.size:=by ext(⟨o,e,_⟩:hit);show z9n e
 have lt2:l<s.heap.objs.size:=by ext(⟨o,e,_⟩:hl);show z9n e
 have W:=(Walks.listRev (prog:=prog) (w:=w) (A:=A.in1.in1) hh it l hne items).toS;show⟨⟨_,hS,rfl⟩,F.args_list_init_2 _ _,EY (A:=A.in1) W (λi s st=>let⟨o,ho,hc,_⟩:=st.2.1;⟨o,ho,hc⟩) _ ?_ ?_ (by simp) hS (λs' acc' c' hm hS' hacc=>?_) hn⟩
 ·show⟨z7r _,?_,hl.at λo e=>z9m _ e⟩
  have:(items.size:Int)-1-((0:Nat):Int)=(items.size:Int)-1:=by ext
  rw[this];show hit.at λo e=>z9m _ e
 ·intro hm
  have e:s.heap.objs.size=it\/s.heap.objs.size=l:=⇑hm
  ext((e|e):e)
  ·show absurd e (z4q lt1)
  ·show absurd e (z4q lt2)
 ·rw[Moved.eq_with hm]
  show⟨rfl,hQ s'.heap s'.toks acc' c' (λb o hb e=>hm.heap b o (λhmem=>?_) (z9m _ e)) hS' hacc⟩;have lt:=z9n e;have e':b=s.heap.objs.size\/b=it:=⇑hmem
  ext((e' | e'):e')
  ·show absurd e' (z8n lt)
  ·show hb e'
section
variable {fa:FE}{ea:F_}{ta:TA}
def F0(K:K0)(ta:TA):TE:=λσ H Q=>ta σ H λvs H1=>∃q xs,vs=[.ref q]/\SqL K H1 q xs/\∀l,H1 l=none->Q (.ref l) (upd H1 l (.lst xs.reverse))
def xI(hc:X.calm=true)(hgl:Gl X "list")(ml:X.mg "list"=none)(hgr:Gl X "reversed")(mr:X.mg "reversed"=none)(ha:PA X [a] ta)(hs:starEach [a] X.env=[(false,eval a X.env)])(hs2:starEach [.Call (.Name "reversed" p2) [a] [] pos2] X.env=[(false,eval (.Call (.Name "reversed" p2) [a] [] pos2) X.env)]):
  PE X (.Call (.Name "list" p) [.Call (.Name "reversed" p2) [a] [] pos2] [] pos) (F0 X.K ta):=by
 intro G_ s σ H Q I h;show Call_ (eG I hgl ml PyProof.Rows.boot_list (z8v ?_ hs2 rfl));rw[hs2];change wpAny _ _ (spliced ((false,eval (.Call (.Name "reversed" p2) [a] [] pos2) X.env)::backTo pos [])) _ _ s;show z3e ?_;show Call_ (eG I hgr mr boot_reversed (z8v (cK (ha pos2 G_ s σ H _ I h) λus s1 vs H1 I1 r1 q1=>?_) hs rfl));ext(⟨q,xs,rfl,hq,hQ⟩:q1);ext(⟨u,rfl,ru⟩:eg r1);ext ru;ext(⟨its,rv,pl,hz⟩:I1.list hq);have hl:=rv.length;have lt:q<s1.heap.objs.size:=by ext(⟨o,e,_⟩:pl.isList);show z9n e
 show call_reversed_list pl.isList ?_;show z3j ?_;have e0:(s1.heap.push (revObj q ((its.toArray.size:Int)-1))).get? s1.heap.objs.size=some (revObj q ((its.toArray.size:Int)-1)):=z8q _ rfl;have I2:Inv X G_ σ H1 {s1 with heap:=s1.heap.push (revObj q ((its.toArray.size:Int)-1)),toks:=s1.toks}:=I1.kept λb o e=>z9m _ e
 have fp:ck X G_ H1 s1.heap.objs.size:=I1.fpOk (z9o _) (I1.hok.fresh (z9o _));show EZ (it:=s1.heap.objs.size) (l:=q) (items:=its.toArray) (I.ok.hd hc) ⟨_,e0,rfl,rfl⟩ (pl.isList.at λo e=>z9m _ e) (z8n lt) (by simpa using(show its.length<=sizeLine by ext)) λh' tk acc c hk hS hacc=>?_
 have fS:ck X G_ H1 (s1.heap.push (revObj q ((its.toArray.size:Int)-1))).objs.size:=nK I2;ext(⟨f0,f1,f2,f3,f4,f5⟩:fp);have I3:Inv X G_ σ H1 {s1 with heap:=h',toks:=tk}:=I2.turned (t':=tk) (λb o hb e=>hk b o hb e) f0 f1 f3 f4 f5;ext(⟨al,hal⟩:hacc);have hv:Vals xs.reverse acc.toList:=by
  have:acc.toList=its.reverse:=by
   show List.ext_getElem (by simp[al]) λi h1 h2=>?_
   have hi:i<its.toArray.size:=⇑h2
   have q1:=hal i (acc.toList[i]) (by simp);have hi2:its.length-1-i<its.length:=by simp at hi;ext
   rw[List.getElem_reverse];simp[hi2]at q1;show q1.symm
  rw[this];show rv.reverse
 have I4:=nJ (o:=.lst xs.reverse) I3 fS ⟨by rw[z6a];ext,acc.toList,c,hv,⇑hS⟩;show⟨.ref _,_,I4,rfl,hQ _ fS.1⟩
def F3(ml:X.mg "list"=none)(mr:X.mg "reversed"=none)(ha:JB X a fa ea)(hc:X.calm=true<|>R0)(hgl:Gl X "list"<|>R0)(hgr:Gl X "reversed"<|>R0)(hs:starEach [a] X.env=[(false,eval a X.env)]<|>R0)(hs2:starEach [.Call (.Name "reversed" p2) [a] [] pos2] X.env=[(false,eval (.Call (.Name "reversed" p2) [a] [] pos2) X.env)]<|>R0):
  JF X (.Call (.Name "list" p) [.Call (.Name "reversed" p2) [a] [] pos2] [] pos) (e1 rE fa) ea:=⟨have ha:=ha.h;
 gQ (xI hc hgl ml hgr mr (bS ha ca hs) hs hs2) λσ H Q ρ d hE hf hQ=>by ext(⟨dx,h1,hf⟩:bind_some hf);ext(⟨ds,h2,hf⟩:bind_some hf);ext hf;ext(⟨ht,hi⟩:ll h2);show⟨ρ,dx,hE,h1,λx H1 p1=>?_⟩;ext(⟨p,xs,rfl,hp,hx,hA⟩:fq p1.rep hi ht);show⟨p,xs,rfl,hp,λl hl=>hQ _ _ (gT p1.same hl λA hD hz=>(hA A (p1.av A hD hz)).reverse)⟩⟩
end
noncomputable def xJ(sc:Scope)(names:List (Str×NameKind)):Bool:=names.all λx=>!(x.2==.free)||sc.names.lookup x.1==some .cell||sc.names.lookup x.1==some .free
def F4(sc:Scope)(hs:X.env.scope=sc)(h:xJ sc names=true):∀x∈names,x.2=.free->(X.env.kindOf x.1=some .cell\/X.env.kindOf x.1=some .free):=λx hx hf=>by have:=z9u.mp h x hx;unfold PySem.Env.kindOf;rw[hs];erw[hf,z6y,z5o,Bool.false_or,Bool.or_eq_true,z7i]at this;show this
section
variable {fa fb:FE}{ea eb:F_}
def inD:D->D->E_:=λx y=>(items y).bind λds=>if aV x=true/\ds.all aV=true then some (.bl (ds.any λd=>dQ d x))else none
def nL:D->D->E_:=λx y=>(items y).bind λds=>if aV x=true/\ds.all aV=true then some (.bl (!ds.any λd=>dQ d x))else none
def rG{d:D}(r:Rep K H v d)(h:aV d=true):fJ v=true:=by ext r<;>first|rfl|ext h
theorem rH{K:K0}{H:Hp}:∀{vs:B_} {ds:D_},Reps K H vs ds->ds.all aV=true->vs.all fJ=true
 |[],_,h,_=>by ext h;rfl
 | _::_,_,h,hs=>by
   cases h with
   |cons a t=>rw[z7w,z8r]at hs;rw[z7w,rG a hs.1,rH t hs.2];rfl
def F5{w:V}{d e:D}(r:Rep K H v d)(r':Rep K H w e)(h:aV d=true)(h':aV e=true):eqV v w=dQ d e:=by ext r<;>ext r'<;>first|rfl|cases h|ext h'
theorem rJ{K:K0}{H:Hp}{w:V}{e:D}(r':Rep K H w e)(h':aV e=true):∀{vs:B_} {ds:D_},Reps K H vs ds->ds.all aV=true->inV w vs=ds.any λd=>dQ d e
 |[],_,h,_=>by ext h;rfl
 | _::_,_,h,hs=>by
   cases h with
   |cons a t=>rw[z7w,z8r]at hs;have ih:=rJ r' h' t hs.2;unfold inV at ih ⊢;rw[z6m,z6m,F5 a r' hs.1 h',ih]
def xK(K:K0):OpV K (rIn K false) inD:=λx y H dx dy d Q rx ry hg q=>by ext(⟨ds,h1,hg⟩:bind_some hg);ext(⟨⟨hx,hs⟩,rfl⟩:bC hg);ext(⟨p,xs,rfl,hp,hr,_⟩:jD ry h1);show⟨p,xs,rfl,hp,rG rx hx,rH hr hs,?_⟩;rw[rJ rx hx hr hs];show q _ _ (Same.refl H) (.bl _) λA _ _ _=>.bl _
def F6(K:K0):OpV K (rIn K true) nL:=λx y H dx dy d Q rx ry hg q=>by ext(⟨ds,h1,hg⟩:bind_some hg);ext(⟨⟨hx,hs⟩,rfl⟩:bC hg);ext(⟨p,xs,rfl,hp,hr,_⟩:jD ry h1);show⟨p,xs,rfl,hp,rG rx hx,rH hr hs,?_⟩;rw[rJ rx hx hr hs];show q _ _ (Same.refl H) (.bl _) λA _ _ _=>.bl _
def F7(ha:JE X a fa ea)(hb:JE X b fb eb)(hm:behindInMarks .In b=false<|>R6):JT X (.Compare a [.In] [b] pos) (eT (e2 inD fa fb)):=⟨have ha:=ha.h;have hb:=hb.h;jC vU (xK X.K) ha hb hm⟩
end
noncomputable def Itd(lo:Int)(n:Nat):It:=⟨λi _=>i<n,λi H x H'=>H'=H/\x=.int (lo-i),λi _=>n<=i⟩
def F8(it:Addr)(lo:Int)(n:Nat):Turn P w K tg (Itd lo n) [it] it (λi h=>IsRangeIter h it (lo+(i:Nat)*(-1)) ((n:Int)-(i:Nat)) (-1)) where
 mem:=by simp
 obj:= λi h st b hb=>by
  have e:b=it:=⇑hb
  subst e;show⟨_,st,λv z=>by have z':Data.fields _=Data.cell v:=z;ext z'⟩
 keep:=λi h h' st k=>k it (by simp) _ st
 item:=by
  intro X hP hw hK hc i G_ s σ H E I hf st hg;subst hP hw hK;ext(⟨f0,f1,f2,f3,f4,f5⟩:hf it (by simp));have W:=Walks.range (prog:=X.prog) (w:=X.w) (I.ok.hd hc) it lo (-1) n;show W.item i s _ _ hg st λv h' tk hv st' kk=>?_
  ext(⟨t,rfl⟩:hv);have I1:Inv X G_ σ H {s with heap:=h',toks:=tk}:=I.turned (λb o hb e=>kk b o (⇑hb) e) f0 f1 f3 f4 f5;show⟨_,rfl,jj (s:={s with heap:=h',toks:=tk}) (n:="range_iterator") st' rfl rfl (by decide) ⟨.int (lo-i),H,I1,⟨t,?_⟩,⟨rfl,rfl⟩,st',λb hb=>(hf b hb).1⟩⟩;congr 1;ext
 done:=by intro X hP hw hK hc i G_ s σ H E I hf st hg;subst hP hw hK;ext(⟨f0,f1,f2,f3,f4,f5⟩:hf it (by simp));show wpAny_pyNext_range_end (I.ok.hd hc) st (by have:n<=i:=hg;ext) λh' eb=>⟨rfl,I.turned (t':=s.toks) (λb o hb e=>eb b o hb e) f0 f1 f3 f4 f5⟩
 self:=λ_ _ _ _ _ st h=>wpAny_pyIter_rangeiter st h
def xL(a b:Int):Builtin.Range.rangeSize a b (-1)=if b<a then a-b else 0:=by
 unfold Builtin.Range.rangeSize;rw[if_neg (by decide)];have:(-(-1):Int)=1:=by decide
 rw[this,Int.ediv_one];by_cases h:b<a
 ·rw[if_pos h,if_pos h];ext
 ·rw[if_neg h,if_neg h]
def F9{a b:Int}(ha:-(2 ^ 62)<=a)(ha':a<2 ^ 62)(hb:-(2 ^ 62)<=b)(hb':b<2 ^ 62):Builtin.Range.small a b (-1)=true:=by unfold Builtin.Range.small;rw[xL];erw[Builtin.Range.rangeFitsLong,z8r,Bool.or_eq_true,decide_eq_true_eq,z7i,show ¬((-1:Int) > 0)by decide,z5h];split<;>ext
def Fa{R:It->Hp->Prop}{hi:Int}{t u v:Tok}(I:Inv X G_ σ H s)(h1:-(2 ^ 62)<=lo)(h2:lo<2 ^ 62)(h3:-(2 ^ 62)<=hi)(h4:hi<2 ^ 62)(q:R (Itd lo (lo-hi).toNat) H):wpAny (model X.prog X.w) X.A (pyIter (.ref s.heap.objs.size)) (PIE X G_ σ tg R) E {s with heap:=s.heap.push {cls:=.type "range",data:=.fields #[.int lo t,.int hi u,.int (-1) v]},toks:=tk}:=by
 show wpAny_pyIter_range (IsRange.new ..) (F9 h1 h2 h3 h4) ?_;have I1:Inv X G_ σ H {s with heap:=s.heap.push {cls:=.type "range",data:=.fields #[.int lo t,.int hi u,.int (-1) v]},toks:=tk}:=I.kept λb o e=>z9m _ e
 show⟨(s.heap.push {cls:=.type "range",data:=.fields #[.int lo t,.int hi u,.int (-1) v]}).objs.size,[(s.heap.push {cls:=.type "range",data:=.fields #[.int lo t,.int hi u,.int (-1) v]}).objs.size],_,_,H,rfl,
  I1.kept (t':=tk) λb o e=>z9m _ e,F8 _ lo (lo-hi).toNat,?_,λb hb=>?_,q⟩
 ·have e1:lo+((0:Nat):Int)*(-1)=lo:=by ext
  have e2:(((lo-hi).toNat:Nat):Int)-((0:Nat):Int)=Builtin.Range.rangeSize lo hi (-1):=by rw[xL];split<;>ext
  change IsRangeIter _ _ (lo+((0:Nat):Int)*(-1)) ((((lo-hi).toNat:Nat):Int)-((0:Nat):Int)) (-1);rw[e1,e2];show z8q _ rfl
 ·have e:b=(s.heap.push {cls:=.type "range",data:=.fields #[.int lo t,.int hi u,.int (-1) v]}).objs.size:=⇑hb
  subst e;show I1.fpOk (z9o _) (I1.hok.fresh (z9o _))
def Fb(ta:TA):TI:=λσ H R=>ta σ H λvs H1=>∃i j:Int,vs=[.int i,.int j,.int (-1)]/\(-(2 ^ 62)<=i/\i<2 ^ 62/\-(2 ^ 62)<=j/\j<2 ^ 62)/\R (Itd i (i-j).toNat) H1
def Fc{ta:TA}(hg:Gl X "range")(hm:X.mg "range"=none)(ha:PA X [a,b,c] ta)(hs:SE a [b,c] X<|>R0)(hpl:BT pos [b,c] X<|>R0):
  PI X tg (.Call (.Name "range" p) [a,b,c] [] pos) (Fb ta):=by
 intro G_ s σ H R I h;show Call_ (eG I hg hm boot_range (z8v (cK (ha pos G_ s σ H _ I h) λus s1 vs H1 I1 r1 q1=>?_) hs hpl));ext(⟨i,j,e,⟨q1,q2,q3,q4⟩,q⟩:q1);subst e;cases r1 with
 | cons r rr=>
   cases rr with
   | cons r' rr=>
     cases rr with
     |cons r'' rr=>ext rr;ext(⟨t,rfl⟩:r);ext(⟨t',rfl⟩:r');ext(⟨t'',rfl⟩:r'');show call_range_3 (by decide) (Fa I1 q1 q2 q3 q4 q) (.inl (PyProof.noPylong_of_log2 (by decide +kernel)))
noncomputable def gZ(lo:Int)(n:Nat):D_:=(List.range n).map λ(k:Nat)=>.int (lo-k)
def Fd(h:i<n):(gZ lo n).drop i=.int (lo-i)::(gZ lo n).drop (i+1):=by
 have hl:i<(gZ lo n).length:=by simpa [gZ]using h
 rw[z8k hl];simp[gZ]
def Fe{g:TG}{tb:TS}{D:Ends}(Pv:Nat->St->Hp->Prop)(h0:Pv 0 σ H)(hs:∀i σ H,i<n->Pv i σ H->g (.int (lo-(i:Nat))) σ H λσ2 H2=>tb {D with nx:=Pv (i+1),ct:=Pv (i+1),bk:=D.nx} σ2 H2)(hd:∀σ H,Pv n σ H->D.nx σ H):
  ∃W:Nat->Nat->St->Hp->Prop,(∃m,W 0 m σ H)/\∀i m σ H,W i m σ H ->
    ((Itd lo n).stop i H/\D.nx σ H)\/((Itd lo n).go i H/\∃N:St->Hp->Prop,(∀σ' H',N σ' H'->∃m',m'<m/\W (i+1) m' σ' H')/\∀x H',(Itd lo n).yld i H x H'->g x σ H' λσ2 H2=>tb {D with nx:=N,ct:=N,bk:=D.nx} σ2 H2):=by
 show⟨λi m σ H=>m=n-i/\i<=n/\Pv i σ H,⟨n,by simp,z7r _,h0⟩,?_⟩;rintro i m σ H ⟨rfl,hi,p⟩;by_cases hlt:i<n
 ·show .inr ⟨hlt,Pv (i+1),λσ' H' p'=>⟨n-(i+1),by ext,rfl,hlt,p'⟩,λx H' y=>?_⟩
  ext(⟨e,y⟩:y);subst e y;show hs i σ _ hlt p
 ·have e:i=n:=by ext
  subst e;show .inl ⟨z9o _,hd σ H p⟩
def nN(t:Nat)(as:FEs)(tb:FS):FS:=λρ=>(as ρ).bind λds=>match ds with
 |[.int i,.int j,.int k]=>if okR i/\okR j/\k = -1 then bU (λx ρ=>tb (ρ.set t (some x))) (gZ i (i-j).toNat) ρ else none
 |_=>none
theorem xN{env:PySem.Env}:∀{names:List (Str×NameKind)} {x:Str},names.lookup x=some .free ->
  (names.map λ(n,k)=>if(k==NameKind.free&&env.scope.kind==.function&&env.kindOf n==some .cell)then(n,NameKind.cell)else(n,k)).lookup x=some .cell \/
  (names.map λ(n,k)=>if(k==NameKind.free&&env.scope.kind==.function&&env.kindOf n==some .cell)then(n,NameKind.cell)else(n,k)).lookup x=some .free
 |[],_,h=>by simp at h
 | (n,k)::r,x,h=>by
   have ih:=@xN env r x;change List.lookup x ((if(k==NameKind.free&&env.scope.kind==.function&&env.kindOf n==some .cell)=true then(n,NameKind.cell)else(n,k))::(r.map λ(n,k)=>if(k==NameKind.free&&env.scope.kind==.function&&env.kindOf n==some .cell)then(n,NameKind.cell)else(n,k)))=some .cell\/List.lookup x ((if(k==NameKind.free&&env.scope.kind==.function&&env.kindOf n==some .cell)=true then(n,NameKind.cell)else(n,k))::(r.map λ(n,k)=>if(k==NameKind.free&&env.scope.kind==.function&&env.kindOf n==some .cell)then(n,NameKind.cell)else(n,k)))=some .free;rw[z8z]at h;by_cases hcd:(k==NameKind.free&&env.scope.kind==.function&&env.kindOf n==some .cell)=true
   ·rw[if_pos hcd,z8z]
    cases hx:x==n with
    |true=>show .inl rfl
    |false=>rw[hx]at h;show ih h
   ·rw[if_neg hcd,z8z]
    cases hx:x==n with
    |true=>rw[hx]at h;show .inr h
    |false=>rw[hx]at h;show ih h
noncomputable def Ff(sc:Scope)(names:List (Str×NameKind)):Bool:=names.all λx=>!(x.2==.free)||sc.names.lookup x.1==some .free
def Fg(scope:Scope)(h:Ff scope names=true):∀x∈names,x.2=.free->((blk X N s H scope cl ex).env.kindOf x.1=some .cell\/(blk X N s H scope cl ex).env.kindOf x.1=some .free):=λx hx hf=>by have:=z9u.mp h x hx;erw[hf,z6y,z5o,Bool.false_or,z7i]at this;show xN this
abbrev AA(A:Addr->Prop)(a:Addr)(bs:l_):Addr->Prop:=λb=>A b\/b=a\/b∈bs
def InR(K:K0)(H:Hp)(A:Addr->Prop)(bs:l_)(dss:List D_):Prop:=
 bs.length=dss.length/\∀(k:Nat) b ds,bs[k]?=some b->dss[k]?=some ds->∃ys,H b=some (.lst ys)/\Reps K (az H A) ys ds
section
variable {A A':Addr->Prop}{bs:l_}{dss:List D_}
def InR.mono(e:Same H H')(h:InR K H A bs dss):InR K H' A bs dss:=⟨h.1,λk b ds h1 h2=>by ext(⟨ys,h3,h4⟩:h.2 k b ds h1 h2);show⟨ys,e _ _ h3,aT (cz e) h4⟩⟩
def InR.at(h:InR K H A bs dss){k:Nat}{b:Addr}(hb:bs[k]?=some b):∃ds ys,dss[k]?=some ds/\H b=some (.lst ys)/\Reps K (az H A) ys ds:=by
 have hk:k<dss.length:=by have:=(z9e.mp hb).1;have:=h.1;ext
 ext(⟨ys,h3,h4⟩:h.2 k b dss[k] hb (z9p hk));show⟨_,ys,z9p hk,h3,h4⟩
theorem xO:∀{vs:B_} {ds:D_},vs.length=ds.length->(∀(k:Nat) v d,vs[k]?=some v->ds[k]?=some d->Rep K H v d)->Reps K H vs ds
 |[],[],_,_=>.nil
 |[],_::_,h,_=>by ext h
 |_::_,[],h,_=>by ext h
 |v::vs,d::ds,h,k=>.cons (k 0 v d rfl rfl) (xO (⇑h) λm v' d' h1 h2=>k (m+1) v' d' (⇑h1) (⇑h2))
def InR.reps(h:InR K H A bs dss)(hA:∀b,A' b->A b)(hb:∀b∈bs,¬A' b):Reps K (az H A') (bs.map V.ref) (dss.map D.lst):=by
 show xO (⇑h.1) λk v d h1 h2=>?_
 rw[z9x]at h1 h2;cases e1:bs[k]? with
 |none=>rw[e1]at h1;ext h1
 | some b=>
   cases e2:dss[k]? with
   |none=>rw[e2]at h2;ext h2
   |some ds=>rw[e1]at h1;rw[e2]at h2;ext h1;ext h2;ext(⟨ys,h3,h4⟩:h.2 k b ds e1 e2);show .lst (.inl ?_) (aT (cD (λ_ _ q=>q) hA) h4);rw[cb (hb b (z8d e1))];show h3
def InR.snoc(h:InR K H A bs dss){b:Addr}{ds:D_}(hb:H b=some (.lst ys))(hr:Reps K (az H A) ys ds):InR K H A (bs++[b]) (dss++[ds]):=by
 show⟨by simp[h.1],λk c es h1 h2=>?_⟩;by_cases e:k<bs.length
 ·rw[z8c e]at h1
  rw[z8c (by rw[<- h.1];show e)]at h2;show h.2 k c es h1 h2
 ·have:k=bs.length:=by have:=(z9e.mp h1).1;simp at this;ext
  subst this;rw[z9z (z9o _),Nat.sub_self]at h1;rw[h.1,z9z (z9o _),Nat.sub_self]at h2;ext h1;ext h2;show⟨ys,hb,hr⟩
end
def lkD(ρ:ag)(i r:Nat):E_:=(a5 r ρ).bind λk=>(a5 i ρ).bind λx=>match k,x with
 |.int k,.lst ds=>ds[k.toNat]?
 |_,_=>none
def vw(i:Nat):Option Nat->ag->ag
 |none,ρ=>ρ
 |some r,ρ=>ρ.set r (lkD ρ i r)
structure EnvD (K:K0) (F:Fr0) (held:List Hd) (i:Nat) (al:Option Nat) (a:Addr) (bs:l_) (dss:List D_) (σ:St) (ρ:ag) (H:Hp):Prop where
 same:Same F.H0 H
 lσ:σ.length=F.n
 lρ:ρ.length=F.n
 si:σ[i]?=some (some (V.ref a))
 ri:ρ[i]?=some (some (.lst (dss.map .lst)))
 ha:H a=some (.lst (bs.map V.ref))
 nd:(a::bs).Nodup
 new:∀b,b=a\/b∈bs->F.H0 b=Option.none
 inn:∀A,F.PA A->InR K H (AA A a bs) bs dss
 val:∀j d,ρ[j]?=some (some d)->j≠i->al≠some j->∃v,σ[j]?=some (some v)/\∀A,F.PA A->Rep K (az H (AA A a bs)) v d
 hld:∀p∈held,∀A,F.PA A->HdOk K (az H (AA A a bs)) p
 als:∀r,al=some r->r≠i/\∃(k:Nat) (b:Addr),ρ[r]?=some (some (.int (k:Nat)))/\bs[k]?=some b/\σ[r]?=some (some (V.ref b))
section
variable {F:Fr0}{held:List Hd}{al:Option Nat}{a:Addr}{bs:l_}{dss:List D_}{ρ:ag}
def EnvD.up(h:EnvD K F held i al a bs dss σ ρ H)(e:Same H H'):EnvD K F held i al a bs dss σ ρ H':=
 ⟨h.same.trans e,h.lσ,h.lρ,h.si,h.ri,e _ _ h.ha,h.nd,h.new,λA hA=>(h.inn A hA).mono e,λj d q h1 h2=>let⟨v,h3,h4⟩:=h.val j d q h1 h2;⟨v,h3,λA hA=>aA (cz e) (h4 A hA)⟩,λp hp A hA=>(h.hld p hp A hA).mono (cz e),h.als⟩
theorem EnvD.out(h:EnvD K F held i al a bs dss σ ρ H){A:Addr->Prop}(hA:F.PA A){b:Addr}(hb:b=a\/b∈bs):¬A b:=λq=>F.dom A hA b q (h.new b hb)
theorem EnvD.dom(h:EnvD K F held i al a bs dss σ ρ H){A:Addr->Prop}(hA:F.PA A):Dom H (AA A a bs):=λb q=>by
 ext((q|rfl|q):q)
 ·show((F.dom A hA).mono h.same) b q
 ·rw[h.ha];show λz=>nomatch z
 ·ext(⟨k,hk⟩:List.getElem?_of_mem q)
  ext(⟨_,ys,_,h2,_⟩:(h.inn A hA).at hk);rw[h2];show λz=>nomatch z
theorem EnvD.repI(h:EnvD K F held i al a bs dss σ ρ H){A:Addr->Prop}(hA:F.PA A):Rep K (az H A) (V.ref a) (.lst (dss.map .lst)):=by show .lst (.inl ?_) ((h.inn A hA).reps (λb q=>.inl q) λb hb=>h.out hA (.inr hb));rw[cb (h.out hA (.inl rfl))];show h.ha
def Fh{k:Nat}{r:Nat}(hr:ρ[r]?=some (some (.int (k:Nat))))(hi:ρ[i]?=some (some (.lst (dss.map .lst)))):lkD ρ i r=(dss[k]?).map D.lst:=by unfold lkD a5;rw[hr,hi];simp
theorem EnvD.envR(h:EnvD K F held i al a bs dss σ ρ H):EnvR K H σ (vw i al ρ):=λj d e=>by
 have plain:ρ[j]?=some (some d)->al≠some j->∃v,σ[j]?=some (some v)/\Rep K H v d:=λe' hj=>by
  by_cases hi:j=i
  ·subst hi
   rw[h.ri]at e';ext e';show⟨_,h.si,aA (aU _ _) (h.repI F.none)⟩
  ·ext(⟨v,h1,h2⟩:h.val j d e' hi hj)
   show⟨v,h1,aA (aU _ _) (h2 _ F.none)⟩
 cases al with
 |none=>show plain e λz=>nomatch z
 | some r=>
   ext(⟨hri,k,b,h1,h2,h3⟩:h.als r rfl);by_cases hj:j=r
   ·subst hj
    have hl:j<ρ.length:=(z9e.mp h1).1;unfold vw at e;rw[z9s hl,Fh h1 h.ri]at e;ext(⟨ds,ys,h4,h5,h6⟩:(h.inn _ F.none).at h2);rw[h4]at e;ext e;show⟨_,h3,.lst (.inl h5) (aT (aU _ _) h6)⟩
   ·unfold vw at e
    rw[z9h (Ne.symm hj)]at e;show plain e λz=>hj (z7f z).symm
theorem EnvD.set(h:EnvD K F held i al a bs dss σ ρ H){d:D}(hj:j≠i)(hal:al≠some j)(hv:∀A,F.PA A->Rep K (az H (AA A a bs)) v d):EnvD K F held i al a bs dss (σ.set j (some v)) (ρ.set j (some d)) H:=by
 show⟨h.same,by rw[z8h];show h.lσ,by rw[z8h];show h.lρ,?_,?_,h.ha,h.nd,h.new,h.inn,λm e q h1 h2=>?_,h.hld,λr hr=>?_⟩
 ·rw[z9h hj];show h.si
 ·rw[z9h hj];show h.ri
 ·by_cases e1:m=j
  ·subst e1
   have l1:m<ρ.length:=by have:=(z9e.mp q).1;simpa using this
   rw[z9s l1]at q;ext q;show⟨v,z9s (by rw[h.lσ,<- h.lρ];show l1),hv⟩
  ·rw[z9h (Ne.symm e1)]at q ⊢
   show h.val m e q h1 h2
 ·ext(⟨h1,k,b,h2,h3,h4⟩:h.als r hr)
  have ne:j≠r:=λe=>hal (e▸hr)
  show⟨h1,k,b,by rw[z9h ne];show h2,h3,by rw[z9h ne];show h4⟩
end
theorem rK{K:K0}{H H':Hp}:∀{vs:B_} {ds:D_},ds.all aV=true->Reps K H vs ds->Reps K H' vs ds
 |[],_,_,h=>by ext h;show .nil
 | _::_,_,s,h=>by
   cases h with
   |cons h1 h2=>rw[z7w,z8r]at s;show .cons (kP s.1 h1) (rK s.2 h2)
structure PostD (K:K0) (σ:St) (ρ:ag) (H:Hp) (es:F_) (d:D) (v:V) (H':Hp):Prop where
 same:Same H H'
 new:∃l bs dss,v=V.ref l/\d=.lst (dss.map .lst)/\(l::bs).Nodup/\(∀b,b=l\/b∈bs->H b=none)/\H' l=some (.lst (bs.map V.ref))/\∀A,Dom H A->(∀e∈es,Av K H σ ρ A e)->InR K H' (AA A l bs) bs dss
section
variable {g:TG}{c:ag->A_}
theorem EnvO.setD{F:Fr0}{held:List Hd}{ρ:ag}(h:EnvO K F held O σ ρ H){es:F_}{d:D}(p:PostD K σ ρ H es d v H')(hn:i<F.n):
  ∃a bs dss,EnvD K F held i none a bs dss (σ.set i (some v)) (ρ.set i (some d)) H':=by
 have h:=h.weaken (O':=[]) λ_ q=>nomatch q
 ext(⟨l,bs,dss,rfl,rfl,hnd,hnew,hl',hr⟩:p.new);have off:∀{A:Addr->Prop} (b:Addr),Off σ [] A b↔A b:=λ{A} b=>⟨λq=>q.elim (λz_=>by ext(⟨_,q,_⟩:z_);show nomatch q) id,.inr⟩
 have dom:∀{A:Addr->Prop},F.PA A->Dom H A:=λ{A} hA=>(F.dom A hA).mono h.same
 have av:∀{A:Addr->Prop},F.PA A->∀e∈es,Av K H σ ρ A e:=λ{A} hA e he=>by have:=h.av (e:=e) hA (by ext e<;>rfl);rw[show Off σ [] A=A from funext λb=>propext (off b)]at this;show this
 have up:∀{A:Addr->Prop},Same (az H (Off σ [] A)) (az H' (AA A l bs)):=λ{A} c o q=>by
  ext(⟨n,q⟩:eJ q);rw[cb]
  ·show p.same c o q
  ·rintro(z|z)
   ·show n (.inr z)
   ·rw[hnew c z]at q;ext q
 show⟨l,bs,dss,h.same.trans p.same,by rw[z8h];show h.lσ,by rw[z8h];show h.lρ,z9s (by rw[h.lσ];show hn),z9s (by rw[h.lρ];show hn),hl',hnd,λb hb=>h.same.free (hnew b hb),λA hA=>hr A (dom hA) (av hA),λj e q h1 h2=>?_,λz hz A hA=>(h.hld z hz A hA).mono up,λr hr=>nomatch hr⟩;rw[z9h (Ne.symm h1)]at q ⊢;ext(⟨v',h3,h4⟩:h.val j e q λz=>nomatch z)
 show⟨v',h3,λA hA=>aA up (h4 A hA)⟩
def nO(f:FS):Prop:=∀ρ ρ',f ρ≠some (.nx ρ')
theorem Fi{f g:FS}(h:nO g):nO (bE f g):=λρ ρ' q=>by
 ext(⟨o,h1,h2⟩:bind_some q);cases o with
 |nx ρ1=>show h ρ1 ρ' h2
 |_=>ext h2
end
structure RetX (K:K0) (H0:Hp) (d:D) (v:V) (H':Hp):Prop where
 same:Same H0 H'
 new:∃l bs dss,v=V.ref l/\d=.lst (dss.map .lst)/\(l::bs).Nodup/\(∀b,b=l\/b∈bs->H0 b=none)/\H' l=some (.lst (bs.map V.ref))/\∀A,InR K H' A bs dss
def rL:D->Bool
 |.lst es=>es.all aV
 |_=>false
def Fj{A:Addr->Prop}{bs:l_}{dss:List D_}(hs:(dss.map D.lst).all rL=true)(hb:∀b∈bs,H' b=H b)(h:InR K H A bs dss)(A':Addr->Prop):InR K H' A' bs dss:=⟨h.1,λk b ds h1 h2=>by ext(⟨ys,h3,h4⟩:h.2 k b ds h1 h2);have hm:D.lst ds∈dss.map D.lst:=z8i.mpr ⟨ds,z8d h2,rfl⟩;show⟨ys,by rw[hb b (z8d h1)];show h3,rK (z9u.mp hs _ hm) h4⟩⟩
section
variable {F:Fr0}{held:List Hd}{a:Addr}{bs:l_}{dss:List D_}{ρ:ag}
theorem EnvD.push(h:EnvD K F held i none a bs dss σ ρ H)(e:Same H H')(hl:H l=none){ds:D_}(hl':H' l=some (.lst ys))(hr:∀H'',Reps K H'' ys ds):
  EnvD K F held i none a (bs++[l]) (dss++[ds]) σ (ρ.set i (some (.lst ((dss++[ds]).map .lst)))) (upd H' a (.lst ((bs++[l]).map V.ref))):=by
 have hE:=h.up e;have nd:=z8s.mp h.nd;have hla:l≠a:=λq=>by subst q;rw[h.ha]at hl;ext hl
 have hlb:l∉bs:=λq=>h.dom F.none l (.inr (.inr q)) hl
 have hpl:i<ρ.length:=(z9e.mp h.ri).1;have sub:∀{c:Addr},c∈bs++[l]->c∈bs\/c=l:=λ{c} q=>(z8b.mp q).imp id z9l.mp
 have up:∀{A:Addr->Prop},Same (az H (AA A a bs)) (az (upd H' a (.lst ((bs++[l]).map V.ref))) (AA A a (bs++[l]))):=λ{A} c o q=>by
  ext(⟨n,q⟩:eJ q);have ne:c≠a:=λz=>n (.inr (.inl z))
  have nl:c≠l:=bZ q hl;rw[cb,aJ ne]
  ·show e c o q
  ·rintro(z|z|z)
   ·show n (.inl z)
   ·show ne z
   ·ext((z|z):sub z)
    ·show n (.inr (.inr z))
    ·show nl z
 show⟨λc o q=>?_,h.lσ,by rw[z8h];show h.lρ,h.si,z9s hpl,bi,?_,λc hc=>?_,λA hA=>InR.snoc ⟨(h.inn A hA).1,λm c es h1 h2=>?_⟩ ?_ (hr _),λj d q h1 h2=>?_,λp hp A hA=>(h.hld p hp A hA).mono up,λr hr=>nomatch hr⟩
 ·rw[aJ (show c≠a from λz=>by subst z;rw[h.new c (.inl rfl)]at q;ext q)]
  show hE.same c o q
 ·show z8s.mpr ⟨λz=>?_,?_⟩
  ·ext((z|z):sub z)
   ·show nd.1 z
   ·show hla z.symm
  ·rw[List.nodup_append]
   show⟨nd.2,by simp,λx hx y hy=>by rw[z9l]at hy;subst hy;show λq=>hlb (q▸hx)⟩
 ·ext((rfl|hc):hc)
  ·show h.new c (.inl rfl)
  ·ext((hc|rfl):sub hc)
   ·show h.new c (.inr hc)
   ·cases q:F.H0 c with
    |none=>rfl
    |some o=>rw[h.same c o q]at hl;ext hl
 ·ext(⟨zs,h3,h4⟩:(h.inn A hA).2 m c es h1 h2)
  have ne:c≠a:=λz=>nd.1 (z▸z8d h1)
  show⟨zs,by rw[aJ ne];show e _ _ h3,aT up h4⟩
 ·rw[aJ hla];show hl'
 ·rw[z9h (Ne.symm h1)]at q
  ext(⟨v,h3,h4⟩:h.val j d q h1 h2);show⟨v,h3,λA hA=>aA up (h4 A hA)⟩
end
def Fk(K:K0)(F:Fr0)(held:List Hd)(i:Nat)(De:Ends):Out->Prop
 |.nx ρ'=>∀a bs dss σ' H',EnvD K F held i none a bs dss σ' ρ' H'->De.nx σ' H'
 |.rt d=>∀v H',RetX K F.H0 d v H'->De.rt v H'
 |.bk _=>True
 |.ct _=>True
def tsX(K:K0)(F:Fr0)(held:List Hd)(i:Nat)(f:FS):TS:=λDe σ H=>∃a bs dss ρ o,EnvD K F held i none a bs dss σ ρ H/\f ρ=some o/\Fk K F held i De o
abbrev VX(X:Cx)(F:Fr0)(i:Nat)(st:Stmt)(f:FS):Prop:=∀held,PS X st (tsX X.K F held i f)
structure JX (X:Cx) (F:Fr0) (i:Nat) (st:Stmt) (f:FS):Prop where
 h:VX X F i st f
abbrev VXs(X:Cx)(F:Fr0)(i:Nat)(st:n_)(f:FS):Prop:=∀held,PSs X st (tsX X.K F held i f)
structure JXs (X:Cx) (F:Fr0) (i:Nat) (st:n_) (f:FS):Prop where
 h:VXs X F i st f
def Fo(K:K0)(F:Fr0)(held:List Hd)(O':z9)(De:Ends):Out->Prop
 |.nx ρ'=>∀σ' H',EnvO K F held O' σ' ρ' H'->De.nx σ' H'
 |.rt d=>∀v H',RetX K F.H0 d v H'->De.rt v H'
 |.bk _=>True
 |.ct _=>True
def tsR(K:K0)(F:Fr0)(held:List Hd)(O O':z9)(f:FS):TS:=λDe σ H=>∃ρ o,EnvO K F held O σ ρ H/\f ρ=some o/\Fo K F held O' De o
abbrev VRs(X:Cx)(F:Fr0)(O:z9)(st:n_)(f:FS)(O':z9):Prop:=∀held,PSs X st (tsR X.K F held O O' f)
structure JRs (X:Cx) (F:Fr0) (O:z9) (st:n_) (f:FS) (O':z9):Prop where
 h:VRs X F O st f O'
section
variable {F:Fr0}{f g:FS}{rest:n_}{fe:FE}{es:F_}
theorem Fp(h1:JX X F i st f)(h2:JXs X F i rest g):JXs X F i (st::rest) (bE f g):=⟨have h1:=h1.h;have h2:=h2.h;λheld=>fv (jh (h1 held) (h2 held)) λDe σ H z_=>by
 ext(⟨a,bs,dss,ρ,o,hE,hf,hQ⟩:z_);ext(⟨o1,h1,hf⟩:bind_some hf);show⟨a,bs,dss,ρ,o1,hE,h1,?_⟩;cases o1 with
 |nx ρ'=>show λa' bs' dss' σ' H' hE'=>⟨a',bs',dss',ρ',o,hE',hf,hQ⟩
 |rt d=>ext hf;show hQ
 |bk ρ'=>show trivial
 |ct ρ'=>show trivial⟩
def xP(h1:JX X F i st f):JXs X F i [st] f:=⟨have h1:=h1.h;λheld=>fv (kA (h1 held)) λDe σ H h=>h⟩
def lm(i:Nat)(f:FE):FS:=λρ=>(a5 i ρ).bind λx=>match x with
 | .lst ds=>(f ρ).bind λd=>match d with
   |.lst es=>if es.all aV=true/\ds.length<100000 then some (.nx (ρ.set i (some (.lst (ds++[.lst es])))))else none
   |_=>none
 |_=>none
theorem Fq(he:VF X e fe es)(hN:X.N[i]?=some x)(hv:Vis X.env.scope x<|>R3)(hd:DB x)(hcd:(x==("__classdict__" : Str))=false)(hbase:attributeBase (.Name x p2) "append" X.env (eval (.Name x p2) X.env)=eval (.Name x p2) X.env)(hfew:(((backTo cp (starEach [e] X.env)).all (λx=>!x.1)&&(backToKw cp (keywordEach [] X.env)).all (λx=>x.1.isSome)
   && decide (([e]:k_).length+([]:m_).length+(if([]:m_).isEmpty then 0 else 1)<30))=true)<|>R0)(hline:(ap.endLine==cp.line)=true<|>R0)(hs:SE e [] X<|>R0)(hplain:BT cp [] X<|>R0)(hsw:swapsWith (.Call (.Attribute (.Name x p2) "append" ap) [e] [] cp) none pos.line X.env=pure false<|>R0):
  VX X F i (.Expr (.Call (.Attribute (.Name x p2) "append" ap) [e] [] cp) pos) (lm i fe):=λheld=>
 dA (mE (jq z4e z5y z5z qD (gf hN hv hd hcd) (bS he ca hs) hbase hfew hline hs hplain) hsw) λDe σ H z_=>by
  ext(⟨a,bs,dss,ρ,o,hE,hf,hQ⟩:z_);ext(⟨z,h1,hf⟩:bind_some hf);have h1:=gR h1;rw[hE.ri]at h1;ext h1;ext(⟨d,h2,hf⟩:bind_some hf);show⟨_,hE.si,.inl ⟨rfl,bs.map V.ref,.inl (.inl hE.ha)⟩,ρ,d,hE.envR,h2,λv H1 p=>?_⟩;ext(⟨l,xs,ds,rfl,rfl,hl,hl',hr⟩:p.new);ext(⟨⟨hsc,hlen⟩,rfl⟩:bC hf);have len:bs.length=dss.length:=(hE.inn _ F.none).1;have base:=hr fg (Dom.none H) λe _=>Av.none hE.envR e
  rw[z9a]at hlen;show⟨a,bs.map V.ref,V.ref l,rfl,rfl,p.same _ _ hE.ha,z9v (show(bs.map V.ref).length<100000 by rw[z9a];ext) (by decide),?_⟩;show hQ a (bs++[l]) (dss++[ds]) σ _ ?_;have h3:=hE.push p.same hl hl' λH''=>rK hsc base
  rw[z8e,z8e]at h3;show h3
def Fr(t:Nat){as:FEs}{ei:F_}{tb:FS}(hN:X.N.Nodup)(hc:X.calm=true)(mr:X.mg "range"=none)(hi:JA X [a,b,c] as ei)(hb:JXs X F i body tb)(h3:t≠i<|>R1)(hp:PassesOwn (model X.prog X.w) X.A X.env X.xe<|>R7)(hg:Gl X "range"<|>R0)(hst:SE a [b,c] X<|>R0)(hpl:BT pr [b,c] X<|>R0)(hxN:X.N[t]?=some x<|>R0)(hx:Loc X.env.scope x<|>R3)(hfn:X.fn x=true\/X.env.scope.names.lookup x=some .local<|>R3)(hs:(∀x,foldedSetIterable (.Call (.Name "range" pn) [a,b,c] [] pr) X.env x=pure x)<|>R4):JX X F i (.For (.Name x p2) (.Call (.Name "range" pn) [a,b,c] [] pr) body [] pos) (nN t as tb):=⟨have hi:=hi.h;have hb:=hb.h;λheld=>by
 show dA (jk hp hc (Fc hg mr hi hst hpl) (gM hN hxN hx hfn) (hb held) hs) λDe σ H h=>?_
 ext(⟨a0,bs,dss,ρ,o,hE,hf,hQ⟩:h);ext(⟨ds,hd,hf⟩:bind_some hf);show⟨ρ,ds,hE.envR,hd,λvs H1 p=>?_⟩;have hE1:=hE.up p.same
 match ds,hf,p with
 | [.int ii,.int j,.int k],hf,p=>
   by_cases hj:okR ii/\okR j/\k = -1
   ·erw[if_pos hj]at hf
    ext(⟨hj1,hj2,rfl⟩:hj);have hv:vs=[.int ii,.int j,.int (-1)]:=by
     cases p.rep with
     | cons a t=>ext a;cases t with
       | cons a t=>ext a;cases t with
         |cons a t=>ext a;ext t;rfl
    show⟨ii,j,hv,⟨hj1.1,hj1.2,hj2.1,hj2.2⟩,?_⟩;show Fe (lo:=ii) (n:=(ii-j).toNat) (g:=c9 t) (tb:=tsX X.K F held i tb) (D:=De) (λq σ' H'=>∃a' bs' dss' ρ',EnvD X.K F held i none a' bs' dss' σ' ρ' H'/\bU (λx ρ=>tb (ρ.set t (some x))) ((gZ ii (ii-j).toNat).drop q) ρ'=some o) ⟨a0,bs,dss,ρ,hE1,⇑hf⟩ ?_ ?_
    ·rintro q σ' H' hq ⟨a',bs',dss',ρ',hE',hf'⟩
     rw[Fd hq,l8]at hf';ext(⟨o1,h8,hf''⟩:bind_some hf');show⟨a',bs',dss',ρ'.set t (some (.int (ii-q))),o1,hE'.set h3 (λz=>nomatch z) λA hA=>.int _,h8,?_⟩;cases o1 with
     |nx ρ1=>show λa2 bs2 dss2 σ2 H2 hE2=>⟨a2,bs2,dss2,ρ1,hE2,hf''⟩
     |rt d=>ext hf'';show hQ
     |bk ρ1=>show trivial
     |ct ρ1=>show trivial
    ·rintro σ' H' ⟨a',bs',dss',ρ',hE',hf'⟩
     rw[z7s (by simp[gZ])]at hf';ext hf';show hQ a' bs' dss' σ' H' hE'
   ·erw[if_neg hj]at hf
    ext hf⟩
def lq(i:Nat):FS:=λρ=>(a5 i ρ).bind λx=>match x with
 |.lst ds=>if ds.all rL=true then some (.rt (.lst ds.reverse))else none
 |_=>none
theorem Fs{pl pos3:Pos}(hc:X.calm=true)(ml:X.mg "list"=none)(mr:X.mg "reversed"=none)(hN:X.N[i]?=some x<|>R0)(hv:Vis X.env.scope x<|>R3)(hd:DB x<|>R1)(hcd:(x==("__classdict__" : Str))=false<|>R1)(hgl:Gl X "list"<|>R0)(hgr:Gl X "reversed"<|>R0)(hs1:starEach [.Name x p2] X.env=(false,eval (.Name x p2) X.env)::starEach [] X.env<|>R0)(hs:starEach [.Name x p2] X.env=[(false,eval (.Name x p2) X.env)]<|>R0)(hs2:starEach [.Call (.Name "reversed" pr) [.Name x p2] [] pos2] X.env=[(false,eval (.Call (.Name "reversed" pr) [.Name x p2] [] pos2) X.env)]<|>R0):
  JX X F i (.Return (some (.Call (.Name "list" pl) [.Call (.Name "reversed" pr) [.Name x p2] [] pos2] [] pos3)) pos) (lq i):=⟨λheld=>
 dA (gL (xI hc hgl ml hgr mr (bS (gf hN hv hd hcd) ca hs1) hs hs2)) λDe σ H z_=>by
  ext(⟨a,bs,dss,ρ,o,hE,hf,hQ⟩:z_);ext(⟨z,h1,hf⟩:bind_some hf);have h1:=gR h1;rw[hE.ri]at h1;ext h1;ext(⟨hsc,rfl⟩:bC hf);show⟨_,hE.si,a,bs.map V.ref,rfl,.inl (.inl hE.ha),λl hl=>hQ _ _ ⟨hE.same.trans (bj hl _),l,bs.reverse,dss.reverse,rfl,by rw[z5l],?_,?_,by rw[z5l];show bi,λA=>?_⟩⟩
  ·show z8s.mpr ⟨λq=>?_,List.pairwise_reverse.mpr ((z8s.mp hE.nd).2.imp λh=>Ne.symm h)⟩
   show hE.dom F.none l (.inr (.inr (List.mem_reverse.mp q))) hl
  ·rintro b (rfl|hb)
   ·show hE.same.free hl
   ·show hE.new b (.inr (List.mem_reverse.mp hb))
  ·have h:=hE.inn _ F.none
   have hne:∀b∈bs,upd H l (.lst (bs.map V.ref).reverse) b=H b:=λb hb=>aJ λq=>hE.dom F.none b (.inr (.inr hb)) (by rw[q];show hl)
   have h2:=Fj hsc hne h A;show⟨by rw[z6a,z6a];show h2.1,λk b ds q1 q2=>?_⟩;have hk:k<bs.length:=by have:=(z9e.mp q1).1;simpa using this
   rw[z4l hk]at q1;rw[z4l (by rw[<- h2.1];show hk),<- h2.1]at q2;show h2.2 _ b ds q1 q2⟩
def xQ(f:FS):Prop:=∀ρ o,f ρ=some o->∃ρ',o=.nx ρ'
def Ft{f:FE}:xQ (c6 j f):=λρ o h=>by ext(⟨d,_,rfl⟩:ni h);show⟨_,rfl⟩
def Fu(h1:JS X F O st f O1 OL fr)(hn:xQ f)(h2:JRs X F O1 rest g O2):JRs X F O (st::rest) (bE f g) O2:=⟨have h1:=h1.h;have h2:=h2.h;λheld=>fv (jh (h1 held) (h2 held)) λDe σ H z_=>by ext(⟨ρ,o,hE,hf,hQ⟩:z_);ext(⟨o1,h1,hf⟩:bind_some hf);ext(⟨ρ',rfl⟩:hn _ _ h1);show⟨ρ,.nx ρ',hE,h1,λσ' H' hE'=>⟨ρ',o,hE',hf,hQ⟩⟩⟩
theorem Fv(i:Nat){lp:Pos}(hN:X.N.Nodup)(he:JF X e fe es)(hn:i<F.n)(hrest:JXs X F i rest g)(hret:nO g)(hi:X.N[i]?=some x<|>R0)(hx:Loc X.env.scope x<|>R3)(hs:swapsWith (.List [e] lp) (some (.Name x p2)) pos.line X.env=pure false<|>R0)(hfn:X.fn x=true\/X.env.scope.names.lookup x=some .local<|>R3)(hs1:SE e [] X<|>R0):
  JRs X F O (.Assign [.Name x p2] (.List [e] lp) pos::rest) (bE (c6 i (b5 (a8 fe ak))) g) O':=⟨have he:=he.h;have hrest:=hrest.h;λheld=>
 fv (jh (ji hN hi hx (mJ (bS he ca hs1)) hs hfn) (hrest held)) λDe σ H z_=>by
  ext(⟨ρ,o,hE,hf,hQ⟩:z_);ext(⟨o1,h1,hf⟩:bind_some hf);ext(⟨d,h2,rfl⟩:ni h1);ext(⟨dl,h3,h4⟩:bind_some h2);ext(⟨hll,rfl⟩:bC h4);ext(⟨d1,h5,h6⟩:bind_some h3);ext(⟨dn,h7,h8⟩:bind_some h6);ext h7;ext h8;show⟨ρ,d1,hE.envR,h5,λv H1 p=>?_⟩;show⟨by change 1<=sizeLine;decide,λl hl=>?_⟩;ext(⟨l1,xs,ds,rfl,rfl,hl1,hl1',hr⟩:p.new);have ne:l1≠l:=λq=>by subst q;rw[hl]at hl1';ext hl1'
  have pD:PostD X.K σ ρ H es (.lst [.lst ds]) (V.ref l) (upd H1 l (.lst [V.ref l1])):=by
   show⟨p.same.trans (bj hl _),l,[l1],[ds],rfl,rfl,?_,?_,bi,λA hD hz=>⟨rfl,λk b ds' q1 q2=>?_⟩⟩
   ·simp[Ne.symm ne]
   ·rintro b (rfl|hb)
    ·show p.same.free hl
    ·rw[z9l.mp hb];show hl1
   ·have hk:k=0:=by have:=(z9e.mp q1).1;simp at this;show this
    subst hk;ext q1;ext q2;show⟨xs,by rw[aJ ne];show hl1',aT (λc o q=>?_) (hr A hD hz)⟩;ext(⟨n,q⟩:eJ q);have nl:c≠l:=bZ q hl;rw[cb,aJ nl]
    ·show q
    ·rintro(z|z|z)
     ·show n (.inl z)
     ·show nl z
     ·show n (.inr (z9l.mp z))
  ext(⟨a,bs,dss,hD⟩:hE.setD pD hn);show⟨a,bs,dss,_,o,hD,hf,?_⟩;cases o with
  |nx ρ'=>show absurd hf (hret _ ρ')
  |bk ρ'=>show trivial
  |ct ρ'=>show trivial
  |rt d'=>show hQ⟩
theorem Fw:nO (lq i):=λρ ρ' h=>by
 ext(⟨x,_,h2⟩:bind_some h);cases x with
 |lst ds=>ext(⟨_,q⟩:bC h2);ext q
 |_=>ext h2
end
def spX(K:K0)(G:D_->E_):Sp:=λvs H Q _=>∃ds d,Reps K H vs ds/\G ds=some d/\∀v H',RetX K H d v H'->Q v H'
theorem Fx{k:Nat}{G:D_->E_}{body:FS}(O':z9)(h1:ps.length=np)(h2:N.length=n)(h3:G=mkF true np n body)(Fn:Fun K x qual st f fd)(S:FnScope N ps (aN st))(h:∀(cdv:Value) (A:Around) (outer:List PySem.Env) (s:Shared) (H:Hp) (E:XK) (F:Fr0),F.n=n->Room k (A.deeper (envOfC qual (aN st) s.heap.objs.size f cdv)) ->
   VRs (c4 CX0 P w K mg base N qual (aN st) f cdv A outer s H E).nox F [] (cy st) body O'):
  FnOk P w K mg base CX0 (k+1) f fd ps (spX K G):=by
 subst h1 h2 h3;have hpl:ps.length<=N.length:=by have:=z7d List.length S.pre;rw[z8f]at this;ext
 show Fn.ok S (λvs H Q E h=>?_) (λcdv A outer s H vs Q E hr h'=>?_)
 ·ext(⟨ds,d,r,hg,_⟩:h)
  unfold mkF at hg;by_cases hl:ds.length=ps.length
  ·rw[r.length,hl]
  ·rw[if_neg hl]at hg;ext hg
 ·ext(⟨ds,d,r,hg,hQ⟩:h')
  unfold mkF at hg;by_cases hl:ds.length=ps.length
  ·rw[if_pos hl]at hg
   ext(⟨o,ho,hg⟩:bind_some hg);let F:Fr0:=⟨H,λA=>Dom H A/\Reps K (az H A) vs ds,N.length,λA h=>h.1,⟨Dom.none H,aT (jt H) r⟩⟩;show⟨_,h cdv A outer s H E F rfl hr [],ds.map some++List.replicate (N.length-ps.length) none,o,?_,ho,?_⟩
   ·have lv:=r.length
    have get:∀(i:Nat) (d:D),(ds.map some++List.replicate (N.length-ps.length) none)[i]?=some (some d)->ds[i]?=some d:=λi d q=>by
     by_cases hi:i<ds.length
     ·rw[z8c (⇑hi),z9x]at q
      cases e:ds[i]? with
      |none=>rw[e]at q;ext q
      |some z=>rw[e]at q;simpa using q
     ·rw[z9z (⇑hi),z7j]at q
      split at q<;>ext q
    show⟨Same.refl H,?_,?_,λi d q _=>?_,λp hp=>absurd hp (by simp),λi hi=>absurd hi (by simp),λi hi=>absurd hi (by simp)⟩
    ·change(L2.start N vs).length=N.length
     unfold L2.start;rw[z9f,z9a,z9y];ext
    ·change _=N.length
     rw[z9f,z9a,z9y];ext
    ·have h1:=get i d q
     ext(⟨v,h2,_⟩:r.get h1);show⟨v,?_,λA hA=>?_⟩
     ·unfold L2.start
      have hi:i<vs.length:=(z9e.mp h2).1;rw[z8c (⇑hi),z9x,h2];rfl
     ·ext(⟨v',h3,h4⟩:hA.2.get h1)
      rw[h2]at h3;ext h3;show aA (cD (λ_ _ z=>z) λb z=>z.elim (λz_=>by ext(⟨_,hj,_⟩:z_);show absurd hj (by simp)) id) h4
   ·cases o with
    |rt d'=>ext hg;show λv H' rt=>hQ v H' rt
    |nx ρ'=>ext hg
    |_=>ext hg
  ·rw[if_neg hl]at hg;ext hg
def DefX(P:Program)(w:World)(K:K0)(mg:Str->u_)(base:Heap)(x:Str)(k:Nat)(ps:i_)(G:D_->E_):Prop:=
 ∃f fd,FnOk P w K mg base CX0 k f fd ps (spX K G)/\mg x=some (.ref f)/\W.keepIn K (.ref f)=true/\Binds K fd ps []
section
variable {k:Nat}{G:D_->E_}
theorem DefX.mono(h:DefX P w K mg base x j ps G)(hk:j<=k<|>R1):DefX P w K mg base x k ps G:=
 let⟨f,fd,F,m,kp,b⟩:=h
 ⟨f,fd,F.mono hk,m,kp,b⟩
end
def vD{α:Type}(f:α->α){l:List α}{k:Nat}{x:α}(h:l[k]?=some x):((l.take k).map f++l.drop k).set k (f x)=(l.take (k+1)).map f++l.drop (k+1):=by ext(⟨hk,hx⟩:z9e.mp h);rw[List.set_append_right _ _ (by simp;ext)];rw[z9a,z8f,z5g ∅,Nat.sub_self,z8k hk,List.set_cons_zero,z7a hk,z8e,z7o,hx];rfl
noncomputable def e3(g:D->D->D->E_)(a b c:FE):FE:=λρ=>(a ρ).bind λx=>(b ρ).bind λy=>(c ρ).bind λz=>g x y z
section
variable {es:F_}
def aH{f:FE}(h:JF X a f es):JE X a f es:=⟨VF.ve h.h⟩
def gs{j pos}:JE X (.Constant .none j pos) (eC .non) []:=⟨kR ⟩
end
section
variable {F:Fr0}{fe:FE}{es:F_}
def Fy(i:Nat)(he:JE X e fe es)(hi:i∈dI O es<|>R1)(hN:X.N[i]?=some x<|>R0)(hv:Vis X.env.scope x<|>R3)(hd:DB x<|>R1)(hcd:(x==("__classdict__" : Str))=false<|>R1)(hbase:attributeBase (.Name x p2) "append" X.env (eval (.Name x p2) X.env)=eval (.Name x p2) X.env<|>R0)(hfew:(((backTo cp (starEach [e] X.env)).all (λx=>!x.1)&&(backToKw cp (keywordEach [] X.env)).all (λx=>x.1.isSome)
   && decide (([e]:k_).length+([]:m_).length+(if([]:m_).isEmpty then 0 else 1)<30))=true)<|>R0)(hline:(ap.endLine==cp.line)=true<|>R0)(hs:SE e [] X<|>R0)(hplain:BT cp [] X<|>R0)(hsw:swapsWith (.Call (.Attribute (.Name x p2) "append" ap) [e] [] cp) none pos.line X.env=pure false<|>R0):JS X F O (.Expr (.Call (.Attribute (.Name x p2) "append" ap) [e] [] cp) pos) (l6 i fe) (dI O es) OL fr:=⟨E5 i he.h hi hN hv hd hcd hbase hfew hline hs hplain hsw⟩
end
section
variable {F:Fr0}{fe:FE}{es:F_}
def Fz(he:JF X e fe es)(hN:X.N[i]?=some x<|>R0)(hv:Vis X.env.scope x<|>R3)(hd:DB x<|>R1)(hcd:(x==("__classdict__" : Str))=false<|>R1)(hbase:attributeBase (.Name x p2) "append" X.env (eval (.Name x p2) X.env)=eval (.Name x p2) X.env<|>R0)(hfew:(((backTo cp (starEach [e] X.env)).all (λx=>!x.1)&&(backToKw cp (keywordEach [] X.env)).all (λx=>x.1.isSome)
   && decide (([e]:k_).length+([]:m_).length+(if([]:m_).isEmpty then 0 else 1)<30))=true)<|>R0)(hline:(ap.endLine==cp.line)=true<|>R0)(hs:SE e [] X<|>R0)(hplain:BT cp [] X<|>R0)(hsw:swapsWith (.Call (.Attribute (.Name x p2) "append" ap) [e] [] cp) none pos.line X.env=pure false<|>R0):JX X F i (.Expr (.Call (.Attribute (.Name x p2) "append" ap) [e] [] cp) pos) (lm i fe):=⟨Fq he.h hN hv hd hcd hbase hfew hline hs hplain hsw⟩
end
section
variable {k:Nat}{G:D_->E_}
theorem FB{body:FS}(O' OL:z9)(h1:ps.length=np)(h2:N.length=n)(h3:G=mkF fr np n body)(Fn:Fun K x qual st f fd)(S:FnScope N ps (aN st))(h:∀(cdv:Value) (A:Around) (outer:List PySem.Env) (s:Shared) (H:Hp) (E:XK) (F:Fr0),F.n=n->Room k (A.deeper (envOfC qual (aN st) s.heap.objs.size f cdv)) ->
   JSs (c4 CX0 P w K mg base N qual (aN st) f cdv A outer s H E).nox F [] (cy st) body O' OL fr):
  FnOk P w K mg base CX0 (k+1) f fd ps (spF K G fr):=Eu O' OL h1 h2 h3 Fn S λcdv A outer s H E F hn hr=>(h cdv A outer s H E F hn hr).h
theorem FC{body:FS}(O':z9)(h1:ps.length=np)(h2:N.length=n)(h3:G=mkF true np n body)(Fn:Fun K x qual st f fd)(S:FnScope N ps (aN st))(h:∀(cdv:Value) (A:Around) (outer:List PySem.Env) (s:Shared) (H:Hp) (E:XK) (F:Fr0),F.n=n->Room k (A.deeper (envOfC qual (aN st) s.heap.objs.size f cdv)) ->
   JRs (c4 CX0 P w K mg base N qual (aN st) f cdv A outer s H E).nox F [] (cy st) body O'):
  FnOk P w K mg base CX0 (k+1) f fd ps (spX K G):=Fx O' h1 h2 h3 Fn S λcdv A outer s H E F hn hr=>(h cdv A outer s H E F hn hr).h
end
end VL
variable {g' g:VL.D->VL.D->Option VL.D}{es ei ee ea eb:List VL.Es}{d:VL.D}{fa fe fb:VL.FE}{ds ds0 L:List VL.D}{ρ:VL.ag}{flo fhi:VL.FO}{as fi:VL.FEs}{F:VL.Fr0}{held:List VL.Hd}{G:List VL.D->Option VL.D}{dss:List (List VL.D)}
namespace VL
open PySem (Str)
open L2 (atI ixN)
def jG(h:cj d=some ds):dt d=false/\items d=some ds:=by
 unfold cj at h;cases e:dt d<;>rw[e]at h
 ·show⟨rfl,⇑h⟩
 ·ext h
def WE(e:FE)(ρ:ag)(K:D->Prop):Prop:=∃d,e ρ=some d/\K d
def WB(e:ag->A_)(ρ:ag)(K:Bool->Prop):Prop:=∃d,e ρ=some d/\K d
def WA(e:FEs)(ρ:ag)(K:D_->Prop):Prop:=∃d,e ρ=some d/\K d
def WO(e:FO)(ρ:ag)(K:v_->Prop):Prop:=∃d,e ρ=some d/\K d
def WS(e:FS)(ρ:ag)(K:Out->Prop):Prop:=∃d,e ρ=some d/\K d
def W2(g:D->D->E_)(x y:D)(K:D->Prop):Prop:=∃d,g x y=some d/\K d
def W1(g:D->E_)(x:D)(K:D->Prop):Prop:=∃d,g x=some d/\K d
def WF(F:D_->E_)(ds:D_)(K:D->Prop):Prop:=∃d,F ds=some d/\K d
def kT(K:Bool->Prop):D->Prop
 |.bl b=>K b
 |_=>False
def rM(g:FS)(Q:Out->Prop):Out->Prop
 |.nx ρ=>WS g ρ Q
 |o=>Q o
def xR(K:D->Prop):Out->Prop
 |.rt d=>K d
 |_=>False
def kIf(b:Bool)(A B:Prop):Prop:=(b=true->A)/\(b=false->B)
section
variable {K:D->Prop}{KB:Bool->Prop}{KL:D_->Prop}{KO:v_->Prop}{Q:Out->Prop}{a b c:FE}{f g:FS}{t t':ag->A_}
def FD{Q':Out->Prop}(h:WS f ρ Q)(i:∀d,Q d->Q' d):WS f ρ Q':=let⟨d,e,k⟩:=h;⟨d,e,i d k⟩
def iQ{F:D_->E_}{K':D->Prop}(h:WF F ds K)(i:∀d,K d->K' d):WF F ds K':=let⟨d,e,k⟩:=h;⟨d,e,i d k⟩
def bO{F:D_->E_}(h:F ds=some d)(k:K d):WF F ds K:=⟨d,h,k⟩
def cF{F:D_->E_}(h:WF F ds (λx=>x=d)):F ds=some d:=by ext(⟨_,e,rfl⟩:h);show e
def FF(h:a5 i ρ=some d)(k:K d):WE (a5 i) ρ K:=⟨d,h,k⟩
def FG(k:K d):WE (eC d) ρ K:=⟨d,rfl,k⟩
def FH{g:D->D->E_}(h:WE a ρ λx=>WE b ρ λy=>W2 g x y K):WE (e2 g a b) ρ K:=by ext(⟨x,e1,y,e2,d,e3,k⟩:h);show⟨d,by erw[VL.e2,e1,e2,z9j,e3],k⟩
def FI{g:D->E_}(h:WE a ρ λx=>W1 g x K):WE (e1 g a) ρ K:=by ext(⟨x,e1,d,e3,k⟩:h);show⟨d,by erw[VL.e1,e1,z9j,e3],k⟩
def fR{C:Int->Int->Prop}[∀i j,Decidable (C i j)]{k:Int->Int->D}{i j:Int}(hc:C i j)(h:K (k i j)):W2 (gI C k) (.int i) (.int j) K:=⟨_,by erw[gI,if_pos hc],h⟩
def FJ{i j:Int}(h:K (.int (i+j))):W2 br (.int i) (.int j) K:=fR trivial h
def FK{i j:Int}(h:K (.int (i-j))):W2 cZ (.int i) (.int j) K:=fR trivial h
def FL{i j:Int}(hc:okMul i j)(h:K (.int (i*j))):W2 dm (.int i) (.int j) K:=fR hc h
def FM{i j:Int}(hc:kW i j)(h:K (.int (i / j))):W2 jx (.int i) (.int j) K:=fR hc h
def FN{i j:Int}(hc:mW i j)(h:K (.int (i % j))):W2 eN (.int i) (.int j) K:=fR hc h
def FP{i j:Int}(hc:kX i j)(h:∀v,v=i ^ j.toNat->K (.int v)):W2 mX (.int i) (.int j) K:=fR hc (h _ rfl)
def FQ{i j:Int}(h:K (.bl (decide (i<j)))):W2 ltI (.int i) (.int j) K:=fR trivial h
def FR{i j:Int}(h:K (.bl (decide (i<=j)))):W2 leI (.int i) (.int j) K:=fR trivial h
def FT{i j:Int}(h:K (.bl (decide (j<i)))):W2 gtI (.int i) (.int j) K:=fR trivial h
def FU{i j:Int}(h:K (.bl (decide (j<=i)))):W2 geI (.int i) (.int j) K:=fR trivial h
def FV{i:Int}(h:K (.int (-i))):W1 fk (.int i) K:=⟨_,rfl,h⟩
def FW{i j:Int}(h:K (.bl (decide (i=j)))):W2 eqD (.int i) (.int j) K:=⟨_,rfl,h⟩
def FX{i j:Int}(h:K (.bl (!decide (i=j)))):W2 neD (.int i) (.int j) K:=⟨_,rfl,h⟩
def jH{x:D}{i:Int}(e:ixD x (.int i)=some d)(h:K d):W2 ixD x (.int i) K:=⟨_,e,h⟩
def jI{g:D->D->E_}{x y:D}(e:g x y=some d)(h:K d):W2 g x y K:=⟨_,e,h⟩
def FY(h:WE a ρ (kT KB)):WB (eT a) ρ KB:=by ext(⟨d,e,k⟩:h);ext d<;>first|show k.elim|show⟨_,by erw[eT,e,z9j],k⟩
def FZ(h:WE a ρ (kT KB)):WB (dP a) ρ KB:=by ext(⟨d,e,k⟩:h);ext d<;>first|show k.elim|show⟨_,by erw[dP,e,z9j,tru],k⟩
def G0{b:Bool}(h:KB b):kT KB (.bl b):=h
def xS(h:WS g ρ Q):rM g Q (.nx ρ):=h
def G1(h:Q (.rt d)):rM g Q (.rt d):=h
def xT(h:K d):xR K (.rt d):=h
def G2(h:WB t ρ λb=>kIf b (WB t' ρ KB) (KB false)):WB (er t t') ρ KB:=by
 ext(⟨b,e,k1,k2⟩:h);cases b with
 |false=>show⟨false,by erw[er,e,z9j];rfl,k2 rfl⟩
 |true=>ext(⟨b',e',k'⟩:k1 rfl);show⟨b',by erw[er,e,z9j,if_pos,e'],k'⟩
def G3(h:WB t ρ λb=>kIf b (KB true) (WB t' ρ KB)):WB (bOr t t') ρ KB:=by
 ext(⟨b,e,k1,k2⟩:h);cases b with
 |true=>show⟨true,by erw[bOr,e,z9j,if_pos],k1 rfl⟩
 |false=>ext(⟨b',e',k'⟩:k2 rfl);show⟨b',by simp[bOr,e,e'],k'⟩
def G4(h:WB t ρ λb=>KB (!b)):WB (fo t) ρ KB:=by ext(⟨b,e,k⟩:h);show⟨!b,by erw[fo,e,z7b],k⟩
def G5(h:WE a ρ (kT λx=>kIf x (WE b ρ K) (K (.bl false)))):WE (dq a b) ρ K:=by
 ext(⟨d,e,k⟩:h);cases d with
 | bl x=>
   cases x with
   |true=>ext(⟨y,e',k'⟩:k.1 rfl);show⟨y,by erw[dq,e,z9j,e'],k'⟩
   |false=>show⟨.bl false,by erw[dq,e,z9j],k.2 rfl⟩
 |_=>show k.elim
def G6(h:WE a ρ (kT λx=>K (.bl (!x)))):WE (kZ a) ρ K:=by ext(⟨d,e,k⟩:h);ext d<;>first|show k.elim|show⟨_,by erw[kZ,e,z9j],k⟩
def au{P:Prop}[Decidable P]{A B:Prop}(h1:P->A)(h2:¬P->B):kIf (decide P) A B:=⟨λe=>h1 (z6l e),λe=>h2 (of_decide_eq_false e)⟩
theorem q0x{p:Prop}[Decidable p]{a b:Prop}(h:b)(n:¬p:=by decide):kIf (decide p) a b:=au (λe=>absurd e n) λ_=>h
theorem q1x{p:Prop}[Decidable p]{a b:Prop}(h:a)(n:p:=by rfl):kIf (decide p) a b:=au (λ_=>h) λe=>absurd n e
def gt{P:Prop}[Decidable P]{A B:Prop}(h1:¬P->A)(h2:P->B):kIf (!decide P) A B:=⟨λe=>h1 (⇑e),λe=>h2 (⇑e)⟩
def xU{A B:Prop}(h:A):kIf true A B:=⟨λ_=>h,λe=>nomatch e⟩
def xV{A B:Prop}(h:B):kIf false A B:=⟨λe=>(nomatch e),λ_=>h⟩
def G7{A B:Prop}(h:A):kIf (!false) A B:=xU h
def G8{A B:Prop}(h:B):kIf (!true) A B:=xV h
def G9(h:WB t ρ λx=>kIf x (WE a ρ K) (WE b ρ K)):WE (eIf t a b) ρ K:=by
 ext(⟨x,e,k1,k2⟩:h);cases x with
 |true=>ext(⟨d,e',k⟩:k1 rfl);show⟨d,by erw[eIf,e,z9j,if_pos,e'],k⟩
 |false=>ext(⟨d,e',k⟩:k2 rfl);show⟨d,by simp[eIf,e,e'],k⟩
def Ga(h:KL []):WA ak ρ KL:=⟨[],rfl,h⟩
def Gb{r:FEs}(h:WE a ρ λd=>WA r ρ λds=>KL (d::ds)):WA (a8 a r) ρ KL:=by ext(⟨d,e,ds,e',k⟩:h);show⟨_,by erw[a8,e,e',z9j],k⟩
def Gc{r:FEs}(h:WA r ρ λds=>ds.length<=1000/\K (.lst ds)):WE (b5 r) ρ K:=by ext(⟨ds,e,l,k⟩:h);show⟨_,by erw[b5,e,z9j,if_pos l],k⟩
def Gd{F:D_->E_}{r:FEs}(h:WA r ρ λds=>WF F ds K):WE (eA F r) ρ K:=by ext(⟨ds,e,d,e',k⟩:h);show⟨d,by erw[eA,e,z9j,e'],k⟩
def Ge{g:D->D->E_}(h:WE a ρ λx=>WE b ρ λy=>W2 g x y (kT λz=>kIf z (WE c ρ λw=>W2 g' y w K) (K (.bl false)))):WE (e3c g g' a b c) ρ K:=by
 ext(⟨x,e1,y,e2,d,e3,k⟩:h);cases d with
 | bl z=>
   cases z with
   |true=>ext(⟨w,e4,d,e5,k⟩:k.1 rfl);show⟨d,by erw[e3c,e1,e2,e3,e4,e5,z9j],k⟩
   |false=>show⟨.bl false,by erw[e3c,e1,e2,e3,z9j],k.2 rfl⟩
 |_=>show k.elim
def Gf(h:Q (.nx ρ)):WS ng ρ Q:=⟨_,rfl,h⟩
def Gg(h:WS f ρ (rM g Q)):WS (bE f g) ρ Q:=by
 ext(⟨o,e,k⟩:h);cases o with
 |nx ρ'=>ext(⟨o',e',k'⟩:k);show⟨o',by erw[bE,e,z9j,e'],k'⟩
 |rt d=>show⟨_,by erw[bE,e,z9j],k⟩
 |bk d=>show⟨_,by erw[bE,e,z9j],k⟩
 |ct d=>show⟨_,by erw[bE,e,z9j],k⟩
def Gh(h:WB t ρ λx=>kIf x (WS f ρ Q) (WS g ρ Q)):WS (sIf t f g) ρ Q:=by
 ext(⟨x,e,k1,k2⟩:h);cases x with
 |true=>ext(⟨d,e',k⟩:k1 rfl);show⟨d,by erw[sIf,e,z9j,if_pos,e'],k⟩
 |false=>ext(⟨d,e',k⟩:k2 rfl);show⟨d,by simp[sIf,e,e'],k⟩
def Gi(h:WE a ρ λd=>Q (.rt d)):WS (bx a) ρ Q:=by ext(⟨d,e,k⟩:h);show⟨_,by erw[bx,e,z7b],k⟩
def Gj(h:WE a ρ λd=>Q (.nx (ρ.set i (some d)))):WS (c6 i a) ρ Q:=by ext(⟨d,e,k⟩:h);show⟨_,by erw[c6,e,z7b],k⟩
def Gm(hv:a5 i ρ=some (.lst ds))(hl:ds.length<100000)(h:WE a ρ λd=>Q (.nx (ρ.set i (some (.lst (ds++[d])))))):WS (l6 i a) ρ Q:=by ext(⟨d,e,k⟩:h);show⟨_,by erw[l6,hv,e,z9j,if_pos hl],k⟩
def Gn(h:KO none):WO cE ρ KO:=⟨_,rfl,h⟩
def Go(h:WE a ρ λd=>∃i,d=.int i/\KO (some i)):WO (ci a) ρ KO:=by ext(⟨d,e,i,rfl,k⟩:h);show⟨_,by erw[ci,e,z9j],k⟩
def Gp{lo hi:FO}(h:WE a ρ λx=>WO lo ρ λl=>WO hi ρ λu=>∃ds,cj x=some ds/\K (.lst (cU ds l u))):WE (eSl a lo hi) ρ K:=by ext(⟨x,e,l,e1,u,e2,ds,h1,k⟩:h);ext(⟨h1,h2⟩:jG h1);show⟨_,by simp[eSl,e,e1,e2,h1,h2],k⟩
def bW{body:FS}(hl:ds.length=np)(h:WS body (ds.map some++List.replicate (n-np) none) (xR K)):WF (mkF fr np n body) ds K:=by
 ext(⟨o,e,k⟩:h);cases o with
 |rt d=>show⟨d,by erw[mkF,if_pos hl,e,z9j],k⟩
 |_=>show k.elim
def cG{F:D_->E_}(h:WF F ds λd=>aV d=true/\K d):WF (scF F) ds K:=by ext(⟨d,e,s,k⟩:h);show⟨d,by erw[scF,e,z9j,if_pos s],k⟩
end
def nQ(go:ag->Prop)(Q:Out->Prop):Out->Prop
 |.nx ρ=>go ρ
 |.ct ρ=>go ρ
 |.bk ρ=>Q (.nx ρ)
 |.rt d=>Q (.rt d)
theorem rN{body:D->FS}{Q:Out->Prop}(I:D_->ag->Prop)(he:∀ρ,I [] ρ->Q (.nx ρ))(hs:∀x r ρ,I (x::r) ρ->WS (body x) ρ (nQ (I r) Q)):
  ∀(ds:D_) (ρ:ag),I ds ρ->WS (bU body ds) ρ Q
 |[],ρ,h=>⟨_,rfl,he ρ h⟩
 | x::r,ρ,h=>by
   ext(⟨o,e,k⟩:hs x r ρ h);cases o with
   |nx ρ'=>ext(⟨o',e',k'⟩:rN I he hs r ρ' k);show⟨o',by erw[bU,e,z9j,e'],k'⟩
   |ct ρ'=>ext(⟨o',e',k'⟩:rN I he hs r ρ' k);show⟨o',by erw[bU,e,z9j,e'],k'⟩
   |bk ρ'=>show⟨_,by erw[bU,e,z9j],k⟩
   |rt d=>show⟨_,by erw[bU,e,z9j],k⟩
def Gq{α:Type}{body:D->FS}{Q:Out->Prop}(enc:α->D)(xs:List α)(I:Nat->ag->Prop)(h0:I 0 ρ)(he:∀ρ,I xs.length ρ->Q (.nx ρ))(hs:∀(k:Nat) (h:k<xs.length) (ρ:ag),I k ρ->WS (body (enc xs[k])) ρ (nQ (I (k+1)) Q)):WS (bU body (xs.map enc)) ρ Q:=by
 show rN (λr ρ=>∃k,k<=xs.length/\r=(xs.drop k).map enc/\I k ρ) ?_ ?_ _ ρ ⟨0,z7r _,by simp,h0⟩
 ·rintro ρ ⟨k,hk,e,i⟩
  have:k=xs.length:=by have:=z7d List.length e;simp at this;ext
  subst this;show he ρ i
 ·rintro x r ρ ⟨k,hk,e,i⟩
  have hk':k<xs.length:=by have:=z7d List.length e;simp at this;ext
  rw[z8k hk',z9r]at e;injection e with e1 e2
  subst e1;show FD (hs k hk' ρ i) λo=>?_
  cases o with
  |nx ρ'=>show λh=>⟨k+1,hk',e2,h⟩
  |ct ρ'=>show λh=>⟨k+1,hk',e2,h⟩
  |bk ρ'=>show λh=>h
  |rt d=>show λh=>h
def nR{α:Type}{t:Nat}{tb:FS}{Q:Out->Prop}(enc:α->D)(xs:List α)(I:Nat->ag->Prop)(h0:I 0 ρ)(he:∀ρ,I xs.length ρ->Q (.nx ρ))(hs:∀(k:Nat) (h:k<xs.length) (ρ:ag),I k ρ->WS tb (ρ.set t (some (enc xs[k]))) (nQ (I (k+1)) Q)):WS (bU (λx ρ=>tb (ρ.set t (some x))) (xs.map enc)) ρ Q:=
 Gq enc xs I h0 he hs
def xW{go:ag->Prop}{Q:Out->Prop}(h:go ρ):nQ go Q (.nx ρ):=h
def Gr{t:Nat}{it:FE}{tb:FS}{Q:Out->Prop}(h:WE it ρ λd=>∃ds,cj d=some ds/\WS (bU (λx ρ=>tb (ρ.set t (some x))) ds) ρ Q):WS (nq t it tb) ρ Q:=by ext(⟨d,e,ds,h1,o,e',k⟩:h);ext(⟨h1,h2⟩:jG h1);show⟨o,by simp[nq,e,h1,h2,e'],k⟩
noncomputable def xX(n:Nat):D_:=(List.range n).map λk=>.int (k:Nat)
def xY(n:Nat):db 0 n=xX n:=by unfold db xX;congr 1;funext k;rw[Int.zero_add]
def Gs{t:Nat}{tb:FS}{Q:Out->Prop}(h:WA as ρ λds=>∃j,ds=[.int j]/\okR j/\WS (bU (λx ρ=>tb (ρ.set t (some x))) ((List.range j.toNat).map λk=>.int (k:Nat))) ρ Q):WS (l9 t as tb) ρ Q:=by ext(⟨ds,e,j,rfl,h1,o,e',k⟩:h);show⟨o,by erw[l9,e,z9j,if_pos h1,xY];show e',k⟩
def Gu{t:Nat}{it:FE}{tb:FS}{Q:Out->Prop}(h:WE it ρ λd=>∃ds,cj d=some ds/\WS (bU (λx ρ=>tb (ρ.set t (some x))) ds.reverse) ρ Q):WS (nI t it tb) ρ Q:=by ext(⟨d,e,ds,h1,o,e',k⟩:h);show⟨o,by simp[nI,e,h1,e'],k⟩
def WI(f:FEs)(ρ:ag)(K:D_->Prop):Prop:=∃d,f ρ=some d/\K d
def Gv{a:FE}{K:D_->Prop}(h:WE a ρ λd=>∃ds,cj d=some ds/\K ds):WI (fQ a) ρ K:=by ext(⟨d,e,ds,h1,k⟩:h);ext(⟨h1,h2⟩:jG h1);show⟨ds,by simp[fQ,e,h1,h2],k⟩
def Gw{K:D_->Prop}(h:WA as ρ λds=>∃j,ds=[.int j]/\okR j/\K ((List.range j.toNat).map λk=>.int (k:Nat))):WI (iR1 as) ρ K:=by ext(⟨ds,e,j,rfl,h1,k⟩:h);show⟨_,by erw[iR1,e,z9j,if_pos h1,xY];rfl,k⟩
def Gx{a:FE}{K:D_->Prop}(h:WE a ρ λd=>∃ds,cj d=some ds/\K (gX ds)):WI (lh a) ρ K:=by ext(⟨d,e,ds,h1,k⟩:h);show⟨_,by erw[lh,e,h1,z9j],k⟩
def Gy{a b:FE}{K:D_->Prop}(h:WE a ρ λd=>WE b ρ λe=>∃ds,cj d=some ds/\∃es,cj e=some es/\K (gY ds es)):WI (li a b) ρ K:=by ext(⟨d,e,d',e',ds,h1,es,h2,k⟩:h);show⟨_,by erw[li,e,e',h1,h2,z9j],k⟩
theorem xZ{α:Type}{g:D->Option E_}(enc:α->D)(f:α->D):∀(xs:List α),(∀x∈xs,g (enc x)=some (some (f x)))->gq g (xs.map enc)=some (xs.map f)
 |[],_=>rfl
 | x::r,h=>by
   have h1:=h x (z9b ..);have h2:=xZ enc f r λy hy=>h y (z9d _ hy)
   erw[z9r,gq,h1,h2,z9j]
def hG{α:Type}{un:D->Option D_}{K:D->Prop}(h:WI fi ρ λds=>∃(enc:α->D) (f:α->D) (xs:List α),ds=xs.map enc/\xs.length<100000/\(∀x∈xs,∃us,un (enc x)=some us/\WE fe (bG (bh nown J6 ρ) is us) λd=>d=f x)/\K (.lst (xs.map f))):
  WE (c7 nown J6 is un fi cg fe) ρ K:=by
 ext(⟨ds,e,enc,f,xs,rfl,hl,ht,k⟩:h);show⟨_,?_,k⟩;have:gq (iN is un cg fe (bh nown J6 ρ)) (xs.map enc)=some (xs.map f):=xZ enc f xs λx hx=>by ext(⟨us,h1,d,h2,rfl⟩:ht x hx);simp[iN,h1,cg,h2]
 erw[c7,e,z9j,z9a,if_pos hl,this,z7b]
def lu{i:Int}(h1:-(2 ^ 1000:Int)<i)(h2:i<2 ^ 1000):mid i:=by
 unfold mid;have:i.natAbs<2 ^ 1000:=by ext
 by_cases z:i.natAbs=0
 ·rw[z];decide
 ·show Nat.lt_trans ((Nat.log2_lt z).mpr this) (by decide)
def rO{i j:Int}(h1:-18446744073709551616<i)(h2:i<18446744073709551616):okMul i j:=.inl ⟨h1,h2⟩
def Gz{i j:Int}(h1:-18446744073709551616<j)(h2:j<18446744073709551616):okMul i j:=.inr (.inl ⟨h1,h2⟩)
def ya{i j:Int}(h1:mid i)(h2:mid j):okMul i j:=.inr (.inr ⟨h1,h2⟩)
def GA{i j:Int}(h1:0<j)(h2:mid j):kW i j:=⟨h1,h2⟩
def GB{i j:Int}(h1:0<j):mW i j:=h1
def GC{i j:Int}(h1:0<=j)(h2:j<=1000000)(h3:-18446744073709551616<i)(h4:i<18446744073709551616):kX i j:=⟨⟨h1,h2⟩,h3,h4⟩
section
variable {K:D->Prop}
def rP{xs:D_}{i:Int}(h0:0<=i)(h1:i<xs.length):ixD (.lst xs) (.int i)=some (xs[i.toNat]'(by ext)):=by erw[ixD,items,z9j,atI,ixN,if_pos h0,if_pos h1];show z9p ∅
def GD{xs:D_}{i:Int}{P:D->Prop}(h0:0<=i)(h1:i<xs.length)(hP:∀v∈xs,P v)(h:∀v,P v->K v):W2 ixD (.lst xs) (.int i) K:=
 ⟨_,rP h0 h1,h _ (hP _ (z9w _))⟩
def AllI(lo hi:Int):D_->Prop
 |[]=>True
 |.int i::r=>(lo<=i/\i<=hi)/\AllI lo hi r
 |_::_=>False
theorem AllI.mem{lo hi:Int}:∀{xs:D_},AllI lo hi xs->∀v∈xs,∃i,v=.int i/\lo<=i/\i<=hi
 |[],_,_,h=>nomatch h
 | x::r,h,v,hv=>by
   set_option tactic.hygienic true in ext x<;>first|show h.elim|skip
   rename_i i;ext((rfl|hv):z9g.mp hv)
   ·show⟨i,rfl,h.1⟩
   ·show AllI.mem h.2 v hv
def GE(lo hi:Int){xs:D_}{i:Int}(h0:0<=i)(h1:i<xs.length)(hP:AllI lo hi xs)(h:∀v:Int,lo<=v->v<=hi->K (.int v)):W2 ixD (.lst xs) (.int i) K:=
 GD (P:=λv=>∃i,v=.int i/\lo<=i/\i<=hi) h0 h1 hP.mem λv z_=>by ext(⟨i,e,a,b⟩:z_);show e▸h i a b
def lw{xs ys:D_}(hl:xs.length+ys.length<=100000)(h:K (.lst (xs++ys))):W2 c5 (.lst xs) (.lst ys) K:=⟨_,by erw[c5,if_pos hl],h⟩
def GF{i:Int}(h:K (.bl true)):W1 (iO "int") (.int i) K:=⟨_,rfl,h⟩
def GG{i:Int}(h:K (.bl false)):W1 (iO "bool") (.int i) K:=⟨_,rfl,h⟩
def rQ(n d k:Nat):HT.sIx n d (some (k:Int))=min k n:=by change(if(k:Int)<0 then((k:Int)+(n:Int)).toNat else min ((k:Int)).toNat n)=_;rw[if_neg ∅];rfl
def rR(n d:Nat):HT.sIx n d none=d:=rfl
def gu{α:Type}(xs:List α)(n:Nat)(d:α)(h:n<xs.length):xs.getD n d=xs[n]:=by rw[z8y,z9p h];rfl
noncomputable abbrev DI(xs:h_):D:=.lst (xs.map .int)
abbrev DII(xs:List h_):D:=.lst (xs.map DI)
def GH(ns:h_):iG (ns.map D.int)=some ns:=by
 induction ns with
 |nil=>rfl
 |cons n r ih=>erw[z9r,iG,ih,z7b]
def GI{xs:h_}(h:K (.int xs.sum)):WF (aB fu) [DI xs] K:=⟨_,by simp[aB,fu,dt,items,GH],h⟩
def GJ{xs:D_}(h:K (.int (xs.length:Nat))):WF (aB bA) [.lst xs] K:=⟨_,rfl,h⟩
def GK{xs:h_}(h:K (.int (xs.length:Nat))):WF (aB bA) [.scr xs] K:=⟨_,by simp[aB,bA,items],h⟩
def GL{i j:Int}(h:K (.int (max i j))):WF (dH fP) [.int i,.int j] K:=by
 show⟨_,rfl,?_⟩;have:(if j > i then j else i)=max i j:=by ext
 rw[this];show h
def GM{i j:Int}(h:K (.int (min i j))):WF (dH iH) [.int i,.int j] K:=by
 show⟨_,rfl,?_⟩;have:(if j<i then j else i)=min i j:=by ext
 rw[this];show h
def GN{xs:D_}(h:K (.lst xs)):W1 qT (.lst xs) K:=⟨_,rfl,h⟩
def GO{xs:D_}(h:K (.lst xs.reverse)):W1 rE (.lst xs) K:=⟨_,rfl,h⟩
def eB{xs:h_}{i:Int}(h0:0<=i)(h1:i<xs.length)(h:K (.int (xs.getD i.toNat 0))):W2 ixD (DI xs) (.int i) K:=by show⟨_,rP h0 (⇑h1),?_⟩;rw[gu _ _ _ ∅]at h;simpa using h
def nS{xs:List h_}{i:Int}(h0:0<=i)(h1:i<xs.length)(h:K (DI (xs.getD i.toNat []))):W2 ixD (DII xs) (.int i) K:=by show⟨_,rP h0 (⇑h1),?_⟩;rw[gu _ _ _ ∅]at h;simpa using h
def yb{xs:D_}{k:Nat}(h0:0<k)(h1:k<=xs.length):ixD (.lst xs) (.int (-(k:Int)))=some (xs[xs.length-k]'(by ext)):=by erw[ixD,items,z9j,atI,ixN,if_neg (show ¬(0:Int)<=-(k:Int)by ext),if_pos (show -(xs.length:Int)<=-(k:Int)by ext)];rw[show(-(k:Int)+xs.length).toNat=xs.length-k by ext];show z9p ∅
def GP{xs:h_}(h1:xs≠[])(h:K (.int (xs.getLast h1))):W2 ixD (DI xs) (.int (-1)) K:=by
 have hl:1<=(xs.map D.int).length:=by ext xs<;>simp at h1 ⊢
 show⟨_,yb (k:=1) ∅ hl,?_⟩;rw[List.getLast_eq_getElem]at h;simpa using h
end
theorem lz:∀{l:h_},(∀x∈l,0<=x)->0<=l.sum
 |[],_=>by simp
 | x::l,h=>by
   have h1:=h x (z9b ..);have h2:=lz λy hy=>h y (z9d x hy)
   rw[z7e];ext
theorem rS{b:Int}:∀{l:h_},(∀x∈l,x<=b)->l.sum<=l.length*b
 |[],_=>by simp
 | x::l,h=>by
   have h1:=h x (z9b ..);have h2:=rS λy hy=>h y (z9d x hy)
   rw[z7e,z9c];have:((l.length+1:Nat):Int)*b=l.length*b+b:=by rw[Int.natCast_add,Int.add_mul];ext
   ext
def GQ(xs:h_)(x:Int):D.lst (xs.map .int++[.int x])=DI (xs++[x]):=by simp[DI]
def yc{α:Type}(enc:α->D)(xs:List α):gX (xs.map enc)=xs.zipIdx.map λp=>.tup [.int (p.2:Nat),enc p.1]:=by unfold gX;rw[List.zipIdx_map,z8x];rfl
def yd{α β:Type}(enc:α->D)(enc':β->D)(xs:List α)(ys:List β):gY (xs.map enc) (ys.map enc')=(xs.zip ys).map λp=>.tup [enc p.1,enc' p.2]:=by unfold gY;rw[List.zip_map,z8x];rfl
def lB{x:Int}(h:0<=x)(n:Nat):0<=x ^ n:=by
 induction n with
 |zero=>rw[z4v];ext
 |succ n ih=>rw[z6d];show z7x ih h
def hU{x B:Int}(N:Nat)(h0:0<=x)(h1:x<=B)(hB:1<=B)(hn:n<=N):x ^ n<=B ^ N:=by
 induction N generalizing n with
 | zero => have:n=0:=by ext
           subst this;rw[z4v,z4v];ext
 | succ N ih=>
   have hp:=lB (x:=B) ∅ N;cases n with
   | zero=>
     have:=ih (n:=0) ∅;rw[z4v]at this ⊢;rw[z6d]
     calc (1:Int)<=B ^ N:=this
      _=B ^ N*1:=by ext
      _<=B ^ N*B:=z7m hB hp
   |succ n=>rw[z6d,z6d];show z7t (ih ∅) h1 h0 hp
def rT{α:Type}{un:D->Option D_}{K:D->Prop}(h:WI fi ρ λds=>∃(enc:α->D) (f:α->Int) (xs:List α),ds=xs.map enc/\xs.length<100000/\(∀x∈xs,∃us,un (enc x)=some us/\WE fe (bG (bh nown J6 ρ) is us) λd=>d=.int (f x))/\K (DI (xs.map f))):
  WE (c7 nown J6 is un fi cg fe) ρ K:=by
 ext(⟨ds,e,enc,f,xs,h1,h2,h3,k⟩:h);show hG (α:=α) ⟨ds,e,enc,λx=>.int (f x),xs,h1,h2,h3,?_⟩
 rwa [DI,z8x]at k
theorem ye{α:Type}{g:D->Option E_}(enc:α->D)(P:α->Prop):∀(xs:List α),(∀x∈xs,∃b,g (enc x)=some (some (.bl b))/\(b=true↔P x))->∃bs:o_,gq g (xs.map enc)=some (bs.map .bl)/\(bs.all id=true↔∀x∈xs,P x)
 |[],_=>⟨[],rfl,by simp⟩
 | x::r,h=>by
   ext(⟨b,h1,h3⟩:h x (z9b ..));ext(⟨bs,h2,hb⟩:ye enc P r λy hy=>h y (z9d _ hy))
   show⟨b::bs,by erw[z9r,gq,h1,h2,z9j],?_⟩;rw[z7w,z8r,hb,List.forall_mem_cons];show and_congr h3 Iff.rfl
def GR(bs:o_):iP (bs.map D.bl)=some bs:=by
 induction bs with
 |nil=>rfl
 |cons n r ih=>erw[z9r,iP,ih,z7b]
def nT{α:Type}(P:α->Prop){un:D->Option D_}{K:D->Prop}(h:WI fi ρ λds=>∃(enc:α->D) (xs:List α),ds=xs.map enc/\xs.length<100000/\(∀x∈xs,∃us,un (enc x)=some us/\WE fe (bG (bh nown J6 ρ) is us) λd=>∃b,d=.bl b/\(b=true↔P x))/\∀bs:o_,(bs.all id=true↔∀x∈xs,P x)->K (.lst (bs.map .bl))):
  WE (c7 nown J6 is un fi cg fe) ρ K:=by
 ext(⟨ds,e,enc,xs,rfl,hl,ht,k⟩:h);obtain⟨bs,h1,h2⟩:=ye (g:=iN is un cg fe (bh nown J6 ρ)) enc P xs λx hx=>by ext(⟨us,h1,d,h2,b,rfl,h3⟩:ht x hx);show⟨b,by simp[iN,h1,cg,h2],h3⟩
 show⟨_,by erw[c7,e,z9j,z9a,if_pos hl,h1,z7b],k bs h2⟩
def GS{bs:o_}{K:D->Prop}(h:K (.bl (bs.all id))):WF (aB (gW λbs=>bs.all id)) [.lst (bs.map .bl)] K:=⟨_,by erw[aB,gW,GR,z9j],h⟩
def yf{P:Prop}{b:Bool}(e:b=true↔P){A B:Prop}(h1:P->A)(h2:¬P->B):kIf b A B:=⟨λh=>h1 (e.mp h),λh=>h2 λp=>by rw[e.mpr p]at h;ext h⟩
def GT(xs:h_)(x:Int):xs.map D.int++[.int x]=(xs++[x]).map D.int:=by simp
def GU{t:Nat}{tb:FS}{Q:Out->Prop}(h:WA as ρ λds=>∃i j,ds=[.int i,.int j,.int (-1)]/\okR i/\okR j/\WS (bU (λx ρ=>tb (ρ.set t (some x))) ((List.range (i-j).toNat).map λk=>.int (i-(k:Nat)))) ρ Q):WS (nN t as tb) ρ Q:=by ext(⟨ds,e,i,j,rfl,h1,h2,o,e',k⟩:h);show⟨o,?_,k⟩;unfold nN;rw[e];change(if okR i/\okR j/\(-1:Int) = -1 then _ else none)=_;rw[if_pos ⟨h1,h2,rfl⟩];show e'
def GV{xs:List h_}{K:D->Prop}(h1:xs≠[])(h:K (DI (xs.getLast h1))):W2 ixD (DII xs) (.int (-1)) K:=by
 have hl:1<=(xs.map DI).length:=by ext xs<;>simp at h1 ⊢
 show⟨_,yb (k:=1) ∅ hl,?_⟩;rw[List.getLast_eq_getElem]at h;simpa using h
theorem rV(k:Nat):∀xs:D_,(∀x∈xs,bz k x x=true)->((xs.zip xs).all λp=>bz k p.1 p.2)=true
 |[],_=>rfl
 |x::xs,h=>by rw[z7k,z7w,h x z9b,rV k xs λy hy=>h y (z9d _ hy)];rfl
theorem nU:∀(k:Nat) (d:D),bD k d=true->bz k d d=true
 |k,.non,_=>by ext k<;>rfl
 |k,.bl b,_=>by ext k<;>ext b<;>rfl
 |k,.int i,_=>by ext k<;>simp[bz,dQ]
 |k,.str x,_=>by ext k<;>simp[bz,dQ]
 |0,.lst _,h=>by simp[bD]at h
 |0,.tup _,h=>by simp[bD]at h
 |k,.scr _,h=>by ext k<;>simp[bD]at h
 |k,.dct _ _,h=>by ext k<;>simp[bD]at h
 |k,.ptr _,h=>by ext k<;>simp[bD]at h
 |k+1,.lst xs,h=>by rw[bD,z9u]at h;rw[bz,rV k xs λx hx=>nU k x (h x hx)];simp
 |k+1,.tup xs,h=>by rw[bD,z9u]at h;rw[bz,rV k xs λx hx=>nU k x (h x hx)];simp
def yg(xs:h_):(xs.map D.int).all aV=true:=by rw[List.all_map,z9u];intro _ _;rfl
def GW(xs:List h_):(xs.map DI).all rL=true:=by rw[List.all_map,z9u];intro x _;show yg x
def GX{f:FE}{Q:Out->Prop}(hv:a5 i ρ=some (.lst ds))(hl:ds.length<100000)(h:WE f ρ λd=>∃xs:h_,d=DI xs/\Q (.nx (ρ.set i (some (.lst (ds++[DI xs])))))):WS (lm i f) ρ Q:=by ext(⟨d,e1,xs,rfl,q⟩:h);show⟨_,by erw[lm,hv,e1,z9j,if_pos (And.intro (yg xs) hl)],q⟩
def GY{Q:Out->Prop}{xs:List h_}(hv:a5 i ρ=some (DII xs))(h:Q (.rt (DII xs.reverse))):WS (lq i) ρ Q:=by show⟨.rt (.lst (xs.map DI).reverse),by erw[lq,hv,z9j,if_pos (GW xs)],?_⟩;rw[<- z5l];show h
section
variable {K:D->Prop}{a:FE}
def GZ(h:a ρ=some (.lst ds))(k:K (.lst ds)):WE (eL a) ρ K:=⟨_,by erw[eL,h,z9j],k⟩
def Ha(h:a5 i ρ=some (.lst ds))(k:K (.lst ds)):WE (eL (a5 i)) ρ K:=GZ h k
end
inductive Cell where
 |lst (ds:D_)
 |dic (ns:i_) (ds:D_)
 |ins (C:Nat) (ns:i_) (ds:D_)
 |dcT (fz:Bool) (ps:List ((Int×Int)×Int))
 |dcL (fz:Bool) (ps:List (h_×Int))
 |exn (a:Nat) (x:Str)
abbrev Sto:=Nat->Option Cell
noncomputable def aD(M:Sto)(a:Nat)(c:Cell):Sto:=λb=>if b=a then some c else M b
noncomputable def cW(M:Sto)(a:Nat):Sto:=λb=>if b=a then none else M b
def aE{M:Sto}{a:Nat}{c:Cell}:aD M a c a=some c:=by simp[aD]
def aP{M:Sto}{a b:Nat}{c:Cell}(h:b≠a):aD M a c b=M b:=by simp[aD,h]
def eD{M:Sto}{a:Nat}{c c':Cell}:aD (aD M a c) a c'=aD M a c':=by funext b;unfold aD;split<;>rfl
def Hb{M:Sto}{a:Nat}{c:Cell}(h:M a=some c):aD M a c=M:=by
 funext b;by_cases e:b=a
 ·subst e;rw[aE,h]
 ·rw[aP e]
def nV{M:Sto}{a:Nat}:cW M a a=none:=by simp[cW]
def nW{M:Sto}{a b:Nat}(h:b≠a):cW M a b=M b:=by simp[cW,h]
abbrev QE:=D->Sto->Prop
abbrev NTE:=ag->Sto->QE->Prop
abbrev NTB:=ag->Sto->(Bool->Sto->Prop)->Prop
abbrev NTA:=ag->Sto->(D_->Sto->Prop)->Prop
abbrev NTF:=D_->Sto->QE->Prop
structure EndN where
 nx:ag->Sto->Prop
 rt:D->Sto->Prop
 bk:ag->Sto->Prop:=λ_ _=>False
 ct:ag->Sto->Prop:=λ_ _=>False
 ex:Str->Sto->Prop:=λ_ _=>False
abbrev NTS:=EndN->ag->Sto->Prop
def nP(f:FE):NTE:=λρ M Q=>WE f ρ λd=>Q d M
def nPB(f:ag->A_):NTB:=λρ M Q=>WB f ρ λb=>Q b M
def n2(g:D->D->E_)(ta tb:NTE):NTE:=λρ M Q=>ta ρ M λx M1=>tb ρ M1 λy M2=>W2 g x y λd=>Q d M2
def n1(g:D->E_)(ta:NTE):NTE:=λρ M Q=>ta ρ M λx M1=>W1 g x λd=>Q d M1
def bI(ta:NTE):NTB:=λρ M Q=>ta ρ M λx M1=>kT (λb=>Q b M1) x
def dS(ta:NTE):NTB:=λρ M Q=>ta ρ M λx M1=>∃b,tru x=some b/\Q b M1
def lC(ta tb:NTB):NTB:=λρ M Q=>ta ρ M λb M1=>kIf b (tb ρ M1 Q) (Q false M1)
def nOr(ta tb:NTB):NTB:=λρ M Q=>ta ρ M λb M1=>kIf b (Q true M1) (tb ρ M1 Q)
def eE(ta:NTB):NTB:=λρ M Q=>ta ρ M λb M1=>Q (!b) M1
def nIf(tc:NTB)(ta tb:NTE):NTE:=λρ M Q=>tc ρ M λb M1=>kIf b (ta ρ M1 Q) (tb ρ M1 Q)
def rW(ta tb:NTE):NTE:=λρ M Q=>ta ρ M λx M1=>kT (λb=>kIf b (tb ρ M1 Q) (Q (.bl false) M1)) x
def aj:NTA:=λ_ M Q=>Q [] M
def aa(ta:NTE)(tr:NTA):NTA:=λρ M Q=>ta ρ M λx M1=>tr ρ M1 λxs M2=>Q (x::xs) M2
def eF(ta:NTA):NTE:=λρ M Q=>ta ρ M λds M1=>ds.length<=1000/\Q (.lst ds) M1
def jJ(ta:NTA):NTE:=λρ M Q=>ta ρ M λds M1=>ds.length<=1000/\Q (.tup ds) M1
def lD(ta:NTA):NTE:=λρ M Q=>ta ρ M λds M1=>ds.length<=1000/\∀a,M1 a=none->Q (.ptr a) (aD M1 a (.lst ds))
def hV(f:FE):NTE:=λρ M Q=>WE f ρ λd=>∃ds,d=.lst ds/\∀a,M a=none->Q (.ptr a) (aD M a (.lst ds))
def rX(ns:i_)(as:FEs):NTE:=λρ M Q=>WA as ρ λds=>ds.length=ns.length/\∀a,M a=none->Q (.ptr a) (aD M a (.dic ns ds))
def lE(ta tb:NTE):NTE:=λρ M Q=>ta ρ M λx M1=>tb ρ M1 λy M2=>∃a ds i d,x=.ptr a/\M2 a=some (.lst ds)/\y=.int i/\atI ds i=some d/\Q d M2
def nDg(ns:i_)(i:Nat)(ta:NTE):NTE:=λρ M Q=>ta ρ M λx M1=>∃a ds d,x=.ptr a/\M1 a=some (.dic ns ds)/\ds[i]?=some d/\Q d M1
def aQ(C:Nat)(ns:i_)(i:Nat)(ta:NTE):NTE:=λρ M Q=>ta ρ M λx M1=>∃a ds d,x=.ptr a/\M1 a=some (.ins C ns ds)/\ds[i]?=some d/\Q d M1
def aF(T:NTF)(ta:NTA):NTE:=λρ M Q=>ta ρ M λds M1=>T ds M1 Q
noncomputable def vw1(M:Sto):D->D
 | .ptr a=>match M a with
   |some (.lst ds)=>.lst ds
   |_=>.ptr a
 |d=>d
def cH(G:D_->E_)(ta:NTA):NTE:=λρ M Q=>ta ρ M λds M1=>WF G (ds.map (vw1 M1)) λd=>aV d=true/\Q d M1
def jK(G:D_->E_)(ta:NTA):NTE:=λρ M Q=>ta ρ M λds M1=>WF G ds λd=>Q d M1
def cP(C:Nat)(ns:i_)(T:NTF)(ta:NTE)(tas:NTA):NTE:=λρ M Q=>ta ρ M λx M1=>∃a ds0,x=.ptr a/\M1 a=some (.ins C ns ds0)/\tas ρ M1 λds M2=>T (x::ds) M2 Q
def sN:NTS:=λE ρ M=>E.nx ρ M
def ai(t u:NTS):NTS:=λE ρ M=>t {E with nx:=λρ M=>u E ρ M} ρ M
def aK(tc:NTB)(t u:NTS):NTS:=λE ρ M=>tc ρ M λb M1=>kIf b (t E ρ M1) (u E ρ M1)
def yh:NTS:=λ_ _ _=>False
def aO(ta:NTE):NTS:=λE ρ M=>ta ρ M E.rt
def nX(i:Nat):NTS:=λE ρ M=>∃a ds,a5 i ρ=some (.ptr a)/\M a=some (.lst ds)/\E.rt (.lst ds) (cW M a)
def aI(i:Nat)(ta:NTE):NTS:=λE ρ M=>ta ρ M λd M1=>E.nx (ρ.set i (some d)) M1
def rY(is:z9)(ta:NTE):NTS:=λE ρ M=>ta ρ M λd M1=>∃ds,d=.tup ds/\ds.length=is.length/\E.nx ((is.zip ds).foldl (λr p=>r.set p.1 (some p.2)) ρ) M1
def lF(ns:i_)(i:Nat)(ta tv:NTE):NTS:=λE ρ M=>tv ρ M λv M1=>ta ρ M1 λx M2=>∃a ds,x=.ptr a/\M2 a=some (.dic ns ds)/\E.nx ρ (aD M2 a (.dic ns (ds.set i v)))
def hW(C:Nat)(ns:i_)(i:Nat)(ta tv:NTE):NTS:=λE ρ M=>tv ρ M λv M1=>ta ρ M1 λx M2=>∃a ds,x=.ptr a/\M2 a=some (.ins C ns ds)/\E.nx ρ (aD M2 a (.ins C ns (ds.set i v)))
def de(C:Nat)(ns:i_)(f:Str)(ta tv:NTE):NTS:=λE ρ M=>tv ρ M λv M1=>ta ρ M1 λx M2=>∃a ds,x=.ptr a/\M2 a=some (.ins C ns ds)/\E.nx ρ (aD M2 a (.ins C (ns++[f]) (ds++[v])))
def gv(ta tv:NTE):NTS:=λE ρ M=>ta ρ M λx M1=>∃a ds0,x=.ptr a/\M1 a=some (.lst ds0)/\tv ρ M1 λv M2=>∃ds,M2 a=some (.lst ds)/\ds.length<100000/\E.nx ρ (aD M2 a (.lst (ds++[v])))
def iR(ta ti tv:NTE):NTS:=λE ρ M=>tv ρ M λv M1=>ta ρ M1 λx M2=>ti ρ M2 λy M3=>∃a ds k j,x=.ptr a/\M3 a=some (.lst ds)/\y=.int k/\ixN ds.length k=some j/\E.nx ρ (aD M3 a (.lst (ds.set j v)))
def dU(body:D->NTS):D_->NTS
 |[],E,ρ,M=>E.nx ρ M
 |x::r,E,ρ,M=>body x {E with nx:=λρ M=>dU body r E ρ M,ct:=λρ M=>dU body r E ρ M,bk:=E.nx} ρ M
def nY(t:Nat)(it:NTE)(tb:NTS):NTS:=λE ρ M=>it ρ M λd M1=>∃ds,cj d=some ds/\dU (λx E ρ M=>tb E (ρ.set t (some x)) M) ds E ρ M1
def nZ(t:Nat)(ta:NTA)(tb:NTS):NTS:=λE ρ M=>ta ρ M λds M1=>∃j,ds=[.int j]/\okR j/\dU (λx E ρ M=>tb E (ρ.set t (some x)) M) ((List.range j.toNat).map λk=>.int (k:Nat)) E ρ M1
def mkN(np n:Nat)(t:NTS):NTF:=λds M Q=>ds.length=np/\t {nx:=λ_ M'=>Q .non M',rt:=Q} (ds.map some++List.replicate (n-np) none) M
def dD(nown:Nat)(te:NTE)(ρb:ag):D_->D_->Sto->(D_->Sto->Prop)->Prop
 |[],done,M,Q=>Q done M
 |x::r,done,M,Q=>te (ρb.set 0 (some x)) M λd M1=>dD nown te ρb r (done++[d]) M1 Q
def hZ(J6:z9)(ti:NTA)(te:NTE):NTE:=λρ M Q=>ti ρ M λds M1=>∃j,ds=[.int j]/\okR j/\j<1000/\dD 1 te (bh 1 J6 ρ) ((List.range j.toNat).map λk=>.int (k:Nat)) [] M1 λds M2=>Q (.lst ds) M2
def vw2(M:Sto):D->D
 | .ptr a=>match M a with
   |some (.lst ds)=>.lst (ds.map (vw1 M))
   |_=>.ptr a
 |d=>d
def rZ(G:D_->E_)(ta:NTA):NTE:=λρ M Q=>ta ρ M λds M1=>WF G (ds.map (vw2 M1)) λd=>aV d=true/\Q d M1
def se(G:D_->E_)(ta:NTA):NTE:=λρ M Q=>ta ρ M λds M1=>WF G (ds.map (vw2 M1)) λd=>(∃xs:h_,d=.lst (xs.map .int))/\Q d M1
def sf(G:D_->E_)(ta:NTA):NTE:=λρ M Q=>ta ρ M λds M1=>WF G (ds.map (vw2 M1)) λd=>Q d M1
def sg(ta:NTE):NTE:=λρ M Q=>ta ρ M λx M1=>∃ds,vw1 M1 x=.lst ds/\Q (.lst ds) M1
def sh(fa:FE)(tb:NTE):NTE:=λρ M Q=>WE fa ρ λx=>tb ρ M λy M1=>W2 fM x y λd=>Q d M1
def sj(J6:z9)(ti te:NTE):NTE:=λρ M Q=>ti ρ M λd M1=>∃ds,cj d=some ds/\ds.length<=1000/\dD 1 te (bh 1 J6 ρ) ds [] M1 λds M2=>Q (.lst ds) M2
def nFz(i:Nat):NTS:=λE ρ M=>∃a ds,a5 i ρ=some (.ptr a)/\M a=some (.lst ds)/\E.nx (ρ.set i (some (.lst ds))) (cW M a)
def vw3(M:Sto):D->D
 |.lst ds=>.lst (ds.map (vw2 M))
 |d=>vw2 M d
def n2V(g:D->D->E_)(ta tb:NTE):NTE:=λρ M Q=>ta ρ M λx M1=>tb ρ M1 λy M2=>W2 g (vw3 M2 x) (vw3 M2 y) λd=>aV d=true/\Q d M2
def o3(k:Nat)(ta:NTE):NTE:=λρ M Q=>ta ρ M λx M1=>∃a ds,x=.ptr a/\M1 a=some (.lst ds)/\k<=1000/\Q (.lst (cU ds (some (k:Nat)) none)) M1
noncomputable def XS:i_:=["NoSale","NoClass","Over","Early","Done","TooMany","Twice","NoTurn","Full","NoRow"]
abbrev QX:=Str->Sto->Prop
abbrev NTX:=D_->Sto->QE->QX->Prop
abbrev NEX:=ag->Sto->QE->QX->Prop
def mkX(np n:Nat)(t:NTS):NTX:=λds M Q EX=>ds.length=np/\t {nx:=λ_ M'=>Q .non M',rt:=Q,ex:=EX} (ds.map some++List.replicate (n-np) none) M
def fA(T:NTX)(ta:NTA):NEX:=λρ M Q EX=>ta ρ M λds M1=>T ds M1 Q EX
def dW(C:Nat)(ns:i_)(T:NTX)(ta:NTE)(tas:NTA):NEX:=λρ M Q EX=>ta ρ M λx M1=>∃a ds0,x=.ptr a/\M1 a=some (.ins C ns ds0)/\tas ρ M1 λds M2=>T (x::ds) M2 Q EX
def sk(C:Nat)(T:NTX)(tas:NTA):NEX:=λρ M Q EX=>tas ρ M λds M1=>∀a,M1 a=none->T (.ptr a::ds) (aD M1 a (.ins C [] [])) (λd M2=>d=.non/\Q (.ptr a) M2) EX
def cB(x:Str):NTS:=λE _ M=>x∈XS/\E.ex x M
def jL(i:Nat)(te:NEX):NTS:=λE ρ M=>te ρ M (λd M1=>E.nx (ρ.set i (some d)) M1) E.ex
def fB(te:NEX):NTS:=λE ρ M=>te ρ M E.rt E.ex
def jM(te:NEX):NTS:=λE ρ M=>te ρ M (λ_ M1=>E.nx ρ M1) E.ex
def sm(i j:Nat)(t:NTS):NTS:=λE ρ M=>t {E with ex:=λx M1=>∀a,M1 a=none->E.nx ((ρ.set j none).set i (some (.ptr a))) (aD M1 a (.exn a x))} ρ M
def eQ(y:Str)(ta:NTE):NTE:=λρ M Q=>ta ρ M λd M1=>∃a x,d=.ptr a/\M1 a=some (.exn a x)/\x∈XS/\Q (.bl (decide (x=y))) M1
def so(ta:NTE):NTE:=λρ M Q=>ta ρ M λd M1=>∃a x,d=.ptr a/\M1 a=some (.exn a x)/\x∈XS/\Q (.bl true) M1
end VL
variable {M M':VL.Sto}{ti ta tb tel tit:VL.NTE}{te:VL.NEX}{T:VL.NTF}{Ew:VL.EndN}{QW:VL.QE}{EX:VL.QX}{ka kb:VL.NTB}{tas:VL.NTA}
namespace VL
open PySem PySem.Spec PyProof.Rows L2
noncomputable def yi:Option Cell->Bool
 |some (.dcT true _)=>true
 |some (.dcL true _)=>true
 |_=>false
def inM(M:Sto):Addr->Prop:=λa=>M a≠none/\yi (M a)=false
def o6{b:Addr}(e:M' b=M b):inM M' b↔inM M b:=by unfold inM;rw[e]
noncomputable abbrev PH(H:Hp)(M:Sto):Hp:=az H (inM M)
noncomputable def b7(ns:i_)(vs:B_):List (Key×V):=(ns.zip vs).map λp=>(Sum.inr p.1,p.2)
noncomputable def yj(ps:List ((Int×Int)×Int)):List (List Key×V):=ps.map λp=>([Sum.inl p.1.1,Sum.inl p.1.2],V.int p.2)
noncomputable def yk(ps:List (h_×Int)):List (List Key×V):=ps.map λp=>(p.1.map Sum.inl,V.int p.2)
def yl(x C:Addr):Heap->Prop:=λh=>∃o,h.get? x=some o/\o.cls=.ref C
def CellOk(K:K0)(H:Hp):HO->Cell->Prop
 |.lst xs,.lst ds=>Reps K H xs ds
 |.dK kvs,.dic ns ds=>∃vs,kvs=b7 ns vs/\vs.length=ns.length/\Reps K H vs ds
 |.ins C dx fs,.ins C' ns ds=>C=C'/\∃vs,fs=ns.zip vs/\vs.length=ns.length/\Reps K H vs ds
 |o,.dcT fz ps=>(fz=false/\o=.dT (yj ps))\/(fz=true/\∃ob,o=.frz ob (.dT (yj ps)))
 |o,.dcL fz ps=>(fz=false/\o=.dT (yk ps))\/(fz=true/\∃ob,o=.frz ob (.dT (yk ps)))
 |.ext φ,.exn a x=>∃C,φ=yl a C/\W.nsIn K mainGlobals x=some (some (.ref C))
 |_,_=>False
def CellOk.mono(e:Same H H'):∀{o:HO} {c:Cell},CellOk K H o c->CellOk K H' o c:=λ{o c} h=>by
 unfold CellOk at h ⊢;split at h
 ·show aT e h
 ·ext(⟨vs,h1,h2,h3⟩:h);show⟨vs,h1,h2,aT e h3⟩
 ·ext(⟨h0,vs,h1,h2,h3⟩:h);show⟨h0,vs,h1,h2,aT e h3⟩
 ·show h
 ·show h
 ·show h
 ·show h.elim
def MOk(K:K0)(H:Hp)(M:Sto):Prop:=∀a c,M a=some c->∃o,H a=some o/\CellOk K (PH H M) o c
theorem MOk.dom(h:MOk K H M):Dom H (inM M):=λb hb n=>by
 cases e:M b with
 |none=>show hb.1 e
 |some c=>ext(⟨o,h1,_⟩:h b c e);rw[n]at h1;ext h1
def MOk.fresh(h:MOk K H M){p:Addr}(hp:H p=none):M p=none:=by
 cases e:M p with
 |none=>rfl
 |some c=>ext(⟨o,h1,_⟩:h p c e);rw[hp]at h1;ext h1
def PH.up(e:Same H H'):Same (PH H M) (PH H' M):=cz e
def MOk.up(h:MOk K H M)(e:Same H H'):MOk K H' M:=λa c hc=>by ext(⟨o,h1,h2⟩:h a c hc);show⟨o,e _ _ h1,h2.mono (PH.up e)⟩
def PH.at{b:Addr}(h:PH H M b=some o):¬inM M b/\H b=some o:=eJ h
def PH.of{b:Addr}(h:M b=none):PH H M b=H b:=cb λn=>n.1 h
def PH.out{b:Addr}(h:¬inM M b):PH H M b=H b:=cb h
def fU{p:Addr}{c:Cell}(h:MOk K H M)(hp:H p=none)(hs:Same H H')(ho:H' p=some o)(hc:CellOk K (az H' λb=>inM M b\/b=p) o c):
  Same (PH H M) (PH H' (aD M p c))/\MOk K H' (aD M p c):=by
 have e:Same (PH H M) (PH H' (aD M p c)):=λb u q=>by ext(⟨h1,h2⟩:PH.at q);have ne:b≠p:=bZ h2 hp;rw[PH.out (mt (o6 (aP ne)).mp h1)];show hs _ _ h2
 show⟨e,λa c' hc'=>?_⟩;by_cases q:a=p
 ·subst q
  rw[aE]at hc';ext hc';show⟨o,ho,hc.mono (cD (λ_ _ z=>z) λb z=>?_)⟩;by_cases hb:b=a
  ·show .inr hb
  ·show .inl ((o6 (aP hb)).mp z)
 ·rw[aP q]at hc'
  ext(⟨o',h1,h2⟩:h a c' hc');show⟨o',hs _ _ h1,h2.mono e⟩
def iS{a:Addr}{c c0:Cell}(h:MOk K H M)(ha:M a=some c0)(hc:CellOk K (PH H M) o c)(hf:yi (some c0)=false<|>R0):
  Same (PH H M) (PH (upd H a o) (aD M a c))/\MOk K (upd H a o) (aD M a c):=by
 have e:Same (PH H M) (PH (upd H a o) (aD M a c)):=λb u q=>by
  ext(⟨h1,h2⟩:PH.at q);have ne:b≠a:=λz=>h1 (by subst z;show⟨λn=>?_,?_⟩<;>rw[ha]at *;ext n;show hf)
  rw[PH.out (mt (o6 (aP ne)).mp h1),aJ ne];show h2
 show⟨e,λb c' hc'=>?_⟩;by_cases q:b=a
 ·subst q
  rw[aE]at hc';ext hc';show⟨o,bi,hc.mono e⟩
 ·rw[aP q]at hc'
  ext(⟨o',h1,h2⟩:h b c' hc');show⟨o',by rw[aJ q];show h1,h2.mono e⟩
def ym{a:Addr}(h:MOk K H M):Same (PH H M) (PH H (cW M a))/\MOk K H (cW M a):=by
 have e:Same (PH H M) (PH H (cW M a)):=cD (λ_ _ z=>z) λb z=>by
  by_cases hb:b=a
  ·subst hb;show absurd nV z.1
  ·show(o6 (nW hb)).mp z
 show⟨e,λb c hc=>?_⟩;by_cases q:b=a
 ·subst q;rw[nV]at hc;ext hc
 ·rw[nW q]at hc
  ext(⟨o,h1,h2⟩:h b c hc);show⟨o,h1,h2.mono e⟩
structure EnvQ (K:K0) (σ:St) (ρ:ag) (H:Hp) (M:Sto):Prop where
 env:EnvR K (PH H M) σ ρ
 ok:MOk K H M
structure PostT (K:K0) (H:Hp) (M:Sto) (H':Hp) (M':Sto):Prop where
 same:Same (PH H M) (PH H' M')
 ok:MOk K H' M'
structure PostW (K:K0) (H:Hp) (M:Sto) (d:D) (v:V) (H':Hp) (M':Sto):Prop extends PostT K H M H' M' where
 rep:Rep K (PH H' M') v d
structure PostWs (K:K0) (H:Hp) (M:Sto) (ds:D_) (vs:B_) (H':Hp) (M':Sto):Prop extends PostT K H M H' M' where
 rep:Reps K (PH H' M') vs ds
def EnvQ.next(h:EnvQ K σ ρ H M)(p:PostT K H M H' M'):EnvQ K σ ρ H' M':=⟨h.env.mono p.same,p.ok⟩
def PostT.refl(h:MOk K H M):PostT K H M H M:=⟨Same.refl _,h⟩
def PostT.trans{M1 M2:Sto}(a:PostT K H M H1 M1)(b:PostT K H1 M1 H2 M2):PostT K H M H2 M2:=⟨a.same.trans b.same,b.ok⟩
def PostT.of(h:MOk K H M)(e:Same H H'):PostT K H M H' M:=⟨PH.up e,h.up e⟩
def tw(K:K0)(t:NTE):TE:=λσ H Q=>∃ρ M QW,EnvQ K σ ρ H M/\t ρ M QW/\∀d M',QW d M'->∀v H',PostW K H M d v H' M'->Q v H'
def twT(K:K0)(t:NTB):TT:=λσ H Q=>∃ρ M QW,EnvQ K σ ρ H M/\t ρ M QW/\∀b M',QW b M'->∀H',PostT K H M H' M'->Q b H'
def twA(K:K0)(t:NTA):TA:=λσ H Q=>∃ρ M QW,EnvQ K σ ρ H M/\t ρ M QW/\∀ds M',QW ds M'->∀vs H',PostWs K H M ds vs H' M'->Q vs H'
abbrev NE(X:Cx)(e:Expr)(t:NTE):Prop:=PE X e (tw X.K t)
structure YE (X:Cx) (e:Expr) (t:NTE):Prop where
 h:NE X e t
abbrev NT(X:Cx)(e:Expr)(t:NTB):Prop:=PT X e (twT X.K t)
structure YT (X:Cx) (e:Expr) (t:NTB):Prop where
 h:NT X e t
abbrev NW(X:Cx)(e:Expr)(t:NTB):Prop:=PW X e (twT X.K t)
structure YW (X:Cx) (e:Expr) (t:NTB):Prop where
 h:NW X e t
abbrev NA(X:Cx)(es:k_)(t:NTA):Prop:=PA X es (twA X.K t)
structure YA (X:Cx) (e:k_) (t:NTA):Prop where
 h:NA X e t
def bB{n:NTE}(h:PE X e t)(i:∀σ H Q ρ M QW,EnvQ X.K σ ρ H M->n ρ M QW->(∀d M',QW d M'->∀v H',PostW X.K H M d v H' M'->Q v H')->t σ H Q):PE X e (tw X.K n):=cT h λσ H Q z_=>by ext(⟨ρ,M,QW,hE,ht,hQ⟩:z_);show i σ H Q ρ M QW hE ht hQ
def lG{t:TT}{n:NTB}(h:PT X e t)(i:∀σ H Q ρ M QW,EnvQ X.K σ ρ H M->n ρ M QW->(∀d M',QW d M'->∀H',PostT X.K H M H' M'->Q d H')->t σ H Q):PT X e (twT X.K n):=mT h λσ H Q z_=>by ext(⟨ρ,M,QW,hE,ht,hQ⟩:z_);show i σ H Q ρ M QW hE ht hQ
def yn{t:TT}{n:NTB}(h:PW X e t)(i:∀σ H Q ρ M QW,EnvQ X.K σ ρ H M->n ρ M QW->(∀d M',QW d M'->∀H',PostT X.K H M H' M'->Q d H')->t σ H Q):PW X e (twT X.K n):=qJ h λσ H Q z_=>by ext(⟨ρ,M,QW,hE,ht,hQ⟩:z_);show i σ H Q ρ M QW hE ht hQ
def yo{e:k_}{t:TA}{n:NTA}(h:PA X e t)(i:∀σ H Q ρ M QW,EnvQ X.K σ ρ H M->n ρ M QW->(∀d M',QW d M'->∀v H',PostWs X.K H M d v H' M'->Q v H')->t σ H Q):PA X e (twA X.K n):=kQ h λσ H Q z_=>by ext(⟨ρ,M,QW,hE,ht,hQ⟩:z_);show i σ H Q ρ M QW hE ht hQ
section
def lH(h:EnvQ K σ ρ H M)(e:Es):Av K H σ ρ (inM M) e:=by
 have full:∀(j:Nat) (v:V) (d:D),σ[j]?=some (some v)->ρ[j]?=some (some d)->Rep K (az H (inM M)) v d:=λj v d h1 h2=>by ext(⟨v',h3,h4⟩:h.env j d h2);rw[h1]at h3;ext h3;show h4
 cases e with
 |full j=>show full j
 |el j=>show λv d h1 h2=>(full j v d h1 h2).el
def EnvQ.envR(h:EnvQ K σ ρ H M):EnvR K H σ ρ:=h.env.mono (aU _ _)
def sr(h:VE X a fa es):NE X a (nP fa):=bB h λσ H Q ρ M QW hE ⟨d,hf,hq⟩ hQ=>⟨ρ,d,hE.envR,hf,λv H' p=>hQ d M hq v H' ⟨PostT.of hE.ok p.same,p.av (inM M) hE.ok.dom λe _=>lH hE e⟩⟩
def bt{f:ag->A_}(h:JT X a f):YT X a (nPB f):=⟨have h:=h.h;lG h λσ H Q ρ M QW hE ⟨d,hf,hq⟩ hQ=>⟨ρ,d,hE.envR,hf,λH' e=>hQ d M hq H' (PostT.of hE.ok e)⟩⟩
def o7(hr:OpV K r g)(h:tw K (n2 g ta tb) σ H Q):tOp r (tw K ta) (tw K tb) σ H Q:=by ext(⟨ρ,M,QW,hE,ht,hQ⟩:h);show⟨ρ,M,_,hE,ht,λx M1 h1 vx H1 p1=>⟨ρ,M1,_,hE.next p1.toPostT,h1,λy M2 h2 vy H2 p2=>?_⟩⟩;ext(⟨d,hg,hq⟩:h2);have rx:=aA p2.same p1.rep;show hr vx vy H2 x y d Q (aA (aU _ _) rx) (aA (aU _ _) p2.rep) hg λv H' e r' av=>hQ d M2 hq v H' ⟨(p1.toPostT.trans p2.toPostT).trans (PostT.of p2.ok e),av _ p2.ok.dom rx p2.rep⟩
def lI{op:Operator}(ho:OpR X (binaryOp op) r)(hr:OpV X.K r g)(ha:NE X a ta)(hb:NE X b tb):NE X (.BinOp a op b pos) (n2 g ta tb):=cT (iA ho ha hb) λ_ _ _ h=>o7 hr h
def dL(ha:YE X a ta)(hb:YE X b tb):YE X (.BinOp a .Add b pos) (n2 br ta tb):=⟨have ha:=ha.h;have hb:=hb.h;lI vm (kU X.K λ_ _ _=>.int _) ha hb⟩
def lJ(ha:YE X a ta)(hb:YE X b tb):YE X (.BinOp a .Sub b pos) (n2 cZ ta tb):=⟨have ha:=ha.h;have hb:=hb.h;lI vn (kU X.K λ_ _ _=>.int _) ha hb⟩
def yp(ha:YE X a ta)(hb:YE X b tb):YE X (.BinOp a .Mult b pos) (n2 dm ta tb):=⟨have ha:=ha.h;have hb:=hb.h;lI wz (kS X.K (λ_ _ h=>h) λ_ _ _=>.int _) ha hb⟩
def Hc(ho:OpR X (compareOp op) r)(hr:OpV X.K r g)(ha:NE X a ta)(hb:NE X b tb)(hm:behindInMarks op b=false):NE X (.Compare a [op] [b] pos) (n2 g ta tb):=
 cT (vq ho ha hb hm) λ_ _ _ h=>o7 hr h
theorem lK(ho:OpR X (compareOp op) r)(hr:OpV X.K r g)(ha:NE X a ta)(hb:NE X b tb)(hm:behindInMarks op b=false):NT X (.Compare a [op] [b] pos) (bI (n2 g ta tb)):=
 lG (qr ho ha hb hm) λσ H Q ρ M QW hE ht hQ=>o7 hr ⟨ρ,M,_,hE,ht,λd M' hd v H' p=>by
  cases d with
  |bl k=>cases p.rep;show⟨k,rfl,hQ k M' hd H' p.toPostT⟩
  |_=>show hd.elim⟩
def He(ha:YE X a ta)(hb:YE X b tb):YT X (.Compare a [.Gt] [b] pos) (bI (n2 gtI ta tb)):=⟨have ha:=ha.h;have hb:=hb.h;lK qq (gS X.K) ha hb (di _)⟩
def ne_eq{k:Nat}(hr:Room k X.A)(ha:NE X a ta)(hb:NE X b tb):NE X (.Compare a [.Eq] [b] pos) (n2 eqD ta tb):=Hc (nD hr) (nE X.K) ha hb (di _)
def jN{k:Nat}(hr:Room k X.A)(ha:YE X a ta)(hb:YE X b tb):YT X (.Compare a [.Eq] [b] pos) (bI (n2 eqD ta tb)):=⟨have ha:=ha.h;have hb:=hb.h;lK (nD hr) (nE X.K) ha hb (di _)⟩
def yq{k:Nat}(hr:Room k X.A)(ha:YE X a ta)(hb:YE X b tb):YT X (.Compare a [.NotEq] [b] pos) (bI (n2 neD ta tb)):=⟨have ha:=ha.h;have hb:=hb.h;lK (xv hr) (xw X.K) ha hb (di _)⟩
def Hf:n2 rC ta (nP (eC .non))=n1 dC ta:=by funext ρ M Q;unfold n2 n1 nP;congr 1;funext x M1;unfold WE W2 W1 eC;show propext ⟨λz_=>by ext(⟨d,e,h⟩:z_);ext e;show h,λh=>⟨_,rfl,h⟩⟩
def Hg:n2 nH ta (nP (eC .non))=n1 gr ta:=by funext ρ M Q;unfold n2 n1 nP;congr 1;funext x M1;unfold WE W2 W1 eC;show propext ⟨λz_=>by ext(⟨d,e,h⟩:z_);ext e;show h,λh=>⟨_,rfl,h⟩⟩
def o8{j}(ha:YE X a ta):YT X (.Compare a [.Is] [.Constant .none j p2] pos) (bI (n1 dC ta)):=⟨have ha:=ha.h;by rw[<- Hf];show lK vo (xD X.K) ha (sr kR) (di _)⟩
def Hh{j}(ha:YE X a ta):YT X (.Compare a [.IsNot] [.Constant .none j p2] pos) (bI (n1 gr ta)):=⟨have ha:=ha.h;by rw[<- Hg];show lK vp (xE X.K) ha (sr kR) (di _)⟩
variable {rest:k_}
def eS(h:YE X a ta)(he:(∀whole,isTrue a X.env whole=(do let v <- whole;standAt a.pos;holding [v] (truthy v)))<|>R4):YT X a (dS ta):=⟨have h:=h.h;
 lG (vA h he) λσ H Q ρ M QW hE ht hQ=>⟨ρ,M,_,hE,ht,λd M' z_ v H' p=>by ext(⟨b,hb,hq⟩:z_);show⟨b,wE (aA (aU _ _) p.rep) hb,hQ b M' hq H' p.toPostT⟩⟩⟩
def yr(ha:YT X a ka):YW X (.BoolOp .And [a] pos) ka:=⟨have ha:=ha.h;uZ ha⟩
def Hi(ha:YT X a ka):YW X (.BoolOp .Or [a] pos) ka:=⟨have ha:=ha.h;v4 ha⟩
theorem su(ha:YT X a ka)(hb:YW X (.BoolOp .And (b::rest) pos) kb):YW X (.BoolOp .And (a::b::rest) pos) (lC ka kb):=⟨have ha:=ha.h;have hb:=hb.h;
 yn (v5 ha hb) λσ H Q ρ M QW hE ht hQ=>⟨ρ,M,_,hE,ht,λk M1 hk H1 p1=>by
  cases k with
  |true=>show eo ⟨ρ,M1,_,hE.next p1,hk.1 rfl,λk' M2 h2 H2 p2=>hQ k' M2 h2 H2 (p1.trans p2)⟩
  |false=>show eh (hQ _ M1 (hk.2 rfl) H1 p1)⟩⟩
theorem Hj(ha:YT X a ka)(hb:YW X (.BoolOp .Or (b::rest) pos) kb):YW X (.BoolOp .Or (a::b::rest) pos) (nOr ka kb):=⟨have ha:=ha.h;have hb:=hb.h;
 yn (v6 ha hb) λσ H Q ρ M QW hE ht hQ=>⟨ρ,M,_,hE,ht,λk M1 hk H1 p1=>by
  cases k with
  |false=>show eh ⟨ρ,M1,_,hE.next p1,hk.2 rfl,λk' M2 h2 H2 p2=>hQ k' M2 h2 H2 (p1.trans p2)⟩
  |true=>show eo (hQ _ M1 (hk.1 rfl) H1 p1)⟩⟩
def sv(h:YW X a ka):YT X a ka:=⟨have h:=h.h;h.pt⟩
def fC(ha:YT X a ka):YT X (.UnaryOp .Not a pos) (eE ka):=⟨have ha:=ha.h;lG (v7 ha) λσ H Q ρ M QW hE ht hQ=>⟨ρ,M,_,hE,ht,λk M1 hk H1 p1=>hQ _ M1 hk H1 p1⟩⟩
theorem yt(hc:YT X c ka)(ha:YE X a ta)(hb:YE X b tb):YE X (.IfExp c a b pos) (nIf ka ta tb):=⟨have hc:=hc.h;have ha:=ha.h;have hb:=hb.h;
 bB (va hc ha hb) λσ H Q ρ M QW hE ht hQ=>⟨ρ,M,_,hE,ht,λk M1 hk H1 p1=>by
  have fin:∀d M2,QW d M2->∀v H2,PostW X.K H1 M1 d v H2 M2->Q v H2:=λd M2 h2 v H2 p2=>hQ d M2 h2 v H2 ⟨p1.trans p2.toPostT,p2.rep⟩
  cases k with
  |true=>show eo ⟨ρ,M1,_,hE.next p1,hk.1 rfl,fin⟩
  |false=>show eh ⟨ρ,M1,_,hE.next p1,hk.2 rfl,fin⟩⟩⟩
def Hk{op}(h:YE X a ta):YE X (.BoolOp op [a] pos) ta:=⟨have h:=h.h;v8 h⟩
theorem Hl(ha:YE X a ta)(hb:YE X (.BoolOp .And (b::rest) pos) tb):YE X (.BoolOp .And (a::b::rest) pos) (rW ta tb):=⟨have ha:=ha.h;have hb:=hb.h;
 bB (v9 ha hb) λσ H Q ρ M QW hE ht hQ=>⟨ρ,M,_,hE,ht,λx M1 hk vx H1 p1=>by
  cases x with
  | bl k=>
    cases p1.rep;show⟨k,rfl,?_⟩;cases k with
    |true=>show eo ⟨ρ,M1,_,hE.next p1.toPostT,hk.1 rfl,λd M2 h2 v H2 p2=>hQ d M2 h2 v H2 ⟨p1.toPostT.trans p2.toPostT,p2.rep⟩⟩
    |false=>show eh (hQ _ M1 (hk.2 rfl) _ H1 ⟨p1.toPostT,.bl _⟩)
  |_=>show hk.elim⟩⟩
variable {xs:k_}
def ao:YA X [] aj:=⟨yo ca λσ H Q ρ M QW hE ht hQ=>hQ [] M ht [] H ⟨PostT.refl hE.ok,.nil⟩⟩
def ad(ha:YE X a ta)(hr:YA X xs tas)(hs:SE a xs X<|>R0):YA X (a::xs) (aa ta tas):=⟨have ha:=ha.h;have hr:=hr.h;
 yo (bS ha hr hs) λσ H Q ρ M QW hE ht hQ=>⟨ρ,M,_,hE,ht,λd M1 h1 v H1 p1=>⟨ρ,M1,_,hE.next p1.toPostT,h1,λds M2 h2 vs H2 p2=>hQ _ M2 h2 _ H2 ⟨p1.toPostT.trans p2.toPostT,.cons (aA p2.same p1.rep) p2.rep⟩⟩⟩⟩
def o9{x1}(h:YA X xs tas):YE X (.Tuple xs x1 pos) (jJ tas):=⟨have h:=h.h;
 bB (vI h) λσ H Q ρ M QW hE ht hQ=>⟨ρ,M,_,hE,ht,λds M1 ⟨hl,hq⟩ vs H1 p=>⟨by rw[p.rep.length];show l4 hl,λl hl1=>by have hn:=p.ok.fresh hl1;show hQ _ M1 hq _ _ ⟨p.toPostT.trans (PostT.of p.ok (bj hl1 _)),.tup ?_ (aT (PH.up (bj hl1 _)) p.rep)⟩;rw[PH.of hn];show bi⟩⟩⟩
def fV(h:YA X xs tas):YE X (.List xs pos) (eF tas):=⟨have h:=h.h;
 bB (mJ h) λσ H Q ρ M QW hE ht hQ=>⟨ρ,M,_,hE,ht,λds M1 ⟨hl,hq⟩ vs H1 p=>⟨by rw[p.rep.length];show l4 hl,λl hl1=>by have hn:=p.ok.fresh hl1;show hQ _ M1 hq _ _ ⟨p.toPostT.trans (PostT.of p.ok (bj hl1 _)),.lst (.inl ?_) (aT (PH.up (bj hl1 _)) p.rep)⟩;rw[PH.of hn];show bi⟩⟩⟩
def oa{A:Addr->Prop}{p:Addr}(hp:H p=none):Same (az H A) (az (upd H p o) λb=>A b\/b=p):=λb u q=>by ext(⟨n,q⟩:eJ q);have ne:b≠p:=bZ q hp;rw[cb (λz=>z.elim n ne),aJ ne];show q
def sw(h:YA X xs tas):YE X (.List xs pos) (lD tas):=⟨have h:=h.h;
 bB (mJ h) λσ H Q ρ M QW hE ht hQ=>⟨ρ,M,_,hE,ht,λds M1 ⟨hl,hq⟩ vs H1 p=>⟨by rw[p.rep.length];show l4 hl,λl hl1=>by have hn:=p.ok.fresh hl1;ext(⟨e1,e2⟩:fU (c:=.lst ds) p.ok hl1 (bj hl1 (.lst vs)) bi (aT (oa hl1) p.rep));show hQ _ _ (hq l hn) _ _ ⟨p.toPostT.trans ⟨e1,e2⟩,.ptr l⟩⟩⟩⟩
def og(h:JF X a fa es):YE X a (hV fa):=⟨have h:=h.h;bB h λσ H Q ρ M QW hE ⟨d,hf,ds,e,hq⟩ hQ=>⟨ρ,d,hE.envR,hf,λv H' p=>by ext(⟨l,xs,ds',rfl,rfl,hl,hl',hr⟩:p.new);ext e;ext(⟨e1,e2⟩:fU (c:=.lst ds) hE.ok hl p.same hl' (hr (inM M) hE.ok.dom λe _=>lH hE e));show hQ _ _ (hq l (hE.ok.fresh hl)) _ _ ⟨⟨e1,e2⟩,.ptr l⟩⟩⟩
theorem cI(ha:YE X a ta)(hb:YE X b tb)(hs:jp b):YE X (.Subscript a b pos) (n2 ixD ta tb):=⟨have ha:=ha.h;have hb:=hb.h;
 bB (kH (ix_list.or qB) ha hb hs) λσ H Q ρ M QW hE ht hQ=>⟨ρ,M,_,hE,ht,λx M1 h1 vx H1 p1=>⟨ρ,M1,_,hE.next p1.toPostT,h1,λy M2 z_ vy H2 p2=>by
  ext(⟨d,hd,hq⟩:z_);cases y with
  | int i=>
    cases p2.rep;ext(⟨ds,h3,h4⟩:bind_some hd);have rx:=aA p2.same p1.rep;have hel:ElR X.K H2 (inM M2) _ _:=rx.el;ext(⟨p,xs,rfl,hp,_,hA⟩:jD (aA (aU _ _) rx) h3);have hx:=hA _ hel;ext(⟨v,h5,h6⟩:mZ hx h4);have fin:Q v H2:=hQ d M2 hq v H2 ⟨p1.toPostT.trans p2.toPostT,h6⟩;ext((hp|hp):hp)
    ·show .inl ⟨p,xs,i,v,rfl,rfl,hp,h5,fin⟩
    ·show .inr ⟨p,xs,i,v,rfl,rfl,hp,h5,fin⟩
  |_=>ext hd⟩⟩⟩
def fD{a:Addr}(h:MOk K H M)(ha:M a=some (.lst ds)):∃xs,H a=some (.lst xs)/\Reps K (PH H M) xs ds:=by
 ext(⟨o,h1,h2⟩:h a _ ha);cases o with
 |lst xs=>show⟨xs,h1,h2⟩
 |_=>show h2.elim
def jO{a:Addr}(h:MOk K H M)(ha:M a=some (.dic ns ds)):∃vs,H a=some (.dK (b7 ns vs))/\vs.length=ns.length/\Reps K (PH H M) vs ds:=by
 ext(⟨o,h1,h2⟩:h a _ ha);cases o with
 |dK kvs=>ext(⟨vs,rfl,h3,h4⟩:h2);show⟨vs,h1,h3,h4⟩
 |_=>show h2.elim
def gw{a:Addr}{C:Nat}(h:MOk K H M)(ha:M a=some (.ins C ns ds)):∃dx vs,H a=some (.ins C dx (ns.zip vs))/\vs.length=ns.length/\Reps K (PH H M) vs ds:=by
 ext(⟨o,h1,h2⟩:h a _ ha);cases o with
 |ins C' dx fs=>ext(⟨rfl,vs,rfl,h3,h4⟩:h2);show⟨dx,vs,h1,h3,h4⟩
 |_=>show h2.elim
def sx(ha:YE X a ta)(hb:YE X b tb)(hs:jp b):YE X (.Subscript a b pos) (lE ta tb):=⟨have ha:=ha.h;have hb:=hb.h;
 bB (kH (ix_list.or qB) ha hb hs) λσ H Q ρ M QW hE ht hQ=>⟨ρ,M,_,hE,ht,λx M1 h1 vx H1 p1=>⟨ρ,M1,_,hE.next p1.toPostT,h1,λy M2 z_ vy H2 p2=>by ext(⟨q,ds,i,d,ex,hm,ey,hd,hq⟩:z_);subst ex ey;cases p1.rep;cases p2.rep;ext(⟨xs,g1,g2⟩:fD p2.ok hm);ext(⟨v,h5,h6⟩:mZ g2 hd);show .inl ⟨q,xs,i,v,rfl,rfl,.inl (.inl g1),h5,hQ d M2 hq v H2 ⟨p1.toPostT.trans p2.toPostT,h6⟩⟩⟩⟩⟩
theorem yu:∀{ns:i_} {vs:B_} {i:Nat} {x:Str} {v:V},ns.Nodup->ns[i]?=some x->vs[i]?=some v->(ns.zip vs).lookup x=some v
 |[],_,_,_,_,_,h,_=>by simp at h
 |_::_,[],i,_,_,_,_,h=>by simp at h
 |n::ns,w::vs,0,x,v,_,h1,h2=>by simp at h1 h2;subst h1 h2;simp
 | n::ns,w::vs,i+1,x,v,hn,h1,h2=>by
   have h1':ns[i]?=some x:=⇑h1
   have hm:x∈ns:=z8d h1';have ne:¬(x=n):=λe=>(z8s.mp hn).1 (e▸hm)
   have ih:=yu (z8s.mp hn).2 h1' (⇑h2);rw[z7k,z8z,show(x==n)=false from z7h.mpr ne];show ih
theorem yv:∀{ns:i_} {vs:B_} {i:Nat} {x:Str} {v:V},ns.Nodup->ns[i]?=some x->vs[i]?=some v->bQ (b7 ns vs) (.inr x)=some v
 |[],_,_,_,_,_,h,_=>by simp at h
 |_::_,[],i,_,_,_,_,h=>by simp at h
 |n::ns,w::vs,0,x,v,_,h1,h2=>by simp at h1 h2;subst h1 h2;show mM (p:=((Sum.inr n:Key),w)) rfl
 | n::ns,w::vs,i+1,x,v,hn,h1,h2=>by
   have h1':ns[i]?=some x:=⇑h1
   have hm:x∈ns:=z8d h1';have ne:¬(n=x):=λe=>(z8s.mp hn).1 (e▸hm)
   have ih:=yv (z8s.mp hn).2 h1' (⇑h2);have e2:bQ (b7 (n::ns) (w::vs)) (.inr x)=bQ (b7 ns vs) (.inr x):=mO (p:=((Sum.inr n:Key),w)) λq=>ne (z5p q)
   rw[e2];show ih
def oh{k:Nat}{j}(hr:Room k X.A)(ha:YE X a ta)(hs:mQ (.Constant (.str x) j p2))(hn:ns.Nodup<|>R5)(hi:ns[i]?=some x<|>R0):YE X (.Subscript a (.Constant (.str x) j p2) pos) (nDg ns i ta):=⟨have ha:=ha.h;
 bB (wg (by have:=hr.un;ext) ha gJ hs) λσ H Q ρ M QW hE ht hQ=>⟨ρ,M,_,hE,ht,λy M1 z_ vy H1 p1=>by ext(⟨q,ds,d,ex,hm,hd,hq⟩:z_);subst ex;cases p1.rep;ext(⟨vs,g1,gl,g2⟩:jO p1.ok hm);ext(⟨v,h5,h6⟩:g2.get hd);show⟨q,v,rfl,.inl ⟨_,.inr x,.inl g1,rfl,(yv hn hi h5).symm⟩,hQ d M1 hq v H1 ⟨p1.toPostT,h6⟩⟩⟩⟩
def aX{f:Str}(c:Cls X.K C)(n:NoAttr X.K C f)(ha:YE X a ta)(hb:attributeBase a f X.env (eval a X.env)=eval a X.env<|>R0)(hn:ns.Nodup<|>R5)(hi:ns[i]?=some f<|>R0):YE X (.Attribute a f pos) (aQ C ns i ta):=⟨have ha:=ha.h;
 bB (CJ ha hb) λσ H Q ρ M QW hE ht hQ=>⟨ρ,M,_,hE,ht,λy M1 z_ vy H1 p1=>by ext(⟨q,ds,d,ex,hm,hd,hq⟩:z_);subst ex;cases p1.rep;ext(⟨dx,vs,g1,gl,g2⟩:gw p1.ok hm);ext(⟨v,h5,h6⟩:g2.get hd);show⟨q,C,dx,_,v,rfl,g1,c,n,yu hn hi h5,hQ d M1 hq v H1 ⟨p1.toPostT,h6⟩⟩⟩⟩
end
def spN(K:K0)(T:NTF):Sp:=λvs H Q _=>∃ds M QW,Reps K (PH H M) vs ds/\MOk K H M/\T ds M QW/\∀d M',QW d M'->∀v H',PostW K H M d v H' M'->Q v H'
def DefN(P:Program)(w:World)(K:K0)(mg:Str->u_)(base:Heap)(x:Str)(k:Nat)(ps:i_)(T:NTF):Prop:=
 ∃f fd,FnOk P w K mg base CX0 k f fd ps (spN K T)/\mg x=some (.ref f)/\W.keepIn K (.ref f)=true/\Binds K fd ps []
theorem DefN.mono{k:Nat}(h:DefN P w K mg base x j ps T)(hk:j<=k<|>R1):DefN P w K mg base x k ps T:=
 let⟨f,fd,F,m,kp,b⟩:=h
 ⟨f,fd,F.mono hk,m,kp,b⟩
def MetN(P:Program)(w:World)(K:K0)(mg:Str->u_)(base:Heap)(C:Addr)(m:Str)(k:Nat)(ps:i_)(T:NTF):Prop:=
 ∃f fd,FnOk P w K mg base CX0 k f fd ps (spN K T)/\Meth K C m f/\Binds K fd ps []
theorem MetN.mono{k:Nat}(h:MetN P w K mg base C x j ps T)(hk:j<=k<|>R1):MetN P w K mg base C x k ps T:=
 let⟨f,fd,F,m,b⟩:=h
 ⟨f,fd,F.mono hk,m,b⟩
def MakN(P:Program)(w:World)(K:K0)(mg:Str->u_)(base:Heap)(x:Str)(C:Addr)(k:Nat)(ps:i_)(T:NTF):Prop:=
 ∃f fd,FnOk P w K mg base CX0 k f fd ps (spN K T)/\Mk K C f/\mg x=some (.ref C)/\Binds K fd ps []
theorem MakN.mono{k:Nat}(h:MakN P w K mg base x C j ps T)(hk:j<=k<|>R1):MakN P w K mg base x C k ps T:=
 let⟨f,fd,F,m,g,b⟩:=h
 ⟨f,fd,F.mono hk,m,g,b⟩
def Hm(h:MOk K H M)(r:Rep K (PH H M) v d):Rep K H v (vw1 M d):=by
 cases r with
 | ptr a=>
   change Rep K H (.ref a) (match M a with|some (.lst ds)=>.lst ds|_=>.ptr a)
   set_option tactic.hygienic true in split
   ·rename_i ds hm
    ext(⟨xs,g1,g2⟩:fD h hm);show .lst (.inl g1) (aT (aU _ _) g2)
   ·show .ptr a
 |non=>show .non
 |bl b=>show .bl b
 |int b=>show .int b
 |str b=>show .str b
 |lst h1 h2=>show aA (aU _ _) (.lst h1 h2)
 |tup h1 h2=>show aA (aU _ _) (.tup h1 h2)
 |scr h1=>show aA (aU _ _) (.scr h1)
 |dct h1=>show aA (aU _ _) (.dct h1)
theorem oi{K:K0}{H:Hp}{M:Sto}(h:MOk K H M):∀{vs:B_} {ds:D_},Reps K (PH H M) vs ds->Reps K H vs (ds.map (vw1 M))
 |[],_,r=>by ext r;show .nil
 |_::_,_,r=>by cases r with|cons a t=>show .cons (Hm h a) (oi h t)
section
variable {k:Nat}{es:k_}
def aG(d:DefN X.prog X.w X.K X.mg X.base x k ps T)(hr:Room k X.A)(ha:YA X (a::es) tas)(hg:Gl X x<|>R0)(hdb:DB x<|>R1)(he:SE a es X<|>R0)(hpl:BT pos es X<|>R0):
  YE X (.Call (.Name x p) (a::es) [] pos) (aF T tas):=⟨have ha:=ha.h;
 let⟨_,_,F,hm,hk,hb⟩:=d
 bB (gN F hr hg hm hk hb .nil ff ha hdb he hpl) λσ H Q ρ M QW hE ht hQ=>⟨ρ,M,_,hE,ht,λds M1 h1 vs H1 p=>by change spN X.K T (vs++[]) H1 Q E0;rw[z8w];show⟨ds,M1,QW,p.rep,p.ok,h1,λd M' hd v H' p'=>hQ d M' hd v H' ⟨p.toPostT.trans p'.toPostT,p'.rep⟩⟩⟩⟩
def oj(d:Def X.prog X.w X.K X.mg X.base x k ps G fr)(hr:Room k X.A)(ha:YA X (a::es) tas)(hg:Gl X x<|>R0)(hdb:DB x<|>R1)(he:SE a es X<|>R0)(hpl:BT pos es X<|>R0):
  YE X (.Call (.Name x p) (a::es) [] pos) (jK G tas):=⟨have ha:=ha.h;
 let⟨_,_,F,hm,hk,hb⟩:=d
 bB (gN F hr hg hm hk hb .nil ff ha hdb he hpl) λσ H Q ρ M QW hE ht hQ=>⟨ρ,M,_,hE,ht,λds M1 z_ vs H1 p=>by ext(⟨d,hf,hq⟩:z_);change spF X.K G fr (vs++[]) H1 Q E0;rw[z8w];show⟨ds,d,aT (aU _ _) p.rep,hf,λv H' r=>hQ d M1 hq v H' ⟨p.toPostT.trans (PostT.of p.ok r.same),r.rep _ p.ok.dom p.rep⟩⟩⟩⟩
def sA{id:String}{r:B_->Hp->VK->Prop}{g:D_->E_}(hc:cX X (.builtin id) r)(hv:fN X.K r g)(hm:X.mg x=none)(hb:bootBuiltins x=some (.builtin id))(ha:NA X (a::es) tas)(hs:∀ds d,g ds=some d->aV d=true)(hg:Gl X x<|>R0)(hn:x ≠ "__name__"<|>R1)(hdb:DB x<|>R1)(he:SE a es X<|>R0)(hpl:BT pos es X<|>R0):
  NE X (.Call (.Name x p) (a::es) [] pos) (cH g tas):=
 bB (kF hc hg hm hb ha hn hdb he hpl) λσ H Q ρ M QW hE ht hQ=>⟨ρ,M,_,hE,ht,λds M1 ⟨d,hf,_,hq⟩ vs H1 p=>hv vs H1 _ d Q (oi p.ok p.rep) hf λv hr=>hQ d M1 hq v H1 ⟨p.toPostT,hr _⟩⟩
theorem jP:∀{ns:i_} {vs:B_} {x:Str},¬x∈ns->(ns.zip vs).lookup x=none
 |[],_,_,_=>rfl
 |_::_,[],_,_=>rfl
 |n::ns,v::vs,x,h=>by rw[z7k,z8z,show(x==n)=false from z7h.mpr λe=>h (e▸z9b)];show jP λz=>h (z9d _ z)
def Hn(cl:Cls X.K C)(d:MetN X.prog X.w X.K X.mg X.base C m k ps T)(hr:Room k X.A)(ho:NE X b tb)(ha:NA X (a::es) tas)(hno:¬m∈ns)(hst:SE a es X)(hpl:BT pos es X)(ht:(eval (.Call (.Attribute b m ap) (a::es) [] pos) X.env=(do
   let ov <- eval b X.env
   standAt ap.atName
   let(f,first) <- holding [ov] (getMethod ov m pl)
   callWith pos f first (backTo pos (starEach (a::es) X.env)) (backToKw pos (keywordEach [] X.env))))<|>R0):
  NE X (.Call (.Attribute b m ap) (a::es) [] pos) (cP C ns T tb tas):=
 let⟨_,_,F,hm,hb⟩:=d
 bB (CQ ho cl hm F hr hb .nil ff ha hst hpl ht) λσ H Q ρ M QW hE hw hQ=>⟨ρ,M,_,hE,hw,λx M1 z_ vx H1 p1=>by ext(⟨q,ds0,ex,hm1,h1⟩:z_);subst ex;cases p1.rep;ext(⟨dx,vs0,g1,gl,g2⟩:gw p1.ok hm1);show⟨q,dx,_,rfl,g1,jP hno,ρ,M1,_,hE.next p1.toPostT,h1,λds M2 h2 vs H2 p2=>?_⟩;change spN X.K T (V.ref q::(vs++[])) H2 Q E0;rw[z8w];show⟨.ptr q::ds,M2,QW,.cons (.ptr q) p2.rep,p2.ok,h2,λd M' hd v H' p'=>hQ d M' hd v H' ⟨(p1.toPostT.trans p2.toPostT).trans p'.toPostT,p'.rep⟩⟩⟩
def Ho(cl:Cls X.K C)(d:MetN X.prog X.w X.K X.mg X.base C m k ps T)(hr:Room k X.A)(ho:NE X b tb)(hno:¬m∈ns)(ht:(eval (.Call (.Attribute b m ap) [] [] pos) X.env=(do
   let ov <- eval b X.env
   standAt ap.atName
   let(f,first) <- holding [ov] (getMethod ov m pl)
   callWith pos f first (backTo pos (starEach [] X.env)) (backToKw pos (keywordEach [] X.env))))<|>R0):
  NE X (.Call (.Attribute b m ap) [] [] pos) (cP C ns T tb aj):=
 let⟨_,_,F,hm,hb⟩:=d
 bB (CS ho cl hm F hr hb .nil ff ht) λσ H Q ρ M QW hE hw hQ=>⟨ρ,M,_,hE,hw,λx M1 z_ vx H1 p1=>by ext(⟨q,ds0,ex,hm1,h1⟩:z_);subst ex;cases p1.rep;ext(⟨dx,vs0,g1,gl,g2⟩:gw p1.ok hm1);show⟨q,dx,_,rfl,g1,jP hno,?_⟩;show⟨[.ptr q],M1,QW,.cons (.ptr q) .nil,p1.ok,h1,λd M' hd v H' p'=>hQ d M' hd v H' ⟨p1.toPostT.trans p'.toPostT,p'.rep⟩⟩⟩
end
structure EnvN (K:K0) (P:Hp) (n:Nat) (σ:St) (ρ:ag) (H:Hp) (M:Sto):Prop where
 q:EnvQ K σ ρ H M
 same:Same P (PH H M)
 lσ:σ.length=n
 lρ:ρ.length=n
noncomputable def i7(K:K0)(P:Hp)(n:Nat)(De:Ends):EndN where
 nx:=λρ M=>∀σ H,EnvN K P n σ ρ H M->De.nx σ H
 bk:=λρ M=>∀σ H,EnvN K P n σ ρ H M->De.bk σ H
 ct:=λρ M=>∀σ H,EnvN K P n σ ρ H M->De.ct σ H
 rt:=λd M=>∀v H,Same P (PH H M)->MOk K H M->Rep K (PH H M) v d->De.rt v H
structure LeE (A B:EndN):Prop where
 nx:∀ρ M,A.nx ρ M->B.nx ρ M
 bk:∀ρ M,A.bk ρ M->B.bk ρ M
 ct:∀ρ M,A.ct ρ M->B.ct ρ M
 rt:∀d M,A.rt d M->B.rt d M
def twS(K:K0)(P:Hp)(n:Nat)(t:NTS):TS:=λDe σ H=>∃ρ M Ew,EnvN K P n σ ρ H M/\t Ew ρ M/\LeE Ew (i7 K P n De)
abbrev NS(X:Cx)(st:Stmt)(t:NTS):Prop:=∀P n,PS X st (twS X.K P n t)
structure YS (X:Cx) (st:Stmt) (t:NTS):Prop where
 h:NS X st t
abbrev NSs(X:Cx)(st:n_)(t:NTS):Prop:=∀P n,PSs X st (twS X.K P n t)
structure YSs (X:Cx) (st:n_) (t:NTS):Prop where
 h:NSs X st t
def dX{e:Stmt}{t:TS}{P:Hp}{k:Nat}{n:NTS}(h:PS X e t)(i:∀De σ H ρ M Ew,EnvN X.K P k σ ρ H M->n Ew ρ M->LeE Ew (i7 X.K P k De)->t De σ H):PS X e (twS X.K P k n):=dA h λDe σ H z_=>by ext(⟨ρ,M,QW,hE,ht,hQ⟩:z_);show i De σ H ρ M QW hE ht hQ
def sB{e:n_}{t:TS}{P:Hp}{k:Nat}{n:NTS}(h:PSs X e t)(i:∀De σ H ρ M Ew,EnvN X.K P k σ ρ H M->n Ew ρ M->LeE Ew (i7 X.K P k De)->t De σ H):PSs X e (twS X.K P k n):=fv h λDe σ H z_=>by ext(⟨ρ,M,QW,hE,ht,hQ⟩:z_);show i De σ H ρ M QW hE ht hQ
def EnvN.next{P:Hp}(h:EnvN K P n σ ρ H M)(p:PostT K H M H' M'):EnvN K P n σ ρ H' M':=⟨h.q.next p,h.same.trans p.same,h.lσ,h.lρ⟩
def EnvN.set{P:Hp}(h:EnvN K P n σ ρ H M)(r:Rep K (PH H M) v d):EnvN K P n (σ.set i (some v)) (ρ.set i (some d)) H M:=
 ⟨⟨λj e q=>by
   by_cases e1:j=i
   ·subst e1
    have hl:j<ρ.length:=by have:=(z9e.mp q).1;simpa using this
    rw[z9s hl]at q;ext q;show⟨v,z9s (by rw[h.lσ,<- h.lρ];show hl),r⟩
   ·rw[z9h (Ne.symm e1)]at q
    ext(⟨v',h1,h2⟩:h.q.env j e q);show⟨v',by rw[z9h (Ne.symm e1)];show h1,h2⟩,h.q.ok⟩,h.same,by rw[z8h];show h.lσ,by rw[z8h];show h.lρ⟩
section
variable {tv:NTE}{k:Nat}{rest bs:n_}{t u:NTS}{f:Str}
def bJ:YSs X [] sN:=⟨λP n=>sB qg λDe σ H ρ M Ew hE ht hl=>hl.nx ρ M ht σ H hE⟩
def ay(h1:YS X st t)(h2:YSs X rest u):YSs X (st::rest) (ai t u):=⟨have h1:=h1.h;have h2:=h2.h;λP n=>sB (jh (h1 P n) (h2 P n)) λDe σ H ρ M Ew hE ht hl=>⟨ρ,M,_,hE,ht,λρ' M' h' σ' H' hE'=>⟨ρ',M',Ew,hE',h',hl⟩,hl.bk,hl.ct,hl.rt⟩⟩
def aR(h1:YS X st t):YSs X [st] t:=⟨have h1:=h1.h;λP n=>fv (kA (h1 P n)) λDe σ H h=>h⟩
theorem bK(hc:YT X c ka)(ha:YSs X body t)(hb:YSs X bs u):YS X (.If c body bs pos) (aK ka t u):=⟨have hc:=hc.h;have ha:=ha.h;have hb:=hb.h;λP n=>dX (qh hc (ha P n) (hb P n)) λDe σ H ρ M Ew hE ht hl=>⟨ρ,M,_,hE.q,ht,λk M1 hk H1 p1=>by
 cases k with
 |true=>show eo ⟨ρ,M1,Ew,hE.next p1,hk.1 rfl,hl⟩
 |false=>show eh ⟨ρ,M1,Ew,hE.next p1,hk.2 rfl,hl⟩⟩⟩
def aS(he:YE X a ta):YS X (.Return (some a) pos) (aO ta):=⟨have he:=he.h;λP n=>dX (gL he) λDe σ H ρ M Ew hE ht hl=>⟨ρ,M,_,hE.q,ht,λd M1 h1 v H1 p1=>hl.rt d M1 h1 v H1 (hE.same.trans p1.same) p1.ok p1.rep⟩⟩
def yw(i:Nat)(hN:X.N[i]?=some x<|>R0)(hv:Vis X.env.scope x<|>R3)(hd:DB x<|>R1)(hcd:(x==("__classdict__" : Str))=false<|>R1):YS X (.Return (some (.Name x p2)) pos) (nX i):=⟨λP n=>dX (gL (gf hN hv hd hcd)) λDe σ H ρ M Ew hE z_ hl=>by ext(⟨q,ds,h1,h2,h3⟩:z_);ext(⟨v,hv,r⟩:hE.q.env i _ (gR h1));ext r;ext(⟨e1,e2⟩:ym (a:=q) hE.q.ok);ext(⟨xs,g1,g2⟩:fD hE.q.ok h2);show⟨_,hv,hl.rt _ _ h3 _ H (hE.same.trans e1) e2 (.lst (.inl ?_) (aT e1 g2))⟩;rw[PH.of nV];show g1⟩
def aL(i:Nat)(hN:X.N.Nodup)(he:YE X a ta)(hi:X.N[i]?=some x<|>R0)(hx:Loc X.env.scope x<|>R3)(hs:swapsWith a (some (.Name x p2)) pos.line X.env=pure false<|>R0)(hfn:X.fn x=true\/X.env.scope.names.lookup x=some .local<|>R3):YS X (.Assign [.Name x p2] a pos) (aI i ta):=⟨have he:=he.h;λP n=>dX (ji hN hi hx he hs hfn) λDe σ H ρ M Ew hE ht hl=>⟨ρ,M,_,hE.q,ht,λd M1 h1 v H1 p1=>hl.nx _ M1 h1 _ H1 ((hE.next p1.toPostT).set p1.rep)⟩⟩
theorem yx{K:K0}{P:Hp}{n:Nat}{Q:St->Hp->Prop}{H:Hp}{M:Sto}:∀{is:z9} {ds:D_} {xs:B_} {σ:St} {ρ:ag},EnvN K P n σ ρ H M->is.length=ds.length->Reps K (PH H M) xs ds ->
  (∀σ',EnvN K P n σ' ((is.zip ds).foldl (λr p=>r.set p.1 (some p.2)) ρ) H M->Q σ' H)->l7 is xs σ H Q
 |[],[],_,σ,ρ,hE,_,r,hQ=>by ext r;show⟨rfl,hQ σ hE⟩
 |[],_::_,_,_,_,_,h,_,_=>by ext h
 |_::_,[],_,_,_,_,h,_,_=>by ext h
 | i::is,d::ds,_,σ,ρ,hE,h,r,hQ=>by
   cases r with
   |cons r1 r2=>show⟨_,_,rfl,yx (hE.set r1) (⇑h) r2 hQ⟩
def Hq(is:z9){ts:k_}{k:Nat}(hc:X.calm=true)(hN:X.N.Nodup)(he:YE X a ta)(ht:Tgs X ts is)(hn:(assignEach ts X.env).length=is.length<|>R0)(hst:(assignEach ts X.env).findIdx? (·.1)=none<|>R0)(hs:swapsWithSole [.Tuple ts k p2] a pos.line X.env=pure false<|>R0)(hw:swappedStores [.Tuple ts k p2] a X.env=pure none<|>R0)(h1:(assignEach [.Tuple ts k p2] X.env).map (·.2)=[assign (.Tuple ts k p2) X.env]<|>R0):YS X (.Assign [.Tuple ts k p2] a pos) (rY is ta):=⟨have he:=he.h;λP n=>
 dX (vg he (kB hc (Tgs.ok hN ht) hn hst) hs hw h1) λDe σ H ρ M Ew hE hw' hl=>⟨ρ,M,_,hE.q,hw',λd M1 z_ v H1 p1=>by ext(⟨ds,e1,e2,h2⟩:z_);subst e1;ext(⟨q,xs,rfl,hq,hx⟩:wY p1.rep);have hE1:=hE.next p1.toPostT;show⟨q,xs,rfl,.inl (dG (aU _ _) hq),by rw[hx.length];show e2,yx hE1 e2.symm hx λσ' hE'=>hl.nx _ M1 h2 σ' H1 hE'⟩⟩⟩
theorem sC:∀{ns:i_} {vs:B_} {i:Nat} {f:Str} (y:V),vs.length=ns.length->ns.Nodup->ns[i]?=some f->cx f y (ns.zip vs)=ns.zip (vs.set i y)
 |[],_,_,_,_,_,_,h=>by simp at h
 |_::_,[],_,_,_,h,_,_=>by simp at h
 |n::ns,w::vs,0,f,y,_,_,h=>by simp at h;subst h;simp[cx]
 | n::ns,w::vs,i+1,f,y,hl,hn,h=>by
   have h1':ns[i]?=some f:=⇑h
   have ne:¬(n=f):=λe=>(z8s.mp hn).1 (e▸z8d h1')
   rw[z7k,List.set_cons_succ,z7k,cx,if_neg ne,sC y (⇑hl) (z8s.mp hn).2 h1']
theorem yy:∀{ns:i_} {vs:B_} {f:Str} (y:V),vs.length=ns.length->¬f∈ns->cx f y (ns.zip vs)=(ns++[f]).zip (vs++[y])
 |[],[],f,y,_,_=>rfl
 |[],_::_,_,_,h,_=>by simp at h
 |_::_,[],_,_,h,_=>by simp at h
 | n::ns,w::vs,f,y,hl,hn=>by
   have ne:¬(n=f):=λe=>hn (e▸z9b)
   rw[z7k,z5a,z5a,z7k,cx,if_neg ne,yy y (⇑hl) λz=>hn (z9d _ z)]
def jQ(cl:Cls X.K C)(nat:NoAttr X.K C f)(ha:YE X a ta)(hv:YE X b tv)(hn:ns.Nodup<|>R5)(hi:ns[i]?=some f<|>R0)(hlt:ns.length<1000<|>R1)(hs:swapsWith b (some (.Attribute a f p2)) pos.line X.env=pure false<|>R0):
  YS X (.Assign [.Attribute a f p2] b pos) (hW C ns i ta tv):=⟨have ha:=ha.h;have hv:=hv.h;λP n=>
 dX (qz ha hv hs) λDe σ H ρ M Ew hE ht hl=>⟨ρ,M,_,hE.q,ht,λd M1 h1 v H1 p1=>⟨ρ,M1,_,hE.q.next p1.toPostT,h1,λx M2 z_ vx H2 p2=>by ext(⟨q,ds,ex,hm,h2⟩:z_);subst ex;cases p2.rep;ext(⟨dx,vs,g1,gl,g2⟩:gw p2.ok hm);have rv:=aA p2.same p1.rep;show⟨q,C,dx,_,rfl,g1,cl,nat,by rw[List.length_zip,gl,Nat.min_self];show hlt,?_⟩;rw[sC _ gl hn hi];obtain⟨e1,e2⟩:=iS (o:=.ins C dx (ns.zip (vs.set i v))) (c:=.ins C ns (ds.set i d)) p2.ok hm ⟨rfl,_,rfl,by rw[z8h];show gl,g2.set rv i⟩;show hl.nx _ _ h2 σ _ ((hE.next (p1.toPostT.trans p2.toPostT)).next ⟨e1,e2⟩)⟩⟩⟩
def dM(cl:Cls X.K C)(nat:NoAttr X.K C f)(ha:YE X a ta)(hv:YE X b tv)(hi:¬f∈ns<|>R5)(hlt:ns.length<1000<|>R1)(hs:swapsWith b (some (.Attribute a f p2)) pos.line X.env=pure false<|>R0):
  YS X (.Assign [.Attribute a f p2] b pos) (de C ns f ta tv):=⟨have ha:=ha.h;have hv:=hv.h;λP n=>
 dX (qz ha hv hs) λDe σ H ρ M Ew hE ht hl=>⟨ρ,M,_,hE.q,ht,λd M1 h1 v H1 p1=>⟨ρ,M1,_,hE.q.next p1.toPostT,h1,λx M2 z_ vx H2 p2=>by ext(⟨q,ds,ex,hm,h2⟩:z_);subst ex;cases p2.rep;ext(⟨dx,vs,g1,gl,g2⟩:gw p2.ok hm);have rv:=aA p2.same p1.rep;show⟨q,C,dx,_,rfl,g1,cl,nat,by rw[List.length_zip,gl,Nat.min_self];show hlt,?_⟩;rw[yy _ gl hi];obtain⟨e1,e2⟩:=iS (o:=.ins C dx ((ns++[f]).zip (vs++[v]))) (c:=.ins C (ns++[f]) (ds++[d])) p2.ok hm ⟨rfl,_,rfl,by simp[gl],g2.append (.cons rv .nil)⟩;show hl.nx _ _ h2 σ _ ((hE.next (p1.toPostT.trans p2.toPostT)).next ⟨e1,e2⟩)⟩⟩⟩
theorem yz:∀{ns:i_} {vs:B_} {i:Nat} {f:Str},vs.length=ns.length->ns[i]?=some f->((b7 ns vs).any λkv=>decide (kv.1=(Sum.inr f:Key)))=true
 |[],_,_,_,_,h=>by simp at h
 |_::_,[],_,_,h,_=>by simp at h
 |n::ns,w::vs,0,f,_,h=>by simp at h;subst h;simp[b7]
 |n::ns,w::vs,i+1,f,hl,h=>by have ih:=yz (ns:=ns) (vs:=vs) (i:=i) (f:=f) (⇑hl) (⇑h);have e:b7 (n::ns) (w::vs)=(Sum.inr n,w)::b7 ns vs:=rfl;rw[e,z6m,ih,Bool.or_true]
theorem yA:∀{ns:i_} {vs:B_} {f:Str} (y:V),¬f∈ns->(b7 ns vs).map (λkv=>if kv.1=(Sum.inr f:Key)then(kv.1,y)else kv)=b7 ns vs
 |[],_,_,_,_=>rfl
 |_::_,[],_,_,_=>rfl
 | n::ns,w::vs,f,y,h=>by
   have e:b7 (n::ns) (w::vs)=(Sum.inr n,w)::b7 ns vs:=rfl;have ne:¬((Sum.inr n:Key)=Sum.inr f):=λq=>h (z5p q▸z9b)
   rw[e,z9r,if_neg ne,yA y λz=>h (z9d _ z)]
theorem yB:∀{ns:i_} {vs:B_} {i:Nat} {f:Str} (y:V),vs.length=ns.length->ns.Nodup->ns[i]?=some f->(b7 ns vs).map (λkv=>if kv.1=(Sum.inr f:Key)then(kv.1,y)else kv)=b7 ns (vs.set i y)
 |[],_,_,_,_,_,_,h=>by simp at h
 |_::_,[],_,_,_,h,_,_=>by simp at h
 |n::ns,w::vs,0,f,y,_,hn,h=>by simp at h;subst h;have e:b7 (n::ns) (w::vs)=(Sum.inr n,w)::b7 ns vs:=rfl;rw[e,z9r,if_pos rfl,yA y (z8s.mp hn).1];rfl
 | n::ns,w::vs,i+1,f,y,hl,hn,h=>by
   have h1':ns[i]?=some f:=⇑h
   have e:b7 (n::ns) (w::vs)=(Sum.inr n,w)::b7 ns vs:=rfl;have ne:¬((Sum.inr n:Key)=Sum.inr f):=λq=>(z8s.mp hn).1 (z5p q▸z8d h1')
   rw[e,z9r,if_neg ne,yB y (⇑hl) (z8s.mp hn).2 h1'];rfl
def Hr(y:V)(hl:vs.length=ns.length)(hn:ns.Nodup)(hi:ns[i]?=some f):cL (b7 ns vs) (.inr f) y=b7 ns (vs.set i y):=by unfold cL;rw[if_pos (yz hl hi),yB y hl hn hi]
def sD{j}(hr:Room k X.A)(ha:YE X a ta)(hv:YE X b tv)(hn:ns.Nodup<|>R5)(hi:ns[i]?=some f<|>R0)(hlt:ns.length<1000<|>R1)(hs:swapsWith b (some (.Subscript a (.Constant (.str f) j p3) p2)) pos.line X.env=pure false<|>R0):
  YS X (.Assign [.Subscript a (.Constant (.str f) j p3) p2] b pos) (lF ns i ta tv):=⟨have ha:=ha.h;have hv:=hv.h;λP n=>
 dX (wj (by have:=hr.un;ext) ha gJ hv hs) λDe σ H ρ M Ew hE ht hl=>⟨ρ,M,_,hE.q,ht,λd M1 h1 v H1 p1=>⟨ρ,M1,_,hE.q.next p1.toPostT,h1,λx M2 z_ vx H2 p2=>by
  ext(⟨q,ds,ex,hm,h2⟩:z_);subst ex;cases p2.rep;ext(⟨vs,g1,gl,g2⟩:jO p2.ok hm);have rv:=aA p2.same p1.rep;have hz:(b7 ns vs).length<sizeLine:=by
   have:(b7 ns vs).length=ns.length:=by simp[b7,gl]
   rw[this,z6g];ext
  show⟨q,_,rfl,.inl ⟨_,.inr f,g1,rfl,hz,rfl⟩,?_⟩;rw[Hr _ gl hn hi];obtain⟨e1,e2⟩:=iS (o:=.dK (b7 ns (vs.set i v))) (c:=.dic ns (ds.set i d)) p2.ok hm ⟨_,rfl,by rw[z8h];show gl,g2.set rv i⟩;show hl.nx _ _ h2 σ _ ((hE.next (p1.toPostT.trans p2.toPostT)).next ⟨e1,e2⟩)⟩⟩⟩
end
section
variable {tv:NTE}{k:Nat}{t tbd:NTS}
def Hs(ha:NE X a ta)(he:NE X e tv)(hbase:attributeBase a "append" X.env (eval a X.env)=eval a X.env)(hfew:(((backTo cp (starEach [e] X.env)).all (λx=>!x.1)&&(backToKw cp (keywordEach [] X.env)).all (λx=>x.1.isSome)
   && decide (([e]:k_).length+([]:m_).length+(if([]:m_).isEmpty then 0 else 1)<30))=true)<|>R0)(hline:(ap.endLine==cp.line)=true<|>R0)(hs:SE e [] X<|>R0)(hplain:BT cp [] X<|>R0)(hsw:swapsWith (.Call (.Attribute a "append" ap) [e] [] cp) none pos.line X.env=pure false<|>R0):
  NS X (.Expr (.Call (.Attribute a "append" ap) [e] [] cp) pos) (gv ta tv):=λP n=>
 dX (mE (jq z4e z5y z5z qD ha (bS he ca hs) hbase hfew hline hs hplain) hsw) λDe σ H ρ M Ew hE ht hl=>⟨ρ,M,_,hE.q,ht,λx M1 z_ vx H1 p1=>by ext(⟨q,ds0,ex,hm0,h1⟩:z_);subst ex;cases p1.rep;ext(⟨xs0,g0,_⟩:fD p1.ok hm0);show⟨.inl ⟨rfl,xs0,.inl (.inl g0)⟩,ρ,M1,_,hE.q.next p1.toPostT,h1,λv M2 z_ vv H2 p2=>?_⟩;ext(⟨ds,hm,hz,h2⟩:z_);ext(⟨xs,g1,g2⟩:fD p2.ok hm);have len:=g2.length;show⟨q,xs,vv,rfl,rfl,g1,z9v (show xs.length<100000 by ext) (by decide),?_⟩;ext(⟨e1,e2⟩:iS (o:=.lst (xs++[vv])) (c:=.lst (ds++[v])) p2.ok hm (g2.append (.cons p2.rep .nil)));show hl.nx _ _ h2 σ _ ((hE.next (p1.toPostT.trans p2.toPostT)).next ⟨e1,e2⟩)⟩
def Ht(ha':NE X a ta)(hb:NE X b ti)(he:NE X e tv)(ha:(∀v,assign (.Subscript a b p3) X.env v=(do
   let ov <- holding [v] (eval a X.env);let iv <- holding [v,ov] (eval b X.env)
   standAt p3
   holding [v,ov,iv] (setItem ov iv v)
   release [v,ov,iv] []))<|>R4)(hs:swapsWithSole [.Subscript a b p3] e pos.line X.env=pure false<|>R0)(hw:swappedStores [.Subscript a b p3] e X.env=pure none<|>R0)(h1:(assignEach [.Subscript a b p3] X.env).map (·.2)=[assign (.Subscript a b p3) X.env]<|>R0):
  NS X (.Assign [.Subscript a b p3] e pos) (iR ta ti tv):=λP n=>
 dX (vg he (Cc ha' hb D5 ha) hs hw h1) λDe σ H ρ M Ew hE ht hl=>⟨ρ,M,_,hE.q,ht,λd M1 h1 v H1 p1=>⟨ρ,M1,_,hE.q.next p1.toPostT,h1,λx M2 h2 vx H2 p2=>⟨ρ,M2,_,(hE.q.next p1.toPostT).next p2.toPostT,h2,λy M3 z_ vy H3 p3=>by ext(⟨q,ds,m,j,ex,hm,ey,hj,h3⟩:z_);subst ex ey;cases p2.rep;cases p3.rep;ext(⟨xs,g1,g2⟩:fD p3.ok hm);have rv:=aA (p2.same.trans p3.same) p1.rep;have len:=g2.length;ext(⟨e1,e2⟩:iS (o:=.lst (xs.set j v)) (c:=.lst (ds.set j d)) p3.ok hm (g2.set rv j));show⟨q,xs,m,j,rfl,rfl,g1,by rw[len];show hj,hl.nx _ _ h3 σ _ ((hE.next ((p1.toPostT.trans p2.toPostT).trans p3.toPostT)).next ⟨e1,e2⟩)⟩⟩⟩⟩
def yC{P P1:Hp}{N:St->Hp->Prop}{body:D->NTS}{r:D_}(hs:Same P P1)(hl:LeE Ew (i7 K P n De))(hN:∀ρ M σ H,EnvN K P1 n σ ρ H M->dU body r Ew ρ M->N σ H):
  LeE {Ew with nx:=λρ M=>dU body r Ew ρ M,ct:=λρ M=>dU body r Ew ρ M,bk:=Ew.nx} (i7 K P1 n {De with nx:=N,ct:=N,bk:=De.nx}) where
 nx:=λρ M h σ H hE=>hN ρ M σ H hE h
 ct:=λρ M h σ H hE=>hN ρ M σ H hE h
 bk:=λρ M h σ H hE=>hl.nx ρ M h σ H ⟨hE.q,hs.trans hE.same,hE.lσ,hE.lρ⟩
 rt:=λd M h v H h1 h2 h3=>hl.rt d M h v H (hs.trans h1) h2 h3
def yD(t:Nat)(hN:X.N.Nodup)(hc:X.calm=true)(hi:YE X a ta)(hb:YSs X body tbd)(hp:PassesOwn (model X.prog X.w) X.A X.env X.xe<|>R7)(hxN:X.N[t]?=some x<|>R0)(hx:Loc X.env.scope x<|>R3)(hfn:X.fn x=true\/X.env.scope.names.lookup x=some .local<|>R3)(hs:(∀x,foldedSetIterable a X.env x=pure x)<|>R4):YS X (.For (.Name x p2) a body [] pos) (nY t ta tbd):=⟨have hi:=hi.h;have hb:=hb.h;λP n=>by
 have hb':PSs X body (λDe σ H=>∃P1,twS X.K P1 n tbd De σ H):=λG_ s σ H De I z_=>by ext(⟨P1,h⟩:z_);show hb P1 n G_ s σ H De I h
 show dX (jk hp hc (kC hi) (gM hN hxN hx hfn) hb' hs) λDe σ H ρ M Ew hE ht hl=>⟨ρ,M,_,hE.q,ht,λd M1 z_ v H1 p1=>?_⟩
 ext(⟨ds,hds,h1⟩:z_);have hE1:=hE.next p1.toPostT;have hsd:=jG hds;ext(⟨q,xs,rfl,hq,hx',hA⟩:fq p1.rep hsd.2 hsd.1);have len:=hx'.length;show⟨q,rfl,⟨xs,(aU _ _).seq hq⟩,?_⟩;show vi (K:=X.K) (a:=q) (xs:=xs) (g:=c9 t) (tb:=λDe σ H=>∃P1,twS X.K P1 n tbd De σ H) (D:=De) (λi σ' H'=>∃ρ' M',EnvN X.K (PH H1 M1) n σ' ρ' H' M'/\dU (λx E ρ M=>tbd E (ρ.set t (some x)) M) (ds.drop i) Ew ρ' M')
  ⟨ρ,M1,⟨hE1.q,Same.refl _,hE1.lσ,hE1.lρ⟩,⇑h1⟩ ?_ ?_ ?_
 ·rintro i σ' H' _ ⟨ρ',M',hE',_⟩
  show(aU _ _).seq (hE'.same.seq hq)
 ·rintro i y σ' H' hy ⟨ρ',M',hE',hf'⟩
  ext(⟨dy,h4,h5⟩:hx'.getV hy);have hi':i<ds.length:=(z9e.mp h4).1;have ed:ds.drop i=dy::ds.drop (i+1):=by rw[z8k hi'];have e2:ds[i]=dy:=(z9e.mp h4).2;rw[e2]
  rw[ed]at hf';show⟨PH H1 M1,_,M',_,hE'.set (aA hE'.same h5),hf',yC hE1.same hl λρ M σ H hE h=>⟨ρ,M,hE,h⟩⟩
 ·rintro σ' H' ⟨ρ',M',hE',hf'⟩
  rw[len,z6q]at hf';show hl.nx _ _ hf' σ' H' ⟨hE'.q,hE1.same.trans hE'.same,hE'.lσ,hE'.lρ⟩⟩
def Hu{P:Hp}{m t:Nat}(hE:EnvN K P n σ ρ H M)(hl:LeE Ew (i7 K P n De))(h:dU (λx E ρ M=>tbd E (ρ.set t (some x)) M) ((List.range m).map λk=>.int (lo+(k:Nat))) Ew ρ M):
  ∃W:Nat->Nat->St->Hp->Prop,(∃m,W 0 m σ H)/\∀i m' σ H,W i m' σ H ->
    ((Itr lo m).stop i H/\De.nx σ H)\/((Itr lo m).go i H/\∃N:St->Hp->Prop,(∀σ' H',N σ' H'->∃m'',m''<m'/\W (i+1) m'' σ' H')/\∀x H',(Itr lo m).yld i H x H'->c9 t x σ H' λσ2 H2=>twS K P n tbd {De with nx:=N,ct:=N,bk:=De.nx} σ2 H2):=by
 show vj (lo:=lo) (n:=m) (g:=c9 t) (tb:=twS K P n tbd) (D:=De) (λi σ' H'=>∃ρ' M',EnvN K P n σ' ρ' H' M'/\dU (λx E ρ M=>tbd E (ρ.set t (some x)) M) (((List.range m).map λk=>D.int (lo+(k:Nat))).drop i) Ew ρ' M') ⟨ρ,M,hE,⇑h⟩ ?_ ?_
 ·rintro i σ' H' hi ⟨ρ',M',hE',hf'⟩
  have ed:((List.range m).map λk=>D.int (lo+(k:Nat))).drop i=.int (lo+i)::((List.range m).map λk=>D.int (lo+(k:Nat))).drop (i+1):=by rw[z8k (⇑hi)];simp
  rw[ed]at hf';show⟨_,M',_,hE'.set (.int _),hf',yC (Same.refl _) hl λρ M σ H hE h=>⟨ρ,M,hE,h⟩⟩
 ·rintro σ' H' ⟨ρ',M',hE',hf'⟩
  rw[z7s (by simp)]at hf';show hl.nx _ _ hf' σ' H' hE'
def yE(t:Nat)(hN:X.N.Nodup)(hc:X.calm=true)(mr:X.mg "range"=none)(hi:YA X [a] tas)(hb:YSs X body tbd)(hp:PassesOwn (model X.prog X.w) X.A X.env X.xe<|>R7)(hg:Gl X "range"<|>R0)(hst:starEach [a] X.env=[(false,eval a X.env)]<|>R0)(hxN:X.N[t]?=some x<|>R0)(hx:Loc X.env.scope x<|>R3)(hfn:X.fn x=true\/X.env.scope.names.lookup x=some .local<|>R3)(hs:(∀x,foldedSetIterable (.Call (.Name "range" pn) [a] [] pr) X.env x=pure x)<|>R4):YS X (.For (.Name x p2) (.Call (.Name "range" pn) [a] [] pr) body [] pos) (nZ t tas tbd):=⟨have hi:=hi.h;have hb:=hb.h;λP n=>
 dX (jk hp hc (mF hg mr hi hst) (gM hN hxN hx hfn) (hb P n) hs) λDe σ H ρ M Ew hE ht hl=>⟨ρ,M,_,hE.q,ht,λds M1 z_ vs H1 p1=>by ext(⟨j,e1,hj,h1⟩:z_);subst e1;ext(⟨v,rfl,r⟩:fO p1.rep);ext r;show⟨j,rfl,hj.1,hj.2,Hu (hE.next p1.toPostT) hl (⇑h1)⟩⟩⟩
end
def Hv{k:Nat}{body:NTS}(h1:ps.length=np)(h2:N.length=n)(h3:T=mkN np n body)(Fn:Fun K x qual st f fd)(S:FnScope N ps (aN st))(h:∀(cdv:Value) (A:Around) (outer:List PySem.Env) (s:Shared) (H:Hp) (E:XK),Room k (A.deeper (envOfC qual (aN st) s.heap.objs.size f cdv)) ->
   NSs (c4 CX0 P w K mg base N qual (aN st) f cdv A outer s H E).nox (cy st) body):
  FnOk P w K mg base CX0 (k+1) f fd ps (spN K T):=by
 subst h1 h2 h3;have hpl:ps.length<=N.length:=by have:=z7d List.length S.pre;rw[z8f]at this;ext
 show Fn.ok S (λvs H Q E h=>?_) (λcdv A outer s H vs Q E hr h'=>?_)
 ·ext(⟨ds,M,QW,r,_,hg,_⟩:h)
  rw[r.length,hg.1]
 ·ext(⟨ds,M,QW,r,hok,⟨hl,ht⟩,hQ⟩:h')
  have lv:=r.length;show⟨_,h cdv A outer s H E hr (PH H M) N.length,ds.map some++List.replicate (N.length-ps.length) none,M,_,⟨⟨λi d q=>?_,hok⟩,Same.refl _,?_,?_⟩,ht,λρ M' hn σ' H' hE=>?_,λρ M' hn=>hn.elim,λρ M' hn=>hn.elim,λd M' hd v H' e1 e2 e3=>?_⟩
  ·have get:ds[i]?=some d:=by
    by_cases hi:i<ds.length
    ·rw[z8c (⇑hi),z9x]at q
     cases e:ds[i]? with
     |none=>rw[e]at q;ext q
     |some z=>rw[e]at q;simpa using q
    ·rw[z9z (⇑hi),z7j]at q
     split at q<;>ext q
   ext(⟨v,h2,h3⟩:r.get get);show⟨v,?_,h3⟩;unfold L2.start;have hi:i<vs.length:=(z9e.mp h2).1;rw[z8c (⇑hi),z9x,h2];rfl
  ·change(L2.start N vs).length=N.length
   unfold L2.start;rw[z9f,z9a,z9y];ext
  ·rw[z9f,z9a,z9y]
   ext
  ·show hQ _ M' hn _ H' ⟨⟨hE.same,hE.q.ok⟩,.non⟩
  ·show hQ d M' hd v H' ⟨⟨e1,e2⟩,e3⟩
def Hw{a:Addr}{ns:h_}{E:XK}(hS:SqL K H a (ns.map V.int))(h:T [.scr ns] (λ_=>none) λd _=>d=.bl true):spN K T [.ref a] H (λv _=>v=.bl true) E:=by
 have e:Same H (PH H λ_=>none):=wv (λ_ _ q=>q) λb hb=>absurd rfl hb.1
 have ok:MOk K H (λ_=>none):=λa c hc=>by ext hc
 show⟨[.scr ns],λ_=>none,_,.cons (.scr (e.seq hS)) .nil,ok,h,λd M' hd v H' p=>?_⟩;subst hd;cases p.rep;rfl
def PPV(X:Cx)(pos:Pos)(keys:List (Option Expr))(vals:k_)(ns:i_)(as:FEs)(es:F_):Prop:=
 ∃trs,PPs X pos keys vals trs/\keys.length=ns.length/\∀σ H Q,(∃ρ ds,EnvR X.K H σ ρ/\as ρ=some ds/\∀vs H',Posts X.K σ ρ H es ds vs H'->Q ((ns.zip vs).map λp=>(V.str p.1,p.2)) H')->mR trs σ H Q
structure YP (X:Cx) (pos:Pos) (keys:List (Option Expr)) (vals:k_) (ns:i_) (as:FEs) (es:F_):Prop where
 h:PPV X pos keys vals ns as es
section
variable {vals:k_}
def Hx:YP X pos [] [] [] ak []:=⟨⟨[],DF,rfl,λσ H Q z_=>by ext(⟨ρ,ds,hE,hf,hQ⟩:z_);ext hf;show hQ [] H ⟨Same.refl H,.nil,λ_ _ _=>.nil⟩⟩⟩
def sE{j}(ha:JE X a fa ea)(hr:YP X pos keys vals ns as eb):YP X pos (some (.Constant (.str x) j p2)::keys) (a::vals) (x::ns) (a8 fa as) (ea++eb):=⟨by have ha:=ha.h;have hr:=hr.h;ext(⟨trs,h1,hl,h2⟩:hr);show⟨_,DG gJ ha h1,by simp[hl],λσ H Q z_=>?_⟩;ext(⟨ρ,ds,hE,hf,hQ⟩:z_);ext(⟨d,h3,hf⟩:bind_some hf);ext(⟨dr,h4,hf⟩:bind_some hf);ext hf;show⟨ρ,d,hE,h3,λv H1 p1=>h2 σ H1 _ ⟨ρ,dr,hE.mono p1.same,h4,λvs H2 p2=>hQ (v::vs) H2 ⟨p1.same.trans p2.same,.cons (aA p2.same p1.rep) p2.rep,λA hA hz=>?_⟩⟩⟩;show .cons (aA (cz p2.same) (p1.av A hA λz q=>hz z (z8g _ q))) (p2.av A (hA.mono p1.same) λz q=>(hz z (z9q _ q)).mono p1.same)⟩
theorem yF:∀{ns:i_} {vs:B_} {acc:List (Key×V)},vs.length=ns.length->ns.Nodup->(∀x∈ns,bQ acc (.inr x)=none)->gh acc (b7 ns vs)=acc++b7 ns vs
 |[],_,acc,_,_,_=>by simp[b7,gh]
 |_::_,[],_,h,_,_=>by simp at h
 | n::ns,v::vs,acc,hl,hn,ha=>by
   have e:b7 (n::ns) (v::vs)=(Sum.inr n,v)::b7 ns vs:=rfl;rw[e];change gh (cL acc (.inr n) v) (b7 ns vs)=_;rw[w5 v (ha n z9b),yF (⇑hl) (z8s.mp hn).2 λx hx=>?_,z7o]
   ·rfl
   ·have ne:n≠x:=λq=>(z8s.mp hn).1 (q▸hx)
    have h0:=ha x (z9d _ hx);unfold bQ at h0 ⊢;rw[List.find?_append];cases hf:List.find? (λkv=>decide (kv.1=(Sum.inr x:Key))) acc with
    |some z=>rw[hf]at h0;ext h0
    |none=>simp[ne]
def Hy(h:YP X pos keys vals ns as ea)(hn:ns.Nodup<|>R5)(hall:keys.all (·.isSome)=true<|>R0)(hl:keys.length=vals.length<|>R0)(h0:keys≠[]:=by simp)(h15:keys.length<=15<|>R1):YE X (.Dict keys vals pos) (rX ns as):=⟨by
 have h:=h.h;ext(⟨trs,h1,hk,h2⟩:h);show bB (DJ h1 hall hl h0 h15) λσ H Q ρ M QW hE ⟨ds,hf,hlen,hq⟩ hQ p hp=>h2 σ _ _ ⟨ρ,ds,hE.envR.mono (bj hp _),hf,λvs H2 p2=>?_⟩
 have lv:=p2.rep.length;have hpp:=p2.same _ _ bi;show⟨hpp,b7 ns vs,by simp[b7,kV,Function.comp_def],by simp[b7];ext,?_⟩;have em:gh [] (b7 ns vs)=b7 ns vs:=by rw[yF ∅ hn λx hx=>Dq];rfl
 rw[em];have s0:Same H (upd H2 p (.dK (b7 ns vs))):=λb u q=>by rw[aJ (bZ q hp)];show p2.same _ _ (bj hp _ _ _ q)
 have hd:Dom (upd H p (.dK [])) (λb=>inM M b\/b=p):=λb hb=>by
  ext((hb|rfl):hb)
  ·show λz=>hE.ok.dom b hb ((bj hp _).free z)
  ·rw[bi];show λz=>nomatch z
 have hav:∀e∈ea,Av X.K (upd H p (.dK [])) σ ρ (λb=>inM M b\/b=p) e:=λe _=>by
  have up:Same (PH H M) (az (upd H p (.dK [])) λb=>inM M b\/b=p):=oa hp;have full:∀(j:Nat) (v:V) (d:D),σ[j]?=some (some v)->ρ[j]?=some (some d)->Rep X.K (az (upd H p (.dK [])) λb=>inM M b\/b=p) v d:=λj v d h1 h2=>by ext(⟨v',h3,h4⟩:hE.env j d h2);rw[h1]at h3;ext h3;show aA up h4
  cases e with
  |full j=>show full j
  |el j=>show λv d h1 h2=>(full j v d h1 h2).el
 have rr:=p2.av _ hd hav;have up2:Same (az H2 λb=>inM M b\/b=p) (az (upd H2 p (.dK (b7 ns vs))) λb=>inM M b\/b=p):=λb u q=>by ext(⟨n,q⟩:eJ q);rw[cb n,aJ λz=>n (.inr z)];show q
 obtain⟨e1,e2⟩:=fU (c:=.dic ns ds) hE.ok hp s0 bi ⟨vs,rfl,by ext,aT up2 rr⟩;show hQ _ _ (hq p (hE.ok.fresh hp)) _ _ ⟨⟨e1,e2⟩,.ptr p⟩⟩
end
section
variable {g:TG}{te:TE}{y:Str}
def ol(B:BlkOk X scope own J6 cn)(hc:X.calm=true)(hi:PI X tg iter wi)(hg:∀s H cl ex,PG (blk X (own++cn) s H scope cl ex) tg g)(ht:∀s H cl ex,PTs (blk X (own++cn) s H scope cl ex) ifs tt)(he:∀s H cl ex,PE (blk X (own++cn) s H scope cl ex) elt te)(hs:(∀x,foldedSetIterable iter X.env x=pure x)<|>R4):
  PE X (.ListComp elt [⟨tg,iter,ifs,0⟩] scope pos) (gU own.length J6 wi g tt te):=by
 intro G_ s σ H Q I h;ext(⟨cl,hclos,hcl,hha⟩:nu (scope:=scope) (env:=X.env) λx hx hf=>I.ok.has x.1 (B.free x hx hf))
 rw[eval_ListComp];show z6z (use:=none) rfl hs hclos B.kind B.locals (rh B hc hi hg ht he I h hcl hha (RR:=λacc C=>compPost (model X.prog X.w) X.A X.xe none (EP X G_ σ Q) acc C) λd c ys H' s' af q=>?_);ext(⟨m,hm⟩:af.ns);ext(⟨f0,f1,_,f3,f4,f5⟩:af.cf);show⟨m,hm,λh' sb=>⟨.ref d,_,af.inv.turned (t':=s'.toks) (it:=c) (λb o hb e=>(sb.2 b hb).trans e) f0 f1 f3 f4 f5,rfl,q⟩⟩
theorem Hz{P:Hp}{σb:St}(hE:EnvR K P σ ρ)(hlen:σb.length=1+J6.length)(hcap:∀k,1<=k->σb[k]?=(dc σ J6)[k-1]?)(r:Rep K P v d):
  EnvR K P (σb.set 0 (some v)) ((bh 1 J6 ρ).set 0 (some d)):=λj d' q=>by
 cases j with
 |zero=>rw[z9s (by simp[bh])]at q;ext q;show⟨v,z9s ∅,r⟩
 | succ j=>
   rw[z9h ∅]at q;unfold bh at q;rw[z9z (by simp)]at q;erw[z9y,Nat.add_sub_cancel,z9x]at q;cases hk:J6[j]? with
   |none=>rw[hk]at q;ext q
   | some k=>
     rw[hk]at q;erw[z7b,z7y]at q;cases e:ρ[k]? with
     |none=>rw[e]at q;ext q
     |some o'=>rw[e]at q;erw[z7g]at q;subst q;ext(⟨w,h1,h2⟩:hE k d' e);show⟨w,?_,h2⟩;rw[z9h ∅,hcap (j+1) ∅];simp[dc,hk,h1]
def om{M1:Sto}{te:TE}(R:D_->D_->Sto->Prop)(hE1:EnvQ K σ ρ H1 M1)(hx:Reps K (PH H1 M1) xs L)(hL:L.length<=1000)(hJ:∀i H2 M2,PostT K H1 M1 H2 M2->(i=xs.length->J.stop i H2)/\∀v,xs[i]?=some v->J.go i H2/\∀x H3,J.yld i H2 x H3->H3=H2/\x=v)(h0:R L [] M1)(hs:∀d r done M2,R (d::r) done M2->∀σb H2 Q',EnvQ K σb ((bh 1 J6 ρ).set 0 (some d)) H2 M2->PostT K H1 M1 H2 M2->(∀d' M3,R r (done++[d']) M3->∀w H4,PostW K H2 M2 d' w H4 M3->Q' w H4)->te σb H2 Q')(hf:∀done M2 ys H2,R [] done M2->PostT K H1 M1 H2 M2->Reps K (PH H2 M2) ys done->∀l,H2 l=none->Q (.ref l) (upd H2 l (.lst ys))):
  ∃W : Nat->Nat->B_->St->Hp->Prop,(∃m,W 0 m [] (List.replicate 1 none++dc σ J6) H1)/\∀i m ys σb H2,W i m ys σb H2->ys.length<sizeLine /\
    ((J.stop i H2/\∀d,H2 d=none->Q (.ref d) (upd H2 d (.lst ys))) \/
     (J.go i H2/\∀x H3,J.yld i H2 x H3->c9 0 x σb H3 λσb' H4=>(λ_ H Q=>Q true H) σb' H4 λb H5=>if b=true then te σb' H5 λy H6=>∃m',m'<m/\W (i+1) m' (ys++[y]) σb' H6 else ∃m',m'<m/\W (i+1) m' ys σb' H5)):=by
 have len:=hx.length;show⟨λi m ys σb H2=>m=xs.length-i/\i<=xs.length/\(σb.length=1+J6.length/\∀k,1<=k->σb[k]?=(dc σ J6)[k-1]?)/\∃M2 done,PostT K H1 M1 H2 M2/\Reps K (PH H2 M2) ys done/\done.length=i/\R (L.drop i) done M2,?_,?_⟩
 ·show⟨xs.length,by simp,z7r _,⟨by simp[dc];ext,λk hk=>?_⟩,M1,[],PostT.refl hE1.ok,.nil,rfl,⇑h0⟩
  rw[z9z (⇑hk)];simp
 ·rintro i m ys σb H2 ⟨rfl,hi,⟨hlen,hcap⟩,M2,done,pt,hr,hdl,hgo⟩
  have lys:=hr.length;ext(⟨j1,j2⟩:hJ i H2 M2 pt);show⟨by rw[z6g];ext,?_⟩;by_cases hlt:i<xs.length
  ·ext(⟨dy,h4,h5⟩:hx.getV (z9p hlt))
   have ed:L.drop i=dy::L.drop (i+1):=by rw[z8k ∅];have e2:L[i]'(by ext)=dy:=(z9e.mp h4).2;rw[e2]
   rw[ed]at hgo;ext(⟨g1,g2⟩:j2 _ (z9p hlt));show .inr ⟨g1,λx H3 hy=>?_⟩;ext(⟨rfl,rfl⟩:g2 x H3 hy);unfold c9;dsimp only;rw[if_pos rfl];show hs _ _ _ _ hgo _ _ _ ⟨Hz (hE1.env.mono pt.same) hlen hcap (aA pt.same h5),pt.ok⟩ pt λd M3 h3 w H4 p4=>?_
   show⟨xs.length-(i+1),by ext,rfl,hlt,⟨by rw[z8h];show hlen,λk hk=>by rw[z9h ∅];show hcap k hk⟩,M3,done++[d],pt.trans p4.toPostT,(aT p4.same hr).append (.cons p4.rep .nil),by simp[hdl],h3⟩
  ·have e:i=xs.length:=by ext
   subst e;rw[z7s ∅]at hgo;show .inl ⟨j1 rfl,hf _ _ _ _ hgo pt hr⟩
def sF{Sq:Hp->B_->Prop}(sq:Sq H2 xs):(i=xs.length->∃xs,Sq H2 xs/\xs.length<=i)/\∀v,xs[i]?=some v->(∃xs x,Sq H2 xs/\xs[i]?=some x)/\∀(x:V) (H3:Hp),(H3=H2/\∀xs,Sq H2 xs->xs[i]?=some x)->H3=H2/\x=v:=
 ⟨λe=>⟨xs,sq,Nat.le_of_eq e.symm⟩,λv hv=>⟨⟨xs,v,sq,hv⟩,λx H3 hy=>⟨hy.1,z7f ((hy.2 xs sq).symm.trans hv)⟩⟩⟩
def on{M2:Sto}{H0:Hp}{M0:Sto}(hgo:QW (.lst ds) M2)(pt:PostT K H0 M0 H2 M2)(hr:Reps K (PH H2 M2) ys ds)(hl:H2 l=none):∃d M3,QW d M3/\PostW K H0 M0 d (.ref l) (upd H2 l (.lst ys)) M3:=by have hn:=pt.ok.fresh hl;show⟨_,M2,hgo,pt.trans (PostT.of pt.ok (bj hl _)),.lst (.inl ?_) (aT (PH.up (bj hl _)) hr)⟩;rw[PH.of hn];show bi
def HA(h:tw K (hZ J6 tas tel) σ H Q):gU 1 J6 (vh (twA K tas)) (c9 0) (λ_ H Q=>Q true H) (tw K tel) σ H Q:=by
 ext(⟨ρ,M,QW,hE,ht,hQ⟩:h);show⟨ρ,M,_,hE,ht,λds M1 z_ vs H1 p1=>?_⟩;ext(⟨j,e1,hj,hj2,h1⟩:z_);subst e1;ext(⟨v,rfl,r⟩:fO p1.rep);ext r;show⟨j,rfl,hj.1,hj.2,?_⟩;have hx:=Reps.ints (K:=K) (H:=PH H1 M1) ((List.range j.toNat).map λ(k:Nat)=>(k:Int));rw[z8x,z8x]at hx;show om (J:=Itr 0 j.toNat) (Q:=Q) (λL done M2=>dD 1 tel (bh 1 J6 ρ) L done M2 λds M2=>QW (.lst ds) M2) (hE.next p1.toPostT) hx (by simp;ext) (λi H2 M2 pt=>⟨λe=>?_,λv hv=>?_⟩) h1 (λd r done M2 hgo σb H2 Q' hEb pt hq'=>⟨_,M2,_,hEb,hgo,hq'⟩) λdone M2 ys H2 hgo pt hr l hl=>?_
 ·rw[z9a,z8j]at e
  show Nat.le_of_eq e.symm
 ·have hi:i<j.toNat:=by have:=(z9e.mp hv).1;simpa using this
  rw[z9x,List.getElem?_range hi]at hv;ext hv;show⟨hi,λx H3 hy=>⟨hy.1,by rw[hy.2,Int.zero_add];rfl⟩⟩
 ·ext(⟨d,M3,g1,g2⟩:on hgo (p1.toPostT.trans pt) hr hl)
  show hQ d M3 g1 _ _ g2
def lL(B:BlkOk X scope [y] J6 cn)(hc:X.calm=true)(mr:X.mg "range"=none)(hi:YA X [a] tas)(hg:∀s H cl ex,PG (blk X ([y]++cn) s H scope cl ex) tg (c9 0))(he:∀s H cl ex,YE (blk X ([y]++cn) s H scope cl ex) elt tel)(hgr:Gl X "range"<|>R0)(hst:starEach [a] X.env=[(false,eval a X.env)]<|>R0)(hs:(∀x,foldedSetIterable (.Call (.Name "range" pn) [a] [] pr) X.env x=pure x)<|>R4):
  YE X (.ListComp elt [⟨tg,.Call (.Name "range" pn) [a] [] pr,[],0⟩] scope pos) (hZ J6 tas tel):=⟨have hi:=hi.h;have he:=(λs H cl ex=>(he s H cl ex).h);
 cT (ol B hc (mF hgr mr hi hst) hg (λ_ _ _ _=>jF) he hs) λ_ _ _ h=>HA h⟩
end
def yG{g:D->E_}(h:∀x d,g x=some d->aV d=true)(ds:D_)(d:D)(e:aB g ds=some d):aV d=true:=by ext(⟨x,_,h2⟩:iF e);show h x d h2
def HB(h:∀x y d,g x y=some d->aV d=true)(ds:D_)(d:D)(e:dH g ds=some d):aV d=true:=by ext(⟨x,y,_,h2⟩:qS e);show h x y d h2
def i8(ml:X.mg "len"=none)(ha:YA X [a] tas)(hg:Gl X "len"<|>R0)(he:SE a [] X<|>R0)(hpl:BT pos [] X<|>R0):
  YE X (.Call (.Name "len" p) [a] [] pos) (cH (aB bA) tas):=⟨have ha:=ha.h;sA vV wM ml PySem.boot_len ha (yG λx d h=>by ext(⟨_,_,h⟩:bind_some h);ext h;rfl) hg (by decide) (by decide) he hpl⟩
def HC(hc:X.calm=true)(ml:X.mg "sum"=none)(ha:YA X [a] tas)(hg:Gl X "sum"<|>R0)(he:SE a [] X<|>R0)(hpl:BT pos [] X<|>R0):
  YE X (.Call (.Name "sum" p) [a] [] pos) (cH (aB fu) tas):=⟨have ha:=ha.h;sA (wP hc) wQ ml PyProof.Rows.boot_sum ha (yG λx d h=>by
   unfold fu at h;split at h
   ·ext h
   ·ext(⟨_,_,h⟩:bind_some h)
    ext(⟨_,_,h⟩:bind_some h);ext h;rfl) hg (by decide) (by decide) he hpl⟩
def HD(x y d:D)(h:fP x y=some d):aV d=true:=by
 unfold fP at h;split at h<;>ext h
 rfl
def HF(hc:X.calm=true)(ml:X.mg "max"=none)(ha:YA X [a,b] tas)(hg:Gl X "max"<|>R0)(he:SE a [b] X<|>R0)(hpl:BT pos [b] X<|>R0):
  YE X (.Call (.Name "max" p) [a,b] [] pos) (cH (dH fP) tas):=⟨have ha:=ha.h;sA (vC hc) wS ml PyProof.Rows.boot_max ha (HB HD) hg (by decide) (by decide) he hpl⟩
def yH(h:MOk K H M)(r:Rep K (PH H M) v d):Rep K H v (vw2 M d):=by
 cases r with
 | ptr a=>
   change Rep K H (.ref a) (match M a with|some (.lst ds)=>.lst (ds.map (vw1 M))|_=>.ptr a)
   set_option tactic.hygienic true in split
   ·rename_i ds hm
    ext(⟨xs,g1,g2⟩:fD h hm);show .lst (.inl g1) (oi h g2)
   ·show .ptr a
 |non=>show .non
 |bl b=>show .bl b
 |int b=>show .int b
 |str b=>show .str b
 |lst h1 h2=>show aA (aU _ _) (.lst h1 h2)
 |tup h1 h2=>show aA (aU _ _) (.tup h1 h2)
 |scr h1=>show aA (aU _ _) (.scr h1)
 |dct h1=>show aA (aU _ _) (.dct h1)
theorem lM{K:K0}{H:Hp}{M:Sto}(h:MOk K H M):∀{vs:B_} {ds:D_},Reps K (PH H M) vs ds->Reps K H vs (ds.map (vw2 M))
 |[],_,r=>by ext r;show .nil
 |_::_,_,r=>by cases r with|cons a t=>show .cons (yH h a) (lM h t)
theorem yI{K:K0}{H H':Hp}:∀{xs:h_} {vs:B_},Reps K H vs (xs.map D.int)->Reps K H' vs (xs.map D.int)
 |[],_,r=>by ext r;show .nil
 |_::_,_,r=>by cases r with|cons a t=>ext a;show .cons (.int _) (yI t)
section
variable {k:Nat}{es:k_}
def HG(d:Def X.prog X.w X.K X.mg X.base x k ps G fr)(hr:Room k X.A)(ha:YA X (a::es) tas)(hg:Gl X x<|>R0)(hdb:DB x<|>R1)(he:SE a es X<|>R0)(hpl:BT pos es X<|>R0):
  YE X (.Call (.Name x p) (a::es) [] pos) (rZ G tas):=⟨have ha:=ha.h;
 let⟨_,_,F,hm,hk,hb⟩:=d
 bB (gN F hr hg hm hk hb .nil ff ha hdb he hpl) λσ H Q ρ M QW hE ht hQ=>⟨ρ,M,_,hE,ht,λds M1 z_ vs H1 p=>by ext(⟨d,hf,hs,hq⟩:z_);change spF X.K G fr (vs++[]) H1 Q E0;rw[z8w];have rv:=lM p.ok p.rep;show⟨_,d,rv,hf,λv H' r=>hQ d M1 hq v H' ⟨p.toPostT.trans (PostT.of p.ok r.same),kP hs (r.rep fg (Dom.none _) (aT (jt _) rv))⟩⟩⟩⟩
def HH(d:Def X.prog X.w X.K X.mg X.base x k ps G true)(hr:Room k X.A)(ha:YA X (a::es) tas)(hg:Gl X x<|>R0)(hdb:DB x<|>R1)(he:SE a es X<|>R0)(hpl:BT pos es X<|>R0):
  YE X (.Call (.Name x p) (a::es) [] pos) (se G tas):=⟨have ha:=ha.h;
 let⟨_,_,F,hm,hk,hb⟩:=d
 bB (gN F hr hg hm hk hb .nil ff ha hdb he hpl) λσ H Q ρ M QW hE ht hQ=>⟨ρ,M,_,hE,ht,λds M1 z_ vs H1 p=>by ext(⟨d,hf,⟨xs,ex⟩,hq⟩:z_);change spF X.K G true (vs++[]) H1 Q E0;rw[z8w];have rv:=lM p.ok p.rep;subst ex;show⟨_,_,rv,hf,λv H' r=>hQ _ M1 hq v H' ⟨p.toPostT.trans (PostT.of p.ok r.same),?_⟩⟩;ext(⟨l,ys,es,rfl,e2,hl0,hl1,hA⟩:r.new rfl);ext e2;show .lst (.inl ?_) (yI (hA fg (Dom.none _) (aT (jt _) rv)));rw[PH.of (p.ok.fresh hl0)];show hl1⟩⟩
def HI(d:DefX X.prog X.w X.K X.mg X.base x k ps G)(hr:Room k X.A)(ha:YA X (a::es) tas)(hg:Gl X x<|>R0)(hdb:DB x<|>R1)(he:SE a es X<|>R0)(hpl:BT pos es X<|>R0):
  YE X (.Call (.Name x p) (a::es) [] pos) (sf G tas):=⟨have ha:=ha.h;
 let⟨_,_,F,hm,hk,hb⟩:=d
 bB (gN F hr hg hm hk hb .nil ff ha hdb he hpl) λσ H Q ρ M QW hE ht hQ=>⟨ρ,M,_,hE,ht,λds M1 z_ vs H1 p=>by
  ext(⟨d,hf,hq⟩:z_);change spX X.K G (vs++[]) H1 Q E0;rw[z8w];have rv:=lM p.ok p.rep;show⟨_,_,rv,hf,λv H' r=>hQ _ M1 hq v H' ⟨p.toPostT.trans (PostT.of p.ok r.same),?_⟩⟩;ext(⟨l,bs,dss,rfl,rfl,hnd,hnew,hl,hin⟩:r.new);have out:∀b,b=l\/b∈bs->¬inM M1 b:=λb hb q=>p.ok.dom b q (hnew b hb)
  show .lst (.inl ?_) ((hin (inM M1)).reps (λ_ q=>q) λb hb=>out b (.inr hb));change az H' (inM M1) l=_;rw[cb (out l (.inl rfl))];show hl⟩⟩
def HK(ml:X.mg "list"=none)(ha:YE X a ta)(hg:Gl X "list"<|>R0)(he:SE a [] X<|>R0)(hpl:BT pos [] X<|>R0):
  YE X (.Call (.Name "list" p) [a] [] pos) (sg ta):=⟨have ha:=ha.h;
 bB (iC vW hg ml (by decide +kernel) (bS ha ca he) (by decide) (by decide) he hpl) λσ H Q ρ M QW hE ht hQ=>by
  show⟨ρ,M,_,hE,ht,λd M1 z_ v H1 p1=>?_⟩;ext(⟨ds,hd,hq⟩:z_);have key:∃q xs,v=.ref q/\SqL X.K H1 q xs/\Reps X.K (PH H1 M1) xs ds:=by
   cases d with
   | ptr b=>
     cases p1.rep;cases hm:M1 b with
     |none=>simp[vw1,hm]at hd
     | some c=>
       cases c with
       |lst es=>erw[vw1,hm]at hd;ext hd;ext(⟨xs,g1,g2⟩:fD p1.ok hm);show⟨b,xs,rfl,SqL.of g1,g2⟩
       |dic _ _=>simp[vw1,hm]at hd
       |ins _ _ _=>simp[vw1,hm]at hd
       |dcT _ _=>simp[vw1,hm]at hd
       |dcL _ _=>simp[vw1,hm]at hd
       |exn _ _=>simp[vw1,hm]at hd
   |lst es=>ext hd;ext(⟨q,xs,rfl,hq,hx,_⟩:fq p1.rep rfl rfl);show⟨q,xs,rfl,(aU _ _).seq hq,hx⟩
   |_=>ext hd
  ext(⟨q,xs,rfl,hq',hx⟩:key);show⟨q,xs,rfl,.inl hq',λl hl=>by have hn:=p1.ok.fresh hl;show hQ _ M1 hq _ _ ⟨p1.toPostT.trans (PostT.of p1.ok (bj hl _)),.lst (.inl ?_) (aT (PH.up (bj hl _)) hx)⟩;rw[PH.of hn];show bi⟩⟩
theorem HL(ha:JF X a fa ea)(hb:YE X b tb):YE X (.BinOp a .Mult b pos) (sh fa tb):=⟨have ha:=ha.h;have hb:=hb.h;
 bB (iA qE ha hb) λσ H Q ρ M QW hE z_ hQ=>by
  ext(⟨dx,hf,hq⟩:z_);show⟨ρ,dx,hE.envR,hf,λx H1 p1=>?_⟩;ext(⟨l,xs,ds,rfl,rfl,hl0,hl1,hA⟩:p1.new);have pt:=PostT.of hE.ok p1.same;show⟨ρ,M,_,hE.next pt,hq,λdy M1 z_ y H2 p2=>?_⟩;ext(⟨d,hd,hq1⟩:z_);have hln:M l=none:=hE.ok.fresh hl0;have hx:Reps X.K (PH H1 M) xs ds:=aT (cD (λ_ _ z=>z) λ_ z=>.inl z) (hA (inM M) hE.ok.dom λe _=>lH hE e);have hll:PH H2 M1 l=some (.lst xs):=p2.same _ _ (by rw[PH.of hln];show hl1);cases dy with
  |int k=>cases p2.rep;ext(⟨⟨hl,hk1,hk2⟩,rfl⟩:bC hd);show⟨l,k,xs,rfl,rfl,(PH.at hll).2,by ext,by ext,by rw[hx.length];show cV hl,λr hr=>?_⟩;have hn:=p2.ok.fresh hr;show hQ _ M1 hq1 _ _ ⟨(pt.trans p2.toPostT).trans (PostT.of p2.ok (bj hr _)),.lst (.inl ?_) ((aT (p2.same.trans (PH.up (bj hr _))) hx).rep k.toNat)⟩;rw[PH.of hn];show bi
  |_=>ext hd⟩
end
section
variable {y:Str}
def HM{fin:D_->Sto->QE->Prop}(hfin:∀{ds:D_} {M2:Sto} {QW:QE} {H2:Hp} {ys:B_} {l:Addr} {H0:Hp} {M0:Sto},fin ds M2 QW->PostT K H0 M0 H2 M2->Reps K (PH H2 M2) ys ds->H2 l=none->∃d M3,QW d M3/\PostW K H0 M0 d (.ref l) (upd H2 l (.lst ys)) M3)(h:tw K (λρ M Q=>tit ρ M λd M1=>∃ds,cj d=some ds/\ds.length<=1000/\dD 1 tel (bh 1 J6 ρ) ds [] M1 λds M2=>fin ds M2 Q) σ H Q):gU 1 J6 (qk K (tw K tit)) (c9 0) (λ_ H Q=>Q true H) (tw K tel) σ H Q:=by
 ext(⟨ρ,M,QW,hE,ht,hQ⟩:h);show⟨ρ,M,_,hE,ht,λd M1 z_ v H1 p1=>?_⟩;ext(⟨L,hds,hll,h1⟩:z_);have hsd:=jG hds;ext(⟨q,xs,rfl,hq,hx',hA⟩:fq p1.rep hsd.2 hsd.1);show⟨q,rfl,⟨xs,(aU _ _).seq hq⟩,?_⟩;show om (J:=Itl K q) (Q:=Q) (λL done M2=>dD 1 tel (bh 1 J6 ρ) L done M2 λds M2=>fin ds M2 QW) (hE.next p1.toPostT) hx' hll (λi H2 M2 pt=>sF (Sq:=λH=>SqL K H q) ((aU _ _).seq (pt.same.seq hq))) h1 (λd r done M2 hgo σb H2 Q' hEb pt hq'=>⟨_,M2,_,hEb,hgo,hq'⟩) λdone M2 ys H2 hgo pt hr l hl=>?_
 ext(⟨d,M3,g1,g2⟩:hfin hgo (p1.toPostT.trans pt) hr hl);show hQ d M3 g1 _ _ g2
def HN(B:BlkOk X scope [y] J6 cn)(hc:X.calm=true)(hi:YE X iter tit)(hg:∀s H cl ex,PG (blk X ([y]++cn) s H scope cl ex) tg (c9 0))(he:∀s H cl ex,YE (blk X ([y]++cn) s H scope cl ex) elt tel)(hs:(∀x,foldedSetIterable iter X.env x=pure x)<|>R4):
  YE X (.ListComp elt [⟨tg,iter,[],0⟩] scope pos) (sj J6 tit tel):=⟨have hi:=hi.h;have he:=(λs H cl ex=>(he s H cl ex).h);
 cT (ol B hc (kC hi) hg (λ_ _ _ _=>jF) he hs) λ_ _ _ h=>HM (fin:=λds M2 Q=>Q (.lst ds) M2) on h⟩
end
section
variable {rest:n_}{t:NTS}
def HP(h:σ[i]?=some (some v)):σ.set i (some v)=σ:=by
 apply List.ext_getElem?;intro j;by_cases e:i=j
 ·subst e;rw[z9s (z9e.mp h).1,h]
 ·rw[z9h e]
def sG(i:Nat)(h:YSs X rest t):YSs X rest (ai (nFz i) t):=⟨have h:=h.h;λP n=>sB (h P n) λDe σ H ρ M Ew hE z_ hl=>by ext(⟨q,ds,h1,h2,h3⟩:z_);ext(⟨v,hv,r⟩:hE.q.env i _ (gR h1));ext r;ext(⟨e1,e2⟩:ym (a:=q) hE.q.ok);ext(⟨xs,g1,g2⟩:fD hE.q.ok h2);have hE2:=(hE.next ⟨e1,e2⟩).set (i:=i) (v:=.ref q) (d:=.lst ds) (.lst (.inl (by rw[PH.of nV];show g1)) (aT e1 g2));rw[HP hv]at hE2;show⟨_,_,Ew,hE2,h3,hl⟩⟩
end
section
variable {y:Str}{k:Nat}
def yJ(h:MOk K H M)(r:Rep K (PH H M) v d):Rep K H v (vw3 M d):=by
 cases r with
 | @lst p xs ds h1 h2=>
   have h3:Rep K H (.ref p) (.lst ds):=aA (aU _ _) (.lst h1 h2);cases h3 with
   |lst h4 h5=>have e:=gP h4 (dG (aU _ _) h1);subst e;show .lst h4 (lM h h2)
 |ptr a=>show yH h (.ptr a)
 |non=>show .non
 |bl b=>show .bl b
 |int b=>show .int b
 |str b=>show .str b
 |tup h1 h2=>show aA (aU _ _) (.tup h1 h2)
 |scr h1=>show aA (aU _ _) (.scr h1)
 |dct h1=>show aA (aU _ _) (.dct h1)
def HQ(hr:OpV K r g)(h:tw K (n2V g ta tb) σ H Q):tOp r (tw K ta) (tw K tb) σ H Q:=by ext(⟨ρ,M,QW,hE,ht,hQ⟩:h);show⟨ρ,M,_,hE,ht,λx M1 h1 vx H1 p1=>⟨ρ,M1,_,hE.next p1.toPostT,h1,λy M2 h2 vy H2 p2=>?_⟩⟩;ext(⟨d,hg,hs,hq⟩:h2);have rx:=aA p2.same p1.rep;show hr vx vy H2 _ _ d Q (yJ p2.ok rx) (yJ p2.ok p2.rep) hg λv H' e r' av=>hQ d M2 hq v H' ⟨(p1.toPostT.trans p2.toPostT).trans (PostT.of p2.ok e),kP hs r'⟩
def yK{j}(ha:YE X a ta):YE X (.Subscript a (.Slice (some (.Constant (.int (k:Nat)) j p3)) none none p2) pos) (o3 k ta):=⟨have ha:=ha.h;
 bB (kG qC ha (mL uW) mK) λσ H Q ρ M QW hE ht hQ=>⟨ρ,M,_,hE,ht,λx M1 z_ vx H1 p1=>by ext(⟨q,ds,ex,hm,hk,hq⟩:z_);subst ex;cases p1.rep;ext(⟨xs,g1,g2⟩:fD p1.ok hm);show⟨_,rfl,q,xs,rfl,SqL.of g1,λl hl=>?_⟩;have hn:=p1.ok.fresh hl;show hQ _ M1 hq _ _ ⟨p1.toPostT.trans (PostT.of p1.ok (bj hl _)),.lst (.inl ?_) (aT (PH.up (bj hl _)) (qO g2 _ _))⟩;rw[PH.of hn];show bi⟩⟩
end
noncomputable abbrev dE(x C:Addr):HO:=.ext (yl x C)
def jl{a:Addr}(x:L2.ObjOk P w H h a o):∃ob,h.get? a=some ob:=by
 cases o with
 |lst xs=>ext(⟨_,_,_,_,e⟩:x);show⟨_,e⟩
 |tup xs=>ext(⟨_,_,_,o,e,_⟩:x);show⟨_,e⟩
 |dK kvs=>ext(⟨_,_,_,_,o,_,_,e,_⟩:x);show⟨_,e⟩
 |dT kvs=>ext(⟨_,_,_,_,o,_,_,e,_⟩:x);show⟨_,e⟩
 |set S n=>ext(⟨o,_,_,_,e,_⟩:x);show⟨_,e⟩
 |ins C dx fs=>ext(⟨_,_,_,e,_⟩:x);show⟨_,e⟩
 |own y=>show x
 |xd fs=>ext(⟨_,⟨_,_,_,e,_⟩,_⟩:x);show⟨_,e⟩
 |rng lo hi=>ext(⟨_,_,_,e⟩:x);show⟨_,e⟩
 |frz ob u=>show⟨_,x.1⟩
 |tbl ps=>show⟨_,x⟩
 |met f y=>show⟨_,x⟩
 |ext φ=>show x.2.1
def sH{x:Addr}(e:∃o,h.get? x=some o/\o.cls=.ref C):L2.ObjOk P w H h x (dE x C):=
 ⟨e,let⟨o,h1,_⟩:=e;⟨o,h1⟩,λh1 h2 ⟨o,a,b⟩ k=>⟨o,k o a,b⟩⟩
def CXN(P:Program)(w:World):CXT:=λouter H s E e s'=>∃(x C:Addr) (H':Hp) (B:Heap) (a0:Value),e=.ref x/\s'.os=s.os/\AllBare s'.gens/\Un (frs outer) [] H H' s.heap s'.heap/\HOk P w H' s'.heap /\
 Heap.FlyingW B outer x (.ref C) a0 s'.heap/\(∀b u,H' b=some u->b≠x->B.get? b≠none)/\(∀b o,s.heap.get? b=some o->b∉frs outer->B.get? b≠none)/\H' x=some (dE x C)/\E (.ref x) (some C) H'
section
variable {x:Addr}
def HR{vs:j_}(I:L2.Inv X G_ σ H s)(m:Heap.MadeExcOf s.heap h' x (.ref C) vs):L2.Inv X G_ σ (upd H x (dE x C)) {s with heap:=h'}:=by
 have hn:H x=none:=by
  cases e:H x with
  |none=>rfl
  |some u=>ext(⟨o,q⟩:jl (I.hok x u e));rw[m.new]at q;ext q
 ext(⟨t,k1,_,_⟩:m.there);show I.un (t':=s.toks) ⟨λb u q _ _ _=>m.keeps b u q,λb u q _ _ _=>⟨u.slots,m.keeps b u q⟩,λb u q n _=>?_,λb u q _=>⟨u,m.keeps b u q⟩,λb xs q=>?_,λb u xs q=>?_,λb ps q=>⟨#[],?_⟩⟩ λb u e=>?_
 ·rw[aJ λz=>by rw[z,m.new]at q;ext q];show n
 ·rw[aJ (bZ q hn)];show q
 ·rw[aJ (bZ q hn)];show q
 ·rw[aJ (bZ q hn),q];simp
 ·by_cases hb:b=x
  ·subst hb
   rw[bi]at e;ext e;show sH ⟨_,k1,rfl⟩
  ·rw[aJ hb]at e
   show(I.hok b u e).stay (λc v _ q=>m.keeps c v q) (λc q=>by rw[aJ (bZ q hn)];show q) λc xs q=>by rw[aJ (bZ q hn)];show q
def sI{E:XK}(I:L2.Inv X G_ σ H s)(hx:H x=some (dE x C))(hfl:Heap.FlyingW B X.outer x (.ref C) a0 h')(hup:s.heap.UpToSlots h')(hst:B.StaysIn s.heap)(c1:∀b u,H b=some u->b≠x->B.get? b≠none)(c2:∀b o,X.s₀.heap.get? b=some o->b∉frs X.outer->B.get? b≠none)(hex:X.ex=[])(hE:E (.ref x) (some C) H):CXN X.prog X.w X.outer X.H₀ X.s₀ E (.ref x) {s with heap:=h'}:=by
 have same:∀{b:Addr} {o:Obj},B.get? b≠none->s.heap.get? b=some o->h'.get? b=some o:=λ{b o} n e=>by
  cases q:B.get? b with
  |none=>show absurd q n
  |some o'=>have h1:=hst b o' q;have h2:=hfl.1 b o' q;rw[e]at h1;ext h1;show h2
 have nx:∀b:Addr,b∉X.ex:=λb z=>by rw[hex]at z;ext z
 have fr:∀b o,s.heap.get? b=some o->b∈frs X.outer->∃sl,h'.get? b=some {o with slots:=sl}:=λb o e hb=>by have hb':b∈frs X.stack\/True:=.inr trivial;ext(⟨_,o0,ho0,hd0⟩:I.ok.funs.mem hb);ext(⟨sl,q⟩:I.base.slot b o0 ho0 (I.ok.frf b hb) hb (nx b));rw[e]at q;ext q;show hup b _ e hd0
 show⟨x,C,H,B,a0,rfl,I.os,I.bare,⟨λb o e n hb _=>?_,λb o e n hb _=>?_,λb o e n _=>I.base.free b o e n (nx b),λb o e _=>?_,I.base.tups,I.base.frzs,I.base.tbls⟩,λb u e=>?_,hfl,c1,c2,hx,hE⟩
 ·show same (c2 b o e hb) (I.base.keep b o e n hb (nx b))
 ·ext(⟨sl,q⟩:I.base.slot b o e n hb (nx b))
  ext(⟨sl2,q2⟩:fr b _ q hb);show⟨sl2,q2⟩
 ·ext(⟨o',q⟩:I.base.there b o e (nx b))
  by_cases hb:b∈frs X.outer
  ·ext(⟨sl,q2⟩:fr b o' q hb)
   show⟨_,q2⟩
  ·show⟨o',same (c2 b o e hb) q⟩
 ·by_cases hb:b=x
  ·subst hb
   rw[hx]at e;ext e;show sH hfl.there
  ·show(I.hok b u e).stay (λc v hc q=>?_) (λ_ q=>q) λ_ _ q=>q
   have:H c≠none/\c≠x:=by
    ext((rfl|hc):hc)
    ·show⟨by rw[e];show(λz=>nomatch z),hb⟩
    ·show⟨by rw[hc];show(λz=>nomatch z),λz=>by rw[z,hx]at hc;ext hc⟩
   cases hq:H c with
   |none=>show absurd hq this.1
   |some u'=>show same (c1 c u' hq this.2) q
def HS{vs:j_}{E:XK}(I:L2.Inv X G_ σ H s)(m:Heap.MadeExcOf s.heap h' x (.ref C) vs)(hst:X.stack=X.env::X.outer)(hfr:X.env.frame=some X.env.locals)(hex:X.ex=[])(hE:E (.ref x) (some C) (upd H x (dE x C))):wpAny (model X.prog X.w) X.A (leaving X.env (.ref x)) (λ_ s''=>CXN X.prog X.w X.outer X.H₀ X.s₀ E (.ref x) s'') Er {s with heap:=h'}:=by
 have I2:=HR I m;have hl:s.heap.FunFrames X.base (X.env::X.outer):=by have:=I.stack;rw[hst]at this;show this
 have hin:∀env∈(X.env::X.outer),∀b,env.frame=some b->b∈frs X.stack:=λenv he b hb=>by rw[hst];show z3d.mpr ⟨env,he,hb⟩
 show PySem.wpAny_leaves_madeW (base:=W.hideAll s.heap (frs X.stack)) (by rw[<- hst];show I.ok.frames) hfr (λb o q=>z5d _ q) (W.funFrames_hide hl hin) m λh'' t x1 _ _ x4=>?_
 have hn:H x=none:=by
  cases e:H x with
  |none=>rfl
  |some u=>ext(⟨o,q⟩:jl (I.hok x u e));rw[m.new]at q;ext q
 have inB:∀b o,s.heap.get? b=some o->b∉frs X.stack->(W.hideAll s.heap (frs X.stack)).get? b≠none:=λb o e hb z=>by rw[z4z _ e hb]at z;ext z
 show sI I2 bi x1 x4 (λb o q=>m.keeps b o (z5d _ q)) (λb u e hb=>?_) (λb o e hb=>?_) hex hE
 ·rw[aJ hb]at e
  ext(⟨ob,q⟩:jl (I.hok b u e));show inB b ob q λz=>by rw[I.stkFree b z]at e;ext e
 ·ext(⟨o',q⟩:I.base.there b o e (by rw[hex];show λz=>nomatch z))
  show inB b o' q λz=>?_
  rcases z9g.mp (I.stkSub b z)with e1|e1
  ·have:=I.ok.above
   rw[<- e1]at this;show absurd (z9v (z9n e) this) (z7v _)
  ·show hb e1
def HU{s2:Shared}{E E1:XK}{e:Value}(I:L2.Inv X G_ σ H s)(hcx:CXN X.prog X.w X.stack H s E1 e s2)(hst:X.stack=X.env::X.outer)(hfr:X.env.frame=some X.env.locals)(hex:X.ex=[])(hE:∀x C H2,H2 x=some (dE x C)->HOk X.prog X.w H2 s2.heap->E1 (.ref x) (some C) H2->E (.ref x) (some C) H2):wpAny (model X.prog X.w) X.A (leaving X.env e) (λ_ s''=>CXN X.prog X.w X.outer X.H₀ X.s₀ E e s'') Er s2:=by
 ext(⟨x,C,H2,B,a0,rfl,os,bare,un,hok,hfl,c1,c2,hx,hE1⟩:hcx);ext(⟨hh,g,d,t,os'⟩:s2);obtain rfl:os'=s.os:=os;have I2:L2.Inv X G_ σ H2 {s with heap:=hh,gens:=g,drawn:=d,toks:=t}:=I.call (h':=hh) (g':=g) (d':=d) (t':=t) (ch:=[]) un hok bare (λb z=>absurd z (by simp));have hfl':Heap.FlyingW B (X.env::X.outer) x (.ref C) a0 hh:=by rw[<- hst];show hfl
 show PySem.wpAny_leaves_onW (by rw[<- hst];show I.ok.frames) hfr hfl' λh' x1 x2=>?_
 show sI (s:={s with heap:=hh,gens:=g,drawn:=d,toks:=t}) I2 hx x1 x2 hfl'.1 c1 (λb o e hb=>?_) hex (hE x C H2 hx hok hE1);ext(⟨o',q⟩:I.base.there b o e (by rw[hex];show λz=>nomatch z));show c2 b o' q λz=>?_
 rcases z9g.mp (I.stkSub b z)with e1|e1
 ·have:=I.ok.above
  rw[<- e1]at this;show absurd (z9v (z9n e) this) (z7v _)
 ·show hb e1
end
def Trc(B:Heap)(l:List PySem.Env)(x:Addr)(C a0:Value)(h:Heap):Prop:=B.StaysIn h/\B.get? x=none/\h.FunFrames B l/\∃fl,h.TracedAtW B x C a0 fl
section
variable {M:Model}{l outer:List PySem.Env}{env env':PySem.Env}{x L:Addr}{C:Value}{Q:Unit->Shared->Prop}
def HV(e:env'.frame=env.frame)(v:Value):noteFrame v env'=noteFrame v env:=by unfold noteFrame PySem.frameOf;rw[e]
def sJ(T:Trc B l x C a0 h):∃oe vs t oT ts fl,h.get? x=some oe/\oe.data=.fields vs/\vs[1]?=some (.ref t)/\h.get? t=some oT/\oT.data=.fields ts/\ts[3]?=some fl/\h.TracedAtW B x C a0 fl /\
  ∀v,(B.StaysIn (h.update t (Obj.mapFields (·.setIfInBounds 3 v)))/\(h.update t (Obj.mapFields (·.setIfInBounds 3 v))).FunFrames B l/\(h.update t (Obj.mapFields (·.setIfInBounds 3 v))).TracedAtW B x C a0 v)/\h.UpToSlots (h.update t (Obj.mapFields (·.setIfInBounds 3 v))):=by
 ext(⟨kb,nx,fr,fl,oe,vs,t,oT,ts,he,hc,hd,h1,hn,ne,hT,dT,h3⟩:T);show⟨oe,vs,t,oT,ts,fl,he,hd,h1,hT,dT,h3,⟨oe,vs,t,oT,ts,he,hc,hd,h1,hn,ne,hT,dT,h3⟩,λv=>?_⟩;have hs:=(z6e.mp h3).1;have ot:∀b,b≠t->(h.update t (Obj.mapFields (·.setIfInBounds 3 v))).get? b=h.get? b:=λb hb=>z6c _ _ (Ne.symm hb)
 have nr:∀b o,h.get? b=some o->(∀ws,o.data≠.fields ws)->b≠t:=λb o e n z=>by rw[z,hT]at e;ext e;show n ts dT
 show⟨⟨λb o e=>(ot b λz=>by rw[z,hn]at e;ext e).trans (kb b o e),fr.of_keeps λb o e n=>⟨o,(ot b (nr b o e n)).trans e,rfl⟩,?_⟩,λb o e n=>⟨o.slots,(ot b (nr b o e n)).trans e⟩⟩;show⟨oe,vs,t,_,_,(ot x (Ne.symm ne)).trans he,hc,hd,h1,hn,ne,z4j _ hT (Obj.isFreed_of_fields (Obj.data_mapFields dT _)),Obj.data_mapFields dT _,by simp[hs]⟩
def HW{f:Option Addr}(T:Trc B l x C a0 s.heap)(hQ:∀h',Trc B l x C a0 h'->s.heap.UpToSlots h'->Q () {s with heap:=h'}):wpAny M A (setFlight (.ref x) f) Q E s:=by ext(⟨oe,vs,t,oT,ts,fl,he,hd,h1,hT,dT,h3,_,hp⟩:sJ T);ext(⟨⟨p1,p2,p3⟩,p4⟩:hp (f.elim Value.none λa=>rawInt a));unfold setFlight;show z9i (wpAny_field he hd h1 ?_);rw[if_pos (by simp)];show wpAny_setField hT dT (z6e.mp h3).1 (hQ _ ⟨p1,T.2.1,p2,_,p3⟩ p4)
def yL(hfr:A.frames=some (env::outer))(hf:env.frame=some L)(T:Trc B (env::outer) x C a0 s.heap)(hQ:∀h',Trc B (env::outer) x C a0 h'->s.heap.UpToSlots h'->Q () {s with heap:=h'}):wpAny M A (noteFrame (.ref x) env) Q E s:=by
 ext(⟨oe,vs,t,oT,ts,fl,he,hd,h1,hT,dT,h3,hw,hp⟩:sJ T);by_cases e:fl=rawInt L
 ·subst e
  show PySem.wpAny_noteFrame_againW hf hw (hQ s.heap T (Heap.UpToSlots.refl _))
 ·unfold noteFrame
  erw[hf];show z9i (wpAny_field he hd h1 ?_);rw[if_pos (by simp)];show z9i (wpAny_field hT dT h3 ?_);rw[if_neg (λz=>e (⇑z))];ext(⟨⟨p1,p2,oe',ws,t',oT',ts',he',⟨hc',h0'⟩,hd',h1',r⟩,p4⟩:hp .none);subst hc';show z9i (wpAny_setField hT dT (z6e.mp h3).1 (PySem.wpAny_entryW hfr p2 hf he' p1 T.2.1 hd' (z6e.mp h1').1 h0' λh' N=>?_));show hQ h' ⟨N.1,T.2.1,N.2.1,_,N.2.2.1⟩ (p4.trans N.2.2.2)
def HX(hfr:A.frames=some (env::outer))(hf:env.frame=some L)(T:Trc B (env::outer) x C a0 s.heap)(hQ:∀h',Heap.FlyingW B outer x C a0 h'->s.heap.UpToSlots h'->Q () {s with heap:=h'}):wpAny M A (leaving env (.ref x)) Q E s:=by unfold leaving;show z9i (yL hfr hf T λh1 T1 u1=>?_);ext(⟨k,n,fr,fl,t⟩:T1);show PySem.wpAny_setFlight_noneW (s:={s with heap:=h1}) k fr t λh' k1 k2 k3 k4=>hQ h' ⟨k1,n,k2.2.2,k3⟩ (u1.trans λb o hb hn=>⟨o.slots,k4 b o hb hn⟩)
end
noncomputable def bmV:j_:=[.type "ValueError",.type "Exception",.type "BaseException",.type "object"]
noncomputable def lN(K:K0)(x:Str):Option Addr:=match W.nsIn K mainGlobals x with
 |some (some (.ref C))=>some C
 |_=>none
def sK(K:K0)(C:Addr):Bool:=W.excIn K C bmV "ValueError.__new__" && W.findIn K (.ref C) "__class__"==some (some (.builtin "object.__class__")) &&
 W.findIn K (.ref C) "__getattribute__"==some (some (.builtin "BaseException.__getattribute__"))&&W.findIn K (.ref C) "__getattr__"==some none&&W.mroIn K C (.type "BaseException")==some true &&
 W.mroIn K C (.type "object")==some true&&W.mroIn K C (.type "ValueError")==some true&&W.isClsIn K C&&W.typeIn K (.ref C)==some (.type "type")&&W.keepIn K (.ref C)
def fE(K:K0):Bool:=match lN K "FareError" with
 |none=>false
 | some B=>W.isClsIn K B&&W.typeIn K (.ref B)==some (.type "type")&&W.instIn K (.ref B) (.type "tuple")==some false&&W.mroIn K B (.type "BaseException")==some true&&XS.all λx=>match lN K x with
   |none=>false
   | some C=>sK K C&&W.mroIn K C (.ref B)==some true&&XS.all λy=>match lN K y with
     |none=>false
     |some D=>W.mroIn K C (.ref D)==some (decide (x=y))&&(x==y||!(D==C))
def sL(h:lN K x=some C):W.nsIn K mainGlobals x=some (some (.ref C)):=by
 unfold lN at h
 set_option tactic.hygienic true in split at h
 ·rename_i e;ext h;show e
 ·ext h
structure XOne (K:K0) (C:Addr):Prop where
 exc:W.excIn K C bmV "ValueError.__new__"=true
 cls:W.findIn K (.ref C) "__class__"=some (some (.builtin "object.__class__"))
 ga:W.findIn K (.ref C) "__getattribute__"=some (some (.builtin "BaseException.__getattribute__"))
 hk:W.findIn K (.ref C) "__getattr__"=some none
 be:W.mroIn K C (.type "BaseException")=some true
 ob:W.mroIn K C (.type "object")=some true
 ve:W.mroIn K C (.type "ValueError")=some true
 is:W.isClsIn K C=true
 ty:W.typeIn K (.ref C)=some (.type "type")
 kp:W.keepIn K (.ref C)=true
def HZ(h:sK K C=true):XOne K C:=by unfold sK at h;erw[z8r,z7i]at h;ext(⟨⟨⟨⟨⟨⟨⟨⟨⟨h1,h2⟩,h3⟩,h4⟩,h5⟩,h6⟩,h7⟩,h8⟩,h9⟩,h10⟩:h);show⟨h1,h2,h3,h4,h5,h6,h7,h8,h9,h10⟩
structure XBase (K:K0) (B:Addr):Prop where
 ns:W.nsIn K mainGlobals "FareError"=some (some (.ref B))
 is:W.isClsIn K B=true
 ty:W.typeIn K (.ref B)=some (.type "type")
 nt:W.instIn K (.ref B) (.type "tuple")=some false
 be:W.mroIn K B (.type "BaseException")=some true
def jR(h:fE K=true):∃B,XBase K B/\∀x∈XS,∃C,W.nsIn K mainGlobals x=some (some (.ref C))/\XOne K C/\W.mroIn K C (.ref B)=some true /\
  ∀y∈XS,∃D,W.nsIn K mainGlobals y=some (some (.ref D))/\W.mroIn K C (.ref D)=some (decide (x=y))/\(x≠y->D≠C):=by
 unfold fE at h
 set_option tactic.hygienic true in split at h
 ·ext h
 ·rename_i B hB
  erw[z8r,z7i]at h;ext(⟨⟨⟨⟨h1,h2⟩,h3⟩,h4⟩,h5⟩:h);show⟨B,⟨sL hB,h1,h2,h3,h4⟩,λx hx=>?_⟩;have h6:=z9u.mp h5 x hx
  set_option tactic.hygienic true in split at h6
  ·ext h6
  ·rename_i C hC
   erw[z8r,z7i]at h6;ext(⟨⟨a1,a2⟩,a3⟩:h6);show⟨C,sL hC,HZ a1,a2,λy hy=>?_⟩;have h7:=z9u.mp a3 y hy
   set_option tactic.hygienic true in split at h7
   ·ext h7
   ·rename_i D hD
    erw[z8r,z7i]at h7;show⟨D,sL hD,h7.1,λne e=>?_⟩;ext((z|z):Bool.or_eq_true_iff.mp h7.2)
    ·show ne (z7i.mp z)
    ·rw[e]at z;simp at z
section
variable {x D:Addr}{g:Array GenState}{d:Drawn}{t:Nat}{os:OsState}{o:Obj}
theorem Ia(X:K.In h)(O:XOne K C)(hx:h.get? x=some o)(hc:o.cls=.ref C)(hq:R (.ok (.ret (.ref C))) ⟨h,g,d,t,os⟩):
  codeAny (model prog w) A (.call (.builtin "getset_descriptor.__get__") ⟨[.builtin "object.__class__",.ref x,.ref C],[]⟩) R ⟨h,g,d,t,os⟩:=by
 have hT5:(⟨h,g,d,t,os⟩:Shared).TypeIs (.builtin "object.__class__") "getset_descriptor":=z4m;have L1:W.Looks (model prog w) h (isSubtype (.ref C) (.type (".".intercalate ("object.__class__".cutAt '.').dropLast))) true:=by rw[F.owner_object_class];show z5r X O.ob
 show codeAny_call_builtin F.slot_gs_get.plain F.entry_gs_get (F.slot_gs_get.check _ _ _ _ _ _ _ _ hT5 (F.args_gs_get _ _ _) ?_)
 repeat (any_goals (first|assumption|(with_reducible show z5i hx ?_;rw[hc])|with_reducible show L1.at ?_|wp_step))
 show⟨Code.quiet_builtin _ (by decide +kernel),codeAny_builtin F.entry_object_class ?_⟩
 repeat (any_goals (first|assumption|(with_reducible show z5i hx ?_;rw[hc])|wp_step))
theorem Ib{M:Model}{nameV:Value}{Q:Unit->Shared->Prop}(X:K.In h)(O:XOne K C)(hx:h.get? x=some o)(hc:o.cls=.ref C)(hq:Q () ⟨h,g,d,t,os⟩):
  wpAny M A (checkBuiltinCall "BaseException.__getattribute__" ⟨[.ref x,nameV],[]⟩) Q E ⟨h,g,d,t,os⟩:=by
 have hk:builtinKind "BaseException.__getattribute__"=some .slot:=by decide +kernel
 have hsplit:splitId "BaseException.__getattribute__"=some ("BaseException","__getattribute__"):=by decide +kernel
 have L1:W.Looks M h (isSubtype (.ref C) (.type "BaseException")) true:=z5r X O.be;have ha:=F.args_bexc_ga (.ref x) nameV;erw[checkBuiltinCall,hk,hsplit];show z9i ?_
 ·unfold isInstance
  repeat (first|(with_reducible show z5i hx ?_;rw[hc])|with_reducible show L1.at ?_|wp_step)
  show hq
theorem Ic{tk:Tok}{Q:Fin->Shared->Prop}(X:K.In h)(O:XOne K C)(hx:h.get? x=some o)(hc:o.cls=.ref C)(hq:Q (.done (.ret (.ref C))) ⟨h,g,d,t,os⟩):
  wpAny (model prog w) A (Builtin.«object.__getattribute__» ⟨[.ref x,.str "__class__" tk],[]⟩) Q E ⟨h,g,d,t,os⟩:=by
 have hT5:(⟨h,g,d,t,os⟩:Shared).TypeIs (.builtin "object.__class__") "getset_descriptor":=z4m;have L1:=z5j (M:=model prog w) X O.cls;have f5:=z4m;have f6:=F.slot_gs_get.lookup;have f7:=F.slot_gs_set.lookup
 repeat (any_goals (first|assumption|(with_reducible show z5i hx ?_;rw[hc])|with_reducible show L1.at ?_|wp_step))
 show Ia X O hx hc ?_
 repeat (any_goals (first|assumption|wp_step))
theorem Id{tk:Tok}{Q:Value->Shared->Prop}(X:K.In h)(O:XOne K C)(hx:h.get? x=some o)(hc:o.cls=.ref C)(hq:Q (.ref C) ⟨h,g,d,t,os⟩):
  wpAny (model prog w) A (getAttrBy (.ref x) (.str "__class__" tk) false) Q E ⟨h,g,d,t,os⟩:=by
 have f3:=F.attrBase_ValueError.ga.bind (.ref x);have hx2:(Value.builtin "BaseException.__getattribute__"==Value.builtin "object.__getattribute__")=false:=by decide +kernel
 have hx1:(onTheHeap (Value.ref C)&&Value.builtin "BaseException.__getattribute__"==Value.builtin "object.__getattribute__")=false:=by rw[hx2];rfl
 have L1:=z5j (M:=model prog w) X O.ga;have L2:=z5j (M:=model prog w) X O.hk
 repeat (any_goals (first|assumption|(with_reducible show z5i hx ?_;rw[hc])|with_reducible show L1.at ?_|with_reducible show L2.at ?_|wp_step))
 show codeAny_call_builtin F.attrBase_ValueError.ga.plain F.entry_bexc_ga (Ib X O hx hc (Ic X O hx hc ?_))
 repeat (any_goals (first|assumption|wp_step))
def Ie{Q:u_->Shared->Prop}(X:K.In h)(O:XOne K C)(hx:h.get? x=some o)(hc:o.cls=.ref C)(hq:Q (some (.ref C)) ⟨h,g,d,t+1,os⟩):
  wpAny (model prog w) A (getAttr? (.ref x) "__class__") Q E ⟨h,g,d,t,os⟩:=by
 unfold getAttr? getAttrBy?
 repeat (any_goals (first|assumption|with_reducible apply Id X O hx hc|wp_step))
def oo{M:Model}(hx:h.get? x=some o)(hc:o.cls=.ref C):W.Looks M h (typeOf (.ref x)) (.ref C):=by intro A' Q' E' s' k q;unfold typeOf;show z9i (wpAny_loadPart (k _ _ hx) ?_);rw[hc];show z8a q
def sM{M:Model}(X:K.In h)(e:W.isClsIn K C=true):W.Looks M h (isType (.ref C)) true:=by
 unfold W.isClsIn W.clsIn at e
 set_option tactic.hygienic true in split at e
 ·rename_i c' d' cd' sl' ho
  intro A' Q' E' s' k q;unfold isType loadHead;show z9i (wpAny_loadPart (k _ _ (X _ _ ho)) (z8a q))
 ·ext e
open PySem.W in
def Ig{tk:Tok}{Q:Fin->Shared->Prop}(X:K.In s.heap)(O:XOne K C)(OD:XOne K D)(hx:∃o,s.heap.get? x=some o/\o.cls=.ref C)(ne:D≠C)(e:mroIn K C (.ref D)=some false)(hq:Q (.done (.ret (.bool false))) {s with toks:=s.toks+1}):
  wpAny (model prog w) A (Builtin.«isinstance.nested» ⟨[.ref x,.ref D,.int dep tk],[]⟩) Q E s:=by
 ext(⟨o,hx,hc⟩:hx);ext(⟨h0,g,d,tt,os⟩:s);have L0:=oo (M:=model prog w) hx hc;have hsub:Looks (model prog w) h0 (isSubtype (.ref C) (.ref D)) false:=looks_mroIn X e;have LI:Looks (model prog w) h0 (isInstance (.ref x) (.ref D)) false:=L0.andThen hsub;have hty:Looks (model prog w) h0 (typeOf (.ref D)) (.type "type"):=looks_typeIn X OD.ty;unfold Builtin.«isinstance.nested»;show z9i (L0.at ?_);rw[if_neg (λq=>ne (Value.ref.inj (z7i.mp q)).symm)];show z9i (hty.at ?_);rw[if_pos (by decide)]
 k_delta "plainIsInstance"
 show z9i (z9i ((sM X OD.is).at ?_));erw[z5o,z6f,z5h];show z9i (LI.at ?_);erw[z6f,z5h];show z9i (Ie X O hx hc ?_);show z9i ((sM X O.is).at ?_);erw[z5o,z6f,z5h];show z9i (wpAny_rule ?_);show hsub.at ?_
 first
  |show z8a hq
  |show z8a (z8a hq)
  |show z9i (z8a (z8a hq))
open PySem.W in
def Ih{tk:Tok}{Q:Fin->Shared->Prop}(X:K.In s.heap)(O:XOne K C)(hx:∃o,s.heap.get? x=some o/\o.cls=.ref C)(hq:Q (.done (.ret (.bool true))) s):
  wpAny (model prog w) A (Builtin.«isinstance.nested» ⟨[.ref x,.type "ValueError",.int dep tk],[]⟩) Q E s:=by
 ext(⟨o,hx,hc⟩:hx);ext(⟨h0,g,d,tt,os⟩:s);have L0:=oo (M:=model prog w) hx hc;have hsub:Looks (model prog w) h0 (isSubtype (.ref C) (.type "ValueError")) true:=looks_mroIn X O.ve;have LI:Looks (model prog w) h0 (isInstance (.ref x) (.type "ValueError")) true:=L0.andThen hsub;have hty:typeOf (.type "ValueError")=pure (.type "type"):=by kernel_rfl
 unfold Builtin.«isinstance.nested»;show z9i (L0.at ?_);rw[if_neg (λq=>by cases z7i.mp q)];show z9i (m:=typeOf (.type "ValueError")) (wpAny_of_eq hty ?_);rw[if_pos (by decide)]
 k_delta "plainIsInstance"
 show z9i (z9i (m:=isType (.type "ValueError")) (z8a (a:=true) ?_));erw[z5o,z6f,z5h];show z9i (LI.at ?_);erw[z3c]
 first
  |show z8a hq
  |show z8a (z8a hq)
  |show z9i (z8a (z8a hq))
def Ii{Q:Value->Shared->Prop}(X:K.In s.heap)(O:XOne K C)(OD:XOne K D)(hx:∃o,s.heap.get? x=some o/\o.cls=.ref C)(ne:D≠C)(e:W.mroIn K C (.ref D)=some false)(hq:Q (.bool false) {s with toks:=s.toks+1}):
  wpAny (model prog w) A (call (.builtin "isinstance") [.ref x,.ref D]) Q E s:=
 call_isinstance (S:=λ_ R s=>(K.In s.heap/\∃o,s.heap.get? x=some o/\o.cls=.ref C)/\R (.ok (.ret (.bool false))) {s with toks:=s.toks+1})
  (λ_ _ _ _ _ hs=>isinstance_outer (Ig hs.1.1 O OD hs.1.2 ne e hs.2) (by intro q;ext q)) ⟨⟨X,hx⟩,hq⟩
def Ij{Q:Value->Shared->Prop}(X:K.In s.heap)(O:XOne K C)(hx:∃o,s.heap.get? x=some o/\o.cls=.ref C)(hq:Q (.bool true) s):
  wpAny (model prog w) A (call (.builtin "isinstance") [.ref x,.type "ValueError"]) Q E s:=
 call_isinstance (S:=λ_ R s=>(K.In s.heap/\∃o,s.heap.get? x=some o/\o.cls=.ref C)/\R (.ok (.ret (.bool true))) s)
  (λ_ _ _ _ _ hs=>isinstance_outer (Ih hs.1.1 O hs.1.2 hs.2) (by intro q;ext q)) ⟨⟨X,hx⟩,hq⟩
def Ik{Q:Value->Shared->Prop}(X:K.In s.heap)(hx:∃o,s.heap.get? x=some o/\o.cls=.ref C)(hq:Q (.bool true) s):
  wpAny (model prog w) A (call (.builtin "isinstance") [.ref x,.ref C]) Q E s:=
 W.isi_call (t:=.ref C) X (λM=>let⟨_,h1,h2⟩:=hx;oo h1 h2) (by unfold W.isIn;simp) (by intro q;ext q) hq
end
noncomputable def i9(H:Hp)(a:Addr):Hp:=λb=>if b=a then none else H b
def yM{a:Addr}:i9 H a a=none:=by unfold i9;rw[if_pos rfl]
def Il{a:Addr}:Same (i9 H a) H:=λb u q=>by
 unfold i9 at q;split at q
 ·ext q
 ·show q
def oq{a:Addr}(h:H a=none):i9 (upd H a o) a=H:=by
 funext b;unfold i9;split
 ·rename_i e;rw[e,h]
 ·rename_i e;rw[aJ e]
def EXK(K:K0)(P:Hp)(EX:QX):XK:=λv c H=>∃(a:Addr) (nm:Str) (M:Sto) (C:Addr),v=.ref a/\c=some C/\W.nsIn K mainGlobals nm=some (some (.ref C))/\nm∈XS/\EX nm M/\Same P (PH (i9 H a) M)/\MOk K (i9 H a) M
structure OutX (X:Cx) (P:Hp) (EX:QX):Prop where
 made:∀(G_:p_) (σ:St) (H:Hp) (s:Shared) (x C:Addr) (h':Heap) (vs:j_),L2.Inv X G_ σ H s->Heap.MadeExcOf s.heap h' x (.ref C) vs->EXK X.K P EX (.ref x) (some C) (upd H x (dE x C))->X.xe (.ref x) {s with heap:=h'}
 pass:gg (CXN X.prog X.w) X (EXK X.K P EX)
 held:∀(G_:p_) (σ:St) (H:Hp) (s:Shared) (x C:Addr) (B:Heap) (a0:Value),L2.Inv X G_ σ H s->Trc B X.stack x (.ref C) a0 s.heap->H x=some (dE x C)->(∀b u,H b=some u->b≠x->B.get? b≠none)->(∀b o,X.s₀.heap.get? b=some o->b∉frs X.outer->B.get? b≠none)->EXK X.K P EX (.ref x) (some C) H->X.xe (.ref x) s
 ex0:X.ex=[]
 top:X.stack=X.env::X.outer/\X.env.frame=some X.env.locals
def Im{outer:List PySem.Env}{E:XK}{P0:Hp}(h:∀v c H',EXK K P0 EX v c H'->E v c H'):OutX (c4 (CXN P w) P w K mg base N qual scope f cd A outer s H E) P0 EX where
 made:=λG_ σ H1 s1 x C h' vs I m e=>HS (X:=c4 (CXN P w) P w K mg base N qual scope f cd A outer s H E) I m rfl rfl rfl (h _ _ _ e)
 pass:=λG_ σ H1 s1 e s2 I hc=>HU (X:=c4 (CXN P w) P w K mg base N qual scope f cd A outer s H E) I hc rfl rfl rfl λx C H2 _ _ z=>h _ _ _ z
 held:=λG_ σ H1 s1 x C B a0 I T hx c1 c2 e=>HX I.ok.frames rfl T λh' fl up=>sI (X:=c4 (CXN P w) P w K mg base N qual scope f cd A outer s H E) I hx fl up T.1 c1 c2 rfl (h _ _ _ e)
 ex0:=rfl
 top:=⟨rfl,rfl⟩
def twX(K:K0)(P:Hp)(n:Nat)(EX:QX)(t:NTS):TS:=λDe σ H=>∃ρ M Ew,EnvN K P n σ ρ H M/\t Ew ρ M/\LeE Ew (i7 K P n De)/\∀x M,Ew.ex x M->EX x M
abbrev MS(X:Cx)(P:Hp)(EX:QX)(st:Stmt)(t:NTS):Prop:=∀n,PS X st (twX X.K P n EX t)
structure YM (X:Cx) (P:Hp) (EX:QX) (st:Stmt) (t:NTS):Prop where
 h:MS X P EX st t
abbrev MSs(X:Cx)(P:Hp)(EX:QX)(st:n_)(t:NTS):Prop:=∀n,PSs X st (twX X.K P n EX t)
structure YMs (X:Cx) (P:Hp) (EX:QX) (st:n_) (t:NTS):Prop where
 h:MSs X P EX st t
def Io{t:TS}(h:PS X.nox st t):PS X st t:=λG_ s σ H D I hw=>z8o (h G_ s σ H D (I.wish _) hw) (λ_ _ q=>q.unwish) λ_ _ z=>False.elim z
def yN(X:K.In h)(e:W.excIn K C bmV "ValueError.__new__"=true):∃tl N nm qn bs hdct sn sub ab col dd k0 k1 k2 k3 k5 mN,
  h.get? C=some (excClassObj nm qn C N bs tl hdct sn sub ab col dd k0 k1 k2 k3 k5 "ValueError.__new__")/\h.Ns N mN/\mN "__init__"=none/\OwnTail h bmV tl:=by
 unfold W.excIn at e
 set_option tactic.hygienic true in split at e
 case h_2=>ext e
 case h_1 dd cd sl ho=>
 set_option tactic.hygienic true in split at e
 case h_2=>ext e
 case h_1 C1 tl k0 k1 k2 k3 n k5 hm hs=>
 erw[z8r,z7i,z4f]at e;ext(⟨⟨⟨⟨⟨e1,e2⟩,e3⟩,e4⟩,e5⟩,e6⟩:e);subst e1 e2;cases cd with
 | mk nm bs mro ns qn hd sn sub ab col del=>
   dsimp only at hm e3 e5 e6;subst hm e3;have hsl:sl=#[k0,k1,k2,k3,some (.builtin "ValueError.__new__"),k5]:=by
    cases sl with
    |mk l=>simp only at hs;rw[hs]
   subst hsl;show⟨tl,ns,nm,qn,bs,hd,sn,sub,ab,col,dd,k0,k1,k2,k3,k5,_,X _ _ ho,.of_isNs (W.isNs_of_in X e5),W.nsMap_none_of_in X e5 e6,W.tail_of_in X e4⟩
section
variable {P:Hp}{rest bs:n_}{t u:NTS}{np:Pos}
def bu(h:YS X.nox st t):YM X P EX st t:=⟨have h:=h.h;λn=>dA (Io (h P n)) λDe σ H z_=>by ext(⟨ρ,M,Ew,hE,ht,hl,_⟩:z_);show⟨ρ,M,Ew,hE,ht,hl⟩⟩
def bX:YMs X P EX [] sN:=⟨λn=>fv qg λDe σ H z_=>by ext(⟨ρ,M,Ew,hE,ht,hl,_⟩:z_);show hl.nx ρ M ht σ H hE⟩
def aY(h1:YM X P EX st t)(h2:YMs X P EX rest u):YMs X P EX (st::rest) (ai t u):=⟨have h1:=h1.h;have h2:=h2.h;λn=>fv (jh (h1 n) (h2 n)) λDe σ H ⟨ρ,M,Ew,hE,ht,hl,hx⟩=>⟨ρ,M,_,hE,ht,⟨λρ' M' h' σ' H' hE'=>⟨ρ',M',Ew,hE',h',hl,hx⟩,hl.bk,hl.ct,hl.rt⟩,hx⟩⟩
def b6(h1:YM X P EX st t):YMs X P EX [st] t:=⟨have h1:=h1.h;λn=>fv (kA (h1 n)) λDe σ H h=>h⟩
theorem bP(hc:YT X.nox c ka)(ha:YMs X P EX body t)(hb:YMs X P EX bs u):YM X P EX (.If c body bs pos) (aK ka t u):=⟨have hc:=hc.h;have ha:=ha.h;have hb:=hb.h;λn=>dA (qh (PT.nox hc) (ha n) (hb n)) λDe σ H ⟨ρ,M,Ew,hE,ht,hl,hx⟩=>⟨ρ,M,_,hE.q,ht,λk M1 hk H1 p1=>by
 cases k with
 |true=>show eo ⟨ρ,M1,Ew,hE.next p1,hk.1 rfl,hl,hx⟩
 |false=>show eh ⟨ρ,M1,Ew,hE.next p1,hk.2 rfl,hl,hx⟩⟩⟩
theorem cQ{j}(xt:fE X.K=true)(ho:OutX X P EX)(hc:X.calm=true<|>R0)(hg:Gl X x<|>R0)(hd:DB x<|>R1)(he:starEach [.Constant (.str m) j p2] X.env=(false,eval (.Constant (.str m) j p2) X.env)::starEach [] X.env<|>R0)(hpl:BT cpos [.Constant (.str m) j p2] X<|>R0):
  YM X P EX (.Raise (some (.Call (.Name x np) [.Constant (.str m) j p2] [] cpos)) none pos) (cB x):=⟨by
 intro n G_ s σ H De I ⟨ρ,M,Ew,hE,⟨hx,hex⟩,hl,hX⟩;ext(⟨B,XB,hall⟩:jR xt);ext(⟨C,hns,O,_,_⟩:hall x hx);have hm:X.mg x=some (.ref C):=z6v I.ok.mod.kin I.ok.mod.glob hns;ext(⟨tl,N,nm,qn,bs,hdct,sn,sub,ab,col,dd,k0,k1,k2,k3,k5,mN,hC,hN,hni,T⟩:yN I.ok.mod.kin O.exc);show wpAny_Raise_call_subT (C:=C) (nm:=nm) (q:=qn) (N:=N) (bs:=bs) (bm:=tl) (hdct:=hdct) (sn:=sn) (sub:=sub) (ab:=ab) (col:=col) (dd:=dd) (k0:=k0) (k1:=k1) (k2:=k2) (k3:=k3) (k5:=k5) (mN:=mN)
  F.excBase_ValueError (T.hasType (by decide)) (I.ok.hd hc) hpl hni (gK I hg hm ⟨rfl,?_⟩ hd)
 have hA:PA X [.Constant (.str m) j p2] (vH (tC (.str m)) mI):=bS gJ ca he;have h1:=hA cpos G_ s σ H (λws H'=>ws=[.str m]/\H'=H) I ⟨rfl,rfl⟩;rw[he]at h1 ⊢;show z4t (z8o h1 (λvs s2 h2=>?_) λ_ _ y=>y);ext(⟨ws,H2,I2,r2,rfl,rfl⟩:h2);show⟨rfl,?_,I2.bk _ _ hC,hN.keeps I2.bk,T.keeps I2.bk,λh' e hm'=>ho.made G_ σ _ s2 e C h' vs I2 hm' ?_⟩
 ·rw[<- r2.length,z6g];show(by decide:1<=16777216)
 ·have hn:H2 e=none:=by
   cases q:H2 e with
   |none=>rfl
   |some u=>ext(⟨o,q2⟩:jl (I2.hok e u q));rw[hm'.new]at q2;ext q2
  show⟨e,x,M,C,rfl,rfl,hns,hx,hX _ _ hex,by rw[oq hn];show hE.same,by rw[oq hn];show hE.q.ok⟩⟩
end
def Fl(X:Cx)(G_:p_)(σ:St)(E:XK)(e:Value)(s':Shared):Prop:=∃H1 s1,L2.Inv X G_ σ H1 s1/\CXN X.prog X.w X.stack H1 s1 E e s'
def PX(X:Cx)(e:Expr)(t:St->Hp->VK->XK->Prop):Prop:=
 ∀(G_:p_) (s:Shared) (σ:St) (H:Hp) (Q:VK) (E:XK),L2.Inv X G_ σ H s->t σ H Q E->wpAny (model X.prog X.w) X.A (eval e X.env) (EP X G_ σ Q) (Fl X G_ σ E) s
def twE(K:K0)(te:NEX):St->Hp->VK->XK->Prop:=λσ H Q E=>∃ρ M QW EX,EnvQ K σ ρ H M/\te ρ M QW EX/\(∀d M',QW d M'->∀v H',PostW K H M d v H' M'->Q v H')/\∀v c H',EXK K (PH H M) EX v c H'->E v c H'
abbrev NX(X:Cx)(e:Expr)(te:NEX):Prop:=PX X e (twE X.K te)
structure YX (X:Cx) (e:Expr) (t:NEX):Prop where
 h:NX X e t
def spE(K:K0)(T:NTX):Sp:=λvs H Q E=>∃ds M QW EX,Reps K (PH H M) vs ds/\MOk K H M/\T ds M QW EX/\(∀d M',QW d M'->∀v H',PostW K H M d v H' M'->Q v H')/\∀v c H',EXK K (PH H M) EX v c H'->E v c H'
def EXK.pre{P P':Hp}{v:Value}{c:Option Addr}(h:EXK K P' EX v c H)(e:Same P P'):EXK K P EX v c H:=by ext(⟨a,nm,M,C,h1,h2,h3,h4,h5,h6,h7⟩:h);show⟨a,nm,M,C,h1,h2,h3,h4,h5,e.trans h6,h7⟩
def EXK.post{P:Hp}{EX':QX}{v:Value}{c:Option Addr}(h:EXK K P EX v c H)(e:∀x M,EX x M->EX' x M):EXK K P EX' v c H:=by ext(⟨a,nm,M,C,h1,h2,h3,h4,h5,h6⟩:h);show⟨a,nm,M,C,h1,h2,h3,h4,e _ _ h5,h6⟩
def DefE(P:Program)(w:World)(K:K0)(mg:Str->u_)(base:Heap)(x:Str)(k:Nat)(ps:i_)(T:NTX):Prop:=
 ∃f fd,FnOk P w K mg base (CXN P w) k f fd ps (spE K T)/\mg x=some (.ref f)/\W.keepIn K (.ref f)=true/\Binds K fd ps []
def MetE(P:Program)(w:World)(K:K0)(mg:Str->u_)(base:Heap)(C:Addr)(m:Str)(k:Nat)(ps:i_)(T:NTX):Prop:=
 ∃f fd,FnOk P w K mg base (CXN P w) k f fd ps (spE K T)/\Meth K C m f/\Binds K fd ps []
def MakE(P:Program)(w:World)(K:K0)(mg:Str->u_)(base:Heap)(x:Str)(C:Addr)(k:Nat)(ps:i_)(T:NTX):Prop:=
 ∃f fd,FnOk P w K mg base (CXN P w) k f fd ps (spE K T)/\Mk K C f/\mg x=some (.ref C)/\Binds K fd ps []
section
variable {k:Nat}{T:NTX}
theorem DefE.mono(h:DefE P w K mg base x j ps T)(hk:j<=k<|>R1):DefE P w K mg base x k ps T:=let⟨f,fd,F,r⟩:=h;⟨f,fd,F.mono hk,r⟩
theorem MetE.mono(h:MetE P w K mg base C m j ps T)(hk:j<=k<|>R1):MetE P w K mg base C m k ps T:=let⟨f,fd,F,r⟩:=h;⟨f,fd,F.mono hk,r⟩
theorem MakE.mono(h:MakE P w K mg base x C j ps T)(hk:j<=k<|>R1):MakE P w K mg base x C k ps T:=let⟨f,fd,F,r⟩:=h;⟨f,fd,F.mono hk,r⟩
end
section
variable {k:Nat}{es:k_}{T:NTX}
theorem ou{E:XK}(F:FnOk X.prog X.w X.K X.mg X.base (CXN X.prog X.w) k f fd ps sp)(hr:Room k X.A)(hb:Binds X.K fd ps [])(I:L2.Inv X G_ σ H s)(r:Vals vs us)(h:sp vs H Q E):wpAny (model X.prog X.w) X.A (call (.ref f) us) (EP X G_ σ Q) (Fl X G_ σ E) s:=by
 have hl:(us++([]:j_)).length=ps.length:=by rw[z8w,<- r.length];show F.len _ _ _ _ h
 have hb':=hb s us I.kIn hl;rw[z8w]at hb';show wpAny_call (z5w (F.run X.A X.stack s H ⟨us,[]⟩ us vs Q E hr I.env0 hb' r h) λq s' hq=>?_);cases q with
 |error e=>show⟨H,s,I,hq⟩
 | ok fl=>
   cases fl with
   |ret u=>show I.after hq
   |next=>show False.elim hq
   |brk=>show False.elim hq
   |cont=>show False.elim hq
def sO{t:TA}{Q:B_->Hp->Prop}(ha:PA X.nox es t)(pos:Pos)(I:L2.Inv X G_ σ H s)(h:t σ H Q):wpAny (model X.prog X.w) X.A (spliced (backTo pos (starEach es X.env))) (AP X G_ σ Q) E s:=
 z8o (ha pos G_ s σ H Q (I.wish _) h) (λ_ _ z_=>by ext(⟨vs,H',I',r,q⟩:z_);show⟨vs,H',I'.unwish,r,q⟩) λ_ _ z=>False.elim z
def sP(ha:PE X.nox e t)(I:L2.Inv X G_ σ H s)(h:t σ H Q):wpAny (model X.prog X.w) X.A (eval e X.env) (EP X G_ σ Q) E s:=
 z8o (ha G_ s σ H Q (I.wish _) h) (λ_ _ z_=>by ext(⟨vs,H',I',r,q⟩:z_);show⟨vs,H',I'.unwish,r,q⟩) λ_ _ z=>False.elim z
def ia(d:DefE X.prog X.w X.K X.mg X.base x k ps T)(hr:Room k X.A)(ha:YA X.nox (a::es) tas)(hg:Gl X x<|>R0)(hdb:DB x<|>R1)(he:SE a es X<|>R0)(hpl:BT pos es X<|>R0):
  YX X (.Call (.Name x p) (a::es) [] pos) (fA T tas):=⟨by
 have ha:=ha.h;intro G_ s σ H Q E I ⟨ρ,M,QW,EX,hE,ht,hQ,hX⟩;ext(⟨f,fd,F,hm,hk,hb⟩:d);show z6s (gK I hg hm ?_ hdb);show z6t (h₀:=X.base) I.ok.mod.kin hk (cK (sO (Q:=λvs H1=>∃ds M1,PostWs X.K H M ds vs H1 M1/\T ds M1 QW EX) ha pos I ⟨ρ,M,_,hE,ht,λds M1 h1 vs H1 p1=>⟨ds,M1,p1,h1⟩⟩) λus s1 vs H1 I1 r ⟨ds,M1,p1,h1⟩=>⟨I1.kIn,?_⟩) he hpl;show ou F hr hb I1 r ⟨ds,M1,QW,EX,p1.rep,p1.ok,h1,λd M' hd v H' p'=>hQ d M' hd v H' ⟨p1.toPostT.trans p'.toPostT,p'.rep⟩,λv c H' z=>hX v c H' (z.pre p1.same)⟩⟩
def Ip(cl:Cls X.K C)(d:MetE X.prog X.w X.K X.mg X.base C m k ps T)(hr:Room k X.A)(ho:NE X.nox b tb)(ha:NA X.nox (a::es) tas)(hno:¬m∈ns)(hst:SE a es X)(hpl:BT pos es X)(ht:(eval (.Call (.Attribute b m ap) (a::es) [] pos) X.env=(do
   let ov <- eval b X.env
   standAt ap.atName
   let(f,first) <- holding [ov] (getMethod ov m pl)
   callWith pos f first (backTo pos (starEach (a::es) X.env)) (backToKw pos (keywordEach [] X.env))))<|>R0):
  NX X (.Call (.Attribute b m ap) (a::es) [] pos) (dW C ns T tb tas):=by
 intro G_ s σ H Q E I ⟨ρ,M,QW,EX,hE,hw,hQ,hX⟩;ext(⟨f,fd,F,hm,hb⟩:d);show z6u (pl:=pl) (b8 (sP (Q:=λv H1=>∃d M1,PostW X.K H M d v H1 M1/\∃q ds0,d=.ptr q/\M1 q=some (.ins C ns ds0)/\tas ρ M1 λds M2=>T (d::ds) M2 QW EX) ho I ⟨ρ,M,_,hE,hw,λd M1 h1 v H1 p1=>⟨d,M1,p1,h1⟩⟩) λu s1 v H1 I1 ru z_=>?_) ht;ext(⟨d,M1,p1,q,ds0,ed,hm1,h1⟩:z_);subst ed;have pr:=p1.rep;ext pr;ext(⟨dx,vs0,g1,gl,g2⟩:gw p1.ok hm1);obtain rfl:u=Value.ref q:=ru;show kE I1 g1 cl hm (jP hno) ?_;show z6t (first:=[.ref q]) (h₀:=X.base) I.ok.mod.kin hm.kp (cK (sO (Q:=λvs H2=>∃ds M2,PostWs X.K H1 M1 ds vs H2 M2/\T (.ptr q::ds) M2 QW EX) ha pos I1 ⟨ρ,M1,_,hE.next p1.toPostT,h1,λds M2 h2 vs H2 p2=>⟨ds,M2,p2,h2⟩⟩) λus s2 vs H2 I2 r ⟨ds,M2,p2,h2⟩=>⟨I2.kIn,?_⟩) hst hpl;have p12:=p1.toPostT.trans p2.toPostT;show ou (us:=.ref q::us) (vs:=.ref q::vs) F hr hb I2 (.cons rfl r) ⟨.ptr q::ds,M2,QW,EX,.cons (.ptr q) p2.rep,p2.ok,h2,λd M' hd v H' p'=>hQ d M' hd v H' ⟨p12.trans p'.toPostT,p'.rep⟩,λv c H' z=>hX v c H' (z.pre p12.same)⟩
def Iq(cl:Cls X.K C)(d:MetE X.prog X.w X.K X.mg X.base C m k ps T)(hr:Room k X.A)(ho:NE X.nox b tb)(hno:¬m∈ns)(ht:(eval (.Call (.Attribute b m ap) [] [] pos) X.env=(do
   let ov <- eval b X.env
   standAt ap.atName
   let(f,first) <- holding [ov] (getMethod ov m pl)
   callWith pos f first (backTo pos (starEach [] X.env)) (backToKw pos (keywordEach [] X.env))))<|>R0):
  NX X (.Call (.Attribute b m ap) [] [] pos) (dW C ns T tb aj):=by
 intro G_ s σ H Q E I ⟨ρ,M,QW,EX,hE,hw,hQ,hX⟩;ext(⟨f,fd,F,hm,hb⟩:d);show z6u (pl:=pl) (b8 (sP (Q:=λv H1=>∃d M1,PostW X.K H M d v H1 M1/\∃q ds0,d=.ptr q/\M1 q=some (.ins C ns ds0)/\aj ρ M1 λds M2=>T (d::ds) M2 QW EX) ho I ⟨ρ,M,_,hE,hw,λd M1 h1 v H1 p1=>⟨d,M1,p1,h1⟩⟩) λu s1 v H1 I1 ru z_=>?_) ht;ext(⟨d,M1,p1,q,ds0,ed,hm1,h1⟩:z_);subst ed;have pr:=p1.rep;ext pr;ext(⟨dx,vs0,g1,gl,g2⟩:gw p1.ok hm1);obtain rfl:u=Value.ref q:=ru;show kE I1 g1 cl hm (jP hno) ?_;show z3b (first:=[.ref q]) I1.kIn hm.kp (ou (us:=[.ref q]) (vs:=[.ref q]) F hr hb I1 (.cons rfl .nil) ⟨[.ptr q],M1,QW,EX,.cons (.ptr q) .nil,p1.ok,h1,λd M' hd v H' p'=>hQ d M' hd v H' ⟨p1.toPostT.trans p'.toPostT,p'.rep⟩,λv c H' z=>hX v c H' (z.pre p1.same)⟩)
theorem Ir{E:XK}(M:Mk X.K C f)(F:FnOk X.prog X.w X.K X.mg X.base (CXN X.prog X.w) k f fd ps sp)(hr:Room (k+1) X.A)(hb:Binds X.K fd ps [])(I:L2.Inv X G_ σ H s)(r:Vals vs us)(h:∀x dx,H x=none->H dx=none->dx≠x->sp (.ref x::vs) (upd (upd H dx (.own x)) x (.ins C dx [])) (λv H2=>v=.non/\Q (.ref x) H2) E):
  wpAny (model X.prog X.w) X.A (call (.ref C) us) (EP X G_ σ Q) (Fl X G_ σ E) s:=by
 have hq:=h (s.heap.objs.size+1) s.heap.objs.size (I.hok.fresh (Nat.le_succ _)) (I.hok.fresh (z9o _)) (z8n (Nat.lt_succ_self _));have I2:=Inv.made (C:=C) I;have r2:Vals (V.ref (s.heap.objs.size+1)::vs) (Value.ref (s.heap.objs.size+1)::us):=.cons rfl r;have hl:(Value.ref (s.heap.objs.size+1)::us++([]:j_)).length=ps.length:=by rw[z8w,<- r2.length];show F.len _ _ _ _ hq
 have hb':=hb _ (Value.ref (s.heap.objs.size+1)::us) I2.kIn hl;rw[z8w]at hb';show wpAny_call (vE (f:=f) I.kIn M.makes M.init (z7i.mp M.fn) (z5w (F.run _ X.stack _ _ ⟨Value.ref (s.heap.objs.size+1)::us,[]⟩ (Value.ref (s.heap.objs.size+1)::us) _ _ E (hr.make C us []) (I2.env0.make C us []) hb' r2 hq) λz s' hz=>?_));cases z with
 |error e=>show⟨_,_,I2,hz⟩
 | ok fl=>
   cases fl with
   |ret u=>ext(⟨v,H',I3,rv,ev,q3⟩:I2.after hz);subst ev;show⟨rv,⟨V.ref (s.heap.objs.size+1),H',I3,rfl,q3⟩⟩
   |next=>show False.elim hz
   |brk=>show False.elim hz
   |cont=>show False.elim hz
def Iu(d:MakE X.prog X.w X.K X.mg X.base x C k ps T)(hr:Room (k+1) X.A)(ha:YA X.nox (a::es) tas)(hg:Gl X x<|>R0)(hdb:DB x<|>R1)(he:SE a es X<|>R0)(hpl:BT pos es X<|>R0):
  YX X (.Call (.Name x p) (a::es) [] pos) (sk C T tas):=⟨by
 have ha:=ha.h;intro G_ s σ H Q E I ⟨ρ,M,QW,EX,hE,ht,hQ,hX⟩;ext(⟨f,fd,F,Mk',hm,hb⟩:d);show z6s (gK I hg hm ?_ hdb);show z6t (h₀:=X.base) I.ok.mod.kin Mk'.kp (cK (sO (Q:=λvs H1=>∃ds M1,PostWs X.K H M ds vs H1 M1/\∀a,M1 a=none->T (.ptr a::ds) (aD M1 a (.ins C [] [])) (λd M2=>d=.non/\QW (.ptr a) M2) EX) ha pos I ⟨ρ,M,_,hE,ht,λds M1 h1 vs H1 p1=>⟨ds,M1,p1,h1⟩⟩) λus s1 vs H1 I1 r ⟨ds,M1,p,h1⟩=>⟨I1.kIn,?_⟩) he hpl;show Ir Mk' F hr hb I1 r λq dx hq hdx ne=>?_
 have hqd:upd H1 dx (.own q) q=none:=by rw[aJ (Ne.symm ne)];show hq
 have s1:=bj hdx (.own q);have s2:=bj hqd (.ins C dx []);ext(⟨e1,e2⟩:fU (c:=.ins C [] []) (p.ok.up s1) hqd s2 bi ⟨rfl,[],rfl,rfl,.nil⟩);have pt:PostT X.K H1 M1 _ _:=(PostT.of p.ok s1).trans ⟨e1,e2⟩;show⟨.ptr q::ds,_,_,EX,.cons (.ptr q) (aT pt.same p.rep),e2,h1 q (p.ok.fresh hq),λd M' z_ v H' p'=>by ext(⟨hd,hq'⟩:z_);subst hd;have pr:=p'.rep;ext pr;show⟨rfl,hQ _ M' hq' _ H' ⟨(p.toPostT.trans pt).trans p'.toPostT,.ptr q⟩⟩,λv c H' z=>hX v c H' (z.pre (p.toPostT.trans pt).same)⟩⟩
end
section
variable {P:Hp}
def ow{t:St->Hp->VK->XK->Prop}{E:XK}(h:PX X e t)(ho:gg (CXN X.prog X.w) X E):PE X e λσ H Q=>t σ H Q E:=λG_ s σ H Q I hw=>z8o (h G_ s σ H Q E I hw) (λ_ _ z=>z) λe' s' z_=>by ext(⟨H1,s1,I1,hc⟩:z_);show ho G_ σ H1 s1 e' s' I1 hc
def yO(i:Nat)(ho:OutX X P EX)(hN:X.N.Nodup)(he:YX X a te)(hi:X.N[i]?=some x<|>R0)(hx:Loc X.env.scope x<|>R3)(hs:swapsWith a (some (.Name x p2)) pos.line X.env=pure false<|>R0)(hfn:X.fn x=true\/X.env.scope.names.lookup x=some .local<|>R3):YM X P EX (.Assign [.Name x p2] a pos) (jL i te):=⟨have he:=he.h;λn=>dA (ji hN hi hx (ow he ho.pass) hs hfn) λDe σ H z_=>by ext(⟨ρ,M,Ew,hE,ht,hl,hX⟩:z_);show⟨ρ,M,_,_,hE.q,ht,λd M1 h1 v H1 p1=>hl.nx _ M1 h1 _ H1 ((hE.next p1.toPostT).set p1.rep),λv c H' z=>(z.pre hE.same).post hX⟩⟩
def iT(ho:OutX X P EX)(he:YX X a te):YM X P EX (.Return (some a) pos) (fB te):=⟨have he:=he.h;λn=>dA (gL (ow he ho.pass)) λDe σ H z_=>by ext(⟨ρ,M,Ew,hE,ht,hl,hX⟩:z_);show⟨ρ,M,_,_,hE.q,ht,λd M1 h1 v H1 p1=>hl.rt d M1 h1 v H1 (hE.same.trans p1.same) p1.ok p1.rep,λv c H' z=>(z.pre hE.same).post hX⟩⟩
end
def Iv{k:Nat}{body:NTS}{T:NTX}(h1:ps.length=np)(h2:N.length=n)(h3:T=mkX np n body)(Fn:Fun K x qual st f fd)(S:FnScope N ps (aN st))(h:∀(cdv:Value) (A:Around) (outer:List PySem.Env) (s:Shared) (H:Hp) (E:XK) (PP:Hp) (EX:QX),Room k (A.deeper (envOfC qual (aN st) s.heap.objs.size f cdv))->OutX (c4 (CXN P w) P w K mg base N qual (aN st) f cdv A outer s H E) PP EX ->
   MSs (c4 (CXN P w) P w K mg base N qual (aN st) f cdv A outer s H E) PP EX (cy st) body):
  FnOk P w K mg base (CXN P w) (k+1) f fd ps (spE K T):=by
 subst h1 h2 h3;have hpl:ps.length<=N.length:=by have:=z7d List.length S.pre;rw[z8f]at this;ext
 ext(⟨oc,od,kV,doc,pm,an,cdv,ct,osl,rfl,lk,hcd⟩:Fn.ex);show vP lk hcd S (λvs H Q E h=>?_) λA outer s H vs Q E hr h'=>?_
 ·ext(⟨ds,M,QW,EX,r,_,hg,_⟩:h)
  rw[r.length,hg.1]
 ·ext(⟨ds,M,QW,EX,r,hok,⟨hl,ht⟩,hQ,hX⟩:h')
  have lv:=r.length;show⟨_,h cdv A outer s H E (PH H M) EX hr (Im hX) N.length,ds.map some++List.replicate (N.length-ps.length) none,M,_,⟨⟨λi d q=>?_,hok⟩,Same.refl _,?_,?_⟩,ht,⟨λρ M' hn σ' H' hE=>?_,λρ M' hn=>hn.elim,λρ M' hn=>hn.elim,λd M' hd v H' e1 e2 e3=>?_⟩,λ_ _ z=>z⟩
  ·have get:ds[i]?=some d:=by
    by_cases hi:i<ds.length
    ·rw[z8c (⇑hi),z9x]at q
     cases e:ds[i]? with
     |none=>rw[e]at q;ext q
     |some z=>rw[e]at q;simpa using q
    ·rw[z9z (⇑hi),z7j]at q
     split at q<;>ext q
   ext(⟨v,h2,h3⟩:r.get get);show⟨v,?_,h3⟩;unfold L2.start;have hi:i<vs.length:=(z9e.mp h2).1;rw[z8c (⇑hi),z9x,h2];rfl
  ·change(L2.start N vs).length=N.length
   unfold L2.start;rw[z9f,z9a,z9y];ext
  ·rw[z9f,z9a,z9y]
   ext
  ·show hQ _ M' hn _ H' ⟨⟨hE.same,hE.q.ok⟩,.non⟩
  ·show hQ d M' hd v H' ⟨⟨e1,e2⟩,e3⟩
section
variable {x:Addr}
def ox(I:L2.Inv X G_ σ H s)(hx:H x=some (dE x C))(hst:B.StaysIn s.heap)(hB:B.StaysIn h')(hth:∃o,h'.get? x=some o/\o.cls=.ref C)(hup:s.heap.UpToSlots h')(c1:∀b u,H b=some u->b≠x->B.get? b≠none)(c2:∀b o,X.s₀.heap.get? b=some o->b∉frs X.outer->B.get? b≠none)(c3:∀p∈X.pn++G_,B.get? p.1≠none)(hex:X.ex=[]):L2.Inv X G_ σ H {s with heap:=h'}:=by
 have same:∀{b:Addr} {o:Obj},B.get? b≠none->s.heap.get? b=some o->h'.get? b=some o:=λ{b o} n e=>by
  cases q:B.get? b with
  |none=>show absurd q n
  |some o'=>have h1:=hst b o' q;have h2:=hB b o' q;rw[e]at h1;ext h1;show h2
 have nx:∀b:Addr,b∉X.ex:=λb z=>by rw[hex]at z;ext z
 have fr:∀b o,s.heap.get? b=some o->b∈frs X.outer->∃sl,h'.get? b=some {o with slots:=sl}:=λb o e hb=>by ext(⟨_,o0,ho0,hd0⟩:I.ok.funs.mem hb);ext(⟨sl,q⟩:I.base.slot b o0 ho0 (I.ok.frf b hb) hb (nx b));rw[e]at q;ext q;show hup b _ e hd0
 have cellK:∀c v,s.heap.IsCell c v->h'.IsCell c v:=λc v z_=>by ext(⟨o,ho,hd⟩:z_);ext(⟨sl,q⟩:hup c o ho (λvs z=>by rw[hd]at z;ext z));show⟨_,q,hd⟩
 show⟨I.ok,I.os,I.bare,⟨λb o e n hb _=>?_,λb o e n hb _=>?_,λb o e n _=>I.base.free b o e n (nx b),λb o e _=>?_,I.base.tups,I.base.frzs,I.base.tbls⟩,?_,λy c e=>?_,I.free,I.freeC,λp hp=>?_,λb u e=>?_,I.len⟩
 ·show same (c2 b o e hb) (I.base.keep b o e n hb (nx b))
 ·ext(⟨sl,q⟩:I.base.slot b o e n hb (nx b))
  ext(⟨sl2,q2⟩:fr b _ q hb);show⟨sl2,q2⟩
 ·ext(⟨o',q⟩:I.base.there b o e (nx b))
  by_cases hb:b∈frs X.outer
  ·ext(⟨sl,q2⟩:fr b o' q hb)
   show⟨_,q2⟩
  ·show⟨o',same (c2 b o e hb) q⟩
 ·ext(⟨m,hn,hl⟩:I.loc)
  show⟨m,hup.ns hn,λi y v e1 e2 e3=>?_⟩;ext(⟨u,r,l⟩:hl i y v e1 e2 e3);show⟨u,r,?_⟩;ext((l|⟨k,c,e,z⟩):l)
  ·show .inl l
  ·show .inr ⟨k,c,e,cellK c _ z⟩
 ·ext(⟨v,z⟩:I.cell y c e)
  show⟨v,cellK c v z⟩
 ·ext(⟨e,r⟩:I.pin p hp)
  show⟨same (c3 p hp) e,r⟩
 ·by_cases hb:b=x
  ·subst hb
   rw[hx]at e;ext e;show sH hth
  ·show(I.hok b u e).stay (λc v hc q=>?_) (λ_ q=>q) λ_ _ q=>q
   have:H c≠none/\c≠x:=by
    ext((rfl|hc):hc)
    ·show⟨by rw[e];show(λz=>nomatch z),hb⟩
    ·show⟨by rw[hc];show(λz=>nomatch z),λz=>by rw[z,hx]at hc;ext hc⟩
   cases hq:H c with
   |none=>show absurd hq this.1
   |some u'=>show same (c1 c u' hq this.2) q
def Iw{n:Str}{m:Str->u_}{v:u_}(I:L2.Inv X G_ σ H s)(hN:X.N.Nodup)(hi:X.N[i]?=some n)(hn:s.heap.Ns X.env.locals m)(hn':h'.Ns X.env.locals λy=>if y=n then v else m y)(hs:Heap.SameBut X.env.locals s.heap h'):L2.Inv X G_ (σ.set i none) H {s with heap:=h',toks:=t'}:=by
 ext(⟨oL,_,_,hoL,_⟩:id hn);have hb0:∀b o,X.s₀.heap.get? b=some o->b≠X.env.locals:=λb o e=>z8n (z9v (z9n e) I.ok.above)
 show⟨I.ok,I.os,I.bare,⟨λb o e n hb hx=>?_,λb o e n hb hx=>?_,I.base.free,λb o e hx=>?_,I.base.tups,I.base.frzs,I.base.tbls⟩,⟨_,hn',λj y v' e1 e2 e3=>?_⟩,λy c e=>?_,I.free,I.freeC,λp hp=>?_,λb u e=>?_,⇑I.len⟩
 ·show(hs.2 b (hb0 b o e)).trans (I.base.keep b o e n hb hx)
 ·ext(⟨sl,e1⟩:I.base.slot b o e n hb hx)
  show⟨sl,(hs.2 b (hb0 b o e)).trans e1⟩
 ·ext(⟨o',e1⟩:I.base.there b o e hx)
  show⟨o',(hs.2 b (hb0 b o e)).trans e1⟩
 ·by_cases hj:j=i
  ·subst hj
   have hl:j<σ.length:=by rw[I.len];show(z9e.mp hi).1
   rw[z9s hl]at e2;ext e2
  ·rw[z9h (Ne.symm hj)]at e2
   ext(⟨m1,hn1,hl1⟩:I.loc);ext(⟨u',r',q⟩:hl1 j y v' e1 e2 e3);show⟨u',r',?_⟩;rcases q with⟨k,e⟩|⟨k,c,e,z⟩
   ·show .inl ⟨k,?_⟩
    have ne:y≠n:=λe=>hj (qe hN e1 (e▸hi))
    erw[ne,z5h];ext(⟨o1,es1,ep1,a1,a2,a3,a4⟩:hn1);ext(⟨o2,es2,ep2,b1,b2,b3,b4⟩:hn);rw[a1]at b1;ext b1;rw[a2]at b2;ext b2;rw[<- b4,a4,e]
   ·show .inr ⟨k,c,e,z.sameBut hs (I.cne y c e)⟩
 ·ext(⟨w',z⟩:I.cell y c e)
  show⟨w',z.sameBut hs (I.cne y c e)⟩
 ·ext(⟨e,n,ne,nf,d⟩:I.pin p hp)
  show⟨(hs.2 p.1 ne).trans e,n,ne,nf,d⟩
 ·show(I.hok b u e).stay (λc w' hc q=>(hs.2 c ?_).trans q) (λ_ q=>q) λ_ _ q=>q
  rintro rfl;ext((rfl|hc):hc)
  ·rw[I.free]at e;ext e
  ·rw[I.free]at hc;ext hc
def Ix{M:Model}{B:Addr}{Q:Bool->Shared->Prop}(kin:K.In s.heap)(XB:XBase K B)(e:W.mroIn K C (.ref B)=some true)(hx:∃o,s.heap.get? x=some o/\o.cls=.ref C)(hq:Q true s):
  wpAny M A (excMatches (.ref x) (.ref B)) Q E s:=by
 ext(⟨o,hx,hc⟩:hx);unfold excMatches;show z9i ((W.looks_instIn kin XB.nt).at ?_);erw[z6f,z5h];show z9i (z8a ?_);have L1:W.Looks M s.heap (isExcClass (.ref B)) true:=by intro A' Q' E' s' k q;unfold isExcClass;show z9i (sM kin XB.is _ _ _ _ k ?_);erw[z3c];show z5r kin XB.be _ _ _ _ k q
 erw[List.forIn_cons,List.forIn_nil];show z9i (z9i (z9i (L1.at ?_)));erw[z5o,z6f,z5h];show z8a ?_;show z8a ?_;show z9i ((oo hx hc).at ?_);show z9i (z9i (z9i ((z5r kin e).at ?_)));erw[z3c];show z8a ?_;show z8a ?_;show z8a hq
def yP{e:Value}(I:L2.Inv X G_ σ H s):L2.Inv {X with A:=X.A.mark (some e),calm:=false,xe:=λ_ _=>False} G_ σ H s:=
 ⟨⟨I.ok.mod,I.ok.kind,I.ok.glob,I.ok.blt,I.ok.above,I.ok.inj,I.ok.has,I.ok.cab,(λz=>nomatch z),I.ok.frames,I.ok.stk,I.ok.exf,I.ok.bs,I.ok.bsz,I.ok.noex,I.ok.exfs,I.ok.funs,I.ok.frf⟩,I.os,I.bare,I.base,I.loc,I.cell,I.free,I.freeC,I.pin,I.hok,I.len⟩
def Iy{e:Value}(I0:L2.Inv X G_ σ H s){σ1:St}(I:L2.Inv {X with A:=X.A.mark (some e),calm:=false,xe:=λ_ _=>False} G_ σ1 H1 s1):L2.Inv X G_ σ1 H1 s1:=
 ⟨I0.ok,I.os,I.bare,I.base,I.loc,I.cell,I.free,I.freeC,I.pin,I.hok,I.len⟩
def Iz{E:XK}{e:Value}{D:Ends}{E0:Value->Shared->Prop}{cn n:Str}{c:Nat}(xt:fE X.K=true)(hN:X.N.Nodup)(hc:X.N[c]?=some cn)(hj:X.N[j]?=some n)(hcj:c≠j)(lc:X.env.scope.names.lookup cn=some .local)(lj:X.env.scope.names.lookup n=some .local)(kj:X.env.kindOf n=some .local)(hg:Gl X "FareError")(hst:X.stack=X.env::X.outer)(hfr:X.env.frame=some X.env.locals)(hex:X.ex=[])(hdb:DB n)(hcd:(n==("__classdict__" : Str))=false)(hsw:swapsWith (.Name n pn) (some (.Name cn pc)) pa.line X.env=pure false)(hF:Fl X G_ σ E e s')(hD:∀x C H2,H2 x=some (dE x C)->E (.ref x) (some C) H2->(∃nm∈XS,W.nsIn X.K mainGlobals nm=some (some (.ref C)))/\D.nx ((σ.set j none).set c (some (.ref x))) H2):
  wpAny (model X.prog X.w) X.A (noteFrame e X.env) (λ_ s2=>wpAny (model X.prog X.w) X.A (setFlight e none) (λ_ s3=>wpAny (model X.prog X.w) X.A (handleBy e X.env [.ExceptHandler (some (.Name "FareError" pf)) (some n) [.Assign [.Name cn pc] (.Name n pn) pa] ph]) (SP X G_ D) E0 s3) E0 s2) E0 s':=by
 ext(⟨H1,s1,I,x,C,H2,B,a0,rfl,os,bare,un,hok,hfl,c1,c2,hx,hE1⟩:hF);ext(⟨hh,g,d,t,os'⟩:s');obtain rfl:os'=s1.os:=os;have I2:L2.Inv X G_ σ H2 {s1 with heap:=hh,gens:=g,drawn:=d,toks:=t}:=I.call (h':=hh) (g':=g) (d':=d) (t':=t) (ch:=[]) un hok bare (λb z=>absurd z (by simp));ext(⟨⟨nm,hnm,hns⟩,hnx⟩:hD x C H2 hx hE1);ext(⟨B0,XB,hall⟩:jR xt);ext(⟨C',hns',O,hmro,_⟩:hall nm hnm);rw[hns]at hns';obtain rfl:C=C':=by ext hns';rfl
 have hmB:X.mg "FareError"=some (.ref B0):=z6v I.ok.mod.kin I.ok.mod.glob XB.ns;have hfl':Heap.FlyingW B (X.env::X.outer) x (.ref C) a0 hh:=by rw[<- hst];show hfl
 have c2':∀b o,X.s₀.heap.get? b=some o->b∉frs X.outer->B.get? b≠none:=λb o e hb=>by
  ext(⟨o',q⟩:I.base.there b o e (by rw[hex];show λz=>nomatch z));show c2 b o' q λz=>?_
  rcases z9g.mp (I.stkSub b z)with e1|e1
  ·have:=I.ok.above
   rw[<- e1]at this;show absurd (z9v (z9n e) this) (z7v _)
  ·show hb e1
 have c3:∀p∈X.pn++G_,B.get? p.1≠none:=λp hp=>by
  ext(⟨e,_,ne,nf,_⟩:I.pin p hp);show c2 p.1 p.2 e λz=>?_
  rcases z9g.mp (I.stkSub _ z)with e1|e1
  ·show ne e1
  ·show nf e1
 show PySem.wpAny_looks_onW (by rw[<- hst];show I.ok.frames) hfr hfl' λh3 q3 u3=>?_
 show PySem.wpAny_landsW q3 λh4 q4 u4=>?_
 have u34:=u3.trans u4;have I4:L2.Inv X G_ σ H2 {s1 with heap:=h4,gens:=g,drawn:=d,toks:=t}:=ox (s:={s1 with heap:=hh,gens:=g,drawn:=d,toks:=t}) I2 hx hfl'.1 q4.1 q4.there u34 c1 c2' c3 hex;show wpAny_handleBy_cons (codeAny_handlers_test ?_) (λz=>nomatch z);show gK (yP (e:=.ref x) I4) hg hmB ?_;show Ix I4.kIn XB hmro q4.there ?_;show codeAny_handlers_suite_as ?_;show lands_againW q4 λh5 q5 u5=>?_
 have I5:L2.Inv X G_ σ H2 {s1 with heap:=h5,gens:=g,drawn:=d,toks:=t}:=ox (s:={s1 with heap:=h4,gens:=g,drawn:=d,toks:=t}) I4 hx q4.1 q5.1 q5.there u5 c1 c2' c3 hex;show mD I5 hN hj (.inl lj) (v:=.ref x) rfl (λs6 I6=>?_) (.inr lj);have hj':j<σ.length:=by rw[I5.len];show(z9e.mp hj).1
 have P:=kA (ji (X:={X with A:=X.A.mark (some (.ref x)),calm:=false,xe:=λ_ _=>False}) hN hc (.inl lc) (gf (pos:=pn) hj (.inl lj) hdb hcd) hsw (.inr lc)) G_ s6 _ H2 ⟨λσ7 H7=>σ7=(σ.set j (some (.ref x))).set c (some (.ref x))/\H7=H2,λ_ _=>False,λ_ _=>False,λ_ _=>False⟩ (yP (e:=.ref x) I6) ⟨.ref x,z9s hj',rfl,rfl⟩;show z8o P (λf s7 h7=>?_) λ_ _ z=>False.elim z
 cases f with
 |brk=>ext(⟨_,_,_,z⟩:h7);show z.elim
 |cont=>ext(⟨_,_,_,z⟩:h7);show z.elim
 |ret v=>ext(⟨_,_,_,_,_,z⟩:h7);show z.elim
 | next=>
   ext(⟨σ7,H7,I7,rfl,rfl⟩:h7);have I7:=Iy I6 I7;ext(⟨m,hn,_⟩:id I7.loc);show wpAny_nameGoes_keeps kj hn (by rw[I.ok.kind];rfl) λh8 v hn8 hs8=>?_
   have I8:=Iw (t':=s7.toks+1) I7 hN hj hn hn8 hs8;show⟨_,_,I8,?_⟩;rw[List.set_comm _ _ hcj,List.set_set];show hnx
end
section
variable {cn n:Str}
def EnvN.gone{P:Hp}{m:Nat}(h:EnvN K P m σ ρ H M):EnvN K P m (σ.set j none) (ρ.set j none) H M:=
 ⟨⟨λk e q=>by
   by_cases e1:k=j
   ·subst e1
    have hl:k<ρ.length:=by have:=(z9e.mp q).1;simpa using this
    rw[z9s hl]at q;ext q
   ·rw[z9h (Ne.symm e1)]at q
    ext(⟨v',h1,h2⟩:h.q.env k e q);show⟨v',by rw[z9h (Ne.symm e1)];show h1,h2⟩,h.q.ok⟩,h.same,by rw[z8h];show h.lσ,by rw[z8h];show h.lρ⟩
def IC{P:Hp}{m:Nat}{c:Nat}{y:Addr}(hE:EnvN K P m σ ρ H M)(hl:LeE Ew (i7 K P m De))(hy:H2 y=some (dE y C))(h:EXK K (PH H M) (λx M1=>∀a,M1 a=none->Ew.nx ((ρ.set j none).set c (some (.ptr a))) (aD M1 a (.exn a x))) (.ref y) (some C) H2):
  (∃nm∈XS,W.nsIn K mainGlobals nm=some (some (.ref C)))/\De.nx ((σ.set j none).set c (some (.ref y))) H2:=by
 ext(⟨b,nm,M1,C1,e1,e2,hns,hxs,hex,hsame,hok⟩:h);obtain rfl:y=b:=by ext e1;rfl
 obtain rfl:C=C1:=by ext e2;rfl
 show⟨⟨nm,hxs,hns⟩,?_⟩;ext(⟨s1,ok1⟩:fU (c:=.exn y nm) hok yM Il hy ⟨C,rfl,hns⟩);show hl.nx _ _ (hex y (hok.fresh yM)) _ _ (((hE.next ⟨hsame.trans s1,ok1⟩).gone (j:=j)).set (.ptr y))
def ID(i c j:Nat)(xt:fE X.K=true)(hN:X.N.Nodup)(he:YX X a te)(hi:X.N[i]?=some x<|>R0)(hx:Loc X.env.scope x<|>R3)(hs:swapsWith a (some (.Name x p2)) p3.line X.env=pure false<|>R0)(hfn:X.fn x=true\/X.env.scope.names.lookup x=some .local<|>R3)(hc:X.N[c]?=some cn<|>R0)(hj:X.N[j]?=some n<|>R0)(hcj:c≠j<|>R1)(lc:X.env.scope.names.lookup cn=some .local<|>R0)(lj:X.env.scope.names.lookup n=some .local<|>R0)(kj:X.env.kindOf n=some .local<|>R0)(hg:Gl X "FareError"<|>R0)(hst:X.stack=X.env::X.outer<|>R0)(hfr:X.env.frame=some X.env.locals<|>R0)(hex:X.ex=[]<|>R0)(hdb:DB n<|>R1)(hcd:(n==("__classdict__" : Str))=false<|>R1)(hsw:swapsWith (.Name n pn) (some (.Name cn pc)) pa.line X.env=pure false<|>R0):
  YS X (.Try [.Assign [.Name x p2] a p3] [.ExceptHandler (some (.Name "FareError" pf)) (some n) [.Assign [.Name cn pc] (.Name n pn) pa] ph] [] [] pos) (sm c j (jL i te)):=⟨by
 have he:=he.h;intro P m G_ s σ H De I ⟨ρ,M,Ew,hE,ht,hl⟩;show wpAny_Try_except (z8o (wpAny_execs_cons (wpAny_Assign_Name (b8 (he G_ s σ H (λv H1=>∃d M1,PostW X.K H M d v H1 M1/\Ew.nx (ρ.set i (some d)) M1) _ I ⟨ρ,M,_,_,hE.q,ht,λd M1 h1 v H1 p1=>⟨d,M1,p1,h1⟩,λv c H' z=>z⟩) λv s1 y H1 I1 r1 ⟨d,M1,p1,h1⟩=>?_) hs)) (λf s1 h1=>h1) λe s1 hF=>?_)
 ·show mD I1 hN hi hx r1 (λs2 I2=>z5s (z5s ⟨_,H1,I2,hl.nx _ M1 h1 _ H1 ((hE.next p1.toPostT).set p1.rep)⟩)) hfn
 ·show Iz xt hN hc hj hcj lc lj kj hg hst hfr hex hdb hcd hsw hF λy C H2 hy z=>IC hE hl hy z⟩
end
section
variable {y f:Str}
def yQ{q:Addr}{nm:Str}(h:MOk K H M)(ha:M q=some (.exn q nm)):∃C,H q=some (dE q C)/\W.nsIn K mainGlobals nm=some (some (.ref C)):=by
 ext(⟨o,h1,h2⟩:h q _ ha);cases o with
 |ext φ=>ext(⟨C,rfl,hn⟩:h2);show⟨C,h1,hn⟩
 |_=>show h2.elim
def yR{q:Addr}(hok:HOk P w H h)(e:H q=some (dE q C)):∃o,h.get? q=some o/\o.cls=.ref C:=(hok q _ e).1
def IE(xt:fE X.K=true):cX X (.builtin "isinstance") (λxs H Q=>∃q C D nm y,xs=[.ref q,.ref D]/\H q=some (dE q C)/\nm∈XS/\y∈XS/\W.nsIn X.K mainGlobals nm=some (some (.ref C))/\W.nsIn X.K mainGlobals y=some (some (.ref D))/\Q (.bl (decide (nm=y))) H):=by
 intro G_ s σ H xs us Q I r h;ext(⟨q,C,D,nm,y,rfl,hq,hnm,hy,n1,n2,hQ⟩:h);ext(⟨u,w,rfl,ru,rw'⟩:jm r);ext ru;ext rw';have th:=yR I.hok hq;ext(⟨B,XB,hall⟩:jR xt);ext(⟨C',m1,O,_,h2⟩:hall nm hnm);rw[n1]at m1;obtain rfl:C=C':=by ext m1;rfl
 ext(⟨D',m2,hm,hne⟩:h2 y hy);rw[n2]at m2;obtain rfl:D=D':=by ext m2;rfl
 ext(⟨D',m3,OD,_,_⟩:hall y hy);rw[n2]at m3;obtain rfl:D=D':=by ext m3;rfl
 by_cases e:nm=y
 ·subst e
  rw[n1]at n2;obtain rfl:C=D:=by ext n2;rfl
  show Ik I.kIn th ⟨.bl _,H,I,?_,hQ⟩;rw[z8p rfl];rfl
 ·rw[z8u e]at hm hQ
  show Ii I.kIn O OD th (hne e) hm ⟨.bl false,H,I.tok _,rfl,hQ⟩
def IF(xt:fE X.K=true):cX X (.builtin "isinstance") (λxs H Q=>∃q C nm,xs=[.ref q,.ty "ValueError"]/\H q=some (dE q C)/\nm∈XS/\W.nsIn X.K mainGlobals nm=some (some (.ref C))/\Q (.bl true) H):=by
 intro G_ s σ H xs us Q I r h;ext(⟨q,C,nm,rfl,hq,hnm,n1,hQ⟩:h);ext(⟨u,w,rfl,ru,rw'⟩:jm r);ext ru;ext rw';ext(⟨B,XB,hall⟩:jR xt);ext(⟨C',m1,O,_,h2⟩:hall nm hnm);rw[n1]at m1;obtain rfl:C=C':=by ext m1;rfl
 show Ij I.kIn O (yR I.hok hq) ⟨.bl true,H,I,rfl,hQ⟩
def fW(xt:fE X.K=true)(mi:X.mg "isinstance"=none)(ha:YE X a ta)(hy:y∈XS<|>R5)(hg:Gl X "isinstance"<|>R0)(hgT:Gl X y<|>R0)(hd:DB y<|>R1)(hs:SE a [.Name y p2] X<|>R0)(hs2:starEach [.Name y p2] X.env=(false,eval (.Name y p2) X.env)::starEach [] X.env<|>R0)(hpl:BT pos [.Name y p2] X<|>R0):
  YE X (.Call (.Name "isinstance" p) [a,.Name y p2] [] pos) (eQ y ta):=⟨by
 have ha:=ha.h;intro G_ s σ H Q I ⟨ρ,M,QW,hE,ht,hQ⟩;ext(⟨B,XB,hall⟩:jR xt);ext(⟨D,n2,_⟩:hall y hy);have hm:X.mg y=some (.ref D):=z6v I.ok.mod.kin I.ok.mod.glob n2;show kF (IE xt) hg mi (by decide +kernel) (bS ha (bS (qf (v:=.ref D) hgT hm rfl hd) ca hs2) hs) (by decide) (by decide) hs hpl G_ s σ H Q I ⟨ρ,M,_,hE,ht,λd M1 z_ v H1 p1=>?_⟩;ext(⟨q,nm,ed,hc,hnm,h1⟩:z_);subst ed;cases p1.rep;ext(⟨C,g1,g2⟩:yQ p1.ok hc);show⟨q,C,D,nm,y,rfl,g1,hnm,hy,g2,n2,hQ _ M1 h1 _ H1 ⟨p1.toPostT,.bl _⟩⟩⟩
def IG(xt:fE X.K=true)(mi:X.mg "isinstance"=none)(mv:X.mg "ValueError"=none)(ha:YE X a ta)(hg:Gl X "isinstance"<|>R0)(hgT:Gl X "ValueError"<|>R0)(hs:SE a [.Name "ValueError" p2] X<|>R0)(hs2:starEach [.Name "ValueError" p2] X.env=(false,eval (.Name "ValueError" p2) X.env)::starEach [] X.env<|>R0)(hpl:BT pos [.Name "ValueError" p2] X<|>R0):
  YE X (.Call (.Name "isinstance" p) [a,.Name "ValueError" p2] [] pos) (so ta):=⟨have ha:=ha.h;
 bB (kF (IF xt) hg mi (by decide +kernel) (bS ha (bS (uX (v:=.ty "ValueError") hgT mv (by decide +kernel) rfl (by decide) (by decide)) ca hs2) hs) (by decide) (by decide) hs hpl) λσ H Q ρ M QW hE ht hQ=>⟨ρ,M,_,hE,ht,λd M1 z_ v H1 p1=>by ext(⟨q,nm,ed,hc,hnm,h1⟩:z_);subst ed;cases p1.rep;ext(⟨C,g1,g2⟩:yQ p1.ok hc);show⟨q,C,nm,rfl,g1,hnm,g2,hQ _ M1 h1 _ H1 ⟨p1.toPostT,.bl _⟩⟩⟩⟩
def IH(K:K0):OpV K wK c5:=by
 intro x y H dx dy d Q rx ry hg hQ;cases dx with
 | lst ds=>
   cases dy with
   | lst es'=>
     ext(⟨hl,rfl⟩:bC hg);ext(⟨p,xs,rfl,hp,hx,hA⟩:fL rx);ext(⟨p',ys,rfl,hp',hy,hA'⟩:fL ry);show⟨p,p',xs,ys,rfl,rfl,hp,hp',by rw[hx.length,hy.length];show cV hl,λr hr=>hQ _ _ (bj hr _) (.lst (.inl bi) (aT (bj hr _) (hx.append hy))) λA hD r1 r2=>?_⟩;have na:¬A r:=λz=>hD r z hr
     show .lst (.inl (by rw[cb na];show bi)) (aT (cD (bj hr _) λ_ z=>z) ((wZ hp r1).append (wZ hp' r2)))
   |_=>ext hg
 |_=>ext hg
def ib(ha:YE X a ta)(hb:YE X b tb):YE X (.BinOp a .Add b pos) (n2 c5 ta tb):=⟨have ha:=ha.h;have hb:=hb.h;lI qQ (IH X.K) ha hb⟩
theorem yS:∀{ns:i_} {vs:B_} {f:Str},¬f∈ns->bQ (b7 ns vs) (Sum.inr f:Key)=none
 |[],_,_,_=>rfl
 |_::_,[],_,_=>rfl
 | n::ns,w::vs,f,h=>by
   have ne:¬((Sum.inr n:Key)=Sum.inr f):=λq=>h (z5p q▸z9b)
   have ih:=yS (vs:=vs) λz=>h (z9d n z)
   change bQ ((Sum.inr n,w)::b7 ns vs) _=none;unfold bQ at ih ⊢;simp[ne,ih]
end
def a7(h:JE X a fa es):YE X a (nP fa):=⟨sr h.h⟩
def II{k:Nat}(hr:Room k X.A)(ha:YE X a ta)(hb:YE X b tb):YE X (.Compare a [.Eq] [b] pos) (n2 eqD ta tb):=⟨ne_eq hr ha.h hb.h⟩
section
variable {k:Nat}{es:k_}
def IJ(cl:Cls X.K C)(d:MetN X.prog X.w X.K X.mg X.base C m k ps T)(hr:Room k X.A)(ho:YE X b tb)(ha:YA X (a::es) tas)(hno:¬m∈ns<|>R5)(hst:SE a es X<|>R0)(hpl:BT pos es X<|>R0)(ht:(eval (.Call (.Attribute b m ap) (a::es) [] pos) X.env=(do
   let ov <- eval b X.env
   standAt ap.atName
   let(f,first) <- holding [ov] (getMethod ov m pl)
   callWith pos f first (backTo pos (starEach (a::es) X.env)) (backToKw pos (keywordEach [] X.env))))<|>R0):YE X (.Call (.Attribute b m ap) (a::es) [] pos) (cP C ns T tb tas):=⟨Hn cl d hr ho.h ha.h hno hst hpl ht⟩
def eU(cl:Cls X.K C)(d:MetN X.prog X.w X.K X.mg X.base C m k ps T)(hr:Room k X.A)(ho:YE X b tb)(hno:¬m∈ns<|>R5)(ht:(eval (.Call (.Attribute b m ap) [] [] pos) X.env=(do
   let ov <- eval b X.env
   standAt ap.atName
   let(f,first) <- holding [ov] (getMethod ov m pl)
   callWith pos f first (backTo pos (starEach [] X.env)) (backToKw pos (keywordEach [] X.env))))<|>R0):YE X (.Call (.Attribute b m ap) [] [] pos) (cP C ns T tb aj):=⟨Ho cl d hr ho.h hno ht⟩
end
section
variable {tv:NTE}
def jS(ha:YE X a ta)(he:YE X e tv)(hbase:attributeBase a "append" X.env (eval a X.env)=eval a X.env<|>R0)(hfew:(((backTo cp (starEach [e] X.env)).all (λx=>!x.1)&&(backToKw cp (keywordEach [] X.env)).all (λx=>x.1.isSome)
   && decide (([e]:k_).length+([]:m_).length+(if([]:m_).isEmpty then 0 else 1)<30))=true)<|>R0)(hline:(ap.endLine==cp.line)=true<|>R0)(hs:SE e [] X<|>R0)(hplain:BT cp [] X<|>R0)(hsw:swapsWith (.Call (.Attribute a "append" ap) [e] [] cp) none pos.line X.env=pure false<|>R0):YS X (.Expr (.Call (.Attribute a "append" ap) [e] [] cp) pos) (gv ta tv):=⟨Hs ha.h he.h hbase hfew hline hs hplain hsw⟩
def oy(ha':YE X a ta)(hb:YE X b ti)(he:YE X e tv)(ha:(∀v,assign (.Subscript a b p3) X.env v=(do
   let ov <- holding [v] (eval a X.env);let iv <- holding [v,ov] (eval b X.env)
   standAt p3
   holding [v,ov,iv] (setItem ov iv v)
   release [v,ov,iv] []))<|>R4)(hs:swapsWithSole [.Subscript a b p3] e pos.line X.env=pure false<|>R0)(hw:swappedStores [.Subscript a b p3] e X.env=pure none<|>R0)(h1:(assignEach [.Subscript a b p3] X.env).map (·.2)=[assign (.Subscript a b p3) X.env]<|>R0):YS X (.Assign [.Subscript a b p3] e pos) (iR ta ti tv):=⟨Ht ha'.h hb.h he.h ha hs hw h1⟩
end
section
variable {k:Nat}{es:k_}{T:NTX}
def iU(cl:Cls X.K C)(d:MetE X.prog X.w X.K X.mg X.base C m k ps T)(hr:Room k X.A)(ho:YE X.nox b tb)(ha:YA X.nox (a::es) tas)(hno:¬m∈ns<|>R5)(hst:SE a es X<|>R0)(hpl:BT pos es X<|>R0)(ht:(eval (.Call (.Attribute b m ap) (a::es) [] pos) X.env=(do
   let ov <- eval b X.env
   standAt ap.atName
   let(f,first) <- holding [ov] (getMethod ov m pl)
   callWith pos f first (backTo pos (starEach (a::es) X.env)) (backToKw pos (keywordEach [] X.env))))<|>R0):YX X (.Call (.Attribute b m ap) (a::es) [] pos) (dW C ns T tb tas):=⟨Ip cl d hr ho.h ha.h hno hst hpl ht⟩
def IK(cl:Cls X.K C)(d:MetE X.prog X.w X.K X.mg X.base C m k ps T)(hr:Room k X.A)(ho:YE X.nox b tb)(hno:¬m∈ns<|>R5)(ht:(eval (.Call (.Attribute b m ap) [] [] pos) X.env=(do
   let ov <- eval b X.env
   standAt ap.atName
   let(f,first) <- holding [ov] (getMethod ov m pl)
   callWith pos f first (backTo pos (starEach [] X.env)) (backToKw pos (keywordEach [] X.env))))<|>R0):YX X (.Call (.Attribute b m ap) [] [] pos) (dW C ns T tb aj):=⟨Iq cl d hr ho.h hno ht⟩
end
section
variable {k:Nat}
def oz{body:NTS}(h1:ps.length=np)(h2:N.length=n)(h3:T=mkN np n body)(Fn:Fun K x qual st f fd)(S:FnScope N ps (aN st))(h:∀(cdv:Value) (A:Around) (outer:List PySem.Env) (s:Shared) (H:Hp) (E:XK),Room k (A.deeper (envOfC qual (aN st) s.heap.objs.size f cdv)) ->
   YSs (c4 CX0 P w K mg base N qual (aN st) f cdv A outer s H E).nox (cy st) body):
  FnOk P w K mg base CX0 (k+1) f fd ps (spN K T):=Hv h1 h2 h3 Fn S λcdv A outer s H E hr=>(h cdv A outer s H E hr).h
def sQ{body:NTS}{T:NTX}(h1:ps.length=np)(h2:N.length=n)(h3:T=mkX np n body)(Fn:Fun K x qual st f fd)(S:FnScope N ps (aN st))(h:∀(cdv:Value) (A:Around) (outer:List PySem.Env) (s:Shared) (H:Hp) (E:XK) (PP:Hp) (EX:QX),Room k (A.deeper (envOfC qual (aN st) s.heap.objs.size f cdv))->OutX (c4 (CXN P w) P w K mg base N qual (aN st) f cdv A outer s H E) PP EX ->
   YMs (c4 (CXN P w) P w K mg base N qual (aN st) f cdv A outer s H E) PP EX (cy st) body):
  FnOk P w K mg base (CXN P w) (k+1) f fd ps (spE K T):=Iv h1 h2 h3 Fn S λcdv A outer s H E PP EX hr ho=>(h cdv A outer s H E PP EX hr ho).h
end
end VL
namespace VL
open PySem (Str)
open L2 (atI ixN)
section
variable {Q:QE}{QB:Bool->Sto->Prop}{QL:D_->Sto->Prop}{tv:NTE}{f:FE}{fb:ag->A_}{g1:D->E_}{C t:Nat}{E:EndN}{u v:NTS}
def IL(h:WE f ρ λd=>Q d M):nP f ρ M Q:=h
def IM(h:WB fb ρ λb=>QB b M):nPB fb ρ M QB:=h
def IN(h:ta ρ M λx M1=>tb ρ M1 λy M2=>W2 g x y λd=>Q d M2):n2 g ta tb ρ M Q:=h
def IO(h:ta ρ M λx M1=>W1 g1 x λd=>Q d M1):n1 g1 ta ρ M Q:=h
def IP(h:ta ρ M λx M1=>kT (λb=>QB b M1) x):bI ta ρ M QB:=h
def IQ(h:ta ρ M λx M1=>∃b,tru x=some b/\QB b M1):dS ta ρ M QB:=h
def IR(h:ka ρ M λb M1=>kIf b (kb ρ M1 QB) (QB false M1)):lC ka kb ρ M QB:=h
def IS(h:ka ρ M λb M1=>kIf b (QB true M1) (kb ρ M1 QB)):nOr ka kb ρ M QB:=h
def IU(h:ka ρ M λb M1=>QB (!b) M1):eE ka ρ M QB:=h
def IV(h:ka ρ M λb M1=>kIf b (ta ρ M1 Q) (tb ρ M1 Q)):nIf ka ta tb ρ M Q:=h
def IW(h:ta ρ M λx M1=>kT (λb=>kIf b (tb ρ M1 Q) (Q (.bl false) M1)) x):rW ta tb ρ M Q:=h
def IY(h:QL [] M):aj ρ M QL:=h
def IZ(h:ta ρ M λx M1=>tas ρ M1 λxs M2=>QL (x::xs) M2):aa ta tas ρ M QL:=h
def Ja(h:tas ρ M λds M1=>ds.length<=1000/\Q (.lst ds) M1):eF tas ρ M Q:=h
def Jb(h:tas ρ M λds M1=>ds.length<=1000/\Q (.tup ds) M1):jJ tas ρ M Q:=h
def Jc(h:WE f ρ λd=>∃ds,d=.lst ds/\∀a,M a=none->Q (.ptr a) (aD M a (.lst ds))):hV f ρ M Q:=h
def Jd(h:WA as ρ λds=>ds.length=ns.length/\∀a,M a=none->Q (.ptr a) (aD M a (.dic ns ds))):rX ns as ρ M Q:=h
def Je{a:Nat}(hv:a5 j ρ=some (.ptr a))(hm:M a=some (.dic ns ds))(hd:ds[i]?=some d)(h:Q d M):nDg ns i (nP (a5 j)) ρ M Q:=⟨_,hv,a,ds,d,rfl,hm,hd,h⟩
def Jf{a:Nat}(hv:a5 j ρ=some (.ptr a))(hm:M a=some (.ins C ns ds))(hd:ds[i]?=some d)(h:Q d M):aQ C ns i (nP (a5 j)) ρ M Q:=⟨_,hv,a,ds,d,rfl,hm,hd,h⟩
def Jg(h:tas ρ M λds M1=>T ds M1 Q):aF T tas ρ M Q:=h
def Jh(h:tas ρ M λds M1=>WF G (ds.map (vw1 M1)) λd=>aV d=true/\Q d M1):cH G tas ρ M Q:=h
def Ji(h:tas ρ M λds M1=>WF G ds λd=>Q d M1):jK G tas ρ M Q:=h
def Jj{a:Nat}(hv:a5 j ρ=some (.ptr a))(hm:M a=some (.ins C ns ds0))(h:tas ρ M λds M2=>T (.ptr a::ds) M2 Q):cP C ns T (nP (a5 j)) tas ρ M Q:=⟨_,hv,a,ds0,rfl,hm,h⟩
def bV(hl:ds.length=np)(h:u {nx:=λ_ M'=>Q .non M',rt:=Q} (ds.map some++List.replicate (n-np) none) M):mkN np n u ds M Q:=⟨hl,h⟩
def Jk(h:E.nx ρ M):sN E ρ M:=h
def Jl(h:u {E with nx:=λρ M=>v E ρ M} ρ M):ai u v E ρ M:=h
def Jm(h:ka ρ M λb M1=>kIf b (u E ρ M1) (v E ρ M1)):aK ka u v E ρ M:=h
def Jn(h:ta ρ M E.rt):aO ta E ρ M:=h
def lO{a:Nat}(hv:a5 i ρ=some (.ptr a))(hm:M a=some (.lst ds))(h:E.rt (.lst ds) (cW M a)):nX i E ρ M:=⟨a,ds,hv,hm,h⟩
def Jo(h:ta ρ M λd M1=>E.nx (ρ.set i (some d)) M1):aI i ta E ρ M:=h
def Jp(h:ta ρ M λd M1=>∃ds,d=.tup ds/\ds.length=is.length/\E.nx ((is.zip ds).foldl (λr p=>r.set p.1 (some p.2)) ρ) M1):rY is ta E ρ M:=h
def Jq(h:tv ρ M λx M1=>ta ρ M1 λy M2=>∃a ds,y=.ptr a/\M2 a=some (.dic ns ds)/\E.nx ρ (aD M2 a (.dic ns (ds.set i x)))):lF ns i ta tv E ρ M:=h
def Jr(h:tv ρ M λx M1=>ta ρ M1 λy M2=>∃a ds,y=.ptr a/\M2 a=some (.ins C ns ds)/\E.nx ρ (aD M2 a (.ins C ns (ds.set i x)))):hW C ns i ta tv E ρ M:=h
def eV{fl:Str}(h:tv ρ M λx M1=>ta ρ M1 λy M2=>∃a ds,y=.ptr a/\M2 a=some (.ins C ns ds)/\E.nx ρ (aD M2 a (.ins C (ns++[fl]) (ds++[x])))):de C ns fl ta tv E ρ M:=h
def Js(h:ta ρ M λx M1=>∃a ds0,x=.ptr a/\M1 a=some (.lst ds0)/\tv ρ M1 λy M2=>∃ds,M2 a=some (.lst ds)/\ds.length<100000/\E.nx ρ (aD M2 a (.lst (ds++[y])))):gv ta tv E ρ M:=h
def Jt(h:tv ρ M λx M1=>ta ρ M1 λy M2=>ti ρ M2 λz M3=>∃a ds k j,y=.ptr a/\M3 a=some (.lst ds)/\z=.int k/\ixN ds.length k=some j/\E.nx ρ (aD M3 a (.lst (ds.set j x)))):iR ta ti tv E ρ M:=h
def Ju(h:tas ρ M λds M1=>∃j,ds=[.int j]/\okR j/\dU (λx E ρ M=>u E (ρ.set t (some x)) M) ((List.range j.toNat).map λk=>.int (k:Nat)) E ρ M1):nZ t tas u E ρ M:=h
def lP(h:tas ρ M λds M1=>∃j,ds=[.int j]/\okR j/\j<1000/\dD 1 ta (bh 1 J6 ρ) ((List.range j.toNat).map λk=>.int (k:Nat)) [] M1 λds M2=>Q (.lst ds) M2):hZ J6 tas ta ρ M Q:=h
def Jv(h:tas ρ M λds M1=>WF G (ds.map (vw2 M1)) λd=>aV d=true/\Q d M1):rZ G tas ρ M Q:=h
def Jw(h:tas ρ M λds M1=>WF G (ds.map (vw2 M1)) λd=>(∃xs:h_,d=.lst (xs.map .int))/\Q d M1):se G tas ρ M Q:=h
def Jx(h:tas ρ M λds M1=>WF G (ds.map (vw2 M1)) λd=>Q d M1):sf G tas ρ M Q:=h
def Jy(h:ta ρ M λx M1=>∃ds,vw1 M1 x=.lst ds/\Q (.lst ds) M1):sg ta ρ M Q:=h
def Jz(h:WE f ρ λx=>tb ρ M λy M1=>W2 fM x y λd=>Q d M1):sh f tb ρ M Q:=h
def JC(h:ti ρ M λd M1=>∃ds,cj d=some ds/\ds.length<=1000/\dD 1 ta (bh 1 J6 ρ) ds [] M1 λds M2=>Q (.lst ds) M2):sj J6 ti ta ρ M Q:=h
def JD(h:ta ρ M λd M1=>∃ds,cj d=some ds/\dU (λx E ρ M=>u E (ρ.set t (some x)) M) ds E ρ M1):nY t ta u E ρ M:=h
def sR{a:Nat}(hv:a5 i ρ=some (.ptr a))(hm:M a=some (.lst ds))(h:E.nx (ρ.set i (some (.lst ds))) (cW M a)):nFz i E ρ M:=⟨a,ds,hv,hm,h⟩
def JG(h:ta ρ M λx M1=>tb ρ M1 λy M2=>W2 g (vw3 M2 x) (vw3 M2 y) λd=>aV d=true/\Q d M2):n2V g ta tb ρ M Q:=h
def JH(h:ta ρ M λx M1=>∃a ds,x=.ptr a/\M1 a=some (.lst ds)/\n<=1000/\Q (.lst (cU ds (some (n:Nat)) none)) M1):o3 n ta ρ M Q:=h
def JJ(h:tas ρ M λds M1=>ds.length<=1000/\∀a,M1 a=none->Q (.ptr a) (aD M1 a (.lst ds))):lD tas ρ M Q:=h
def JK(h:ta ρ M λx M1=>tb ρ M1 λy M2=>∃a ds i d,x=.ptr a/\M2 a=some (.lst ds)/\y=.int i/\atI ds i=some d/\Q d M2):lE ta tb ρ M Q:=h
def bn(hl:ds.length=np)(h:u {nx:=λ_ M'=>Q .non M',rt:=Q,ex:=EX} (ds.map some++List.replicate (n-np) none) M):mkX np n u ds M Q EX:=⟨hl,h⟩
def eW(hx:x∈XS)(h:E.ex x M):cB x E ρ M:=⟨hx,h⟩
def JL(h:te ρ M (λd M1=>E.nx (ρ.set i (some d)) M1) E.ex):jL i te E ρ M:=h
def JM(h:te ρ M E.rt E.ex):fB te E ρ M:=h
def JN(h:te ρ M (λ_ M1=>E.nx ρ M1) E.ex):jM te E ρ M:=h
def JP(h:u {E with ex:=λx M1=>∀a,M1 a=none->E.nx ((ρ.set j none).set i (some (.ptr a))) (aD M1 a (.exn a x))} ρ M):sm i j u E ρ M:=h
def JQ{T:NTX}(h:tas ρ M λds M1=>T ds M1 Q EX):fA T tas ρ M Q EX:=h
def JR{T:NTX}{a:Nat}(hv:a5 j ρ=some (.ptr a))(hm:M a=some (.ins C ns ds0))(h:tas ρ M λds M2=>T (.ptr a::ds) M2 Q EX):dW C ns T (nP (a5 j)) tas ρ M Q EX:=⟨_,hv,a,ds0,rfl,hm,h⟩
def JU{T:NTX}(h:tas ρ M λds M1=>∀a,M1 a=none->T (.ptr a::ds) (aD M1 a (.ins C [] [])) (λd M2=>d=.non/\Q (.ptr a) M2) EX):sk C T tas ρ M Q EX:=h
def JV{y:Str}{a:Nat}(hv:a5 j ρ=some (.ptr a))(hm:M a=some (.exn a x))(hx:x∈XS)(h:Q (.bl (decide (x=y))) M):eQ y (nP (a5 j)) ρ M Q:=⟨_,hv,a,x,rfl,hm,hx,h⟩
def JY{a:Nat}(hv:a5 j ρ=some (.ptr a))(hm:M a=some (.exn a x))(hx:x∈XS)(h:Q (.bl true) M):so (nP (a5 j)) ρ M Q:=⟨_,hv,a,x,rfl,hm,hx,h⟩
def yT{q:QX}{a b c:ag->Sto->Prop}{d:D->Sto->Prop}(h:a ρ M):EndN.nx ⟨a,d,b,c,q⟩ ρ M:=h
def yU{q:QX}{a b c:ag->Sto->Prop}{d:D->Sto->Prop}{x:D}(h:d x M):EndN.rt ⟨a,d,b,c,q⟩ x M:=h
def oA{α:Type}{body:D->NTS}(enc:α->D)(xs:List α)(I:Nat->ag->Sto->Prop)(h0:I 0 ρ M)(he:∀ρ M,I xs.length ρ M->E.nx ρ M)(hs:∀k (hk:k<xs.length) ρ M,I k ρ M->∀N:ag->Sto->Prop,(∀ρ M,I (k+1) ρ M->N ρ M)->body (enc xs[k]) {E with nx:=N,ct:=N,bk:=E.nx} ρ M):dU body (xs.map enc) E ρ M:=by
 have gen:∀(m k:Nat),m=xs.length-k->k<=xs.length->∀ρ M,I k ρ M->dU body ((xs.drop k).map enc) E ρ M:=by
  intro m
  induction m with
  | zero=>
    intro k hm hk ρ M h;have:k=xs.length:=by ext
    subst this;rw[z6q];show he ρ M h
  | succ m ih=>
    intro k hm hk ρ M h;have hlt:k<xs.length:=by ext
    rw[z8k hlt,z9r];show hs k hlt ρ M h _ λρ M z=>ih (k+1) ∅ hlt ρ M z
 simpa using gen xs.length 0 (by simp) (z7r _) ρ M h0
def ic{α:Type}{ρb:ag}(enc:α->D)(xs:List α)(I:Nat->D_->Sto->Prop)(h0:I 0 [] M)(he:∀ds M,I xs.length ds M->QL ds M)(hs:∀k (hk:k<xs.length) ds M,I k ds M->∀N:QE,(∀d M1,I (k+1) (ds++[d]) M1->N d M1)->ta (ρb.set 0 (some (enc xs[k]))) M N):dD 1 ta ρb (xs.map enc) [] M QL:=by
 have gen:∀(m k:Nat),m=xs.length-k->k<=xs.length->∀ds M,I k ds M->dD 1 ta ρb ((xs.drop k).map enc) ds M QL:=by
  intro m
  induction m with
  | zero=>
    intro k hm hk ds M h;have:k=xs.length:=by ext
    subst this;rw[z6q];show he ds M h
  | succ m ih=>
    intro k hm hk ds M h;have hlt:k<xs.length:=by ext
    rw[z8k hlt,z9r];show hs k hlt ds M h _ λd M1 z=>ih (k+1) ∅ hlt (ds++[d]) M1 z
 simpa using gen xs.length 0 (by simp) (z7r _) [] M h0
end
def JZ{K:D->Prop}(h:K (.bl true)):W1 dC .non K:=⟨_,rfl,h⟩
def Ka{K:D->Prop}{i:Int}(h:K (.bl false)):W1 dC (.int i) K:=⟨_,rfl,h⟩
def Kb{K:D->Prop}(h:K (.bl false)):W1 dC (.tup ds) K:=⟨_,rfl,h⟩
def Kc{K:D->Prop}(h:K (.bl false)):W1 gr .non K:=⟨_,rfl,h⟩
def Kd{K:D->Prop}{i:Int}(h:K (.bl true)):W1 gr (.int i) K:=⟨_,rfl,h⟩
def Ke{K:D->Prop}{a:Nat}(h:K (.bl false)):W1 dC (.ptr a) K:=⟨_,rfl,h⟩
def Kp(S:Nat->Prop)(M M':Sto):Prop:=∀b c,M b=some c->¬S b->M' b=some c
def Kp.refl:Kp S M M:=λ_ _ h _=>h
def Kp.trans{S':Nat->Prop}{M1 M2:Sto}(a:Kp S M M1)(b:Kp S' M1 M2)(h:∀x,S' x->M x≠none->S x):Kp S M M2:=λx c e n=>b x c (a x c e n) λz=>n (h x z (by rw[e];show λq=>nomatch q))
def Kp.upd{a:Nat}{c:Cell}(h:S a\/M a=none):Kp S M (aD M a c):=λb d e n=>by
 by_cases q:b=a
 ·subst q;ext((h|h):h)
  ·show absurd h n
  ·rw[h]at e;ext e
 ·rw[aP q];show e
def Kp.del{a:Nat}(h:S a):Kp S M (cW M a):=λb d e n=>by
 have ne:b≠a:=λq=>n (by rw[q];show h)
 rw[nW ne];show e
noncomputable def tx(x:Str):z9:=x.cps.toList
noncomputable def mkT(l:z9):Str:=⟨l.toArray⟩
def aw(l:z9):tx (mkT l)=l:=rfl
def iV(x:Str):mkT (tx x)=x:=rfl
def bL:D->D->E_
 |.str x,.str y=>if(tx x).length+(tx y).length<=100000 then some (.str (mkT (tx x++tx y)))else none
 |_,_=>none
def ie:D->E_
 |.str x=>if(tx x).length<=100000 then some (.int (tx x).length)else none
 |_=>none
def ixT:D->D->E_
 |.str x,.int i=>if(tx x).length<=100000 then(atI (tx x) i).map λc=>.str (mkT [c])else none
 |_,_=>none
noncomputable def cJ:v_->Bool
 |none=>true
 |some i=>decide (0<=i)
noncomputable def bq(l:z9)(lo hi:v_):z9:=(l.take ((hi.getD (l.length:Int)).toNat)).drop ((lo.getD 0).toNat)
def slT(x:D)(lo hi:v_):E_:=match x with
 |.str x=>if cJ lo=true/\cJ hi=true/\(tx x).length<=100000 then some (.str (mkT (bq (tx x) lo hi)))else none
 |_=>none
def df(f:FE)(fl fh:FO):FE:=λρ=>(f ρ).bind λd=>(fl ρ).bind λl=>(fh ρ).bind λh=>slT d l h
noncomputable def fX:z9->z9->Bool
 |[],y=>y.isEmpty
 |a::x,y=>y.isPrefixOf (a::x)||fX x y
def inT:D->D->E_
 |.str y,.str x=>some (.bl (fX (tx x) (tx y)))
 |_,_=>none
noncomputable def bw(c:Nat):z9->List z9
 |[]=>[[]]
 | a::x=>if a=c then []::bw c x else match bw c x with
   |h::t=>(a::h)::t
   |[]=>[[a]]
def oB:D->D->E_
 | .str x,.str y=>match tx y with
   |[c]=>if(tx x).length<=10000 then some (.lst ((bw c (tx x)).map λl=>.str (mkT l)))else none
   |_=>none
 |_,_=>none
noncomputable def aZ(s:z9):List z9->z9
 |[]=>[]
 |[a]=>a
 |a::b::r=>a++s++aZ s (b::r)
noncomputable def ig:D_->Option (List z9)
 |[]=>some []
 |.str x::r=>(ig r).map (tx x::·)
 |_::_=>none
def dY:D->D->E_
 |.str s,.lst ds=>(ig ds).bind λls=>if(ls.map List.length).sum+ls.length*(tx s).length<=100000 then some (.str (mkT (aZ (tx s) ls)))else none
 |_,_=>none
noncomputable def digs(n:Nat):z9:=if n<10 then [48+n]else digs (n / 10)++[48+n % 10]
decreasing_by ext
noncomputable def c8(l:z9):Nat:=l.foldl (λv c=>10*v+(c-48)) 0
def jT:D->E_
 |.str x=>if c8 (tx x)<1000000000/\digs (c8 (tx x))=tx x then some (.int (c8 (tx x):Nat))else none
 |_=>none
def oC(f:FE):FEs:=λρ=>(f ρ).bind λd=>match d with
 |.str x=>if(tx x).all (λc=>decide (c<128))=true/\(tx x).length<=100000 then some ((tx x).map λc=>.str (mkT [c]))else none
 |_=>none
def okF(d:D):Prop:=∃z,d=.str z/\(tx z).all (λc=>decide (c<128))=true/\(tx z).length<=10000
def jU(x:Str)(fe:FE):NTS:=λE ρ M=>x∈XS/\WE fe ρ okF/\E.ex x M
theorem sS(s a:z9):∀(r:List z9),aZ s (a::r)=a++(r.map (s++·)).flatten
 |[]=>by simp[aZ]
 |b::r=>by rw[aZ,sS s b r];simp
theorem yV(c:Nat):∀(l:z9),aZ [c] (bw c l)=l/\(∀q∈bw c l,c∉q)/\bw c l≠[]
 |[]=>by simp[bw,aZ]
 | a::x=>by
   ext(⟨h1,h2,h3⟩:yV c x);unfold bw;by_cases e:a=c
   ·subst e
    rw[if_pos rfl];show⟨?_,λq hq=>?_,λz=>nomatch z⟩
    ·cases hs:bw a x with
     |nil=>show absurd hs h3
     |cons y r=>rw[aZ,<- hs,h1];rfl
    ·ext((rfl|hq):z9g.mp hq)
     ·show z8m
     ·show h2 q hq
   ·rw[if_neg e]
    cases hs:bw c x with
    |nil=>show absurd hs h3
    | cons y r=>
      rw[hs]at h1 h2;show⟨?_,λq hq=>?_,λz=>nomatch z⟩
      ·rw[sS]at h1 ⊢
       rw[z5a,h1]
      ·ext((rfl|hq):z9g.mp hq)
       ·intro z
        ext((z|z):z9g.mp z)
        ·show e z.symm
        ·show h2 y z9b z
       ·show h2 q (z9d _ hq)
theorem yW(c:Nat):∀(l:z9),(bw c l).length<=l.length+1
 |[]=>by simp[bw]
 | a::x=>by
   have ih:=yW c x;unfold bw;split
   ·simp;ext
   ·cases hs:bw c x with
    |nil=>simp
    |cons y r=>rw[hs]at ih;simp at ih ⊢;ext
section
variable {K:D->Prop}{y:Str}{a:FE}{lo hi:FO}
def Kf(hl:(tx x).length+(tx y).length<=100000)(h:K (.str (mkT (tx x++tx y)))):W2 bL (.str x) (.str y) K:=⟨_,by erw[bL,if_pos hl],h⟩
def Kg(hl:(tx x).length<=100000)(h:K (.int (tx x).length)):WF (aB ie) [.str x] K:=⟨_,by erw[aB,ie,if_pos hl],h⟩
def ij{i:Int}{c:Nat}(hl:(tx x).length<=100000)(e:atI (tx x) i=some c)(h:K (.str (mkT [c]))):W2 ixT (.str x) (.int i) K:=⟨_,by erw[ixT,if_pos hl,e,z7b],h⟩
def Kh(h:WE a ρ λd=>WO lo ρ λl=>WO hi ρ λu=>∃z,d=.str z/\(cJ l=true/\cJ u=true/\(tx z).length<=100000)/\K (.str (mkT (bq (tx z) l u)))):WE (df a lo hi) ρ K:=by ext(⟨d,e1,l,e2,u,e3,z,rfl,hc,k⟩:h);show⟨_,by erw[df,e1,e2,e3,z9j,slT,if_pos hc],k⟩
def Ki(h:K (.bl (decide (x=y)))):W2 eqD (.str x) (.str y) K:=⟨_,rfl,h⟩
def Kj(h:K (.bl (!decide (x=y)))):W2 neD (.str x) (.str y) K:=⟨_,rfl,h⟩
def Kk(h:K (.bl (fX (tx y) (tx x)))):W2 inT (.str x) (.str y) K:=⟨_,rfl,h⟩
theorem yX:∀(ls:List z9),ig (ls.map λl=>D.str (mkT l))=some ls
 |[]=>rfl
 |l::r=>by erw[z9r,ig,yX r,z7b,aw]
def iW{s:Str}{ls:List z9}(hl:(ls.map List.length).sum+ls.length*(tx s).length<=100000)(h:K (.str (mkT (aZ (tx s) ls)))):W1 (dY (.str s)) (.lst (ls.map λl=>.str (mkT l))) K:=
 ⟨_,by erw[dY,yX,z9j,if_pos hl],h⟩
def Kl(h1:c8 (tx x)<1000000000)(h2:digs (c8 (tx x))=tx x)(h:K (.int (c8 (tx x):Nat))):WF (aB jT) [.str x] K:=⟨_,by erw[aB,jT];rw[if_pos ⟨h1,h2⟩],h⟩
def Km{c:Nat}(hl:(tx x).length<=10000)(h:K (.lst ((bw c (tx x)).map λl=>.str (mkT l)))):W1 (λd=>oB d (.str (mkT [c]))) (.str x) K:=⟨_,by erw[oB,aw];rw[if_pos hl],h⟩
def Kn{K:D_->Prop}{f:FE}(h:WE f ρ λd=>∃z,d=.str z/\((tx z).all (λc=>decide (c<128))=true/\(tx z).length<=100000)/\K ((tx z).map λc=>.str (mkT [c]))):WI (oC f) ρ K:=by ext(⟨d,e,z,rfl,hc,k⟩:h);show⟨_,by erw[oC,e,z9j];rw[if_pos hc],k⟩
end
section
variable {E:EndN}
def sT(hx:x∈XS)(h:WE fe ρ okF)(he:E.ex x M):jU x fe E ρ M:=⟨hx,h,he⟩
end
end VL
namespace VL
open PySem PySem.Spec PyProof.Rows L2
def yY{α:Type}{c:Prop}[Decidable c]{a:Option α}{b:α}(h:(if c then a else none)=some b):c/\a=some b:=by
 by_cases q:c
 ·rw[if_pos q]at h;show⟨q,h⟩
 ·rw[if_neg q]at h;ext h
def lQ(i j:Str):i++j=mkT (tx i++tx j):=by change(⟨i.cps++j.cps⟩:Str)=⟨(i.cps.toList++j.cps.toList).toArray⟩;congr 1;simp
def bY(i:Str):i.length=(tx i).length:=by simp[Str.length,tx]
def yZ{y:Str}{t:Tok}(hm:X.mg x=some (.str y t))(hg:Gl X x<|>R0)(hd:DB x<|>R1):JE X (.Name x pos) (eC (.str y)) []:=
 ⟨ju (qf (v:=.str y) hg hm ⟨t,rfl⟩ hd) λ_=>.str y⟩
def Ko:R2:=λx y H Q=>∃i j,x=.str i/\y=.str j/\i.length+j.length<=sizeLine/\Q (.str (i++j)) H
def za(K:K0):OpV K Ko bL:=by
 intro x y H dx dy d Q rx ry hg hQ;cases dx with
 | str i=>
   cases dy with
   |str j=>ext(⟨hl,rfl⟩:bC hg);ext rx;ext ry;show⟨i,j,rfl,rfl,by rw[bY,bY];show cV hl,?_⟩;rw[lQ];show hQ _ H (Same.refl _) (.str _) λ_ _ _ _=>.str _
   |_=>ext hg
 |_=>ext hg
def Kq(x y d:D)(h:bL x y=some d):aV d=true:=by
 cases x with
 | str i=>
   cases y with
   |str j=>ext(⟨_,rfl⟩:bC h);rfl
   |_=>ext h
 |_=>ext h
def cR(ha:JE X a fa ea)(hb:JE X b fb eb):JE X (.BinOp a .Add b pos) (e2 bL fa fb) []:=⟨jv (ww vB (za X.K) ha.h hb.h) (mV Kq fa fb)⟩
def oE(ha:YE X a ta)(hb:YE X b tb):YE X (.BinOp a .Add b pos) (n2 bL ta tb):=⟨lI vB (za X.K) ha.h hb.h⟩
def zb(K:K0):OpV K vR ixT:=by
 intro x y H dx dy d Q rx ry hg hQ;cases dx with
 | str i=>
   cases dy with
   | int j=>
     ext(⟨hl,hg⟩:yY hg);cases e:atI (tx i) j with
     |none=>rw[e]at hg;ext hg
     |some c=>rw[e]at hg;ext hg;ext rx;ext ry;show⟨i,j,c,rfl,rfl,by rw[bY];show cV hl,e,hQ _ H (Same.refl _) (.str _) λ_ _ _ _=>.str _⟩
   |_=>ext hg
 |_=>ext hg
def Kr(x y d:D)(h:ixT x y=some d):aV d=true:=by
 cases x with
 | str i=>
   cases y with
   | int j=>
     ext(⟨_,h⟩:yY h);cases e:atI (tx i) j with
     |none=>rw[e]at h;ext h
     |some c=>rw[e]at h;ext h;rfl
   |_=>ext h
 |_=>ext h
def lS(ha:JE X a fa ea)(hb:JE X b fb eb)(hs:jp b):JE X (.Subscript a b pos) (e2 ixT fa fb) []:=
 ⟨jv (es:=ea++eb) (cT (kH vS ha.h hb.h hs) λ_ _ _ h=>mU (zb X.K) h) (mV Kr fa fb)⟩
def sU(ha:YE X a ta)(hb:YE X b tb)(hs:jp b):YE X (.Subscript a b pos) (n2 ixT ta tb):=
 ⟨cT (kH vS ha.h hb.h hs) λ_ _ _ h=>o7 (zb X.K) h⟩
def zc{o:v_}{d:Int}(h:cJ o=true)(hd:d=0\/d=n):(match o with|none=>d|some i=>max 0 (min (if i<0 then i+(n:Int)else i) (n:Int)))=((min (o.getD d).toNat n:Nat):Int):=by
 cases o with
 |none=>ext((rfl|rfl):hd)<;>simp
 |some i=>have h0:0<=i:=z6l h;erw[z7g];rw[if_neg ∅];ext
def sV{lo hi:v_}(h1:cJ lo=true)(h2:cJ hi=true):Builtin.Str.strSliceIndices lo hi 1 n=sliceRange ((min (lo.getD 0).toNat n:Nat):Int) ((min (hi.getD (n:Int)).toNat n:Nat):Int) 1:=by unfold Builtin.Str.strSliceIndices;have e1:=zc (n:=n) (d:=0) h1 (.inl rfl);have e2:=zc (n:=n) (d:=(n:Int)) h2 (.inr rfl);rw[<- e1,<- e2];ext lo<;>ext hi<;>rfl
def Ks{a b n:Nat}(h:b<a):sliceRange (a:Int) (b:Int) 1=[]:=by
 unfold sliceRange;have:¬((a:Int)<b):=by ext
 simp[this]
def Kt(z:Str){lo hi:v_}(h1:cJ lo=true)(h2:cJ hi=true):List.filterMap (λi=>z.cps[i]?) (Builtin.Str.strSliceIndices lo hi 1 z.length)=bq (tx z) lo hi:=by
 rw[sV h1 h2];have ec:bq (tx z) lo hi=List.drop (min (lo.getD 0).toNat z.length) (List.take (min (hi.getD (z.length:Int)).toNat z.length) (tx z)):=by
  unfold bq;rw[bY];have e1:List.take (min (hi.getD ((tx z).length:Int)).toNat (tx z).length) (tx z)=List.take (hi.getD ((tx z).length:Int)).toNat (tx z):=by
   rcases Nat.le_total (hi.getD ((tx z).length:Int)).toNat (tx z).length with h|h
   ·rw[z5g h]
   ·rw[Nat.min_eq_right h,z8t (z9o _),z8t h]
  rw[e1];ext((h|h):Nat.le_total (lo.getD 0).toNat (tx z).length)
  ·rw[z5g h]
  ·rw[Nat.min_eq_right h,z7s (by rw[z8f];ext),z7s (by rw[z8f];ext)]
 rw[ec];by_cases hab:min (lo.getD 0).toNat z.length<=min (hi.getD (z.length:Int)).toNat z.length
 ·have e3:=StrLaws.sliced_plain z hab (Nat.min_le_right _ _)
  have e4:=sV (lo:=some ((min (lo.getD 0).toNat z.length:Nat):Int)) (hi:=some ((min (hi.getD (z.length:Int)).toNat z.length:Nat):Int)) (n:=z.length) (by simp[cJ]) (by simp[cJ]);erw[z7g,z7c]at e4;rw[z5g (Nat.min_le_right _ _),z5g (Nat.min_le_right _ _)]at e4;rw[e4]at e3;rw[e3,List.drop_take];rfl
 ·rw[Ks (n:=z.length) ∅,z7s (by rw[z8f];ext)]
  rfl
def Ku:V->v_->v_->Hp->VK->Prop:=λx lo hi H Q=>∃z,x=.str z/\cJ lo=true/\cJ hi=true/\z.length<=sizeLine/\Q (.str (mkT (bq (tx z) lo hi))) H
def zd{v:Value}{o:v_}(h:IsPart v o):∃l:Option (Int×Tok),v=partValue l/\l.map (·.1)=o:=by
 cases h with
 |none=>show⟨none,rfl,rfl⟩
 |int i t=>show⟨some (i,t),rfl,rfl⟩
def Kv(l:z9)(lo hi:v_):(bq l lo hi).length<=l.length:=by unfold bq;rw[z7l,z8f];ext
def ze:SlR X Ku:=by
 intro G_ s σ H x v vl vu lo hi sl Q I rx hs pl pu h;ext(⟨z,rfl,h1,h2,hz,q⟩:h);ext(⟨t,rfl⟩:rx);ext(⟨l,rfl,el⟩:zd pl);ext(⟨u,rfl,eu⟩:zd pu);show⟨"str",_,slot_str_getitem.lookup,z4s s z t,?_⟩;have hs':s.heap.IsSlice sl l u none:=hs;show wpAny_getItem_str_slice hs' rfl ?_;have ep:slicePicked z l u none=Builtin.Str.strSliceIndices lo hi 1 z.length:=by unfold slicePicked;rw[<- el,<- eu];rfl
 have e:=Kt z h1 h2;unfold sliceMade;rw[ep];split
 ·rename_i hc
  have hl:(Builtin.Str.strSliceIndices lo hi 1 z.length).length=z.length:=⇑hc
  have e2 : bq (tx z) lo hi=tx z:=by
   have hl2:(bq (tx z) lo hi).length=(tx z).length:=by
    rw[<- e];have:∀i∈Builtin.Str.strSliceIndices lo hi 1 z.length,z.cps[i]?≠none:=λi hi'=>by
     rw[sV h1 h2]at hi';unfold sliceRange at hi';erw[z8i,z7q]at hi';ext(⟨k,hk,rfl⟩:hi');split at hk
     ·split at hk
      ·have:((min (lo.getD 0).toNat z.length:Nat)+1*(k:Int)).toNat<z.cps.size:=by have e0:z.length=z.cps.size:=rfl;rw[<- e0];ext
       rw[Array.getElem?_eq_getElem this];show λq=>nomatch q
      ·simp at hk
     ·ext
    have fl:∀(is:z9),(∀i∈is,z.cps[i]?≠none)->(List.filterMap (λi=>z.cps[i]?) is).length=is.length:=by
     intro is
     induction is with
     |nil=>intro _;rfl
     | cons i r ih=>
       intro hh;cases ei:z.cps[i]? with
       |none=>show absurd ei (hh i z9b)
       |some w=>rw[z5q,ei];simp[ih λj hj=>hh j (z9d _ hj)]
    rw[fl _ this,hl,bY]
   unfold bq at hl2 ⊢;rw[z7l,z8f]at hl2;by_cases h0:tx z=[]
   ·rw[h0];simp
   ·have hp:0<(tx z).length:=z6n.mpr h0
    have ed:(lo.getD 0).toNat=0:=by ext
    rw[ed,z6r,z8t ∅]
  rw[e2,iV]at q;show⟨.str z,H,I,⟨t,rfl⟩,q⟩
 ·rw[e]
  show⟨by rw[bY];show z7p (Kv _ _ _) (by rw[<- bY];show hz),.str _,H,I.tok _,⟨_,rfl⟩,q⟩
theorem dZ{lo:Option Expr}(ha:JE X a fa ea)(hl:JO X lo flo)(hh:JO X hi fhi):JE X (.Subscript a (.Slice lo hi none p2) pos) (df fa flo fhi) []:=
 ⟨cT (kG ze ha.h hl.h hh.h) λσ H Q z_=>by
  ext(⟨ρ,d,hE,hf,hQ⟩:z_);ext(⟨dx,h1,hf⟩:bind_some hf);ext(⟨l,h2,hf⟩:bind_some hf);ext(⟨h,h3,hf⟩:bind_some hf);show⟨ρ,dx,hE,h1,λx H1 p1=>⟨ρ,l,hE.mono p1.same,h2,λH2 e2=>⟨ρ,h,hE.mono (p1.same.trans e2),h3,λH3 e3=>?_⟩⟩⟩;cases dx with
  |str z=>ext(⟨hc,rfl⟩:bC hf);cases p1.rep;show⟨z,rfl,hc.1,hc.2.1,by rw[bY];show cV hc.2.2,hQ _ H3 ⟨p1.same.trans (e2.trans e3),.str _,λ_ _ _=>.str _⟩⟩
  |_=>ext hf⟩
theorem zf:∀(x y:z9),fX x y=true↔∃i,i+y.length<=x.length/\(x.drop i).take y.length=y
 | [],y=>by
   unfold fX;cases y with
   |nil=>simp
   |cons c r=>simp
 | a::x,y=>by
   unfold fX;rw[Bool.or_eq_true,zf x y,List.isPrefixOf_iff_prefix];constructor
   ·rintro(⟨t,ht⟩|⟨i,h1,h2⟩)
    ·show⟨0,?_,?_⟩
     ·rw[<- ht,z9f];ext
     ·rw[z6r,<- ht,List.take_left]
    ·show⟨i+1,by rw[z9c];ext,by rw[z6o];show h2⟩
   ·rintro⟨i,h1,h2⟩
    cases i with
    |zero=>left;rw[z6r]at h2;show⟨_,by rw[<- h2];show List.take_append_drop y.length (a::x)⟩
    |succ i=>right;show⟨i,by rw[z9c]at h1;ext,by rw[z6o]at h2;show h2⟩
def Kw(j i:Str):(!(Builtin.Str.occurrences j i 0 j.length 1).isEmpty)=fX (tx j) (tx i):=by
 rw[z5v,StrLaws.found_iff,zf];have e:∀k,(Builtin.Str.subAt j i k=true)↔(((tx j).drop k).take (tx i).length=tx i):=λk=>by
  unfold Builtin.Str.subAt;rw[z7i];constructor
  ·intro h
   have h2:=z7d Array.toList h;rw[Array.toList_extract,List.extract_eq_drop_take]at h2;rw[bY,Nat.add_sub_cancel_left]at h2;show h2
  ·intro h
   apply Array.ext';rw[Array.toList_extract,List.extract_eq_drop_take,bY,Nat.add_sub_cancel_left];show h
 constructor
 ·rintro⟨k,h1,h2⟩
  show⟨k,by rw[<- bY,<- bY];show h1,(e k).mp h2⟩
 ·rintro⟨k,h1,h2⟩
  show⟨k,by rw[bY,bY];show h1,(e k).mpr h2⟩
def Kx:R2:=λx y H Q=>∃i j,x=.str i/\y=.str j/\Q (.bl (!(Builtin.Str.occurrences j i 0 j.length 1).isEmpty)) H
def Ky(K:K0):OpV K Kx inT:=by
 intro x y H dx dy d Q rx ry hg hQ;cases dx with
 | str i=>
   cases dy with
   |str j=>ext hg;ext rx;ext ry;show⟨i,j,rfl,rfl,?_⟩;rw[Kw];show hQ _ H (Same.refl _) (.bl _) λ_ _ _ _=>.bl _
   |_=>ext hg
 |_=>ext hg
def Kz(x y d:D)(h:inT x y=some d):aV d=true:=by
 cases x with
 | str i=>
   cases y with
   |str j=>ext h;rfl
   |_=>ext h
 |_=>ext h
def KA(ha:JE X a fa ea)(hb:JE X b fb eb)(hm:behindInMarks .In b=false<|>R6):JE X (.Compare a [.In] [b] pos) (e2 inT fa fb) []:=⟨jB Cq (Ky X.K) ha.h hb.h hm Kz⟩
def KC:fN X.K (λxs H Q=>∃z,xs=[.str z]/\z.length<=sizeLine/\Q (.int z.length) H) (aB ie):=by
 intro xs H ds d Q r hg hQ;ext(⟨x,rfl,hg1⟩:iF hg);ext(⟨v,rfl,r1⟩:fO r);cases x with
 |str z=>ext(⟨hl,rfl⟩:bC hg1);ext r1;show⟨z,rfl,by rw[bY];show cV hl,hQ _ λH'=>by rw[bY];show .int _⟩
 |_=>ext hg1
def oF(ml:X.mg "len"=none)(ha:JA X [a] as es)(hg:Gl X "len"<|>R0)(he:SE a [] X<|>R0)(hpl:BT pos [] X<|>R0):
  JE X (.Call (.Name "len" p) [a] [] pos) (eA (aB ie) as) []:=⟨jE Db KC ml PySem.boot_len ha.h hg (by decide) (by decide) he hpl⟩
def KD(n:Nat):digs n=(Nat.toDigits 10 n).map Char.toNat:=by
 induction n using digs.induct with
 | case1 n h=>
   rw[digs,if_pos h,Nat.toDigits_of_lt_base h];have:∀m<10,[48+m]=List.map Char.toNat [m.digitChar]:=by decide
   show this n h
 | case2 n h ih=>
   have e:=Nat.toDigits_of_base_le (b:=10) (n:=n) ∅ ∅;rw[digs,if_neg h,ih,e,z8e];have:∀m<10,[48+m]=List.map Char.toNat [m.digitChar]:=by decide
   rw[this (n % 10) (Nat.mod_lt _ ∅)]
def sW(n:Nat):Str.ofString (toString (n:Int))=mkT (digs n):=by rw[KD,<- W.KIN.signs_num];rfl
def KE:cX X (.type "int") (λxs H Q=>∃n:Nat,xs=[.str (mkT (digs n))]/\n<1000000000/\Q (.int n) H):=by intro G_ s σ H xs us Q I r h;ext(⟨n,rfl,hn,q⟩:h);ext(⟨u,rfl,t,rfl⟩:eg r);rw[<- sW];show W.KIN.call_num ∅ ∅ ⟨.int n,H,I.tok _,⟨_,rfl⟩,q⟩
def KF:fN X.K (λxs H Q=>∃n:Nat,xs=[.str (mkT (digs n))]/\n<1000000000/\Q (.int n) H) (aB jT):=by
 intro xs H ds d Q r hg hQ;ext(⟨x,rfl,hg1⟩:iF hg);ext(⟨v,rfl,r1⟩:fO r);cases x with
 |str z=>ext(⟨hl,rfl⟩:bC hg1);ext r1;show⟨c8 (tx z),?_,hl.1,hQ _ λH'=>.int _⟩;rw[hl.2,iV]
 |_=>ext hg1
def KG(mi:X.mg "int"=none)(ha:JA X [a] as es)(hg:Gl X "int"<|>R0)(he:SE a [] X<|>R0)(hpl:BT pos [] X<|>R0):
  JE X (.Call (.Name "int" p) [a] [] pos) (eA (aB jT) as) []:=
 ⟨cT (iC KE hg mi (by decide +kernel) ha.h (by decide) (by decide) he hpl) λσ H Q z_=>by ext(⟨ρ,d,hE,hf,hQ⟩:z_);ext(⟨ds,h1,hf⟩:bind_some hf);show⟨ρ,ds,hE,h1,λvs H1 p=>KF vs H1 ds d _ p.rep hf λv hr=>hQ v H1 ⟨p.same,hr _,λ_ _ _=>hr _⟩⟩⟩
theorem zg(g:Array Nat):∀(ps:i_) (acc:Array Nat),(List.foldl (λacc p=>acc++g++p.cps) acc ps).toList=acc.toList++(ps.map λp=>g.toList++tx p).flatten
 |[],acc=>by simp
 |x::r,acc=>by rw[z4u,zg g r];simp[tx]
def KH(s:Str)(ys:i_):Txt.join s ys=mkT (aZ (tx s) (ys.map tx)):=by
 change(⟨_⟩:Str)=⟨_⟩;congr 1;apply Array.ext';rw[zg];cases ys with
 |nil=>rfl
 |cons y r=>rw[z9r,sS];erw[z4w,z6o,z6r,z8x];rfl
theorem zh:∀{ss:i_} {its:j_},Vals (ss.map V.str) its->StrsAre its ss
 |[],its,r=>by ext r;show .nil
 | x::ss,its,r=>by
   cases r with
   |cons h t=>ext(⟨k,rfl⟩:h);show .cons x k (zh t)
def KI:V->B_->Hp->VK->Prop:=λx xs H Q=>∃s l ss,x=.str s/\xs=[.ref l]/\Rd H l (.lst (List.map V.str ss))/\((ss.map λx=>(tx x).length).sum+ss.length*(tx s).length<=100000)/\Q (.str (mkT (aZ (tx s) (ss.map tx)))) H
def zi:MtR X "str.join" KI:=by
 intro G_ s σ H x xs v us Q I rx r h;ext(⟨z,l,ss,rfl,rfl,hH,hb,q⟩:h);ext(⟨t,rfl⟩:rx);ext(⟨u,rfl,ru⟩:eg r);ext ru;ext(⟨_,its,n,rv,_,e⟩:qP I hH);show join_list (D:=l) (items:=its.toArray) (ys:=ss) ⟨_,e,rfl,n,rfl⟩ (zh rv) ?_ λt' k=>?_
 ·have:ss.map (λx=>x.length)=ss.map λx=>(tx x).length:=z6p λx _=>bY x
  rw[this,bY];ext
 ·rw[KH]
  show⟨.str _,H,I.tok k,⟨_,rfl⟩,q⟩
theorem zj{K:K0}{H:Hp}:∀{ds:D_} {ls:List z9} {xs:B_},ig ds=some ls->Reps K H xs ds->∃ss:i_,xs=ss.map V.str/\ls=ss.map tx
 |[],ls,xs,h,r=>by ext h;ext r;show⟨[],rfl,rfl⟩
 | .str y::ds,ls,xs,h,r=>by
   cases e:ig ds with
   |none=>erw[ig,e]at h;ext h
   | some l2=>
     erw[ig,e]at h;ext h;cases r with
     |cons h1 h2=>ext(⟨ss,rfl,rfl⟩:zj e h2);ext h1;show⟨y::ss,rfl,rfl⟩
def zk{s:Str}{dx:D}(r:Rep K H v dx)(h:dY (.str s) dx=some d):∃l ss z,v=.ref l/\Rd H l (.lst (List.map V.str ss))/\((ss.map λx=>(tx x).length).sum+ss.length*(tx s).length<=100000)/\d=.str z/\z=mkT (aZ (tx s) (ss.map tx)):=by
 cases dx with
 |lst ds=>ext(⟨ls,h1,h2⟩:bind_some h);ext(⟨hb,rfl⟩:bC h2);ext(⟨l,xs,rfl,hl,hx,_⟩:fL r);ext(⟨ss,rfl,rfl⟩:zj h1 hx);show⟨l,ss,_,rfl,hl,?_,rfl,rfl⟩;rw[z8x,z9a]at hb;show hb
 |_=>ext h
section
variable {s:Str}
theorem iX(ha:YE X a ta)(hbase:attributeBase (.Constant (.str s) j p1) "join" X.env (eval (.Constant (.str s) j p1) X.env)=eval (.Constant (.str s) j p1) X.env<|>R0)(hfew:(((backTo cp (starEach [a] X.env)).all (λx=>!x.1)&&(backToKw cp (keywordEach [] X.env)).all (λx=>x.1.isSome)&&decide ([a].length+([]:m_).length+(if([]:m_).isEmpty then 0 else 1)<30))=true)<|>R0)(hline:(ap.endLine==cp.line)=true<|>R0)(hs:SE a [] X<|>R0)(hplain:BT cp [] X<|>R0):
  YE X (.Call (.Attribute (.Constant (.str s) j p1) "join" ap) [a] [] cp) (n1 (dY (.str s)) ta):=
 ⟨bB (jq z4h F.slot_str_join F.type_str_join zi gJ (bS ha.h ca hs) hbase hfew hline hs hplain) λσ H Q ρ M QW hE ht hQ=>⟨rfl,ρ,M,_,hE,ht,λdx M1 z_ x H1 p1=>by ext(⟨d,hf,h1⟩:z_);ext(⟨l,ss,z,rfl,hl,hb,rfl,rfl⟩:zk (aA (aU _ _) p1.rep) hf);show⟨s,l,ss,rfl,rfl,hl,hb,hQ _ M1 h1 _ H1 ⟨p1.toPostT,.str _⟩⟩⟩⟩
end
theorem zl(c:Nat):∀(n:Nat) {p q:List z9},p.length+q.length<=n->p≠[]->q≠[]->(∀y∈p,c∉y)->(∀y∈q,c∉y)->aZ [c] p=aZ [c] q->p=q
 |n,[],_,_,h,_,_,_,_=>absurd rfl h
 |n,_,[],_,_,h,_,_,_=>absurd rfl h
 |n,[a],[b],_,_,_,_,_,e=>by rw[aZ,aZ]at e;rw[e]
 |n,[a],b::b2::r,_,_,_,ha,_,e=>by rw[aZ,aZ]at e;show absurd (by rw[e];simp) (ha a z9b)
 |n,a::a2::r,[b],_,_,_,_,hb,e=>by rw[aZ,aZ]at e;show absurd (by rw[<- e];simp) (hb b z9b)
 |0,a::a2::r,b::b2::r2,h,_,_,_,_,_=>by simp at h
 | n + 1,a::a2::r,b::b2::r2,h,_,_,ha,hb,e=>by
   rw[aZ,aZ,z7o,z7o]at e;have key:∀{u v s t:z9},c∉u->c∉v->u++([c]++s)=v++([c]++t)->u=v/\s=t:=by
    intro u
    induction u with
    | nil=>
      intro v s t _ hv e;cases v with
      |nil=>simp at e;show⟨rfl,e⟩
      |cons w v=>simp at e;show absurd (by rw[e.1];show z9b) hv
    | cons w u ih=>
      intro v s t hu hv e;cases v with
      |nil=>simp at e;show absurd (by rw[<- e.1];show z9b) hu
      |cons w2 v=>erw[z5a,z4x]at e;ext(⟨h1,h2⟩:ih (λz=>hu (z9d _ z)) (λz=>hv (z9d _ z)) e.2);show⟨by rw[e.1,h1],h2⟩
   ext(⟨h1,h2⟩:key (ha a z9b) (hb b z9b) e);have:=zl c n (p:=a2::r) (q:=b2::r2) (by simp at h ⊢;ext) (by simp) (by simp) (λy hy=>ha y (z9d _ hy)) (λy hy=>hb y (z9d _ hy)) h2;rw[h1,this]
theorem zm(s:Str):∀(ys:i_),tx (s.join ys)=aZ (tx s) (ys.map tx)
 |[]=>rfl
 |[a]=>rfl
 |a::b::r=>by rw[join_cons_cons,lQ,lQ,aw,aw,zm s (b::r),z9r,z9r,z9r];rfl
def KJ{c:Nat}:∀{l:z9},c∈l->countIn (PyData.str {cps:=#[c]}) (List.map (λn=>PyData.str {cps:=#[n]}) l)≠0:=by
 have nn:∀(l:List PyData) (x:PyData),0<=countIn x l:=λl x=>by
  induction l with
  |nil=>simp[countIn]
  |cons y r ih=>erw[countIn];split<;>ext
 intro l h
 induction l with
 |nil=>ext h
 | cons a r ih=>
   rw[z9r];erw[countIn];ext((rfl|h):z9g.mp h)
   ·rw[if_pos (by simp[PySem.Spec.same])]
    have:=nn (List.map (λn=>PyData.str {cps:=#[n]}) r) (PyData.str {cps:=#[c]});ext
   ·have h1:=ih h
    have h2:=nn (List.map (λn=>PyData.str {cps:=#[n]}) r) (PyData.str {cps:=#[c]});split<;>ext
def zn(x:Str)(c:Nat):(Txt.split x ⟨#[c]⟩).map tx=bw c (tx x):=by
 have h:=split_closes x c;rw[z8r,z7i,z9u]at h;ext(⟨h1,h2⟩:h);ext(⟨g1,g2,g3⟩:yV c (tx x));show zl c _ (z9o _) (λz=>?_) g3 (λy hy=>?_) g2 ?_
 ·have:=(fact_split x ⟨#[c]⟩).1
  rw[List.map_eq_nil_iff.mp z]at this;simp at this
 ·ext(⟨q,hq,rfl⟩:z8i.mp hy)
  have h3:=h2 q hq;intro hc;erw[ne_eq,decide_not,Bool.not_not,decide_eq_true_eq]at h3;show KJ hc h3
 ·rw[g1]
  have:=zm ⟨#[c]⟩ (Txt.split x ⟨#[c]⟩);rw[h1]at this;show this.symm
def KM:V->B_->Hp->VK->Prop:=λx xs H Q=>∃z c,x=.str z/\xs=[.str ⟨#[c]⟩]/\(tx z).length<=10000/\∀p,H p=none->Q (.ref p) (upd H p (.lst ((bw c (tx z)).map λl=>V.str (mkT l))))
theorem zo:∀(ys:i_) (n:Nat),Vals (ys.map V.str) (strsFrom n ys)
 |[],n=>.nil
 |y::r,n=>.cons ⟨n,rfl⟩ (zo r (n+1))
def KN(x:Str)(c:Nat):(bw c (tx x)).map (λl=>V.str (mkT l))=(Txt.split x ⟨#[c]⟩).map V.str:=by rw[<- zn,z8x];show z6p λy _=>by change V.str (mkT (tx y))=V.str y;rw[iV]
def KP:MtR X "str.split" KM:=by
 intro G_ s σ H x xs v us Q I rx r h;ext(⟨z,c,rfl,rfl,hz,q⟩:h);ext(⟨t,rfl⟩:rx);ext(⟨u,rfl,t',rfl⟩:eg r);have hl1:(⟨#[c]⟩:Str).length=1:=rfl;have hk:Builtin.Str.strKind z<Builtin.Str.strKind ⟨#[c]⟩->(Builtin.Str.occurrences z ⟨#[c]⟩ 0 z.length (z.length+1)).isEmpty=true\/True:=λ_=>.inr trivial
 have len:(Txt.split z ⟨#[c]⟩).length<=sizeLine:=by have h1:=z7d List.length (zn z c);rw[z9a]at h1;have h2:=yW c (tx z);rw[z6g];ext
 rw[KN]at q;have itself:Txt.split z ⟨#[c]⟩=[z]->wpAny (model X.prog X.w) X.A (call (.builtin "str.split") [.str z t,.str ⟨#[c]⟩ t']) (EP X G_ σ Q) X.xe s\/True:=λ_=>.inr trivial
 by_cases hshort:(decide (z.length<(⟨#[c]⟩:Str).length)||decide (Builtin.Str.strKind z<Builtin.Str.strKind ⟨#[c]⟩))=true
 ·have es:Txt.split z ⟨#[c]⟩=[z]:=by unfold Txt.split;rw[if_pos hshort]
  rw[es]at q;show z4d z4i (z4s s z t) z3l (z3f _ _) (S:=listOfItself z t) (Meets.of_wp λprog w A R s' hR=>?_) ?_
  ·ext(⟨raising,et⟩:split_sep_tree z ⟨#[c]⟩ t t')
   rw[et,if_pos hshort];show z9i (wpAny_rule ?_);show z9i (wpAny_newList ?_ (by change 1<=sizeLine;decide));show z8a ⟨_,rfl,hR⟩
  ·show⟨.ref _,_,I.lnew (t':=s.toks) (ys:=[.str z]) (its:=[.str z t]) (.cons ⟨t,rfl⟩ .nil) (by change 1<=sizeLine;decide),rfl,q _ I.fresh⟩
 ·have hshort':(decide (z.length<(⟨#[c]⟩:Str).length)||decide (Builtin.Str.strKind z<Builtin.Str.strKind ⟨#[c]⟩))=false:=⇑hshort
  by_cases hocc:(Builtin.Str.occurrences z ⟨#[c]⟩ 0 z.length (z.length+1)).isEmpty=true
  ·have es:Txt.split z ⟨#[c]⟩=[z]:=by unfold Txt.split;rw[if_neg hshort,if_pos hocc]
   rw[es]at q;show z4d z4i (z4s s z t) z3l (z3f _ _) (meets_str_split_not_found z ⟨#[c]⟩ t t' hshort' rfl hocc)
    ⟨.ref _,_,I.lnew (t':=s.toks) (ys:=[.str z]) (its:=[.str z t]) (.cons ⟨t,rfl⟩ .nil) (by change 1<=sizeLine;decide),rfl,q _ I.fresh⟩
  ·have es:Txt.split z ⟨#[c]⟩=Builtin.Str.partsBetween z (Builtin.Str.occurrences z ⟨#[c]⟩ 0 z.length (z.length+1)) (⟨#[c]⟩:Str).length:=by unfold Txt.split;rw[if_neg hshort,if_neg hocc]
   rw[es]at q len;show z4d z4i (z4s s z t) z3l (z3f _ _) (meets_str_split_sep z ⟨#[c]⟩ t t' hshort' rfl (⇑hocc) (by rw[bY];show cV ∅) len) ?_;show⟨.ref _,_,I.lnew (t':=_) (zo _ _) (by rw[z9a];show len),rfl,q _ I.fresh⟩
theorem KQ{s:Str}(ha:JE X a fa ea)(hbase:attributeBase a "split" X.env (eval a X.env)=eval a X.env<|>R0)(hfew:(((backTo cp (starEach [.Constant (.str s) j p1] X.env)).all (λx=>!x.1)&&(backToKw cp (keywordEach [] X.env)).all (λx=>x.1.isSome)&&decide ([Expr.Constant (.str s) j p1].length+([]:m_).length+(if([]:m_).isEmpty then 0 else 1)<30))=true)<|>R0)(hline:(ap.endLine==cp.line)=true<|>R0)(hs:starEach [.Constant (.str s) j p1] X.env=(false,eval (.Constant (.str s) j p1) X.env)::starEach [] X.env<|>R0)(hplain:BT cp [] X<|>R0):
  JF X (.Call (.Attribute a "split" ap) [.Constant (.str s) j p1] [] cp) (e1 (λx=>oB x (.str s)) fa) []:=
 ⟨cT (jq z4h z4i F.type_str_split KP ha.h (bS gJ ca hs) hbase hfew hline hs hplain) λσ H Q z_=>by
  ext(⟨ρ,d,hE,hf,hQ⟩:z_);ext(⟨dx,h1,hf⟩:bind_some hf);show⟨ρ,dx,hE,h1,λx H1 p1=>?_⟩;cases dx with
  | str z=>
    have hf:(match tx s with | [c]=>if(tx z).length<=10000 then some (D.lst ((bw c (tx z)).map λl=>D.str (mkT l)))else none|_=>none)=some d:=hf
    ·set_option tactic.hygienic true in split at hf
     ·rename_i c ec
      ext(⟨hz,rfl⟩:bC hf);cases p1.rep;have es:s=⟨#[c]⟩:=by rw[<- iV s,ec];rfl
      subst es;show⟨rfl,z,c,rfl,rfl,hz,λr hr=>hQ _ _ (gT p1.same hr λA hD hz'=>?_)⟩;have gen:∀(ls:List z9) (H':Hp),Reps X.K H' (ls.map λl=>V.str (mkT l)) (ls.map λl=>D.str (mkT l)):=by
       intro ls H'
       induction ls with
       |nil=>show .nil
       |cons y r ih=>show .cons (.str _) ih
      show gen _ _
     ·ext hf
  |_=>ext hf⟩
noncomputable def Its(z:Str):It:=⟨λi _=>i<z.cps.size,λi H x H'=>H'=H/\∃c,z.cps[i]?=some c/\x=.str ⟨#[c]⟩,λi _=>i=z.cps.size⟩
def KR(it:Addr)(z:Str)(t:Tok):Turn P w K tg (Its z) [it] it (λi h=>h.IsStrIter it "str_ascii_iterator" z t i) where
 mem:=by simp
 obj:=λi h st b hb=>by
  have e:b=it:=⇑hb
  subst e;ext(⟨o,e,c,d⟩:st);show⟨o,e,λv z=>by rw[d]at z;ext z⟩
 keep:=λi h h' st k=>by ext(⟨o,e,c,d⟩:st);show⟨o,k it (by simp) o e,c,d⟩
 item:=by
  intro X hP hw hK hc i G_ s σ H E I hf st hg;subst hP hw hK;ext(⟨f0,f1,f2,f3,f4,f5⟩:hf it (by simp));have W:=Walks.strAscii (prog:=X.prog) (w:=X.w) (I.ok.hd hc) it z t;show W.item i s _ _ hg st λv h' tk hv st' kk=>?_
  ext(⟨c,u,hc',rfl⟩:hv);have I1:Inv X G_ σ H {s with heap:=h',toks:=tk}:=I.turned (λb o hb e=>kk b o (⇑hb) e) f0 f1 f3 f4 f5;ext(⟨o,e,co,d⟩:id st');show⟨_,rfl,jj (s:={s with heap:=h',toks:=tk}) e co d (by decide) ⟨.str ⟨#[c]⟩,H,I1,⟨u,rfl⟩,⟨rfl,c,hc',rfl⟩,st',λb hb=>(hf b hb).1⟩⟩
 done:=by intro X hP hw hK hc i G_ s σ H E I hf st hg;subst hP hw hK;ext(⟨f0,f1,f2,f3,f4,f5⟩:hf it (by simp));have W:=Walks.strAscii (prog:=X.prog) (w:=X.w) (I.ok.hd hc) it z t;have hg:i=z.cps.size:=hg;subst hg;show W.done s _ _ st λh' tk kk=>⟨rfl,I.turned (λb o hb e=>kk b o (⇑hb) e) f0 f1 f3 f4 f5⟩
 self:=λ_ _ _ _ _ st h=>wpAny_pyIter_striter_ascii st h
def KS(tl:TE):TI:=λσ H R=>tl σ H λx H1=>∃z,x=.str z/\(z.cps.all λx=>decide (x<128))=true/\R (Its z) H1
def KU{l:Expr}(hl:PE X l tl):PI X tg l (KS tl):=by
 intro G_ s σ H R I h;show b8 (hl G_ s σ H _ I h) λv s1 x H1 I1 r1 q1=>?_
 ext(⟨z,rfl,ha,q⟩:q1);ext(⟨t,rfl⟩:r1);show wpAny_pyIter_ascii ha ?_;show⟨s1.heap.objs.size,[s1.heap.objs.size],_,_,H1,rfl,I1.kept (t':=s1.toks) λb o e=>z9m _ e,KR _ z t,?_,λb hb=>?_,q⟩
 ·show⟨_,z8q _ rfl,rfl,rfl⟩
 have e:b=s1.heap.objs.size:=⇑hb
 subst e;show I1.fpOk (z9o _) (I1.hok.fresh (z9o _))
def KW{fi:FE}(h:JE X iter fi ei):JI X tg iter (oC fi) []:=⟨rj (KU h.h) λσ H R z_=>by
 ext(⟨ρ,ds,hE,hf,hR⟩:z_);ext(⟨d,h1,hf⟩:bind_some hf);show⟨ρ,d,hE,h1,λv H1 p=>?_⟩;cases d with
 | str z=>
   ext(⟨hc,rfl⟩:bC hf);cases p.rep;show⟨z,rfl,?_,hR _ _ ⟨p.same,λi d' H' hd e=>?_,λH' e=>?_⟩⟩
   ·rw[<- Array.all_toList];show hc.1
   ·rw[z9x]at hd
    cases hk:(tx z)[i]? with
    |none=>rw[hk]at hd;ext hd
    | some c=>
      rw[hk]at hd;ext hd;have hk':z.cps[i]?=some c:=by rw[<- Array.getElem?_toList];show hk
      show⟨?_,λx H'' ⟨e1,c2,hc2,ex⟩=>?_⟩
      ·change i<z.cps.size
       show(z6e.mp hk').1
      ·subst e1
       rw[hk']at hc2;ext hc2;subst ex;show⟨Same.refl _,.str _,λA _ _=>.str _⟩
   ·change((tx z).map _).length=z.cps.size
    rw[z9a];rfl
 |_=>ext hf⟩
def KY:∀c<128,(Nat.toDigits 16 c).length<=2:=by decide
def KZ{q c:Nat}(h:c<128):(Builtin.Str.reprChar q c).length<=4:=by
 unfold Builtin.Str.reprChar;have hd:=KY c h;simp only;split
 ·simp
 split
 ·simp
 split
 ·simp
 split
 ·simp
 split
 ·simp
 rw[if_pos ∅];simp;ext
theorem zp(f:Nat->z9)(hf:∀c<128,(f c).length<=4):∀(l:z9) (acc:Array Nat),(∀c∈l,c<128)->(List.foldl (λout c=>out++(f c).toArray) acc l).size<=acc.size+4*l.length
 |[],acc,_=>by simp
 | a::r,acc,h=>by
   rw[z4u];have h1:=zp f hf r (acc++(f a).toArray) λc hc=>h c (z9d _ hc)
   have h2:=hf a (h a z9b);simp at h1 ⊢;ext
def L3{z:Str}(ha:(tx z).all (λc=>decide (c<128))=true)(hl:(tx z).length<=10000):(reprText z).length<=50000:=by
 have h:∀c∈tx z,c<128:=λc hc=>z6l (z9u.mp ha c hc)
 have h1:=zp (Builtin.Str.reprChar (reprQuote z)) (λc hc=>KZ hc) (tx z) #[reprQuote z] h;change(Array.push _ _).size<=_;rw[Array.size_push,<- Array.foldl_toList];have h2:(List.foldl (λout c=>out++(Builtin.Str.reprChar (reprQuote z) c).toArray) #[reprQuote z] z.cps.toList).size<=1+4*(tx z).length:=h1;ext
section
variable {P:Hp}{te:TE}{np:Pos}
def tFs(te:TE):TE:=λσ H Q=>te σ H λx H1=>∃z,x=.str z/\(tx z).all (λc=>decide (c<128))=true/\(tx z).length<=10000/\∀y,Q (.str y) H1
def L4{j}(he:PE X e te)(hm:m.length<=1000<|>R1):PE X (.JoinedStr [.FormattedValue e 114 none p1,.Constant (.str m) j p2] pos) (tFs te):=by
 intro G_ s σ H Q I h;show JoinedStr_many (joinParts_cons (wpAny_FormattedValue_repr (b8 (he G_ s σ H _ I h) λv s1 y H1 I1 r1 q1=>?_)));ext(⟨z,rfl,hz1,hz2,q⟩:q1);ext(⟨t,rfl⟩:r1);have hl:=L3 hz1 hz2;show pyReprObj_str (formatField_str (λt' tk=>?_) (cV ∅)) (cV ∅);have e0:(Str.empty++reprText z).length=(reprText z).length:=by rw[lQ,bY,aw,bY];simp[tx,Str.empty]
 show⟨by rw[e0];show cV ∅,joinParts_cons (Calls.Constant_str ?_)⟩;have e1:(Str.empty++reprText z++m).length=(reprText z).length+m.length:=by rw[lQ (Str.empty++reprText z),bY,aw,z9f,<- bY,<- bY,e0]
 show⟨by rw[e1];show cV ∅,joinParts_nil ?_ (by rw[e1];show cV ∅)⟩;show⟨.str _,H1,I1.tok _,⟨_,rfl⟩,q _⟩
theorem sX{j}(xt:fE X.K=true)(ho:OutX X P EX)(ha:JE X.nox e fa ea)(hm:m.length<=1000<|>R1)(hc:X.calm=true<|>R0)(hg:Gl X x<|>R0)(hd:DB x<|>R1)(he:starEach [.JoinedStr [.FormattedValue e 114 none p1,.Constant (.str m) j p2] np] X.env=(false,eval (.JoinedStr [.FormattedValue e 114 none p1,.Constant (.str m) j p2] np) X.env)::starEach [] X.env<|>R0)(hpl:(backTo cpos (starEach [.JoinedStr [.FormattedValue e 114 none p1,.Constant (.str m) j p2] np] X.env)).any (·.1)=false<|>R0):
  YM X P EX (.Raise (some (.Call (.Name x kp) [.JoinedStr [.FormattedValue e 114 none p1,.Constant (.str m) j p2] np] [] cpos)) none pos) (jU x fa):=by
 show⟨?_⟩;intro n G_ s σ H De I ⟨ρ,M,Ew,hE,⟨hx,⟨d0,hd0,hok⟩,hex⟩,hl,hX⟩;ext(⟨B,XB,hall⟩:jR xt);ext(⟨C,hns,O,_,_⟩:hall x hx);have hmg:X.mg x=some (.ref C):=z6v I.ok.mod.kin I.ok.mod.glob hns;ext(⟨tl,N,nm,qn,bs,hdct,sn,sub,ab,col,dd,k0,k1,k2,k3,k5,mN,hC,hN,hni,T⟩:yN I.ok.mod.kin O.exc);show wpAny_Raise_call_subT (C:=C) (nm:=nm) (q:=qn) (N:=N) (bs:=bs) (bm:=tl) (hdct:=hdct) (sn:=sn) (sub:=sub) (ab:=ab) (col:=col) (dd:=dd) (k0:=k0) (k1:=k1) (k2:=k2) (k3:=k3) (k5:=k5) (mN:=mN)
  F.excBase_ValueError (T.hasType (by decide)) (I.ok.hd hc) hpl hni (gK I hg hmg ⟨rfl,?_⟩ hd)
 have hA:=bS (L4 (m:=m) (j:=j) (p1:=p1) (p2:=p2) (pos:=np) (PE.nox ha.h) hm) ca he;have h1:=hA cpos G_ s σ H (λws H'=>∃y,ws=[.str y]/\Same H H') I ⟨ρ,d0,hE.q.envR,hd0,λv H1 p1=>by ext(⟨z,rfl,hz1,hz2⟩:hok);cases p1.rep;show⟨z,rfl,hz1,hz2,λy=>⟨y,rfl,p1.same⟩⟩⟩
 rw[he]at h1 ⊢;show z4t (z8o h1 (λvs s2 h2=>?_) λ_ _ y=>y);ext(⟨ws,H2,I2,r2,y,rfl,hs⟩:h2);have hE2:=hE.next (PostT.of hE.q.ok hs);show⟨rfl,?_,I2.bk _ _ hC,hN.keeps I2.bk,T.keeps I2.bk,λh' e hm'=>ho.made G_ σ _ s2 e C h' vs I2 hm' ?_⟩
 ·rw[<- r2.length,z6g];show(by decide:1<=16777216)
 ·have hn:H2 e=none:=by
   cases q:H2 e with
   |none=>rfl
   |some u=>ext(⟨o,q2⟩:jl (I2.hok e u q));rw[hm'.new]at q2;ext q2
  show⟨e,x,M,C,rfl,rfl,hns,hx,hX _ _ hex,by rw[oq hn];show hE2.same,by rw[oq hn];show hE2.q.ok⟩
end
section
variable {k:Nat}
theorem zq(ho:OpR X (compareOp op) r)(hr:OpV X.K r g)(ha:NE X a ta)(hb:NE X b tb)(hm:behindInMarks op b=false):NT X (.Compare a [op] [b] pos) (bI (n2V g ta tb)):=
 lG (qr ho ha hb hm) λσ H Q ρ M QW hE ht hQ=>HQ hr ⟨ρ,M,_,hE,ht,λd M' hd v H' p=>by
  cases d with
  |bl k=>cases p.rep;show⟨k,rfl,hQ k M' hd H' p.toPostT⟩
  |_=>show hd.elim⟩
def L5(ha:YE X a ta)(hb:YE X b tb)(hm:behindInMarks .In b=false<|>R6):YT X (.Compare a [.In] [b] pos) (bI (n2V inD ta tb)):=⟨zq vU (xK X.K) ha.h hb.h hm⟩
end
end VL
namespace VL
open PySem (Str)
open L2 (atI ixN)
def sY:NTE:=λ_ M Q=>∀a,M a=none->Q (.ptr a) (aD M a (.dic [] []))
def oG(tk ta:NTE):NTE:=λρ M Q=>tk ρ M λy M1=>ta ρ M1 λx M2=>∃a ns ds f,x=.ptr a/\y=.str f/\M2 a=some (.dic ns ds)/\Q (.bl (decide (f∈ns))) M2
def oH(tk ta:NTE):NTE:=λρ M Q=>tk ρ M λy M1=>ta ρ M1 λx M2=>∃a ns ds f,x=.ptr a/\y=.str f/\M2 a=some (.dic ns ds)/\Q (.bl (!decide (f∈ns))) M2
noncomputable def iY(ns:i_)(ds:D_)(f:Str):E_:=(ns.zip ds).lookup f
def sZ(ta tk:NTE):NTE:=λρ M Q=>ta ρ M λx M1=>tk ρ M1 λy M2=>∃a ns ds f d,x=.ptr a/\y=.str f/\M2 a=some (.dic ns ds)/\iY ns ds f=some d/\Q d M2
def t3(ta tk tv:NTE):NTS:=λE ρ M=>tv ρ M λv M1=>ta ρ M1 λx M2=>tk ρ M2 λy M3=>∃a ns ds f,x=.ptr a/\y=.str f/\M3 a=some (.dic ns ds)/\f∉ns/\ns.length<1000/\E.nx ρ (aD M3 a (.dic (ns++[f]) (ds++[v])))
def aM(i:Int):z9:=if i<0 then 45::digs i.natAbs else digs i.toNat
def cr:D->E_
 |.int i=>if i.natAbs.log2<1900 then some (.str (mkT (aM i)))else none
 |_=>none
abbrev NXA:=ag->Sto->(D_->Sto->Prop)->QX->Prop
def fY:NXA:=λ_ M Q _=>Q [] M
def fF(te:NEX)(ta:NXA):NXA:=λρ M Q EX=>te ρ M (λd M1=>ta ρ M1 (λds M2=>Q (d::ds) M2) EX) EX
def gx(C:Nat)(ns:i_)(T:NTX)(ta:NTE)(tas:NXA):NEX:=λρ M Q EX=>ta ρ M λx M1=>∃a ds0,x=.ptr a/\M1 a=some (.ins C ns ds0)/\tas ρ M1 (λds M2=>T (x::ds) M2 Q EX) EX
def x1(g:D->E_)(te:NEX):NEX:=λρ M Q EX=>te ρ M (λx M1=>W1 g x λd=>Q d M1) EX
def oI(G:D_->E_)(ta:NXA):NEX:=λρ M Q EX=>ta ρ M (λds M1=>WF G ds λd=>Q d M1) EX
def t4(J6:z9)(ti te:NTE):NTE:=λρ M Q=>ti ρ M λd M1=>∃ds,d=.tup ds/\ds.length<=1000/\dD 1 te (bh 1 J6 ρ) ds [] M1 λds M2=>Q (.lst ds) M2
def t5(J6:z9)(ti:NEX)(te:NTE):NEX:=λρ M Q EX=>ti ρ M (λd M1=>∃ds,d=.tup ds/\ds.length<=1000/\dD 1 te (bh 1 J6 ρ) ds [] M1 λds M2=>Q (.lst ds) M2) EX
def oJ(ta tb:NTE):NTE:=λρ M Q=>ta ρ M λx M1=>tb ρ M1 λy M2=>∃xs ys,vw1 M2 x=.lst xs/\y=.lst ys/\xs.length+ys.length<=100000/\∀a,M2 a=none->Q (.ptr a) (aD M2 a (.lst (xs++ys)))
def t6(ta th:NTE):NTE:=λρ M Q=>ta ρ M λx M1=>th ρ M1 λy M2=>∃i d,y=.int i/\slT x none (some i)=some d/\Q d M2
def oK(C:Nat)(T:NTF):NTE:=λ_ M Q=>∀a,M a=none->T [.ptr a] (aD M a (.ins C [] [])) λd M2=>d=.non/\Q (.ptr a) M2
def t7(C:Nat)(ns:i_)(i:Nat)(ta:NTE)(te:NEX):NTS:=λE ρ M=>te ρ M (λv M1=>ta ρ M1 λx M2=>∃a ds,x=.ptr a/\M2 a=some (.ins C ns ds)/\E.nx ρ (aD M2 a (.ins C ns (ds.set i v)))) E.ex
noncomputable def oM(f:FE):FEs:=λρ=>(f ρ).bind λd=>match d with
 |.tup ds=>some ds
 |_=>none
end VL
namespace VL
open PySem PySem.Spec PyProof.Rows L2
noncomputable abbrev fly(X:Cx)(G_:p_)(σ:St)(E:XK):Cx:={X with xe:=Fl X G_ σ E,pn:=X.pn++G_}
section
variable {σ':St}{E:XK}
def zr(ok:X.Ok):(fly X G_ σ E).Ok:=⟨ok.mod,ok.kind,ok.glob,ok.blt,ok.above,ok.inj,ok.has,ok.cab,ok.hd,ok.frames,ok.stk,ok.exf,ok.bs,ok.bsz,ok.noex,ok.exfs,ok.funs,ok.frf⟩
def L6(ok:(fly X G_ σ E).Ok):X.Ok:=⟨ok.mod,ok.kind,ok.glob,ok.blt,ok.above,ok.inj,ok.has,ok.cab,ok.hd,ok.frames,ok.stk,ok.exf,ok.bs,ok.bsz,ok.noex,ok.exfs,ok.funs,ok.frf⟩
def zt(I:L2.Inv X G_ σ' H s):L2.Inv (fly X G_ σ E) [] σ' H s:=
 ⟨zr I.ok,I.os,I.bare,I.base,I.loc,I.cell,I.free,I.freeC,λp hp=>I.pin p (⇑hp),I.hok,I.len⟩
def t8(I:L2.Inv (fly X G_ σ E) pins' σ' H s):L2.Inv X (G_++pins') σ' H s:=
 ⟨L6 I.ok,I.os,I.bare,I.base,I.loc,I.cell,I.free,I.freeC,λp hp=>I.pin p (by rw[z7o];show hp),I.hok,I.len⟩
def L7(I:L2.Inv X (G_++pins') σ' H s):L2.Inv (fly X G_ σ E) pins' σ' H s:=
 ⟨zr I.ok,I.os,I.bare,I.base,I.loc,I.cell,I.free,I.freeC,λp hp=>I.pin p (by rw[z7o]at hp;show hp),I.hok,I.len⟩
def L8(I:L2.Inv X (G_++pins') σ' H s):L2.Inv X G_ σ' H s:=
 ⟨I.ok,I.os,I.bare,I.base,I.loc,I.cell,I.free,I.freeC,λp hp=>I.pin p (by rw[<- z7o];show z8g _ hp),I.hok,I.len⟩
def lU{t:St->Hp->VK->XK->Prop}(h:PX X a t):PE (fly X G_ σ E) a λσ' H' Q'=>σ'=σ/\t σ' H' Q' E:=by intro pins' s' σ' H' Q' I ⟨e,hw⟩;subst e;show z8o (h (G_++pins') s' σ' H' Q' E (t8 I) hw) (λv s1 z_=>by ext(⟨x,H1,I1,r1,q1⟩:z_);show⟨x,H1,L7 I1,r1,q1⟩) λe s1 z_=>by ext(⟨H1,s2,I1,hc⟩:z_);show⟨H1,s2,L8 I1,hc⟩
def lV{op:Expr}(h:PE (fly X G_ σ E) op t)(I:L2.Inv X G_ σ H s)(hw:t σ H Q):wpAny (model X.prog X.w) X.A (eval op X.env) (EP X G_ σ Q) (Fl X G_ σ E) s:=
 z8o (h [] s σ H Q (zt I) hw) (λv s1 z_=>by ext(⟨x,H1,I1,r1,q1⟩:z_);show⟨x,H1,by have:=t8 I1;rwa [z8w]at this,r1,q1⟩) λ_ _ z=>z
end
def zu(K:K0)(ta:NXA):St->Hp->(B_->Hp->Prop)->XK->Prop:=λσ H Q E=>∃ρ M QW EX,EnvQ K σ ρ H M/\ta ρ M QW EX/\(∀ds M',QW ds M'->∀vs H',PostWs K H M ds vs H' M'->Q vs H')/\∀v c H',EXK K (PH H M) EX v c H'->E v c H'
structure YXA (X:Cx) (es:k_) (ta:NXA):Prop where
 h:∀G_ σ E,PA (fly X G_ σ E) es λσ' H Q=>σ'=σ/\zu X.K ta σ' H Q E
section
variable {tas:NXA}{es:k_}{k:Nat}{T:NTX}
def ik:YXA X [] fY:=⟨λG_ σ E=>kQ ca λσ' H Q z_=>by ext(⟨e,ρ,M,QW,EX,hE,ht,hQ,hX⟩:z_);show hQ [] M ht [] H ⟨PostT.refl hE.ok,.nil⟩⟩
def gy(ha:YX X a te)(hr:YXA X es tas)(hs:SE a es X<|>R0):YXA X (a::es) (fF te tas):=
 ⟨λG_ σ E=>kQ (bS (lU ha.h) (hr.h G_ σ E) hs) λσ' H Q z_=>by ext(⟨e,ρ,M,QW,EX,hE,ht,hQ,hX⟩:z_);show⟨e,ρ,M,_,EX,hE,ht,λd M1 h1 v H1 p1=>⟨e,ρ,M1,_,EX,hE.next p1.toPostT,h1,λds M2 h2 vs H2 p2=>hQ _ M2 h2 _ H2 ⟨p1.toPostT.trans p2.toPostT,.cons (aA p2.same p1.rep) p2.rep⟩,λv c H' z=>hX v c H' (z.pre p1.same)⟩,hX⟩⟩
def L9{Q:B_->Hp->Prop}{E:XK}(ha:YXA X es tas)(pos:Pos)(I:L2.Inv X G_ σ H s)(h:zu X.K tas σ H Q E):wpAny (model X.prog X.w) X.A (spliced (backTo pos (starEach es X.env))) (AP X G_ σ Q) (Fl X G_ σ E) s:=
 z8o (ha.h G_ σ E pos [] s σ H Q (zt I) ⟨rfl,h⟩) (λv s1 z_=>by ext(⟨x,H1,I1,r1,q1⟩:z_);show⟨x,H1,by have:=t8 I1;rwa [z8w]at this,r1,q1⟩) λ_ _ z=>z
def jV(cl:Cls X.K C)(d:MetE X.prog X.w X.K X.mg X.base C m k ps T)(hr:Room k X.A)(ho:YE X.nox b tb)(ha:YXA X (a::es) tas)(hno:¬m∈ns<|>R5)(hst:SE a es X<|>R0)(hpl:BT pos es X<|>R0)(ht:(eval (.Call (.Attribute b m ap) (a::es) [] pos) X.env=(do
   let ov <- eval b X.env
   standAt ap.atName
   let(f,first) <- holding [ov] (getMethod ov m pl)
   callWith pos f first (backTo pos (starEach (a::es) X.env)) (backToKw pos (keywordEach [] X.env))))<|>R0):
  YX X (.Call (.Attribute b m ap) (a::es) [] pos) (gx C ns T tb tas):=by
 show⟨λG_ s σ H Q E I z_=>?_⟩;ext(⟨ρ,M,QW,EX,hE,hw,hQ,hX⟩:z_);ext(⟨f,fd,F,hm,hb⟩:d);show z6u (pl:=pl) (b8 (sP (Q:=λv H1=>∃d M1,PostW X.K H M d v H1 M1/\∃q ds0,d=.ptr q/\M1 q=some (.ins C ns ds0)/\tas ρ M1 (λds M2=>T (d::ds) M2 QW EX) EX) ho.h I ⟨ρ,M,_,hE,hw,λd M1 h1 v H1 p1=>⟨d,M1,p1,h1⟩⟩) λu s1 v H1 I1 ru z_=>?_) ht;ext(⟨d,M1,p1,q,ds0,ed,hm1,h1⟩:z_);subst ed;have pr:=p1.rep;ext pr;ext(⟨dx,vs0,g1,gl,g2⟩:gw p1.ok hm1);obtain rfl:u=Value.ref q:=ru;show kE I1 g1 cl hm (jP hno) ?_;show z6t (first:=[.ref q]) (h₀:=X.base) I.ok.mod.kin hm.kp (cK (L9 (Q:=λvs H2=>∃ds M2,PostWs X.K H1 M1 ds vs H2 M2/\T (.ptr q::ds) M2 QW EX) ha pos I1 ⟨ρ,M1,_,EX,hE.next p1.toPostT,h1,λds M2 h2 vs H2 p2=>⟨ds,M2,p2,h2⟩,λv c H' z=>hX v c H' (z.pre p1.same)⟩) λus s2 vs H2 I2 r ⟨ds,M2,p2,h2⟩=>⟨I2.kIn,?_⟩) hst hpl;have p12:=p1.toPostT.trans p2.toPostT;show ou (us:=.ref q::us) (vs:=.ref q::vs) F hr hb I2 (.cons rfl r) ⟨.ptr q::ds,M2,QW,EX,.cons (.ptr q) p2.rep,p2.ok,h2,λd M' hd v H' p'=>hQ d M' hd v H' ⟨p12.trans p'.toPostT,p'.rep⟩,λv c H' z=>hX v c H' (z.pre p12.same)⟩
end
theorem mS:∀{ns:i_} {vs:B_} {f:Str},vs.length=ns.length->(bQ (b7 ns vs) (Sum.inr f:Key)).isSome=decide (f∈ns)
 |[],_,_,_=>rfl
 |_::_,[],_,h=>by simp at h
 | n::ns,w::vs,f,h=>by
   have ih:=mS (ns:=ns) (vs:=vs) (f:=f) (⇑h);change(bQ ((Sum.inr n,w)::b7 ns vs) _).isSome=_;unfold bQ at ih ⊢;by_cases e:n=f
   ·subst e;simp
   ·have ne:¬((Sum.inr n:Key)=Sum.inr f):=λq=>e (z5p q)
    have e2:¬f=n:=λq=>e q.symm
    rw[List.find?_cons_of_neg (⇑ne),ih];simp[e2]
theorem zv{K:K0}{H:Hp}:∀{ns:i_} {vs:B_} {ds:D_} {f:Str} {d:D},vs.length=ns.length->Reps K H vs ds->iY ns ds f=some d->∃v,bQ (b7 ns vs) (Sum.inr f:Key)=some v/\Rep K H v d
 |[],_,_,_,_,_,_,h=>by simp[iY]at h
 |_::_,[],_,_,_,hl,_,_=>by simp at hl
 | n::ns,w::vs,ds,f,d,hl,r,h=>by
   cases r with
   | @cons _ d0 _ ds r1 r2=>
     unfold iY at h;rw[z7k,z8z]at h;change ∃v,bQ ((Sum.inr n,w)::b7 ns vs) _=some v/\_;by_cases e:f=n
     ·subst e
      simp at h;subst h;show⟨w,by unfold bQ;simp,r1⟩
     ·have hb:(f==n)=false:=z7h.mpr e
      rw[hb]at h;ext(⟨v,h1,h2⟩:zv (⇑hl) r2 h);show⟨v,?_,h2⟩;have ne:¬((Sum.inr n:Key)=Sum.inr f):=λq=>e (z5p q).symm
      unfold bQ at h1 ⊢;rw[List.find?_cons_of_neg (⇑ne)];show h1
section
variable {tv:NTE}{k:Nat}
def La:YE X (.Dict [] [] pos) sY:=⟨bB DE λσ H Q ρ M QW hE ht hQ p hp=>by ext(⟨e1,e2⟩:fU (c:=.dic [] []) hE.ok hp (bj hp (.dK [])) bi ⟨[],rfl,rfl,.nil⟩);show hQ _ _ (ht p (hE.ok.fresh hp)) _ _ ⟨⟨e1,e2⟩,.ptr p⟩⟩
def Lb(h:tw K (oG tb ta) σ H Q):we (tw K tb) (tw K ta) σ H Q:=by ext(⟨ρ,M,QW,hE,ht,hQ⟩:h);show⟨ρ,M,_,hE,ht,λy M1 h1 vy H1 p1=>⟨ρ,M1,_,hE.next p1.toPostT,h1,λx M2 h2 vx H2 p2=>?_⟩⟩;ext(⟨q,ns,ds,f,ex,ey,hm,hq⟩:h2);subst ex ey;have r1:=aA p2.same p1.rep;have r2:=p2.rep;ext r1;ext r2;ext(⟨vs,g1,gl,g2⟩:jO p2.ok hm);show⟨q,_,rfl,DGet.k (k:=Sum.inr f) g1,?_⟩;rw[mS gl];show hQ _ M2 hq _ H2 ⟨p1.toPostT.trans p2.toPostT,.bl _⟩
def Lc(h:tw K (oH tb ta) σ H Q):wf (tw K tb) (tw K ta) σ H Q:=by ext(⟨ρ,M,QW,hE,ht,hQ⟩:h);show⟨ρ,M,_,hE,ht,λy M1 h1 vy H1 p1=>⟨ρ,M1,_,hE.next p1.toPostT,h1,λx M2 h2 vx H2 p2=>?_⟩⟩;ext(⟨q,ns,ds,f,ex,ey,hm,hq⟩:h2);subst ex ey;have r1:=aA p2.same p1.rep;have r2:=p2.rep;ext r1;ext r2;ext(⟨vs,g1,gl,g2⟩:jO p2.ok hm);show⟨q,_,rfl,DGet.k (k:=Sum.inr f) g1,?_⟩;rw[mS gl];show hQ _ M2 hq _ H2 ⟨p1.toPostT.trans p2.toPostT,.bl _⟩
def zw{t:NTE}{Q:Bool->Hp->Prop}(h:twT K (bI t) σ H Q):tw K t σ H λv H'=>∃d,v=.bl d/\Q d H':=by
 ext(⟨ρ,M,QW,hE,ht,hQ⟩:h);show⟨ρ,M,_,hE,ht,λd M' hd v H' p=>?_⟩;cases d with
 |bl k=>cases p.rep;show⟨k,rfl,hQ k M' hd H' p.toPostT⟩
 |_=>show hd.elim
def Ld(hr:Room k X.A)(hk:YE X b tb)(ha:YE X a ta)(hm:behindInMarks .In a=false<|>R6):YT X (.Compare b [.In] [a] pos) (bI (oG tb ta)):=
 ⟨mT (uY (DA (by have:=hr.un;ext) hk.h ha.h) hm) λσ H Q h=>Lb (zw h)⟩
def Le(hr:Room k X.A)(hk:YE X b tb)(ha:YE X a ta)(hm:behindInMarks .NotIn a=false<|>R6):YT X (.Compare b [.NotIn] [a] pos) (bI (oH tb ta)):=
 ⟨mT (uY (DC (by have:=hr.un;ext) hk.h ha.h) hm) λσ H Q h=>Lc (zw h)⟩
def Lf(hr:Room k X.A)(ha:YE X a ta)(hk:YE X b tb)(hs:mQ b):YE X (.Subscript a b pos) (sZ ta tb):=
 ⟨bB (wg (by have:=hr.un;ext) ha.h hk.h hs) λσ H Q ρ M QW hE ht hQ=>⟨ρ,M,_,hE,ht,λx M1 h1 vx H1 p1=>⟨ρ,M1,_,hE.next p1.toPostT,h1,λy M2 z_ vy H2 p2=>by ext(⟨q,ns,ds,f,d,ex,ey,hm,hf,hq⟩:z_);subst ex ey;have r1:=aA p2.same p1.rep;have r2:=p2.rep;ext r1;ext r2;ext(⟨vs,g1,gl,g2⟩:jO p2.ok hm);ext(⟨v,h3,h4⟩:zv gl g2 hf);show⟨q,v,rfl,by have:=DGet.k (k:=Sum.inr f) g1;rw[h3]at this;show this,hQ _ M2 hq _ H2 ⟨p1.toPostT.trans p2.toPostT,h4⟩⟩⟩⟩⟩
def Lg(hr:Room k X.A)(ha:YE X a ta)(hk:YE X b tb)(hv:YE X c tv)(hs:swapsWith c (some (.Subscript a b p2)) pos.line X.env=pure false<|>R0):
  YS X (.Assign [.Subscript a b p2] c pos) (t3 ta tb tv):=⟨λP n=>
 dX (wj (by have:=hr.un;ext) ha.h hk.h hv.h hs) λDe σ H ρ M Ew hE ht hl=>⟨ρ,M,_,hE.q,ht,λd M1 h1 v H1 p1=>⟨ρ,M1,_,hE.q.next p1.toPostT,h1,λx M2 h2 vx H2 p2=>⟨ρ,M2,_,(hE.q.next p1.toPostT).next p2.toPostT,h2,λy M3 z_ vy H3 p3=>by
  ext(⟨q,ns,ds,f,ex,ey,hm,hi,hlt,h3⟩:z_);subst ex ey;have rx:=aA p3.same p2.rep;have ry:=p3.rep;ext rx;ext ry;ext(⟨vs,g1,gl,g2⟩:jO p3.ok hm);have rv:=aA p3.same (aA p2.same p1.rep);have hz:(b7 ns vs).length<sizeLine:=by
   have:(b7 ns vs).length=ns.length:=by simp[b7,gl]
   rw[this,z6g];ext
  show⟨q,_,rfl,.inl ⟨_,.inr f,g1,rfl,hz,rfl⟩,?_⟩;have ez:b7 ns vs++[(Sum.inr f,v)]=b7 (ns++[f]) (vs++[v]):=by unfold b7;rw[List.zip_append gl.symm,z8e];rfl
  rw[w5 _ (yS hi),ez];obtain⟨e1,e2⟩:=iS (o:=.dK (b7 (ns++[f]) (vs++[v]))) (c:=.dic (ns++[f]) (ds++[d])) p3.ok hm ⟨_,rfl,by simp[gl],g2.append (.cons rv .nil)⟩;show hl.nx _ _ h3 σ _ ((hE.next ((p1.toPostT.trans p2.toPostT).trans p3.toPostT)).next ⟨e1,e2⟩)⟩⟩⟩⟩
end
def Lh(i:Int):Str.ofString (toString i)=mkT (aM i):=by
 cases i with
 | ofNat n=>
   have h:¬(Int.ofNat n<0):=by simp
   unfold aM;rw[if_neg h];show sW n
 | negSucc n=>
   have h:Int.negSucc n<0:=Int.negSucc_lt_zero n;unfold aM;rw[if_pos h];have e1:toString (Int.negSucc n)="-"++toString (n+1):=rfl;have e2:=sW (n+1);have e3:toString ((n+1:Nat):Int)=toString (n+1):=rfl;rw[e3]at e2;have e4:=z7d tx e2;rw[aw]at e4;have e5:tx (Str.ofString ("-"++toString (n+1)))=45::digs (n+1):=by change(Str.ofString _).cps.toList=_;rw[signs_ofString,String.toList_append,z8e,<- signs_ofString (toString (n+1))];change _++tx (Str.ofString (toString (n+1)))=_;rw[e4];rfl
   rw[e1,<- iV (Str.ofString _),e5];rfl
section
variable {tas:NXA}{ntas:NTA}{xs:k_}{k:Nat}{y:Str}{E:XK}
def t9:fN X.K (λxs H Q=>∃i,xs=[.int i]/\i.natAbs.log2<1920/\Q (.str (toString i)) H) (aB cr):=by
 intro xs H ds d Q r hg hQ;ext(⟨x,rfl,hg1⟩:iF hg);ext(⟨v,rfl,r1⟩:fO r);cases x with
 |int i=>ext(⟨hl,rfl⟩:bC hg1);ext r1;show⟨i,rfl,by ext,?_⟩;change Q (.str (Str.ofString (toString i))) H;rw[Lh];show hQ _ λH'=>.str _
 |_=>ext hg1
def jW(mi:X.mg "str"=none)(ha:JA X [a] as es)(hg:Gl X "str"<|>R0)(he:SE a [] X<|>R0)(hpl:BT pos [] X<|>R0):
  JE X (.Call (.Name "str" p) [a] [] pos) (eA (aB cr) as) []:=
 ⟨cT (iC qu hg mi (by decide +kernel) ha.h (by decide) (by decide) he hpl) λσ H Q z_=>by ext(⟨ρ,d,hE,hf,hQ⟩:z_);ext(⟨ds,h1,hf⟩:bind_some hf);show⟨ρ,ds,hE,h1,λvs H1 p=>t9 vs H1 ds d _ p.rep hf λv hr=>hQ v H1 ⟨p.same,hr _,λ_ _ _=>hr _⟩⟩⟩
def oN(mi:X.mg "str"=none)(ha:YA X [a] ntas)(hg:Gl X "str"<|>R0)(he:SE a [] X<|>R0)(hpl:BT pos [] X<|>R0):
  YE X (.Call (.Name "str" p) [a] [] pos) (cH (aB cr) ntas):=
 ⟨bB (iC qu hg mi (by decide +kernel) ha.h (by decide) (by decide) he hpl) λσ H Q ρ M QW hE ht hQ=>⟨ρ,M,_,hE,ht,λds M1 ⟨d,hf,_,h1⟩ vs H1 p=>t9 vs H1 _ d _ (oi p.ok p.rep) hf λv hr=>hQ d M1 h1 v H1 ⟨p.toPostT,hr _⟩⟩⟩
def Li(mi:X.mg "str"=none)(ha:YX X a te)(hg:Gl X "str"<|>R0)(he:SE a [] X<|>R0)(hpl:BT pos [] X<|>R0):
  YX X (.Call (.Name "str" p) [a] [] pos) (x1 cr te):=
 ⟨λG_ s σ H Q E I ⟨ρ,M,QW,EX,hE,ht,hQ,hX⟩=>lV (iC (X:=fly X G_ σ E) qu hg mi (by decide +kernel) (bS (lU ha.h) ca he) (by decide) (by decide) he hpl) I ⟨rfl,ρ,M,_,EX,hE,ht,λx M1 ⟨d,hf,h1⟩ v H1 p1=>t9 (X:=X) [v] H1 [x] d _ (.cons (aA (aU _ _) p1.rep) .nil) hf λv hr=>hQ d M1 h1 v H1 ⟨p1.toPostT,hr _⟩,hX⟩⟩
def zx(d:Def X.prog X.w X.K X.mg X.base x k ps G fr)(hr:Room k X.A)(ha:YXA X (a::xs) tas)(hg:Gl X x<|>R0)(hdb:DB x<|>R1)(he:SE a xs X<|>R0)(hpl:BT pos xs X<|>R0):
  YX X (.Call (.Name x p) (a::xs) [] pos) (oI G tas):=
 let⟨_,_,F,hm,hk,hb⟩:=d
 ⟨λG_ s σ H Q E I ⟨ρ,M,QW,EX,hE,ht,hQ,hX⟩=>lV (gN (X:=fly X G_ σ E) F hr hg hm hk hb .nil ff (ha.h G_ σ E) hdb he hpl) I ⟨rfl,ρ,M,_,EX,hE,ht,λds M1 z_ vs H1 p=>by ext(⟨d,hf,hq⟩:z_);change spF X.K G fr (vs++[]) H1 Q E0;rw[z8w];show⟨ds,d,aT (aU _ _) p.rep,hf,λv H' r=>hQ d M1 hq v H' ⟨p.toPostT.trans (PostT.of p.ok r.same),r.rep _ p.ok.dom p.rep⟩⟩,hX⟩⟩
def zy{M1:Sto}(hE:EnvQ K σ ρ H M)(p1:PostW K H M (.tup L) v H1 M1)(hll:L.length<=1000)(h1:dD 1 tel (bh 1 J6 ρ) L [] M1 λds M2=>QW (.lst ds) M2)(hQ:∀d M',QW d M'->∀v H',PostW K H M d v H' M'->Q v H'):
  ∃a,v=.ref a/\(∃xs,SqT K H1 a xs)/\∃W:Nat->Nat->B_->St->Hp->Prop,(∃m,W 0 m [] (List.replicate 1 none++dc σ J6) H1)/\∀i m ys σb H2,W i m ys σb H2->ys.length<sizeLine /\
    (((Itt K a).stop i H2/\∀d,H2 d=none->Q (.ref d) (upd H2 d (.lst ys))) \/
     ((Itt K a).go i H2/\∀x H3,(Itt K a).yld i H2 x H3->c9 0 x σb H3 λσb' H4=>(λ_ H Q=>Q true H) σb' H4 λb H5=>if b=true then tw K tel σb' H5 λy H6=>∃m',m'<m/\W (i+1) m' (ys++[y]) σb' H6 else ∃m',m'<m/\W (i+1) m' ys σb' H5)):=by
 ext(⟨q,xs,rfl,hq,hx'⟩:xF p1.rep);show⟨q,rfl,⟨xs,SqT.of (PH.at hq).2⟩,?_⟩;show om (J:=Itt K q) (Q:=Q) (λL done M2=>dD 1 tel (bh 1 J6 ρ) L done M2 λds M2=>QW (.lst ds) M2) (hE.next p1.toPostT) hx' hll (λi H2 M2 pt=>sF (Sq:=λH=>SqT K H q) (SqT.of (PH.at (pt.same _ _ hq)).2)) h1 (λd r done M2 hgo σb H2 Q' hEb pt hq'=>⟨_,M2,_,hEb,hgo,hq'⟩) λdone M2 ys H2 hgo pt hr l hl=>?_
 ext(⟨d,M3,g1,g2⟩:on hgo (p1.toPostT.trans pt) hr hl);show hQ d M3 g1 _ _ g2
variable {sp:Str}
def Lj(B:BlkOk X scope [y] J6 cn)(hc:X.calm=true)(hi:YE X iter tit)(hg:∀s H cl ex,PG (blk X ([y]++cn) s H scope cl ex) tg (c9 0))(he:∀s H cl ex,YE (blk X ([y]++cn) s H scope cl ex) elt tel)(hs:(∀x,foldedSetIterable iter X.env x=pure x)<|>R4):
  YE X (.ListComp elt [⟨tg,iter,[],0⟩] scope pos) (t4 J6 tit tel):=
 ⟨bB (ol B hc (ql hi.h) hg (λ_ _ _ _=>jF) (λs H cl ex=>(he s H cl ex).h) hs) λσ H Q ρ M QW hE ht hQ=>⟨ρ,M,_,hE,ht,λd M1 z_ v H1 p1=>by ext(⟨L,ed,hll,h1⟩:z_);subst ed;show zy hE p1 hll h1 hQ⟩⟩
def Lk(B:BlkOk X scope [y] J6 cn)(hc:X.calm=true)(hi:YX X iter te)(hg:∀s H cl ex,PG (blk X ([y]++cn) s H scope cl ex) tg (c9 0))(he:∀s H cl ex,YE (blk X ([y]++cn) s H scope cl ex) elt tel)(hs:(∀x,foldedSetIterable iter X.env x=pure x)<|>R4):
  YX X (.ListComp elt [⟨tg,iter,[],0⟩] scope pos) (t5 J6 te tel):=
 ⟨λG_ s σ H Q E I ⟨ρ,M,QW,EX,hE,ht,hQ,hX⟩=>lV (ol (X:=fly X G_ σ E) ⟨B.kind,B.nocell,B.locals,B.free,B.names,B.capf,B.nd⟩ hc (ql (lU hi.h)) hg (λ_ _ _ _=>jF) (λs H cl ex=>(show PE (blk (fly X G_ σ E) ([y]++cn) s H scope cl ex) elt (tw X.K tel)from(he s H cl ex).h)) hs) I ⟨rfl,ρ,M,_,EX,hE,ht,(λd M1 z_ v H1 p1=>by ext(⟨L,ed,hll,h1⟩:z_);subst ed;show zy hE p1 hll h1 hQ),hX⟩⟩
theorem Ll(ha:YX X a te)(hbase:attributeBase (.Constant (.str sp) j p1) "join" X.env (eval (.Constant (.str sp) j p1) X.env)=eval (.Constant (.str sp) j p1) X.env<|>R0)(hfew:(((backTo cp (starEach [a] X.env)).all (λx=>!x.1)&&(backToKw cp (keywordEach [] X.env)).all (λx=>x.1.isSome)&&decide ([a].length+([]:m_).length+(if([]:m_).isEmpty then 0 else 1)<30))=true)<|>R0)(hline:(ap.endLine==cp.line)=true<|>R0)(hs:SE a [] X<|>R0)(hplain:BT cp [] X<|>R0):
  YX X (.Call (.Attribute (.Constant (.str sp) j p1) "join" ap) [a] [] cp) (x1 (dY (.str sp)) te):=
 ⟨λG_ s σ H Q E I ⟨ρ,M,QW,EX,hE,ht,hQ,hX⟩=>lV (jq (X:=fly X G_ σ E) z4h F.slot_str_join F.type_str_join zi gJ (bS (lU ha.h) ca hs) hbase hfew hline hs hplain) I ⟨rfl,rfl,ρ,M,_,EX,hE,ht,(λdx M1 z_ x H1 p1=>by ext(⟨d,hf,h1⟩:z_);ext(⟨l,ss,z,rfl,hl,hb,rfl,rfl⟩:zk (aA (aU _ _) p1.rep) hf);show⟨sp,l,ss,rfl,rfl,hl,hb,hQ _ M1 h1 _ H1 ⟨p1.toPostT,.str _⟩⟩),hX⟩⟩
end
section
variable {P:Hp}
def oO(ho:OutX X P EX)(he:YX X a te)(hs:swapsWith a none pos.line X.env=pure false<|>R0):YM X P EX (.Expr a pos) (jM te):=⟨λn=>dA (mE (ow he.h ho.pass) hs) λDe σ H z_=>by ext(⟨ρ,M,Ew,hE,ht,hl,hX⟩:z_);show⟨ρ,M,_,_,hE.q,ht,λd M1 h1 v H1 p1=>hl.nx _ M1 h1 σ H1 (hE.next p1.toPostT),λv c H' z=>(z.pre hE.same).post hX⟩⟩
def Lm:YM X P EX st yh:=⟨λn=>dA C8 λDe σ H z_=>by ext(⟨ρ,M,Ew,hE,ht,hl,hX⟩:z_);show ht⟩
end
section
variable {g:TG}{c:ag->A_}{un:D->Option D_}
def Ln(i:Nat)(hN:X.N.Nodup)(B:BlkOk X scope own J6 cn)(hc:X.calm=true)(hi:JI X tg iter fi ei)(hg:∀s H cl ex,PG (blk X (own++cn) s H scope cl ex) tg g)(hgv:TgV X.K g is un)(his:∀i∈is,i<own.length)(ht:∀s H cl ex,PTs (blk X (own++cn) s H scope cl ex) ifs (tvT X.K c))(he:∀s H cl ex,JE (blk X (own++cn) s H scope cl ex) elt fe ee)(hsw:swapsWith (.ListComp elt [⟨tg,iter,ifs,0⟩] scope pos) (some (.Name x p2)) spos.line X.env=pure true<|>R0)(hxi:X.N[i]?=some x<|>R0)(hx:Loc X.env.scope x<|>R3)(hfn:X.fn x=true\/X.env.scope.names.lookup x=some .local<|>R3)(hs:(∀x,foldedSetIterable iter X.env x=pure x)<|>R4):
  YS X (.Assign [.Name x p2] (.ListComp elt [⟨tg,iter,ifs,0⟩] scope pos) spos) (aI i (hV (c7 own.length J6 is un fi c fe))):=⟨λP n=>
 dX (Et i hN B hc hi.h hg hgv his ht (λs H cl ex=>(he s H cl ex).h) hsw hxi hx hfn hs) λDe σ H ρ M Ew hE ⟨d,hf,ds,e,hq⟩ hl=>⟨ρ,d,hE.q.envR,hf,λv H' p=>by ext(⟨l,xs,ds',rfl,rfl,hl0,hl',hr⟩:p.new);ext e;ext(⟨e1,e2⟩:fU (c:=.lst ds) hE.q.ok hl0 p.same hl' (hr (inM M) hE.q.ok.dom λe _=>lH hE.q e));show hl.nx _ _ (hq l (hE.q.ok.fresh hl0)) _ H' ((hE.next ⟨e1,e2⟩).set (.ptr l))⟩⟩
end
def Lo{x:D}{xs:D_}(ok:MOk K H M)(r:Rep K (PH H M) v x)(h:vw1 M x=.lst xs):∃q ys,v=.ref q/\Rd H q (.lst ys)/\Reps K (PH H M) ys xs:=by
 cases x with
 | ptr b=>
   ext r;cases hm:M b with
   |none=>simp[vw1,hm]at h
   | some c=>
     cases c with
     |lst es=>erw[vw1,hm]at h;ext h;ext(⟨ys,g1,g2⟩:fD ok hm);show⟨b,ys,rfl,.inl g1,g2⟩
     |_=>simp[vw1,hm]at h
 |lst es=>ext h;ext(⟨q,ys,rfl,h1,h2,_⟩:fL r);show⟨q,ys,rfl,dG (aU _ _) h1,h2⟩
 |_=>ext h
def zz(ha:YE X a ta)(hb:YE X b tb):YE X (.BinOp a .Add b pos) (oJ ta tb):=
 ⟨bB (iA qQ ha.h hb.h) λσ H Q ρ M QW hE ht hQ=>⟨ρ,M,_,hE,ht,λx M1 h1 vx H1 p1=>⟨ρ,M1,_,hE.next p1.toPostT,h1,λy M2 z_ vy H2 p2=>by ext(⟨xs,ys,ex,ey,hl,hq⟩:z_);subst ey;have rx:=aA p2.same p1.rep;ext(⟨q,us,rfl,g1,g2⟩:Lo p2.ok rx ex);ext(⟨q',ws,rfl,g3,g4,_⟩:fL p2.rep);show⟨q,q',us,ws,rfl,rfl,g1,dG (aU _ _) g3,by rw[g2.length,g4.length];show cV hl,λr hr=>?_⟩;ext(⟨e1,e2⟩:fU (c:=.lst (xs++ys)) p2.ok hr (bj hr (.lst (us++ws))) bi (aT (oa hr) (g2.append g4)));show hQ _ _ (hq r (p2.ok.fresh hr)) _ _ ⟨(p1.toPostT.trans p2.toPostT).trans ⟨e1,e2⟩,.ptr r⟩⟩⟩⟩
def Lp(ha:YE X a ta)(hb:YE X b tb)(hm:behindInMarks .NotIn b=false<|>R6):YT X (.Compare a [.NotIn] [b] pos) (bI (n2V nL ta tb)):=⟨zq Da (F6 X.K) ha.h hb.h hm⟩
theorem Lq(ha:YE X a ta)(hb:YE X b tb):YE X (.Subscript a (.Slice none (some b) none p2) pos) (t6 ta tb):=
 ⟨bB (kG ze ha.h mK (mL hb.h)) λσ H Q ρ M QW hE ht hQ=>⟨ρ,M,_,hE,ht,λx M1 h1 vx H1 p1=>⟨ρ,M1,_,hE.next p1.toPostT,h1,λy M2 z_ vy H2 p2=>by
  ext(⟨i,d,ey,hd,hq⟩:z_);subst ey;have rx:=aA p2.same p1.rep;cases p2.rep;show⟨i,rfl,?_⟩;cases x with
  |str z=>ext(⟨hc,rfl⟩:bC hd);ext rx;show⟨z,rfl,hc.1,hc.2.1,by rw[bY];show cV hc.2.2,hQ _ M2 hq _ H2 ⟨p1.toPostT.trans p2.toPostT,.str _⟩⟩
  |_=>ext hd⟩⟩⟩
section
variable {f:Str}{k:Nat}{P:Hp}
def zA(d:MakN X.prog X.w X.K X.mg X.base x C k ps T)(hr:Room (k+1) X.A)(hg:Gl X x<|>R0)(hdb:DB x<|>R1):YE X (.Call (.Name x p) [] [] pos) (oK C T):=
 let⟨_,_,F,M,hm,hb⟩:=d
 ⟨bB (CU M F hr hg hm hb .nil ff hdb) λσ H Q ρ M QW hE ht hQ q dx hq hdx ne=>by
  have hqd:upd H dx (.own q) q=none:=by rw[aJ (Ne.symm ne)];show hq
  have s1:=bj hdx (.own q);have s2:=bj hqd (.ins C dx []);ext(⟨e1,e2⟩:fU (c:=.ins C [] []) (hE.ok.up s1) hqd s2 bi ⟨rfl,[],rfl,rfl,.nil⟩);have pt:PostT X.K H M _ _:=(PostT.of hE.ok s1).trans ⟨e1,e2⟩;show⟨[.ptr q],_,_,.cons (.ptr q) .nil,e2,ht q (hE.ok.fresh hq),λd M' z_ v H' p'=>by ext(⟨hd,hq'⟩:z_);subst hd;cases p'.rep;show⟨rfl,hQ _ M' hq' _ H' ⟨pt.trans p'.toPostT,.ptr q⟩⟩⟩⟩
def Lr(ho:OutX X P EX)(cl:Cls X.K C)(nat:NoAttr X.K C f)(ha:YE X.nox a ta)(hv:YX X b te)(hn:ns.Nodup<|>R5)(hi:ns[i]?=some f<|>R0)(hlt:ns.length<1000<|>R1)(hs:swapsWith b (some (.Attribute a f p2)) pos.line X.env=pure false<|>R0):
  YM X P EX (.Assign [.Attribute a f p2] b pos) (t7 C ns i ta te):=⟨λn=>
 dA (qz (PE.nox ha.h) (ow hv.h ho.pass) hs) λDe σ H ⟨ρ,M,Ew,hE,ht,hl,hX⟩=>⟨ρ,M,_,_,hE.q,ht,λd M1 h1 v H1 p1=>⟨ρ,M1,_,hE.q.next p1.toPostT,h1,λx M2 z_ vx H2 p2=>by ext(⟨q,ds,ex,hm,h2⟩:z_);subst ex;cases p2.rep;ext(⟨dx,vs,g1,gl,g2⟩:gw p2.ok hm);have rv:=aA p2.same p1.rep;show⟨q,C,dx,_,rfl,g1,cl,nat,by rw[List.length_zip,gl,Nat.min_self];show hlt,?_⟩;rw[sC _ gl hn hi];obtain⟨e1,e2⟩:=iS (o:=.ins C dx (ns.zip (vs.set i v))) (c:=.ins C ns (ds.set i d)) p2.ok hm ⟨rfl,_,rfl,by rw[z8h];show gl,g2.set rv i⟩;show hl.nx _ _ h2 σ _ ((hE.next (p1.toPostT.trans p2.toPostT)).next ⟨e1,e2⟩)⟩,λv c H' z=>(z.pre hE.same).post hX⟩⟩
end
theorem Ls{fi:FE}(h:JE X iter fi ei):JI X tg iter (oM fi) ei:=⟨rj (ql h.h) λσ H R z_=>by
 ext(⟨ρ,ds,hE,hf,hR⟩:z_);ext(⟨d,h1,hf⟩:bind_some hf);show⟨ρ,d,hE,h1,λv H1 p=>?_⟩;cases d with
 |tup es=>ext hf;ext(⟨q,xs,rfl,hq,hx⟩:xF p.rep);have len:=hx.length;show⟨q,rfl,⟨xs,SqT.of hq⟩,hR _ _ ⟨p.same,λi d' H' hd e=>?_,λH' e=>⟨xs,SqT.of (e _ _ hq),by ext⟩⟩⟩;ext(⟨x,h2,h3⟩:hx.get hd);show⟨⟨xs,x,SqT.of (e _ _ hq),h2⟩,λy H'' z_=>?_⟩;ext(⟨eq,hy⟩:z_);subst eq;have h4:=hy xs (SqT.of (e _ _ hq));rw[h2]at h4;ext h4;show⟨Same.refl _,aA e h3,λA hA hz=>?_⟩;ext(⟨x',h5,h6⟩:(ED (.inl hq) (p.av A hA hz)).get hd);rw[h2]at h5;ext h5;show aA (cz e) h6
 |_=>ext hf⟩
section
variable {α:Type}{us:List α}
def zB(h:us.length=1):∃a,us=[a]:=by
 cases us with
 |nil=>ext h
 |cons a r=>show⟨a,by rw[List.eq_nil_of_length_eq_zero (z4a h)]⟩
def zC(h:us.length=2):∃a b,us=[a,b]:=by
 cases us with
 |nil=>ext h
 |cons a r=>ext(⟨b,rfl⟩:zB (z4a h));show⟨a,b,rfl⟩
def zD(h:us.length=3):∃a b c,us=[a,b,c]:=by
 cases us with
 |nil=>ext h
 |cons a r=>ext(⟨b,c,rfl⟩:zC (z4a h));show⟨a,b,c,rfl⟩
def zE(h:us.length=4):∃a b c d,us=[a,b,c,d]:=by
 cases us with
 |nil=>ext h
 |cons a r=>ext(⟨b,c,d,rfl⟩:zD (z4a h));show⟨a,b,c,d,rfl⟩
def zF(h:us.length=5):∃a b c d e,us=[a,b,c,d,e]:=by
 cases us with
 |nil=>ext h
 |cons a r=>ext(⟨b,c,d,e,rfl⟩:zE (z4a h));show⟨a,b,c,d,e,rfl⟩
def Lu(h:us.length=6):∃a b c d e f,us=[a,b,c,d,e,f]:=by
 cases us with
 |nil=>ext h
 |cons a r=>ext(⟨b,c,d,e,f,rfl⟩:zF (z4a h));show⟨a,b,c,d,e,f,rfl⟩
end
def FA(K:K0)(mg:Str->u_)(x:Str)(s:Stmt):Prop:=∃a fd,Fun K x x s a fd/\mg x=some (.ref a)
def MA(K:K0)(C:Addr)(x q:Str)(s:Stmt):Prop:=∃a fd,Fun K x q s a fd/\Meth K C x a
def IA(K:K0)(mg:Str->u_)(c:Str)(C:Addr)(q:Str)(s:Stmt):Prop:=∃a fd,Fun K "__init__" q s a fd/\Mk K C a/\mg c=some (.ref C)
section
variable {q c:Str}{kV:Value}
def FA.of(X:K.In h)(G:h.Ns mainGlobals mg)(a:W.nsIn K mainGlobals x=some (some (.ref f)))(l:K.lookup f=some ⟨oc,od,.func (W.fnOf x x (gO st) (cy st) (aN st) .none kV doc pm an cdv ct),osl⟩)(c:W.codeIn K cdv x=true)(k:W.keepIn K (.ref f)=true):FA K mg x st:=⟨_,_,qG l c k,z6v X G a⟩
def MA.of(a:W.findIn K (.ref C) x=some (some (.ref f)))(i:W.isFn K (.ref f)=true)(l:K.lookup f=some ⟨oc,od,.func (W.fnOf x q (gO st) (cy st) (aN st) .none kV doc pm an cdv ct),osl⟩)(c:W.codeIn K cdv q=true)(k:W.keepIn K (.ref f)=true):MA K C x q st:=⟨_,_,qG l c k,⟨a,i,k⟩⟩
def IA.of(X:K.In h)(G:h.Ns mainGlobals mg)(a:W.findIn K (.ref C) "__init__"=some (some (.ref f)))(i:W.isFn K (.ref f)=true)(l:K.lookup f=some ⟨oc,od,.func (W.fnOf "__init__" q (gO st) (cy st) (aN st) .none kV doc pm an cdv ct),osl⟩)(cd:W.codeIn K cdv q=true)(k:W.keepIn K (.ref f)=true)(aC:W.nsIn K mainGlobals c=some (some (.ref C)))(m:W.makesIn K C=true)(kc:W.keepIn K (.ref C)=true):IA K mg c C q st:=
 ⟨_,_,qG l cd k,⟨m,a,i,kc⟩,z6v X G aC⟩
def gi_of{i:Int}{t:Tok}(X:K.In h)(G:h.Ns mainGlobals mg)(a:W.nsIn K mainGlobals x=some (some (.int i t))):∃t,mg x=some (.int i t):=⟨t,z6v X G a⟩
def gs_of{i:Str}{t:Tok}(X:K.In h)(G:h.Ns mainGlobals mg)(a:W.nsIn K mainGlobals x=some (some (.str i t))):∃t,mg x=some (.str i t):=⟨t,z6v X G a⟩
abbrev BdR(x q:Str)(st:Stmt)(ps:i_):Prop:=∀(kV doc pm:Value) (an:Option Addr) (cdv ct:Value) (us:j_),us.length=ps.length->bindArgs (W.fnOf x q (gO st) (cy st) (aN st) .none kV doc pm an cdv ct) ⟨us,[]⟩=pure (ps.zip us)
section
variable {k:Nat}
def mkA(h:FA K mg x st)(b:BdR x x st ps)(F:∀f fd,Fun K x x st f fd->FnOk P w K mg base CX k f fd ps sp):∃f fd,FnOk P w K mg base CX k f fd ps sp/\mg x=some (.ref f)/\W.keepIn K (.ref f)=true/\Binds K fd ps []:=
 let⟨a,fd,Fn,m⟩:=h;⟨a,fd,F a fd Fn,m,Fn.kp,Fn.binds b⟩
def mkM(h:MA K C x q st)(b:BdR x q st ps)(F:∀f fd,Fun K x q st f fd->FnOk P w K mg base CX k f fd ps sp):∃f fd,FnOk P w K mg base CX k f fd ps sp/\Meth K C x f/\Binds K fd ps []:=
 let⟨a,fd,Fn,m⟩:=h;⟨a,fd,F a fd Fn,m,Fn.binds b⟩
def mkI(h:IA K mg c C q st)(b:BdR "__init__" q st ps)(F:∀f fd,Fun K "__init__" q st f fd->FnOk P w K mg base CX k f fd ps sp):∃f fd,FnOk P w K mg base CX k f fd ps sp/\Mk K C f/\mg c=some (.ref C)/\Binds K fd ps []:=
 let⟨a,fd,Fn,m,g⟩:=h;⟨a,fd,F a fd Fn,m,g,Fn.binds b⟩
end
def Lv{P:i_}{sc:Scope}(_:FnScope N P sc)(hs:X.env.scope=sc)(h:xJ sc names=true):∀x∈names,x.2=.free->(X.env.kindOf x.1=some .cell\/X.env.kindOf x.1=some .free):=F4 sc hs h
end
end VL
namespace VL
open PySem (Str)
open L2 (atI ixN)
noncomputable def upc(c:Nat):Nat:=if 97<=c/\c<=122 then c-32 else c
def upT:D->E_
 |.str x=>if(tx x).all (λc=>decide (c<128))=true/\(tx x).length<=10000 then some (.str (mkT ((tx x).map upc)))else none
 |_=>none
end VL
namespace VL
open PySem PySem.Spec PyProof.Rows L2
theorem zG:∀(l:z9),(∀c∈l,c<128)->Txt.upper (mkT l)=mkT (l.map upc)
 |[],_=>by decide +kernel
 |c::l,h=>by have e:mkT (c::l)=(⟨#[c]⟩:Str)++mkT l:=PySem.Str.ext' (by rw[PySem.Str.cps_append];simp[mkT]);rw[e,W.KOpn.upper_app,W.KOpn.upper_one (h c z9b),zG l λd hd=>h d (z9d _ hd)];show PySem.Str.ext' (by rw[PySem.Str.cps_append];simp[mkT,upc])
def rUp:V->B_->Hp->VK->Prop:=λx xs H Q=>∃z,x=.str z/\xs=[]/\(tx z).all (λc=>decide (c<128))=true/\(tx z).length<=10000/\Q (.str (mkT ((tx z).map upc))) H
def Lw:MtR X "str.upper" rUp:=by
 intro G_ s σ H x xs v us Q I rx r h;ext(⟨z,rfl,rfl,ha,hl,q⟩:h);ext(⟨t,rfl⟩:rx);ext r;have e:Txt.upper z=mkT ((tx z).map upc):=zG (tx z) λc hc=>z6l (z9u.mp ha c hc)
 show SC.upper (by rw[e];change decide _=false;show z8u (by rw[bY,aw,z9a];have:=cV (n:=(tx z).length) ∅;ext)) ?_;rw[e];show⟨.str _,H,I.tok _,⟨_,rfl⟩,q⟩
theorem zH(ha:YE X a ta)(hbase:attributeBase a "upper" X.env (eval a X.env)=eval a X.env<|>R0)(hline:(ap.endLine==cp.line)=true<|>R0):YE X (.Call (.Attribute a "upper" ap) [] [] cp) (n1 upT ta):=
 ⟨bB (Df z4h F.slot_str_upper F.type_str_upper Lw ha.h hbase hline) λσ H Q ρ M QW hE ht hQ=>⟨ρ,M,_,hE,ht,λdx M1 z_ x H1 p1=>by
  ext(⟨d,hf,h1⟩:z_);cases dx with
  |str z=>ext(⟨hc,rfl⟩:bC hf);cases p1.rep;show⟨rfl,z,rfl,rfl,hc.1,hc.2,hQ _ M1 h1 _ H1 ⟨p1.toPostT,.str _⟩⟩
  |_=>ext hf⟩⟩
end VL
namespace VL
open PySem (Str)
open L2 (atI ixN)
def lW(te:NEX)(ρb:ag):D_->D_->Sto->(D_->Sto->Prop)->QX->Prop
 |[],done,M,Q,_=>Q done M
 |x::r,done,M,Q,EX=>te (ρb.set 0 (some x)) M (λd M1=>lW te ρb r (done++[d]) M1 Q EX) EX
def oP(J6:z9)(ti:NTE)(te:NEX):NEX:=λρ M Q EX=>ti ρ M λd M1=>∃ds,cj d=some ds/\ds.length<=1000/\lW te (bh 1 J6 ρ) ds [] M1 (λds M2=>Q (.lst ds) M2) EX
def tf(te:NEX):NEX:=λρ M Q EX=>te ρ M (λx M1=>∃ds,x=.lst ds/\Q (.tup ds) M1) EX
def tj(ta th:NTE):NTE:=λρ M Q=>ta ρ M λx M1=>th ρ M1 λy M2=>∃ds i,x=.lst ds/\y=.int i/\Q (.lst (cU ds none (some i))) M2
noncomputable def lrD:D_->E_
 |[.int i,.int j]=>if 0<=i/\i<=j/\j<=1000 then some (.lst ((List.range (j-i).toNat).map λk=>.int (i+(k:Nat))))else none
 |_=>none
def tm(fa:FE)(tb:NTE):NTE:=λρ M Q=>WE fa ρ λx=>tb ρ M λy M1=>∃ds,fM x y=some (.lst ds)/\∀a,M1 a=none->Q (.ptr a) (aD M1 a (.lst ds))
end VL
namespace VL
open PySem PySem.Spec PyProof.Rows L2
section
variable {g:TG}
def Lx{l:List PySem.Env}{x c:Addr}{C:Value}(T:Trc B l x C a0 h)(hc:B.get? c≠none)(sb:Heap.SameBut c h h'):Trc (W.hideAll B [c]) l x C a0 h':=by
 ext(⟨kb,nx,fr,fl,oe,vs,t,oT,ts,he,hcl,hd,h1,hn,ne,hT,dT,h3⟩:T);have hid:∀b,B.get? b=none->(W.hideAll B [c]).get? b=none:=λb e=>by
  cases q:(W.hideAll B [c]).get? b with
  |none=>rfl
  |some o=>rw[z5d _ q]at e;ext e
 have nec:∀b,B.get? b=none->b≠c:=λb e z=>hc (z▸e)
 have hcc:(W.hideAll B [c]).get? c=none:=by
  cases q:(W.hideAll B [c]).get? c with
  |none=>rfl
  |some o=>rw[W.hideAll_none _ (z9l.mpr rfl)]at q;ext q
 have frs':∀(l:List PySem.Env),h.FunFrames B l->h'.FunFrames (W.hideAll B [c]) l:=by
  intro l
  induction l with
  |nil=>intro _;trivial
  |cons env r ih=>intro q;ext(⟨hk,⟨L,o,hf,hL,ho,hdd⟩,hr⟩:q);show⟨hk,⟨L,o,hf,hid L hL,(sb.2 L (nec L hL)).trans ho,hdd⟩,ih hr⟩
 show⟨λb o e=>(sb.2 b λz=>by rw[z,hcc]at e;ext e).trans (kb b o (z5d _ e)),hid x nx,frs' l fr,fl,oe,vs,t,oT,ts,(sb.2 x (nec x nx)).trans he,hcl,hd,h1,hid t hn,ne,(sb.2 t (nec t hn)).trans hT,dT,h3⟩
def Ly{E:XK}{tx:St->Hp->VK->XK->Prop}(hh:∀(G_:p_) (σ:St) (H:Hp) (s:Shared) (x C:Addr) (B:Heap) (a0:Value),L2.Inv X G_ σ H s->Trc B X.stack x (.ref C) a0 s.heap->H x=some (dE x C)->(∀b u,H b=some u->b≠x->B.get? b≠none)->(∀b o,X.s₀.heap.get? b=some o->b∉frs X.outer->B.get? b≠none)->E (.ref x) (some C) H->X.xe (.ref x) s)(hex:X.ex=[])(htop:X.stack=X.env::X.outer/\X.env.frame=some X.env.locals)(B:BlkOk X scope own J6 cn)(hc:X.calm=true)(hi:PI X tg iter wi)(hg:∀s H cl ex,PG (blk X (own++cn) s H scope cl ex) tg g)(he:∀s H cl ex,PX (blk X (own++cn) s H scope cl ex) elt tx)(hs:(∀x,foldedSetIterable iter X.env x=pure x)<|>R4):
  PE X (.ListComp elt [⟨tg,iter,[],0⟩] scope pos) (gU own.length J6 wi g (λ_ H Q=>Q true H) λσ H Q=>tx σ H Q E):=by
 intro G_ s σ H Q I h;ext(⟨cl,hclos,hcl,hha⟩:nu (scope:=scope) (env:=X.env) λx hx hf=>I.ok.has x.1 (B.free x hx hf))
 rw[eval_ListComp];show z6z (use:=none) rfl hs hclos B.kind B.locals (xg (Ex:=λs H cl ex e s'=>∃pb σb,Fl (blk X (own++cn) s H scope cl ex) pb σb E e s') B hc hi hg (λ_ _ _ _=>jF)
  (λs H cl ex pb s' σb H' Q' I' hw=>z8o (he s H cl ex pb s' σb H' Q' E I' hw) (λ_ _ z=>z) λe s'' z=>⟨pb,σb,z⟩) I h hcl hha (RR:=λacc C=>compPost (model X.prog X.w) X.A X.xe none (EP X G_ σ Q) acc C) (λd c ys H' s' af q=>?_) λs3 H2 d fp e s' I3 fex z=>?_)
 ·ext(⟨m,hm⟩:af.ns)
  ext(⟨f0,f1,_,f3,f4,f5⟩:af.cf);show⟨m,hm,λh' sb=>⟨.ref d,_,af.inv.turned (t':=s'.toks) (it:=c) (λb o hb e=>(sb.2 b hb).trans e) f0 f1 f3 f4 f5,rfl,q⟩⟩
 ·ext(⟨pb,σb,H1,s1,I1,x,C,H',B',a0,rfl,os,bare,un,hok,hfl,c1,c2,hx,hE⟩:z)
  have I2:=I1.call' (ch:=[]) os un hok bare λb z=>absurd z (by simp)
  have hch:∀b∈d::fp,(b∈X.ex\/X.s₀.heap.objs.size<=b)/\b≠X.env.locals/\(∀x c,X.env.cells.lookup x=some c->c≠b)/\∀p∈X.pn++G_,p.1≠b:=λb hb=>⟨(fex b hb).2.2.2.1,(fex b hb).2.1,(fex b hb).2.2.2.2.1,(fex b hb).2.2.2.2.2⟩
  have J1:L2.Inv X G_ σ H1 s1:=I3.call' (ch:=d::fp) I1.os I1.base I1.hok I1.bare hch;have J2:L2.Inv X G_ σ H' s':=I3.call' (ch:=d::fp) I2.os I2.base I2.hok I2.bare hch;have old:∀b o,X.s₀.heap.get? b=some o->b≠X.env.locals:=λb o e=>z8n (z9v (z9n e) I3.ok.above)
  have k2:∀b o,X.s₀.heap.get? b=some o->b∉frs X.outer->B'.get? b≠none:=λb o e hb=>by ext(⟨o',q⟩:J1.base.there b o e (by rw[hex];show λz=>nomatch z));show c2 b o' q λz=>(z9g.mp (J1.stkSub b z)).elim (old b o e) hb
  have k3:∀p∈X.pn++G_,B'.get? p.1≠none:=λp hp=>by ext(⟨e,n,ne,nf,_⟩:J1.pin p hp);show c2 p.1 p.2 e λz=>(z9g.mp (J1.stkSub _ z)).elim ne nf
  have fc:=I3.fpOk (H':=H') (z9o _) I2.free;have hcB:B'.get? s3.heap.objs.size≠none:=by ext(⟨m,⟨o,es,ep,ho,_⟩,_⟩:I1.loc);show c2 _ o ho λz=>(z9g.mp (I3.stkSub _ z)).elim fc.2.1 fc.2.2.1
  have T0:Trc B' (X.env::X.outer) x (.ref C) a0 s'.heap:=by rw[<- htop.1];show⟨hfl.1,hfl.2.1,hfl.2.2.1,_,hfl.2.2.2.at⟩
  rw[HV (env:=X.env) (env':=compEnvC scope cl s3.heap.objs.size X.env) rfl];show yL (by rw[<- htop.1];show I3.ok.frames) htop.2 T0 λh3 T3 u3=>?_
  have J3:=ox J2 hx T0.1 T3.1 T3.2.2.2.choose_spec.there u3 c1 k2 k3 hex;ext(⟨m,hm,_⟩:I2.loc);show⟨m,u3.ns hm,λh4 sb cenv _=>?_⟩;have T4:=Lx T3 hcB sb;have J4:L2.Inv X G_ σ H' {s' with heap:=h4}:=L2.Inv.turned (s:={s' with heap:=h3}) (t':=s'.toks) J3 (it:=s3.heap.objs.size) (λb o hb e=>(sb.2 b hb).trans e) fc.1 fc.2.1 fc.2.2.2.1 fc.2.2.2.2.1 fc.2.2.2.2.2;have hid:∀b,B'.get? b≠none->b≠s3.heap.objs.size->(W.hideAll B' [s3.heap.objs.size]).get? b≠none:=λb n ne z=>by
   cases q:B'.get? b with
   |none=>show n q
   |some o=>rw[z4z _ q λy=>ne (z9l.mp y)]at z;ext z
  have c1':∀b u,H' b=some u->b≠x->(W.hideAll B' [s3.heap.objs.size]).get? b≠none:=λb u e hb=>hid b (c1 b u e hb) λz=>by rw[z,fc.1]at e;ext e
  have k2':∀b o,X.s₀.heap.get? b=some o->b∉frs X.outer->(W.hideAll B' [s3.heap.objs.size]).get? b≠none:=λb o e hb=>hid b (k2 b o e hb) (z8n (z9v (z9n e) I3.sz))
  ext(⟨oe,vs,t,oT,ts,fl,g1,g2,g3,_⟩:sJ T4);unfold PySem.passOn;show z9i (wpAny_field g1 g2 g3 ?_);rw[if_neg (by simp)];show z9i (HW T4 λh5 T5 u5=>wpAny_throw ?_);show hh G_ σ H' _ x C _ a0 (ox J4 hx T4.1 T5.1 T5.2.2.2.choose_spec.there u5 c1' k2' (λp hp=>hid _ (k3 p hp) (fc.2.2.2.2.2 p hp)) hex) (by rw[htop.1];show T5) hx c1' k2' hE
end
section
variable {P:Hp}{rp:Pos}{y:Str}
def Lz{E:XK}(h:twE K (oP J6 tit te) σ H Q E):gU 1 J6 (qk K (tw K tit)) (c9 0) (λ_ H Q=>Q true H) (λσ H Q=>twE K te σ H Q E) σ H Q:=by
 ext(⟨ρ,M,QW,EX,hE,ht,hQ,hX⟩:h);show⟨ρ,M,_,hE,ht,λd M1 z_ v H1 p1=>?_⟩;ext(⟨L,hds,hll,h1⟩:z_);have hsd:=jG hds;ext(⟨q,xs,rfl,hq,hx',hA⟩:fq p1.rep hsd.2 hsd.1);show⟨q,rfl,⟨xs,(aU _ _).seq hq⟩,?_⟩;show om (J:=Itl K q) (te:=λσ H Q=>twE K te σ H Q E) (Q:=Q) (λL done M2=>lW te (bh 1 J6 ρ) L done M2 (λds M2=>QW (.lst ds) M2) EX) (hE.next p1.toPostT) hx' hll (λi H2 M2 pt=>sF (Sq:=λH=>SqL K H q) ((aU _ _).seq (pt.same.seq hq))) h1 (λd r done M2 hgo σb H2 Q' hEb pt hq'=>⟨_,M2,_,EX,hEb,hgo,hq',λv c H' z=>hX v c H' (z.pre (p1.toPostT.trans pt).same)⟩) λdone M2 ys H2 hgo pt hr l hl=>?_
 ext(⟨d,M3,g1,g2⟩:on hgo (p1.toPostT.trans pt) hr hl);show hQ d M3 g1 _ _ g2
def LA(ho:OutX X P EX)(B:BlkOk X scope [y] J6 cn)(hc:X.calm=true)(hi:YE X.nox iter tit)(hg:∀s H cl ex,PG (blk X ([y]++cn) s H scope cl ex) tg (c9 0))(he:∀s H cl ex,YX (blk X ([y]++cn) s H scope cl ex) elt te)(hs:(∀x,foldedSetIterable iter X.env x=pure x)<|>R4):
  YM X P EX (.Return (some (.ListComp elt [⟨tg,iter,[],0⟩] scope pos)) rp) (fB (oP J6 tit te)):=
 ⟨λn=>dA (gL (Ly (E:=EXK X.K P EX) ho.held ho.ex0 ho.top B hc (kC (PE.nox hi.h)) hg (λs H cl ex=>(he s H cl ex).h) hs)) λDe σ H z_=>by ext(⟨ρ,M,Ew,hE,ht,hl,hX⟩:z_);show Lz ⟨ρ,M,_,_,hE.q,ht,λd M1 h1 v H1 p1=>hl.rt d M1 h1 v H1 (hE.same.trans p1.same) p1.ok p1.rep,λv c H' z=>(z.pre hE.same).post hX⟩⟩
def LB(ha:YE X a ta)(hb:YE X b tb):YE X (.Subscript a (.Slice none (some b) none p2) pos) (tj ta tb):=
 ⟨bB (kG qC ha.h mK (mL hb.h)) λσ H Q ρ M QW hE ht hQ=>⟨ρ,M,_,hE,ht,λx M1 h1 vx H1 p1=>⟨ρ,M1,_,hE.next p1.toPostT,h1,λy M2 z_ vy H2 p2=>by ext(⟨ds,i,ex,ey,hq⟩:z_);subst ex ey;have rx:=aA p2.same p1.rep;cases p2.rep;ext(⟨q,xs,rfl,g1,g2,_⟩:fL rx);show⟨i,rfl,q,xs,rfl,(aU _ _).seq (.inl g1),λl hl=>?_⟩;have hn:=p2.ok.fresh hl;show hQ _ M2 hq _ _ ⟨(p1.toPostT.trans p2.toPostT).trans (PostT.of p2.ok (bj hl _)),.lst (.inl ?_) (aT (PH.up (bj hl _)) (qO g2 _ _))⟩;rw[PH.of hn];show bi⟩⟩⟩
theorem LC(ha:JF X a fa ea)(hb:YE X b tb):YE X (.BinOp a .Mult b pos) (tm fa tb):=
 ⟨bB (iA qE ha.h hb.h) λσ H Q ρ M QW hE z_ hQ=>by
  ext(⟨dx,hf,hq⟩:z_);show⟨ρ,dx,hE.envR,hf,λx H1 p1=>?_⟩;ext(⟨l,xs,ds,rfl,rfl,hl0,hl1,hA⟩:p1.new);have pt:=PostT.of hE.ok p1.same;show⟨ρ,M,_,hE.next pt,hq,λdy M1 z_ y H2 p2=>?_⟩;ext(⟨es,hd,hq1⟩:z_);have hln:M l=none:=hE.ok.fresh hl0;have hx:Reps X.K (PH H1 M) xs ds:=aT (cD (λ_ _ z=>z) λ_ z=>.inl z) (hA (inM M) hE.ok.dom λe _=>lH hE e);have hll:PH H2 M1 l=some (.lst xs):=p2.same _ _ (by rw[PH.of hln];show hl1);cases dy with
  |int k=>cases p2.rep;ext(⟨⟨hl,hk1,hk2⟩,e⟩:bC hd);ext e;show⟨l,k,xs,rfl,rfl,(PH.at hll).2,by ext,by ext,by rw[hx.length];show cV hl,λr hr=>?_⟩;ext(⟨e1,e2⟩:fU (c:=.lst _) p2.ok hr (bj hr (.lst _)) bi (aT (oa hr) ((aT p2.same hx).rep k.toNat)));show hQ _ _ (hq1 r (p2.ok.fresh hr)) _ _ ⟨(pt.trans p2.toPostT).trans ⟨e1,e2⟩,.ptr r⟩
  |_=>ext hd⟩
def LD(ml:X.mg "tuple"=none)(ha:YX X a te)(hg:Gl X "tuple"<|>R0)(he:SE a [] X<|>R0)(hpl:BT pos [] X<|>R0):
  YX X (.Call (.Name "tuple" p) [a] [] pos) (tf te):=
 ⟨λG_ s σ H Q E I ⟨ρ,M,QW,EX,hE,ht,hQ,hX⟩=>lV (iC (X:=fly X G_ σ E) Dc hg ml (by decide +kernel) (bS (lU ha.h) ca he) (by decide) (by decide) he hpl) I ⟨rfl,ρ,M,_,EX,hE,ht,λx M1 z_ v H1 p1=>by ext(⟨ds,ed,hq⟩:z_);subst ed;ext(⟨q,xs,rfl,h1,h2,_⟩:fL p1.rep);show⟨q,xs,rfl,.inl ⟨(aU _ _).seq (.inl h1),λl hl=>?_⟩⟩;have hn:=p1.ok.fresh hl;show hQ _ M1 hq _ _ ⟨p1.toPostT.trans (PostT.of p1.ok (bj hl _)),.tup ?_ (aT (PH.up (bj hl _)) h2)⟩;rw[PH.of hn];show bi,hX⟩⟩
end
section
variable {ta:TA}
def tLr(ta:TA):TE:=λσ H Q=>ta σ H λvs H1=>∃i j:Int,vs=[.int i,.int j]/\0<=i/\i<=j/\j<=1000/\∀l,H1 l=none->Q (.ref l) (upd H1 l (.lst ((List.range (j-i).toNat).map λk=>V.int (i+(k:Nat)))))
def LE(hc:X.calm=true)(hgl:Gl X "list")(ml:X.mg "list"=none)(hgr:Gl X "range")(mr:X.mg "range"=none)(ha:PA X [a,b] ta)(hs:SE a [b] X)(hs3:BT pos2 [b] X)(hs2:starEach [.Call (.Name "range" p2) [a,b] [] pos2] X.env=[(false,eval (.Call (.Name "range" p2) [a,b] [] pos2) X.env)]):
  PE X (.Call (.Name "list" p) [.Call (.Name "range" p2) [a,b] [] pos2] [] pos) (tLr ta):=by
 intro G_ s σ H Q I h;show Call_ (eG I hgl ml PyProof.Rows.boot_list (z8v ?_ hs2 rfl));rw[hs2];change wpAny _ _ (spliced ((false,eval (.Call (.Name "range" p2) [a,b] [] pos2) X.env)::backTo pos [])) _ _ s;show z3e ?_;show Call_ (eG I hgr mr boot_range (z8v (cK (ha pos2 G_ s σ H _ I h) λus s1 vs H1 I1 r1 q1=>?_) hs hs3));ext(⟨i,j,rfl,hi,hj,hj2,hQ⟩:q1);ext(⟨u,u2,rfl,⟨t,rfl⟩,t2,rfl⟩:jm r1);show call_range_2 ?_;show z3j ?_;have I2:Inv X G_ σ H1 {s1 with heap:=s1.heap.push {cls:=.type "range",data:=.fields #[.int i t,.int j t2,.int 1 s1.toks]},toks:=s1.toks+1}:=I1.kept λb o e=>z9m _ e
 have hsz:Builtin.Range.rangeSize i j 1=((j-i).toNat:Int):=by rw[rangeSize_one];split<;>ext
 show call_list_range (I.ok.hd hc) (IsRange.new ..) (small_one ∅ ∅ ∅ ∅) hsz ∅ λh' tk acc c hk hS hacc=>?_
 have fS:=nK I2;have I3:Inv X G_ σ H1 {s1 with heap:=h',toks:=tk}:=I2.kept (t':=tk) hk;ext(⟨al,hal⟩:hacc);have hv : Vals ((List.range (j-i).toNat).map λk=>V.int (i+(k:Nat))) acc.toList:=by
  have gen:∀(l:j_) (n m:Nat),l.length=m->(∀q v,l[q]?=some v->∃t,v=Value.int (i+((n+q:Nat):Int)) t)->Vals ((List.range' n m).map λk=>V.int (i+(k:Nat))) l:=by
   intro l
   induction l with
   |nil=>intro n m hm _;subst hm;show .nil
   | cons v r ih=>
     intro n m hm hh;subst hm;rw[z9c,List.range'_succ,z9r];show .cons ?_ (ih (n+1) r.length rfl λq v' hv'=>?_)
     ·ext(⟨t,e⟩:hh 0 v rfl)
      show⟨t,⇑e⟩
     ·ext(⟨t,e⟩:hh (q+1) v' (⇑hv'))
      show⟨t,by rw[e];congr 2;ext⟩
  rw[List.range_eq_range'];show gen acc.toList 0 (j-i).toNat (by simp[al]) λq v hv=>?_
  ext(⟨t,e⟩:hal q v (⇑hv));show⟨t,by rw[e];congr 1⟩
 have I4:=nJ (o:=.lst ((List.range (j-i).toNat).map λk=>V.int (i+(k:Nat)))) I3 fS ⟨by rw[z9a,z8j,z6g];ext,acc.toList,c,hv,⇑hS⟩;show⟨.ref _,_,I4,rfl,hQ _ fS.1⟩
theorem tq(ml:X.mg "list"=none)(mr:X.mg "range"=none)(ha:JA X [a,b] as es)(hc:X.calm=true<|>R0)(hgl:Gl X "list"<|>R0)(hgr:Gl X "range"<|>R0)(hs:SE a [b] X<|>R0)(hs3:BT pos2 [b] X<|>R0)(hs2:starEach [.Call (.Name "range" p2) [a,b] [] pos2] X.env=[(false,eval (.Call (.Name "range" p2) [a,b] [] pos2) X.env)]<|>R0):
  JF X (.Call (.Name "list" p) [.Call (.Name "range" p2) [a,b] [] pos2] [] pos) (eA lrD as) []:=
 ⟨gQ (LE hc hgl ml hgr mr ha.h hs hs3 hs2) λσ H Q ρ d hE hf hQ=>by
  ext(⟨ds,h1,hf⟩:bind_some hf);show⟨ρ,ds,hE,h1,λvs H1 p=>?_⟩
  match ds,hf,p with
  |[.int i,.int j],hf,p=>ext(⟨hj,rfl⟩:bC hf);ext(⟨v,v2,rfl,r,r2⟩:qR p.rep);ext r;ext r2;show⟨i,j,rfl,hj.1,hj.2.1,hj.2.2,λl hl=>hQ _ _ (gT p.same hl λA hD hz=>?_)⟩;have:=Reps.ints (K:=X.K) (H:=az H1 A) ((List.range (j-i).toNat).map λ(k:Nat)=>i+(k:Int));rw[z8x,z8x]at this;show this⟩
end
section
variable {q:Str}{k:Nat}{b:FS}{tb:NTS}{TX:NTX}
abbrev HJ(P:Program)(w:World)(K:K0)(mg:Str->u_)(base:Heap)(st:Stmt)(k:Nat)(ps N:i_)(q:Str)(n:Nat)(b:FS)(fr:Bool):Prop:=∀{f:Addr} {cdv:Value} {A:Around} {outer:List PySem.Env} {s:Shared} {H:Hp} {E:XK} {F:Fr0},FnScope N ps (aN st)->F.n=n->Room k (A.deeper (envOfC q (aN st) s.heap.objs.size f cdv))->JSs (c4 CX0 P w K mg base N q (aN st) f cdv A outer s H E).nox F [] (cy st) b [] [] fr
abbrev HY(P:Program)(w:World)(K:K0)(mg:Str->u_)(base:Heap)(st:Stmt)(k:Nat)(ps N:i_)(q:Str)(tb:NTS):Prop:=∀{f:Addr} {cdv:Value} {A:Around} {outer:List PySem.Env} {s:Shared} {H:Hp} {E:XK},FnScope N ps (aN st)->Room k (A.deeper (envOfC q (aN st) s.heap.objs.size f cdv))->YSs (c4 CX0 P w K mg base N q (aN st) f cdv A outer s H E).nox (cy st) tb
abbrev HE(P:Program)(w:World)(K:K0)(mg:Str->u_)(base:Heap)(st:Stmt)(k:Nat)(ps N:i_)(q:Str)(tb:NTS):Prop:=∀{f:Addr} {cdv:Value} {A:Around} {outer:List PySem.Env} {s:Shared} {H:Hp} {E:XK} {PP:Hp} {EX:QX},FnScope N ps (aN st)->Room k (A.deeper (envOfC q (aN st) s.heap.objs.size f cdv))->OutX (c4 (CXN P w) P w K mg base N q (aN st) f cdv A outer s H E) PP EX->YMs (c4 (CXN P w) P w K mg base N q (aN st) f cdv A outer s H E) PP EX (cy st) tb
def m3(h:FA K mg x st)(N:i_)(H:HJ P w K mg base st k ps N x n b fr)(bd:BdR x x st ps<|>R8)(sc:FnScope N ps (aN st)<|>R9)(h1:ps.length=np<|>R0)(h2:N.length=n<|>R0)(h3:G=mkF fr np n b<|>R0):Def P w K mg base x (k+1) ps G fr:=mkA h bd λ_ _ Fn=>FB [] [] h1 h2 h3 Fn sc λ_ _ _ _ _ _ _ hn hr=>H sc hn hr
def m4(h:FA K mg x st)(N:i_)(H:HJ P w K mg base st k ps N x n b fr)(bd:BdR x x st ps<|>R8)(sc:FnScope N ps (aN st)<|>R9)(h1:ps.length=np<|>R0)(h2:N.length=n<|>R0)(h3:G=mkF fr np n b<|>R0):Def P w K mg base x (k+1) ps (scF G) fr:=Def.sc (m3 h N H bd sc h1 h2 h3)
def nA(h:FA K mg x st)(N:i_)(H:HY P w K mg base st k ps N x tb)(bd:BdR x x st ps<|>R8)(sc:FnScope N ps (aN st)<|>R9)(h1:ps.length=np<|>R0)(h2:N.length=n<|>R0)(h3:T=mkN np n tb<|>R0):DefN P w K mg base x (k+1) ps T:=mkA h bd λ_ _ Fn=>oz h1 h2 h3 Fn sc λ_ _ _ _ _ _ hr=>H sc hr
def nM(h:MA K C x q st)(N:i_)(H:HY P w K mg base st k ps N q tb)(bd:BdR x q st ps<|>R8)(sc:FnScope N ps (aN st)<|>R9)(h1:ps.length=np<|>R0)(h2:N.length=n<|>R0)(h3:T=mkN np n tb<|>R0):MetN P w K mg base C x (k+1) ps T:=mkM h bd λ_ _ Fn=>oz h1 h2 h3 Fn sc λ_ _ _ _ _ _ hr=>H sc hr
def xA(h:FA K mg x st)(N:i_)(H:HE P w K mg base st k ps N x tb)(bd:BdR x x st ps<|>R8)(sc:FnScope N ps (aN st)<|>R9)(h1:ps.length=np<|>R0)(h2:N.length=n<|>R0)(h3:TX=mkX np n tb<|>R0):DefE P w K mg base x (k+1) ps TX:=mkA h bd λ_ _ Fn=>sQ h1 h2 h3 Fn sc λ_ _ _ _ _ _ _ _ hr ho=>H sc hr ho
def xM(h:MA K C x q st)(N:i_)(H:HE P w K mg base st k ps N q tb)(bd:BdR x q st ps<|>R8)(sc:FnScope N ps (aN st)<|>R9)(h1:ps.length=np<|>R0)(h2:N.length=n<|>R0)(h3:TX=mkX np n tb<|>R0):MetE P w K mg base C x (k+1) ps TX:=mkM h bd λ_ _ Fn=>sQ h1 h2 h3 Fn sc λ_ _ _ _ _ _ _ _ hr ho=>H sc hr ho
end
end VL
namespace VL
namespace My
open PySem (Str)
open L2 (atI ixN)
local macro_rules | `(tactic| walk_at"env")=>`(tactic| (simp only[List.set_cons_zero,List.set_cons_succ,z9r,z6b,z5a,z5u,z7n,List.replicate_zero,Nat.reduceSub,Nat.reduceAdd,z7k,List.zip_nil_left,List.zip_nil_right,z4u,List.foldl_nil,bG,bh,List.getElem?_cons_zero,List.getElem?_cons_succ,z7g,z5k]))
local macro_rules | `(tactic| walk_at"side")=>`(tactic| first|assumption|exact rO ∅ (by ext)|exact Gz ∅ (by ext)|exact ya (lu ∅ ∅) (lu ∅ ∅)|exact GB (by ext)|exact GA ∅ (lu ∅ ∅)|exact GC ∅ ∅ ∅ (by ext)|ext)
local macro_rules | `(tactic| walk_at"run1")=>`(tactic| first
 |(with_reducible first|refine FH ?_|refine FG ?_|refine G0 ?_)|((with_reducible refine' FF ?h ?_);(case h=>exact rfl))|(with_reducible first|refine FJ ?_|refine FK ?_)
 |((with_reducible refine FL ?h ?_);(case h=>walk_at"side"))|((with_reducible refine FM ?h ?_);(case h=>walk_at"side"))|((with_reducible refine FN ?h ?_);(case h=>walk_at"side"))|((with_reducible refine FP ?h (λv hv=>?_));(case h=>walk_at"side");(simp only[Int.reduceToNat,Int.reducePow]at hv);(subst hv))
 |(with_reducible exact rfl)|(with_reducible first|refine FQ ?_|refine FR ?_|refine FT ?_|refine FU ?_|refine FW ?_|refine FX ?_|refine FI ?_|refine FV ?_)
 |(with_reducible first|refine FY ?_|refine FZ ?_|refine G2 ?_|refine G3 ?_|refine G4 ?_|refine G5 ?_|refine G6 ?_|refine G9 ?_|refine Ge ?_)
 |(with_reducible first|refine Ga ?_|refine Gb ?_|refine Gc ?_|refine Gd ?_)
 |(with_reducible first|refine Gg ?_|refine Gf ?_|refine Gh ?_|refine Gi ?_|refine Gj ?_)|((with_reducible refine xS ?_);(try walk_at"env"))|(with_reducible first|refine G1 ?_|refine xT ?_|refine xW ?_)
 |(with_reducible first|refine Gn ?_|refine Go ?_|refine xU ?_|refine xV ?_|refine G7 ?_|refine G8 ?_|refine Gp ?_|refine GU ?_)
 |(with_reducible refine GF ?_)|(with_reducible refine GG ?_)
 |((with_reducible refine lw ?h ?_);(case h=>first|exact Nat.le_of_ble_eq_true rfl|decide|(simp;done)|(simp;ext)))
 |((with_reducible refine And.intro ?h ?_);(case h=>first|exact Nat.le_of_ble_eq_true rfl|exact rfl|(with_reducible show ¬(HT.sIx _ _ _=_/\_);simp[HT.sIx];done)))|((with_reducible refine Exists.intro _ (And.intro rfl ?_)))|((with_reducible refine Exists.intro _ (And.intro (seqD_lst _) ?_)))|((with_reducible refine Exists.intro _ (And.intro (seqD_scr _) ?_)))|(with_reducible first|refine Gr ?_|refine Gs ?_|refine Gu ?_|refine Gv ?_)|((with_reducible refine' Ha ?h ?_);(case h=>exact rfl))|(with_reducible first|refine Gw ?_|refine Gx ?_|refine Gy ?_|refine GS ?_|refine GJ ?_|refine GK ?_|refine GL ?_|refine GM ?_|refine GI ?_|refine GN ?_|refine GO ?_)
 |((with_reducible refine' jH ?h ?_);(case h=>exact rfl)))
local macro_rules | `(tactic| walk_at"run")=>`(tactic| repeat (first|walk_at"run1" | walk_at"call"))
local macro_rules|`(tactic| lia)=>`(tactic| walk_at"run")
local macro_rules|`(tactic| grind)=>`(tactic|(walk_at"env";walk_at"run"))
local macro_rules | `(tactic| walk_at"all")=>`(tactic| (walk_at"run";try ((with_reducible first|refine au (λh=>?_) (λh=>?_)|refine gt (λh=>?_) (λh=>?_))<;>walk_at"all")))
local macro_rules | `(tactic| walk_at"leaf")=>`(tactic| first|ext|exact z7d D.bl (z5m.mpr ∅)|exact z7d D.bl (z8u ∅).symm|exact z7d D.bl (z8p ∅).symm)
local macro_rules | `(tactic| walk_at"n1")=>`(tactic| first
 |(with_reducible first|refine IL ?_|refine IM ?_|refine IN ?_|refine IO ?_|refine IP ?_|refine IQ ?_)
 |(with_reducible first|refine IR ?_|refine IS ?_|refine IU ?_|refine IV ?_|refine IW ?_)
 |(with_reducible first|refine IY ?_|refine IZ ?_|refine Ja ?_|refine Jb ?_|refine Jg ?_|refine Jh ?_)
 |(with_reducible first|refine Ji ?_|refine Jk ?_|refine Jl ?_|refine Jm ?_|refine Jn ?_|refine Jo ?_)
 |(with_reducible first|refine Jp ?_|refine Jq ?_|refine Jr ?_|refine Js ?_|refine Jt ?_)
 |(with_reducible first|refine Ju ?_|refine Jv ?_|refine Jw ?_|refine Jx ?_|refine Jy ?_|refine Jz ?_|refine JD ?_|refine JC ?_|refine JG ?_|refine JH ?_|refine JJ ?_|refine JK ?_)
 |(with_reducible first|refine JL ?_|refine JM ?_|refine JN ?_|refine JP ?_|refine JQ ?_|refine Ke ?_)
 |(with_reducible first|refine JZ ?_|refine Ka ?_|refine Kb ?_|refine Kc ?_|refine Kd ?_)
 |((with_reducible refine yT ?_);(try walk_at"env"))|(with_reducible refine yU ?_))
local macro_rules | `(tactic| walk_at"call")=>`(tactic| walk_at"n1")
local macro_rules | `(tactic| walk_at"call")=>`(tactic| first
 |((with_reducible refine' Jf ?h1 ?h2 ?h3 ?_);(case h1=>exact rfl);(case h2=>first|assumption|exact aE);(case h3=>exact rfl))
 |((with_reducible refine' Je ?h1 ?h2 ?h3 ?_);(case h1=>exact rfl);(case h2=>first|assumption|exact aE);(case h3=>exact rfl))
 |((with_reducible refine' Jj ?h1 ?h2 ?_);(case h1=>exact rfl);(case h2=>first|assumption|exact aE))
 |((with_reducible refine' JR ?h1 ?h2 ?_);(case h1=>exact rfl);(case h2=>first|assumption|exact aE))
 |((with_reducible refine' JV ?h1 ?h2 ?h3 ?_);(case h1=>exact rfl);(case h2=>first|assumption|exact aE);(case h3=>assumption))
 |((with_reducible refine' JY ?h1 ?h2 ?h3 ?_);(case h1=>exact rfl);(case h2=>first|assumption|exact aE);(case h3=>assumption)))
local macro_rules | `(tactic| walk_at"call")=>`(tactic| first
 |(with_reducible first|refine Ki ?_|refine Kj ?_|refine Kk ?_|refine Kh ?_|refine Kn ?_|refine Jc ?_)
 |((with_reducible refine Kg ?h ?_);(case h=>assumption)))
variable {ρ:ag}{M M' N:Sto}{Q:QE}{ta ti th:NTE}{EX:QX}{xa:NXA}{xe:NEX}{C a j fa n CD m o S J0 J5 num ra dk pl d1 d2:Nat}{ns row xs H_:h_}{T:NTX}{ds0 off:D_}{J6 l b w hd:z9}{i f r s x c d last scale J7 due:Int}{t I_:List h_}{J8 J9 p u:D}{z:Str}{ls nm ws nl:List z9}{ah:Bool}{rows:i_}
def LF:D_->E_:=mkF false 3 3 (bx (dq (e1 (iO "int") (a5 0)) (dq (kZ (e1 (iO "bool") (a5 0))) (e3c leI leI (a5 1) (a5 0) (a5 2)))))
abbrev fG:D_->E_:=scF LF
def LG:D_->E_:=mkF false 2 4 (bE (c6 2 (eC (.int 1))) (bE (l9 3 (a8 (a5 1) (ak)) (c6 2 (e2 dm (a5 2) (a5 0)))) (bx (a5 2))))
abbrev oQ:D_->E_:=scF LG
def LH:D_->E_:=mkF false 1 1 (bx (dq (e3c leI leI (eC (.int 1)) (eA (aB bA) (a8 (a5 0) (ak))) (eC (.int 6))) (eA (aB (gW λbs=>bs.all id)) (a8 (c7 1 [] [0] un1 (fQ (a5 0)) cg (eA fG (a8 (a5 0) (a8 (eC (.int 1)) (a8 (eC (.int 1000000)) (ak)))))) (ak)))))
abbrev oR:D_->E_:=scF LH
def LJ:D_->E_:=mkF false 1 1 (bx (eA (aB fu) (a8 (a5 0) (ak))))
abbrev oS:D_->E_:=scF LJ
def LK:D_->E_:=mkF false 2 2 (bE (sIf (eT (e2 neD (eA (aB bA) (a8 (a5 0) (ak))) (e2 br (a5 1) (eC (.int 1))))) (bx (eC (.bl false))) (ng)) (bx (dq (eA (aB (gW λbs=>bs.all id)) (a8 (c7 1 [] [0] un1 (fQ (a5 0)) cg (eA fG (a8 (a5 0) (a8 (eC (.int 0)) (a8 (eC (.int 1000)) (ak)))))) (ak))) (e2 gtI (eA oS (a8 (a5 0) (ak))) (eC (.int 0))))))
abbrev oU:D_->E_:=scF LK
def LL:D_->E_:=mkF false 2 2 (bx (dq (e2 leI (eA (aB bA) (a8 (a5 0) (ak))) (eC (.int 8))) (eA (aB (gW λbs=>bs.all id)) (a8 (c7 1 [1] [0] un1 (fQ (a5 0)) cg (eA oU (a8 (a5 0) (a8 (a5 1) (ak))))) (ak)))))
abbrev tu:D_->E_:=scF LL
def LM:D_->E_:=mkF false 3 3 (bx (dq (eA fG (a8 (a5 0) (a8 (eC (.int 0)) (a8 (eC (.int 10)) (ak))))) (dq (eA oR (a8 (a5 1) (ak))) (eA tu (a8 (a5 2) (a8 (eA (aB bA) (a8 (a5 1) (ak))) (ak)))))))
abbrev tz:D_->E_:=scF LM
def LN:D_->E_:=mkF true 2 4 (bE (c6 2 (b5 (a8 (a5 1) (ak)))) (bE (nI 3 (a5 0) (l6 2 (e2 dm (e2 ixD (a5 2) (e1 fk (eC (.int 1)))) (eA oS (a8 (a5 3) (ak)))))) (bx (e1 rE (a5 2)))))
abbrev oV:D_->E_:=LN
def LO:D_->E_:=mkF false 3 3 (bx (eA (aB fu) (a8 (c7 2 [] [0,1] (unT 2) (li (a5 0) (e2 c5 (a5 1) (b5 (a8 (a5 2) (ak))))) cg (e2 dm (a5 0) (a5 1))) (ak))))
abbrev tD:D_->E_:=scF LO
def LP:D_->E_:=mkF false 4 4 (bx (e2 br (e2 dm (a5 0) (a5 1)) (e2 ixD (a5 2) (e2 cZ (a5 3) (eC (.int 1))))))
abbrev oW:D_->E_:=scF LP
def LQ:D_->E_:=mkF false 4 4 (bE (sIf (eT (e2 eqD (a5 3) (eC (.int 0)))) (bx (e2 ixD (a5 2) (a5 3))) (ng)) (bx (eA (dH fP) (a8 (e2 ixD (a5 2) (a5 3)) (a8 (eA oW (a8 (a5 0) (a8 (a5 1) (a8 (a5 2) (a8 (a5 3) (ak)))))) (ak))))))
abbrev tE:D_->E_:=scF LQ
def LR:D_->E_:=mkF false 5 5 (bx (eA tD (a8 (a5 1) (a8 (c7 1 [2,3,4] [0] un1 (fQ (a5 0)) cg (eA tE (a8 (a5 0) (a8 (a5 1) (a8 (a5 2) (a8 (a5 3) (ak))))))) (a8 (e2 ixD (a5 3) (a5 4)) (ak))))))
abbrev tF:D_->E_:=scF LR
def LS:D_->E_:=mkF true 4 4 (bx (c7 1 [0,1,2,3] [0] un1 (iR1 (a8 (eA (aB bA) (a8 (a5 3) (ak))) (ak))) cg (eA tF (a8 (a5 1) (a8 (a5 2) (a8 (a5 3) (a8 (a5 4) (a8 (a5 0) (ak)))))))))
abbrev tG:D_->E_:=LS
def LT:D_->E_:=mkF true 4 7 (bE (c6 4 (eA oV (a8 (a5 1) (a8 (a5 2) (ak))))) (bE (c6 5 (b5 (a8 (e1 qT (a5 3)) ak))) (bE (nN 6 (a8 (e2 cZ (eA (aB bA) (a8 (a5 1) (ak))) (eC (.int 1))) (a8 (e1 fk (eC (.int 1))) (a8 (e1 fk (eC (.int 1))) (ak)))) (lm 5 (eA tG (a8 (a5 0) (a8 (e2 ixD (a5 1) (a5 6)) (a8 (e2 ixD (a5 4) (e2 br (a5 6) (eC (.int 1)))) (a8 (e2 ixD (a5 5) (e1 fk (eC (.int 1)))) (ak)))))))) (lq 5))))
abbrev tH:D_->E_:=LT
def LU:D_->E_:=mkF false 4 4 (bx (dq (e2 gtI (a5 3) (eC (.int 0))) (e2 geI (eA oW (a8 (a5 0) (a8 (a5 1) (a8 (a5 2) (a8 (a5 3) (ak)))))) (e2 ixD (a5 2) (a5 3)))))
abbrev tI:D_->E_:=scF LU
def LV:D_->E_:=mkF false 3 3 (bx (e1 fk (e2 jx (e2 cZ (e2 ixD (a5 1) (e2 cZ (a5 2) (eC (.int 1)))) (e2 ixD (a5 1) (a5 2))) (a5 0))))
abbrev tJ:D_->E_:=scF LV
def LW:D_->E_:=mkF false 1 6 (bE (c6 1 (e2 ixD (a5 0) (eC (.int 0)))) (bE (c6 2 (e2 ixD (a5 0) (eC (.int 1)))) (bE (c6 3 (e2 ixD (a5 0) (eC (.int 2)))) (bE (c6 4 (e2 ixD (a5 0) (eC (.int 3)))) (bE (c6 5 (dq (eA fG (a8 (a5 3) (a8 (eC (.int 1)) (a8 (eC (.int 1000)) (ak))))) (eA fG (a8 (a5 2) (a8 (eC (.int 0)) (a8 (a5 3) (ak))))))) (bx (dq (eA fG (a8 (a5 1) (a8 (eC (.int 0)) (a8 (eC (.int 10)) (ak))))) (dq (a5 5) (eA fG (a8 (a5 4) (a8 (eC (.int 0)) (a8 (eC (.int 1000000)) (ak)))))))))))))
abbrev oX:D_->E_:=scF LW
def LX:D_->E_:=mkF true 3 5 (bE (c6 3 (e2 c5 (c7 1 [2] [0] un1 (fQ (a5 0)) cg (e2 dm (a5 0) (a5 1))) (b5 (a8 (eC (.int 0)) (ak))))) (bE (c6 4 (e2 c5 (b5 (a8 (eC (.int 0)) (ak))) (c7 1 [1] [0] un1 (fQ (a5 0)) cg (e2 dm (a5 0) (a5 1))))) (bx (c7 2 [] [0,1] (unT 2) (li (a5 3) (a5 4)) cg (e2 br (a5 0) (a5 1))))))
abbrev tK:D_->E_:=LX
def LY:D_->E_:=mkF true 3 5 (bE (c6 3 (b5 (a8 (eC (.int 1)) (ak)))) (bE (l9 4 (a8 (a5 0) (ak)) (c6 3 (eA tK (a8 (a5 3) (a8 (a5 1) (a8 (e2 cZ (a5 2) (a5 1)) (ak))))))) (bx (eL (a5 3)))))
abbrev tL:D_->E_:=LY
def LZ:D_->E_:=mkF false 2 4 (bE (c6 2 (e2 ixD (a5 1) (eC (.int 0)))) (bE (c6 3 (eA tL (a8 (a5 0) (a8 (e2 ixD (a5 1) (eC (.int 1))) (a8 (e2 ixD (a5 1) (eC (.int 2))) (ak)))))) (bx (eA (aB fu) (a8 (c7 2 [2] [0,1] (unT 2) (lh (a5 3)) cg (e2 dm (a5 1) (eA (dH fP) (a8 (e2 cZ (a5 0) (a5 2)) (a8 (eC (.int 0)) (ak)))))) (ak))))))
abbrev tM:D_->E_:=scF LZ
def Ma:D_->E_:=mkF false 3 4 (bE (c6 3 (e2 ixD (a5 2) (eC (.int 3)))) (bx (e2 dm (e2 dm (e1 fk (a5 3)) (eA tM (a8 (a5 0) (a8 (a5 2) (ak))))) (eA oQ (a8 (e2 ixD (a5 2) (eC (.int 2))) (a8 (a5 1) (ak)))))))
abbrev tN:D_->E_:=scF Ma
def Mb:D_->E_:=mkF true 2 2 (bx (c7 1 [0,1] [0] un1 (iR1 (a8 (e2 br (a5 0) (eC (.int 1))) (ak))) cg (eA tN (a8 (e2 cZ (a5 1) (a5 0)) (a8 (a5 0) (a8 (a5 2) (ak)))))))
abbrev tO:D_->E_:=Mb
def Mc:D_->E_:=mkF false 2 2 (bx (eA oQ (a8 (e2 ixD (a5 1) (eC (.int 2))) (a8 (a5 0) (ak)))))
abbrev tP:D_->E_:=scF Mc
def Md:D_->E_:=mkF false 3 3 (bx (dq (e3c leI leI (eC (.int 1)) (eA (aB ie) (a8 (a5 0) (ak))) (a5 2)) (eA (aB (gW λbs=>bs.all id)) (a8 (c7 1 [1] [0] un1 (oC (a5 0)) cg (e2 inT (a5 0) (a5 1))) (ak)))))
abbrev iZ:D_->E_:=scF Md
def Me:D_->E_:=mkF false 1 1 (bx (eIf (dP (a5 0)) (eC (.str "yes")) (eC (.str "no"))))
abbrev j3:D_->E_:=scF Me
def Mf:D_->E_:=mkF false 1 1 (bx (eIf (eT (e1 dC (a5 0))) (eC (.str "-")) (eA (aB cr) (a8 (a5 0) (ak)))))
abbrev tQ:D_->E_:=scF Mf
def Mg:D_->E_:=mkF false 2 3 (bE (nq 2 (eSl (a5 0) (ci (a5 1)) (ci (e2 br (a5 1) (eC (.int 1))))) (bx (a5 2))) (bx (eC (.int 0))))
abbrev oY:D_->E_:=scF Mg
noncomputable abbrev c_:i_:=["seats","fares","rule","scales","table","told","sold","paid","dues","latest"]
noncomputable abbrev d_:i_:=["places","fares","rows","rule","office"]
def ba(b_:Nat)(a_:Nat):NTF:=mkN 2 3 (ai (aI 2 (nDg ["rest","mixed","count"] 0 (nP (a5 0)))) (ai (aK (eE (dS (nDg ["rest","mixed","count"] 1 (nP (a5 0))))) (ai (lF ["rest","mixed","count"] 0 (nP (a5 0)) (nP (e2 jx (a5 2) (a5 1)))) (aO (nP (e2 eN (a5 2) (a5 1))))) (sN)) (ai (lF ["rest","mixed","count"] 2 (nP (a5 0)) (n2 br (nDg ["rest","mixed","count"] 2 (nP (a5 0))) (nP (eC (.int 1))))) (ai (aI 2 (n2 br (nP (e2 eN (a5 2) (eC (.int 1000000000039)))) (n2 dm (nP (eC (.int 60013))) (nDg ["rest","mixed","count"] 2 (nP (a5 0)))))) (ai (aI 2 (nP (e2 eN (e2 dm (a5 2) (e2 br (a5 2) (eC (.int 17)))) (eC (.int 1000000000061))))) (ai (aI 2 (nP (e2 eN (e2 dm (a5 2) (a5 2)) (eC (.int 999999999989))))) (ai (lF ["rest","mixed","count"] 0 (nP (a5 0)) (nP (a5 2))) (aO (nP (e2 eN (e2 jx (a5 2) (eC (.int 5))) (a5 1)))))))))))
def lX(b_:Nat)(a_:Nat):NTF:=mkN 3 6 (ai (aI 3 (n2 ixD (nP (a5 1)) (aF (ba b_ a_) (aa (nP (a5 0)) (aa (nP (eA (aB bA) (a8 (a5 1) (ak)))) (aj)))))) (ai (aI 4 (cH (aB cr) (aa (aF (ba b_ a_) (aa (nP (a5 0)) (aa (nP (eC (.int 12))) (aj)))) (aj)))) (ai (aK (nPB (dP (a5 2))) (ai (aI 5 (nP (b5 (a8 (b5 (a8 (eC (.str "class")) (a8 (a5 3) (a8 (a5 4) (ak))))) (a8 (b5 (a8 (eC (.str "turn")) (a8 (a5 4) (a8 (eC (.str "1")) (ak))))) (a8 (b5 (a8 (eC (.str "rule")) (a8 (eC (.str "9")) (a8 (eC (.str "1")) (a8 (eC (.str "2")) (a8 (a5 4) (ak))))))) (a8 (b5 (a8 (eC (.str "open")) (a8 (a5 4) (ak)))) (ak)))))))) (aO (n2 ixD (nP (a5 5)) (aF (ba b_ a_) (aa (nP (a5 0)) (aa (nP (eC (.int 4))) (aj))))))) (sN)) (ai (aI 5 (nP (b5 (a8 (b5 (a8 (eC (.str "ask")) (a8 (a5 3) (ak)))) (a8 (b5 (a8 (eC (.str "ask")) (a8 (a5 3) (ak)))) (a8 (b5 (a8 (eC (.str "quiet")) (ak))) (a8 (b5 (a8 (eC (.str "came")) (a8 (a5 4) (ak)))) (a8 (b5 (a8 (eC (.str "left")) (ak))) (a8 (b5 (a8 (eC (.str "turns")) (ak))) (ak)))))))))) (aO (n2 ixD (nP (e2 c5 (a5 5) (b5 (a8 (b5 (a8 (eC (.str "coins")) (ak))) (a8 (b5 (a8 (eC (.str "why")) (ak))) (a8 (b5 (a8 (eC (.str "worth")) (ak))) (ak))))))) (aF (ba b_ a_) (aa (nP (a5 0)) (aa (nP (eC (.int 9))) (aj))))))))))
def oZ(b_:Nat)(a_:Nat):NTF:=mkN 1 2 (ai (aI 1 (nP (b5 (a8 (eC (.str "01")) (a8 (eC (.str "00")) (a8 (eC (.str "1a")) (a8 (eC (.str "-1")) (a8 (eC (.str "+1")) (a8 (eC (.str "1_0")) (a8 (eC (.str "10000000")) (a8 (eC (.str "a")) (a8 (eC (.str "1.")) (a8 (eC (.str "0x1")) (a8 (eC (.str "1\t")) (a8 (eC (.str "1\n")) (a8 (eC (.str "-0")) (a8 (eC (.str "O")) (a8 (eC (.str "\t1")) (ak))))))))))))))))))) (aO (n2 ixD (nP (e2 c5 (a5 1) (b5 (a8 (eC (.str "12345678")) (ak))))) (aF (ba b_ a_) (aa (nP (a5 0)) (aa (nP (eC (.int 16))) (aj)))))))
def pe(b_:Nat)(a_:Nat):NTF:=mkN 2 7 (ai (aI 2 (nP (b5 (a8 (eC (.str "class")) (a8 (eC (.str "turn")) (a8 (eC (.str "rule")) (a8 (eC (.str "open")) (a8 (eC (.str "ask")) (a8 (eC (.str "quiet")) (a8 (eC (.str "came")) (a8 (eC (.str "left")) (a8 (eC (.str "turns")) (a8 (eC (.str "coins")) (a8 (eC (.str "why")) (a8 (eC (.str "worth")) (ak)))))))))))))))) (ai (aI 3 (aF (ba b_ a_) (aa (nP (a5 0)) (aa (nP (eA (aB ie) (a8 (a5 1) (ak)))) (aj))))) (ai (aI 4 (nP (eC (.str "abcdefghijklmnopqrstuvwxyz#?!.:-")))) (ai (aI 5 (lD (aa (nP (e2 bL (df (a5 1) (cE) (ci (a5 3))) (df (a5 1) (ci (e2 br (a5 3) (eC (.int 1)))) (cE)))) (aa (nP (e2 bL (e2 bL (df (a5 1) (cE) (ci (a5 3))) (e2 ixT (a5 1) (a5 3))) (df (a5 1) (ci (a5 3)) (cE)))) (aa (n2 bL (n2 bL (nP (df (a5 1) (cE) (ci (a5 3)))) (n1 upT (nP (e2 ixT (a5 1) (a5 3))))) (nP (df (a5 1) (ci (e2 br (a5 3) (eC (.int 1)))) (cE)))) (aj)))))) (ai (aI 5 (oJ (nP (a5 5)) (eF (aa (nP (df (a5 1) (cE) (ci (eC (.int 1))))) (aa (n1 upT (nP (a5 1))) (aa (nP (e2 bL (a5 1) (eC (.str "\t")))) (aa (nP (e2 bL (a5 1) (eC (.str "\n")))) (aa (nP (e2 bL (eC (.str "\t")) (a5 1))) (aa (nP (eC (.str "undo"))) (aa (nP (eC (.str "help"))) (aa (nP (eC (.str "seats"))) (aa (nP (eC (.str "paper"))) (aj))))))))))))) (ai (gv (nP (a5 5)) (n1 (dY (.str "")) (hZ [0,4] (aa (n2 br (nP (eC (.int 1))) (aF (ba b_ a_) (aa (nP (a5 0)) (aa (nP (eC (.int 9))) (aj))))) (aj)) (n2 ixT (nP (e2 bL (a5 2) (eC (.str "0123456789")))) (aF (ba b_ a_) (aa (nP (a5 1)) (aa (nP (eC (.int 42))) (aj)))))))) (ai (aI 6 (lE (nP (a5 5)) (aF (ba b_ a_) (aa (nP (a5 0)) (aa (nP (eC (.int 13))) (aj)))))) (ai (aK (nPB (bOr (eT (e2 inD (a5 6) (a5 2))) (eT (e2 eqD (a5 6) (eC (.str "")))))) (aO (nP (eC (.str "rows")))) (sN)) (aO (nP (a5 6)))))))))))
def tR(b_:Nat)(a_:Nat):NTF:=mkN 2 4 (ai (aI 2 (aF (ba b_ a_) (aa (nP (a5 0)) (aa (nP (eA (aB ie) (a8 (a5 1) (ak)))) (aj))))) (ai (aI 3 (n2 ixT (nP (eC (.str "A9-_.,\t\n"))) (aF (ba b_ a_) (aa (nP (a5 0)) (aa (nP (eC (.int 8))) (aj)))))) (aO (n2 ixD (nP (b5 (a8 (e2 bL (e2 bL (df (a5 1) (cE) (ci (a5 2))) (a5 3)) (df (a5 1) (ci (e2 br (a5 2) (eC (.int 1)))) (cE))) (a8 (df (e2 bL (a5 1) (eC (.str "abcdefgh"))) (cE) (ci (eC (.int 9)))) (a8 (e2 bL (a5 1) (eC (.str "\n"))) (ak)))))) (aF (ba b_ a_) (aa (nP (a5 0)) (aa (nP (eC (.int 3))) (aj))))))))
def tS(b_:Nat)(a_:Nat):NTF:=mkN 3 11 (ai (aI 3 (aF (lX b_ a_) (aa (nP (a5 0)) (aa (nP (a5 1)) (aa (nP (a5 2)) (aj)))))) (ai (aI 4 (n2 ixD (nP (a5 1)) (aF (ba b_ a_) (aa (nP (a5 0)) (aa (nP (eA (aB bA) (a8 (a5 1) (ak)))) (aj)))))) (ai (aI 5 (aF (ba b_ a_) (aa (nP (a5 0)) (aa (nP (eC (.int 10))) (aj))))) (ai (aK (nPB (er (eT (e2 eqD (a5 5) (eC (.int 0)))) (eT (e2 neD (e2 ixD (a5 3) (eC (.int 0))) (eC (.str "turn")))))) (aO (n2 c5 (nP (a5 3)) (hZ [0,4] (aa (n2 br (nP (eC (.int 1))) (aF (ba b_ a_) (aa (nP (a5 0)) (aa (nP (eC (.int 4))) (aj))))) (aj)) (n2 ixD (nP (b5 (a8 (a5 2) (a8 (eC (.str "1")) (a8 (eC (.str "0")) (a8 (eC (.str "25")) (ak))))))) (aF (ba b_ a_) (aa (nP (a5 1)) (aa (nP (eC (.int 4))) (aj)))))))) (sN)) (ai (aK (nPB (eT (e2 eqD (a5 5) (eC (.int 1))))) (aO (tj (nP (a5 3)) (aF (ba b_ a_) (aa (nP (a5 0)) (aa (nP (eA (dH iH) (a8 (eC (.int 2)) (a8 (eA (aB bA) (a8 (a5 3) (ak))) (ak))))) (aj)))))) (sN)) (ai (aK (nPB (er (eT (e2 eqD (a5 5) (eC (.int 2)))) (dP (a5 2)))) (ai (aI 6 (aF (oZ b_ a_) (aa (nP (a5 0)) (aj)))) (ai (aI 7 (hV (b5 (a8 (eC (.str "9")) (a8 (eC (.str "1")) (a8 (eC (.str "2")) (a8 (eC (.str "0")) (ak)))))))) (ai (iR (nP (a5 7)) (aF (ba b_ a_) (aa (nP (a5 0)) (aa (nP (eC (.int 4))) (aj)))) (nP (a5 6))) (ai (aI 8 (tm (b5 (a8 (eC (.str "1")) (ak))) (n2 br (nP (eC (.int 1))) (aF (ba b_ a_) (aa (nP (a5 0)) (aa (nP (eC (.int 8))) (aj))))))) (ai (iR (nP (a5 8)) (aF (ba b_ a_) (aa (nP (a5 0)) (aa (cH (aB bA) (aa (nP (a5 8)) (aj))) (aj)))) (nP (a5 6))) (ai (nFz 8) (ai (nFz 7) (ai (aI 9 (nP (b5 (a8 (b5 (a8 (eC (.str "class")) (a8 (a5 4) (a8 (a5 6) (ak))))) (a8 (e2 c5 (b5 (a8 (eC (.str "turn")) (ak))) (a5 8)) (a8 (e2 c5 (b5 (a8 (eC (.str "rule")) (ak))) (a5 7)) (a8 (b5 (a8 (eC (.str "open")) (a8 (a5 6) (ak)))) (ak)))))))) (aO (n2 ixD (n2 c5 (nP (a5 9)) (eF (aa (eF (aa (nP (eC (.str "class"))) (aa (aF (tR b_ a_) (aa (nP (a5 0)) (aa (nP (a5 4)) (aj)))) (aa (nP (eC (.str "5"))) (aj))))) (aj)))) (aF (ba b_ a_) (aa (nP (a5 0)) (aa (nP (eC (.int 5))) (aj)))))))))))))) (sN)) (ai (aK (nPB (eT (e2 eqD (a5 5) (eC (.int 2))))) (aO (eF (aa (nP (eC (.str "came"))) (aa (aF (oZ b_ a_) (aa (nP (a5 0)) (aj))) (aj))))) (sN)) (ai (aK (nPB (eT (e2 ltI (a5 5) (eC (.int 5))))) (aO (n2 c5 (eF (aa (aF (pe b_ a_) (aa (nP (a5 0)) (aa (nP (e2 ixD (a5 3) (eC (.int 0)))) (aj)))) (aj))) (nP (eSl (a5 3) (ci (eC (.int 1))) (cE))))) (sN)) (ai (aK (nPB (eT (e2 eqD (a5 5) (eC (.int 5))))) (aO (nP (e2 c5 (b5 (a8 (eC (.str "")) (ak))) (a5 3)))) (sN)) (ai (aK (nPB (eT (e2 eqD (a5 5) (eC (.int 6))))) (aO (nP (e2 c5 (a5 3) (b5 (a8 (eC (.str "")) (ak)))))) (sN)) (ai (aK (nPB (eT (e2 eqD (a5 5) (eC (.int 7))))) (aO (aF (lX b_ a_) (aa (nP (a5 0)) (aa (nP (a5 1)) (aa (nP (kZ (a5 2))) (aj)))))) (sN)) (ai (aI 10 (n2 br (nP (eC (.int 1))) (aF (ba b_ a_) (aa (nP (a5 0)) (aa (nP (eA (aB bA) (a8 (a5 3) (ak)))) (aj)))))) (aO (n2 c5 (n2 c5 (nP (eSl (a5 3) (cE) (ci (a5 10)))) (sh (b5 (a8 (eC (.str "")) (ak))) (n2 br (nP (eC (.int 1))) (aF (ba b_ a_) (aa (nP (a5 0)) (aa (nP (eC (.int 2))) (aj))))))) (nP (eSl (a5 3) (ci (a5 10)) (cE)))))))))))))))))
def tT(b_:Nat)(a_:Nat):NTX:=mkX 1 2 (ai (aI 1 (hV (e1 (λx=>oB x (.str " ")) (a5 0)))) (ai (aK (bI (n2V inD (nP (eC (.str ""))) (nP (a5 1)))) (cB "NoRow") (sN)) (aO (nP (a5 1)))))
def pj(b_:Nat)(a_:Nat):NTF:=mkN 1 1 (aO (n2 eqD (aQ a_ c_ 5 (nP (a5 0))) (n2 cZ (cH (aB bA) (aa (aQ a_ c_ 3 (nP (a5 0))) (aj))) (nP (eC (.int 1))))))
def pp(b_:Nat)(a_:Nat):NTX:=mkX 2 2 (ai (aK (nPB (eT (e1 dC (a5 1)))) (aO (nP (eC .non))) (sN)) (ai (aK (eE (dS (jK fG (aa (nP (a5 1)) (aa (nP (eC (.int 0))) (aa (n2 cZ (cH (aB bA) (aa (aQ a_ c_ 1 (nP (a5 0))) (aj))) (nP (eC (.int 1)))) (aj))))))) (cB "NoClass") (sN)) (aO (n2 ixD (aQ a_ c_ 1 (nP (a5 0))) (nP (a5 1))))))
def j4(b_:Nat)(a_:Nat):NTF:=mkN 1 1 (aO (n2 cZ (aQ a_ c_ 0 (nP (a5 0))) (aQ a_ c_ 6 (nP (a5 0)))))
def pw(b_:Nat)(a_:Nat):NTF:=mkN 2 3 (ai (aI 2 (n2 br (aQ a_ c_ 5 (nP (a5 0))) (nP (eC (.int 1))))) (aO (rW (nP (e1 gr (a5 1))) (jK tI (aa (nP (a5 1)) (aa (n2 ixD (aQ a_ c_ 3 (nP (a5 0))) (nP (a5 2))) (aa (n2 ixD (aQ a_ c_ 4 (nP (a5 0))) (nP (a5 2))) (aa (cP a_ c_ (j4 b_ a_) (nP (a5 0)) aj) (aj)))))))))
def tU(b_:Nat)(a_:Nat):NTF:=mkN 1 2 (ai (aK (bI (n2 eqD (cP a_ c_ (j4 b_ a_) (nP (a5 0)) aj) (nP (eC (.int 0))))) (aO (nP (eC .non))) (sN)) (ai (aI 1 (n2 br (aQ a_ c_ 5 (nP (a5 0))) (nP (eC (.int 1))))) (aO (jK tJ (aa (n2 ixD (aQ a_ c_ 3 (nP (a5 0))) (nP (a5 1))) (aa (n2 ixD (aQ a_ c_ 4 (nP (a5 0))) (nP (a5 1))) (aa (cP a_ c_ (j4 b_ a_) (nP (a5 0)) aj) (aj))))))))
def gz(b_:Nat)(a_:Nat):NTX:=mkX 2 4 (ai (aK (dS (cP a_ c_ (pj b_ a_) (nP (a5 0)) aj)) (cB "Over") (sN)) (ai (jL 2 (dW a_ c_ (pp b_ a_) (nP (a5 0)) (aa (nP (a5 1)) (aj)))) (ai (aI 3 (cP a_ c_ (pw b_ a_) (nP (a5 0)) (aa (nP (a5 2)) (aj)))) (ai (hW a_ c_ 9 (nP (a5 0)) (jJ (aa (aQ a_ c_ 5 (nP (a5 0))) (aa (cP a_ c_ (j4 b_ a_) (nP (a5 0)) aj) (aa (cP a_ c_ (tU b_ a_) (nP (a5 0)) aj) (aa (nP (a5 2)) (aj))))))) (ai (hW a_ c_ 5 (nP (a5 0)) (n2 br (aQ a_ c_ 5 (nP (a5 0))) (nP (eC (.int 1))))) (ai (aK (nPB (dP (a5 3))) (ai (hW a_ c_ 6 (nP (a5 0)) (n2 br (aQ a_ c_ 6 (nP (a5 0))) (nP (eC (.int 1))))) (hW a_ c_ 7 (nP (a5 0)) (n2 br (aQ a_ c_ 7 (nP (a5 0))) (nP (a5 2))))) (sN)) (aO (nP (a5 3)))))))))
def tV(b_:Nat)(a_:Nat):NTF:=mkN 1 1 (aO (aQ a_ c_ 5 (nP (a5 0))))
def lY(b_:Nat)(a_:Nat):NTF:=mkN 1 1 (aO (nIf (bI (n1 dC (aQ a_ c_ 8 (nP (a5 0))))) (aQ a_ c_ 7 (nP (a5 0))) (n2 cZ (aQ a_ c_ 7 (nP (a5 0))) (aQ a_ c_ 8 (nP (a5 0))))))
def tW(b_:Nat)(a_:Nat):NTX:=mkX 1 1 (ai (aK (bI (n1 dC (aQ a_ c_ 9 (nP (a5 0))))) (cB "Early") (sN)) (aO (aQ a_ c_ 9 (nP (a5 0)))))
def py(b_:Nat)(a_:Nat):NTF:=mkN 1 1 (aO (jJ (aa (n2 ixD (n2 ixD (aQ a_ c_ 4 (nP (a5 0))) (nP (eC (.int 0)))) (aQ a_ c_ 0 (nP (a5 0)))) (aa (n2 ixD (aQ a_ c_ 3 (nP (a5 0))) (nP (eC (.int 0)))) (aj)))))
def ef(b_:Nat)(a_:Nat):NTX:=mkX 2 2 (ai (aK (nPB (eT (e2 eqD (a5 1) (eC (.str "quiet"))))) (fB (oI j3 (fF (dW a_ c_ (gz b_ a_) (aQ b_ d_ 4 (nP (a5 0))) (aa (nP (eC .non)) (aj))) (fY)))) (sN)) (ai (aK (nPB (eT (e2 eqD (a5 1) (eC (.str "left"))))) (aO (cH (aB cr) (aa (cP a_ c_ (j4 b_ a_) (aQ b_ d_ 4 (nP (a5 0))) aj) (aj)))) (sN)) (ai (aK (nPB (eT (e2 eqD (a5 1) (eC (.str "turns"))))) (aO (cH (aB cr) (aa (cP a_ c_ (tV b_ a_) (aQ b_ d_ 4 (nP (a5 0))) aj) (aj)))) (sN)) (ai (aK (nPB (eT (e2 eqD (a5 1) (eC (.str "coins"))))) (aO (cH (aB cr) (aa (cP a_ c_ (lY b_ a_) (aQ b_ d_ 4 (nP (a5 0))) aj) (aj)))) (sN)) (ai (aK (nPB (eT (e2 eqD (a5 1) (eC (.str "why"))))) (fB (x1 (dY (.str " ")) (t5 [] (dW a_ c_ (tW b_ a_) (aQ b_ d_ 4 (nP (a5 0))) aj) (nP (eA tQ (a8 (a5 0) (ak))))))) (sN)) (ai (aK (nPB (eT (e2 eqD (a5 1) (eC (.str "worth"))))) (aO (n1 (dY (.str " of ")) (t4 [] (cP a_ c_ (py b_ a_) (aQ b_ d_ 4 (nP (a5 0))) aj) (nP (eA (aB cr) (a8 (a5 0) (ak))))))) (sN)) (cB "NoRow")))))))
def il(b_:Nat)(a_:Nat):NTX:=mkX 2 2 (ai (aK (eE (dS (cP a_ c_ (pj b_ a_) (nP (a5 0)) aj))) (cB "Early") (sN)) (ai (aK (bI (n1 gr (aQ a_ c_ 8 (nP (a5 0))))) (cB "Done") (sN)) (ai (aK (eE (dS (jK fG (aa (nP (a5 1)) (aa (nP (eC (.int 0))) (aa (aQ a_ c_ 6 (nP (a5 0))) (aj))))))) (cB "TooMany") (sN)) (ai (hW a_ c_ 8 (nP (a5 0)) (n2 dm (n2 ixD (aQ a_ c_ 2 (nP (a5 0))) (nP (eC (.int 3)))) (cH (dH fP) (aa (n2 cZ (nP (a5 1)) (n2 ixD (aQ a_ c_ 2 (nP (a5 0))) (nP (eC (.int 0))))) (aa (nP (eC (.int 0))) (aj)))))) (aO (cP a_ c_ (lY b_ a_) (nP (a5 0)) aj))))))
def jX(b_:Nat)(a_:Nat):NTX:=mkX 2 2 (ai (aK (bI (oH (nP (a5 1)) (aQ b_ d_ 0 (nP (a5 0))))) (jU "NoClass" (a5 1)) (sN)) (aO (sZ (aQ b_ d_ 0 (nP (a5 0))) (nP (a5 1)))))
def im(b_:Nat)(a_:Nat):NTX:=mkX 1 1 (ai (aK (nPB (bOr (fo (dP (eA iZ (a8 (a5 0) (a8 (eC (.str "0123456789")) (a8 (eC (.int 7)) (ak))))))) (er (eT (e2 eqD (e2 ixT (a5 0) (eC (.int 0))) (eC (.str "0")))) (eT (e2 neD (a5 0) (eC (.str "0"))))))) (jU "NoRow" (a5 0)) (sN)) (aO (nP (eA (aB jT) (a8 (a5 0) (ak))))))
def j5(b_:Nat)(a_:Nat):NTX:=mkX 3 3 (ai (aK (nPB (er (eT (e2 eqD (a5 1) (eC (.str "ask")))) (eT (e2 eqD (eA (aB bA) (a8 (a5 2) (ak))) (eC (.int 1)))))) (fB (oI j3 (fF (gx a_ c_ (gz b_ a_) (aQ b_ d_ 4 (nP (a5 0))) (fF (dW b_ d_ (jX b_ a_) (nP (a5 0)) (aa (nP (e2 ixD (a5 2) (eC (.int 0)))) (aj))) (fY))) (fY)))) (sN)) (ai (aK (nPB (er (eT (e2 eqD (a5 1) (eC (.str "came")))) (eT (e2 eqD (eA (aB bA) (a8 (a5 2) (ak))) (eC (.int 1)))))) (fB (x1 cr (gx a_ c_ (il b_ a_) (aQ b_ d_ 4 (nP (a5 0))) (fF (fA (im b_ a_) (aa (nP (e2 ixD (a5 2) (eC (.int 0)))) (aj))) (fY))))) (sN)) (ai (aK (nPB (eT (e2 gtI (eA (aB bA) (a8 (a5 2) (ak))) (eC (.int 0))))) (cB "NoRow") (sN)) (fB (dW b_ d_ (ef b_ a_) (nP (a5 0)) (aa (nP (a5 1)) (aj)))))))
def tX(b_:Nat)(a_:Nat):NTX:=mkX 3 3 (ai (aK (bI (oG (nP (a5 1)) (aQ b_ d_ 0 (nP (a5 0))))) (yh) (sN)) (ai (aK (bI (n2 gtI (cH (aB bA) (aa (aQ b_ d_ 2 (nP (a5 0))) (aj))) (nP (eC (.int 0))))) (cB "NoTurn") (sN)) (ai (aK (bI (n2 eqD (cH (aB bA) (aa (aQ b_ d_ 1 (nP (a5 0))) (aj))) (nP (eC (.int 6))))) (cB "Full") (sN)) (ai (aK (nPB (fo (dP (eA oR (a8 (b5 (a8 (a5 2) (ak))) (ak)))))) (cB "NoSale") (sN)) (ai (t3 (aQ b_ d_ 0 (nP (a5 0))) (nP (a5 1)) (cH (aB bA) (aa (aQ b_ d_ 1 (nP (a5 0))) (aj)))) (gv (aQ b_ d_ 1 (nP (a5 0))) (nP (a5 2))))))))
def tY(b_:Nat)(a_:Nat):NTX:=mkX 1 1 (ai (aK (nPB (fo (dP (eA iZ (a8 (a5 0) (a8 (eC (.str "abcdefghijklmnopqrstuvwxyz")) (a8 (eC (.int 8)) (ak)))))))) (jU "NoRow" (a5 0)) (sN)) (aO (nP (a5 0))))
def tZ(b_:Nat)(a_:Nat):NTX:=mkX 2 3 (ai (aI 2 (cH (aB bA) (aa (aQ b_ d_ 1 (nP (a5 0))) (aj)))) (ai (aK (nPB (bOr (eT (e2 eqD (a5 2) (eC (.int 0)))) (eT (e2 neD (eA (aB bA) (a8 (a5 1) (ak))) (e2 br (a5 2) (eC (.int 1))))))) (cB "NoTurn") (sN)) (ai (aK (bI (n2 eqD (cH (aB bA) (aa (aQ b_ d_ 2 (nP (a5 0))) (aj))) (nP (eC (.int 8))))) (cB "Full") (sN)) (ai (aK (nPB (fo (dP (eA oU (a8 (a5 1) (a8 (a5 2) (ak))))))) (cB "NoSale") (sN)) (gv (aQ b_ d_ 2 (nP (a5 0))) (nP (a5 1)))))))
def lZ(b_:Nat)(a_:Nat):NTX:=mkX 1 1 (fB (oP [] (nP (a5 0)) (fA (im b_ a_) (aa (nP (a5 0)) (aj)))))
def zI(b_:Nat)(a_:Nat):NTX:=mkX 2 2 (ai (aK (nPB (fo (dP (eA oX (a8 (a5 1) (ak)))))) (cB "NoSale") (sN)) (hW b_ d_ 3 (nP (a5 0)) (nP (a5 1))))
def u6(b_:Nat)(a_:Nat):NTX:=mkX 5 6 (ai (aK (eE (dS (rZ tz (aa (nP (a5 1)) (aa (nP (a5 2)) (aa (nP (a5 3)) (aj))))))) (cB "NoSale") (sN)) (ai (aK (nPB (fo (dP (eA oX (a8 (a5 4) (ak)))))) (cB "NoSale") (sN)) (ai (aI 5 (nP (eA tP (a8 (a5 1) (a8 (a5 4) (ak)))))) (ai (de a_ (c_.take 0) "seats" (nP (a5 0)) (nP (a5 1))) (ai (de a_ (c_.take 1) "fares" (nP (a5 0)) (sg (nP (a5 2)))) (ai (de a_ (c_.take 2) "rule" (nP (a5 0)) (nP (a5 4))) (ai (de a_ (c_.take 3) "scales" (nP (a5 0)) (se oV (aa (nP (a5 3)) (aa (nP (a5 5)) (aj))))) (ai (de a_ (c_.take 4) "table" (nP (a5 0)) (sf tH (aa (nP (a5 2)) (aa (nP (a5 3)) (aa (nP (a5 5)) (aa (nP (eA tO (a8 (a5 1) (a8 (a5 4) (ak))))) (aj))))))) (ai (de a_ (c_.take 5) "told" (nP (a5 0)) (nP (eC (.int 0)))) (ai (de a_ (c_.take 6) "sold" (nP (a5 0)) (nP (eC (.int 0)))) (ai (de a_ (c_.take 7) "paid" (nP (a5 0)) (nP (eC (.int 0)))) (ai (de a_ (c_.take 8) "dues" (nP (a5 0)) (nP (eC .non))) (de a_ (c_.take 9) "latest" (nP (a5 0)) (nP (eC .non)))))))))))))))
def u7(b_:Nat)(a_:Nat):NTX:=mkX 2 3 (ai (aI 2 (nIf (bI (n1 dC (aQ b_ d_ 3 (nP (a5 0))))) (nP (wH (a8 (a5 1) (a8 (eC (.int 1)) (a8 (eC (.int 1)) (a8 (eC (.int 0)) (ak))))))) (aQ b_ d_ 3 (nP (a5 0))))) (t7 b_ d_ 4 (nP (a5 0)) (sk a_ (u6 b_ a_) (aa (nP (a5 1)) (aa (aQ b_ d_ 1 (nP (a5 0))) (aa (aQ b_ d_ 2 (nP (a5 0))) (aa (nP (a5 2)) (aj))))))))
def gA(b_:Nat)(a_:Nat):NTX:=mkX 3 3 (ai (aK (nPB (er (eT (e2 eqD (a5 1) (eC (.str "class")))) (eT (e2 eqD (eA (aB bA) (a8 (a5 2) (ak))) (eC (.int 2)))))) (jM (gx b_ d_ (tX b_ a_) (nP (a5 0)) (fF (fA (tY b_ a_) (aa (nP (e2 ixD (a5 2) (eC (.int 0)))) (aj))) (fF (fA (im b_ a_) (aa (nP (e2 ixD (a5 2) (eC (.int 1)))) (aj))) (fY))))) (aK (nPB (er (eT (e2 eqD (a5 1) (eC (.str "turn")))) (eT (e2 gtI (eA (aB bA) (a8 (a5 2) (ak))) (eC (.int 0)))))) (jM (gx b_ d_ (tZ b_ a_) (nP (a5 0)) (fF (fA (lZ b_ a_) (aa (nP (a5 2)) (aj))) (fY)))) (aK (nPB (er (eT (e2 eqD (a5 1) (eC (.str "rule")))) (eT (e2 eqD (eA (aB bA) (a8 (a5 2) (ak))) (eC (.int 4)))))) (jM (gx b_ d_ (zI b_ a_) (nP (a5 0)) (fF (tf (fA (lZ b_ a_) (aa (nP (a5 2)) (aj)))) (fY)))) (aK (nPB (er (eT (e2 eqD (a5 1) (eC (.str "open")))) (eT (e2 eqD (eA (aB bA) (a8 (a5 2) (ak))) (eC (.int 1)))))) (jM (gx b_ d_ (u7 b_ a_) (nP (a5 0)) (fF (fA (im b_ a_) (aa (nP (e2 ixD (a5 2) (eC (.int 0)))) (aj))) (fY)))) (cB "NoRow"))))) (aO (nP (eC (.str "ok")))))
def cC(b_:Nat)(a_:Nat):NTX:=mkX 2 3 (ai (jL 2 (fA (tT b_ a_) (aa (nP (a5 1)) (aj)))) (ai (aK (bI (n1 dC (aQ b_ d_ 4 (nP (a5 0))))) (fB (dW b_ d_ (gA b_ a_) (nP (a5 0)) (aa (lE (nP (a5 2)) (nP (eC (.int 0)))) (aa (o3 1 (nP (a5 2))) (aj))))) (sN)) (fB (dW b_ d_ (j5 b_ a_) (nP (a5 0)) (aa (lE (nP (a5 2)) (nP (eC (.int 0)))) (aa (o3 1 (nP (a5 2))) (aj)))))))
def io(b_:Nat)(a_:Nat):NTF:=mkN 2 6 (ai (aI 2 (nP (eC .non))) (ai (aI 3 (nP (eC .non))) (ai (sm 2 4 (jL 3 (dW b_ d_ (cC b_ a_) (nP (a5 0)) (aa (nP (a5 1)) (aj))))) (ai (aK (nPB (eT (e1 dC (a5 2)))) (aO (nP (a5 3))) (sN)) (ai (aI 5 (eF (aa (eQ "NoRow" (nP (a5 2))) (aa (so (nP (a5 2))) (aa (eQ "NoClass" (nP (a5 2))) (aj)))))) (ai (aI 5 (n2 c5 (nP (a5 5)) (eF (aa (eQ "Over" (nP (a5 2))) (aa (eQ "Early" (nP (a5 2))) (aa (eQ "Done" (nP (a5 2))) (aj))))))) (ai (aI 5 (n2 c5 (nP (a5 5)) (eF (aa (eQ "TooMany" (nP (a5 2))) (aa (eQ "Twice" (nP (a5 2))) (aa (eQ "NoTurn" (nP (a5 2))) (aj))))))) (aO (n2 c5 (nP (a5 5)) (eF (aa (eQ "Full" (nP (a5 2))) (aa (eQ "NoSale" (nP (a5 2))) (aj)))))))))))))
def j6(b_:Nat)(a_:Nat):NTF:=mkN 3 4 (ai (nY 3 (nP (a5 2)) (aK (bI (n2 neD (aF (io b_ a_) (aa (nP (a5 0)) (aa (nP (a5 3)) (aj)))) (aF (io b_ a_) (aa (nP (a5 1)) (aa (nP (a5 3)) (aj)))))) (aO (nP (eC (.bl false)))) (sN))) (aO (nP (eC (.bl true)))))
def u8(b_:Nat)(a_:Nat):NTF:=mkN 2 14 (ai (aI 2 (nP (eC (.str "abcdefghijklmnopqrstuvwxyz")))) (ai (aI 3 (nP (b5 (a8 (eC (.str "class")) (a8 (eC (.str "turn")) (a8 (eC (.str "rule")) (a8 (eC (.str "open")) (a8 (eC (.str "ask")) (a8 (eC (.str "quiet")) (a8 (eC (.str "came")) (a8 (eC (.str "left")) (a8 (eC (.str "turns")) (a8 (eC (.str "coins")) (a8 (eC (.str "why")) (a8 (eC (.str "worth")) (a8 (eC (.str "no")) (ak))))))))))))))))) (ai (aI 4 (n1 (dY (.str "")) (hZ [0,2] (aa (nP (eC (.int 7))) (aj)) (n2 ixT (nP (a5 2)) (aF (ba b_ a_) (aa (nP (a5 1)) (aa (nP (eC (.int 26))) (aj)))))))) (ai (aI 5 (aF (ba b_ a_) (aa (nP (a5 0)) (aa (nP (eC (.int 4))) (aj))))) (ai (aI 6 (aF (ba b_ a_) (aa (nP (a5 0)) (aa (nP (eC (.int 26))) (aj))))) (ai (aI 7 (t6 (nP (a5 4)) (aF (ba b_ a_) (aa (nP (a5 0)) (aa (nP (eC (.int 8))) (aj)))))) (ai (aI 8 (aF (ba b_ a_) (aa (nP (a5 0)) (aa (nP (e2 br (eA (aB ie) (a8 (a5 7) (ak))) (eC (.int 1)))) (aj))))) (ai (aI 9 (hV (b5 (ak)))) (ai (nZ 10 (aa (nP (a5 1)) (aj)) (ai (aI 11 (nP (e2 ixT (a5 2) (e2 eN (e2 br (a5 6) (e2 jx (a5 10) (eC (.int 8)))) (eC (.int 26)))))) (ai (aI 12 (nP (e2 bL (e2 bL (df (a5 7) (cE) (ci (a5 8))) (e2 ixT (a5 2) (e2 eN (e2 br (a5 6) (a5 10)) (eC (.int 26))))) (df (a5 7) (ci (a5 8)) (cE))))) (gv (nP (a5 9)) (nP (e2 ixD (b5 (a8 (e2 bL (a5 11) (df (a5 4) (cE) (ci (e2 eN (a5 10) (eC (.int 8)))))) (a8 (e2 bL (df (a5 4) (ci (e2 cZ (eC (.int 7)) (e2 eN (a5 10) (eC (.int 8))))) (cE)) (a5 11)) (a8 (a5 12) (a8 (a5 12) (ak)))))) (a5 5))))))) (ai (aI 13 (n2 ixD (nP (a5 3)) (aF (ba b_ a_) (aa (nP (a5 0)) (aa (nP (eC (.int 13))) (aj)))))) (ai (aK (lC (bI (n2V nL (nP (a5 13)) (nP (a5 9)))) (bI (n2 eqD (aF (ba b_ a_) (aa (nP (a5 0)) (aa (nP (eC (.int 2))) (aj)))) (nP (eC (.int 0)))))) (iR (nP (a5 9)) (aF (ba b_ a_) (aa (nP (a5 0)) (aa (nP (a5 1)) (aj)))) (nP (a5 13))) (sN)) (nX 9))))))))))))
def jY(b_:Nat)(a_:Nat):NTF:=mkN 2 2 (aO (rX ["rest","mixed","count"] (a8 (eA oY (a8 (a5 0) (a8 (a5 1) (ak)))) (a8 (e2 eqD (e2 eN (eA oY (a8 (a5 0) (a8 (eC (.int 0)) (ak)))) (eC (.int 2))) (eC (.int 1))) (a8 (e2 br (eC (.int 1)) (a5 1)) (ak))))))
def m6(b_:Nat)(a_:Nat):NTF:=mkN 2 3 (ai (aI 2 (aF (ba b_ a_) (aa (nP (a5 0)) (aa (nP (eC (.int 4))) (aj))))) (ai (aK (nPB (eT (e2 eqD (a5 2) (eC (.int 0))))) (aO (aF (ba b_ a_) (aa (nP (a5 0)) (aa (nP (eA (dH iH) (a8 (eC (.int 10)) (a8 (a5 1) (ak))))) (aj))))) (sN)) (ai (aK (nPB (eT (e2 eqD (a5 2) (eC (.int 1))))) (aO (nP (e2 cZ (a5 1) (eC (.int 1))))) (sN)) (aO (aF (ba b_ a_) (aa (nP (a5 0)) (aa (nP (a5 1)) (aj))))))))
def u9(b_:Nat)(a_:Nat):NTF:=mkN 1 2 (ai (aI 1 (n2 br (nP (eC (.int 1))) (aF (m6 b_ a_) (aa (nP (a5 0)) (aa (nP (eC (.int 1000))) (aj)))))) (aO (jJ (aa (aF (ba b_ a_) (aa (nP (a5 0)) (aa (nP (eC (.int 11))) (aj)))) (aa (aF (ba b_ a_) (aa (nP (a5 0)) (aa (nP (e2 br (a5 1) (eC (.int 1)))) (aj)))) (aa (nP (a5 1)) (aa (aF (m6 b_ a_) (aa (nP (a5 0)) (aa (nP (e2 br (e2 mX (eC (.int 10)) (eC (.int 6))) (eC (.int 1)))) (aj)))) (aj))))))))
def ua(b_:Nat)(a_:Nat):NTF:=mkN 2 4 (ai (aI 2 (hV (b5 (ak)))) (ai (nZ 3 (aa (nP (e2 br (a5 1) (eC (.int 1)))) (aj)) (gv (nP (a5 2)) (n2 ixD (eF (aa (nP (eC (.int 0))) (aa (aF (ba b_ a_) (aa (nP (a5 0)) (aa (nP (eC (.int 10))) (aj)))) (aa (aF (ba b_ a_) (aa (nP (a5 0)) (aa (nP (eC (.int 1001))) (aj)))) (aj))))) (aF (ba b_ a_) (aa (nP (a5 0)) (aa (nP (eC (.int 3))) (aj))))))) (ai (aK (bI (n2 eqD (cH (aB fu) (aa (nP (a5 2)) (aj))) (nP (eC (.int 0))))) (iR (nP (a5 2)) (nP (a5 1)) (nP (eC (.int 1)))) (sN)) (nX 2))))
def ub(b_:Nat)(a_:Nat):NTF:=mkN 2 7 (ai (aI 2 (aF (jY b_ a_) (aa (nP (a5 0)) (aa (nP (a5 1)) (aj))))) (ai (aI 3 (aF (ba b_ a_) (aa (nP (a5 2)) (aa (nP (eC (.int 11))) (aj))))) (ai (aI 4 (hZ [2] (aa (n2 br (nP (eC (.int 1))) (aF (ba b_ a_) (aa (nP (a5 2)) (aa (nP (eC (.int 6))) (aj))))) (aj)) (n2 br (nP (eC (.int 1))) (aF (m6 b_ a_) (aa (nP (a5 1)) (aa (nP (e2 mX (eC (.int 10)) (eC (.int 6)))) (aj))))))) (ai (aI 5 (aF (u9 b_ a_) (aa (nP (a5 2)) (aj)))) (ai (aI 6 (aF (ba b_ a_) (aa (nP (a5 2)) (aa (nP (eC (.int 9))) (aj))))) (ai (aI 2 (aF (jY b_ a_) (aa (nP (a5 0)) (aa (nP (e2 br (a5 1) (eC (.int 1)))) (aj))))) (aO (jJ (aa (nP (a5 3)) (aa (nP (a5 4)) (aa (hZ [2,4] (aa (nP (a5 6)) (aj)) (aF (ua b_ a_) (aa (nP (a5 1)) (aa (nP (eA (aB bA) (a8 (a5 2) (ak)))) (aj))))) (aa (nP (a5 5)) (aj)))))))))))))
def m7(b_:Nat)(a_:Nat):NTF:=mkN 6 9 (ai (nY 6 (nP (a5 3)) (aK (nPB (eT (e2 ltI (a5 6) (eA (dH iH) (a8 (eC (.int 63)) (a8 (eA (aB bA) (a8 (a5 2) (ak))) (ak))))))) (ai (aI 7 (aF (jY b_ a_) (aa (nP (a5 2)) (aa (nP (a5 6)) (aj))))) (ai (aK (bI (n2 neD (aF (io b_ a_) (aa (nP (a5 0)) (aa (n1 (dY (.str " ")) (aF (tS b_ a_) (aa (nP (a5 7)) (aa (nP (a5 4)) (aa (nP (a5 5)) (aj)))))) (aj)))) (nP (e2 c5 (b5 (a8 (eC (.bl true)) (a8 (eC (.bl true)) (ak)))) (e2 fM (b5 (a8 (eC (.bl false)) (ak))) (eC (.int 9))))))) (aO (nP (eC (.bl false)))) (sN)) (ai (aI 8 (n1 (dY (.str " ")) (aF (lX b_ a_) (aa (nP (a5 7)) (aa (nP (a5 4)) (aa (nP (eC (.bl false))) (aj))))))) (aK (lC (nPB (fo (dP (a5 5)))) (lC (bI (n2 eqD (aF (ba b_ a_) (aa (nP (a5 7)) (aa (nP (eC (.int 3))) (aj)))) (nP (eC (.int 0))))) (eE (dS (aF (j6 b_ a_) (aa (nP (a5 0)) (aa (nP (a5 1)) (aa (nP (b5 (a8 (a5 8) (ak)))) (aj))))))))) (aO (nP (eC (.bl false)))) (sN))))) (sN))) (aO (nP (eC (.bl true)))))
def pz(b_:Nat)(a_:Nat):NTF:=mkN 1 1 (ai (de b_ (d_.take 0) "places" (nP (a5 0)) (sY)) (ai (de b_ (d_.take 1) "fares" (nP (a5 0)) (lD aj)) (ai (de b_ (d_.take 2) "rows" (nP (a5 0)) (lD aj)) (ai (de b_ (d_.take 3) "rule" (nP (a5 0)) (nP (eC .non))) (de b_ (d_.take 4) "office" (nP (a5 0)) (nP (eC .non)))))))
def uc(b_:Nat)(a_:Nat):NTF:=mkN 1 10 (ai (rY [1,2,3,4] (aF (ub b_ a_) (aa (nP (a5 0)) (aa (nP (eC (.int 1))) (aj))))) (ai (aI 5 (aF (u8 b_ a_) (aa (aF (jY b_ a_) (aa (nP (a5 0)) (aa (nP (eC (.int 3))) (aj)))) (aa (nP (eC (.int 9))) (aj))))) (ai (aI 6 (oK b_ (pz b_ a_))) (ai (aI 7 (oK b_ (pz b_ a_))) (ai (aI 8 (hV (c7 2 [5] [0,1] (unT 2) (lh (a5 2)) cg (e2 bL (e2 bL (e2 bL (eC (.str "class ")) (e2 ixD (a5 2) (a5 0))) (eC (.str " "))) (eA (aB cr) (a8 (a5 1) (ak))))))) (ai (aI 8 (oJ (nP (a5 8)) (sj [] (nP (a5 3)) (n2 bL (nP (eC (.str "turn "))) (n1 (dY (.str " ")) (nP (c7 1 [] [0] un1 (fQ (a5 0)) cg (eA (aB cr) (a8 (a5 0) (ak)))))))))) (ai (gv (nP (a5 8)) (n2 bL (nP (eC (.str "rule "))) (n1 (dY (.str " ")) (nP (c7 1 [] [0] un1 (oM (a5 4)) cg (eA (aB cr) (a8 (a5 0) (ak)))))))) (ai (nFz 8) (ai (aK (nOr (eE (dS (aF (m7 b_ a_) (aa (nP (a5 6)) (aa (nP (a5 7)) (aa (nP (a5 0)) (aa (nP (eA lrD (a8 (eC (.int 4)) (a8 (eC (.int 14)) (ak))))) (aa (nP (a5 5)) (aa (nP (eC (.bl true))) (aj)))))))))) (eE (dS (aF (j6 b_ a_) (aa (nP (a5 6)) (aa (nP (a5 7)) (aa (nP (a5 8)) (aj)))))))) (aO (nP (eC (.bl false)))) (sN)) (ai (aK (eE (dS (aF (m7 b_ a_) (aa (nP (a5 6)) (aa (nP (a5 7)) (aa (nP (a5 0)) (aa (nP (eA lrD (a8 (eC (.int 14)) (a8 (eC (.int 19)) (ak))))) (aa (nP (a5 5)) (aa (nP (eC (.bl true))) (aj)))))))))) (aO (nP (eC (.bl false)))) (sN)) (ai (aK (eE (dS (aF (j6 b_ a_) (aa (nP (a5 6)) (aa (nP (a5 7)) (aa (nP (b5 (a8 (e2 bL (eC (.str "open ")) (eA (aB cr) (a8 (a5 1) (ak)))) (ak)))) (aj))))))) (aO (nP (eC (.bl false)))) (sN)) (ai (aK (eE (dS (aF (m7 b_ a_) (aa (nP (a5 6)) (aa (nP (a5 7)) (aa (nP (a5 0)) (aa (nP (eA lrD (a8 (eC (.int 19)) (a8 (eC (.int 63)) (ak))))) (aa (nP (a5 5)) (aa (nP (eC (.bl false))) (aj)))))))))) (aO (nP (eC (.bl false)))) (sN)) (ai (aI 9 (nP (e2 c5 (e2 fM (b5 (a8 (eC (.str "quiet")) (ak))) (eA (aB bA) (a8 (a5 3) (ak)))) (b5 (a8 (eC (.str "left")) (a8 (eC (.str "turns")) (a8 (eC (.str "coins")) (a8 (eC (.str "why")) (a8 (eC (.str "worth")) (a8 (eC (.str "came 0")) (a8 (eC (.str "coins")) (a8 (eC (.str "why")) (ak))))))))))))) (aO (aF (j6 b_ a_) (aa (nP (a5 6)) (aa (nP (a5 7)) (aa (nP (a5 9)) (aj)))))))))))))))))))
section
variable {tb tk tv te:NTE}{E:EndN}{ns:i_}
def Mh{QA:D_->Sto->Prop}(h:QA [] M):fY ρ M QA EX:=h
def Mi{QA:D_->Sto->Prop}(h:xe ρ M (λd M1=>xa ρ M1 (λds M2=>QA (d::ds) M2) EX) EX):fF xe xa ρ M QA EX:=h
def Mj(hv:a5 j ρ=some (.ptr a))(hm:M a=some (.ins C ns ds0))(h:xa ρ M (λds M2=>T (.ptr a::ds) M2 Q EX) EX):gx C ns T (nP (a5 j)) xa ρ M Q EX:=⟨_,hv,a,ds0,rfl,hm,h⟩
def Ml{g:D->E_}(h:xe ρ M (λx M1=>W1 g x λd=>Q d M1) EX):x1 g xe ρ M Q EX:=h
def Mm{G:D_->E_}(h:xa ρ M (λds M1=>WF G ds λd=>Q d M1) EX):oI G xa ρ M Q EX:=h
def Mn(h:ta ρ M λx M1=>th ρ M1 λy M2=>∃i d,y=.int i/\slT x none (some i)=some d/\Q d M2):t6 ta th ρ M Q:=h
def Mo(h:∀a,M a=none->Q (.ptr a) (aD M a (.dic [] []))):sY ρ M Q:=h
def Mp(h:tk ρ M λy M1=>ta ρ M1 λx M2=>∃a ns ds f,x=.ptr a/\y=.str f/\M2 a=some (.dic ns ds)/\Q (.bl (decide (f∈ns))) M2):oG tk ta ρ M Q:=h
def Mq(h:tk ρ M λy M1=>ta ρ M1 λx M2=>∃a ns ds f,x=.ptr a/\y=.str f/\M2 a=some (.dic ns ds)/\Q (.bl (!decide (f∈ns))) M2):oH tk ta ρ M Q:=h
def Mr(h:ta ρ M λx M1=>tk ρ M1 λy M2=>∃a ns ds f d,x=.ptr a/\y=.str f/\M2 a=some (.dic ns ds)/\iY ns ds f=some d/\Q d M2):sZ ta tk ρ M Q:=h
def Ms(h:tv ρ M λv M1=>ta ρ M1 λx M2=>tk ρ M2 λy M3=>∃a ns ds f,x=.ptr a/\y=.str f/\M3 a=some (.dic ns ds)/\f∉ns/\ns.length<1000/\E.nx ρ (aD M3 a (.dic (ns++[f]) (ds++[v])))):t3 ta tk tv E ρ M:=h
def Mt(h:ti ρ M λd M1=>∃ds,d=.tup ds/\ds.length<=1000/\dD 1 te (bh 1 J6 ρ) ds [] M1 λds M2=>Q (.lst ds) M2):t4 J6 ti te ρ M Q:=h
def Mu(h:xe ρ M (λd M1=>∃ds,d=.tup ds/\ds.length<=1000/\dD 1 te (bh 1 J6 ρ) ds [] M1 λds M2=>Q (.lst ds) M2) EX):t5 J6 xe te ρ M Q EX:=h
def Mv(h:ta ρ M λx M1=>tb ρ M1 λy M2=>∃xs ys,vw1 M2 x=.lst xs/\y=.lst ys/\xs.length+ys.length<=100000/\∀a,M2 a=none->Q (.ptr a) (aD M2 a (.lst (xs++ys)))):oJ ta tb ρ M Q:=h
def zJ{T:NTF}(h:∀a,M a=none->T [.ptr a] (aD M a (.ins C [] [])) λd M2=>d=.non/\Q (.ptr a) M2):oK C T ρ M Q:=h
def Mw{i:Nat}(h:xe ρ M (λv M1=>ta ρ M1 λx M2=>∃a ds,x=.ptr a/\M2 a=some (.ins C ns ds)/\E.nx ρ (aD M2 a (.ins C ns (ds.set i v)))) E.ex):t7 C ns i ta xe E ρ M:=h
def Mx{K:D_->Prop}{f:FE}(h:WE f ρ λd=>∃ds,d=.tup ds/\K ds):WI (oM f) ρ K:=by ext(⟨d,e,ds,rfl,hk⟩:h);show⟨ds,by simp[oM,e],hk⟩
def fZ{K:D->Prop}(hn:i.natAbs.log2<1900)(h:K (.str (mkT (aM i)))):WF (aB cr) [.int i] K:=⟨_,by erw[aB,cr,if_pos hn],h⟩
def Mz{K:D->Prop}(hn:i.natAbs.log2<1900)(h:K (.str (mkT (aM i)))):W1 cr (.int i) K:=⟨_,by erw[cr,if_pos hn],h⟩
end
local macro_rules | `(tactic| walk_at"call")=>`(tactic| first
 |(with_reducible first|refine kx_q ?_|refine Mh ?_|refine Mi ?_|refine kx_callA ?_|refine Ml ?_|refine Mm ?_|refine Mn ?_|refine Mp ?_|refine Mq ?_|refine Mr ?_|refine Ms ?_)
 |(with_reducible first|refine Mt ?_|refine Mu ?_|refine kn_tupOf ?_|refine Mv ?_|refine kn_catV ?_|refine Mw ?_|refine Mx ?_)
 |((with_reducible refine' Mj ?h1 ?h2 ?_);(case h1=>exact rfl);(case h2=>first|assumption|exact aE)))
def MB(h:xe ρ M (λx M1=>∃ds,x=.lst ds/\Q (.tup ds) M1) EX):tf xe ρ M Q EX:=h
def MC(h:ta ρ M λx M1=>th ρ M1 λy M2=>∃ds i,x=.lst ds/\y=.int i/\Q (.lst (cU ds none (some i))) M2):tj ta th ρ M Q:=h
def MD(h:ti ρ M λd M1=>∃ds,cj d=some ds/\ds.length<=1000/\lW xe (bh 1 J6 ρ) ds [] M1 (λds M2=>Q (.lst ds) M2) EX):oP J6 ti xe ρ M Q EX:=h
def ME{fa:FE}(h:WE fa ρ λx=>ta ρ M λy M1=>∃ds,fM x y=some (.lst ds)/\∀a,M1 a=none->Q (.ptr a) (aD M1 a (.lst ds))):tm fa ta ρ M Q:=h
local macro_rules | `(tactic| walk_at"call")=>`(tactic| first
 |(with_reducible first|refine MB ?_|refine MC ?_|refine MD ?_|refine ME ?_))
def Pool(M:Sto)(a:Nat)(n:Nat):Prop:=∃(r:Int) (m:Bool) (c:Int),M a=some (.dic ["rest","mixed","count"] [.int r,.bl m,.int c])/\0<=c/\c<=(n:Nat)
def Pool.keep{S:Nat->Prop}(h:Pool M a n)(k:Kp S M M')(hs:¬S a):Pool M' a n:=by ext(⟨r,m,c,h1,h2⟩:h);show⟨r,m,c,k _ _ h1 hs,h2⟩
def Pool.le{n':Nat}(h:Pool M a n)(k:n<=n'):Pool M a n':=by ext(⟨r,m,c,h1,h2,h3⟩:h);show⟨r,m,c,h1,h2,by ext⟩
def bc{many:Int}(hp:Pool M a n)(hn:n<=100000)(h0:0<many)(h1:many<=10 ^ 41)(h:∀r M',0<=r->r<many->Pool M' a (n+1)->Kp (· = a) M M'->Q (.int r) M'):ba CD C [.ptr a,.int many] M Q:=by
 ext(⟨r,m,c,hm,hc1,hc2⟩:hp);show bV rfl ?_;walk_at"env";cases m with
 |false=>lia;show⟨a,_,rfl,hm,?_⟩;lia;show h _ _ (Int.emod_nonneg _ ∅) (Int.emod_lt_of_pos _ h0) ⟨_,_,_,aE,hc1,by ext⟩ (Kp.upd (.inl rfl))
 |true=>lia;show⟨a,_,rfl,hm,?_⟩;lia;show⟨a,_,rfl,aE,?_⟩;lia;rw[eD];show h _ _ (Int.emod_nonneg _ ∅) (Int.emod_lt_of_pos _ h0) ⟨_,_,_,aE,by ext,by ext⟩ (Kp.upd (.inl rfl))
def zK{k:Int}(h0:0<=k):WF oY [.scr ns,.int k] λd=>∃x,d=.int x:=by
 show cG (bW rfl ?_);grind;have e:cU (ns.map D.int) (some k) (some (k+1))=(cU ns (some k) (some (k+1))).map D.int:=by simp[cU,List.map_drop,List.map_take]
 rw[e];cases cU ns (some k) (some (k+1))with
 |nil=>show⟨_,rfl,_,rfl,rfl,_,rfl⟩
 |cons x r=>show⟨_,rfl,rfl,_,rfl⟩
def pA{k:Int}(h0:0<=k)(h1:k<=1000)(h:∀a M',M a=none->Pool M' a 2000->Kp (λ_=>False) M M'->Q (.ptr a) M'):jY CD C [.scr ns,.int k] M Q:=by show bV rfl ?_;grind;show Jd ?_;lia;show iQ (zK h0) ?_;rintro _ ⟨x,rfl⟩;lia;show iQ (zK ∅) ?_;rintro _ ⟨y,rfl⟩;lia;intro a ha;show yU ?_;show h a _ ha ⟨_,_,_,aE,by ext,by ext⟩ (Kp.upd (.inr ha))
def ud{most:Int}(hp:Pool M a n)(hn:n<=90000)(h0:0<most)(h1:most<=10 ^ 41)(h:∀r M',0<=r->r<most->Pool M' a (n+2)->Kp (· = a) M M'->Q (.int r) M'):m6 CD C [.ptr a,.int most] M Q:=by
 show bV rfl ?_;grind;show bc hp ∅ ∅ ∅ λr M1 a1 a2 p1 k1=>?_
 lia;show au (λe=>?_) λe=>?_
 ·lia
  show bc p1 ∅ ∅ ∅ λr2 M2 b1 b2 p2 k2=>?_
  lia;show h _ _ b1 ∅ p2 (k1.trans k2 λ_ z _=>z)
 lia;show au (λe=>?_) λe=>?_
 ·lia
  show h _ _ ∅ ∅ (p1.le ∅) k1
 lia;show bc p1 ∅ ∅ ∅ λr2 M2 b1 b2 p2 k2=>?_
 lia;show h _ _ b1 b2 p2 (k1.trans k2 λ_ z _=>z)
def g8{ds:D_}(h:M a=some (.lst ds)):vw1 M (.ptr a)=.lst ds:=by erw[vw1,h]
def MF(m:Nat)(r:h_):Prop:=r.length=m+1/\(∀x∈r,0<=x/\x<=1000)/\0<r.sum
def MG(hp:Pool M a n)(hn:n<=60000)(hm:m<=10)(h:∀r M',MF m r->Pool M' a (n+33)->Kp (· = a) M M'->Q (DI r) M'):ua CD C [.ptr a,.int (m:Nat)] M Q:=by
 show bV rfl ?_;grind;lia;intro x hx;have hxa:x≠a:=λe=>by subst e;ext(⟨_,_,_,h1,_⟩:hp);rw[hx]at h1;ext h1
 lia;show⟨⟨by ext,by ext⟩,?_⟩;rw[show((m:Int)+1).toNat=m+1 by ext];show oA _ _ (λk ρ M'=>∃b,ρ=[some (.ptr a),some (.int (m:Nat)),some (.ptr x),b]/\∃r:h_,M' x=some (.lst (r.map D.int))/\r.length=k/\(∀z∈r,0<=z/\z<=1000)/\Pool M' a (n+3*k)/\Kp (· = a) M M') ⟨_,rfl,[],aE,rfl,by simp,hp.keep (S:=λ_=>False) (Kp.upd (.inr hx)) id,Kp.upd (.inr hx)⟩ ?_ ?_
 ·rintro ρ M1 ⟨b,rfl,r,h1,h2,h3,p1,k1⟩
  rw[z8j]at h2 p1;lia;rw[show List.map (vw1 M1) [D.ptr x]=[DI r]by simp[g8 h1]];lia;have hnn:=lz λz hz=>(h3 z hz).1
  have hdel:∀c,Kp (· = a) M (cW (aD M1 x c) x):=λc=>(k1.trans (Kp.upd (S:=(· = x)) (.inl rfl)) λb z n=>by subst z;show absurd hx n).trans (Kp.del (S:=(· = x)) rfl) λb z n=>by subst z;show absurd hx n
  have hpd:∀M2:Sto,Pool M2 a (n+3*(m+1))->Pool (cW M2 x) a (n+33):=λM2 p=>(p.keep (S:=(· = x)) (Kp.del rfl) (Ne.symm hxa)).le ∅
  show au (λe=>?_) λe=>?_
  ·lia
   show⟨x,_,_,m,rfl,h1,rfl,?_,?_⟩
   ·rw[z9a,h2];unfold ixN;rw[if_pos ∅,if_pos ∅];congr 1
   lia;show lO rfl aE ?_;lia;have hs:(r.map D.int).set m (D.int 1)=(r.set m 1).map D.int:=by rw[List.map_set]
   rw[hs];show h (r.set m 1) _ ⟨by rw[z8h,h2],λz hz=>?_,?_⟩ ?_ ?_
   ·ext((hz|hz):z6x hz)
    ·show h3 z hz
    ·subst hz;ext
   ·have hall:∀z∈r.set m 1,0<=z:=λz hz=>by
     ext((hz|hz):z6x hz)
     ·show(h3 z hz).1
     ·subst hz;ext
    have hmem:(1:Int)∈r.set m 1:=List.mem_set ∅ ..;ext(⟨u,w,e⟩:List.append_of_mem hmem);rw[e]at hall ⊢;rw[List.sum_append,z7e];have g1:=lz λy hy=>hall y (z8g _ hy)
    have g2:=lz λy hy=>hall y (z9q _ (z9d _ hy))
    ext
   ·show hpd _ (p1.keep (S:=(· = x)) (Kp.upd (.inl rfl)) (Ne.symm hxa))
   ·show hdel _
  ·lia
   show lO rfl h1 ?_;lia;show h r _ ⟨h2,h3,by ext⟩ (hpd _ p1) ?_;have:=hdel (.lst (r.map D.int))
   rwa [Hb h1]at this
 ·rintro k hk ρ M1 ⟨b,rfl,r,h1,h2,h3,p1,k1⟩ N hN
  rw[z8j]at hk;grind;show⟨x,_,rfl,h1,?_⟩;lia;show bc p1 ∅ ∅ ∅ λv1 M2 a1 a2 p2 k2=>?_
  lia;show bc p2 ∅ ∅ ∅ λv2 M3 b1 b2 p3 k3=>?_
  lia;show bc p3 ∅ ∅ ∅ λv3 M4 c1 c2 p4 k4=>?_
  lia;show GE 0 1000 c1 (by change _<(3:Int);ext) (by erw[AllI,and_true];ext) λv e1 e2=>?_
  have x4:M4 x=some (.lst (r.map D.int)):=k4 _ _ (k3 _ _ (k2 _ _ h1 hxa) hxa) hxa;show⟨_,x4,by simp;ext,yT (hN _ _ ⟨_,rfl,r++[v],?_,by simp[h2],λz hz=>?_,?_,?_⟩)⟩
  ·rw[aE,z8e];rfl
  ·ext((hz|hz):z8b.mp hz)
   ·show h3 z hz
   ·rw[z9l.mp hz];show⟨e1,e2⟩
  ·show(p4.keep (S:=(· = x)) (Kp.upd (.inl rfl)) (Ne.symm hxa)).le ∅
  ·show(((k1.trans k2 λ_ z _=>z).trans k3 λ_ z _=>z).trans k4 λ_ z _=>z).trans (Kp.upd (S:=(· = x)) (.inl rfl)) λb z n=>by subst z;show absurd hx n
def MH(hp:Pool M a n)(hn:n<=80000)(h:∀r c o d M',0<=r->r<=10->0<=c->c<=o->1<=o->o<=1000->0<=d->d<=1000000->Pool M' a (n+6)->Kp (· = a) M M'->Q (.tup [.int r,.int c,.int o,.int d]) M'):u9 CD C [.ptr a] M Q:=by
 show bV rfl ?_;grind;show ud hp ∅ ∅ ∅ λo M1 a1 a2 p1 k1=>?_
 lia;show bc p1 ∅ ∅ ∅ λr M2 b1 b2 p2 k2=>?_
 lia;show bc p2 ∅ ∅ ∅ λc M3 c1 c2 p3 k3=>?_
 lia;show ud p3 ∅ ∅ ∅ λd M4 d1 d2 p4 k4=>?_
 lia;show h _ _ _ _ _ b1 ∅ c1 ∅ ∅ ∅ d1 ∅ p4 (((k1.trans k2 λ_ z _=>z).trans k3 λ_ z _=>z).trans k4 λ_ z _=>z)
def RowsOk(n:Nat)(ts:List h_):Prop:=∀r∈ts,r.length=n+1/\(∀x∈r,0<=x/\x<=1000)/\0<r.sum
def RowsOk.sum{ts:List h_}(h:RowsOk n ts)(hn:n<=10):∀r∈ts,0<=r.sum/\r.sum<1000000:=λr hr=>by
 ext(⟨h1,h2,h3⟩:h r hr);have h4:=rS (b:=1000) λx hx=>(h2 x hx).2
 ext
def MI{k:Int}(h0:0<=k)(h1:k<=900)(h:∀(S:Nat) H_ I_ r c o d M',S<=10->1<=H_.length->H_.length<=6->(∀x∈H_,1<=x/\x<=1000000)->I_.length<=8->RowsOk H_.length I_->0<=r->r<=10->0<=c->c<=o->1<=o->o<=1000->0<=d->d<=1000000->Kp (λ_=>False) M M' ->
   Q (.tup [.int (S:Nat),DI H_,DII I_,.tup [.int r,.int c,.int o,.int d]]) M'):ub CD C [.scr ns,.int k] M Q:=by
 show bV rfl ?_;grind;show pA h0 ∅ λp M1 hp P1 K1=>?_
 lia;show bc P1 ∅ ∅ ∅ λs M2 a1 a2 P2 K2=>?_
 lia;show lP ?_;lia;show bc P2 ∅ ∅ ∅ λj M3 b1 b2 P3 K3=>?_
 lia;show⟨⟨by ext,by ext⟩,by ext,?_⟩;obtain⟨J,rfl⟩:∃J:Nat,j=J:=⟨j.toNat,by ext⟩;rw[show(1+(J:Int)).toNat=J+1 by ext];show ic _ _ (λk ds M'=>∃fs:h_,ds=fs.map D.int/\fs.length=k/\(∀x∈fs,1<=x/\x<=1000000)/\Pool M' p (3000+2*k)/\Kp (· = p) M3 M') ⟨[],rfl,rfl,by simp,P3.le ∅,Kp.refl⟩ ?_ ?_
 ·rintro _ M4 ⟨H_,rfl,c1,c2,P4,K4⟩
  rw[z8j]at c1 P4;lia;show MH P4 ∅ λr c o d M5 d1 d2 d3 d4 d5 d6 d7 d8 P5 K5=>?_
  lia;show bc P5 ∅ ∅ ∅ λm M6 e1 e2 P6 K6=>?_
  lia;show pA ∅ ∅ λq M7 hq P7 K7=>?_
  lia;show lP ?_;lia;show⟨⟨by ext,by ext⟩,by ext,?_⟩;obtain⟨T,rfl⟩:∃T:Nat,m=T:=⟨m.toNat,by ext⟩;obtain⟨S,rfl⟩:∃S:Nat,s=S:=⟨s.toNat,by ext⟩;rw[z7c];have KK:Kp (λ_=>False) M M7:=by
   have z:Kp (· = p) M1 M6:=(((K2.trans K3 λ_ z _=>z).trans K4 λ_ z _=>z).trans K5 λ_ z _=>z).trans K6 λ_ z _=>z
   show(K1.trans z λx e n=>by subst e;show absurd hp n).trans K7 λ_ z _=>z
  show ic _ _ (λk ds M'=>∃ts:List h_,ds=ts.map DI/\ts.length=k/\RowsOk H_.length ts/\Pool M' q (2000+33*k)/\Kp (· = q) M7 M') ⟨[],rfl,rfl,λ_ z=>by simp at z,P7,Kp.refl⟩ ?_ ?_
  ·rintro _ M8 ⟨ts,rfl,f1,f2,P8,K8⟩
   rw[z8j]at f1;lia;have hq':M q=none:=by
    cases e:M q with
    |none=>rfl
    | some c=>
      have z:Kp (· = p) M1 M6:=(((K2.trans K3 λ_ z _=>z).trans K4 λ_ z _=>z).trans K5 λ_ z _=>z).trans K6 λ_ z _=>z
      have:=z _ _ (K1 _ _ e id) (λe'=>by subst e';rw[e]at hp;ext hp);rw[hq]at this;ext this
   show h S H_ ts r c o d M8 ∅ ∅ ∅ c2 ∅ f2 d1 d2 d3 d4 d5 d6 d7 d8 (KK.trans K8 λx e n=>by subst e;show absurd hq' n)
  ·rintro k hk _ M8 ⟨ts,rfl,f1,f2,P8,K8⟩ N hN
   rw[z8j]at hk;grind;rw[z9a];show MG P8 ∅ ∅ λrow M9 g1 P9 K9=>?_
   show hN _ _ ⟨ts++[row],by simp[DI],by simp[f1],λr' hr'=>?_,P9.le ∅,K8.trans K9 λ_ z _=>z⟩;ext((hr' | hr'):z8b.mp hr')
   ·show f2 r' hr'
   ·rw[z9l.mp hr'];show g1
 ·rintro k hk _ M4 ⟨fs,rfl,c1,c2,P4,K4⟩ N hN
  rw[z8j]at hk;grind;show ud P4 ∅ ∅ ∅ λv M5 d1 d2 P5 K5=>?_
  lia;show hN _ _ ⟨fs++[1+v],by simp,by simp[c1],λx hx=>?_,P5.le ∅,K4.trans K5 λ_ z _=>z⟩;ext((hx|hx):z8b.mp hx)
  ·show c2 x hx
  ·rw[z9l.mp hx];ext
def zL(n l m:Int):fG [.int n,.int l,.int m]=some (.bl (decide (l<=n/\n<=m))):=by show cF (cG (bW rfl ?_));walk_at"env";walk_at"all" <;> walk_at"leaf"
local macro_rules | `(tactic| walk_at"call")=>`(tactic| (with_reducible refine bO (zL _ _ _) ?_))
def zM:oS [DI row]=some (.int row.sum):=by show cF (cG (bW rfl ?_));grind
structure SaleOk (seats:Int) (H_:h_) (I_:List h_):Prop where
 s0:0<=seats
 s1:seats<=10
 f0:1<=H_.length
 f1:H_.length<=6
 f:∀x∈H_,1<=x/\x<=1000000
 t:I_.length<=8
 r:∀r∈I_,r.length=H_.length+1/\(∀x∈r,0<=x/\x<=1000)/\0<r.sum
local macro_rules | `(tactic| walk_at"call")=>`(tactic| (with_reducible refine bO (zL _ _ _) ?_))
def gB(n:Nat)(r:h_):Prop:=r.length=n+1/\(∀x∈r,0<=x/\x<=1000)/\0<r.sum
def zN{r:h_}(hl:r.length<=1000):WF oU [DI r,.int (n:Nat)] λd=>∃b,d=.bl b/\(b=true↔gB n r):=by
 show cG (bW rfl ?_);grind;rw[z9a];show gt (λh=>?_) λh=>?_
 ·lia
  unfold gB;simp;ext
 ·lia
  show nT (α:=Int) (λx=>0<=x/\x<=1000) ?_;lia;show⟨.int,r,rfl,by ext,λx hx=>⟨_,rfl,?_⟩,λbs hb=>?_⟩
  ·walk_at"env"
   lia;simp
  lia;show yf hb (λh1=>?_) λh1=>?_
  ·lia
   show bO zM ?_;lia;unfold gB;rw[z4b];show⟨λh2=>⟨by ext,h1,h2⟩,λh2=>h2.2.2⟩
  ·lia
   unfold gB;simp;intro _ h2;show absurd h2 h1
def zO{f:h_}(hl:f.length<=1000):WF oR [DI f] λd=>∃b,d=.bl b/\(b=true↔1<=f.length/\f.length<=6/\∀x∈f,1<=x/\x<=1000000):=by
 show cG (bW rfl ?_);grind;rw[z9a];show au (λh=>?_) λh=>?_
 ·lia
  show au (λh2=>?_) λh2=>?_
  ·lia
   show nT (α:=Int) (λx=>1<=x/\x<=1000000) ?_;lia;show⟨.int,f,rfl,by ext,λx hx=>⟨_,rfl,?_⟩,λbs hb=>?_⟩
   ·walk_at"env"
    lia;simp
   lia;show hb.trans ⟨λh=>⟨by ext,by ext,h⟩,λh=>h.2.2⟩
  ·lia
   simp;ext
 ·lia
  simp;ext
def MJ(hl:t.length<=1000)(hr:∀r∈t,r.length<=1000):WF tu [DII t,.int (n:Nat)] λd=>∃b,d=.bl b/\(b=true↔t.length<=8/\∀r∈t,gB n r):=by
 show cG (bW rfl ?_);grind;rw[z9a];show au (λh=>?_) λh=>?_
 ·lia
  show nT (α:=h_) (gB n) ?_;lia;show⟨DI,t,rfl,by ext,λx hx=>⟨_,rfl,?_⟩,λbs hb=>?_⟩
  ·walk_at"env"
   lia;show zN (hr x hx)
  lia;show hb.trans ⟨λh=>⟨by ext,h⟩,λh=>h.2⟩
 ·lia
  simp;ext
def MK{f:h_}(hf:f.length<=1000)(hl:t.length<=1000)(hr:∀r∈t,r.length<=1000):WF tz [.int s,DI f,DII t] λd=>∃b,d=.bl b/\(b=true↔SaleOk s f t):=by
 show cG (bW rfl ?_);grind;show au (λh=>?_) λh=>?_
 ·lia
  show iQ (zO hf) ?_;rintro _ ⟨b,rfl,hb⟩;lia;show yf hb (λh1=>?_) λh1=>?_
  ·lia
   rw[z9a];show iQ (MJ hl hr) ?_;rintro _ ⟨b,rfl,hb⟩;lia;show hb.trans ⟨λh2=>⟨h.1,h.2,h1.1,h1.2.1,h1.2.2,h2.1,h2.2⟩,λh2=>⟨h2.t,h2.r⟩⟩
  ·lia
   show⟨λh=>(nomatch h),λh2=>absurd ⟨h2.f0,h2.f1,h2.f⟩ h1⟩
 ·lia
  show⟨λh=>(nomatch h),λh2=>absurd ⟨h2.s0,h2.s1⟩ h⟩
noncomputable def pB(r c o d:Int):Bool:=decide (0<=r/\r<=10/\1<=o/\o<=1000/\0<=c/\c<=o/\0<=d/\d<=1000000)
def zP(r c o d:Int):oX [.tup [.int r,.int c,.int o,.int d]]=some (.bl (pB r c o d)):=by show cF (cG (bW rfl ?_));unfold pB;walk_at"env";walk_at"all" <;> walk_at"leaf"
def zQ(hl:n<=1000)(hx:0<=x/\x<=1000000):oQ [.int x,.int (n:Nat)]=some (.int (x ^ n)):=by
 show cF (cG (bW rfl ?_));grind;show⟨⟨by ext,by ext⟩,?_⟩;rw[z7c];show nR _ _ (λk ρ=>∃a,ρ=[some (.int x),some (.int (n:Nat)),some (.int (x ^ k)),a]) ⟨_,by rw[z4v]⟩ ?_ ?_
 ·rintro ρ ⟨a,rfl⟩
  rw[z8j];lia
 ·rintro k hk ρ ⟨a,rfl⟩
  rw[z8j]at hk;grind;walk_at"env";rw[z6d];show⟨_,rfl⟩
noncomputable def more(xs:h_)(c s:Int):h_:=List.zipWith (λa b=>a+b) (xs.map (λx=>x*s)++[0]) (0::xs.map λx=>x*c)
def zR(xs:h_)(c s:Int):(more xs c s).length=xs.length+1:=by simp[more]
def ML(hl:xs.length<=1000)(hc:0<=c/\c<=1000000)(hs:0<=s/\s<=1000000):tK [DI xs,.int c,.int s]=some (DI (more xs c s)):=by
 show cF (bW rfl ?_);grind;show hG (α:=Int) ?_;lia;show⟨.int,λx=>.int (x*s),xs,rfl,by ext,λx hx=>⟨_,rfl,?_⟩,?_⟩
 ·walk_at"env"
  lia
 lia;show hG (α:=Int) ?_;lia;show⟨.int,λx=>.int (x*c),xs,rfl,by ext,λx hx=>⟨_,rfl,?_⟩,?_⟩
 ·walk_at"env"
  lia
 lia;show hG (α:=Int×Int) ?_;lia;show⟨λp=>.tup [.int p.1,.int p.2],λp=>.int (p.1+p.2),(xs.map (λx=>x*s)++[0]).zip (0::xs.map λx=>x*c),?_,by simp;ext,λx hx=>⟨_,rfl,?_⟩,?_⟩
 ·rw[<- yd];simp;rfl
 ·walk_at"env"
  lia
 ·lia
  congr 1;rw[more,<- z4o,z8x];rfl
noncomputable def dN:Nat->Int->Int->h_
 |0,_,_=>[1]
 |n+1,c,s=>more (dN n c s) c s
def ue(n:Nat)(c s:Int):(dN n c s).length=n+1:=by
 induction n with
 |zero=>rfl
 |succ n ih=>rw[dN,zR,ih]
def MM{o:Int}(hl:n<=100)(hc:0<=c/\c<=o)(ho:o<=1000000):tL [.int (n:Nat),.int c,.int o]=some (DI (dN n c (o-c))):=by
 show cF (bW rfl ?_);grind;show⟨⟨by ext,by ext⟩,?_⟩;rw[z7c];show nR _ _ (λk ρ=>∃a,ρ=[some (.int (n:Nat)),some (.int c),some (.int o),some (DI (dN k c (o-c))),a]) ⟨_,rfl⟩ ?_ ?_
 ·rintro ρ ⟨a,rfl⟩
  rw[z8j];lia
 ·rintro k hk ρ ⟨a,rfl⟩
  rw[z8j]at hk;grind;show bO (ML (by rw[ue];ext) ∅ ∅) ?_;lia;walk_at"env";show⟨_,rfl⟩
theorem zS:∀(xs ys:h_),xs.length=ys.length->(List.zipWith (λa b=>a+b) xs ys).sum=xs.sum+ys.sum
 |[],[],_=>by simp
 |x::xs,y::ys,h=>by have:=zS xs ys (⇑h);rw[List.zipWith_cons_cons,z7e,this,z7e,z7e];ext
def zT(xs:h_)(c:Int):(xs.map λx=>x*c).sum=xs.sum*c:=by
 induction xs with
 |nil=>simp
 |cons x r ih=>rw[z9r,z7e,ih,z7e,Int.add_mul]
def MN(xs:h_)(c s:Int):(more xs c s).sum=xs.sum*(c+s):=by rw[more,zS _ _ (by simp),List.sum_append,zT,z7e (a:=0) (l:=xs.map _),zT,Int.mul_add];simp;ext
def MO(n:Nat)(c s:Int):(dN n c s).sum=(c+s) ^ n:=by
 induction n with
 |zero=>simp[dN]
 |succ n ih=>rw[dN,MN,ih,z6d]
def MP(h:j<(more xs c s).length):(more xs c s)[j]=xs.getD j 0*s+(if j=0 then 0 else xs.getD (j-1) 0*c):=by
 have hl:=zR xs c s;erw[more,List.getElem_zipWith];congr 1
 ·by_cases hj:j<xs.length
  ·rw[List.getElem_append_left (⇑hj),List.getElem_map,gu _ _ _ hj]
  ·have:j=xs.length:=by ext
   subst this;rw[List.getElem_append_right (by simp)];simp[z8y]
 ·cases j with
  |zero=>simp
  |succ j=>erw[List.getElem_cons_succ,List.getElem_map,Nat.add_sub_cancel];rw[if_neg ∅,gu _ _ _ ∅]
noncomputable def wt(f:Nat->Int):Nat->h_->Int
 |_,[]=>0
 |k,x::r=>x*f k+wt f (k+1) r
def MQ{f g:Nat->Int}{k:Nat}(hx:∀x∈xs,0<=x)(h:∀j,k<=j->j<k+xs.length->f j<=g j):wt f k xs<=wt g k xs:=by
 induction xs generalizing k with
 |nil=>simp[wt]
 | cons x r ih=>
   have h1:=ih (k:=k+1) (λy hy=>hx y (z9d _ hy)) λj h1 h2=>h j ∅ (by rw[z9c];ext)
   have h2:=z7m (h k ∅ (by rw[z9c];ext)) (hx x (z9b ..));erw[wt];ext
def MR(a:Int)(xs:h_)(k:Nat):wt (λ_=>a) k xs=a*xs.sum:=by
 induction xs generalizing k with
 |nil=>simp[wt]
 |cons x r ih=>erw[wt];rw[ih,z7e];grind (config:={})
def MT{f:Nat->Int}{k:Nat}(hx:∀x∈xs,0<=x)(h:∀j,0<=f j):0<=wt f k xs:=by
 induction xs generalizing k with
 |nil=>simp[wt]
 | cons x r ih=>
   have h1:=ih (k:=k+1) λy hy=>hx y (z9d _ hy)
   have h2:=z7x (hx x (z9b ..)) (h k);erw[wt];ext
def MU(F:Int->Nat->Int)(f:Nat->Int)(h:∀x j,F x j=x*f j)(xs:h_)(k:Nat):((xs.zipIdx k).map λp=>F p.1 p.2).sum=wt f k xs:=by
 induction xs generalizing k with
 |nil=>rfl
 |cons x r ih=>rw[List.zipIdx_cons,z9r,z7e,ih];erw[wt];rw[h]
def MV(hc:0<=c)(hs:0<=s)(hx:∀x∈xs,0<=x):∀x∈more xs c s,0<=x:=by
 intro x hx';ext(⟨j,hj,rfl⟩:z5b hx');have hg:∀i,0<=xs.getD i 0:=λi=>by
  by_cases hi:i<xs.length
  ·rw[gu _ _ _ hi];show hx _ (z9w _)
  ·rw[z8y,z4n ∅];show Int.le_refl 0
 rw[MP hj];have h1:=z7x (hg j) hs;have h2:=z7x (hg (j-1)) hc;split<;>ext
def zU(hc:0<=c)(hs:0<=s)(n:Nat):∀x∈dN n c s,0<=x:=by
 induction n with
 |zero=>intro x hx;simp[dN]at hx;ext
 |succ n ih=>show MV hc hs ih
noncomputable def gC(room:Int)(j:Nat):Int:=max ((j:Int)-room) 0
def eX(room c s:Int)(n:Nat):Int:=wt (gC room) 0 (dN n c s)
def MW{o:Int}(hl:n<=100)(hr:0<=r/\r<=1000)(hc:0<=c/\c<=o)(ho:o<=1000000):tM [.int (n:Nat),.tup [.int r,.int c,.int o,.int d]]=some (.int (eX r c (o-c) n)):=by
 show cF (cG (bW rfl ?_));grind;show bO (MM hl hc ho) ?_;have hlen:=ue n c (o-c);lia;show hG (α:=Int×Nat) ?_;lia;show⟨λp=>.tup [.int (p.2:Nat),.int p.1],λp=>.int (p.1*gC r p.2),(dN n c (o-c)).zipIdx,yc _ _,by simp;ext,λp hp=>⟨_,rfl,?_⟩,?_⟩
 ·have hp:=List.snd_lt_of_mem_zipIdx hp
  grind;rfl
 rw[show((dN n c (o-c)).zipIdx.map λp=>D.int (p.1*gC r p.2))=((dN n c (o-c)).zipIdx.map λp=>p.1*gC r p.2).map D.int by rw[z8x];rfl];lia;rw[MU (λx j=>x*gC r j) (gC r) (λ_ _=>rfl)];rfl
def m8(r c o d:Int)(J5 left:Nat):Int:=-d*eX r c (o-c) J5*o ^ left
def MX{l:Nat}{o:Int}(hn:n<=100)(hl:l<=100)(hr:0<=r/\r<=1000)(hc:0<=c/\c<=o)(ho:o<=1000000)(hd:0<=d/\d<=1000000)(hm:okMul (-d*eX r c (o-c) n) (o ^ l)):tN [.int (n:Nat),.int (l:Nat),.tup [.int r,.int c,.int o,.int d]]=some (.int (m8 r c o d n l)):=by show cF (cG (bW rfl ?_));grind;show bO (MW hn hr hc ho) ?_;lia;show bO (zQ ∅ ∅) ?_;lia;rfl
def ends(r c o d:Int)(S:Nat):h_:=(List.range (S+1)).map λl=>m8 r c o d (S-l) l
def pC(r c o d:Int)(S:Nat):(ends r c o d S).length=S+1:=by simp[ends]
def zV(hc:0<=c)(hs:0<=s)(n:Nat):0<=eX r c s n:=MT (zU hc hs n) λj=>by unfold gC;ext
def zW(hr:0<=r)(hc:0<=c)(hs:0<=s)(n:Nat):eX r c s n<=n*(c+s) ^ n:=by
 have:=MQ (f:=gC r) (g:=λ_=>(n:Int)) (xs:=dN n c s) (k:=0) (zU hc hs n) λj _ h=>by rw[ue]at h;unfold gC;ext
 rwa [MR,MO]at this
def MY{o:Int}{l:Nat}(hn:n<=10)(hl:l<=10)(hr:0<=r/\r<=1000)(hc:0<=c/\c<=o)(ho:o<=1000)(h1:1<=o)(hd:0<=d/\d<=1000000):okMul (-d*eX r c (o-c) n) (o ^ l):=by have a1:=zV (r:=r) hc.1 (show 0<=o-c by ext) n;have a2:=zW hr.1 hc.1 (show 0<=o-c by ext) n;rw[show c+(o-c)=o by ext]at a2;have a3:o ^ n<=1000 ^ 10:=hU 10 ∅ ho ∅ hn;have a4:(n:Int)*o ^ n<=10*1000 ^ 10:=z7t ∅ a3 (lB ∅ n) ∅;have b1:=z7x hd.1 a1;have b2:d*eX r c (o-c) n<=1000000*(10*1000 ^ 10):=z7t hd.2 ∅ a1 ∅;have c1:=lB (show 0<=o by ext) l;have c2:o ^ l<=1000 ^ 10:=hU 10 ∅ ho ∅ hl;have e:-d*eX r c (o-c) n = -(d*eX r c (o-c) n):=Int.neg_mul ..;show ya (lu ∅ ∅) (lu ∅ ∅)
def MZ{o:Int}(hS:S<=10)(hr:0<=r/\r<=1000)(hc:0<=c/\c<=o)(ho:o<=1000)(h1:1<=o)(hd:0<=d/\d<=1000000):tO [.int (S:Nat),.tup [.int r,.int c,.int o,.int d]]=some (DI (ends r c o d S)):=by
 show cF (bW rfl ?_);grind;show hG (α:=Nat) ?_;lia;show⟨⟨by ext,by ext⟩,λl=>.int (l:Nat),λl=>.int (m8 r c o d (S-l) l),List.range (S+1),by rw[show((S:Int)+1).toNat=S+1 by ext],by simp;ext,λl hl=>⟨_,rfl,?_⟩,?_⟩
 ·have hl:=z7q.mp hl
  grind;rw[show(S:Int)-(l:Int)=((S-l:Nat):Int)by ext];show bO (MX ∅ ∅ hr hc ∅ hd (MY ∅ ∅ hr hc ho h1 hd)) ?_;lia
 lia;simp[ends]
noncomputable def bp:List h_->Int->h_
 |[],l=>[l]
 |r::rs,l=>((bp rs l).headD 0*r.sum)::bp rs l
def zX(rs:List h_)(l:Int):bp rs l≠[]:=by ext rs<;>simp[bp]
def jZ(rs:List h_)(l:Int):(bp rs l).length=rs.length+1:=by
 induction rs with
 |nil=>rfl
 |cons r rs ih=>simp[bp,ih]
def N0(h:xs≠[])(h':xs.reverse≠[]):xs.reverse.getLast h'=xs.headD 0:=by
 cases xs with
 |nil=>show absurd rfl h
 |cons x r=>simp
def zY(hr:∀r∈I_,0<=r.sum/\r.sum<1000000)(hl:I_.length<=1000):oV [DII I_,.int last]=some (DI (bp I_ last)):=by
 show cF (bW rfl ?_);grind;rw[<- z5l];show nR _ _ (λk ρ=>∃o,ρ=[some (DII I_),some (.int last),some (DI (bp ((I_.reverse.take k).reverse) last).reverse),o]) ⟨_,rfl⟩ ?_ ?_
 ·rintro ρ ⟨o,rfl⟩
  lia;rw[z6a,z8t (by simp),z5n,<- z5l,z5n]
 ·rintro k hk ρ ⟨o,rfl⟩
  rw[z6a]at hk;walk_at"env";show Gm rfl (by simp[jZ];ext) ?_;lia;show GP (by simp[zX]) ?_;lia;show bO zM ?_;have hm:=hr (I_.reverse[k]) (by rw[<- List.mem_reverse];show z9w _);lia;walk_at"env";rw[GQ];have e:(bp (I_.reverse.take (k+1)).reverse last).reverse=(bp (I_.reverse.take k).reverse last).reverse++[(bp (I_.reverse.take k).reverse last).headD 0*I_.reverse[k].sum]:=by rw[z7a (⇑hk),List.reverse_append,List.reverse_singleton,List.singleton_append,bp,z6j]
  rw[e,N0 (zX _ _)];show⟨_,rfl⟩
def zZ{bs:h_}{s:Nat}(hm:okMul f scale)(hs:s<bs.length)(h0:0<s):oW [.int f,.int scale,DI bs,.int (s:Nat)]=some (.int (f*scale+bs.getD (s-1) 0)):=by show cF (cG (bW rfl ?_));grind;show eB ∅ ∅ ?_;lia;rw[show((s:Int)-1).toNat=s-1 by ext]
noncomputable def j7(f scale:Int)(bs:h_)(s:Nat):Int:=if s=0 then bs.getD 0 0 else max (bs.getD s 0) (f*scale+bs.getD (s-1) 0)
noncomputable def uf(row cs:h_)(kept:Int):Int:=(List.zipWith (λa b=>a*b) row (cs++[kept])).sum
def pE(H_ row:h_)(scale:Int)(bs:h_)(s:Nat):Int:=uf row (H_.map λf=>j7 f scale bs s) (bs.getD s 0)
def ip(H_ row:h_)(scale:Int)(bs:h_):h_:=(List.range bs.length).map (pE H_ row scale bs)
def gD(xs:h_):Prop:=∀x∈xs,-1000000000000<=x/\x<=1000000000000
def N1{bs:h_}{s:Nat}(hf:-1000000000000<=f/\f<=1000000000000)(hs:s<bs.length):tE [.int f,.int scale,DI bs,.int (s:Nat)]=some (.int (j7 f scale bs s)):=by
 show cF (cG (bW rfl ?_));unfold j7;grind;show au (λh=>?_) λh=>?_
 ·lia
  show eB ∅ ∅ ?_;lia;have:s=0:=by ext
  subst this;simp
 ·lia
  show eB ∅ ∅ ?_;lia;show bO (zZ (rO ∅ ∅) hs ∅) ?_;lia;rw[if_neg ∅,z7c]
def N2{cs:h_}{kept:Int}(hr:gD row)(hl:row.length<=1000)(hc:cs.length<=1000):tD [DI row,DI cs,.int kept]=some (.int (uf row cs kept)):=by
 show cF (cG (bW rfl ?_));grind;show rT (α:=Int×Int) ?_;lia;rw[GT];lia;show⟨_,λp=>p.1*p.2,_,yd _ _ _ _,by simp;ext,λp hp=>⟨_,rfl,?_⟩,?_⟩
 ·have:=hr _ (z4r hp).1
  grind
 lia;rw[uf,<- z4o];rfl
def N3{bs:h_}{s:Nat}(hf:gD H_)(hr:gD row)(hlf:H_.length<=1000)(hl:row.length<=1000)(hs:s<bs.length):tF [DI H_,DI row,.int scale,DI bs,.int (s:Nat)]=some (.int (pE H_ row scale bs s)):=by
 show cF (cG (bW rfl ?_));grind;show rT (α:=Int) ?_;lia;show⟨.int,λf=>j7 f scale bs s,H_,rfl,by ext,λf hx=>⟨_,rfl,?_⟩,?_⟩
 ·walk_at"env"
  lia;show bO (N1 (hf f hx) hs) ?_;lia
 lia;show eB ∅ ∅ ?_;lia;rw[z7c];show bO (N2 hr hl (by simp;ext)) ?_;lia;rfl
def N4{bs:h_}(hf:gD H_)(hr:gD row)(hlf:H_.length<=1000)(hl:row.length<=1000)(hs:bs.length<=1000):tG [DI H_,DI row,.int scale,DI bs]=some (DI (ip H_ row scale bs)):=by
 show cF (bW rfl ?_);grind;show rT (α:=Nat) ?_;lia;rw[z9a];show⟨⟨by ext,by ext⟩,λs=>.int (s:Nat),λs=>pE H_ row scale bs s,List.range bs.length,by rw[z7c],by simp;ext,λs hx=>⟨_,rfl,?_⟩,?_⟩
 ·have hx:=z7q.mp hx
  grind;show bO (N3 hf hr hlf hl hx) ?_;lia
 lia;rfl
def N5(H_ row:h_)(scale:Int)(bs:h_):(ip H_ row scale bs).length=bs.length:=by simp[ip]
noncomputable def bf(H_:h_):List h_->Int->h_->List h_
 |[],_,ends=>[ends]
 |r::rs,last,ends=>ip H_ r ((bp rs last).headD 0) ((bf H_ rs last ends).headD [])::bf H_ rs last ends
def pF(H_:h_)(rs:List h_)(last:Int)(ends:h_):bf H_ rs last ends≠[]:=by ext rs<;>simp[bf]
def pG(H_:h_)(rs:List h_)(last:Int)(ends:h_):(bf H_ rs last ends).length=rs.length+1:=by
 induction rs with
 |nil=>rfl
 |cons r rs ih=>simp[bf,ih]
def N6(H_:h_)(rs:List h_)(last:Int)(ends:h_):∀r∈bf H_ rs last ends,r.length=ends.length:=by
 induction rs with
 |nil=>intro r hr;simp[bf]at hr;rw[hr]
 | cons r rs ih=>
   intro q hq;erw[bf,z9g]at hq;ext((rfl|hq):hq)
   ·rw[N5]
    cases ht:bf H_ rs last ends with
    |nil=>show absurd ht (pF _ _ _ _)
    |cons a b=>rw[z4w];show ih a (by rw[ht];show z9b)
   ·show ih q hq
def A0(H_:h_)(rs:List h_)(last:Int)(ends:h_):((bf H_ rs last ends).headD []).length=ends.length:=by
 cases ht:bf H_ rs last ends with
 |nil=>show absurd ht (pF _ _ _ _)
 |cons a b=>rw[z4w];show N6 H_ rs last ends a (by rw[ht];show z9b)
def N7{xs:List h_}(h:xs≠[])(h':xs.reverse≠[]):xs.reverse.getLast h'=xs.headD []:=by
 cases xs with
 |nil=>show absurd rfl h
 |cons x r=>simp
theorem ug(l:Int):∀(rs:List h_) (k:Nat),k<=rs.length->(bp rs l).getD k 0=(bp (rs.drop k) l).headD 0
 |rs,0,_=>by cases h:bp rs l<;>simp[h]
 |r::rs,k+1,h=>by rw[bp,List.getD_cons_succ,z6o,ug l rs k (⇑h)]
def N8{ends:h_}(hf:gD H_)(hlf:H_.length<=1000)(hr:∀r∈I_,gD r/\r.length<=1000)(hs:∀r∈I_,0<=r.sum/\r.sum<1000000)(ht:I_.length<=1000)(he:ends.length<=1000):
  tH [DI H_,DII I_,.int last,DI ends]=some (DII (bf H_ I_ last ends)):=by
 show cF (bW rfl ?_);grind;show bO (zY hs ht) ?_;lia;rw[z9a];show⟨_,_,rfl,⟨by ext,by ext⟩,⟨by ext,by ext⟩,?_⟩;rw[show((I_.length:Int)-1 - -1).toNat=I_.length by ext];show nR _ _ (λk ρ=>∃a,ρ=[some (DI H_),some (DII I_),some (.int last),some (DI ends),some (DI (bp I_ last)),some (DII (bf H_ (I_.drop (I_.length-k)) last ends).reverse),a]) ⟨none,by rw[Nat.sub_zero,z6q];rfl⟩ ?_ ?_
 ·rintro ρ ⟨a,rfl⟩
  rw[z8j,Nat.sub_self,z6r];show xS ?_;show GY rfl ?_;rw[z5n];show xT ?_;rfl
 ·rintro k hk ρ ⟨a,rfl⟩
  rw[z8j]at hk;erw[List.getElem_range];walk_at"env";have htl:=pG H_ (I_.drop (I_.length-k)) last ends;rw[z7l]at htl;show GX rfl (by rw[z9a,z6a,htl];ext) ?_;lia;show nS ∅ ∅ ?_;lia;show eB ∅ (by rw[jZ];ext) ?_;lia;show GV (by simp[pF]) ?_;lia;have hi:I_.length-1-k<I_.length:=by ext
  rw[N7 (pF _ _ _ _),show((I_.length:Int)-1-(k:Nat)).toNat=I_.length-1-k by ext,show((I_.length:Int)-1-(k:Nat)+1).toNat=I_.length-k by ext,ug _ _ _ ∅,gu _ _ _ hi];have hm:=hr _ (z9w hi);show bO (N4 hf hm.1 hlf hm.2 (by rw[A0];show he)) ?_;show⟨_,rfl,?_⟩;rw[show(bf H_ (I_.drop (I_.length-k)) last ends).reverse.map DI++[DI (ip H_ I_[I_.length-1-k] ((bp (I_.drop (I_.length-k)) last).headD 0) ((bf H_ (I_.drop (I_.length-k)) last ends).headD []))]=((bf H_ (I_.drop (I_.length-k)) last ends).reverse++[ip H_ I_[I_.length-1-k] ((bp (I_.drop (I_.length-k)) last).headD 0) ((bf H_ (I_.drop (I_.length-k)) last ends).headD [])]).map DI by simp];show xW ?_;walk_at"env";have e:bf H_ (I_.drop (I_.length-(k+1))) last ends=ip H_ I_[I_.length-1-k] ((bp (I_.drop (I_.length-k)) last).headD 0) ((bf H_ (I_.drop (I_.length-k)) last ends).headD [])::bf H_ (I_.drop (I_.length-k)) last ends:=by rw[show I_.length-(k+1)=I_.length-1-k by ext,z8k hi,bf,show I_.length-1-k+1=I_.length-k by ext]
  rw[e,z6j];show⟨_,rfl⟩
theorem uh(H_:h_)(last:Int)(ends:h_):∀(rs:List h_) (k:Nat),k<=rs.length->(bf H_ rs last ends).getD k []=(bf H_ (rs.drop k) last ends).headD []
 |rs,0,_=>by rw[z6r];cases bf H_ rs last ends<;>rfl
 |r::rs,k+1,h=>by rw[bf,List.getD_cons_succ,z6o,uh H_ last ends rs k (⇑h)]
def ui(H_:h_)(last:Int)(ends:h_)(rs:List h_)(t:Nat)(h:t<=rs.length):((bf H_ rs last ends).getD t []).length=ends.length:=by rw[uh _ _ _ _ _ h,A0]
theorem A1{n:Nat}{l:Int}(hn:n<=10)(h1:1<=l)(h2:l<=10 ^ 40):∀{rs:List h_},RowsOk n rs->1<=(bp rs l).headD 0/\(bp rs l).headD 0<=10 ^ 40*1000000 ^ rs.length
 |[],_=>by simp[bp];ext
 | r::rs,h=>by
   ext(⟨i1,i2⟩:A1 hn h1 h2 (rs:=rs) λq hq=>h q (z9d _ hq))
   have hs:=h.sum hn r z9b;have hp:=(h r z9b).2.2;rw[bp,z4w,z9c,z6d];generalize (bp rs l).headD 0=x at i1 i2 ⊢;generalize r.sum=y at hs hp ⊢;have e1:x*1<=x*y:=z7m ∅ ∅;have e2:x*y<=(10 ^ 40*1000000 ^ rs.length)*1000000:=z7t i2 ∅ ∅ ∅;rw[Int.mul_assoc]at e2;show⟨by ext,e2⟩
def A2{l:Int}(hn:n<=10)(h1:1<=l)(h2:l<=10 ^ 40){rs:List h_}(h:RowsOk n rs)(h8:rs.length<=8):1<=(bp rs l).headD 0/\(bp rs l).headD 0<=10 ^ 88:=by ext(⟨i1,i2⟩:A1 hn h1 h2 h);have:=hU (x:=1000000) (B:=1000000) (n:=rs.length) 8 ∅ ∅ ∅ h8;show⟨i1,by ext⟩
def RowsOk.drop{k:Nat}{ts:List h_}(h:RowsOk n ts):RowsOk n (ts.drop k):=λr hr=>h r (z4y hr)
noncomputable def kf(f scale:Int)(bs:h_)(s:Nat):Bool:=decide (0<s/\bs.getD s 0<=f*scale+bs.getD (s-1) 0)
def N9{bs:h_}{s:Nat}(hm:okMul f scale)(hs:s<bs.length):tI [.int f,.int scale,DI bs,.int (s:Nat)]=some (.bl (kf f scale bs s)):=by
 show cF (cG (bW rfl ?_));unfold kf;grind;show au (λh=>?_) λh=>?_
 ·lia
  show bO (zZ hm hs ∅) ?_;lia;show eB ∅ ∅ ?_;lia;rw[z7c];show z7d D.bl (z5m.mpr ⟨λq=>⟨by ext,q⟩,λq=>q.2⟩)
 ·lia
  show z7d D.bl (z8u λq=>h ∅).symm
def Na{bs:h_}{s:Nat}(h1:1<=scale)(h2:scale<=10 ^ 130)(h0:0<s)(hs:s<bs.length):tJ [.int scale,DI bs,.int (s:Nat)]=some (.int (-((bs.getD (s-1) 0-bs.getD s 0) / scale))):=by show cF (cG (bW rfl ?_));grind;show eB ∅ ∅ ?_;lia;show eB ∅ ∅ ?_;lia;rw[show((s:Int)-1).toNat=s-1 by ext,z7c]
structure Sale (S:Nat) (H_:h_) (I_:List h_) (r c o d:Int):Prop where
 hS:S<=10
 f1:1<=H_.length
 f2:H_.length<=6
 f3:∀x∈H_,1<=x/\x<=1000000
 t1:I_.length<=8
 t2:RowsOk H_.length I_
 r1:0<=r
 r2:r<=10
 c1:0<=c
 c2:c<=o
 o1:1<=o
 o2:o<=1000
 d1:0<=d
 d2:d<=1000000
def bb(S:Nat)(H_:h_)(I_:List h_)(r c o d:Int)(J0 J5:Nat)(J7:Int)(J8 J9:D):D_:=
 [.int (S:Nat),DI H_,.tup [.int r,.int c,.int o,.int d],DI (bp I_ (o ^ S)),DII (bf H_ I_ (o ^ S) (ends r c o d S)),.int (J0:Nat),.int (J5:Nat),.int J7,J8,J9]
def Nb{o:Int}(hn:n<=100)(ho:0<=o/\o<=1000):tP [.int (n:Nat),.tup [.int r,.int c,.int o,.int d]]=some (.int (o ^ n)):=by show cF (cG (bW rfl ?_));grind;show bO (zQ ∅ ∅) ?_;lia
section
variable {of:Int}
def Nc(hm:M o=some (.ins C c_ (bb S H_ I_ r c of d J0 J5 J7 J8 J9)))(h:Q (.int (J0:Nat)) M):tV CD C [.ptr o] M Q:=by show bV rfl ?_;grind;show h
end
section
variable {of:Int}
def kg(hm:M o=some (.ins C c_ (bb S H_ I_ r c of d J0 J5 J7 J8 J9)))(hs:J5<=S)(h:Q (.int ((S-J5:Nat):Int)) M):j4 CD C [.ptr o] M Q:=by show bV rfl ?_;grind;rw[show(S:Int)-(J5:Int)=((S-J5:Nat):Int)by ext];show h
def j8(hm:M o=some (.ins C c_ (bb S H_ I_ r c of d J0 J5 J7 J8 J9)))(h:Q (.bl (decide (J0=I_.length))) M):pj CD C [.ptr o] M Q:=by show bV rfl ?_;grind;rw[show List.map (vw1 M) [DI (bp I_ (of ^ S))]=[DI (bp I_ (of ^ S))]from rfl];lia;rw[z9a,jZ,show decide ((J0:Int)=((I_.length+1:Nat):Int)-1)=decide (J0=I_.length)from z5m.mpr ∅];show h
def Nd(hm:M o=some (.ins C c_ (bb S H_ I_ r c of d J0 J5 J7 J8 J9)))(h:Q .non M):pp CD C [.ptr o,.non] M Q EX:=by show bn rfl ?_;grind;show h
def Nf{k:Nat}(hm:M o=some (.ins C c_ (bb S H_ I_ r c of d J0 J5 J7 J8 J9)))(hk:k<H_.length)(h:Q (.int (H_.getD k 0)) M):pp CD C [.ptr o,.int (k:Nat)] M Q EX:=by show bn rfl ?_;grind;rw[show List.map (vw1 M) [DI H_]=[DI H_]from rfl];lia;rw[z9a,z8p (show(0:Int)<=(k:Nat)/\((k:Nat):Int)<=(H_.length:Int)-1 by ext)];lia;show eB ∅ ∅ ?_;rw[z7c];show h
def Ng(hm:M o=some (.ins C c_ (bb S H_ I_ r c of d J0 J5 J7 J8 J9)))(h:Q (.bl false) M):pw CD C [.ptr o,.non] M Q:=by show bV rfl ?_;grind;show h
def Nh(hm:M o=some (.ins C c_ (bb S H_ I_ r c of d J0 J5 J7 J8 J9)))(hs:J5<=S)(ht:J0<I_.length)(hf:1<=f/\f<=1000000)(h:Q (.bl (kf f ((bp I_ (of ^ S)).getD (J0+1) 0) ((bf H_ I_ (of ^ S) (ends r c of d S)).getD (J0+1) []) (S-J5))) M):pw CD C [.ptr o,.int f] M Q:=by show bV rfl ?_;grind;show eB ∅ (by rw[jZ];ext) ?_;lia;show nS ∅ (by rw[pG];ext) ?_;lia;rw[show((J0:Int)+1).toNat=J0+1 by ext];show kg hm hs ?_;lia;show bO (N9 (rO ∅ ∅) (by rw[ui _ _ _ _ _ ∅,pC];ext)) ?_;lia;show h
def gE(S J5 J0:Nat)(H_:h_)(I_:List h_)(r c of d:Int):D:=
 if S-J5=0 then .non else .int (-((((bf H_ I_ (of ^ S) (ends r c of d S)).getD (J0+1) []).getD (S-J5-1) 0-((bf H_ I_ (of ^ S) (ends r c of d S)).getD (J0+1) []).getD (S-J5) 0) / (bp I_ (of ^ S)).getD (J0+1) 0))
def uj(s:Sale S H_ I_ r c of d){t:Nat}(ht:t<=I_.length):1<=(bp I_ (of ^ S)).getD t 0/\(bp I_ (of ^ S)).getD t 0<=10 ^ 88:=by
 rw[ug _ _ _ ht];have h1:=s.o1;have h2:=s.o2;have h3:=s.hS;have p0:(1:Int)<=of ^ S:=by
  have:∀n:Nat,(1:Int)<=of ^ n:=λn=>by
   induction n with
   |zero=>simp
   |succ n ih=>rw[z6d];have:=z7t ih h1 ∅ ∅;ext
  show this S
 have p1:of ^ S<=1000 ^ 10:=hU 10 ∅ h2 ∅ h3;show A2 (by have:=s.f2;ext) p0 ∅ s.t2.drop (by have:=s.t1;rw[z7l];ext)
def A3(s:Sale S H_ I_ r c of d)(hm:M o=some (.ins C c_ (bb S H_ I_ r c of d J0 J5 J7 J8 J9)))(hs:J5<=S)(ht:J0<I_.length)(h:Q (gE S J5 J0 H_ I_ r c of d) M):tU CD C [.ptr o] M Q:=by
 show bV rfl ?_;grind;show kg hm hs ?_;lia;show au (λe=>?_) λe=>?_
 ·lia
  rw[gE,if_pos ∅]at h;show h
 ·lia
  show eB ∅ (by rw[jZ];ext) ?_;lia;show nS ∅ (by rw[pG];ext) ?_;lia;rw[show((J0:Int)+1).toNat=J0+1 by ext];show kg hm hs ?_;lia;have hsc:=uj s (t:=J0+1) ∅;show bO (Na hsc.1 ∅ ∅ (by rw[ui _ _ _ _ _ ∅,pC];ext)) ?_;lia;rw[gE,if_neg ∅]at h;show h
def Ni(s:Sale S H_ I_ r c of d)(hm:M o=some (.ins C c_ (bb S H_ I_ r c of d J0 J5 J7 J8 J9)))(hs:J5<=S)(ht:J0<I_.length)(h:∀M',M' o=some (.ins C c_ (bb S H_ I_ r c of d (J0+1) J5 J7 J8 (.tup [.int (J0:Nat),.int ((S-J5:Nat):Int),gE S J5 J0 H_ I_ r c of d,.non])))->Kp (· = o) M M'->Q (.bl false) M'):gz CD C [.ptr o,.non] M Q EX:=by show bn rfl ?_;grind;show j8 hm ?_;rw[z8u ∅];lia;show Nd hm ?_;lia;show Ng hm ?_;lia;show kg hm hs ?_;lia;show A3 s hm hs ht ?_;lia;show⟨o,_,rfl,hm,?_⟩;lia;show⟨o,_,rfl,aE,?_⟩;rw[eD];lia;show h _ ?_ (Kp.upd (.inl rfl));rw[aE];rfl
def Nj{k:Nat}{b:Bool}(s:Sale S H_ I_ r c of d)(hm:M o=some (.ins C c_ (bb S H_ I_ r c of d J0 J5 J7 J8 J9)))(hs:J5<=S)(ht:J0<I_.length)(hk:k<H_.length)(hb:kf (H_.getD k 0) ((bp I_ (of ^ S)).getD (J0+1) 0) ((bf H_ I_ (of ^ S) (ends r c of d S)).getD (J0+1) []) (S-J5)=b)(h:∀M',M' o=some (.ins C c_ (bb S H_ I_ r c of d (J0+1) (J5+(if b=true then 1 else 0)) (J7+(if b=true then H_.getD k 0 else 0)) J8 (.tup [.int (J0:Nat),.int ((S-J5:Nat):Int),gE S J5 J0 H_ I_ r c of d,.int (H_.getD k 0)])))->Kp (· = o) M M'->Q (.bl b) M'):gz CD C [.ptr o,.int (k:Nat)] M Q EX:=by
 have hf:1<=H_.getD k 0/\H_.getD k 0<=1000000:=by rw[gu _ _ _ hk];show s.f3 _ (z9w _)
 show bn rfl ?_;grind;show j8 hm ?_;rw[z8u ∅];lia;show Nf hm hk ?_;lia;show Nh hm hs ht hf ?_;rw[hb];lia;show kg hm hs ?_;lia;show A3 s hm hs ht ?_;lia;show⟨o,_,rfl,hm,?_⟩;lia;show⟨o,_,rfl,aE,?_⟩;rw[eD];cases b with
 |true=>lia;show⟨o,_,rfl,aE,?_⟩;rw[eD];lia;show⟨o,_,rfl,aE,?_⟩;rw[eD];lia;show h _ ?_ (Kp.upd (.inl rfl));rw[aE];rfl
 |false=>lia;show h _ ?_ (Kp.upd (.inl rfl));rw[aE,if_neg z8l,if_neg z8l,Int.add_zero];rfl
end
section
variable {of:Int}
def Nk{lt:D_}(hm:M o=some (.ins C c_ (bb S H_ I_ r c of d J0 J5 J7 J8 (.tup lt))))(h:Q (.tup lt) M):tW CD C [.ptr o] M Q EX:=by show bn rfl ?_;grind;show h
end
section
variable {of:Int}
def Nl(hm:M o=some (.ins C c_ (bb S H_ I_ r c of d J0 J5 J7 .non J9)))(h:Q (.int J7) M):lY CD C [.ptr o] M Q:=by show bV rfl ?_;grind;show h
def A4(hm:M o=some (.ins C c_ (bb S H_ I_ r c of d J0 J5 J7 (.int due) J9)))(h:Q (.int (J7-due)) M):lY CD C [.ptr o] M Q:=by show bV rfl ?_;grind;show h
end
section
variable {of:Int}
def Nm(s:Sale S H_ I_ r c of d)(hm:M o=some (.ins C c_ (bb S H_ I_ r c of d I_.length J5 J7 .non J9)))(hn:num<=J5)(h:∀M',M' o=some (.ins C c_ (bb S H_ I_ r c of d I_.length J5 J7 (.int (d*max ((num:Int)-r) 0)) J9))->Kp (· = o) M M'->Q (.int (J7-d*max ((num:Int)-r) 0)) M'):il CD C [.ptr o,.int (num:Nat)] M Q EX:=by have hd1:=s.d1;have hd2:=s.d2;show bn rfl ?_;grind;show j8 hm ?_;rw[z8p rfl];lia;rw[z8p (show(0:Int)<=(num:Nat)/\((num:Nat):Int)<=(J5:Nat)by ext)];lia;rw[show List.map (vw1 M) [D.int ((num:Int)-r),D.int 0]=[D.int ((num:Int)-r),D.int 0]from rfl];lia;show⟨o,_,rfl,hm,?_⟩;lia;show A4 (due:=d*max ((num:Int)-r) 0) (J7:=J7) (S:=S) (H_:=H_) (I_:=I_) (r:=r) (c:=c) (of:=of) (d:=d) (J0:=I_.length) (J5:=J5) (J9:=J9) (by rw[aE];rfl) ?_;lia;show h _ (by rw[aE];rfl) (Kp.upd (.inl rfl))
end
noncomputable def iq(tk:z9):D_:=tk.map λ(j:Nat)=>D.int (j:Nat)
theorem A5(c:Nat):∀(l:z9),fX l [c]=decide (c∈l)
 |[]=>by simp[fX]
 | a::l=>by
   rw[fX,A5 c l];by_cases h:c=a
   ·subst h;simp[List.isPrefixOf]
   ·simp[List.isPrefixOf,h]
def A6{α:Type}{motive:List α->Prop}(nil:motive [])(append_singleton:∀l a,motive l->motive (l++[a]))(l:List α):motive l:=by
 have:∀r:List α,motive r.reverse:=λr=>by
  induction r with
  |nil=>show nil
  |cons a r ih=>rw[z6j];show append_singleton _ _ ih
 have h:=this l.reverse
 rwa [z5n]at h
def uk(l:z9)(c:Nat):c8 (l++[c])=10*c8 l+(c-48):=by simp[c8]
def Nn:∀(l:z9),(∀c∈l,48<=c/\c<=57)->c8 l<10 ^ l.length:=by
 intro l
 induction l using A6 with
 |nil=>intro _;simp[c8]
 | append_singleton l c ih=>
   intro h;have h1:=ih λx hx=>h x (z8g _ hx)
   have h2:=h c (by simp);rw[uk,z9f,z4k,Nat.pow_succ];ext
def No:∀(l:z9),l≠[]->(∀c∈l,48<=c/\c<=57)->(l=[48]\/l.head?≠some 48)->digs (c8 l)=l/\(l.head?≠some 48->0<c8 l):=by
 intro l
 induction l using A6 with
 |nil=>intro h;show absurd rfl h
 | append_singleton l c ih=>
   intro hn h hz;have h2:=h c (by simp);rw[uk];cases l with
   | nil=>
     erw[c8,List.foldl_nil,z5u,Nat.mul_zero,Nat.zero_add,List.head?_cons,_root_.ne_eq,z7y];constructor
     ·rw[digs,if_pos ∅]
      congr 1;ext
     ·intro h48;ext
   | cons a r=>
     have hz':(a::r).head?≠some 48:=by
      ext((hz|hz):hz)
      ·have:=z7d List.length hz
       simp at this
      ·simpa using hz
     ext(⟨i1,i2⟩:ih (by simp) (λx hx=>h x (z8g _ hx)) (.inr hz'));have i3:=i2 hz';constructor
     ·rw[digs,if_neg ∅]
      have e1:(10*c8 (a::r)+(c-48)) / 10=c8 (a::r):=by ext
      have e2:(10*c8 (a::r)+(c-48)) % 10=c-48:=by ext
      rw[e1,e2,i1];congr 2;ext
     ·intro _;ext
def Asc(z:Str):Prop:=(tx z).all (λc=>decide (c<128))=true
def ir{x y:Str}:x=y↔tx x=tx y:=⟨λh=>by rw[h],λh=>by rw[<- iV x,h,iV]⟩
def A7{s:Str}{m:Int}(ha:Asc z)(hl:(tx z).length<=10000):iZ [.str z,.str s,.int m]=some (.bl (decide ((1<=((tx z).length:Int)/\((tx z).length:Int)<=m)/\∀c∈tx z,c∈tx s))):=by
 have hl':(tx z).length<=100000:=by ext
 have:WF iZ [.str z,.str s,.int m] λd=>d=.bl (decide ((1<=((tx z).length:Int)/\((tx z).length:Int)<=m)/\∀c∈tx z,c∈tx s)):=by
  show cG (bW rfl ?_);grind;show au (λh1=>?_) λh1=>?_
  ·lia
   show au (λh2=>?_) λh2=>?_
   ·lia
    show nT (α:=Nat) (λc=>c∈tx s) ?_;lia;show⟨⟨ha,hl'⟩,λc=>.str (mkT [c]),tx z,rfl,by ext,λc hc=>⟨[.str (mkT [c])],rfl,?_⟩,λbs hb=>?_⟩
    ·walk_at"env"
     lia;rw[aw,A5];simp
    ·lia
     show z7d D.bl ?_;rw[z5v,hb,z4b];show⟨λh=>⟨⟨h1,h2⟩,h⟩,λh=>h.2⟩
   ·lia
    show z7d D.bl (z8u λh=>h2 h.1.2).symm
  ·lia
   show z7d D.bl (z8u λh=>h1 h.1.1).symm
 ext(⟨d,h,rfl⟩:this);show h
def g9:(" " : Str)=mkT [32]:=by decide +kernel
def kh:("" : Str)=mkT []:=by decide +kernel
def c_0:("0" : Str)=mkT [48]:=by decide +kernel
noncomputable def ki:z9:=[48,49,50,51,52,53,54,55,56,57]
noncomputable def dg:z9:=[97,98,99,100,101,102,103,104,105,106,107,108,109,110,111,112,113,114,115,116,117,118,119,120,121,122]
def A8:("0123456789" : Str)=mkT ki:=by decide +kernel
def A9:("abcdefghijklmnopqrstuvwxyz" : Str)=mkT dg:=by decide +kernel
def mem_figs{c:Nat}:c∈ki↔(48<=c/\c<=57):=by
 have h1:∀x∈ki,48<=x/\x<=57:=by decide
 have h2:∀i:Fin 10,48+i.1∈ki:=by decide
 show⟨h1 c,λh=>?_⟩;have h3:=h2 ⟨c-48,by ext⟩
 rwa [show 48+(c-48)=c from Nat.add_sub_cancel' h.1]at h3
def Np{l:List z9}:inD (.str "") (.lst (l.map λx=>.str (mkT x)))=some (.bl (decide ([]∈l))):=by
 have h1:(l.map λx=>D.str (mkT x)).all aV=true:=by rw[z9u];intro d hd;ext(⟨x,_,rfl⟩:z8i.mp hd);rfl
 have h2:(l.map λx=>D.str (mkT x)).any (λd=>dQ d (.str ""))=decide ([]∈l):=by
  induction l with
  |nil=>rfl
  | cons a r ih=>
    rw[z9r,z6m,ih (by
     rw[z9r,z7w,z8r]at h1;show h1.2),kh]
    change(mkT a==mkT []||_)=_;by_cases e:a=[]
    ·subst e;simp
    ·have e2:(mkT a==mkT [])=false:=z7h.mpr λz=>e (by rw[ir,aw,aw]at z;show z)
     rw[e2];simp[Ne.symm e]
 change(if aV (D.str "")=true/\_ then some (D.bl _)else none)=_;rw[if_pos ⟨rfl,h1⟩,h2]
abbrev aq(ls:List z9):D_:=ls.map λl=>.str (mkT l)
def Aa(h:M a=some (.lst (aq ls))):vw3 M (.ptr a)=.lst (aq ls):=by
 have e:(aq ls).map (vw1 M)=aq ls:=by rw[aq,z8x];show z6p λ_ _=>rfl
 change(match M a with|some (.lst ds)=>D.lst (ds.map (vw1 M))|_=>D.ptr a)=_;rw[h];erw[e]
def ul(hl:(tx z).length<=10000)(h1:[]∈bw 32 (tx z)->∀M',Kp (λ_=>False) M M'->EX "NoRow" M')(h2:[]∉bw 32 (tx z)->∀a,M a=none->Q (.ptr a) (aD M a (.lst ((bw 32 (tx z)).map λl=>.str (mkT l))))):tT CD C [.str z] M Q EX:=by
 show⟨rfl,?_⟩;grind;rw[g9];show Km hl ?_;show⟨_,rfl,λa hn=>?_⟩;lia;rw[Aa aE];show jI (x:=.str "") Np ⟨rfl,?_⟩;lia;show au (λe=>?_) λe=>?_
 ·show eW (by decide) (h1 e _ (Kp.upd (.inr hn)))
 ·lia
  show h2 e a hn
def Nq(ha:Asc z)(hl:(tx z).length<=10000):iZ [.str z,.str "0123456789",.int 7]=some (.bl (decide ((1<=(tx z).length/\(tx z).length<=7)/\∀c∈tx z,48<=c/\c<=57))):=by rw[A7 ha hl,A8,aw];congr 2;show z5m.mpr ⟨λh=>⟨by ext,λc hc=>mem_figs.mp (h.2 c hc)⟩,λh=>⟨by ext,λc hc=>mem_figs.mpr (h.2 c hc)⟩⟩
def Nr(ha:Asc z)(hl:(tx z).length<=10000):iZ [.str z,.str "abcdefghijklmnopqrstuvwxyz",.int 8]=some (.bl (decide ((1<=(tx z).length/\(tx z).length<=8)/\∀c∈tx z,c∈dg))):=by rw[A7 ha hl,A9,aw];congr 2;show z5m.mpr ⟨λh=>⟨by ext,h.2⟩,λh=>⟨by ext,h.2⟩⟩
def at0{c:Nat}{r:z9}:atI (c::r) 0=some c:=by simp[atI,ixN]
def cS(l:z9):Prop:=((1<=l.length/\l.length<=7)/\∀c∈l,48<=c/\c<=57)/\(l=[48]\/l.head?≠some 48)
def str_is:z=mkT l↔tx z=l:=by rw[ir,aw]
def m9(ha:Asc z)(hl:(tx z).length<=10000)(h1:¬cS (tx z)->EX "NoRow" M)(h2:cS (tx z)->Q (.int (c8 (tx z):Nat)) M):im CD C [.str z] M Q EX:=by
 show⟨rfl,?_⟩;grind;show bO (Nq ha hl) ?_;lia;have bad:∀{E:EndN},E.ex=EX->¬cS (tx z)->jU "NoRow" (a5 0) E [some (.str z)] M:=λ{E} he hn=>by show sT (by decide) ?_ (by rw[he];show h1 hn);lia;show⟨z,rfl,ha,hl⟩
 show gt (λh=>?_) λh=>?_
 ·lia
  show bad rfl λg=>h g.1
 ·cases ez:tx z with
  |nil=>rw[ez]at h;simp at h
  | cons c r=>
    lia;show ij (c:=c) ∅ (by rw[ez];show at0) ?_;lia;rw[c_0];have fin:cS (tx z)->WF (aB jT) [.str z] λd=>Q d M:=λg=>by
     have g1:tx z≠[]:=by rw[ez];show λz=>nomatch z
     have lt:=Nn (tx z) g.1.2;have le:10 ^ (tx z).length<=10 ^ 7:=Nat.pow_le_pow_right ∅ g.1.1.2;show Kl ∅ (No (tx z) g1 g.1.2 g.2).1 (h2 g)
    show au (λe=>?_) λe=>?_
    ·have e:c=48:=by rw[str_is,aw]at e;simpa using e
     lia;show gt (λe2=>?_) λe2=>?_
     ·lia
      show bad rfl λg=>g.2.elim (λq=>e2 (str_is.mpr q)) λq=>q ?_
      rw[ez,e];rfl
     ·lia
      show fin ⟨h,.inl (str_is.mp e2)⟩
    ·lia
     show fin ⟨h,.inr λq=>e ?_⟩;rw[ez]at q;have:c=48:=⇑q
     rw[this]
def cu(l:z9):Prop:=(1<=l.length/\l.length<=8)/\∀c∈l,c∈dg
def Ab(ha:Asc z)(hl:(tx z).length<=10000)(h1:¬cu (tx z)->EX "NoRow" M)(h2:cu (tx z)->Q (.str z) M):tY CD C [.str z] M Q EX:=by
 show⟨rfl,?_⟩;grind;show bO (Nr ha hl) ?_;lia;show gt (λh=>?_) λh=>?_
 ·show sT (by decide) ?_ (h1 h)
  lia;show⟨z,rfl,ha,hl⟩
 ·lia
  show h2 h
def asc_mk:Asc (mkT l)↔∀c∈l,c<128:=by unfold Asc;rw[aw,z9u];show⟨λh c hc=>z6l (h c hc),λh c hc=>z8p (h c hc)⟩
theorem um:∀(cs:z9),aZ [] (cs.map λc=>[c])=cs
 |[]=>rfl
 |[c]=>rfl
 |c::d::r=>by have ih:=um (d::r);rw[z9r,z9r,aZ];have e:aZ [] ([d]::List.map (λc=>[c]) r)=d::r:=ih;rw[e];rfl
def dF{K:D->Prop}{r:z9}(hl:l.length+r.length<=100000)(h:K (.str (mkT (l++r)))):W2 bL (.str (mkT l)) (.str (mkT r)) K:=Kf hl h
def iu(l:z9)(lo hi:v_):(bq l lo hi).length<=l.length:=by unfold bq;rw[z7l,z8f];ext
def iw{lo hi:v_}{c:Nat}(h:c∈bq l lo hi):c∈l:=List.mem_of_mem_take (z4y h)
def iD(h0:0<=i)(h1:i<(l.length:Int)):∃c∈l,atI l i=some c:=by
 have hi:i.toNat<l.length:=by ext
 show⟨l[i.toNat],z9w _,?_⟩;unfold atI ixN;rw[if_pos h0,if_pos h1];change l[i.toNat]?=_;rw[z9p hi]
def Ac{cs:z9}:((cs.map λc=>[c]).map List.length).sum=cs.length:=by
 induction cs with
 |nil=>rfl
 |cons c r ih=>erw[z9r,z7e,z9c,z9k]at ih ⊢;ext
theorem ma(c:Nat):∀(ls:List z9),ls≠[]->(ls.map List.length).sum+ls.length=(aZ [c] ls).length+1
 |[],h=>absurd rfl h
 |[a],_=>by simp[aZ]
 |a::b::r,_=>by have ih:=ma c (b::r) (by simp);rw[aZ];erw[z9r,z7e,z9c,z9f,z9k]at ih ⊢;ext
theorem md(c:Nat):∀(l:z9),c∉l->bw c l=[l]
 |[],_=>rfl
 | a::l,h=>by
   have h1:¬a=c:=λe=>h (by rw[e];show z9b)
   have h2:=md c l λz=>h (z9d _ z)
   unfold bw;rw[if_neg h1,h2]
theorem pH(c:Nat)(m:z9):∀(l:z9),c∉l->bw c (l++[c]++m)=l::bw c m
 |[],_=>by change bw c (c::m)=_;rw[bw,if_pos rfl]
 | a::l,h=>by
   have h1:¬a=c:=λe=>h (by rw[e];show z9b)
   have h2:=pH c m l λz=>h (z9d _ z)
   change bw c (a::(l++[c]++m))=_;rw[bw,if_neg h1,h2]
theorem uo(c:Nat):∀(ws:List z9),ws≠[]->(∀w∈ws,c∉w)->bw c (aZ [c] ws)=ws
 |[],h,_=>absurd rfl h
 |[w],_,h=>md c w (h w z9b)
 |w::v::r,_,h=>by rw[aZ,pH c _ w (h w z9b),uo c (v::r) (by simp) λx hx=>h x (z9d _ hx)]
def pI:∀(n:Nat),digs n≠[]/\(∀c∈digs n,48<=c/\c<=57)/\(0<n->(digs n).head?≠some 48)/\c8 (digs n)=n:=by
 intro n
 induction n using digs.induct with
 | case1 n h=>
   rw[digs,if_pos h];show⟨by simp,λc hc=>?_,λhp=>?_,?_⟩
   ·rw[z9l.mp hc];ext
   ·simp;ext
   ·simp[c8]
 | case2 n h ih=>
   ext(⟨i1,i2,i3,i4⟩:ih);rw[digs,if_neg h];show⟨by simp,λc hc=>?_,λ_=>?_,?_⟩
   ·ext((hc|hc):z8b.mp hc)
    ·show i2 c hc
    ·rw[z9l.mp hc];ext
   ·have:=i3 ∅
    cases e:digs (n / 10)with
    |nil=>show absurd e i1
    |cons a r=>rw[e]at this;simpa using this
   ·rw[uk,i4];ext
theorem uq:∀(k n:Nat),n<10 ^ k->1<=k->(digs n).length<=k
 |0,_,_,h=>absurd h ∅
 | k + 1,n,hn,_=>by
   rw[digs];split
   ·simp
   ·rename_i h
    have h1:n / 10<10 ^ k:=by rw[Nat.pow_succ]at hn;ext
    have hk:1<=k:=by
     cases k with
     |zero=>simp at h1;ext
     |succ k=>ext
    have:=uq k (n / 10) h1 hk;rw[z9f];erw[z9c,z9k];ext
def Nt(h:n<10000000):cS (digs n):=by
 ext(⟨h1,h2,h3,h4⟩:pI n);have hl:=uq 7 n ∅ ∅;show⟨⟨⟨z6n.mpr h1,hl⟩,h2⟩,?_⟩;ext((rfl|hp):Nat.eq_zero_or_pos n)
 ·left;rw[digs];rfl
 ·show .inr (h3 hp)
def Nu:∀c∈digs n,c<128:=λc hc=>by have:=(pI n).2.1 c hc;ext
def Nv:32∉digs n:=λhc=>by have:=(pI n).2.1 32 hc;ext
def ur(h0:0<=i)(h1:i<26):atI dg i=some (97+i.toNat):=by
 have hl:∀j:Fin 26,dg[j.1]?=some (97+j.1):=by decide
 unfold atI ixN;rw[if_pos h0,if_pos (by show h1)];show hl ⟨i.toNat,by ext⟩
def let_mem:n∈dg↔97<=n/\n<=122:=by
 have h1:∀x∈dg,97<=x/\x<=122:=by decide
 have h2:∀i:Fin 26,97+i.1∈dg:=by decide
 show⟨h1 n,λh=>?_⟩;have h3:=h2 ⟨n-97,by ext⟩
 rwa [show 97+(n-97)=n from Nat.add_sub_cancel' h.1]at h3
noncomputable def odds:List z9:=[[99,108,97,115,115],[116,117,114,110],[114,117,108,101],[111,112,101,110],[97,115,107],[113,117,105,101,116],[99,97,109,101],[108,101,102,116],[116,117,114,110,115],[99,111,105,110,115],[119,104,121],[119,111,114,116,104],[110,111]]
def Nw:(["class","turn","rule","open","ask","quiet","came","left","turns","coins","why","worth","no"]:i_)=odds.map mkT:=by decide +kernel
def Ad:∀l∈odds,(1<=l.length/\l.length<=8)/\∀c∈l,c∈dg:=by decide
def Nx{K:D->Prop}(h0:0<=i)(h1:i<(ls.length:Int))(h:∀l∈ls,K (.str (mkT l))):W2 ixD (.lst (aq ls)) (.int i) K:=by
 have hi:i.toNat<ls.length:=by ext
 show jH (d:=.str (mkT ls[i.toNat])) ?_ (h _ (z9w _));change atI (aq ls) i=_;unfold atI ixN;rw[if_pos h0,if_pos (by rw[z9a];show h1)];change(aq ls)[i.toNat]?=_;rw[z9x,z9p hi];rfl
def Ny{l0 l1 l2:z9}{K:D->Prop}(h0:0<=s)(h1:s<4)(h:K (.str (mkT (if s=0 then l0 else if s=1 then l1 else l2)))):W2 ixD (.lst [.str (mkT l0),.str (mkT l1),.str (mkT l2),.str (mkT l2)]) (.int s) K:=by
 have:s=0\/s=1\/s=2\/s=3:=by ext
 ext((rfl|rfl|rfl|rfl):this)<;>show jH rfl h
def Nz:∀{ls:List z9},nL (.str (mkT l)) (.lst (aq ls))=some (.bl (decide (l∉ls))):=by
 intro ls;have h1:(aq ls).all aV=true:=by rw[z9u];intro d hd;ext(⟨x,_,rfl⟩:z8i.mp hd);rfl
 have h2:(!(aq ls).any (λd=>dQ d (.str (mkT l))))=decide (l∉ls):=by
  rw[z5v,z4b,z4f,Bool.eq_false_iff,_root_.ne_eq,List.any_eq_true,not_congr];constructor
  ·rintro⟨d,hd,hb⟩
   ext(⟨x,hx,rfl⟩:z8i.mp hd);have hb:(mkT x==mkT l)=true:=hb;have hb:=eq_of_beq hb;rw[ir,aw,aw]at hb;show hb▸hx
  ·intro hl
   show⟨.str (mkT l),z8i.mpr ⟨l,hl,rfl⟩,z6y (mkT l)⟩
 change(if aV (D.str (mkT l))=true/\_ then some (D.bl _)else none)=_;rw[if_pos ⟨rfl,h1⟩,h2]
def j9(w b:z9)(at_ s off:Int)(k:Nat):z9:=
 if s=0 then [97+((off+(k:Int) / 8) % 26).toNat]++bq w none (some ((k:Int) % 8))else if s=1 then bq w (some (7-(k:Int) % 8)) none++[97+((off+(k:Int) / 8) % 26).toNat]
 else bq b none (some at_)++[97+((off+(k:Int)) % 26).toNat]++bq b (some at_) none
def me(h0:0<=i)(h1:i<=(l.length:Int)):(bq l none (some i)).length=i.toNat:=by unfold bq;erw[z7g,z5k,Int.toNat_zero,z6r,z8f];ext
def pJ(h0:0<=i)(h1:i<=(l.length:Int)):(bq l (some i) none).length=l.length-i.toNat:=by unfold bq;erw[z7g,z5k,z7c,List.take_length,z7l]
structure Names (nm:List z9):Prop where
 len:nm.length=9
 nd:nm.Nodup
 ok:∀l∈nm,cu l
def NB{at_ off:Int}(hw:w.length=7)(hwl:∀c∈w,c∈dg)(hb:b.length<=7)(hbl:∀c∈b,c∈dg)(ha0:0<=at_)(ha1:at_<=(b.length:Int))(h0:0<=off)(h1:off<26):Names ((List.range 9).map (j9 w b at_ s off)):=by
 show⟨rfl,?_,λl hl=>?_⟩
 ·show List.pairwise_map.mpr (List.pairwise_lt_range.imp_of_mem λ{i j} hi hj hij e=>?_)
  rw[z7q]at hi hj;have el:=z7d List.length e;unfold j9 at e el;split at e
  ·rename_i hs
   erw[if_pos hs,z9f,z9c,z9k]at el;rw[me ∅ ∅,me ∅ ∅]at el;erw[z5a,z5u,z4x]at e;ext
  ·rename_i hs
   split at e
   ·rename_i hs2
    erw[if_neg hs,if_pos hs2,z9f,z9c,z9k]at el;rw[pJ ∅ ∅,pJ ∅ ∅]at el;have e2:=(List.append_inj' e rfl).2;erw[z4x]at e2;ext
   ·rename_i hs2
    have e2:=(List.append_inj' (List.append_inj_left e (by simp)) rfl).2;erw[z4x]at e2;ext
 ·ext(⟨k,hk,rfl⟩:z8i.mp hl)
  rw[z7q]at hk;unfold j9;have f1:∀z:Int,97+(z % 26).toNat∈dg:=λz=>let_mem.mpr ∅
  split
  ·show⟨?_,λc hc=>?_⟩
   ·rw[z9f,me ∅ ∅]
    erw[z9c,z9k];ext
   ·ext((hc|hc):z8b.mp hc)
    ·rw[z9l.mp hc];show f1 _
    ·show hwl c (iw hc)
  ·split
   ·show⟨?_,λc hc=>?_⟩
    ·rw[z9f,pJ ∅ ∅]
     erw[z9c,z9k];ext
    ·ext((hc|hc):z8b.mp hc)
     ·show hwl c (iw hc)
     ·rw[z9l.mp hc];show f1 _
   ·show⟨?_,λc hc=>?_⟩
    ·rw[z9f,z9f,me ha0 ha1,pJ ha0 ha1]
     erw[z9c,z9k];ext
    ·ext((hc|hc):z8b.mp hc)
     ·ext((hc|hc):z8b.mp hc)
      ·show hbl c (iw hc)
      ·rw[z9l.mp hc];show f1 _
     ·show hbl c (iw hc)
def Names.put{i:Nat}(h:Names nm)(hl:l∉nm)(g:cu l):Names (nm.set i l):=by
 show⟨by rw[z8h,h.len],?_,λx hx=>(z6x hx).elim (h.ok x) λe=>e▸g⟩;have hn:=h.nd;rw[List.Nodup,List.pairwise_iff_getElem]at hn ⊢;intro a b ha hb hab;rw[z8h]at ha hb;rw[List.getElem_set,List.getElem_set];split
 ·rename_i e1
  rw[if_neg ∅];show λe=>hl (e▸z9w _)
 ·split
  ·show λe=>hl (e▸z9w _)
  ·show hn a b ha hb hab
def Ae:([.str "class",.str "turn",.str "rule",.str "open",.str "ask",.str "quiet",.str "came",.str "left",.str "turns",.str "coins",.str "why",.str "worth",.str "no"]:D_)=aq odds:=(z7d (List.map D.str) Nw).trans (by rw[z8x];rfl)
def NC(hp:Pool M a n)(hn:n<=60000)(h:∀nm M',Names nm->Kp (· = a) M M'->Pool M' a (n+20)->Q (.lst (aq nm)) M'):u8 CD C [.ptr a,.int 9] M Q:=by
 show bV rfl ?_;walk_at"env";rw[A9];lia;rw[Ae];walk_at"env";show lP ?_;lia;show⟨⟨by ext,by ext⟩,by ext,?_⟩;show ic _ _ (λk ds M'=>∃w:z9,ds=(w.map λc=>[c]).map (λl=>.str (mkT l))/\w.length=k/\(∀c∈w,c∈dg)/\Pool M' a (n+k)/\Kp (· = a) M M') ⟨[],rfl,rfl,by simp,hp,Kp.refl⟩ ?_ ?_
 ·rintro ds M1 ⟨w,rfl,hw,hwl,p1,k1⟩
  replace hw:w.length=7:=hw;replace p1:Pool M1 a (n+7):=p1;show iW (s:="") (by rw[kh,aw,Ac,z9a];simp[hw]) ?_;rw[kh,aw,um];lia;show bc p1 ∅ ∅ ∅ λs M2 s0 s1 p2 k2=>?_
  lia;show bc p2 ∅ ∅ ∅ λoff M3 o0 o1 p3 k3=>?_
  lia;show bc p3 ∅ ∅ ∅ λbl M4 b0 b1 p4 k4=>?_
  show⟨bl,.str (mkT (bq w none (some bl))),rfl,?_,?_⟩
  ·erw[slT,aw]
   show if_pos ⟨rfl,z8p b0,by ext⟩
  have hb:=iu w none (some bl);generalize ebv:bq w none (some bl)=bv at hb ⊢;have hbl:∀c∈bv,c∈dg:=λc hc=>hwl c (iw (ebv▸hc))
  have hbl2:(tx (mkT bv)).length<=100000:=by rw[aw];ext
  lia;rw[aw];show bc p4 ∅ ∅ ∅ λat_ M5 a0 a1 p5 k5=>?_
  lia;intro x hx;have hxa:x≠a:=λe=>by subst e;ext(⟨_,_,_,h1,_⟩:p5);rw[hx]at h1;ext h1
  lia;show⟨⟨by ext,by ext⟩,?_⟩;have K5:Kp (· = a) M M5:=(((k1.trans k2 λ_ z _=>z).trans k3 λ_ z _=>z).trans k4 λ_ z _=>z).trans k5 λ_ z _=>z
  have hx0:M x=none:=by
   cases e:M x with
   |none=>rfl
   |some c=>show absurd (K5 x c e hxa) (by rw[hx];show λq=>nomatch q)
  show oA _ _ (λk ρ M'=>∃b c d,ρ=[some (.ptr a),some (.int 9),some (.str (mkT dg)),some (.lst (aq odds)),some (.str (mkT w)),some (.int s),some (.int off),some (.str (mkT bv)),some (.int at_),some (.ptr x),b,c,d,none]/\M' x=some (.lst (aq ((List.range k).map (j9 w bv at_ s off))))/\Pool M' a (n+11)/\Kp (· = a) M M') ⟨_,_,_,rfl,aE,p5.keep (S:=λ_=>False) (Kp.upd (.inr hx)) id,K5.trans (Kp.upd (S:=λ_=>False) (.inr hx)) λ_ z _=>z.elim⟩ ?_ ?_
  ·rintro ρ M6 ⟨b,c,d,rfl,h1,p6,k6⟩
   have ok:Names ((List.range 9).map (j9 w bv at_ s off)):=NB hw hwl ∅ hbl a0 ∅ o0 o1;replace h1:M6 x=some (.lst (aq ((List.range 9).map (j9 w bv at_ s off)))):=h1;generalize (List.range 9).map (j9 w bv at_ s off)=nm at ok h1;have hdel:∀M' M'':Sto,Kp (· = a) M M'->Kp (· = x) M' M''->Kp (· = a) M (cW M'' x):=λM' M'' z1 z2=>(z1.trans z2 λb z n=>by subst z;show absurd hx0 n).trans (Kp.del (S:=(· = x)) rfl) λb z n=>by subst z;show absurd hx0 n
   have hpo:∀(M' M'':Sto) (m:Nat),Pool M' a m->m<=n+20->Kp (· = x) M' M''->Pool (cW M'' x) a (n+20):=λM' M'' m z1 z2 z3=>((z1.keep z3 (Ne.symm hxa)).keep (Kp.del (S:=(· = x)) rfl) (Ne.symm hxa)).le z2
   lia;show bc p6 ∅ ∅ ∅ λr M7 r0 r1 p7 k7=>?_
   show Nx r0 (by show r1) λo ho=>?_
   have go:cu o:=Ad o ho;lia;have h7:=k7 x _ h1 hxa;rw[Aa h7];show jI (x:=.str (mkT o)) Nz ⟨rfl,?_⟩;lia;have K7:=k6.trans k7 λ_ z _=>z
   show au (λe=>?_) λe=>?_
   ·lia
    show bc p7 ∅ ∅ ∅ λr2 M8 q0 q1 p8 k8=>?_
    have h8:=k8 x _ h7 hxa;have K8:=K7.trans k8 λ_ z _=>z
    lia;show au (λe2=>?_) λe2=>?_
    ·lia
     show bc p8 ∅ ∅ ∅ λr3 M9 t0 t1 p9 k9=>?_
     have h9:=k9 x _ h8 hxa;show⟨x,_,r3,r3.toNat,rfl,h9,rfl,?_,?_⟩
     ·rw[z9a,ok.len];unfold ixN;rw[if_pos t0,if_pos (by show t1)]
     lia;show lO rfl aE ?_;lia;rw[aq,<- List.map_set (f:=λl=>D.str (mkT l))];show h _ _ (ok.put e go) (hdel _ _ (K8.trans k9 λ_ z _=>z) (Kp.upd (.inl rfl))) (hpo _ _ _ p9 ∅ (Kp.upd (.inl rfl)))
    ·lia
     show lO rfl h8 ?_;lia;show h _ _ ok (hdel _ _ K8 Kp.refl) (hpo _ _ _ p8 ∅ Kp.refl)
   ·lia
    show lO rfl h7 ?_;lia;show h _ _ ok (hdel _ _ K7 Kp.refl) (hpo _ _ _ p7 ∅ Kp.refl)
  ·rintro k hk ρ M6 ⟨b,c,d,rfl,h1,p6,k6⟩ N hN
   rw[z8j]at hk;walk_at"env";have hwl2:(tx (mkT w)).length<=100000:=by rw[aw];ext
   have hll:(tx (mkT dg)).length<=100000:=by rw[aw];decide
   lia;rw[show(List.range (Int.toNat 9))[k]=k from List.getElem_range ..];show ij hll (by rw[aw];show ur ∅ ∅) ?_;lia;show⟨⟨rfl,z8p a0,hbl2⟩,?_⟩;rw[aw];lia;show ij hll (by rw[aw];show ur ∅ ∅) ?_;have hc1:=iu bv none (some at_);have hc2:=iu bv (some at_) none;show dF (by erw[z9c,z9k];ext) ?_;lia;show⟨⟨z8p a0,rfl,hbl2⟩,?_⟩;rw[aw];lia;show dF (by erw[z9f,z9c,z9k];ext) ?_;lia;have m0:0<=(k:Int) % 8:=by ext
   have hc3:=iu w none (some ((k:Int) % 8));have hc4:=iu w (some (7-(k:Int) % 8)) none;show⟨x,_,rfl,h1,?_⟩;lia;show⟨⟨rfl,z8p m0,hwl2⟩,?_⟩;rw[aw];lia;show dF (by erw[z9c,z9k];ext) ?_;lia;show⟨⟨z8p ∅,rfl,hwl2⟩,?_⟩;rw[aw];lia;show dF (by erw[z9c,z9k];ext) ?_;lia;show Ny s0 s1 ?_;show⟨_,h1,by simp;ext,?_⟩;show hN _ _ ⟨_,_,_,rfl,?_,p6.keep (S:=(· = x)) (Kp.upd (.inl rfl)) (Ne.symm hxa),k6.trans (Kp.upd (S:=(· = x)) (.inl rfl)) λb z n=>by subst z;show absurd hx0 n⟩;rw[aE,List.range_succ,z8e,aq,aq,z8e];rfl
 ·rintro k hk ds M1 ⟨w,rfl,hw,hwl,p1,k1⟩ N hN
  rw[z8j]at hk;grind;show bc p1 ∅ ∅ ∅ λr M2 a1 a2 p2 k2=>?_
  lia;show ij (c:=97+r.toNat) (by rw[aw];decide) (by rw[aw];show ur a1 a2) ?_;show hN _ _ ⟨w++[97+r.toNat],by simp,by simp[hw],λc hc=>?_,p2,k1.trans k2 λ_ z _=>z⟩;ext((hc|hc):z8b.mp hc)
  ·show hwl c hc
  ·rw[z9l.mp hc];show let_mem.mpr ∅
def Af(h:M a=some (.lst (xs.map D.int))):vw2 M (.ptr a)=DI xs:=by
 have e:(xs.map D.int).map (vw1 M)=xs.map D.int:=by rw[z8x];show z6p λ_ _=>rfl
 erw[vw2,h,e]
def Ag{xs:List h_}(h:M a=some (.lst (xs.map DI))):vw2 M (.ptr a)=DII xs:=by
 have e:(xs.map DI).map (vw1 M)=xs.map DI:=by rw[z8x];show z6p λ_ _=>rfl
 erw[vw2,h,e]
section
variable {of:Int}
def ND(s:Sale S H_ I_ r c of d)(ho:M o=some (.ins C [] []))(hfa:M fa=some (.lst (H_.map D.int)))(hra:M ra=some (.lst (I_.map DI)))(h:∀M',M' o=some (.ins C c_ (bb S H_ I_ r c of d 0 0 0 .non .non))->Kp (· = o) M M'->Q .non M'):
  u6 CD C [.ptr o,.int (S:Nat),.ptr fa,.ptr ra,.tup [.int r,.int c,.int of,.int d]] M Q EX:=by
 ext(⟨hS,f1,f2,f3,t1,t2,r1,r2,c1,c2,o1,o2,d1,d2⟩:s);have hrl:∀x∈I_,x.length<=1000:=λx hx=>by have:=(t2 x hx).1;ext
 have nf:fa≠o:=λe=>by rw[e,ho]at hfa;ext hfa
 have nr:ra≠o:=λe=>by rw[e,ho]at hra;ext hra
 have w1:vw2 M (.ptr fa)=DI H_:=Af hfa;have w2:vw2 M (.ptr ra)=DII I_:=Ag hra;have v1:∀cc:Cell,vw2 (aD M o cc) (.ptr fa)=DI H_:=λcc=>Af ((aP nf).trans hfa)
 have v2:∀cc:Cell,vw2 (aD M o cc) (.ptr ra)=DII I_:=λcc=>Ag ((aP nr).trans hra)
 show bn rfl ?_;grind;rw[show List.map (vw2 M) [.int (S:Nat),.ptr fa,.ptr ra]=[.int (S:Nat),DI H_,DII I_]by erw[z9r,z6b,w1,w2];rfl];show iQ (MK ∅ ∅ hrl) ?_;rintro _ ⟨b,rfl,hb⟩;have hb':b=true:=hb.mpr ⟨by ext,by ext,f1,f2,f3,t1,t2⟩;subst hb';show⟨rfl,?_⟩;lia;show bO (zP r c of d) ?_;rw[show pB r c of d=true from z8p ⟨r1,r2,o1,o2,c1,c2,d1,d2⟩];lia;show bO (Nb ∅ ∅) ?_;have hfs:gD H_:=λx hx=>by have:=f3 x hx;ext
 have hts:∀x∈I_,gD x/\x.length<=1000:=λx hx=>⟨λy hy=>by have:=(t2 x hx).2.1 y hy;ext,hrl x hx⟩
 have hsum:=t2.sum ∅;lia;show eV ?_;lia;show⟨o,_,rfl,ho,?_⟩;lia;show eV ?_;lia;show⟨H_.map D.int,g8 ((aP nf).trans hfa),?_⟩;lia;show⟨o,_,rfl,aE,?_⟩;rw[eD];lia;show eV ?_;lia;show⟨o,_,rfl,aE,?_⟩;rw[eD];lia;show eV ?_;lia;erw[z9r,z6b,v2];show bO (zY hsum ∅) ?_;show⟨⟨_,rfl⟩,?_⟩;lia;show⟨o,_,rfl,aE,?_⟩;rw[eD];lia;show eV ?_;lia;show bO (MZ ∅ ∅ ⟨c1,c2⟩ o2 o1 ⟨d1,d2⟩) ?_;lia;erw[z9r,z6b,v1,v2];show bO (N8 hfs ∅ hts hsum ∅ (by rw[pC];ext)) ?_;lia;show⟨o,_,rfl,aE,?_⟩;rw[eD];lia
 iterate 4
  show eV ?_;lia;show⟨o,_,rfl,aE,?_⟩;rw[eD];lia
 show eV ?_;lia;show⟨o,_,rfl,aE,?_⟩;rw[eD];lia;show h _ aE (Kp.upd (.inl rfl))
end
section
variable {rest:List z9}{f r:D}
def Ah{a:z9}{l:List z9}:cU (aq (a::l)) (some (1:Nat)) none=aq l:=by unfold cU;rw[rQ,rR];simp[aq];show z8t (by simp)
def pK{d:D}{l:D_}:atI (d::l) 0=some d:=by simp[atI,ixN]
def Ai(hl:(tx z).length<=10000)(hz:bw 32 (tx z)=hd::rest)(hne:[]∉hd::rest)(hm:M dk=some (.ins CD d_ [p,f,r,u,.non]))(h:∀M1,Kp (λ_=>False) M M1->gA CD C [.ptr dk,.str (mkT hd),.lst (aq rest)] M1 Q EX):cC CD C [.ptr dk,.str z] M Q EX:=by
 show bn rfl ?_;grind;show ul hl (λe=>absurd (hz▸e) hne) λ_ a ha=>?_
 rw[hz];have hm1:aD M a (.lst (aq (hd::rest))) dk=some (.ins CD d_ [p,f,r,u,.non]):=(aP λe=>by rw[e,ha]at hm;ext hm).trans hm;lia;show⟨a,_,0,.str (mkT hd),rfl,aE,rfl,pK,?_⟩;lia;show⟨a,_,rfl,aE,by ext,?_⟩;lia;rw[show(List.map (λl=>D.str (mkT l)) (hd::rest))=aq (hd::rest)from rfl,Ah];show h _ (Kp.upd (.inr ha))
def pL(hl:(tx z).length<=10000)(hz:bw 32 (tx z)=hd::rest)(hne:[]∉hd::rest)(hm:M dk=some (.ins CD d_ [p,f,r,u,.ptr o]))(h:∀M1,Kp (λ_=>False) M M1->j5 CD C [.ptr dk,.str (mkT hd),.lst (aq rest)] M1 Q EX):cC CD C [.ptr dk,.str z] M Q EX:=by
 show bn rfl ?_;grind;show ul hl (λe=>absurd (hz▸e) hne) λ_ a ha=>?_
 rw[hz];have hm1:aD M a (.lst (aq (hd::rest))) dk=some (.ins CD d_ [p,f,r,u,.ptr o]):=(aP λe=>by rw[e,ha]at hm;ext hm).trans hm;lia;show⟨a,_,0,.str (mkT hd),rfl,aE,rfl,pK,?_⟩;lia;show⟨a,_,rfl,aE,by ext,?_⟩;lia;rw[show(List.map (λl=>D.str (mkT l)) (hd::rest))=aq (hd::rest)from rfl,Ah];show h _ (Kp.upd (.inr ha))
def Aj(h:0<=x):aM x=digs x.toNat:=if_neg ∅
def kl(h0:0<=x)(h1:x<10000000):cS (aM x)/\(∀c∈aM x,c<128)/\32∉aM x/\((c8 (aM x):Nat):Int)=x:=by rw[Aj h0];show⟨Nt ∅,Nu,Nv,?_⟩;rw[(pI _).2.2.2];ext
def ut(h0:0<=x)(h1:x<10000000)(h:Q (.int x) M):im CD C [.str (mkT (aM x))] M Q EX:=by
 ext(⟨g,a,_,v⟩:kl h0 h1);show m9 (asc_mk.mpr a) (by rw[aw];have:=g.1.1.2;ext) (λe=>absurd (by rw[aw];show g) e) λ_=>?_
 rw[aw,v];show h
theorem Ak{K:D_->Sto->Prop}:∀(ls:List z9) (_:∀l∈ls,(∀c∈l,c<128)/\l.length<=10000) (done:D_) (_:(∃l∈ls,¬cS l)->EX "NoRow" M) (_:(∀l∈ls,cS l)->K (done++ls.map λl=>D.int (c8 l:Nat)) M),lW (fA (im CD C) (aa (nP (a5 0)) aj)) [none] (aq ls) done M K EX
 | [],_,done,_,h2=>by
   have:=h2 (λ_ z=>nomatch z)
   rwa [z6b,z8w]at this
 | l::r,ha,done,h1,h2=>by
   have al:=ha l z9b;show⟨.str (mkT l),rfl,m9 (CD:=CD) (C:=C) (asc_mk.mpr al.1) (by rw[aw];show al.2) (λe=>h1 ⟨l,z9b,by rwa [aw]at e⟩) λg=>?_⟩;rw[aw]at g ⊢;show Ak r (λx hx=>ha x (z9d _ hx)) _ (λ⟨x,hx,e⟩=>h1 ⟨x,z9d _ hx,e⟩) λhg=>?_
   have:=h2 λx hx=>(z9g.mp hx).elim (λe=>e▸g) (hg x)
   rw[z7o];show this
def uv(ha:∀l∈ls,(∀c∈l,c<128)/\l.length<=10000)(hlen:ls.length<=1000)(h1:(∃l∈ls,¬cS l)->EX "NoRow" M)(h2:(∀l∈ls,cS l)->Q (.lst (ls.map λl=>D.int (c8 l:Nat))) M):lZ CD C [.lst (aq ls)] M Q EX:=by show bn rfl ?_;grind;show⟨by rw[z9a];show hlen,Ak ls ha [] h1 h2⟩
def Am(hb:∀x∈xs,0<=x/\x<10000000)(hlen:xs.length<=1000)(h:Q (DI xs) M):lZ CD C [.lst (aq (xs.map aM))] M Q EX:=by
 have gd:∀l∈xs.map aM,cS l/\∀c∈l,c<128:=λl hl=>by ext(⟨x,hx,rfl⟩:z8i.mp hl);ext(⟨g,a,_,_⟩:kl (hb x hx).1 (hb x hx).2);show⟨g,a⟩
 show uv (λl hl=>⟨(gd l hl).2,by have:=(gd l hl).1.1.1.2;ext⟩) (by rw[z9a];show hlen) (λ⟨l,hl,e⟩=>absurd (gd l hl).1 e) λ_=>?_
 rw[z8x];rw[show(List.map ((λl=>D.int (c8 l:Nat))∘aM) xs)=xs.map D.int from z6p λx hx=>by change D.int _=_;rw[(kl (hb x hx).1 (hb x hx).2).2.2.2]]
 show h
end
structure Gath (M:Sto) (CD dk pl fa ra:Nat) (nm:List z9) (fs:h_) (ts:List h_) (u:D):Prop where
 hd:M dk=some (.ins CD d_ [.ptr pl,.ptr fa,.ptr ra,u,.non])
 hp:M pl=some (.dic (nm.map mkT) (iq (List.range nm.length)))
 hf:M fa=some (.lst (fs.map D.int))
 hr:M ra=some (.lst (ts.map DI))
 ne:fa≠ra
abbrev S4(dk pl fa ra:Nat):Nat->Prop:=λx=>x=dk\/x=pl\/x=fa\/x=ra
section
variable {fs:h_}{ts:List h_}
def Gath.keep(g:Gath M CD dk pl fa ra nm fs ts u)(k:Kp (λ_=>False) M M'):Gath M' CD dk pl fa ra nm fs ts u:=⟨k _ _ g.hd id,k _ _ g.hp id,k _ _ g.hf id,k _ _ g.hr id,g.ne⟩
def Gath.nes(g:Gath M CD dk pl fa ra nm fs ts u):dk≠pl/\dk≠fa/\dk≠ra/\pl≠fa/\pl≠ra:=by ext(⟨h1,h2,h3,h4,_⟩:g);show⟨?_,?_,?_,?_,?_⟩<;>(rintro rfl;first|(rw[h1]at h2;ext h2;done)|(rw[h1]at h3;ext h3;done)|(rw[h1]at h4;ext h4;done)|(rw[h2]at h3;ext h3;done)|(rw[h2]at h4;ext h4;done))
def mem_mk:mkT l∈nm.map mkT↔l∈nm:=by
 rw[z8i];constructor
 ·rintro⟨x,hx,e⟩
  rw[ir,aw,aw]at e;show e▸hx
 ·show λh=>⟨l,h,rfl⟩
def NF{n:z9}(g:Gath M CD dk pl fa ra nm fs [] u)(hn:n∉nm)(h0:1<=f)(h1:f<=1000000)(hl:nm.length=fs.length)(h6:fs.length<6)(h:∀M',Gath M' CD dk pl fa ra (nm++[n]) (fs++[f]) [] u->Kp (S4 dk pl fa ra) M M'->Q .non M'):tX CD C [.ptr dk,.str (mkT n),.int f] M Q EX:=by
 ext(⟨n1,n2,n3,n4,n5⟩:g.nes);ext(⟨e1,e2,e3,e4,n6⟩:g);show bn rfl ?_;grind;show⟨pl,_,_,_,rfl,rfl,e2,?_⟩;lia;show au (λe=>absurd (mem_mk.mp e) hn) λ_=>?_
 lia;rw[show List.map (vw1 M) [D.ptr ra]=[.lst []]by simp[g8 e4]];lia;show q0x ?_
 lia;rw[show List.map (vw1 M) [D.ptr fa]=[DI fs]by simp[g8 e3]];lia;show au (λe=>absurd e (by erw[z9a];ext)) λ_=>?_
 lia;show iQ (zO (f:=[f]) (by simp)) ?_;rintro _ ⟨b,rfl,hb⟩;have hb':b=true:=hb.mpr ⟨by simp,by simp,λx hx=>by rw[z9l.mp hx];ext⟩;subst hb';lia;rw[show List.map (vw1 M) [D.ptr fa]=[DI fs]by simp[g8 e3]];lia;show⟨pl,_,_,_,rfl,rfl,e2,λe=>hn (mem_mk.mp e),by rw[z9a];ext,?_⟩;have e1':=(aP (c:=.dic (nm.map mkT++[mkT n]) (iq (List.range nm.length)++[.int ((fs.map D.int).length:Nat)])) n1).trans e1;have e3':=(aP (c:=.dic (nm.map mkT++[mkT n]) (iq (List.range nm.length)++[.int ((fs.map D.int).length:Nat)])) (Ne.symm n4)).trans e3;lia;show⟨fa,_,rfl,e3',?_⟩;lia;show⟨_,e3',by rw[z9a];ext,?_⟩;lia;show h _ ⟨(aP n2).trans e1',?_,?_,?_,n6⟩ ((Kp.upd (S:=S4 dk pl fa ra) (.inl (.inr (.inl rfl)))).trans (Kp.upd (S:=S4 dk pl fa ra) (.inl (.inr (.inr (.inl rfl))))) λ_ z _=>z)
 ·rw[aP n4,aE,z8e,z9f,z4k,List.range_succ,iq,iq,z8e,z9a,hl]
  rfl
 ·rw[aE,z8e];rfl
 ·rw[aP (Ne.symm n6),aP (Ne.symm n5),e4]
def NG{n:z9}(g:Gath M CD dk pl fa ra nm fs [] u)(hn:n∉nm)(hg:cu n)(h0:1<=f)(h1:f<=1000000)(hl:nm.length=fs.length)(h6:fs.length<6)(h:∀M',Gath M' CD dk pl fa ra (nm++[n]) (fs++[f]) [] u->Kp (S4 dk pl fa ra) M M'->Q (.str "ok") M'):gA CD C [.ptr dk,.str "class",.lst (aq [n,aM f])] M Q EX:=by
 have e1:=g.hd;show bn rfl ?_;grind;show q1x ?_
 lia;show q1x ?_
 lia;show Ab (asc_mk.mpr λc hc=>by have:=let_mem.mp (hg.2 c hc);ext) (by rw[aw];have:=hg.1.2;ext) (λe=>absurd (by rw[aw];show hg) e) λ_=>?_
 lia;show ut ∅ ∅ ?_;lia;show NF g hn h0 h1 hl h6 λM1 g1 k1=>?_
 lia;show h M1 g1 k1
def NH(g:Gath M CD dk pl fa ra nm fs ts u)(hr:gB fs.length row)(h1:1<=fs.length)(h6:fs.length<=6)(h8:ts.length<8)(h:∀M',Gath M' CD dk pl fa ra nm fs (ts++[row]) u->Kp (S4 dk pl fa ra) M M'->Q .non M'):tZ CD C [.ptr dk,DI row] M Q EX:=by
 ext(⟨n1,n2,n3,n4,n5⟩:g.nes);ext(⟨e1,e2,e3,e4,n6⟩:g);show bn rfl ?_;grind;rw[show List.map (vw1 M) [D.ptr fa]=[DI fs]by simp[g8 e3]];lia;show au (λe=>absurd e (by erw[z9a];ext)) λ_=>?_
 lia;have hrl:=hr.1;show gt (λe=>absurd (by erw[z9a];ext) e) λ_=>?_
 lia;rw[show List.map (vw1 M) [D.ptr ra]=[DII ts]by simp[g8 e4]];lia;show au (λe=>absurd e (by erw[z9a];ext)) λ_=>?_
 lia;rw[z9a];show iQ (zN (n:=fs.length) ∅) ?_;rintro _ ⟨b,rfl,hb⟩;have hb':b=true:=hb.mpr hr;subst hb';lia;show⟨ra,_,rfl,e4,?_⟩;lia;show⟨_,e4,by rw[z9a];ext,?_⟩;lia;show h _ ⟨(aP n3).trans e1,(aP n5).trans e2,(aP n6).trans e3,?_,n6⟩ (Kp.upd (S:=S4 dk pl fa ra) (.inl (.inr (.inr (.inr rfl)))));rw[aE,z8e];rfl
def NI(g:Gath M CD dk pl fa ra nm fs ts u)(hr:gB fs.length row)(h1:1<=fs.length)(h6:fs.length<=6)(h8:ts.length<8)(h:∀M',Gath M' CD dk pl fa ra nm fs (ts++[row]) u->Kp (S4 dk pl fa ra) M M'->Q (.str "ok") M'):gA CD C [.ptr dk,.str "turn",.lst (aq (row.map aM))] M Q EX:=by
 have e1:=g.hd;have hrl:=hr.1;show bn rfl ?_;grind;show q0x ?_
 lia;show q1x ?_
 lia;show au (λ_=>?_) λe=>absurd (by erw[z9a];ext) e
 lia;show Am (λx hx=>by have:=hr.2.1 x hx;ext) ∅ ?_;lia;show NH g hr h1 h6 h8 λM1 g1 k1=>?_
 lia;show h M1 g1 k1
def NJ{of:Int}(g:Gath M CD dk pl fa ra nm fs ts u)(r1:0<=r)(r2:r<=10)(c1:0<=c)(c2:c<=of)(o1:1<=of)(o2:of<=1000)(d1:0<=d)(d2:d<=1000000)(h:∀M',Gath M' CD dk pl fa ra nm fs ts (.tup [.int r,.int c,.int of,.int d])->Kp (S4 dk pl fa ra) M M'->Q (.str "ok") M'):gA CD C [.ptr dk,.str "rule",.lst (aq ([r,c,of,d].map aM))] M Q EX:=by
 ext(⟨n1,n2,n3,n4,n5⟩:g.nes);have e1:=g.hd;show bn rfl ?_;grind;show q0x ?_
 lia;show q0x ?_
 lia;show q1x ?_
 lia;show q1x ?_
 lia;show Am (xs:=[r,c,of,d]) (λx hx=>by erw[z9g,z8m,z7u]at hx;ext) (by simp) ?_;lia;show bn rfl ?_;grind;show bO (zP r c of d) ?_;rw[show pB r c of d=true from z8p ⟨r1,r2,o1,o2,c1,c2,d1,d2⟩];lia;show⟨dk,_,rfl,e1,?_⟩;lia;show h _ ⟨aE,(aP (Ne.symm n1)).trans g.hp,(aP (Ne.symm n2)).trans g.hf,(aP (Ne.symm n3)).trans g.hr,g.ne⟩ (Kp.upd (.inl (.inl rfl)))
end
structure Opn (M:Sto) (CD C dk pl o:Nat) (nm:List z9) (off:D_):Prop where
 hd:∃f r u,M dk=some (.ins CD d_ [.ptr pl,f,r,u,.ptr o])
 hp:M pl=some (.dic (nm.map mkT) (iq (List.range nm.length)))
 ho:M o=some (.ins C c_ off)
section
variable {fs:h_}{ts:List h_}
def NK{of:Int}(s:Sale S fs ts r c of d)(g:Gath M CD dk pl fa ra nm fs ts (.tup [.int r,.int c,.int of,.int d]))(h:∀o M',M o=none->Opn M' CD C dk pl o nm (bb S fs ts r c of d 0 0 0 .non .non)->Kp (S4 dk pl fa ra) M M'->Q .non M'):u7 CD C [.ptr dk,.int (S:Nat)] M Q EX:=by
 ext(⟨n1,n2,n3,n4,n5⟩:g.nes);ext(⟨e1,e2,e3,e4,n6⟩:g);show bn rfl ?_;grind;show JU ?_;lia;intro o ho;have no:∀{x:Nat} {cc:Cell},M x=some cc->x≠o:=λ{x cc} hx e=>by rw[e,ho]at hx;ext hx
 show ND s aE ((aP (no e3)).trans e3) ((aP (no e4)).trans e4) λM1 m1 k1=>?_
 show⟨rfl,?_⟩;have f:∀x cc,M x=some cc->M1 x=some cc:=λx cc hx=>k1 x cc ((aP (no hx)).trans hx) (no hx)
 have e1':=f _ _ e1;lia;show⟨dk,_,rfl,e1',?_⟩;lia;have od:o≠dk:=Ne.symm (no e1);show h o _ ho ⟨⟨_,_,_,aE⟩,(aP (Ne.symm n1)).trans (f _ _ e2),(aP od).trans m1⟩ λx cc hx hn=>?_
 rw[aP λe=>hn (.inl e)];show f x cc hx
def NL{of:Int}(s:Sale S fs ts r c of d)(g:Gath M CD dk pl fa ra nm fs ts (.tup [.int r,.int c,.int of,.int d]))(h:∀o M',M o=none->Opn M' CD C dk pl o nm (bb S fs ts r c of d 0 0 0 .non .non)->Kp (S4 dk pl fa ra) M M'->Q (.str "ok") M'):gA CD C [.ptr dk,.str "open",.lst (aq [aM (S:Nat)])] M Q EX:=by
 have e1:=g.hd;have hS:=s.hS;show bn rfl ?_;grind;show q0x ?_
 lia;show q0x ?_
 lia;show q0x ?_
 lia;show q1x ?_
 lia;show q1x ?_
 lia;show ut ∅ ∅ ?_;lia;show NK s g λo M1 ho g1 k1=>?_
 lia;show h o M1 ho g1 k1
end
def An{b:Bool}:j3 [.bl b]=some (.str (if b=true then "yes" else "no")):=by ext b<;>rfl
theorem Ao:∀(nm:List z9) (j k:Nat) (hk:k<nm.length),nm.Nodup->iY (nm.map mkT) (iq (List.range' j nm.length)) (mkT nm[k])=some (.int ((j+k:Nat):Int))
 |a::r,j,0,_,_=>by change List.lookup (mkT a) ((mkT a,_)::_)=_;rw[z8z,z6y];rfl
 | a::r,j,k+1,hk,h=>by
   have h':=z8s.mp h;have hk':k<r.length:=⇑hk
   have ne:(mkT r[k]==mkT a)=false:=z7h.mpr λe=>by rw[ir,aw,aw]at e;show h'.1 (e▸z9w hk')
   have ih:=Ao r (j+1) k hk' h'.2;change List.lookup (mkT r[k]) ((mkT a,_)::List.zip (r.map mkT) (iq (List.range' (j+1) r.length)))=_;rw[z8z,ne];change iY _ _ _=_;rw[ih,show j+1+k=j+(k+1)by ext]
section
variable {of:Int}
def Opn.keep(g:Opn M CD C dk pl o nm off)(k:Kp (λ_=>False) M M'):Opn M' CD C dk pl o nm off:=by ext(⟨⟨f,r,u,h1⟩,h2,h3⟩:g);show⟨⟨f,r,u,k _ _ h1 id⟩,k _ _ h2 id,k _ _ h3 id⟩
def Opn.nes(g:Opn M CD C dk pl o nm off):dk≠o/\pl≠o/\dk≠pl:=by
 ext(⟨⟨f,r,u,h1⟩,h2,h3⟩:g);show⟨?_,?_,?_⟩
 ·rintro rfl;rw[h1]at h3;simp[d_,c_]at h3
 ·rintro rfl;rw[h2]at h3;ext h3
 ·rintro rfl;rw[h1]at h2;ext h2
def Opn.upd{off':D_}(g:Opn M CD C dk pl o nm off)(k:Kp (· = o) M M')(m:M' o=some (.ins C c_ off')):Opn M' CD C dk pl o nm off':=by ext(⟨n1,n2,_⟩:g.nes);ext(⟨⟨f,r,u,h1⟩,h2,h3⟩:g);show⟨⟨f,r,u,k _ _ h1 n1⟩,k _ _ h2 n2,m⟩
def Ap{k:Nat}(g:Opn M CD C dk pl o nm off)(hk:k<nm.length)(nd:nm.Nodup)(h:Q (.int (k:Nat)) M):jX CD C [.ptr dk,.str (mkT nm[k])] M Q EX:=by
 ext(⟨⟨f,r,u,h1⟩,h2,h3⟩:g);show bn rfl ?_;grind;show⟨pl,_,_,_,rfl,rfl,h2,?_⟩;lia;show gt (λe=>absurd (mem_mk.mpr (z9w hk)) e) λ_=>?_
 lia;show⟨pl,_,_,_,.int (k:Nat),rfl,rfl,h2,?_,?_⟩
 ·have:=Ao nm 0 k hk nd
  rwa [Nat.zero_add,<- List.range_eq_range']at this
 lia;show h
def NM{n:z9}(g:Opn M CD C dk pl o nm off)(hn:n∉nm)(gn:cu n)(h:EX "NoClass" M):jX CD C [.ptr dk,.str (mkT n)] M Q EX:=by
 ext(⟨⟨f,r,u,h1⟩,h2,h3⟩:g);show bn rfl ?_;grind;show⟨pl,_,_,_,rfl,rfl,h2,?_⟩;lia;show gt (λe=>?_) λe=>absurd (mem_mk.mp e) hn
 show sT (by decide) ?_ h;lia;show⟨_,rfl,asc_mk.mpr λc hc=>by have:=let_mem.mp (gn.2 c hc);ext,by rw[aw];have:=gn.1.2;ext⟩
def Aq{x:D}(hm:M o=some (.ins C c_ (bb S H_ I_ r c of d I_.length J5 J7 J8 J9)))(h:EX "Over" M):gz CD C [.ptr o,x] M Q EX:=by show bn rfl ?_;grind;show j8 hm ?_;rw[z8p rfl];lia;show eW (by decide) h
def uw{f r:D}(hv:a5 0 ρ=some (.ptr dk))(h1:M dk=some (.ins CD d_ [.ptr pl,f,r,u,.ptr o]))(h3:M o=some (.ins C c_ off))(h:xa ρ M (λds M2=>T (.ptr o::ds) M2 Q EX) EX):gx C c_ T (aQ CD d_ 4 (nP (a5 0))) xa ρ M Q EX:=
 ⟨.ptr dk,hv,dk,_,.ptr o,rfl,h1,rfl,o,_,rfl,h3,h⟩
def ux{ta:NTA}{f r:D}(hv:a5 0 ρ=some (.ptr dk))(h1:M dk=some (.ins CD d_ [.ptr pl,f,r,u,.ptr o]))(h3:M o=some (.ins C c_ off))(h:ta ρ M (λds M2=>T (.ptr o::ds) M2 Q EX)):dW C c_ T (aQ CD d_ 4 (nP (a5 0))) ta ρ M Q EX:=
 ⟨.ptr dk,hv,dk,_,.ptr o,rfl,h1,rfl,o,_,rfl,h3,h⟩
def pN{T:NTF}{ta:NTA}{f r:D}(hv:a5 0 ρ=some (.ptr dk))(h1:M dk=some (.ins CD d_ [.ptr pl,f,r,u,.ptr o]))(h3:M o=some (.ins C c_ off))(h:ta ρ M (λds M2=>T (.ptr o::ds) M2 Q)):cP C c_ T (aQ CD d_ 4 (nP (a5 0))) ta ρ M Q:=
 ⟨.ptr dk,hv,dk,_,.ptr o,rfl,h1,rfl,o,_,rfl,h3,h⟩
def NN{n:z9}(g:Opn M CD C dk pl o nm off)(h:jX CD C [.ptr dk,.str (mkT n)] M (λx M1=>gz CD C [.ptr o,x] M1 (λb M2=>WF j3 [b] λy=>Q y M2) EX) EX):j5 CD C [.ptr dk,.str "ask",.lst (aq [n])] M Q EX:=by
 ext(⟨⟨f,r,u,h1⟩,h2,h3⟩:g);show bn rfl ?_;grind;show q1x ?_
 lia;show q1x ?_
 lia;show uw rfl h1 h3 ?_;lia;show h
end
abbrev Bd(i:Int):Prop:=-(10 ^ 200)<=i/\i<=10 ^ 200
def lg(h:Bd i):i.natAbs.log2<1900:=by
 by_cases h0:i.natAbs=0
 ·rw[h0];decide
 show(Nat.log2_lt h0).mpr ?_;have h1:i.natAbs<=10 ^ 200:=by have:=h.1;have:=h.2;ext
 have h2:(10:Nat) ^ 200<=(2 ^ 4) ^ 200:=Nat.pow_le_pow_left ∅ _;have h3:((2:Nat) ^ 4) ^ 200=2 ^ 800:=by rw[<- Nat.pow_mul]
 have h4:(2:Nat) ^ 800<2 ^ 1900:=Nat.pow_lt_pow_right ∅ ∅;ext
def km(h:Bd i):(aM i).length<=202:=by
 have h1:i.natAbs<10 ^ 201:=by have:=h.1;have:=h.2;ext
 have h2:=uq 201 i.natAbs h1 ∅;unfold aM;split
 ·erw[z9c];ext
 ·rw[show i.toNat=i.natAbs by ext];ext
def kn:D->z9
 |.int i=>aM i
 |_=>[45]
def fH(x:D):Prop:=x=.non\/∃i,x=.int i/\Bd i
def NO:("-" : Str)=mkT [45]:=by decide +kernel
def Ar:(" of " : Str)=mkT [32,111,102,32]:=by decide +kernel
def NP{x:D}(h:fH x):tQ [x]=some (.str (mkT (kn x))):=by
 show cF (cG (bW rfl ?_));walk_at"env";ext((rfl|⟨i,rfl,hi⟩):h)
 ·lia
  rw[NO];rfl
 ·lia
  show fZ (lg hi) ?_;lia;rfl
def NQ{x:D}(h:fH x):(kn x).length<=202:=by
 ext((rfl|⟨i,rfl,hi⟩):h)
 ·simp[kn]
 ·show km hi
def As(l:D_):z9:=aZ [32] (l.map kn)
section
variable {of:Int}
def NR{w:Str}(g:Opn M CD C dk pl o nm off)(w1:w ≠ "ask")(w2:w ≠ "came")(h:ef CD C [.ptr dk,.str w] M Q EX):j5 CD C [.ptr dk,.str w,.lst (aq [])] M Q EX:=by
 ext(⟨⟨f,r,u,h1⟩,h2,h3⟩:g);show bn rfl ?_;grind;show au (λe=>absurd e w1) λ_=>?_
 lia;show au (λe=>absurd e w2) λ_=>?_
 lia;show q0x ?_
 lia;show h
def At(g:Opn M CD C dk pl o nm off)(h:gz CD C [.ptr o,.non] M (λb M2=>WF j3 [b] λy=>Q y M2) EX):ef CD C [.ptr dk,.str "quiet"] M Q EX:=by
 ext(⟨⟨f,r,u,h1⟩,h2,h3⟩:g);show bn rfl ?_;grind;show q1x ?_
 lia;show ux rfl h1 h3 ?_;lia;show h
def NU(g:Opn M CD C dk pl o nm (bb S H_ I_ r c of d J0 J5 J7 J8 J9))(hS:S<=10)(hs:J5<=S)(h:Q (.str (mkT (aM ((S-J5:Nat):Int)))) M):ef CD C [.ptr dk,.str "left"] M Q EX:=by
 ext(⟨⟨f,r,u,h1⟩,h2,h3⟩:g);show bn rfl ?_;grind;show q0x ?_
 lia;show q1x ?_
 lia;show pN rfl h1 h3 ?_;lia;show kg h3 hs ?_;lia;show fZ (lg ⟨by ext,by ext⟩) ?_;lia;show h
def NV(g:Opn M CD C dk pl o nm (bb S H_ I_ r c of d J0 J5 J7 J8 J9))(ht:J0<=8)(h:Q (.str (mkT (aM (J0:Int)))) M):ef CD C [.ptr dk,.str "turns"] M Q EX:=by
 ext(⟨⟨f,r,u,h1⟩,h2,h3⟩:g);show bn rfl ?_;grind;show q0x ?_
 lia;show q0x ?_
 lia;show q1x ?_
 lia;show pN rfl h1 h3 ?_;lia;show Nc h3 ?_;lia;show fZ (lg ⟨by ext,by ext⟩) ?_;lia;show h
def NY(g:Opn M CD C dk pl o nm (bb S H_ I_ r c of d J0 J5 J7 J8 J9))(hc:J8=.non/\x=J7\/∃y,J8=.int y/\x=J7-y)(hb:Bd x)(h:Q (.str (mkT (aM x))) M):ef CD C [.ptr dk,.str "coins"] M Q EX:=by
 ext(⟨⟨f,r,u,h1⟩,h2,h3⟩:g);show bn rfl ?_;grind;show q0x ?_
 lia;show q0x ?_
 lia;show q0x ?_
 lia;show q1x ?_
 lia;show pN rfl h1 h3 ?_;lia;rcases hc with⟨rfl,rfl⟩|⟨y,rfl,rfl⟩
 ·show Nl h3 ?_
  lia;show fZ (lg hb) ?_;lia;show h
 ·show A4 h3 ?_
  lia;show fZ (lg hb) ?_;lia;show h
def pO{l:List z9}(h:∀x∈l,x.length<=202):(l.map List.length).sum<=202*l.length:=by
 induction l with
 |nil=>simp
 | cons a r ih=>
   have:=ih λx hx=>h x (z9d _ hx)
   have:=h a z9b;erw[z9r,z7e,z9c];ext
def NZ{l:D_}(g:Opn M CD C dk pl o nm (bb S H_ I_ r c of d J0 J5 J7 J8 (.tup l)))(hl:l.length=4)(hk:∀x∈l,fH x)(h:Q (.str (mkT (As l))) M):ef CD C [.ptr dk,.str "why"] M Q EX:=by
 ext(⟨⟨f,r,u,h1⟩,h2,h3⟩:g);show bn rfl ?_;grind;show q0x ?_
 lia;show q0x ?_
 lia;show q0x ?_
 lia;show q0x ?_
 lia;show q1x ?_
 lia;show ux rfl h1 h3 ?_;lia;show Nk h3 ?_;show⟨l,rfl,by ext,?_⟩;rw[<- List.map_id l];show ic id l (λk ds M'=>ds=aq ((l.take k).map kn)/\M'=M) ⟨by simp[aq],rfl⟩ ?_ ?_
 ·rintro ds _ ⟨rfl,rfl⟩
  rw[List.take_length];have hs:=pO (l:=l.map kn) λx hx=>by ext(⟨y,hy,rfl⟩:z8i.mp hx);show NQ (hk y hy)
  rw[z9a,hl]at hs;show iW (s:=" ") (by rw[g9,aw,z9a,hl];erw[z9c,z9k];ext) ?_;rw[g9,aw];show h
 ·rintro k hk' ds _ ⟨rfl,rfl⟩ N hN
  grind;show bO (NP (hk _ (z9w hk'))) ?_;show hN _ _ ⟨?_,rfl⟩;rw[z7a hk',aq,aq,z8e,z8e];rfl
def O0(g:Opn M CD C dk pl o nm (bb S H_ I_ r c of d J0 J5 J7 J8 .non))(h:EX "Early" M):ef CD C [.ptr dk,.str "why"] M Q EX:=by
 ext(⟨⟨f,r,u,h1⟩,h2,h3⟩:g);show bn rfl ?_;grind;show q0x ?_
 lia;show q0x ?_
 lia;show q0x ?_
 lia;show q0x ?_
 lia;show q1x ?_
 lia;show ux rfl h1 h3 ?_;lia;show bn rfl ?_;grind;show eW (by decide) h
def O3{a b:Int}(g:Opn M CD C dk pl o nm off)(hw:∀Q':QE,Q' (.tup [.int a,.int b]) M->py CD C [.ptr o] M Q')(ha:Bd a)(hb:Bd b)(h:Q (.str (mkT (aM a++[32,111,102,32]++aM b))) M):ef CD C [.ptr dk,.str "worth"] M Q EX:=by
 ext(⟨⟨f,r,u,h1⟩,h2,h3⟩:g);show bn rfl ?_;grind;show q0x ?_
 lia;show q0x ?_
 lia;show q0x ?_
 lia;show q0x ?_
 lia;show q0x ?_
 lia;show q1x ?_
 lia;show pN rfl h1 h3 ?_;lia;show hw _ ?_;show⟨_,rfl,by simp,?_⟩;rw[show [D.int a,D.int b]=[a,b].map D.int from rfl];show ic D.int [a,b] (λk ds M'=>ds=aq (([a,b].take k).map aM)/\M'=M) ⟨by simp[aq],rfl⟩ ?_ ?_
 ·rintro ds _ ⟨rfl,rfl⟩
  have l1:=km ha;have l2:=km hb;show iW (s:=" of ") (by rw[Ar,aw];erw[List.take_succ_cons,List.take_nil,z9c,z9k,z9r,z6b,z7e,List.sum_nil];ext) ?_;rw[Ar,aw];show h
 ·rintro k hk' ds _ ⟨rfl,rfl⟩ N hN
  grind;show fZ (lg ?_) ?_
  ·have:[a,b][k]=a\/[a,b][k]=b:=by
    have:=z9w hk'
    rwa [z9g,z9l]at this
   ext((e|e):this)<;>rw[e]<;>assumption
  show hN _ _ ⟨?_,rfl⟩;rw[z7a hk',aq,aq,z8e,z8e];rfl
end
section
variable {of:Int}
def O4(s:Sale S H_ I_ r c of d)(hm:M o=some (.ins C c_ (bb S H_ I_ r c of d J0 J5 J7 J8 J9)))(h:Q (.tup [.int (((bf H_ I_ (of ^ S) (ends r c of d S)).getD 0 []).getD S 0),.int ((bp I_ (of ^ S)).getD 0 0)]) M):py CD C [.ptr o] M Q:=by show bV rfl ?_;grind;show nS ∅ (by rw[pG];ext) ?_;lia;show eB ∅ (by rw[show(0:Int).toNat=0 from rfl,ui _ _ _ _ _ ∅,pC];ext) ?_;lia;show eB ∅ (by rw[jZ];ext) ?_;lia;rw[show(0:Int).toNat=0 from rfl,z7c];show h
end
def O5{a b:Int}(hb:1<=b):-(a.natAbs:Int)-1<=a / b/\a / b<=a.natAbs:=by
 have h1:=Int.ediv_mul_le a (show b≠0 by ext);have h2:=Int.lt_ediv_add_one_mul_self a (show 0<b by ext);by_cases hq:0<=a / b
 ·have:=z7m hb hq
  constructor<;>ext
 ·have hq':a / b+1<=0:=by ext
  have:=Int.mul_le_mul_of_nonpos_left hq' hb;constructor<;>ext
theorem Au{B:Int}(hB:0<=B):∀(row ys:h_),(∀x∈row,0<=x)->(∀y∈ys,-B<=y/\y<=B)->-(row.sum*B)<=(List.zipWith (λa b=>a*b) row ys).sum/\(List.zipWith (λa b=>a*b) row ys).sum<=row.sum*B
 |[],_,_,_=>by simp
 |x::r,[],h,_=>by have h1:=lz h;have:=z7x h1 hB;erw[List.zipWith_nil_right,List.sum_nil];ext
 | x::r,y::ys,h,h'=>by
   have ih:=Au hB r ys (λz hz=>h z (z9d _ hz)) λz hz=>h' z (z9d _ hz)
   have hx:=h x z9b;have hy:=h' y z9b;have a1:=z7m hy.2 hx;have a2:=z7m hy.1 hx;rw[List.zipWith_cons_cons,z7e,z7e,Int.add_mul];rw[Int.mul_neg]at a2;ext
def O6{A:Int}{bs:h_}(hr:∀x∈row,0<=x)(hs:0<=row.sum/\row.sum<=7000)(hf:∀x∈H_,1<=x/\x<=1000000)(hsc:1<=scale/\scale<=10 ^ 88)(hA:10 ^ 95<=A)(hb:∀x∈bs,-A<=x/\x<=A):∀x∈ip H_ row scale bs,-(20000*A)<=x/\x<=20000*A:=by
 intro x hx;ext(⟨s,hs',rfl⟩:z8i.mp hx);have hs':=z7q.mp hs';have hg:∀i,-A<=bs.getD i 0/\bs.getD i 0<=A:=λi=>by
  by_cases hi:i<bs.length
  ·rw[gu _ _ _ hi];show hb _ (z9w _)
  ·rw[z8y,z4n ∅];simp;ext
 have hc:∀y∈(H_.map λf=>j7 f scale bs s)++[bs.getD s 0],-(A+10 ^ 95)<=y/\y<=A+10 ^ 95:=λy hy=>by
  ext((hy|hy):z8b.mp hy)
  ·ext(⟨f,hf',rfl⟩:z8i.mp hy)
   have h1:=hf f hf';have h2:f*scale<=1000000*10 ^ 88:=z7t h1.2 hsc.2 ∅ ∅;have h3:0<=f*scale:=z7x ∅ ∅;have g0:=hg 0;have g1:=hg s;have g2:=hg (s-1);erw[j7];split<;>ext
  ·rw[z9l.mp hy]
   have:=hg s;ext
 have z:=Au (B:=A+10 ^ 95) ∅ row _ hr hc;have m:row.sum*(A+10 ^ 95)<=7000*(A+10 ^ 95):=Int.mul_le_mul_of_nonneg_right hs.2 ∅;have e:pE H_ row scale bs s=(List.zipWith (λa b=>a*b) row ((H_.map λf=>j7 f scale bs s)++[bs.getD s 0])).sum:=rfl;rw[<- e]at z;constructor<;>ext
theorem Aw{H_:h_}{last:Int}{es:h_}(hf:∀x∈H_,1<=x/\x<=1000000)(hfl:H_.length<=6)(hl:1<=last/\last<=10 ^ 40)(he:∀x∈es,-(10 ^ 95)<=x/\x<=10 ^ 95):∀{ts:List h_},RowsOk H_.length ts->ts.length<=8->∀x∈(bf H_ ts last es).headD [],-(10 ^ 95*20000 ^ ts.length)<=x/\x<=10 ^ 95*20000 ^ ts.length
 |[],_,_,x,hx=>by have:=he x (by simpa [bf]using hx);simpa using this
 | r::rs,h,h8,x,hx=>by
   have hrs:RowsOk H_.length rs:=λq hq=>h q (z9d _ hq)
   have ih:=Aw hf hfl hl he hrs (by simp at h8;ext);have hr:=h r z9b;have hsum:0<=r.sum/\r.sum<=7000:=by
    have h4:=rS (b:=1000) λx hx=>(hr.2.1 x hx).2
    show⟨by ext,by ext⟩
   have hsc:=A2 ∅ hl.1 hl.2 hrs (by simp at h8;ext);have hp:(1:Int)<=20000 ^ rs.length:=by
    have:∀n:Nat,(1:Int)<=20000 ^ n:=λn=>by
     induction n with
     |zero=>simp
     |succ n ih=>rw[z6d];ext
    show this _
   have hA:(10 ^ 95:Int)<=10 ^ 95*20000 ^ rs.length:=by ext
   have:=O6 (λx hx=>(hr.2.1 x hx).1) hsum hf hsc hA ih x (by simpa [bf]using hx);rw[z9c,z6d];constructor<;>ext
def O7{o:Int}(hS:S<=10)(hr:0<=r/\r<=1000)(hc:0<=c/\c<=o)(ho:o<=1000)(h1:1<=o)(hd:0<=d/\d<=1000000):∀x∈ends r c o d S,-(10 ^ 95)<=x/\x<=10 ^ 95:=by
 intro x hx;ext(⟨l,hl,rfl⟩:z8i.mp hx);have hl:=z7q.mp hl;have hn:S-l<=10:=by ext
 generalize S-l=n at hn;have a1:=zV (r:=r) hc.1 (show 0<=o-c by ext) n;have a2:=zW hr.1 hc.1 (show 0<=o-c by ext) n;rw[show c+(o-c)=o by ext]at a2;have a3:o ^ n<=1000 ^ 10:=hU 10 ∅ ho ∅ hn;have a4:(n:Int)*o ^ n<=10*1000 ^ 10:=z7t ∅ a3 (lB ∅ n) ∅;have b1:=z7x hd.1 a1;have b2:d*eX r c (o-c) n<=1000000*(10*1000 ^ 10):=z7t hd.2 ∅ a1 ∅;have c1:=lB (show 0<=o by ext) l;have c2:o ^ l<=1000 ^ 10:=hU 10 ∅ ho ∅ ∅;have e:m8 r c o d n l = -(d*eX r c (o-c) n*o ^ l):=by rw[m8,Int.neg_mul,Int.neg_mul]
 have m1:d*eX r c (o-c) n*o ^ l<=1000000*(10*1000 ^ 10)*1000 ^ 10:=z7t b2 c2 c1 ∅;have m2:=z7x b1 c1;rw[e];constructor<;>ext
def uy{of:Int}(s:Sale S H_ I_ r c of d){t i:Nat}(ht:t<=I_.length):-(10 ^ 130)<=((bf H_ I_ (of ^ S) (ends r c of d S)).getD t []).getD i 0/\((bf H_ I_ (of ^ S) (ends r c of d S)).getD t []).getD i 0<=10 ^ 130:=by
 rw[uh _ _ _ _ _ ht];have t1:=s.t1;have p0:(1:Int)<=of ^ S:=by
  have:∀n:Nat,(1:Int)<=of ^ n:=λn=>by
   induction n with
   |zero=>simp
   |succ n ih=>rw[z6d];have:=z7t ih s.o1 ∅ ∅;ext
  show this S
 have p1:of ^ S<=1000 ^ 10:=hU 10 (by have:=s.o1;ext) s.o2 ∅ s.hS;have hb:=Aw (es:=ends r c of d S) (last:=of ^ S) s.f3 s.f2 ⟨p0,by ext⟩ (O7 s.hS ⟨s.r1,by have:=s.r2;ext⟩ ⟨s.c1,s.c2⟩ s.o2 s.o1 ⟨s.d1,s.d2⟩) (s.t2.drop (k:=t)) (by rw[z7l];ext);have hp:(20000:Int) ^ (I_.drop t).length<=20000 ^ 8:=hU 8 ∅ ∅ ∅ (by rw[z7l];ext);generalize (bf H_ (I_.drop t) (of ^ S) (ends r c of d S)).headD []=L at hb ⊢;by_cases hi:i<L.length
 ·have:=hb _ (z9w hi)
  rw[gu _ _ _ hi];constructor<;>ext
 ·rw[z8y,z4n ∅]
  simp
section
variable {of:Int}
def O8{th:D}(hm:M o=some (.ins C c_ (bb S H_ I_ r c of d J0 J5 J7 J8 J9)))(ht:J0<I_.length)(h:EX "Early" M):il CD C [.ptr o,th] M Q EX:=by show bn rfl ?_;grind;show j8 hm ?_;rw[z8u ∅];lia;show⟨by decide,h⟩
def O9{th:D}(hm:M o=some (.ins C c_ (bb S H_ I_ r c of d I_.length J5 J7 (.int due) J9)))(h:EX "Done" M):il CD C [.ptr o,th] M Q EX:=by show bn rfl ?_;grind;show j8 hm ?_;rw[z8p rfl];lia;show⟨by decide,h⟩
def Oa{v:Int}(hm:M o=some (.ins C c_ (bb S H_ I_ r c of d I_.length J5 J7 .non J9)))(hv:v<0\/(J5:Int)<v)(h:EX "TooMany" M):il CD C [.ptr o,.int v] M Q EX:=by show bn rfl ?_;grind;show j8 hm ?_;rw[z8p rfl];lia;rw[z8u (show ¬((0:Int)<=v/\v<=(J5:Nat))by ext)];lia;show⟨by decide,h⟩
end
noncomputable def uz(x:Str):D_:=[.bl (decide (x="NoRow")),.bl true,.bl (decide (x="NoClass")),.bl (decide (x="Over")),.bl (decide (x="Early")),.bl (decide (x="Done")),.bl (decide (x="TooMany")),.bl (decide (x="Twice")),.bl (decide (x="NoTurn")),.bl (decide (x="Full")),.bl (decide (x="NoSale"))]
inductive Res where
 |ans (y:Str) (off:D_)
 |ref (x:Str)
def Ax:Res->D
 |.ans y _=>.str y
 |.ref x=>.lst (uz x)
def After(C o:Nat):Res->Sto->Sto->Prop
 |.ans _ off,M,M1=>Kp (· = o) M M1/\M1 o=some (.ins C c_ off)
 |.ref _,M,M1=>Kp (λ_=>False) M M1
def Ay(C o:Nat)(M:Sto)(T:QE->QX->Prop):Res->Prop
 |.ans y off=>∀Q EX,(∀M1,Kp (· = o) M M1->M1 o=some (.ins C c_ off)->Q (.str y) M1)->T Q EX
 |.ref x=>x∈XS/\∀Q EX,(∀M1,Kp (λ_=>False) M M1->EX x M1)->T Q EX
section
variable {x:Str}{r:Res}{P:Sto->Prop}
def pP(hdk:M dk=some (.ins CD d_ ds0))(hs:Ay C o M (cC CD C [.ptr dk,.str z] M) r)(h:∀M1,After C o r M M1->Q (Ax r) M1):io CD C [.ptr dk,.str z] M Q:=by
 show bV rfl ?_;grind;cases r with
 | ans y off=>
   show hs _ _ λM1 k1 m1=>?_
   lia;show h M1 ⟨k1,m1⟩
 | ref x=>
   have hx:=hs.1;show hs.2 _ _ λM1 k1 a ha=>?_
   grind;show h _ (k1.trans (Kp.upd (.inr ha)) λ_ z _=>z)
def Az(hdk:M dk=some (.ins CD d_ ds0))(hs:∀Q EX,(∀M1,P M1->Q (.str "ok") M1)->cC CD C [.ptr dk,.str z] M Q EX)(h:∀M1,P M1->Q (.str "ok") M1):io CD C [.ptr dk,.str z] M Q:=by
 show bV rfl ?_;grind;show hs _ _ λM1 k1=>?_
 lia;show h M1 k1
end
def mf:("ask" : Str)=mkT [97,115,107]:=by decide +kernel
def ko:("came" : Str)=mkT [99,97,109,101]:=by decide +kernel
def mh{n:z9}(g:cu n):32∉n:=λe=>by have:=let_mem.mp (g.2 _ e);ext
def Ob(g:Opn M CD C dk pl o nm off)(hn:num<10000000)(h:il CD C [.ptr o,.int (num:Nat)] M (λx M1=>W1 cr x λy=>Q y M1) EX):j5 CD C [.ptr dk,.str "came",.lst (aq [aM (num:Nat)])] M Q EX:=by
 ext(⟨⟨f,r,u,h1⟩,h2,h3⟩:g);show bn rfl ?_;grind;show q0x ?_
 lia;show q1x ?_
 lia;show q1x ?_
 lia;show uw rfl h1 h3 ?_;lia;show ut ∅ ∅ ?_;lia;show h
def uA{n:z9}(g:Opn M CD C dk pl o nm off)(nb:32∉n)(n0:n≠[])(nl:n.length<=1000)(h:∀M1,Kp (λ_=>False) M M1->jX CD C [.ptr dk,.str (mkT n)] M1 (λx M1=>gz CD C [.ptr o,x] M1 (λb M2=>WF j3 [b] λy=>Q y M2) EX) EX):cC CD C [.ptr dk,.str (mkT ([97,115,107]++[32]++n))] M Q EX:=by
 have g0:=g;ext(⟨⟨f,r,u,e1⟩,e2,e3⟩:g);show pL (hd:=[97,115,107]) (rest:=[n]) (by rw[aw,z9f];erw[z9f,z9c,z9k];ext) (by rw[aw,pH 32 _ _ (by decide),md 32 n nb]) (λe=>?_) e1 λM1 k1=>?_
 ·ext((e|e):z9g.mp e)
  ·ext e
  ·show n0 (z9l.mp e).symm
 ·rw[<- mf]
  show NN (g0.keep k1) (h M1 k1)
def kq{w:Str}{wl:z9}(g:Opn M CD C dk pl o nm off)(ew:w=mkT wl)(hl:wl.length<=100)(hn:wl≠[])(hb:32∉wl)(w1:w ≠ "ask")(w2:w ≠ "came")(h:∀M1,Kp (λ_=>False) M M1->ef CD C [.ptr dk,.str w] M1 Q EX):cC CD C [.ptr dk,.str w] M Q EX:=by
 have g0:=g;ext(⟨⟨f,r,u,e1⟩,e2,e3⟩:g);show pL (hd:=wl) (rest:=[]) (by rw[ew,aw];ext) (by rw[ew,aw,md 32 _ hb]) (λe=>hn (z9l.mp e).symm) e1 λM1 k1=>?_
 rw[<- ew];show NR (g0.keep k1) w1 w2 (h M1 k1)
def pQ(g:Opn M CD C dk pl o nm off)(hn:num<10000000)(h:∀M1,Kp (λ_=>False) M M1->il CD C [.ptr o,.int (num:Nat)] M1 (λx M2=>W1 cr x λy=>Q y M2) EX):cC CD C [.ptr dk,.str (mkT ([99,97,109,101]++[32]++aM (num:Nat)))] M Q EX:=by
 have g0:=g;ext(⟨⟨f,r,u,e1⟩,e2,e3⟩:g);ext(⟨gn,_,nb,_⟩:kl (x:=(num:Nat)) ∅ ∅);show pL (hd:=[99,97,109,101]) (rest:=[aM (num:Nat)]) (by rw[aw,z9f];have:=gn.1.1.2;erw[z9f,z9c,z9k];ext) (by rw[aw,pH 32 _ _ (by decide),md 32 _ nb]) (λe=>?_) e1 λM1 k1=>?_
 ·ext((e|e):z9g.mp e)
  ·ext e
  ·have:=z9l.mp e
   have h1:=gn.1.1.1;rw[<- this]at h1;simp at h1
 ·rw[<- ko]
  show Ob (g0.keep k1) hn (h M1 k1)
def cw(S:Nat)(fs:h_)(ts:List h_)(r c of d:Int)(off:D_):Prop:=∃J0 J5 J7 J8 J9,off=bb S fs ts r c of d J0 J5 J7 J8 J9/\J0<=ts.length/\J5<=S/\0<=J7/\J7<=(J0:Nat)*1000000/\(J8=.non\/J0=ts.length/\∃y,J8=.int y/\0<=y/\y<=100000000)/\(J9=.non\/∃l,J9=.tup l/\l.length=4/\∀x∈l,fH x)
def AB{fs:h_}{ts:List h_}{of:Int}(s:Sale S fs ts r c of d)(ht:J0<ts.length):fH (gE S J5 J0 fs ts r c of d):=by
 unfold gE;split
 ·show .inl rfl
 ·show .inr ⟨_,rfl,?_⟩
  have h1:=uy s (t:=J0+1) (i:=S-J5-1) ∅;have h2:=uy s (t:=J0+1) (i:=S-J5) ∅;have h3:=uj s (t:=J0+1) ∅;have h4:=O5 (a:=((bf fs ts (of ^ S) (ends r c of d S)).getD (J0+1) []).getD (S-J5-1) 0-((bf fs ts (of ^ S) (ends r c of d S)).getD (J0+1) []).getD (S-J5) 0) h3.1;constructor<;>ext
def pR(h:n<=100):fH (.int (n:Nat)):=.inr ⟨_,rfl,by constructor<;>ext⟩
def AC{a b e f:D}(ha:fH a)(hb:fH b)(he:fH e)(hf:fH f):∀x∈[a,b,e,f],fH x:=λx hx=>by
 erw[z9g,z8m,z7u]at hx;ext((rfl|rfl|rfl|rfl):hx)
 ·show ha
 ·show hb
 ·show he
 ·show hf
def eY(CD C:Nat)(nm:List z9)(off:D_)(z:Str)(P:D_->Prop):Prop:=
 ∃r,(∀M dk pl o,Opn M CD C dk pl o nm off->Ay C o M (cC CD C [.ptr dk,.str z] M) r)/\∀y off',r=.ans y off'->P off'
def mj{M1:Sto}(k:Kp (λ_=>False) M M1):Kp (· = a) M M1:=λb c h _=>k b c h id
def Oc{fs:h_}{ts:List h_}{of:Int}(s:Sale S fs ts r c of d)(ht:J0<=ts.length)(p0:0<=J7)(p1:J7<=(J0:Nat)*1000000)(du:J8=.non\/J0=ts.length/\∃y,J8=.int y/\0<=y/\y<=100000000):∃x,(J8=.non/\x=J7\/∃y,J8=.int y/\x=J7-y)/\Bd x:=by
 have t1:=s.t1;ext((rfl|⟨_,y,rfl,y0,y1⟩):du)
 ·show⟨_,.inl ⟨rfl,rfl⟩,by ext,by ext⟩
 ·show⟨_,.inr ⟨y,rfl,rfl⟩,by ext,by ext⟩
section
variable {fs:h_}{ts:List h_}{of:Int}
def Od{k:Nat}(s:Sale S fs ts r c of d)(ok:cw S fs ts r c of d off)(hl:nm.length=fs.length)(hk:k<nm.length)(nd:nm.Nodup)(gn:cu nm[k]):
  eY CD C nm off (mkT ([97,115,107]++[32]++nm[k])) (cw S fs ts r c of d):=by
 ext(⟨J0,J5,J7,J8,J9,rfl,ht,hs,p0,p1,du,la⟩:ok);have n0:nm[k]≠[]:=λe=>by have h1:=gn.1.1;rw[e]at h1;simp at h1
 have nl:(nm[k]).length<=1000:=by have:=gn.1.2;ext
 by_cases hv:J0=ts.length
 ·subst hv
  show⟨.ref "Over",λM dk pl o g=>⟨by decide,λQ EX hx=>?_⟩,λy off' e=>nomatch e⟩;show uA g (mh gn) n0 nl λM1 k1=>?_
  show Ap (g.keep k1) hk nd (Aq (g.keep k1).ho (hx M1 k1))
 ·obtain⟨b,hb⟩:∃b,kf (fs.getD k 0) ((bp ts (of ^ S)).getD (J0+1) 0) ((bf fs ts (of ^ S) (ends r c of d S)).getD (J0+1) []) (S-J5)=b:=⟨_,rfl⟩
  show⟨.ans (if b=true then "yes" else "no") (bb S fs ts r c of d (J0+1) (J5+(if b=true then 1 else 0)) (J7+(if b=true then fs.getD k 0 else 0)) J8 (.tup [.int (J0:Nat),.int ((S-J5:Nat):Int),gE S J5 J0 fs ts r c of d,.int (fs.getD k 0)])),λM dk pl o g Q EX hq=>?_,λy off' e=>?_⟩
  ·show uA g (mh gn) n0 nl λM1 k1=>?_
   show Ap (g.keep k1) hk nd (Nj s (g.keep k1).ho hs ∅ ∅ hb λM2 m2 k2=>?_);show bO An (hq M2 (λb cc hb hn=>k2 b cc (k1 b cc hb id) hn) m2)
  ·ext e
   have hS:=s.hS;have t1:=s.t1;have hfk:1<=fs.getD k 0/\fs.getD k 0<=1000000:=by rw[z8y,z9p (show k<fs.length by ext)];show s.f3 _ (z9w _)
   show⟨_,_,_,J8,_,rfl,by ext,?_,?_,?_,?_,.inr ⟨_,rfl,rfl,AC (pR ∅) (pR ∅) (AB s ∅) (.inr ⟨_,rfl,by constructor<;>ext⟩)⟩⟩
   ·ext b
    ·show hs
    ·have:0<S-J5:=by have:=hb;unfold kf at this;show(z6l this).1
     change J5+1<=S;ext
   ·ext b
    ·change 0<=J7+0;ext
    ·change 0<=J7+fs.getD k 0;ext
   ·ext b
    ·change J7+0<=((J0+1:Nat):Int)*1000000;ext
    ·change J7+fs.getD k 0<=((J0+1:Nat):Int)*1000000;ext
   ·ext((du|⟨q,_⟩):du)
    ·show .inl du
    ·show absurd q hv
def Oe{n:z9}(hn:n∉nm)(gn:cu n):eY CD C nm off (mkT ([97,115,107]++[32]++n)) (cw S fs ts r c of d):=by
 show⟨.ref "NoClass",λM dk pl o g=>⟨by decide,λQ EX hx=>?_⟩,λy off' e=>nomatch e⟩;show uA g (mh gn) (λe=>by have h1:=gn.1.1;rw[e]at h1;simp at h1) (by have:=gn.1.2;ext) λM1 k1=>?_
 show NM (g.keep k1) hn gn (hx M1 k1)
def AD(s:Sale S fs ts r c of d)(ok:cw S fs ts r c of d off):eY CD C nm off "quiet" (cw S fs ts r c of d):=by
 ext(⟨J0,J5,J7,J8,J9,rfl,ht,hs,p0,p1,du,la⟩:ok);have sy:∀{M dk pl o off} {Q:QE} {EX:QX},Opn M CD C dk pl o nm off->(∀M1,Kp (λ_=>False) M M1->ef CD C [.ptr dk,.str "quiet"] M1 Q EX)->cC CD C [.ptr dk,.str "quiet"] M Q EX:=λg h=>kq g (wl:=[113,117,105,101,116]) (by decide +kernel) (by decide) (by decide) (by decide) (by decide) (by decide) h
 by_cases hv:J0=ts.length
 ·subst hv
  show⟨.ref "Over",λM dk pl o g=>⟨by decide,λQ EX hx=>?_⟩,λy off' e=>nomatch e⟩;show sy g λM1 k1=>At (g.keep k1) (Aq (g.keep k1).ho (hx M1 k1))
 ·show⟨.ans "no" (bb S fs ts r c of d (J0+1) J5 J7 J8 (.tup [.int (J0:Nat),.int ((S-J5:Nat):Int),gE S J5 J0 fs ts r c of d,.non])),λM dk pl o g Q EX hq=>?_,λy off' e=>?_⟩
  ·show sy g λM1 k1=>At (g.keep k1) (Ni s (g.keep k1).ho hs ∅ λM2 m2 k2=>?_)
   show bO An (hq M2 (λb cc hb hn=>k2 b cc (k1 b cc hb id) hn) m2)
  ·ext e
   have hS:=s.hS;have t1:=s.t1;show⟨_,_,_,J8,_,rfl,by ext,hs,p0,by ext,?_,.inr ⟨_,rfl,rfl,AC (pR ∅) (pR ∅) (AB s ∅) (.inl rfl)⟩⟩;ext((du|⟨q,_⟩):du)
   ·show .inl du
   ·show absurd q hv
def AE(s:Sale S fs ts r c of d)(ok:cw S fs ts r c of d off)(hn:num<10000000):eY CD C nm off (mkT ([99,97,109,101]++[32]++aM (num:Nat))) (cw S fs ts r c of d):=by
 ext(⟨J0,J5,J7,J8,J9,rfl,ht,hs,p0,p1,du,la⟩:ok);have hS:=s.hS;have t1:=s.t1;by_cases hv:J0<ts.length
 ·show⟨.ref "Early",λM dk pl o g=>⟨by decide,λQ EX hx=>?_⟩,λy off' e=>nomatch e⟩
  show pQ g hn λM1 k1=>O8 (g.keep k1).ho hv (hx M1 k1)
 ·obtain rfl:J0=ts.length:=by ext
  ext((rfl|⟨_,y,rfl,y0,y1⟩):du)
  ·by_cases hm:J5<num
   ·show⟨.ref "TooMany",λM dk pl o g=>⟨by decide,λQ EX hx=>?_⟩,λy off' e=>nomatch e⟩
    show pQ g hn λM1 k1=>Oa (g.keep k1).ho ∅ (hx M1 k1)
   ·have d1:=s.d1
    have d2:=s.d2;have hmx:0<=max ((num:Int)-r) 0/\max ((num:Int)-r) 0<=100:=by have:=s.r1;ext
    have hy:0<=d*max ((num:Int)-r) 0/\d*max ((num:Int)-r) 0<=100000000:=⟨z7x d1 hmx.1,Int.le_trans (z7t d2 hmx.2 hmx.1 (by decide)) (by decide)⟩;have bd:Bd (J7-d*max ((num:Int)-r) 0):=⟨by ext,by ext⟩;show⟨.ans (mkT (aM (J7-d*max ((num:Int)-r) 0))) (bb S fs ts r c of d ts.length J5 J7 (.int (d*max ((num:Int)-r) 0)) J9),λM dk pl o g Q EX hq=>?_,λy off' e=>?_⟩
    ·show pQ g hn λM1 k1=>Nm s (g.keep k1).ho ∅ λM2 m2 k2=>?_
     show Mz (lg bd) (hq M2 (λb cc hb hn=>k2 b cc (k1 b cc hb id) hn) m2)
    ·ext e
     show⟨_,_,_,_,_,rfl,ht,hs,p0,p1,.inr ⟨rfl,_,rfl,hy.1,hy.2⟩,la⟩
  ·show⟨.ref "Done",λM dk pl o g=>⟨by decide,λQ EX hx=>?_⟩,λy off' e=>nomatch e⟩
   show pQ g hn λM1 k1=>O9 (g.keep k1).ho (hx M1 k1)
def AG(s:Sale S fs ts r c of d)(ok:cw S fs ts r c of d off):eY CD C nm off "left" (cw S fs ts r c of d):=by have ok0:=ok;ext(⟨J0,J5,J7,J8,J9,rfl,ht,hs,p0,p1,du,la⟩:ok);have hS:=s.hS;show⟨.ans (mkT (aM ((S-J5:Nat):Int))) (bb S fs ts r c of d J0 J5 J7 J8 J9),λM dk pl o g Q EX hq=>?_,λy off' e=>by ext e;show ok0⟩;show kq g (wl:=[108,101,102,116]) (by decide +kernel) (by decide) (by decide) (by decide) (by decide) (by decide) λM1 k1=>NU (g.keep k1) hS hs (hq M1 (mj k1) (g.keep k1).ho)
def AH(s:Sale S fs ts r c of d)(ok:cw S fs ts r c of d off):eY CD C nm off "turns" (cw S fs ts r c of d):=by have ok0:=ok;ext(⟨J0,J5,J7,J8,J9,rfl,ht,hs,p0,p1,du,la⟩:ok);have t1:=s.t1;show⟨.ans (mkT (aM (J0:Int))) (bb S fs ts r c of d J0 J5 J7 J8 J9),λM dk pl o g Q EX hq=>?_,λy off' e=>by ext e;show ok0⟩;show kq g (wl:=[116,117,114,110,115]) (by decide +kernel) (by decide) (by decide) (by decide) (by decide) (by decide) λM1 k1=>NV (g.keep k1) ∅ (hq M1 (mj k1) (g.keep k1).ho)
def uB(s:Sale S fs ts r c of d)(ok:cw S fs ts r c of d off):eY CD C nm off "coins" (cw S fs ts r c of d):=by have ok0:=ok;ext(⟨J0,J5,J7,J8,J9,rfl,ht,hs,p0,p1,du,la⟩:ok);ext(⟨x,hx,bd⟩:Oc s ht p0 p1 du);show⟨.ans (mkT (aM x)) (bb S fs ts r c of d J0 J5 J7 J8 J9),λM dk pl o g Q EX hq=>?_,λy off' e=>by ext e;show ok0⟩;show kq g (wl:=[99,111,105,110,115]) (by decide +kernel) (by decide) (by decide) (by decide) (by decide) (by decide) λM1 k1=>NY (g.keep k1) hx bd (hq M1 (mj k1) (g.keep k1).ho)
def uC(ok:cw S fs ts r c of d off):eY CD C nm off "why" (cw S fs ts r c of d):=by
 have ok0:=ok;ext(⟨J0,J5,J7,J8,J9,rfl,ht,hs,p0,p1,du,la⟩:ok);have sy:∀{M dk pl o off} {Q:QE} {EX:QX},Opn M CD C dk pl o nm off->(∀M1,Kp (λ_=>False) M M1->ef CD C [.ptr dk,.str "why"] M1 Q EX)->cC CD C [.ptr dk,.str "why"] M Q EX:=λg h=>kq g (wl:=[119,104,121]) (by decide +kernel) (by decide) (by decide) (by decide) (by decide) (by decide) h
 ext((rfl|⟨l,rfl,hl,hk⟩):la)
 ·show⟨.ref "Early",λM dk pl o g=>⟨by decide,λQ EX hx=>?_⟩,λy off' e=>nomatch e⟩
  show sy g λM1 k1=>O0 (g.keep k1) (hx M1 k1)
 ·show⟨.ans (mkT (As l)) (bb S fs ts r c of d J0 J5 J7 J8 (.tup l)),λM dk pl o g Q EX hq=>?_,λy off' e=>by ext e;show ok0⟩
  show sy g λM1 k1=>NZ (g.keep k1) hl hk (hq M1 (mj k1) (g.keep k1).ho)
def AI(s:Sale S fs ts r c of d)(ok:cw S fs ts r c of d off):eY CD C nm off "worth" (cw S fs ts r c of d):=by have ok0:=ok;ext(⟨J0,J5,J7,J8,J9,rfl,ht,hs,p0,p1,du,la⟩:ok);have h1:=uy s (t:=0) (i:=S) ∅;have h2:=uj s (t:=0) ∅;show⟨.ans (mkT (aM (((bf fs ts (of ^ S) (ends r c of d S)).getD 0 []).getD S 0)++[32,111,102,32]++aM ((bp ts (of ^ S)).getD 0 0))) (bb S fs ts r c of d J0 J5 J7 J8 J9),λM dk pl o g Q EX hq=>?_,λy off' e=>by ext e;show ok0⟩;show kq g (wl:=[119,111,114,116,104]) (by decide +kernel) (by decide) (by decide) (by decide) (by decide) (by decide) λM1 k1=>O3 (g.keep k1) (λQ' h=>O4 s (g.keep k1).ho h) ⟨by ext,by ext⟩ ⟨by ext,by ext⟩ (hq M1 (mj k1) (g.keep k1).ho)
end
noncomputable def dO:z9:=[99,108,97,115,115]
noncomputable def eZ:z9:=[116,117,114,110]
noncomputable def f8:z9:=[114,117,108,101]
noncomputable def fI:z9:=[111,112,101,110]
def mm:("class" : Str)=mkT dO:=by decide +kernel
def kr:("turn" : Str)=mkT eZ:=by decide +kernel
def mo:("rule" : Str)=mkT f8:=by decide +kernel
def mq:("open" : Str)=mkT fI:=by decide +kernel
def ja(n:z9)(f:Int):z9:=aZ [32] [dO,n,aM f]
def pS(row:h_):z9:=aZ [32] (eZ::row.map aM)
def AJ(r c of d:Int):z9:=aZ [32] (f8::[r,c,of,d].map aM)
def uD(S:Nat):z9:=aZ [32] [fI,aM (S:Nat)]
section
variable {fs:h_}{ts:List h_}
def pT{rest:List z9}{f r:D}(hw:∀w∈hd::rest,32∉w/\1<=w.length/\w.length<=8)(hl:rest.length<=20)(hm:M dk=some (.ins CD d_ [p,f,r,u,.non]))(h:∀M1,Kp (λ_=>False) M M1->gA CD C [.ptr dk,.str (mkT hd),.lst (aq rest)] M1 Q EX):cC CD C [.ptr dk,.str (mkT (aZ [32] (hd::rest)))] M Q EX:=by
 show Ai ?_ (by rw[aw];show uo 32 _ (by simp) λw hm=>(hw w hm).1) (λe=>?_) hm h
 ·have h1:=ma 32 (hd::rest) (by simp)
  have h2:=pO (l:=hd::rest) λx hx=>by have:=(hw x hx).2.2;ext
  rw[aw];erw[z9c]at h1 h2;ext
 ·have:=(hw _ e).2.1
  simp at this
def pU(h0:0<=x)(h1:x<10000000):32∉aM x/\1<=(aM x).length/\(aM x).length<=8:=by ext(⟨g,_,nb,_⟩:kl h0 h1);have:=g.1.1;show⟨nb,by ext,by ext⟩
def Of{n:z9}(g:Gath M CD dk pl fa ra nm fs [] u)(hn:n∉nm)(hg:cu n)(h0:1<=f)(h1:f<=1000000)(hl:nm.length=fs.length)(h6:fs.length<6)(h:∀M',Gath M' CD dk pl fa ra (nm++[n]) (fs++[f]) [] u->Kp (S4 dk pl fa ra) M M'->Q (.str "ok") M'):cC CD C [.ptr dk,.str (mkT (ja n f))] M Q EX:=by
 show pT (λw hw=>?_) (by simp) g.hd λM1 k1=>?_
 ·erw[z9g,z8m,z7u]at hw
  ext((rfl|rfl|rfl):hw)
  ·decide
  ·show⟨mh hg,hg.1.1,hg.1.2⟩
  ·show pU ∅ ∅
 ·rw[<- mm]
  show NG (g.keep k1) hn hg h0 h1 hl h6 λM2 g2 k2=>h M2 g2 λb cc hb hn=>k2 b cc (k1 b cc hb id) hn
def Og(g:Gath M CD dk pl fa ra nm fs ts u)(hr:gB fs.length row)(h1:1<=fs.length)(h6:fs.length<=6)(h8:ts.length<8)(h:∀M',Gath M' CD dk pl fa ra nm fs (ts++[row]) u->Kp (S4 dk pl fa ra) M M'->Q (.str "ok") M'):cC CD C [.ptr dk,.str (mkT (pS row))] M Q EX:=by
 have hl:=hr.1;show pT (λw hw=>?_) (by erw[z9a];ext) g.hd λM1 k1=>?_
 ·ext((rfl|hw):z9g.mp hw)
  ·decide
  ·ext(⟨x,hx,rfl⟩:z8i.mp hw)
   have:=hr.2.1 x hx;show pU ∅ ∅
 ·rw[<- kr]
  show NI (g.keep k1) hr h1 h6 h8 λM2 g2 k2=>h M2 g2 λb cc hb hn=>k2 b cc (k1 b cc hb id) hn
def Oh{of:Int}(s:Sale S fs ts r c of d)(g:Gath M CD dk pl fa ra nm fs ts u)(h:∀M',Gath M' CD dk pl fa ra nm fs ts (.tup [.int r,.int c,.int of,.int d])->Kp (S4 dk pl fa ra) M M'->Q (.str "ok") M'):cC CD C [.ptr dk,.str (mkT (AJ r c of d))] M Q EX:=by
 ext(⟨hS,f1,f2,f3,t1,t2,r1,r2,c1,c2,o1,o2,d1,d2⟩:s);show pT (λw hw=>?_) (by simp) g.hd λM1 k1=>?_
 ·ext((rfl|hw):z9g.mp hw)
  ·decide
  ·ext(⟨x,hx,rfl⟩:z8i.mp hw)
   erw[z9g,z8m,z7u]at hx;show pU ∅ ∅
 ·rw[<- mo]
  show NJ (g.keep k1) r1 r2 c1 c2 o1 o2 d1 d2 λM2 g2 k2=>h M2 g2 λb cc hb hn=>k2 b cc (k1 b cc hb id) hn
def Oi{of:Int}(s:Sale S fs ts r c of d)(g:Gath M CD dk pl fa ra nm fs ts (.tup [.int r,.int c,.int of,.int d]))(h:∀o M',M o=none->Opn M' CD C dk pl o nm (bb S fs ts r c of d 0 0 0 .non .non)->Kp (S4 dk pl fa ra) M M'->Q (.str "ok") M'):cC CD C [.ptr dk,.str (mkT (uD S))] M Q EX:=by
 have hS:=s.hS;show pT (λw hw=>?_) (by simp) g.hd λM1 k1=>?_
 ·erw[z9g,z8m,z7u]at hw
  ext((rfl|rfl):hw)
  ·decide
  ·show pU ∅ ∅
 ·rw[<- mq]
  show NL s (g.keep k1) λo M2 ho g2 k2=>h o M2 ?_ g2 λb cc hb hn=>k2 b cc (k1 b cc hb id) hn
  cases e:M o with
  |none=>rfl
  |some cc=>rw[k1 o cc e id]at ho;ext ho
end
noncomputable def tells:List z9:=[[113,117,105,101,116],[108,101,102,116],[116,117,114,110,115],[99,111,105,110,115],[119,104,121],[119,111,114,116,104]]
noncomputable abbrev jb:z9:=[97,115,107]
noncomputable abbrev jc:z9:=[99,97,109,101]
def OkA(hd:z9)(rest:List z9):Prop:=
 (hd=dO/\∃n f,rest=[n,f]/\cu n/\cS f)\/(hd=eZ/\rest≠[]/\∀l∈rest,cS l)\/(hd=f8/\rest.length=4/\∀l∈rest,cS l)\/(hd=fI/\∃f,rest=[f]/\cS f)
def OkB(hd:z9)(rest:List z9):Prop:=(hd=jb/\rest.length=1)\/(hd=jc/\∃f,rest=[f]/\cS f)\/(rest=[]/\hd∈tells)
def Oj:(["quiet","left","turns","coins","why","worth"]:i_)=tells.map mkT:=by decide +kernel
def kt(ez:z=mkT l)(h:w≠l):mkT w≠z:=λe=>h (by rw[ez,ir,aw,aw]at e;show e)
def Om(h:(((aq ls).length:Nat):Int)=2):∃a b,ls=[a,b]:=by
 rw[z9a]at h
 match ls,h with
 |[a,b],_=>show⟨a,b,rfl⟩
 |[],h=>simp at h
 |[_],h=>simp at h
 |_::_::_::_,h=>erw[z9c]at h;ext
def AK(h:(((aq ls).length:Nat):Int)=1):∃a,ls=[a]:=by
 rw[z9a]at h
 match ls,h with
 |[a],_=>show⟨a,rfl⟩
 |[],h=>simp at h
 |_::_::_,h=>erw[z9c]at h;ext
section
variable {rest:List z9}{f r:D}
def On(hm:M dk=some (.ins CD d_ [p,f,r,u,.non]))(ha:∀l∈rest,(∀c∈l,c<128)/\l.length<=10000)(hlen:rest.length<=1000)(hb:¬OkA hd rest)(h:EX "NoRow" M):gA CD C [.ptr dk,.str (mkT hd),.lst (aq rest)] M Q EX:=by
 show bn rfl ?_;walk_at"env";by_cases w1:hd=dO
 ·subst w1
  rw[<- mm];lia;show q1x ?_
  lia;show au (λe2=>?_) λe2=>?_
  ·ext(⟨n,f,rfl⟩:Om e2)
   have an:=ha n z9b;have af:=ha f (z9d _ z9b);lia;show Ab (asc_mk.mpr an.1) (by rw[aw];show an.2) (λ_=>h) λg1=>?_
   lia;show m9 (asc_mk.mpr af.1) (by rw[aw];show af.2) (λ_=>h) λg2=>?_
   rw[aw]at g1 g2;show absurd (.inl ⟨rfl,_,_,rfl,g1,g2⟩) hb
  ·lia
   iterate 3
    show q0x ?_
    lia
   show eW (by decide) h
 by_cases w2:hd=eZ
 ·subst w2
  rw[<- kr];lia;show q0x ?_
  lia;show q1x ?_
  lia;show au (λe2=>?_) λe2=>?_
  ·lia
   show uv ha hlen (λ_=>h) λg=>?_
   show absurd (.inr (.inl ⟨rfl,λe=>by subst e;simp[aq]at e2,g⟩)) hb
  ·lia
   iterate 2
    show q0x ?_
    lia
   show eW (by decide) h
 by_cases w3:hd=f8
 ·subst w3
  rw[<- mo];lia
  iterate 2
   show q0x ?_
   lia
  show q1x ?_
  lia;show au (λe2=>?_) λe2=>?_
  ·lia
   show uv ha hlen (λ_=>h) λg=>?_
   show absurd (.inr (.inr (.inl ⟨rfl,by rw[z9a]at e2;ext,g⟩))) hb
  ·lia
   show q0x ?_
   lia;show eW (by decide) h
 by_cases w4:hd=fI
 ·subst w4
  rw[<- mq];lia
  iterate 3
   show q0x ?_
   lia
  show q1x ?_
  lia;show au (λe2=>?_) λe2=>?_
  ·ext(⟨f,rfl⟩:AK e2)
   have af:=ha f z9b;lia;show m9 (asc_mk.mpr af.1) (by rw[aw];show af.2) (λ_=>h) λg2=>?_
   rw[aw]at g2;show absurd (.inr (.inr (.inr ⟨rfl,_,rfl,g2⟩))) hb
  ·lia
   show eW (by decide) h
 lia;show au (λe=>absurd e (kt mm w1)) λ_=>?_
 lia;show au (λe=>absurd e (kt kr w2)) λ_=>?_
 lia;show au (λe=>absurd e (kt mo w3)) λ_=>?_
 lia;show au (λe=>absurd e (kt mq w4)) λ_=>?_
 lia;show eW (by decide) h
def uE(hb:hd∉tells)(h:EX "NoRow" M):ef CD C [.ptr dk,.str (mkT hd)] M Q EX:=by
 have ne:∀z∈(["quiet","left","turns","coins","why","worth"]:i_),mkT hd≠z:=λz hz e=>hb (by
  rw[Oj]at hz;ext(⟨l,hl,rfl⟩:z8i.mp hz);rw[ir,aw,aw]at e;show e▸hl)
 show bn rfl ?_;grind
 iterate 6
  show au (λe=>absurd e (ne _ (by decide))) λ_=>?_
  lia
 show eW (by decide) h
def Oo(g:Opn M CD C dk pl o nm off)(ha:∀l∈rest,(∀c∈l,c<128)/\l.length<=10000)(hb:¬OkB hd rest)(h:EX "NoRow" M):j5 CD C [.ptr dk,.str (mkT hd),.lst (aq rest)] M Q EX:=by
 ext(⟨⟨f,r,u,h1⟩,h2,h3⟩:g);show bn rfl ?_;walk_at"env";by_cases w1:hd=jb
 ·subst w1
  rw[<- mf];lia;show q1x ?_
  lia;show au (λe2=>absurd (.inl ⟨rfl,by rw[z9a]at e2;ext⟩) hb) λ_=>?_
  lia;show q0x ?_
  lia;show au (λ_=>?_) λ_=>?_
  ·show eW (by decide) h
  ·lia
   rw[mf];show uE (by decide) h
 by_cases w2:hd=jc
 ·subst w2
  rw[<- ko];lia;show q0x ?_
  lia;show q1x ?_
  lia;show au (λe2=>?_) λ_=>?_
  ·ext(⟨f,rfl⟩:AK e2)
   have af:=ha f z9b;lia;show uw rfl h1 h3 ?_;lia;show m9 (asc_mk.mpr af.1) (by rw[aw];show af.2) (λ_=>h) λg2=>?_
   rw[aw]at g2;show absurd (.inr (.inl ⟨rfl,_,rfl,g2⟩)) hb
  lia;show au (λ_=>?_) λ_=>?_
  ·show eW (by decide) h
  ·lia
   rw[ko];show uE (by decide) h
 lia;show au (λe=>absurd e (kt mf w1)) λ_=>?_
 lia;show au (λe=>absurd e (kt ko w2)) λ_=>?_
 lia;show au (λ_=>?_) λe=>?_
 ·show eW (by decide) h
 ·lia
  show uE (λq=>hb (.inr (.inr ⟨?_,q⟩))) h;cases rest with
  |nil=>rfl
  |cons a l=>simp[aq]at e
structure Ws (ws:List z9):Prop where
 len:ws.length<=60
 ok:∀w∈ws,32∉w/\(∀c∈w,c<128)/\w.length<=100
def AL{l:List z9}(h:∀x∈l,x.length<=100):(l.map List.length).sum<=100*l.length:=by
 induction l with
 |nil=>simp
 | cons a r ih=>
   have:=ih λx hx=>h x (z9d _ hx)
   have:=h a z9b;erw[z9r,z7e,z9c];ext
def Ws.joined(h:Ws ws):(tx (mkT (aZ [32] ws))).length<=10000/\bw 32 (tx (mkT (aZ [32] ws)))=if ws=[]then [[]]else ws:=by
 rw[aw];by_cases e:ws=[]
 ·subst e;show⟨by simp[aZ],by rw[if_pos rfl];rfl⟩
 ·rw[if_neg e]
  show⟨?_,uo 32 ws e λw hw=>(h.ok w hw).1⟩;have h1:=ma 32 ws e;have h2:=AL λx hx=>(h.ok x hx).2.2
  have:=h.len;ext
def Bad(ok:z9->List z9->Prop)(ws:List z9):Prop:=[]∈ws\/∀hd rest,ws=hd::rest->¬ok hd rest
def AM{ok:z9->List z9->Prop}(h:Ws ws)(hb:Bad ok ws):[]∈bw 32 (tx (mkT (aZ [32] ws)))\/∃hd rest,[]∉hd::rest/\ws=hd::rest/\bw 32 (tx (mkT (aZ [32] ws)))=hd::rest/\¬ok hd rest:=by
 rw[h.joined.2];cases ws with
 |nil=>show .inl (by simp)
 | cons a l=>
   rw[if_neg (by simp)];by_cases e:[]∈a::l
   ·show .inl e
   ·show .inr ⟨a,l,e,rfl,rfl,(hb.resolve_left e) a l rfl⟩
def AN(hl:(tx z).length<=10000)(hm:M dk=some (.ins CD d_ ds0))(he:[]∈bw 32 (tx z))(h:∀M1,Kp (λ_=>False) M M1->EX "NoRow" M1):cC CD C [.ptr dk,.str z] M Q EX:=by show bn rfl ?_;grind;show ul hl (λ_ M1 k1=>h M1 k1) λe=>absurd he e
def Op(hw:Ws ws)(hb:Bad OkA ws)(hm:M dk=some (.ins CD d_ [p,f,r,u,.non]))(h:∀M1,Kp (λ_=>False) M M1->EX "NoRow" M1):cC CD C [.ptr dk,.str (mkT (aZ [32] ws))] M Q EX:=by
 ext((e|⟨hd,rest,ne,ew,es,nb⟩):AM hw hb)
 ·show AN hw.joined.1 hm e h
 ·have hl:=hw.len
  rw[ew]at hl;show Ai hw.joined.1 es ne hm λM1 k1=>On (k1 _ _ hm id) (λl hl=>?_) (by erw[z9c]at hl;ext) nb (h M1 k1)
  have:=hw.ok l (by rw[ew];show z9d _ hl);show⟨this.2.1,by ext⟩
def Oq(hw:Ws ws)(hb:Bad OkB ws)(g:Opn M CD C dk pl o nm off)(h:∀M1,Kp (λ_=>False) M M1->EX "NoRow" M1):cC CD C [.ptr dk,.str (mkT (aZ [32] ws))] M Q EX:=by
 have g0:=g;ext(⟨⟨f,r,u,h1⟩,h2,h3⟩:g);ext((e|⟨hd,rest,ne,ew,es,nb⟩):AM hw hb)
 ·show AN hw.joined.1 h1 e h
 ·show pL hw.joined.1 es ne h1 λM1 k1=>Oo (g0.keep k1) (λl hl=>?_) nb (h M1 k1)
  have:=hw.ok l (by rw[ew];show z9d _ hl);show⟨this.2.1,by ext⟩
end
def ku{ls:D_}{K:D->Prop}(h0:0<=i)(h1:i<(ls.length:Int))(h:∀d∈ls,K d):W2 ixD (.lst ls) (.int i) K:=by
 have hi:i.toNat<ls.length:=by ext
 show jH (d:=ls[i.toNat]) ?_ (h _ (z9w _));change atI ls i=_;unfold atI ixN;rw[if_pos h0,if_pos h1];show z9p hi
def pV{k:Nat}(hk:k<nl.length):ixD (.lst (aq nl)) (.int (k:Nat))=some (.str (mkT nl[k])):=by change atI (aq nl) (k:Nat)=_;unfold atI ixN;rw[if_pos ∅,if_pos (by rw[z9a];ext)];change(aq nl)[((k:Nat):Int).toNat]?=_;rw[z7c,z9x,z9p hk];rfl
def mw(n d:z9):List (List z9):=[[dO,n,d],[eZ,d,[49]],[f8,[57],[49],[50],d],[fI,d]]
def jd(n d:z9):List (List z9):=[[jb,n],[jb,n],[[113,117,105,101,116]],[jc,d],[[108,101,102,116]],[[116,117,114,110,115]],[[99,111,105,110,115]],[[119,104,121]],[[119,111,114,116,104]]]
def pW(nl:List z9)(ahead:Bool)(ws:List z9):Prop:=∃n∈nl,∃k:Nat,k<12/\ws∈(if ahead=true then mw else jd) n (aM (k:Nat))
def c_1:("1" : Str)=mkT [49]:=by decide +kernel
def c_2:("2" : Str)=mkT [50]:=by decide +kernel
def c_9:("9" : Str)=mkT [57]:=by decide +kernel
def AO:("quiet" : Str)=mkT [113,117,105,101,116]:=by decide +kernel
def AQ:("left" : Str)=mkT [108,101,102,116]:=by decide +kernel
def AR:("turns" : Str)=mkT [116,117,114,110,115]:=by decide +kernel
def AS:("coins" : Str)=mkT [99,111,105,110,115]:=by decide +kernel
def AT:("why" : Str)=mkT [119,104,121]:=by decide +kernel
def AU:("worth" : Str)=mkT [119,111,114,116,104]:=by decide +kernel
def uF(hn:Names nl)(hp:Pool M a n)(hnn:n<=60000)(h:∀ws M',pW nl ah ws->Pool M' a (n+3)->Kp (· = a) M M'->Q (.lst (aq ws)) M'):lX CD C [.ptr a,.lst (aq nl),.bl ah] M Q:=by
 have ln:=hn.len;show bV rfl ?_;grind;rw[z9a,ln];show bc hp ∅ ∅ ∅ λj M1 j0 j1 p1 k1=>?_
 obtain⟨jn,rfl⟩:∃jn:Nat,j=jn:=⟨j.toNat,by ext⟩;show jI (pV (show jn<nl.length by ext)) ?_;have hm:=z9w (show jn<nl.length by ext);generalize nl[jn]=nm at hm;lia;show bc p1 ∅ ∅ ∅ λv M2 v0 v1 p2 k2=>?_
 obtain⟨k,rfl⟩:∃k:Nat,v=k:=⟨v.toNat,by ext⟩;show fZ (lg ⟨by ext,by ext⟩) ?_;have K2:=k1.trans k2 λ_ z _=>z
 cases ah with
 | true=>
   lia;show bc p2 ∅ ∅ ∅ λi M3 i0 i1 p3 k3=>?_
   show ku i0 (⇑i1) λd hd=>?_
   lia;have fin:∀ws,ws∈mw nm (aM (k:Nat))->Q (.lst (aq ws)) M3:=λws hw=>h ws M3 ⟨nm,hm,k,by ext,hw⟩ p3 (K2.trans k3 λ_ z _=>z)
   rw[mm,kr,mo,mq,c_1,c_2,c_9]at hd;ext(⟨ws,hw,rfl⟩:z8i.mp (show d∈(mw nm (aM (k:Nat))).map λws=>D.lst (aq ws)from hd));show fin ws hw
 | false=>
   lia;show bc p2 ∅ ∅ ∅ λi M3 i0 i1 p3 k3=>?_
   show ku i0 (⇑i1) λd hd=>?_
   lia;have fin:∀ws,ws∈jd nm (aM (k:Nat))->Q (.lst (aq ws)) M3:=λws hw=>h ws M3 ⟨nm,hm,k,by ext,hw⟩ p3 (K2.trans k3 λ_ z _=>z)
   rw[mf,ko,AO,AQ,AR,AS,AT,AU]at hd;ext(⟨ws,hw,rfl⟩:z8i.mp (show d∈(jd nm (aM (k:Nat))).map λws=>D.lst (aq ws)from hd));show fin ws hw
structure Good (n:z9):Prop where
 n0:n≠[]
 nb:32∉n
 as:∀c∈n,c<128
 ln:n.length<=100
def Os{n:z9}(g:cu n):Good n:=⟨λe=>by have h1:=g.1.1;rw[e]at h1;simp at h1,mh g,λc hc=>by have:=let_mem.mp (g.2 c hc);ext,by have:=g.1.2;ext⟩
def Ot{a:z9}(ha:Good a)(hb:∀c∈b,c<128/\c≠32)(hl:a.length+b.length<=100):Good (a++b):=
 ⟨λe=>ha.n0 (List.append_eq_nil_iff.mp e).1,λe=>(z8b.mp e).elim ha.nb λh=>(hb _ h).2 rfl,λc hc=>(z8b.mp hc).elim (ha.as c) λh=>(hb c h).1,by rw[z9f];show hl⟩
def AV{a:z9}(h0:a≠[])(h:∀c∈a,c<128/\c≠32)(hl:a.length<=100):Good a:=⟨h0,λe=>(h _ e).2 rfl,λc hc=>(h c hc).1,hl⟩
def je{n:z9}(g:cu n):∀c∈n,c<128/\c≠32:=λc hc=>by have:=let_mem.mp (g.2 c hc);ext
def Ou{c:Nat}(h:97<=c/\c<=122):upc c<128/\upc c≠32:=by unfold upc;rw[if_pos h];ext
def AW{K:D->Prop}(h1:(tx z).all (λc=>decide (c<128))=true)(h2:(tx z).length<=10000)(h:K (.str (mkT ((tx z).map upc)))):W1 upT (.str z) K:=⟨_,by erw[upT];rw[if_pos ⟨h1,h2⟩],h⟩
def Ov:("A9-_.,\t\n" : Str)=mkT [65,57,45,95,46,44,9,10]:=by decide +kernel
def e_:("\n" : Str)=mkT [10]:=by decide +kernel
noncomputable def badN:List z9:=[[48,49],[48,48],[49,97],[45,49],[43,49],[49,95,48],[49,48,48,48,48,48,48,48],[97],[49,46],[48,120,49],[49,9],[49,10],[45,48],[79],[9,49],[49,50,51,52,53,54,55,56]]
def Ow:(["01","00","1a","-1","+1","1_0","10000000","a","1.","0x1","1\t","1\n","-0","O","\t1","12345678"]:i_)=badN.map mkT:=by decide +kernel
def Ox:([.str "01",.str "00",.str "1a",.str "-1",.str "+1",.str "1_0",.str "10000000",.str "a",.str "1.",.str "0x1",.str "1\t",.str "1\n",.str "-0",.str "O",.str "\t1",.str "12345678"]:D_)=aq badN:=(z7d (List.map D.str) Ow).trans (by rw[z8x];rfl)
def AX:∀l∈badN,¬cS l/\l≠[]/\l.length<=10/\∀c∈l,c<128/\c≠32:=by unfold cS;decide
def AY(hp:Pool M a n)(hnn:n<=60000)(h:∀l M',l∈badN->Pool M' a (n+1)->Kp (· = a) M M'->Q (.str (mkT l)) M'):oZ CD C [.ptr a] M Q:=by
 show bV rfl ?_;grind;show bc hp ∅ ∅ ∅ λi M1 i0 i1 p1 k1=>?_
 show ku i0 (⇑i1) λd hd=>?_
 lia;ext(⟨l,hl,rfl⟩:z8i.mp (show d∈aq badN from Ox▸hd));show h l M1 hl p1 k1
def Oy:("abcdefgh" : Str)=mkT [97,98,99,100,101,102,103,104]:=by decide +kernel
def AZ{c:Nat}(hc:c∈l)(h:¬(97<=c/\c<=122)):¬cu l:=λg=>h (let_mem.mp (g.2 c hc))
section
variable {nm:z9}
def Oz(gn:cu nm)(hp:Pool M a n)(hnn:n<=60000)(h:∀l M',¬cu l->Good l->Pool M' a (n+3)->Kp (· = a) M M'->Q (.str (mkT l)) M'):tR CD C [.ptr a,.str (mkT nm)] M Q:=by
 have gl1:=gn.1.1;have gl2:=gn.1.2;have gl3:(tx (mkT nm)).length<=100000:=by rw[aw];ext
 show bV rfl ?_;grind;rw[aw];show bc hp ∅ ∅ ∅ λat_ M2 a0 a1 p2 k2=>?_
 lia;show bc p2 ∅ ∅ ∅ λe M3 e0 e1 p3 k3=>?_
 rw[Ov];ext(⟨cv,hc1,hc2⟩:iD (l:=[65,57,45,95,46,44,9,10]) e0 (⇑e1));show ij (by rw[aw];decide) (by rw[aw];show hc2) ?_;have gc:cv<128/\cv≠32/\¬(97<=cv/\cv<=122):=by erw[z9g,z8m,z7u]at hc1;ext
 have cl1:=iu nm none (some at_);have cl2:=iu nm (some (at_+1)) none;have cm:∀lo hi,∀x∈bq nm lo hi,x<128/\x≠32:=λlo hi x hx=>je gn x (iw hx)
 lia;show⟨⟨rfl,by simpa [cJ]using a0,gl3⟩,?_⟩;rw[aw];lia;show dF (by erw[z9c,z9k];ext) ?_;lia;show⟨⟨by erw[cJ];show z8p ∅,rfl,gl3⟩,?_⟩;rw[aw];lia;show dF (by erw[z9f,z9c,z9k];ext) ?_;have g1:Good (bq nm none (some at_)++[cv]++bq nm (some (at_+1)) none):=AV (by simp) (λx hx=>by
  ext((hx|hx):z8b.mp hx)
  ·ext((hx|hx):z8b.mp hx)
   ·show cm _ _ x hx
   ·rw[z9l.mp hx];show⟨gc.1,gc.2.1⟩
  ·show cm _ _ x hx) (by erw[z9f,z9c,z9k];ext)
 have b1:¬cu (bq nm none (some at_)++[cv]++bq nm (some (at_+1)) none):=AZ (c:=cv) (by simp) gc.2.2;generalize bq nm none (some at_)++[cv]++bq nm (some (at_+1)) none=s1 at g1 b1;lia;rw[Oy];show dF (by erw[z9c,z9k];ext) ?_;lia;show⟨⟨rfl,rfl,by rw[aw,z9f];erw[z9c,z9k];ext⟩,?_⟩;rw[aw];have l2:(bq (nm++[97,98,99,100,101,102,103,104]) none (some 9)).length=9:=me ∅ (by rw[z9f];erw[z9c,z9k];ext);have b2:¬cu (bq (nm++[97,98,99,100,101,102,103,104]) none (some 9)):=λg=>by have:=g.1.2;ext
 have g2:Good (bq (nm++[97,98,99,100,101,102,103,104]) none (some 9)):=AV (λe=>by rw[e]at l2;simp at l2) (λx hx=>by
  rcases z8b.mp (iw hx)with hx|hx
  ·show je gn x hx
  ·erw[z9g,z8m,z7u]at hx;ext) ∅
 generalize bq (nm++[97,98,99,100,101,102,103,104]) none (some 9)=s2 at g2 b2;lia;rw[e_];show dF (by erw[z9c,z9k];ext) ?_;have g3:Good (nm++[10]):=Ot (Os gn) (by decide) (by erw[z9c,z9k];ext);have b3:¬cu (nm++[10]):=AZ (c:=10) (by simp) ∅;generalize nm++[10]=s3 at g3 b3;lia;show bc p3 ∅ ∅ ∅ λi M4 i0 i1 p4 k4=>?_
 have K4:=(k2.trans k3 λ_ z _=>z).trans k4 λ_ z _=>z
 show ku i0 (⇑i1) λd hd=>?_
 lia;erw[z9g,z8m,z7u]at hd;ext((rfl|rfl|rfl):hd)
 ·show h _ _ b1 g1 p4 K4
 ·show h _ _ b2 g2 p4 K4
 ·show h _ _ b3 g3 p4 K4
end
noncomputable def gF:List z9:=[[99,108,97,115,115],[116,117,114,110],[114,117,108,101],[111,112,101,110],[97,115,107],[113,117,105,101,116],[99,97,109,101],[108,101,102,116],[116,117,114,110,115],[99,111,105,110,115],[119,104,121],[119,111,114,116,104]]
def OA:([.str "class",.str "turn",.str "rule",.str "open",.str "ask",.str "quiet",.str "came",.str "left",.str "turns",.str "coins",.str "why",.str "worth"]:D_)=aq gF:=by have:=Ae;rw[show odds=gF++[[110,111]]from rfl,aq,z8e]at this;show(List.append_inj' (show [_,_,_,_,_,_,_,_,_,_,_,_]++[_]=_ from this) rfl).1
def OB:inD (.str (mkT l)) (.lst (aq ls))=some (.bl (decide (l∈ls))):=by
 have h1:(aq ls).all aV=true:=by rw[z9u];intro d hd;ext(⟨x,_,rfl⟩:z8i.mp hd);rfl
 have h2:(aq ls).any (λd=>dQ d (.str (mkT l)))=decide (l∈ls):=by
  rw[z5v,z4b,List.any_eq_true];constructor
  ·rintro⟨d,hd,hb⟩
   ext(⟨x,hx,rfl⟩:z8i.mp hd);have hb:(mkT x==mkT l)=true:=hb;have hb:=eq_of_beq hb;rw[ir,aw,aw]at hb;show hb▸hx
  ·intro hl
   show⟨.str (mkT l),z8i.mpr ⟨l,hl,rfl⟩,z6y (mkT l)⟩
 change(if aV (D.str (mkT l))=true/\_ then some (D.bl _)else none)=_;rw[if_pos ⟨rfl,h1⟩,h2]
def sgs:z9:=dg++[35,63,33,46,58,45]
def OC:("abcdefghijklmnopqrstuvwxyz#?!.:-" : Str)=mkT sgs:=by decide +kernel
def B1:("rows" : Str)=mkT [114,111,119,115]:=by decide +kernel
def f_:("\t" : Str)=mkT [9]:=by decide +kernel
def OE:("undo" : Str)=mkT [117,110,100,111]:=by decide +kernel
def OF:("help" : Str)=mkT [104,101,108,112]:=by decide +kernel
def OG:("seats" : Str)=mkT [115,101,97,116,115]:=by decide +kernel
def OH:("paper" : Str)=mkT [112,97,112,101,114]:=by decide +kernel
def PlN(m:Nat)(l:z9):Prop:=(∀c∈l,c<128/\c≠32)/\l.length<=m
def iy{k:Nat}{r:z9}{K:D->Prop}(a:PlN m l)(b:PlN k r)(h:∀x,PlN (m+k) x->K (.str (mkT x)))(hm:m+k<=1000<|>R1):W2 bL (.str (mkT l)) (.str (mkT r)) K:=
 dF (by have:=a.2;have:=b.2;ext) (h _ ⟨λc hc=>(z8b.mp hc).elim (a.1 c) (b.1 c),by rw[z9f];have:=a.2;have:=b.2;ext⟩)
def PlN.le{k:Nat}(a:PlN m l)(h:m<=k<|>R1):PlN k l:=⟨a.1,z7p a.2 h⟩
def pX{c:Nat}(h:c<128/\c≠32):PlN 1 [c]:=⟨λx hx=>by rw[z9l.mp hx];show h,by simp⟩
def OI(gn:cu w)(hp:Pool M a n)(hnn:n<=60000)(h:∀l M',l∉gF->l≠[]->PlN 30 l->Pool M' a (n+20)->Kp (· = a) M M'->Q (.str (mkT l)) M'):pe CD C [.ptr a,.str (mkT w)] M Q:=by
 have gl1:=gn.1.1;have gl2:=gn.1.2;have gl3:(tx (mkT w)).length<=100000:=by rw[aw];ext
 show bV rfl ?_;grind;rw[OA,aw];show bc hp ∅ ∅ ∅ λat_ M1 a0 a1 p1 k1=>?_
 have cl:=λlo hi=>iu w lo hi
 have cp:∀lo hi,PlN 8 (bq w lo hi):=λlo hi=>⟨λc hc=>je gn c (iw hc),by have:=cl lo hi;ext⟩
 obtain⟨cv,hc1,hc2⟩:=iD a0 (show at_<(w.length:Int)by ext);have gc:=je gn cv hc1;lia;show⟨⟨rfl,by simpa [cJ]using a0,gl3⟩,?_⟩;rw[aw];lia;have q1:cJ (some (at_+1))=true:=by erw[cJ];show z8p ∅
 have q0:cJ (some at_)=true:=by erw[cJ];show z8p a0
 show⟨⟨q1,rfl,gl3⟩,?_⟩;rw[aw];show iy (cp _ _) (cp _ _) λs1 i1=>?_
 lia;show⟨⟨rfl,q0,gl3⟩,?_⟩;rw[aw];lia;show ij gl3 (by rw[aw];show hc2) ?_;lia;show iy (cp _ _) (pX gc) λ_ i2=>?_
 lia;show⟨⟨q0,rfl,gl3⟩,?_⟩;rw[aw];lia;show iy i2 (cp _ _) λs2 i2=>?_
 lia;show⟨⟨rfl,q0,gl3⟩,?_⟩;rw[aw];lia;show ij gl3 (by rw[aw];show hc2) ?_;show AW (by rw[aw];simp[gc.1]) (by rw[aw];simp) ?_;rw[aw];have up:∀l:z9,(∀c∈l,c∈w)->l.length<=8->PlN 8 (l.map upc):=λl hl hn=>⟨λc hc=>by ext(⟨x,hx,rfl⟩:z8i.mp hc);show Ou (let_mem.mp (gn.2 x (hl x hx))),by rw[z9a];show hn⟩
 show iy (cp _ _) (up _ (λc hc=>by rw[z9l.mp hc];show hc1) (by simp)) λ_ i3=>?_
 lia;show⟨⟨q1,rfl,gl3⟩,?_⟩;rw[aw];lia;show iy i3 (cp _ _) λs3 i3=>?_
 lia;intro x hx;have hxa:x≠a:=λe=>by subst e;ext(⟨_,_,_,h1,_⟩:p1);rw[hx]at h1;ext h1
 have wl:(tx (mkT w)).all (λc=>decide (c<128))=true:=by rw[aw,z9u];show λc hc=>z8p (je gn c hc).1
 lia;show⟨⟨rfl,rfl,gl3⟩,?_⟩;rw[aw];lia;show AW wl (by rw[aw];ext) ?_;rw[aw];lia;rw[f_];have wp:PlN 8 w:=⟨λc hc=>je gn c hc,gl2⟩;show iy wp (pX (c:=9) (by decide)) λs4 i4=>?_
 lia;rw[e_];show iy wp (pX (c:=10) (by decide)) λs5 i5=>?_
 lia;show iy (pX (c:=9) (by decide)) wp λs6 i6=>?_
 lia;rw[OE,OF,OG,OH];show⟨_,_,g8 aE,rfl,by simp,λy hy=>?_⟩;obtain⟨ls,els,hls,hln⟩:∃ls:List z9,[D.str (mkT s1),.str (mkT s2),.str (mkT s3)]++[.str (mkT (bq w none (some 1))),.str (mkT (w.map upc)),.str (mkT s4),.str (mkT s5),.str (mkT s6),.str (mkT [117,110,100,111]),.str (mkT [104,101,108,112]),.str (mkT [115,101,97,116,115]),.str (mkT [112,97,112,101,114])]=aq ls/\(∀l∈ls,PlN 30 l)/\ls.length=12:=by
  show⟨[s1,s2,s3,bq w none (some 1),w.map upc,s4,s5,s6,[117,110,100,111],[104,101,108,112],[115,101,97,116,115],[112,97,112,101,114]],rfl,λl hl=>?_,rfl⟩;erw[z9g,z8m,z7u]at hl;ext((rfl|rfl|rfl|rfl|rfl|rfl|rfl|rfl|rfl|rfl|rfl|rfl):hl)
  ·show i1.le
  ·show i2.le
  ·show i3.le
  ·show(cp _ _).le
  ·show(up w (λ_ h=>h) gl2).le
  ·show i4.le
  ·show i5.le
  ·show i6.le
  all_goals show⟨by decide,by decide⟩
 rw[els];have hyx:y≠x:=λe=>by rw[e,aE]at hy;ext hy
 have hy1:M1 y=none:=by rw[aP hyx]at hy;show hy
 have hya:y≠a:=λe=>by subst e;ext(⟨_,_,_,h1,_⟩:p1);rw[hy1]at h1;ext h1
 lia;have pM:Pool (aD (aD M1 x (.lst [.str (mkT s1),.str (mkT s2),.str (mkT s3)])) y (.lst (aq ls))) a (n+1):=(p1.keep (S:=λ_=>False) (Kp.upd (.inr hx)) id).keep (S:=λ_=>False) (Kp.upd (.inr hy)) id;have kM:Kp (· = a) M (aD (aD M1 x (.lst [.str (mkT s1),.str (mkT s2),.str (mkT s3)])) y (.lst (aq ls))):=(k1.trans (Kp.upd (S:=λ_=>False) (.inr hx)) λ_ z _=>z.elim).trans (Kp.upd (S:=λ_=>False) (.inr hy)) λ_ z _=>z.elim
 have hy0:M y=none:=by
  cases e:M y with
  |none=>rfl
  |some c=>show absurd (k1 y c e hya) (by rw[hy1];show λq=>nomatch q)
 have y2:aD (aD M1 x (.lst [.str (mkT s1),.str (mkT s2),.str (mkT s3)])) y (.lst (aq ls)) y=some (.lst (aq ls)):=aE;generalize aD (aD M1 x (.lst [.str (mkT s1),.str (mkT s2),.str (mkT s3)])) y (.lst (aq ls))=M2 at pM kM y2;show⟨y,_,rfl,y2,?_⟩;rw[OC,A8];grind;show lP ?_;lia;show bc pM ∅ ∅ ∅ λm M3 m0 m1 p3 k3=>?_
 lia;show⟨⟨by ext,by ext⟩,by ext,?_⟩;obtain⟨J,rfl⟩:∃J:Nat,m=J:=⟨m.toNat,by ext⟩;rw[show(1+(J:Int)).toNat=J+1 by ext];have y3:=k3 y _ y2 hya;show ic _ _ (λk ds M'=>∃v:z9,ds=(v.map λc=>[c]).map (λl=>.str (mkT l))/\v.length=k/\(∀c∈v,c<128/\c≠32)/\Pool M' a (n+2+k)/\Kp (· = a) M3 M') ⟨[],rfl,rfl,by simp,p3,Kp.refl⟩ ?_ ?_
 ·rintro ds M4 ⟨v,rfl,hv,hvc,p4,k4⟩
  rw[z8j]at hv p4;show iW (s:="") (by rw[kh,aw,Ac,z9a];erw[z9k];ext) ?_;rw[kh,aw,um];have y4:=k4 y _ y3 hya;show⟨_,y4,by rw[z9a];ext,?_⟩;rw[show aq ls++[D.str (mkT v)]=aq (ls++[v])by simp[aq]];have pv:∀l∈ls++[v],PlN 30 l:=λl hl=>(z8b.mp hl).elim (hls l) λe=>by rw[z9l.mp e];show⟨hvc,by ext⟩
  have lv:(ls++[v]).length=13:=by rw[z9f,hln];rfl
  generalize ls++[v]=lv1 at pv lv;have p5:Pool (aD M4 y (.lst (aq lv1))) a (n+2+(J+1)):=p4.keep (S:=(· = y)) (Kp.upd (.inl rfl)) (Ne.symm hya);have k5:Kp (· = a) M (aD M4 y (.lst (aq lv1))):=((kM.trans k3 λ_ z _=>z).trans k4 λ_ z _=>z).trans (Kp.upd (S:=(· = y)) (.inl rfl)) λb z nn=>by subst z;show absurd hy0 nn
  have y5:aD M4 y (.lst (aq lv1)) y=some (.lst (aq lv1)):=aE;generalize aD M4 y (.lst (aq lv1))=M5 at p5 k5 y5;lia;show bc p5 ∅ ∅ ∅ λi M6 i0 i1 p6 k6=>?_
  obtain⟨k,rfl⟩:∃k:Nat,i=k:=⟨i.toNat,by ext⟩;have hk:k<lv1.length:=by ext
  show⟨y,_,_,_,rfl,k6 y _ y5 hya,rfl,pV hk,?_⟩;have pk:=pv _ (z9w hk);generalize lv1[k]=l at pk;have K6:=k5.trans k6 λ_ z _=>z
  have P6:Pool M6 a (n+20):=p6.le ∅;lia;show jI OB ?_;lia;show au (λe=>?_) λe=>?_
  ·lia
   rw[B1];show h _ _ (by decide) (by decide) ⟨by decide,by decide⟩ P6 K6
  ·lia
   show au (λe2=>?_) λe2=>?_
   ·lia
    rw[B1];show h _ _ (by decide) (by decide) ⟨by decide,by decide⟩ P6 K6
   ·lia
    show h _ _ e (λz=>e2 (by rw[z])) pk P6 K6
 ·rintro k hk ds M4 ⟨v,rfl,hv,hvc,p4,k4⟩ N hN
  rw[z8j]at hk;grind;show dF (by decide) ?_;lia;show bc p4 ∅ ∅ ∅ λr M5 r0 r1 p5 k5=>?_
  lia;ext(⟨cc,hc1,hc2⟩:iD (l:=sgs++ki) r0 (by show r1));show ij (by rw[aw];decide) (by rw[aw];show hc2) ?_;have all:∀c∈sgs++ki,c<128/\c≠32:=by decide
  show hN _ _ ⟨v++[cc],by simp,by simp[hv],λc hc=>?_,p5,k4.trans k5 λ_ z _=>z⟩;ext((hc|hc):z8b.mp hc)
  ·show hvc c hc
  ·rw[z9l.mp hc];show all cc hc1
def okS(ah:Bool):z9->List z9->Prop:=if ah=true then OkA else OkB
def gG(ah:Bool):List z9:=if ah=true then [dO,eZ,f8,fI]else [jb,jc]++tells
def uG{rest:List z9}(h:OkA hd rest):(hd=dO/\rest.length=2)\/(hd=eZ/\1<=rest.length)\/(hd=f8/\rest.length=4)\/(hd=fI/\rest.length=1):=by
 rcases h with⟨e,a,b,rfl,_⟩|⟨e,l,_⟩|⟨e,l,_⟩|⟨e,a,rfl,_⟩
 ·show .inl ⟨e,rfl⟩
 ·show .inr (.inl ⟨e,z6n.mpr l⟩)
 ·show .inr (.inr (.inl ⟨e,l⟩))
 ·show .inr (.inr (.inr ⟨e,rfl⟩))
def pY{rest:List z9}(h:OkB hd rest):(hd=jb/\rest.length=1)\/(hd=jc/\rest.length=1)\/(hd∈tells/\rest.length=0):=by
 rcases h with⟨e,l⟩|⟨e,a,rfl,_⟩|⟨rfl,m⟩
 ·show .inl ⟨e,l⟩
 ·show .inr (.inl ⟨e,rfl⟩)
 ·show .inr (.inr ⟨m,rfl⟩)
def B2{rest:List z9}(h:okS ah hd rest):hd∈gG ah:=by
 cases ah with
 |true=>rcases uG h with⟨rfl,_⟩|⟨rfl,_⟩|⟨rfl,_⟩|⟨rfl,_⟩<;>decide
 | false=>
   rcases pY h with⟨rfl,_⟩|⟨rfl,_⟩|⟨m,_⟩
   ·decide
   ·decide
   ·show z9q _ m
def mz(h:hd∈gG ah):hd∈gF:=by have:=(show ∀b:Bool,∀l∈gG b,l∈gF by decide) ah;show this hd h
def OJ(h:hd∈gG (!ah)):hd∉gG ah:=by have:=(show ∀b:Bool,∀l∈gG (!b),l∉gG b by decide) ah;show this hd h
def Wd(w:z9):Prop:=32∉w/\(∀c∈w,c<128)/\w.length<=100
def ky(h:∀c∈w,c<128/\c≠32)(hl:w.length<=100):Wd w:=⟨λe=>(h _ e).2 rfl,λc hc=>(h c hc).1,hl⟩
def uH(g:cu w):Wd w:=ky (je g) (by have:=g.1.2;ext)
def OK{k:Nat}(h:k<12):Wd (aM (k:Nat)):=by ext(⟨g,a,nb,_⟩:kl (x:=(k:Nat)) ∅ ∅);show⟨nb,a,by have:=g.1.1.2;ext⟩
def pZ:∀w∈gF,Wd w:=λw hw=>by have:=(show ∀w∈gF,(∀c∈w,c<128/\c≠32)/\w.length<=100 by decide) w hw;show ky this.1 this.2
def f9(h:(∀c∈w,c<128/\c≠32)/\w.length<=100):Wd w:=ky h.1 h.2
structure RowOf (ah:Bool) (hd:z9) (rest:List z9):Prop where
 sd:hd∈gG ah
 ln:rest.length<=4
 wd:∀w∈rest,Wd w
 ex:∀x,x≠[]->hd≠eZ->¬okS ah hd (rest++x)
 no:rest≠[]->¬okS ah hd []
def uI(hn:Names nl)(h:pW nl ah ws):∃hd rest,ws=hd::rest/\RowOf ah hd rest:=by
 ext(⟨n,hm,k,hk,hw⟩:h);have wn:=uH (hn.ok n hm);have wk:=OK hk;generalize aM (k:Nat)=dk at wk hw;cases ah with
 | true=>
   have fin:∀{hd:z9} {rest:List z9},hd∈gG true->rest.length<=4->(∀w∈rest,Wd w)->(hd≠eZ->(hd=dO->2<=rest.length)/\(hd=f8->4<=rest.length)/\(hd=fI->1<=rest.length))->RowOf true hd rest:=λ{hd rest} h1 h2 h3 h4=>
    ⟨h1,h2,h3,λx hx ht o=>by
     have hp:=z6n.mpr hx;ext(⟨q1,q2,q3⟩:h4 ht);rcases uG o with⟨e,l⟩|⟨e,l⟩|⟨e,l⟩|⟨e,l⟩<;>rw[z9f]at l
     ·have:=q1 e;ext
     ·show ht e
     ·have:=q2 e;ext
     ·have:=q3 e;ext,λ_ o=>by
     rcases uG o with⟨e,l⟩|⟨e,l⟩|⟨e,l⟩|⟨e,l⟩<;>simp at l⟩
   have hw:ws∈mw n dk:=hw;erw[mw,z9g,z8m,z7u]at hw;ext((rfl|rfl|rfl|rfl):hw)
   ·show⟨_,_,rfl,fin (by decide) (by simp) (λw hw=>by erw[z9g,z8m,z7u]at hw;ext((rfl|rfl):hw);show wn;show wk) λ_=>⟨λ_=>by simp,λe=>absurd e (by decide),λe=>absurd e (by decide)⟩⟩
   ·show⟨_,_,rfl,fin (by decide) (by simp) (λw hw=>by erw[z9g,z8m,z7u]at hw;ext((rfl|rfl):hw);show wk;show f9 (by decide)) λe=>absurd rfl e⟩
   ·show⟨_,_,rfl,fin (by decide) (by simp) (λw hw=>by erw[z9g,z8m,z7u]at hw;ext((rfl|rfl|rfl|rfl):hw);show f9 (by decide);show f9 (by decide);show f9 (by decide);show wk) λ_=>⟨λe=>absurd e (by decide),λ_=>by simp,λe=>absurd e (by decide)⟩⟩
   ·show⟨_,_,rfl,fin (by decide) (by simp) (λw hw=>by rw[z9l.mp hw];show wk) λ_=>⟨λe=>absurd e (by decide),λe=>absurd e (by decide),λ_=>by simp⟩⟩
 | false=>
   have one:∀{hd w:z9},hd=jb\/hd=jc->Wd w->RowOf false hd [w]:=λ{hd w} h1 h2=>
    ⟨by ext((rfl|rfl):h1)<;>decide,by simp,λv hv=>by rw[z9l.mp hv];show h2,λx hx _ o=>by
     have hp:=z6n.mpr hx;rcases pY o with⟨e,l⟩|⟨e,l⟩|⟨e,l⟩<;>erw[z9f,z9c,z9k]at l<;>ext,λ_ o=>by
     rcases pY o with⟨e,l⟩|⟨e,l⟩|⟨e,l⟩
     ·simp at l
     ·simp at l
     ·ext((rfl|rfl):h1)<;>show absurd e (by decide)⟩
   have nil:∀{hd:z9},hd∈tells->RowOf false hd []:=λ{hd} h1=>
    ⟨z9q _ h1,by simp,(λv hv=>by ext hv),λx hx _ o=>by
     have hp:=z6n.mpr hx;rcases pY o with⟨e,l⟩|⟨e,l⟩|⟨e,l⟩
     ·subst e;show absurd h1 (by decide)
     ·subst e;show absurd h1 (by decide)
     ·erw[z5u]at l;ext,λe=>absurd rfl e⟩
   have hw:ws∈jd n dk:=hw;erw[jd,z9g,z8m,z7u]at hw;ext((rfl|rfl|rfl|rfl|rfl|rfl|rfl|rfl|rfl):hw)
   ·show⟨_,_,rfl,one (.inl rfl) wn⟩
   ·show⟨_,_,rfl,one (.inl rfl) wn⟩
   ·show⟨_,_,rfl,nil (by decide)⟩
   ·show⟨_,_,rfl,one (.inr rfl) wk⟩
   all_goals show⟨_,_,rfl,nil (by decide)⟩
def B3{k:Nat}(h:k<=nl.length):cU (aq nl) none (some ((k:Nat):Int))=aq (nl.take k):=by unfold cU;rw[rQ,rR];simp[aq,List.map_take]
def B4{k:Nat}(h:k<=nl.length):cU (aq nl) (some ((k:Nat):Int)) none=aq (nl.drop k):=by unfold cU;rw[rQ,rR];erw[List.map_drop,z9a];rw[show min k nl.length=k from z5g h];show z8t (by simp)
theorem B5{x:D}:∀k:Nat,(List.replicate k [x]).flatten=List.replicate k x
 |0=>rfl
 |k+1=>by rw[z7n,z6k,B5 k];rfl
def B6{x:D}{k:Nat}(hl:k<=1000):fM (.lst [x]) (.int (k:Nat))=some (.lst (List.replicate k x)):=by erw[fM];rw[if_pos ⟨by erw[z9c,z9k,z7c];ext,by ext,by ext⟩,z7c,B5]
def B7{K:D->Prop}{x:D}{k:Nat}(hl:k<=1000)(h:K (.lst (List.replicate k x))):W2 fM (.lst [x]) (.int (k:Nat)) K:=⟨_,B6 hl,h⟩
def Pool.ne{x:Nat}(p:Pool M a n)(h:M x=none):x≠a:=λe=>by ext(⟨_,_,_,h1,_⟩:p);rw[<- e,h]at h1;ext h1
def Pool.put{x:Nat}{c:Cell}(p:Pool M a n)(h:x≠a):Pool (aD M x c) a n:=p.keep (S:=(· = x)) (Kp.upd (.inl rfl)) (Ne.symm h)
def Pool.del{x:Nat}(p:Pool M a n)(h:x≠a):Pool (cW M x) a n:=p.keep (S:=(· = x)) (Kp.del rfl) (Ne.symm h)
def B8{S:Nat->Prop}{x:Nat}(k:Kp S M N)(h:N x=none)(hs:¬S x):M x=none:=by
 cases e:M x with
 |none=>rfl
 |some c=>show absurd ((k x c e hs).symm.trans h) (λq=>nomatch q)
def q9{S:Nat->Prop}{x:Nat}{c:Cell}(k:Kp S M N)(h:M x=none):Kp S M (aD N x c):=k.trans (Kp.upd (S:=(· = x)) (.inl rfl)) λb z nn=>absurd h (z▸nn)
def B9{S:Nat->Prop}{x:Nat}(k:Kp S M N)(h:M x=none):Kp S M (cW N x):=k.trans (Kp.del (S:=(· = x)) rfl) λb z nn=>absurd h (z▸nn)
def Ba{l:List z9}{i:Nat}(hi:i<l.length)(hw:∀w∈l,Wd w)(hb:Wd b):∃R,(aq l).set i (.str (mkT b))=aq R/\b∈R/\R.length=l.length/\∀w∈R,Wd w:=
 ⟨_,(List.map_set (f:=λl=>D.str (mkT l))).symm,List.mem_set hi _,z8h,λw h=>(z6x h).elim (hw w) λe=>e▸hb⟩
def qa{h:z9}{r:List z9}(hb:¬cS b)(m:b∈r)(q:h=dO->∃u,r=[u,b]):¬OkA h r:=by
 rintro(⟨e,_,f,e',_,g⟩|⟨_,_,g⟩|⟨_,_,g⟩|⟨_,f,rfl,g⟩)
 ·ext(⟨u,z⟩:q e)
  rw[z]at e';ext e';show hb g
 ·show hb (g b m)
 ·show hb (g b m)
 ·show hb (z9l.mp m▸g)
def uJ{u v:z9}(a:Wd u)(b:Wd v):∀w∈[u,v],Wd w:=λw h=>(z9g.mp h).elim (λe=>e▸a) λh=>z9l.mp h▸b
def OM(hn:Names nl)(hp:Pool M a n)(hnn:n<=50000)(h:∀ws M',Ws ws->Bad (okS ah) ws->Kp (· = a) M M'->Pool M' a (n+60)->Q (.lst (aq ws)) M'):tS CD C [.ptr a,.lst (aq nl),.bl ah] M Q:=by
 show bV rfl ?_;grind;show uF hn hp ∅ λws M1 g1 p1 k1=>?_
 ext(⟨hd,rest,rfl,ro⟩:uI hn g1);have ln:=hn.len;have rl:=ro.ln;lia;rw[z9a,ln];show bc p1 ∅ ∅ ∅ λj M2 j0 j1 p2 k2=>?_
 obtain⟨jn,rfl⟩:∃jn:Nat,j=jn:=⟨j.toNat,by ext⟩;show jI (pV (show jn<nl.length by ext)) ?_;have gn:=hn.ok _ (z9w (show jn<nl.length by ext));generalize nl[jn]=nm at gn;lia;show bc p2 ∅ ∅ ∅ λway M3 w0 w1 p3 k3=>?_
 have K3:=(k1.trans k2 λ_ z _=>z).trans k3 λ_ z _=>z
 have whd:=pZ hd (mz ro.sd);have wal:∀w∈hd::rest,Wd w:=λw hw=>(z9g.mp hw).elim (λe=>e▸whd) (ro.wd w)
 have fin:∀ws M',ws.length<=60->(∀w∈ws,Wd w)->Bad (okS ah) ws->Kp (· = a) M3 M'->Pool M' a (n+60)->Q (.lst (aq ws)) M':=λws M' h1 h2 h3 k p=>h ws M' ⟨h1,h2⟩ h3 (K3.trans k λ_ z _=>z) p
 have bads:∀{hd':z9} {r':List z9},¬okS ah hd' r'->Bad (okS ah) (hd'::r'):=λ{hd' r'} hh=>.inr λx y e=>by ext e;show hh
 have o12:∀{l:z9} {r':List z9},l∉gF->Bad (okS ah) (l::r'):=λ{l r'} hl=>bads λo=>hl (mz (B2 o))
 have other:∀{E:EndN},E.rt=Q->aO (n2 c5 (eF (aa (aF (pe CD C) (aa (nP (a5 0)) (aa (nP (e2 ixD (a5 3) (eC (.int 0)))) (aj)))) (aj))) (nP (eSl (a5 3) (ci (eC (.int 1))) (cE)))) E [some (.ptr a),some (.lst (aq nl)),some (.bl ah),some (.lst (aq (hd::rest))),some (.str (mkT nm)),some (.int way),none,none,none,none,none] M3:=λ{E} hE=>by
  lia;show jH (d:=.str (mkT hd)) pK ?_;lia;show OI (Ad hd (z8g [[110,111]] (mz ro.sd))) p3 ∅ λl M4 l1 l2 l3 p4 k4=>?_
  lia;rw[show(1:Int)=((1:Nat):Int)from rfl,B4 (by erw[z9c];ext)];show lw (by erw[z9a,z6o,z6r,z9c,z9k];ext) ?_;rw[hE];show fin (l::rest) M4 (by erw[z9c];ext) (λw hw=>(z9g.mp hw).elim (λe=>e▸ky l3.1 (by have:=l3.2;ext)) (ro.wd w)) (o12 l1) k4 (p4.le ∅)
 lia;show au (λe0=>?_) λe0=>?_
 ·subst e0
  lia;show jH (d:=.str (mkT hd)) pK ?_;lia;show gt (λht=>?_) λht=>?_
  ·rw[kr,str_is,aw]at ht
   lia;show lP ?_;lia;show bc p3 ∅ ∅ ∅ λm M4 m0 m1 p4 k4=>?_
   lia;show⟨⟨by ext,by ext⟩,by ext,?_⟩;obtain⟨J,rfl⟩:∃J:Nat,m=J:=⟨m.toNat,by ext⟩;rw[show(1+(J:Int)).toNat=J+1 by ext];show ic _ _ (λk ds M'=>∃ex:List z9,ds=aq ex/\ex.length=k/\(∀w∈ex,Wd w)/\Pool M' a (n+6+k)/\Kp (· = a) M3 M') ⟨[],rfl,rfl,by simp,p4,k4⟩ ?_ ?_
   ·rintro ds M5 ⟨ex,rfl,hx,hw,p5,k5⟩
    rw[z8j]at hx p5;show lw (by erw[z9a,z9c];ext) ?_;lia;rw[<- z8e];show fin (hd::rest++ex) M5 (by erw[z9f,z9c];ext) (λw hm=>(z8b.mp hm).elim (wal w) (hw w)) (bads (ro.ex ex (λe=>by rw[e]at hx;simp at hx) ht)) k5 (p5.le ∅)
   ·rintro k hk ds M5 ⟨ex,rfl,hx,hw,p5,k5⟩ N hN
    rw[z8j]at hk;grind;show bc p5 ∅ ∅ ∅ λr M6 r0 r1 p6 k6=>?_
    rw[c_1,c_0,show("25" : Str)=mkT [50,53]by decide +kernel];show ku r0 (⇑r1) λd hd=>?_
    ext(⟨w,hw2,rfl⟩:z8i.mp (show d∈aq [nm,[49],[48],[50,53]]from hd));show hN _ _ ⟨ex++[w],by simp[aq],by simp[hx],λv hv=>(z8b.mp hv).elim (hw v) λe=>?_,p6,k5.trans k6 λ_ z _=>z⟩;rw[z9l.mp e];erw[z9g,z8m,z7u]at hw2;ext((rfl|rfl|rfl|rfl):hw2)
    ·show uH gn
    all_goals show f9 (by decide)
  ·lia
   show q0x ?_
   lia;show q0x ?_
   lia;show q0x ?_
   lia;show au (λ_=>other rfl) λe=>absurd (by decide) e
 lia;show au (λe1=>?_) λe1=>?_
 ·lia
  have mn:min (2:Int) ((aq (hd::rest)).length:Nat)=((min 2 (rest.length+1):Nat):Int):=by erw[z9a,z9c];ext
  rw[mn];show bc p3 ∅ ∅ ∅ λi M4 i0 i1 p4 k4=>?_
  obtain⟨k,rfl⟩:∃k:Nat,i=k:=⟨i.toNat,by ext⟩;show⟨_,_,rfl,rfl,?_⟩;rw[B3 (by erw[z9c];ext)];lia;have kc:k=0\/(k=1/\rest≠[]):=by
   ext((e|e):Nat.eq_zero_or_pos k)
   ·show .inl e
   ·show .inr ⟨by ext,λz=>?_⟩
    subst z;erw[z9k]at i1;ext
  ext((rfl|⟨rfl,hr⟩):kc)
  ·show fin [] M4 (by simp) (λw hw=>by ext hw) (.inr λx y e=>nomatch e) k4 (p4.le ∅)
  ·show fin [hd] M4 (by simp) (λw hw=>by rw[z9l.mp hw];show whd) (bads (ro.no hr)) k4 (p4.le ∅)
 lia;show au (λe2=>?_) λe2=>?_
 ·cases ah with
  | true=>
    lia;show AY p3 ∅ λb M4 hb p4 k4=>?_
    have bo:=AX b hb;have wb:Wd b:=ky bo.2.2.2 (by have:=bo.2.2.1;ext);lia;intro x hx;have hxa:=p4.ne hx;have x0:=B8 k4 hx hxa;lia;show bc (p4.put hxa) ∅ ∅ ∅ λr M6 r0 r1 p6 k6=>?_
    have x6:=k6 x _ aE hxa;rw[c_9,c_1,c_2,c_0]at x6;show⟨x,_,r,r.toNat,rfl,x6,rfl,by unfold ixN;rw[if_pos r0,if_pos (⇑r1)],?_⟩;lia;obtain⟨R,eR,bR,lR,wR⟩:=Ba (l:=[[57],[49],[50],[48]]) (i:=r.toNat) (by erw[z9c,z9k];ext) (λw e=>f9 ((show ∀w∈[[57],[49],[50],[48]],(∀c∈w,c<128/\c≠32)/\w.length<=100 by decide) w e)) wb;have lR:R.length=4:=lR;rw[show [D.str (mkT [57]),.str (mkT [49]),.str (mkT [50]),.str (mkT [48])]=aq [[57],[49],[50],[48]]from rfl,eR];show bc (p6.put hxa) ∅ ∅ ∅ λq M8 q0 q1 p8 k8=>?_
    obtain⟨J,rfl⟩:∃J:Nat,q=J:=⟨q.toNat,by ext⟩;have x8:=k8 x _ aE hxa;have K8:=(q9 ((q9 k4 x0).trans k6 λ_ z _=>z) x0).trans k8 λ_ z _=>z
    lia;rw[show(1+(J:Int))=((J+1:Nat):Int)by ext,c_1];show⟨_,B6 ∅,λy hy=>?_⟩;have hyx:y≠x:=λe=>by rw[e,x8]at hy;ext hy
    have hya:=p8.ne hy;have y0:=B8 K8 hy hya;lia;rw[show List.map (vw1 (aD M8 y _)) [D.ptr y]=_ from z7d (λd=>[d]) (g8 aE)];lia;rw[z9y];show bc (p8.put hya) ∅ ∅ ∅ λv M10 v0 v1 p10 k10=>?_
    show⟨y,_,v,v.toNat,rfl,k10 y _ aE hya,rfl,by unfold ixN;rw[if_pos v0,if_pos (by rw[z9y];show v1)],?_⟩;obtain⟨T,eT,bT,lT,wT⟩:=Ba (l:=List.replicate (J+1) [49]) (i:=v.toNat) (by rw[z9y];ext) (λw e=>by rw[(z4c.mp e).2];show f9 (by decide)) wb;rw[z9y]at lT;rw[show List.replicate (J+1) (D.str (mkT [49]))=aq (List.replicate (J+1) [49])by erw[aq,z3g],eT];have x11:=(aP (c:=.lst (aq T)) (Ne.symm hyx)).trans (k10 x _ ((aP (Ne.symm hyx)).trans x8) hxa);have K10:=(q9 K8 y0).trans k10 λ_ z _=>z
    lia;show sR rfl aE ?_;lia;show sR rfl ((nW (Ne.symm hyx)).trans x11) ?_;have p12:=((p10.put (c:=.lst (aq T)) hya).del hya).del hxa;have K12:=B9 (B9 (q9 (c:=.lst (aq T)) K10 y0) y0) x0;lia;show Oz gn p12 ∅ λl M13 bl gl p13 k13=>?_
    lia;show bc p13 ∅ ∅ ∅ λi M14 i0 i1 p14 k14=>?_
    show ku i0 (⇑i1) λd hdd=>?_
    lia;rw[mm,kr,mo,mq,show("5" : Str)=mkT [53]by decide +kernel]at hdd;ext(⟨ws,hw,rfl⟩:z8i.mp (show d∈[[dO,nm,b],eZ::T,f8::R,[fI,b],[dO,l,[53]]].map λws=>D.lst (aq ws)from hdd));have wn:=uH gn;have wl:Wd l:=⟨gl.nb,gl.as,gl.ln⟩;have F:∀{hd':z9} {r':List z9},hd'∈gF->r'.length<=10->(∀w∈r',Wd w)->¬OkA hd' r'->Q (.lst (aq (hd'::r'))) M14:=λ{hd' r'} q1 q2 q3 q4=>fin (hd'::r') M14 (by erw[z9c];ext) (λw hw=>(z9g.mp hw).elim (λe=>e▸pZ _ q1) (q3 w)) (bads q4) ((K12.trans k13 λ_ z _=>z).trans k14 λ_ z _=>z) (p14.le ∅)
    erw[z9g,z8m,z7u]at hw;ext((rfl|rfl|rfl|rfl|rfl):hw)
    ·show F (by decide) (by simp) (uJ wn wb) (qa bo.1 (by simp) λ_=>⟨_,rfl⟩)
    ·show F (by decide) ∅ wT (qa bo.1 bT λe=>absurd e (by decide))
    ·show F (by decide) ∅ wR (qa bo.1 bR λe=>absurd e (by decide))
    ·show F (by decide) (by simp) (λw hw=>z9l.mp hw▸wb) (qa bo.1 z9b λe=>absurd e (by decide))
    ·show F (by decide) (by simp) (uJ wl (f9 (by decide))) λo=>?_
     rcases o with⟨_,u,f,e,g,_⟩|⟨e,_⟩|⟨e,_⟩|⟨e,_⟩
     ·ext e;show bl g
     all_goals show absurd e (by decide)
  | false=>
    lia;show au (λ_=>?_) λe=>absurd e2 e
    lia;show AY p3 ∅ λb M4 hb p4 k4=>?_
    have bo:=AX b hb;lia;rw[ko];show fin [jc,b] M4 (by simp) (uJ (f9 (by decide)) (ky bo.2.2.2 (by have:=bo.2.2.1;ext))) (bads λo=>?_) k4 (p4.le ∅)
    ·rcases o with⟨e,_⟩|⟨_,f,e,g⟩|⟨e,_⟩
     ·show absurd e (by decide)
     ·ext e;show bo.1 g
     ·ext e
 lia;show au (λe=>absurd e e2) λ_=>?_
 lia;show au (λ_=>other rfl) λe5=>?_
 lia;rw[kh];show au (λ_=>?_) λe6=>?_
 ·lia
  show fin ([]::hd::rest) M3 (by erw[z9c];ext) (λw hw=>(z9g.mp hw).elim (λe=>e▸f9 (by decide)) (wal w)) (.inl z9b) Kp.refl (p3.le ∅)
 lia;show au (λ_=>?_) λe7=>?_
 ·lia
  rw[show aq (hd::rest)++[D.str (mkT [])]=aq (hd::rest++[[]])by simp[aq]];show fin (hd::rest++[[]]) M3 (by erw[z9f,z9c,z9k];ext) (λw hw=>(z8b.mp hw).elim (wal w) λe=>by rw[z9l.mp e];show f9 (by decide)) (.inl (z9q _ z9b)) Kp.refl (p3.le ∅)
 lia;show au (λ_=>?_) λe8=>?_
 ·lia
  show uF hn p3 ∅ λws M4 g4 p4 k4=>?_
  ext(⟨hd',rest',rfl,ro'⟩:uI hn g4);have rl':=ro'.ln;show fin (hd'::rest') M4 (by erw[z9c];ext) (λw hw=>(z9g.mp hw).elim (λe=>e▸pZ hd' (mz ro'.sd)) (ro'.wd w)) (bads λo=>OJ ro'.sd (B2 o)) k4 (p4.le ∅)
 lia;rw[z9a];have lr:(hd::rest).length=rest.length+1:=z9c;show bc p3 ∅ ∅ ∅ λi M4 i0 i1 p4 k4=>?_
 obtain⟨k,rfl⟩:∃k:Nat,i=k:=⟨i.toNat,by ext⟩;lia;show bc p4 ∅ ∅ ∅ λj M5 j0 j1 p5 k5=>?_
 obtain⟨J,rfl⟩:∃J:Nat,j=J:=⟨j.toNat,by ext⟩;lia;rw[show(1+(J:Int))=((J+1:Nat):Int)by ext,show(1+(k:Int))=((k+1:Nat):Int)by ext];show B7 ∅ ?_;rw[B3 ∅];show lw (by rw[z9a,z8f,z9y];ext) ?_;lia;rw[B4 ∅];show lw (by rw[z9f,z9a,z8f,z9y,z9a,z7l];ext) ?_;rw[show aq ((hd::rest).take (k+1))++List.replicate (J+1) (D.str (mkT []))++aq ((hd::rest).drop (k+1))=aq ((hd::rest).take (k+1)++List.replicate (J+1) []++(hd::rest).drop (k+1))by erw[aq,z8e,z3g]];show fin _ M5 (by rw[z9f,z9f,z8f,z9y,z7l];ext) (λw hw=>?_) (.inl (z8g _ (z9q _ (z4c.mpr ⟨by ext,rfl⟩)))) (k4.trans k5 λ_ z _=>z) (p5.le ∅);ext((hw|hw):z8b.mp hw)
 ·ext((hw|hw):z8b.mp hw)
  ·show wal w (List.mem_of_mem_take hw)
  ·rw[(z4c.mp hw).2];show f9 (by decide)
 ·show wal w (z4y hw)
def Bb(hm:M dk=some (.ins CD [] []))(h:∀pl fa ra M',M pl=none->M fa=none->M ra=none->Gath M' CD dk pl fa ra [] [] [] .non->Kp (· = dk) M M'->Q .non M'):pz CD C [.ptr dk] M Q:=by
 show bV rfl ?_;grind;show eV (Mo λpl hpl=>?_);have n1:dk≠pl:=λe=>by rw[e,hpl]at hm;ext hm
 lia;show⟨dk,_,rfl,(aP n1).trans hm,?_⟩;lia;show eV ?_;lia;intro fa hfa;have n2:fa≠dk:=λe=>by rw[e,aE]at hfa;ext hfa
 rw[aP n2]at hfa;have n3:fa≠pl:=λe=>by rw[e,aE]at hfa;ext hfa
 rw[aP n3]at hfa;lia;show⟨dk,_,rfl,(aP (Ne.symm n2)).trans aE,?_⟩;lia;show eV ?_;lia;intro ra hra;have n4:ra≠dk:=λe=>by rw[e,aE]at hra;ext hra
 rw[aP n4]at hra;have n5:ra≠fa:=λe=>by rw[e,aE]at hra;ext hra
 rw[aP n5,aP n4]at hra;have n6:ra≠pl:=λe=>by rw[e,aE]at hra;ext hra
 rw[aP n6]at hra;lia;show⟨dk,_,rfl,(aP (Ne.symm n4)).trans aE,?_⟩;lia;show eV ?_;lia;show⟨dk,_,rfl,aE,?_⟩;rw[eD];lia;show eV ?_;lia;show⟨dk,_,rfl,aE,?_⟩;rw[eD];lia;show h pl fa ra _ hpl hfa hra ⟨aE,?_,?_,?_,Ne.symm n5⟩ λx cc hx hn=>?_
 ·rw[aP (Ne.symm n1),aP (Ne.symm n6),aP (Ne.symm n1),aP (Ne.symm n3),aP (Ne.symm n1),aE]
  rfl
 ·rw[aP n2,aP (Ne.symm n5),aP n2,aE]
  rfl
 ·rw[aP n4,aE]
  rfl
 ·have f:∀{y:Nat},M y=none->x≠y:=λ{y} hy e=>by rw[e,hy]at hx;ext hx
  rw[aP hn,aP (f hra),aP hn,aP (f hfa),aP hn,aP (f hpl),hx]
inductive DS where
 |ga (nm:List z9) (fs:h_) (ts:List h_) (u:D)
 |op (nm:List z9) (off:D_)
def Dk(CD C:Nat)(M:Sto)(dk:Nat):DS->(Nat->Prop)->Prop
 |.ga nm fs ts u,F=>∃pl fa ra,Gath M CD dk pl fa ra nm fs ts u/\F=S4 dk pl fa ra
 |.op nm off,F=>∃pl o,Opn M CD C dk pl o nm off/\F=λx=>x=dk\/x=pl\/x=o
section
variable {p:Nat}{st:DS}{F:Nat->Prop}
def Dk.keep(g:Dk CD C M dk st F)(k:∀x c,F x->M x=some c->M' x=some c):Dk CD C M' dk st F:=by
 cases st with
 |ga nm fs ts u=>ext(⟨pl,fa,ra,g,rfl⟩:g);show⟨pl,fa,ra,⟨k _ _ (.inl rfl) g.hd,k _ _ (.inr (.inl rfl)) g.hp,k _ _ (.inr (.inr (.inl rfl))) g.hf,k _ _ (.inr (.inr (.inr rfl))) g.hr,g.ne⟩,rfl⟩
 |op nm off=>ext(⟨pl,o,⟨⟨f,r,u,h1⟩,h2,h3⟩,rfl⟩:g);show⟨pl,o,⟨⟨f,r,u,k _ _ (.inl rfl) h1⟩,k _ _ (.inr (.inl rfl)) h2,k _ _ (.inr (.inr rfl)) h3⟩,rfl⟩
def Dk.al(g:Dk CD C M dk st F):∀x,F x->M x≠none:=by
 intro x hx e;cases st with
 | ga nm fs ts u=>
   ext(⟨pl,fa,ra,g,rfl⟩:g);ext((rfl|rfl|rfl|rfl):hx)
   ·rw[g.hd]at e;ext e
   ·rw[g.hp]at e;ext e
   ·rw[g.hf]at e;ext e
   ·rw[g.hr]at e;ext e
 | op nm off=>
   ext(⟨pl,o,⟨⟨f,r,u,h1⟩,h2,h3⟩,rfl⟩:g);ext((rfl|rfl|rfl):hx)
   ·rw[h1]at e;ext e
   ·rw[h2]at e;ext e
   ·rw[h3]at e;ext e
structure Pr (CD C:Nat) (M:Sto) (d1 d2:Nat) (st:DS) (p:Nat->Prop):Prop where
 ex:∃F1 F2,Dk CD C M d1 st F1/\Dk CD C M d2 st F2/\(∀x,F1 x->¬F2 x)/\∀x,p x->¬F1 x/\¬F2 x
def Pr.keep{S p:Nat->Prop}(g:Pr CD C M d1 d2 st p)(k:Kp S M M')(h:∀x,S x->p x):Pr CD C M' d1 d2 st p:=by ext(⟨F1,F2,g1,g2,g3,g4⟩:g.ex);show⟨F1,F2,g1.keep λx c hf hm=>k x c hm λz=>(g4 x (h x z)).1 hf,g2.keep λx c hf hm=>k x c hm λz=>(g4 x (h x z)).2 hf,g3,g4⟩
def Pr.fresh{P:Nat->Prop}(g:Pr CD C M d1 d2 st P)(hp:M p=none):Pr CD C M d1 d2 st (· = p):=by ext(⟨F1,F2,g1,g2,g3,g4⟩:g.ex);show⟨F1,F2,g1,g2,g3,λx e=>⟨λf=>g1.al x f (e▸hp),λf=>g2.al x f (e▸hp)⟩⟩
def Pr.none{P:Nat->Prop}(g:Pr CD C M d1 d2 st P):Pr CD C M d1 d2 st (λ_=>False):=by ext(⟨F1,F2,g1,g2,g3,g4⟩:g.ex);show⟨F1,F2,g1,g2,g3,λx e=>e.elim⟩
def mB(CD C:Nat)(z:Str)(st st':DS)(res:D):Prop:=
 ∀(M:Sto) (dk:Nat) (F:Nat->Prop) (Q:QE),Dk CD C M dk st F->(∀M' F',Dk CD C M' dk st' F'->Kp F M M'->(∀x,F' x->F x\/M x=none)->Q res M')->io CD C [.ptr dk,.str z] M Q
def uK(J:Nat->DS->Prop)(hs:∀k (hk:k<rows.length) st,J k st->∃st' res,mB CD C rows[k] st st' res/\bD 4 res=true/\J (k+1) st'){P:Nat->Prop}(h0:J 0 st)(g:Pr CD C M d1 d2 st P)(h:∀M' st',J rows.length st'->Pr CD C M' d1 d2 st' (λ_=>False)->Q (.bl true) M'):j6 CD C [.ptr d1,.ptr d2,.lst (rows.map D.str)] M Q:=by
 show bV rfl ?_;grind;show oA D.str rows (λk ρ M'=>∃b,ρ=[some (.ptr d1),some (.ptr d2),some (.lst (rows.map D.str)),b]/\∃st,J k st/\Pr CD C M' d1 d2 st (λ_=>False)) ⟨_,rfl,st,h0,g.none⟩ ?_ ?_
 ·rintro ρ M1 ⟨b,rfl,st1,j1,g1⟩
  lia;show h M1 st1 j1 g1
 ·rintro k hk ρ M1 ⟨b,rfl,st1,j1,g1⟩ N hN
  ext(⟨st2,res,sd,hf,j2⟩:hs k hk st1 j1);ext(⟨F1,F2,q1,q2,q3,_⟩:g1.ex);grind;show sd M1 d1 F1 _ q1 λM2 F1' e1 k2 n1=>?_
  have q2':Dk CD C M2 d2 st1 F2:=q2.keep λx c hx hm=>k2 x c hm λz=>q3 x z hx
  have dj:∀x,F1' x->¬F2 x:=λx hx hx2=>(n1 x hx).elim (λz=>q3 x z hx2) λz=>q2.al x hx2 z
  lia;show sd M2 d2 F2 _ q2' λM3 F2' e2 k3 n2=>?_
  have e1':Dk CD C M3 d1 st2 F1':=e1.keep λx c hx hm=>k3 x c hm (dj x hx)
  show⟨.bl false,by rw[neD,if_pos ⟨hf,hf⟩,nU 4 _ hf];rfl,?_⟩;lia;show hN _ _ ⟨_,rfl,st2,j2,⟨F1',F2',e1',e2,λx hx hx2=>(n2 x hx2).elim (dj x hx) λz=>e1.al x hx z,λ_ z=>z.elim⟩⟩
end
section
variable {fs:h_}{ts:List h_}{of:Int}
def uL{nm':List z9}{fs':h_}{ts':List h_}{u':D}(h:∀(M:Sto) dk pl fa ra Q EX,Gath M CD dk pl fa ra nm fs ts u->(∀M',Gath M' CD dk pl fa ra nm' fs' ts' u'->Kp (S4 dk pl fa ra) M M'->Q (.str "ok") M')->cC CD C [.ptr dk,.str z] M Q EX):
  mB CD C z (.ga nm fs ts u) (.ga nm' fs' ts' u') (.str "ok"):=λM dk F Q ⟨pl,fa,ra,g,e⟩ hq=>by
 subst e;show Az (P:=λM'=>Gath M' CD dk pl fa ra nm' fs' ts' u'/\Kp (S4 dk pl fa ra) M M') g.hd (λQ EX h2=>h M dk pl fa ra Q EX g λM' g' k'=>h2 M' ⟨g',k'⟩) λM' ⟨g',k'⟩=>hq M' _ ⟨pl,fa,ra,g',rfl⟩ k' λx hx=>.inl hx
def ON(s:Sale S fs ts r c of d):mB CD C (mkT (uD S)) (.ga nm fs ts (.tup [.int r,.int c,.int of,.int d])) (.op nm (bb S fs ts r c of d 0 0 0 .non .non)) (.str "ok"):=λM dk F Q ⟨pl,fa,ra,g,e⟩ hq=>by
 subst e;show Az (P:=λM'=>∃o,M o=none/\Opn M' CD C dk pl o nm (bb S fs ts r c of d 0 0 0 .non .non)/\Kp (S4 dk pl fa ra) M M') g.hd (λQ EX h2=>Oi s g λo M' ho g' k'=>h2 M' ⟨o,ho,g',k'⟩) λM' ⟨o,ho,g',k'⟩=>hq M' _ ⟨pl,o,g',rfl⟩ k' λx hx=>?_
 ext((rfl|rfl|rfl):hx)
 ·show .inl (.inl rfl)
 ·show .inl (.inr (.inl rfl))
 ·show .inr ho
def Bc(rr:Res):bD 4 (Ax rr)=true:=by ext rr<;>rfl
def OO{P:D_->Prop}(h:eY CD C nm off z P)(hp:P off):∃off' res,mB CD C z (.op nm off) (.op nm off') res/\bD 4 res=true/\P off':=by
 ext(⟨rr,h1,h2⟩:h);cases rr with
 |ans y off'=>show⟨off',_,λM dk F Q ⟨pl,o,g,e⟩ hq=>?_,Bc (.ans y off'),h2 y off' rfl⟩;subst e;ext(⟨f,r0,u0,e1⟩:g.hd);show pP e1 (h1 M dk pl o g) λM1 a1=>hq M1 _ ⟨pl,o,g.upd a1.1 a1.2,rfl⟩ (λb cc hb hn=>a1.1 b cc hb λz=>hn (.inr (.inr z))) λx hx=>.inl hx
 |ref x=>show⟨off,_,λM dk F Q ⟨pl,o,g,e⟩ hq=>?_,Bc (.ref x),hp⟩;subst e;ext(⟨f,r0,u0,e1⟩:g.hd);show pP e1 (h1 M dk pl o g) λM1 a1=>hq M1 _ ⟨pl,o,g.keep a1,rfl⟩ (λb cc hb hn=>a1 b cc hb id) λx hx=>.inl hx
def Al(CD C:Nat)(nl:List z9)(S:Nat)(fs:h_)(ts:List h_)(r c of d:Int)(z:Str):Prop:=∀off,cw S fs ts r c of d off->eY CD C (nl.take fs.length) off z (cw S fs ts r c of d)
def OP(s:Sale S fs ts r c of d)(hn:Names nl)(h:pW nl false ws):Al CD C nl S fs ts r c of d (mkT (aZ [32] ws)):=by
 intro off ok;ext(⟨n,hm,k,hk,hw⟩:h);have ln:=hn.len;have ask:eY CD C (nl.take fs.length) off (mkT ([97,115,107]++[32]++n)) (cw S fs ts r c of d):=by
  by_cases hi:n∈nl.take fs.length
  ·ext(⟨j,hj,rfl⟩:List.mem_iff_getElem.mp hi)
   show Od s ok (by rw[z8f];have:=s.f2;ext) hj (hn.nd.sublist (List.take_sublist _ _)) (hn.ok _ hm)
  ·show Oe hi (hn.ok n hm)
 have hw:ws∈jd n (aM (k:Nat)):=hw;erw[jd,z9g,z8m,z7u]at hw;ext((rfl|rfl|rfl|rfl|rfl|rfl|rfl|rfl|rfl):hw)
 ·show ask
 ·show ask
 ·have:=AD (CD:=CD) (C:=C) (nm:=nl.take fs.length) s ok;rwa [AO]at this
 ·show AE s ok ∅
 ·have:=AG (CD:=CD) (C:=C) (nm:=nl.take fs.length) s ok;rwa [AQ]at this
 ·have:=AH (CD:=CD) (C:=C) (nm:=nl.take fs.length) s ok;rwa [AR]at this
 ·have:=uB (CD:=CD) (C:=C) (nm:=nl.take fs.length) s ok;rwa [AS]at this
 ·have:=uC (CD:=CD) (C:=C) (nm:=nl.take fs.length) ok;rwa [AT]at this
 ·have:=AI (CD:=CD) (C:=C) (nm:=nl.take fs.length) s ok;rwa [AU]at this
def StB(nl:List z9)(S:Nat)(fs:h_)(ts:List h_)(r c of d:Int)(st:DS):Prop:=∃off,st=.op (nl.take fs.length) off/\cw S fs ts r c of d off
variable {st:DS}{P:Nat->Prop}
def Be(hr:∀z∈rows,Al CD C nl S fs ts r c of d z)(h0:StB nl S fs ts r c of d st)(g:Pr CD C M d1 d2 st P)(h:∀M' st',StB nl S fs ts r c of d st'->Pr CD C M' d1 d2 st' (λ_=>False)->Q (.bl true) M'):j6 CD C [.ptr d1,.ptr d2,.lst (rows.map D.str)] M Q:=
 uK (λ_ st=>StB nl S fs ts r c of d st) (λk hk st ⟨off,e,ok⟩=>by subst e;ext(⟨off',res,h1,h2,h3⟩:OO (hr _ (z9w hk) off ok) ok);show⟨_,res,h1,h2,off',rfl,h3⟩) h0 g h
def OQ(hw:Ws ws)(hb:Bad (okS ah) ws)(hA:ah=true->∃nm fs ts u,st=.ga nm fs ts u)(hB:ah=false->∃nm off,st=.op nm off)(g:Pr CD C M d1 d2 st P)(h:∀M',Kp (λ_=>False) M M'->Q (.lst (uz "NoRow")) M'):io CD C [.ptr d1,.str (mkT (aZ [32] ws))] M Q:=by
 ext(⟨F1,F2,g1,g2,g3,g4⟩:g.ex);cases ah with
 |true=>ext(⟨nm,fs,ts,u,rfl⟩:hA rfl);ext(⟨pl,fa,ra,g,rfl⟩:g1);show pP (o:=d1) (r:=.ref "NoRow") g.hd ⟨by decide,λQ EX hx=>Op hw hb g.hd hx⟩ λM1 a1=>h M1 a1
 |false=>ext(⟨nm,off,rfl⟩:hB rfl);ext(⟨pl,o,g,rfl⟩:g1);ext(⟨f,r0,u0,e1⟩:g.hd);show pP (o:=o) (r:=.ref "NoRow") e1 ⟨by decide,λQ EX hx=>Oq hw hb g hx⟩ λM1 a1=>h M1 a1
end
section
variable {fs:h_}{ts:List h_}{of:Int}{st:DS}{P:Nat->Prop}
def OR:D.lst (uz "NoRow")=.lst ([.bl true,.bl true]++List.replicate 9 (.bl false)):=by rfl
def OS(hn:Names nl)(h:pW nl ah ws):Ws ws:=by ext(⟨hd,rest,rfl,ro⟩:uI hn h);have:=ro.ln;show⟨by erw[z9c];ext,λw hw=>(z9g.mp hw).elim (λe=>e▸pZ hd (mz ro.sd)) (ro.wd w)⟩
def Bf{K:D->Prop}(hw:Ws ws)(h:K (.str (mkT (aZ [32] ws)))):W1 (dY (.str " ")) (.lst (aq ws)) K:=by
 show iW (s:=" ") ?_ (by rw[g9,aw];show h);have h2:=AL λx hx=>(hw.ok x hx).2.2
 have:=hw.len;rw[g9,aw];erw[z9c,z9k];ext
def uM{ps:h_}{G:DS->Prop}(hl:ns.length<=63)(s:Sale S fs ts r c of d)(hn:Names nl)(hps:∀k∈ps,0<=k/\k<=100)(hA:ah=true->∀st,G st->∃nm fs ts u,st=.ga nm fs ts u)(hB:ah=false->∀st,G st↔StB nl S fs ts r c of d st)(h0:G st)(g:Pr CD C M d1 d2 st P)(h:∀M' st',G st'->Pr CD C M' d1 d2 st' (λ_=>False)->Q (.bl true) M'):m7 CD C [.ptr d1,.ptr d2,.scr ns,.lst (ps.map D.int),.lst (aq nl),.bl ah] M Q:=by
 show bV rfl ?_;grind;show oA D.int ps (λk ρ M'=>∃b c d,ρ=[some (.ptr d1),some (.ptr d2),some (.scr ns),some (.lst (ps.map D.int)),some (.lst (aq nl)),some (.bl ah),b,c,d]/\∃st,G st/\Pr CD C M' d1 d2 st (λ_=>False)) ⟨_,_,_,rfl,st,h0,g.none⟩ ?_ ?_
 ·rintro ρ M1 ⟨b,c,d,rfl,st1,j1,g1⟩
  lia;show h M1 st1 j1 g1
 ·rintro k hk ρ M1 ⟨b,c',d',rfl,st1,j1,g1⟩ N hN
  have hk2:=hps _ (z9w hk);grind;show au (λe=>?_) λe=>?_
  ·lia
   show pA hk2.1 ∅ λp M2 hp P2 K2=>?_
   have g2:=(g1.fresh hp).keep K2 λ_ z=>z.elim
   lia;show OM hn P2 ∅ λws M3 hw hb k3 P3=>?_
   have g3:=g2.keep k3 λ_ z=>z
   show Bf hw ?_;lia;show OQ hw hb (λe=>hA e st1 j1) (λe=>by ext(⟨off,e2,_⟩:(hB e st1).mp j1);show⟨_,_,e2⟩) g3 λM4 k4=>?_
   have g4:=g3.keep k4 λ_ z=>z.elim
   have P4:=P3.keep k4 id;lia;show⟨_,rfl,_,rfl,.bl false,?_,?_⟩
   ·rw[OR]
    have hf:bD 4 (.lst ([.bl true,.bl true]++List.replicate 9 (.bl false)))=true:=rfl;change neD (.lst ([.bl true,.bl true]++List.replicate 9 (.bl false))) (.lst ([.bl true,.bl true]++List.replicate 9 (.bl false)))=_;rw[neD,if_pos ⟨hf,hf⟩,nU 4 _ hf];rfl
   lia;show uF hn P4 ∅ λws2 M5 rg P5 k5=>?_
   have g5:=g4.keep k5 λ_ z=>z
   show Bf (OS hn rg) ?_;cases ah with
   |true=>lia;show hN _ _ ⟨_,_,_,rfl,st1,j1,g5.none⟩
   | false=>
     lia;show bc P5 ∅ ∅ ∅ λq M6 q0 q1 P6 k6=>?_
     have g6:=g5.keep k6 λ_ z=>z
     lia;show au (λ_=>?_) λ_=>?_
     ·lia
      show Be (rows:=[mkT (aZ [32] ws2)]) (λz hz=>by rw[z9l.mp hz];show OP s hn rg) ((hB rfl st1).mp j1) g6 λM7 st2 j2 g7=>?_
      lia;show hN _ _ ⟨_,_,_,rfl,st2,(hB rfl st2).mpr j2,g7⟩
     ·lia
      show hN _ _ ⟨_,_,_,rfl,st1,j1,g6.none⟩
  ·lia
   show hN _ _ ⟨_,_,_,rfl,st1,j1,g1⟩
end
def Names.nin{k:Nat}(hn:Names nl)(h:k<=6):nl[k]'(by rw[hn.len];ext)∉nl.take k:=by have hp:=hn.nd;intro hm;ext(⟨j,hj,e⟩:List.mem_iff_getElem.mp hm);rw[List.getElem_take]at e;rw[z8f]at hj;rw[List.Nodup,List.pairwise_iff_getElem]at hp;show hp j k ∅ (by rw[hn.len];ext) ∅ e
def OT:("class " : Str)=mkT (dO++[32]):=by decide +kernel
def OU:("turn " : Str)=mkT (eZ++[32]):=by decide +kernel
def OV:("rule " : Str)=mkT (f8++[32]):=by decide +kernel
def OW:("open " : Str)=mkT (fI++[32]):=by decide +kernel
def Bg(h:ls≠[]):w++[32]++aZ [32] ls=aZ [32] (w::ls):=by
 cases ls with
 |nil=>show absurd rfl h
 |cons a r=>rw[aZ]
def Bh(h:∀x∈xs,Bd x):∀l∈xs.map aM,l.length<=202:=λl hl=>by ext(⟨x,hx,rfl⟩:z8i.mp hl);show km (h x hx)
def Bi{K:D->Prop}{fi:FEs}{is:WI fi ρ λds=>ds=xs.map D.int}(hb:∀x∈xs,Bd x)(hl:xs.length<=1000)(h:K (.lst (aq (xs.map aM)))):WE (c7 1 [] [0] un1 fi cg (eA (aB cr) (a8 (a5 0) (ak)))) ρ K:=by
 show hG (α:=Int) ?_;ext(⟨ds,e,rfl⟩:is);show⟨_,e,D.int,λx=>.str (mkT (aM x)),xs,rfl,by ext,λx hx=>⟨[.int x],rfl,?_⟩,?_⟩
 ·walk_at"env"
  lia;show fZ (lg (hb x hx)) ?_;lia
 ·rw[aq,z8x]at h
  show h
noncomputable def stA(nl:List z9)(fs:h_)(ts:List h_)(ru:D)(k:Nat):DS:=.ga (nl.take (min k fs.length)) (fs.take k) (ts.take (k-fs.length)) (if k<=fs.length+ts.length then .non else ru)
def iz(nl:List z9)(fs:h_)(ts:List h_)(r c of d:Int):List z9:=(fs.zipIdx.map λp=>ja (nl.getD p.2 []) p.1)++(ts.map pS++[AJ r c of d])
section
variable {fs:h_}{ts:List h_}{of:Int}
def OX(s:Sale S fs ts r c of d)(hn:Names nl){k:Nat}(hk:(iz nl fs ts r c of d)[k]?=some l):mB CD C (mkT l) (stA nl fs ts (.tup [.int r,.int c,.int of,.int d]) k) (stA nl fs ts (.tup [.int r,.int c,.int of,.int d]) (k+1)) (.str "ok"):=by
 have hl:=hn.len;have f1:=s.f1;have f2:=s.f2;have t1:=s.t1;unfold iz at hk;unfold stA;by_cases h1:k<fs.length
 ·rw[z8c (⇑h1),z9x,List.getElem?_zipIdx,z9p h1]at hk
  erw[z7b,Nat.zero_add,z7y]at hk;subst hk;have hkn:k<nl.length:=by ext
  have hf:=s.f3 _ (z9w h1);rw[z8y,z9p hkn,z7g,show min k fs.length=k by ext,show min (k+1) fs.length=k+1 by ext,show k-fs.length=0 by ext,show k+1-fs.length=0 by ext,if_pos ∅,if_pos ∅,List.take_zero];show uL λM dk pl fa ra Q EX g h=>Of g (hn.nin ∅) (hn.ok _ (z9w hkn)) hf.1 hf.2 (by rw[z8f,z8f];ext) (by rw[z8f];ext) λM' g' k'=>h M' ?_ k'
  rw[z7a hkn,z7a h1];show g'
 ·rw[z9z (⇑h1),z9a,List.length_zipIdx]at hk
  rw[show min k fs.length=fs.length by ext,show min (k+1) fs.length=fs.length by ext,z8t (show fs.length<=k by ext),z8t (show fs.length<=k+1 by ext),show k+1-fs.length=(k-fs.length)+1 by ext];by_cases h2:k-fs.length<ts.length
  ·rw[z8c (⇑h2),z9x,z9p h2]at hk
   erw[z7b,z7y]at hk;subst hk;rw[if_pos ∅,if_pos ∅];show uL λM dk pl fa ra Q EX g h=>Og g (s.t2 _ (z9w h2)) f1 f2 (by rw[z8f];ext) λM' g' k'=>h M' ?_ k'
   rw[z7a h2];show g'
  ·rw[z9z (⇑h2),z9a]at hk
   have e3:k-fs.length-ts.length=0:=by have:=(z9e.mp hk).1;erw[z9c,z9k]at this;ext
   rw[e3]at hk;ext hk;rw[if_pos ∅,if_neg ∅,z8t (show ts.length<=k-fs.length by ext),z8t (show ts.length<=k-fs.length+1 by ext)];show uL λM dk pl fa ra Q EX g h=>Oh s g h
end
def OY{dk2:Nat}{M5:Sto}{cc:Cell}(g4:Gath M CD dk pl fa ra [] [] [] .non)(h2:M dk2=none){pl2 fa2 ra2:Nat}(hpl:aD M dk2 cc pl2=none)(hfa:aD M dk2 cc fa2=none)(hra:aD M dk2 cc ra2=none)(g5:Gath M5 CD dk2 pl2 fa2 ra2 [] [] [] .non)(k5:Kp (· = dk2) (aD M dk2 cc) M5):Pr CD C M5 dk dk2 (.ga [] [] [] .non) (λ_=>False):=by
 have fr:∀{x:Nat},aD M dk2 cc x=none->M x=none:=λ{x} hx=>by
  by_cases e:x=dk2
  ·rw[e];show h2
  ·rwa [aP e]at hx
 have al:∀x,S4 dk pl fa ra x->M x≠none:=(show Dk CD C M dk (.ga [] [] [] .non) (S4 dk pl fa ra)from⟨pl,fa,ra,g4,rfl⟩).al;show⟨S4 dk pl fa ra,S4 dk2 pl2 fa2 ra2,(show Dk CD C M dk (.ga [] [] [] .non) (S4 dk pl fa ra)from⟨pl,fa,ra,g4,rfl⟩).keep λx c hx hm=>?_,⟨pl2,fa2,ra2,g5,rfl⟩,λx hx=>?_,λ_ z=>z.elim⟩
 ·have ne:x≠dk2:=λe=>al x hx (e▸h2)
  show k5 x c ((aP ne).trans hm) ne
 ·rintro(rfl|rfl|rfl|rfl)
  ·show al _ hx h2
  ·show al _ hx (fr hpl)
  ·show al _ hx (fr hfa)
  ·show al _ hx (fr hra)
def OZ{fs:h_}{ts:List h_}{of:Int}:cw S fs ts r c of d (bb S fs ts r c of d 0 0 0 .non .non):=⟨0,0,0,.non,.non,rfl,by ext,by ext,by ext,by ext,.inl rfl,.inl rfl⟩
def Pa:("came 0" : Str)=mkT ([99,97,109,101]++[32]++aM ((0:Nat):Int)):=by rw[show aM ((0:Nat):Int)=[48]by rw[Aj ∅];change digs 0=_;rw[digs];rfl];decide +kernel
def uN{j:Int}{K:D->Prop}(h0:0<=i)(h1:i<=j)(h2:j<=100)(h:∀ps:h_,(∀k∈ps,0<=k/\k<=100)->K (.lst (ps.map D.int))):WF lrD [.int i,.int j] K:=by
 show⟨.lst (((List.range (j-i).toNat).map λ(k:Nat)=>i+(k:Int)).map D.int),?_,h _ λk hk=>?_⟩
 ·erw[lrD]
  rw[if_pos ⟨h0,h1,by ext⟩,z8x];rfl
 ·ext(⟨x,hx,rfl⟩:z8i.mp hk)
  rw[z7q]at hx;ext
def Pb(ns:h_)(hl:ns.length<=63)(CD C:Nat):uc CD C [.scr ns] (λ_=>none) λd _=>d=.bl true:=by
 show bV rfl ?_;grind;show MI ∅ ∅ λS fs ts r c of d M1 hS f1 f2 f3 t1 t2 r1 r2 c1 c2 o1 o2 d1 d2 K1=>?_
 have s:Sale S fs ts r c of d:=⟨hS,f1,f2,f3,t1,t2,r1,r2,c1,c2,o1,o2,d1,d2⟩;lia;show pA ∅ ∅ λp0 M2 hp0 P2 K2=>?_
 lia;show NC P2 ∅ λnl M3 hn K3 P3=>?_
 have hln:=hn.len;lia;show zJ λdk hdk=>?_
 show Bb aE λpl fa ra M4 hpl hfa hra g4 k4=>⟨rfl,?_⟩
 lia;show zJ λdk2 hdk2=>?_
 show Bb aE λpl2 fa2 ra2 M5 hpl2 hfa2 hra2 g5 k5=>⟨rfl,?_⟩
 have pr:Pr CD C M5 dk dk2 (.ga [] [] [] .non) (λ_=>False):=OY g4 hdk2 hpl2 hfa2 hra2 g5 k5;grind;show hG (α:=Int×Nat) ?_;lia;show⟨λp=>.tup [.int (p.2:Nat),.int p.1],λp=>.str (mkT (ja (nl.getD p.2 []) p.1)),fs.zipIdx,yc _ _,by simp;ext,λp hp=>⟨_,rfl,?_⟩,?_⟩
 ·have hp2:=List.snd_lt_of_mem_zipIdx hp
  have hp1:=f3 _ (List.fst_mem_of_mem_zipIdx hp);have hk:p.2<nl.length:=by ext
  have gn:=(hn.ok _ (z9w hk)).1.2;have ld:=km (i:=p.1) ⟨by ext,by ext⟩;grind;show jI (pV hk) ?_;rw[OT];show dF (by erw[z9f,z9c,z9k,dO];ext) ?_;lia;rw[g9];show dF (by erw[z9f,z9c,z9k,dO];ext) ?_;lia;show fZ (lg ⟨by ext,by ext⟩) ?_;show dF (by erw[z9f,z9c,z9k,dO];ext) ?_;rw[ja,z8y,z9p hk];simp[aZ]
 rw[show(fs.zipIdx.map λp=>D.str (mkT (ja (nl.getD p.2 []) p.1)))=aq (fs.zipIdx.map λp=>ja (nl.getD p.2 []) p.1)by rw[aq,z8x];rfl];generalize hA:fs.zipIdx.map (λp=>ja (nl.getD p.2 []) p.1)=rs;have lA:rs.length=fs.length:=by rw[<- hA];simp
 show⟨_,rfl,λa1 ha1=>?_⟩;lia;show⟨by rw[z9a];ext,?_⟩;show ic DI ts (λk ds M'=>ds=aq ((ts.take k).map pS)/\M'=aD M5 a1 (.lst (aq rs))) ⟨by simp[aq],rfl⟩ ?_ ?_
 ·rintro ds _ ⟨rfl,rfl⟩
  rw[List.take_length];show⟨_,_,g8 aE,rfl,by simp[aq];ext,λa2 ha2=>?_⟩;rw[aq,aq,<- z8e];grind;show⟨a2,_,rfl,aE,?_⟩;have hrb:∀x∈[r,c,of,d],Bd x:=λx hx=>by erw[z9g,z8m,z7u]at hx;constructor<;>ext
  have hls:=pO (Bh hrb);have hjl:=ma 32 ([r,c,of,d].map aM) (by simp);rw[z9a]at hls hjl;erw[z9c,z9k]at hls hjl;lia;show Bi (xs:=[r,c,of,d]) (is:=?_) hrb (by simp) ?_
  ·lia
   rfl
  show iW (by rw[g9,aw];erw[z9a,z9c,z9k];ext) ?_;rw[g9,aw,OV];show dF (by erw[z9f,z9c,z9k,f8];ext) ?_;rw[Bg (by simp)];show⟨_,aE,by simp;ext,?_⟩;rw[show List.map (λl=>D.str (mkT l)) (rs++ts.map pS)++[D.str (mkT (aZ [32] (f8::List.map aM [r,c,of,d])))]=aq (iz nl fs ts r c of d)by rw[<- hA];erw[aq,iz,z8e,z7o];rfl];lia;show sR rfl aE ?_;grind;show uN ∅ ∅ ∅ λps hps=>?_
  lia;show uM (G:=λst=>st=.ga [] [] [] .non) hl s hn hps (λ_ st e=>⟨_,_,_,_,e⟩) (λe=>nomatch e) rfl ((((((pr.keep (Kp.upd (S:=λ_=>False) (.inr ha1)) λ_ z=>z).fresh ha2).keep (Kp.upd (S:=(· = a2)) (.inl rfl)) λ_ z=>z).keep (Kp.upd (S:=(· = a2)) (.inl rfl)) λ_ z=>z).keep (Kp.del (S:=(· = a2)) rfl) λ_ z=>z).none) λM8 st8 e8 pr8=>?_
  subst e8;lia;rw[show aq (iz nl fs ts r c of d)=((iz nl fs ts r c of d).map mkT).map D.str by rw[z8x];rfl];have hal:((iz nl fs ts r c of d).map mkT).length=fs.length+ts.length+1:=by unfold iz;erw[z9a,z9f,List.length_zipIdx,z9c,z9k];ext
  show uK (λk st=>st=stA nl fs ts (.tup [.int r,.int c,.int of,.int d]) k) (λk hk st e=>by subst e;show⟨_,.str "ok",?_,rfl,rfl⟩;rw[List.getElem_map];show OX s hn (z9p (⇑hk))) (by simp[stA]) pr8 λM9 st9 e9 pr9=>?_
  have e9':st9=.ga (nl.take fs.length) fs ts (.tup [.int r,.int c,.int of,.int d]):=by rw[e9,hal];unfold stA;rw[show min (fs.length+ts.length+1) fs.length=fs.length by ext,z8t (show fs.length<=fs.length+ts.length+1 by ext),z8t (show ts.length<=fs.length+ts.length+1-fs.length by ext),if_neg ∅]
  clear e9;subst e9';lia;show uN ∅ ∅ ∅ λps2 hps2=>?_
  lia;show uM (G:=λst=>st=.ga (nl.take fs.length) fs ts (.tup [.int r,.int c,.int of,.int d])) hl s hn hps2 (λ_ st e=>⟨_,_,_,_,e⟩) (λe=>nomatch e) rfl pr9 λM10 st10 e10 pr10=>?_
  subst e10;lia;show fZ (lg ⟨by ext,by ext⟩) ?_;have ld:=km (i:=(S:Nat)) ⟨by ext,by ext⟩;rw[OW];show dF (by erw[z9f,z9c,z9k,fI];ext) ?_;lia;show uK (rows:=[mkT (uD S)]) (λk st=>st=if k=0 then .ga (nl.take fs.length) fs ts (.tup [.int r,.int c,.int of,.int d])else .op (nl.take fs.length) (bb S fs ts r c of d 0 0 0 .non .non)) (λk hk st e=>?_) rfl pr10 λM11 st11 e11 pr11=>?_
  ·have:k=0:=⇑hk
   subst this;have e:st=.ga (nl.take fs.length) fs ts (.tup [.int r,.int c,.int of,.int d]):=e;subst e;show⟨_,.str "ok",ON s,rfl,rfl⟩
  have e11:st11=.op (nl.take fs.length) (bb S fs ts r c of d 0 0 0 .non .non):=e11;lia;show uN ∅ ∅ ∅ λps3 hps3=>?_
  lia;show uM (G:=StB nl S fs ts r c of d) hl s hn hps3 (λe=>nomatch e) (λ_ st=>Iff.rfl) ⟨_,e11,OZ⟩ pr11 λM12 st12 e12 pr12=>?_
  lia;rw[z9a];show B7 ∅ ?_;lia;rw[show List.replicate ts.length (D.str "quiet")++[D.str "left",.str "turns",.str "coins",.str "why",.str "worth",.str "came 0",.str "coins",.str "why"]=(List.replicate ts.length ("quiet" : Str)++(["left","turns","coins","why","worth","came 0","coins","why"]:i_)).map D.str by erw[z8e,z3g,z9r,z6b]];show Be (λz hz off ok=>?_) e12 pr12 λM13 st13 _ _=>rfl
  ext((hz|hz):z8b.mp hz)
  ·rw[(z4c.mp hz).2];show AD s ok
  ·erw[z9g,z8m,z7u]at hz
   ext((rfl|rfl|rfl|rfl|rfl|rfl|rfl|rfl):hz)
   ·show AG s ok
   ·show AH s ok
   ·show uB s ok
   ·show uC ok
   ·show AI s ok
   ·rw[Pa];show AE s ok ∅
   ·show uB s ok
   ·show uC ok
 ·rintro k hk ds _ ⟨rfl,rfl⟩ N hN
  have hr:=t2 _ (z9w hk);have hrb:∀x∈ts[k],Bd x:=λx hx=>by have:=hr.2.1 x hx;constructor<;>ext
  have hls:=pO (Bh hrb);have hrl:=hr.1;rw[z9a]at hls;grind;show Bi (xs:=ts[k]) (is:=?_) hrb ∅ ?_
  ·lia
  show iW (by rw[g9,aw];erw[z9a,z9c,z9k];ext) ?_;rw[g9,aw,OU];have hjl:=ma 32 (ts[k].map aM) (by intro e;have:=z7d List.length e;erw[z9a,z9k]at this;ext);rw[z9a]at hjl;show dF (by erw[z9f,z9c,z9k,eZ];ext) ?_;show hN _ _ ⟨?_,rfl⟩;rw[z7a hk,aq,aq,z8e,z8e,Bg (by intro e;have:=z7d List.length e;erw[z9a,z9k]at this;ext)];rfl
end My
end VL
namespace VL
namespace My
open PySem PySem.Spec PyProof.Rows L2
noncomputable def top(i:Nat):Stmt:=PySem.Challenge.pw_latefare_k50_refused_rows.main.body.getD i (.Pass ⟨0,0,0,0⟩)
abbrev Pc:Stmt:=top 13
abbrev Pd:Stmt:=top 14
abbrev Pe:Stmt:=top 22
abbrev Pf:Stmt:=top 25
abbrev Pg:Stmt:=top 24
abbrev Ph:Stmt:=top 23
abbrev Pi:Stmt:=top 21
abbrev Pj:Stmt:=top 26
abbrev Pk:Stmt:=top 31
abbrev Pl:Stmt:=top 33
abbrev Pm:Stmt:=top 32
abbrev Pn:Stmt:=top 30
abbrev Po:Stmt:=top 29
abbrev Bj:Stmt:=top 28
abbrev Pp:Stmt:=top 35
abbrev Pq:Stmt:=top 36
abbrev Ps:Stmt:=top 41
abbrev Pt:Stmt:=top 43
abbrev Pu:Stmt:=top 42
abbrev Pw:Stmt:=top 46
abbrev Px:Stmt:=top 45
abbrev Py:Stmt:=top 44
abbrev Pz:Stmt:=top 47
abbrev PB:Stmt:=top 58
abbrev PD:Stmt:=top 62
abbrev PF:Stmt:=top 63
abbrev PJ:Stmt:=top 65
abbrev PK:Stmt:=top 67
abbrev PL:Stmt:=top 74
abbrev PM:Stmt:=top 76
abbrev PN:Stmt:=top 75
abbrev PQ:Stmt:=top 77
abbrev PR:Stmt:=top 78
abbrev PU:Stmt:=top 55
abbrev PV:Stmt:=cq (top 49) 6
abbrev PY:Stmt:=cq (top 49) 7
abbrev PZ:Stmt:=cq (top 49) 2
abbrev Q0:Stmt:=cq (top 49) 8
abbrev Q1:Stmt:=cq (top 49) 9
abbrev Q2:Stmt:=cq (top 49) 5
abbrev Q3:Stmt:=cq (top 49) 1
abbrev Q4:Stmt:=cq (top 49) 3
abbrev Q5:Stmt:=cq (top 49) 10
abbrev Q6:Stmt:=cq (top 49) 4
abbrev Q7:Stmt:=cq (top 60) 9
abbrev Q8:Stmt:=cq (top 49) 11
abbrev Q9:Stmt:=cq (top 60) 8
abbrev Qa:Stmt:=top 56
abbrev Qb:Stmt:=cq (top 60) 7
abbrev Qc:Stmt:=cq (top 60) 3
abbrev Qd:Stmt:=top 57
abbrev Qe:Stmt:=cq (top 60) 4
abbrev Qf:Stmt:=top 61
abbrev Qg:Stmt:=cq (top 60) 5
abbrev Bk:Stmt:=cq (top 49) 0
abbrev Qh:Stmt:=cq (top 60) 6
abbrev Qi:Stmt:=cq (top 60) 2
abbrev Qj:Stmt:=cq (top 60) 1
abbrev Qk:Stmt:=top 73
abbrev Ql:Stmt:=top 79
abbrev Qm:Stmt:=top 72
abbrev Qn:Stmt:=top 66
abbrev Qo:Stmt:=top 68
abbrev Qp:Stmt:=top 70
abbrev Qq:Stmt:=top 69
abbrev Qr:Stmt:=top 71
abbrev Qs:Stmt:=top 80
abbrev Bl:Stmt:=cq (top 60) 0
abbrev uO:Stmt:=top 81
structure AF (P:Program) (w:World) (K:K0) (mg:Str->u_) (base:Heap) (b_ a_:Addr):Prop where
 u00:FA K mg "is_within" Pc
 u01:FA K mg "power" Pd
 u02:FA K mg "are_fares" Pe
 u03:FA K mg "total_of" Pf
 u04:FA K mg "is_row" Pg
 u05:FA K mg "are_turns" Ph
 u06:FA K mg "is_sale" Pi
 u07:FA K mg "scales_of" Pj
 u08:FA K mg "weighed" Pk
 u09:FA K mg "sold_worth" Pl
 u0a:FA K mg "class_worth" Pm
 u0b:FA K mg "stand_worth" Pn
 u0c:FA K mg "row_worths" Po
 u0d:FA K mg "worths_of" Bj
 u0e:FA K mg "is_taken" Pp
 u0f:FA K mg "least_fare" Pq
 u0g:FA K mg "is_rule" Ps
 u0h:FA K mg "with_one_more" Pt
 u0i:FA K mg "shows_of" Pu
 u0j:FA K mg "beyond_room" Pw
 u0k:FA K mg "end_of" Px
 u0l:FA K mg "ends_of" Py
 u0m:FA K mg "last_scale" Pz
 u0n:FA K mg "is_made_of" PB
 u0o:FA K mg "yes_or_no" PD
 u0p:FA K mg "dash_or_number" PF
 u0q:FA K mg "_law_nth" PJ
 u0r:FA K mg "_law_take" PK
 u0s:FA K mg "_law_good" PL
 u0t:FA K mg "_law_bad_number" PM
 u0u:FA K mg "_law_other_word" PN
 u0v:FA K mg "_law_bad_name" PQ
 u0w:FA K mg "_law_bad" PR
 u0x:FA K mg "read_words" PU
 u0y:MA K a_ "is_over" "Office.is_over" PV
 u0z:MA K a_ "fare_of" "Office.fare_of" PY
 u10:MA K a_ "left" "Office.left" PZ
 u11:MA K a_ "takes" "Office.takes" Q0
 u12:MA K a_ "least" "Office.least" Q1
 u13:MA K a_ "asked" "Office.asked" Q2
 u14:MA K a_ "turn" "Office.turn" Q3
 u15:MA K a_ "coins" "Office.coins" Q4
 u16:MA K a_ "paper" "Office.paper" Q5
 u17:MA K a_ "worth" "Office.worth" Q6
 u18:MA K b_ "tell" "Desk.tell" Q7
 u19:MA K a_ "came" "Office.came" Q8
 u1a:MA K b_ "place_of" "Desk.place_of" Q9
 u1b:FA K mg "read_number" Qa
 u1c:MA K b_ "serve" "Desk.serve" Qb
 u1d:MA K b_ "add_class" "Desk.add_class" Qc
 u1e:FA K mg "read_name" Qd
 u1f:MA K b_ "add_turn" "Desk.add_turn" Qe
 u1g:FA K mg "read_numbers" Qf
 u1h:MA K b_ "set_rule" "Desk.set_rule" Qg
 u1i:IA K mg "Office" a_ "Office.__init__" Bk
 u1j:MA K b_ "begin" "Desk.begin" Qh
 u1k:MA K b_ "gather" "Desk.gather" Qi
 u1l:MA K b_ "say" "Desk.say" Qj
 u1m:FA K mg "_law_said" Qk
 u1n:FA K mg "_law_both" Ql
 u1o:FA K mg "_law_names" Qm
 u1p:FA K mg "_law_pool" Qn
 u1q:FA K mg "_law_size" Qo
 u1r:FA K mg "_law_rule" Qp
 u1s:FA K mg "_law_weights" Qq
 u1t:FA K mg "_law_sale" Qr
 u1u:FA K mg "_law_told" Qs
 u1v:IA K mg "Desk" b_ "Desk.__init__" Bl
 u1w:FA K mg "law" uO
 u1x:mg "ValueError"=none
 u1y:mg "all"=none
 u1z:mg "bool"=none
 u20:mg "enumerate"=none
 u21:mg "int"=none
 u22:mg "isinstance"=none
 u23:mg "len"=none
 u24:mg "list"=none
 u25:mg "max"=none
 u26:mg "min"=none
 u27:mg "range"=none
 u28:mg "reversed"=none
 u29:mg "str"=none
 u2a:mg "sum"=none
 u2b:mg "tuple"=none
 u2c:mg "zip"=none
 u2d:∃t,mg "FIGURES"=some (.str "0123456789" t)
 u2e:∃t,mg "LETTERS"=some (.str "abcdefghijklmnopqrstuvwxyz" t)
 u2f:∃t,mg "MOST_DUE"=some (.int 1000000 t)
 u2g:∃t,mg "MOST_FARE"=some (.int 1000000 t)
 u2h:∃t,mg "MOST_FARES"=some (.int 6 t)
 u2i:∃t,mg "MOST_FIGURES"=some (.int 7 t)
 u2j:∃t,mg "MOST_LETTERS"=some (.int 8 t)
 u2k:∃t,mg "MOST_OF"=some (.int 1000 t)
 u2l:∃t,mg "MOST_ROOM"=some (.int 10 t)
 u2m:∃t,mg "MOST_SEATS"=some (.int 10 t)
 u2n:∃t,mg "MOST_TURNS"=some (.int 8 t)
 u2o:∃t,mg "MOST_WEIGHT"=some (.int 1000 t)
 u2p:Cls K b_
 u2q:Cls K a_
 u2r:NoAttr K b_ "places"
 u2s:NoAttr K b_ "fares"
 u2t:NoAttr K b_ "rows"
 u2u:NoAttr K b_ "rule"
 u2v:NoAttr K b_ "office"
 u2w:NoAttr K a_ "seats"
 u2x:NoAttr K a_ "fares"
 u2y:NoAttr K a_ "rule"
 u2z:NoAttr K a_ "scales"
 u30:NoAttr K a_ "table"
 u31:NoAttr K a_ "told"
 u32:NoAttr K a_ "sold"
 u33:NoAttr K a_ "paid"
 u35:NoAttr K a_ "dues"
 u36:NoAttr K a_ "latest"
 u37:fE K=true
local macro_rules | `(tactic| walk_at"cp")=>`(tactic| (refine⟨rfl,by decide +kernel,by decide +kernel,?_,by first|rfl|decide +kernel,by decide +kernel,by decide +kernel⟩;first|exact Fg _ (by decide +kernel)|(refine' Lv ?a ?b ?c;(case a=>assumption);(case b=>exact rfl);(case c=>decide +kernel))))
local macro_rules | `(tactic| walk_at"pg")=>`(tactic| exact λ_ _ _ _=>gM (i:=0) (by show List.Nodup (_++_);decide +kernel) rfl (Or.inl rfl) (.inr rfl))
local macro_rules | `(tactic| walk_at"sc")=>`(tactic| exact⟨rfl,rfl,rfl,by decide +kernel,rfl,by decide +kernel,by decide +kernel⟩)
local macro_rules | `(tactic| walk_at"bd")=>`(tactic| (intro _ _ _ _ _ _ us hl;first|(obtain⟨_,e⟩:=zB hl;subst e;rfl)|(obtain⟨_,_,e⟩:=zC hl;subst e;rfl)|(obtain⟨_,_,_,e⟩:=zD hl;subst e;rfl)|(obtain⟨_,_,_,_,e⟩:=zE hl;subst e;rfl)|(obtain⟨_,_,_,_,_,e⟩:=zF hl;subst e;rfl)|(obtain⟨_,_,_,_,_,_,e⟩:=Lu hl;subst e;rfl)))
section
variable {P:Program}{w:World}{K:K0}{mg:Str->u_}{base:Heap}{b_ a_:Addr}
variable (Z:AF P w K mg base b_ a_)
include Z
def gH:Def P w K mg base "is_within" 1 ["number","least","most"] fG false:=by
 show m4 Z.u00 ["number","least","most"] λsc hn hr=>?_
 show(bF (ce (O':=[]) (eP (xx Ej (by decide +kernel) Z.u22 Z.u21 (a6 0)) (eP (wF (xx Ek (by decide +kernel) Z.u22 Z.u1z (a6 0))) (gm (qL (a6 1) (a6 0) (a6 2)))))))
def Bm:Def P w K mg base "power" 1 ["base","times"] oQ false:=by
 show m4 Z.u01 ["base","times","product","step"] λsc hn hr=>?_
 show(cO (gp 2 sc.nd ae) (cO (xc 3 [] sc.nd rfl Z.u27 (a9 (a6 1) am) (bF (gp 2 sc.nd (fj (a6 2) (a6 0))))) (bF (ce (O':=[]) (a6 2)))))
def Bn:Def P w K mg base "are_fares" 2 ["fares"] oR false:=by
 show m4 Z.u02 ["fares"] λsc hn hr=>?_
 show(bF (ce (O':=[]) (eP (qL ae (cA Z.u23 (a9 (a6 0) am)) (eM Z.u2h.choose_spec)) (gm (nG rfl Z.u1y (a9 (aH (dR (own:=["fare"]) (J6:=[]) (cn:=[]) (by walk_at"cp") rfl (iM (aW 0)) (by walk_at"pg") (fw 0) (by decide) (λ_ _ _ _=>dJ) (λ_ _ _ _=>(bH (gH Z).mono hr (a9 (a6 0) (a9 ae (a9 (eM Z.u2g.choose_spec) am))))))) am))))))
def Bo:Def P w K mg base "total_of" 1 ["row"] oS false:=by
 show m4 Z.u03 ["row"] λsc hn hr=>?_
 show(bF (ce (O':=[]) (qU rfl Z.u2a (a9 (a6 0) am))))
def Bp:Def P w K mg base "is_row" 2 ["row","classes"] oU false:=by
 show m4 Z.u04 ["row","classes"] λsc hn hr=>?_
 show(cO (wW (O':=[]) (nF hr (cA Z.u23 (a9 (a6 0) am)) (cM (a6 1) ae)) (bF (ce (O':=[]) cY)) wV) (bF (ce (O':=[]) (eP (nG rfl Z.u1y (a9 (aH (dR (own:=["weight"]) (J6:=[]) (cn:=[]) (by walk_at"cp") rfl (iM (aW 0)) (by walk_at"pg") (fw 0) (by decide) (λ_ _ _ _=>dJ) (λ_ _ _ _=>(bH (gH Z).mono hr (a9 (a6 0) (a9 ae (a9 (eM Z.u2o.choose_spec) am))))))) am)) (gm (wB (bH (Bo Z).mono hr (a9 (a6 0) am)) ae))))))
def Qt:Def P w K mg base "are_turns" 3 ["turns","classes"] tu false:=by
 show m4 Z.u05 ["turns","classes"] λsc hn hr=>?_
 show(bF (ce (O':=[]) (eP (DR (cA Z.u23 (a9 (a6 0) am)) (eM Z.u2n.choose_spec)) (gm (nG rfl Z.u1y (a9 (aH (dR (own:=["row"]) (J6:=[1]) (cn:=["classes"]) (by walk_at"cp") rfl (iM (aW 0)) (by walk_at"pg") (fw 0) (by decide) (λ_ _ _ _=>dJ) (λ_ _ _ _=>(bH (Bp Z).mono hr (a9 (a6 0) (a9 (a6 1) am)))))) am))))))
def Qu:Def P w K mg base "is_sale" 4 ["seats","fares","turns"] tz false:=by
 show m4 Z.u06 ["seats","fares","turns"] λsc hn hr=>?_
 show(bF (ce (O':=[]) (eP (bH (gH Z).mono hr (a9 (a6 0) (a9 ae (a9 (eM Z.u2m.choose_spec) am)))) (eP (bH (Bn Z).mono hr (a9 (a6 1) am)) (gm (bH (Qt Z).mono hr (a9 (a6 2) (a9 (cA Z.u23 (a9 (a6 1) am)) am))))))))
def Bq:Def P w K mg base "scales_of" 2 ["turns","last"] oV true:=by
 show m3 Z.u07 ["turns","last","scales","row"] λsc hn hr=>?_
 show(cO (iL 2 sc.nd (b9 (a9 (a6 1) am)) (by rw[hn];decide)) (cO (ET 3 [2] sc.nd rfl Z.u28 (a6 0) (bF (Fy 2 (fj (bM (aW 2) (jA ae) (λ_ _=>rfl)) (bH (Bo Z).mono hr (a9 (a6 3) am)))))) (bF (nh (O':=[]) (F3 Z.u24 Z.u28 (aW 2))))))
def Qv:Def P w K mg base "weighed" 1 ["row","classes","kept"] tD false:=by
 show m4 Z.u08 ["row","classes","kept"] λsc hn hr=>?_
 show(bF (ce (O':=[]) (qU rfl Z.u2a (a9 (aH (dR (own:=["weight","worth"]) (J6:=[]) (cn:=[]) (by walk_at"cp") rfl (xH Z.u2c (aW 0) (d9 (aH (ft (aW 1) (d9 (aH (b9 (a9 (a6 2) am)))))))) (λ_ _ _ _=>kB rfl (Tgs.ok (is:=[0,1]) (show(["weight","worth"]:i_).Nodup from by decide +kernel) (.cons (i:=0) rfl (Or.inl rfl) (.inr rfl) (.cons (i:=1) rfl (Or.inl rfl) (.inr rfl) Tgs.nil rfl) rfl))) (nw [0,1]) (by decide) (λ_ _ _ _=>dJ) (λ_ _ _ _=>(fj (a6 0) (a6 1))))) am))))
def Br:Def P w K mg base "sold_worth" 1 ["fare","scale","behind","s"] oW false:=by
 show m4 Z.u09 ["fare","scale","behind","s"] λsc hn hr=>?_
 show(bF (ce (O':=[]) (cM (fj (a6 0) (a6 1)) (bM (aW 2) (gi (a6 3) ae) (λ_ _=>rfl)))))
def Qw:Def P w K mg base "class_worth" 2 ["fare","scale","behind","s"] tE false:=by
 show m4 Z.u0a ["fare","scale","behind","s"] λsc hn hr=>?_
 show(cO (wW (O':=[]) (bN hr (a6 3) ae) (bF (ce (O':=[]) (bM (aW 2) (a6 3) (λ_ _=>rfl)))) wV) (bF (ce (O':=[]) (wU rfl Z.u25 (a9 (bM (aW 2) (a6 3) (λ_ _=>rfl)) (a9 (bH (Br Z).mono hr (a9 (a6 0) (a9 (a6 1) (a9 (a6 2) (a9 (a6 3) am))))) am))))))
def Qx:Def P w K mg base "stand_worth" 3 ["fares","row","scale","behind","s"] tF false:=by
 show m4 Z.u0b ["fares","row","scale","behind","s"] λsc hn hr=>?_
 show(bF (ce (O':=[]) (bH (Qv Z).mono hr (a9 (a6 1) (a9 (aH (dR (own:=["fare"]) (J6:=[2,3,4]) (cn:=["scale","behind","s"]) (by walk_at"cp") rfl (iM (aW 0)) (by walk_at"pg") (fw 0) (by decide) (λ_ _ _ _=>dJ) (λ_ _ _ _=>(bH (Qw Z).mono hr (a9 (a6 0) (a9 (a6 1) (a9 (a6 2) (a9 (a6 3) am)))))))) (a9 (bM (aW 3) (a6 4) (λ_ _=>rfl)) am))))))
def Qy:Def P w K mg base "row_worths" 4 ["fares","row","scale","behind"] tG true:=by
 show m3 Z.u0c ["fares","row","scale","behind"] λsc hn hr=>?_
 show(bF (nh (O':=[]) (dR (own:=["s"]) (J6:=[0,1,2,3]) (cn:=["fares","row","scale","behind"]) (by walk_at"cp") rfl (xh Z.u27 (a9 (cA Z.u23 (a9 (a6 3) am)) am)) (by walk_at"pg") (fw 0) (by decide) (λ_ _ _ _=>dJ) (λ_ _ _ _=>(bH (Qx Z).mono hr (a9 (a6 1) (a9 (a6 2) (a9 (a6 3) (a9 (a6 4) (a9 (a6 0) am))))))))))
def Qz:DefX P w K mg base "worths_of" 5 ["fares","turns","last","ends"] tH:=by
 have sc:FnScope ["fares","turns","last","ends","scales","table","t"] ["fares","turns","last","ends"] (aN Bj):=by walk_at"sc"
 show mkA Z.u0d (by walk_at"bd") λ_ _ Fn=>FC [] rfl rfl rfl Fn sc (λ_ _ _ _ _ _ _ hn hr=>?_)
 show(Fu (OL:=[]) (fr:=true) (iL 4 sc.nd (lf (Bq Z).mono hr (a9 (a6 1) (a9 (a6 2) am))) (by rw[hn];decide)) Ft (Fv (O':=[]) 5 sc.nd (DX Z.u24 (aW 3)) (by rw[hn];decide) (Fp (Fr 6 sc.nd rfl Z.u27 (a9 (gi (cA Z.u23 (a9 (a6 1) am)) ae) (a9 (jA ae) (a9 (jA ae) am))) (xP (Fz (lf (Qy Z).mono hr (a9 (a6 0) (a9 (bM (aW 1) (a6 6) (λ_ _=>rfl)) (a9 (bM (aW 4) (cM (a6 6) ae) (λ_ _=>rfl)) (a9 (bM (aW 5) (jA ae) (λ_ _=>rfl)) am)))))))) (xP (Fs rfl Z.u24 Z.u28))) (Fi Fw)))
def QC:Def P w K mg base "is_taken" 2 ["fare","scale","behind","s"] tI false:=by
 show m4 Z.u0e ["fare","scale","behind","s"] λsc hn hr=>?_
 show(bF (ce (O':=[]) (eP (wB (a6 3) ae) (gm (DT (bH (Br Z).mono hr (a9 (a6 0) (a9 (a6 1) (a9 (a6 2) (a9 (a6 3) am))))) (bM (aW 2) (a6 3) (λ_ _=>rfl)))))))
def QD:Def P w K mg base "least_fare" 1 ["scale","behind","s"] tJ false:=by
 show m4 Z.u0f ["scale","behind","s"] λsc hn hr=>?_
 show(bF (ce (O':=[]) (jA (mY (gi (bM (aW 1) (gi (a6 2) ae) (λ_ _=>rfl)) (bM (aW 1) (a6 2) (λ_ _=>rfl))) (a6 0)))))
def Bs:Def P w K mg base "is_rule" 2 ["rule"] oX false:=by
 show m4 Z.u0g ["rule","room","came","of","due","chances_hold"] λsc hn hr=>?_
 show(cO (gp 1 sc.nd (bM (aW 0) ae (λ_ _=>rfl))) (cO (gp 2 sc.nd (bM (aW 0) ae (λ_ _=>rfl))) (cO (gp 3 sc.nd (bM (aW 0) ae (λ_ _=>rfl))) (cO (gp 4 sc.nd (bM (aW 0) ae (λ_ _=>rfl))) (cO (gp 5 sc.nd (eP (bH (gH Z).mono hr (a9 (a6 3) (a9 ae (a9 (eM Z.u2k.choose_spec) am)))) (gm (bH (gH Z).mono hr (a9 (a6 2) (a9 ae (a9 (a6 3) am))))))) (bF (ce (O':=[]) (eP (bH (gH Z).mono hr (a9 (a6 1) (a9 ae (a9 (eM Z.u2l.choose_spec) am)))) (eP (a6 5) (gm (bH (gH Z).mono hr (a9 (a6 4) (a9 ae (a9 (eM Z.u2f.choose_spec) am))))))))))))))
def QF:Def P w K mg base "with_one_more" 1 ["shows","came","stayed"] tK true:=by
 show m3 Z.u0h ["shows","came","stayed","without","along"] λsc hn hr=>?_
 show(cO (iL 3 sc.nd (ft (d9 (aH (dR (own:=["weight"]) (J6:=[2]) (cn:=["stayed"]) (by walk_at"cp") rfl (iM (aW 0)) (by walk_at"pg") (fw 0) (by decide) (λ_ _ _ _=>dJ) (λ_ _ _ _=>(fj (a6 0) (a6 1)))))) (d9 (aH (b9 (a9 ae am))))) (by rw[hn];decide)) (cO (iL 4 sc.nd (ft (d9 (aH (b9 (a9 ae am)))) (d9 (aH (dR (own:=["weight"]) (J6:=[1]) (cn:=["came"]) (by walk_at"cp") rfl (iM (aW 0)) (by walk_at"pg") (fw 0) (by decide) (λ_ _ _ _=>dJ) (λ_ _ _ _=>(fj (a6 0) (a6 1))))))) (by rw[hn];decide)) (bF (nh (O':=[]) (dR (own:=["one","other"]) (J6:=[]) (cn:=[]) (by walk_at"cp") rfl (xH Z.u2c (aW 3) (aW 4)) (λ_ _ _ _=>kB rfl (Tgs.ok (is:=[0,1]) (show(["one","other"]:i_).Nodup from by decide +kernel) (.cons (i:=0) rfl (Or.inl rfl) (.inr rfl) (.cons (i:=1) rfl (Or.inl rfl) (.inr rfl) Tgs.nil rfl) rfl))) (nw [0,1]) (by decide) (λ_ _ _ _=>dJ) (λ_ _ _ _=>(cM (a6 0) (a6 1))))))))
def QG:Def P w K mg base "shows_of" 2 ["sold","came","of"] tL true:=by
 show m3 Z.u0i ["sold","came","of","shows","seat"] λsc hn hr=>?_
 show(cO (iL 3 sc.nd (b9 (a9 ae am)) (by rw[hn];decide)) (cO (xc 4 [3] sc.nd rfl Z.u27 (a9 (a6 0) am) (bF (iL 3 sc.nd (lf (QF Z).mono hr (a9 (a6 3) (a9 (a6 1) (a9 (gi (a6 2) (a6 1)) am)))) (by rw[hn];decide)))) (bF (E4 (O':=[]) 3))))
def QH:Def P w K mg base "beyond_room" 3 ["sold","rule"] tM false:=by
 show m4 Z.u0j ["sold","rule","room","shows"] λsc hn hr=>?_
 show(cO (gp 2 sc.nd (bM (aW 1) ae (λ_ _=>rfl))) (cO (iL 3 sc.nd (lf (QG Z).mono hr (a9 (a6 0) (a9 (bM (aW 1) ae (λ_ _=>rfl)) (a9 (bM (aW 1) ae (λ_ _=>rfl)) am)))) (by rw[hn];decide)) (bF (ce (O':=[]) (qU rfl Z.u2a (a9 (aH (dR (own:=["many","weight"]) (J6:=[2]) (cn:=["room"]) (by walk_at"cp") rfl (xG Z.u20 (aW 3)) (λ_ _ _ _=>kB rfl (Tgs.ok (is:=[0,1]) (show(["many","weight","room"]:i_).Nodup from by decide +kernel) (.cons (i:=0) rfl (Or.inl rfl) (.inr rfl) (.cons (i:=1) rfl (Or.inl rfl) (.inr rfl) Tgs.nil rfl) rfl))) (nw [0,1]) (by decide) (λ_ _ _ _=>dJ) (λ_ _ _ _=>(fj (a6 1) (wU rfl Z.u25 (a9 (gi (a6 0) (a6 2)) (a9 ae am))))))) am))))))
def QI:Def P w K mg base "end_of" 4 ["sold","left","rule"] tN false:=by
 show m4 Z.u0k ["sold","left","rule","due"] λsc hn hr=>?_
 show(cO (gp 3 sc.nd (bM (aW 2) ae (λ_ _=>rfl))) (bF (ce (O':=[]) (fj (fj (jA (a6 3)) (bH (QH Z).mono hr (a9 (a6 0) (a9 (a6 2) am)))) (bH (Bm Z).mono hr (a9 (bM (aW 2) ae (λ_ _=>rfl)) (a9 (a6 1) am)))))))
def QJ:Def P w K mg base "ends_of" 5 ["seats","rule"] tO true:=by
 show m3 Z.u0l ["seats","rule"] λsc hn hr=>?_
 show(bF (nh (O':=[]) (dR (own:=["left"]) (J6:=[0,1]) (cn:=["seats","rule"]) (by walk_at"cp") rfl (xh Z.u27 (a9 (cM (a6 0) ae) am)) (by walk_at"pg") (fw 0) (by decide) (λ_ _ _ _=>dJ) (λ_ _ _ _=>(bH (QI Z).mono hr (a9 (gi (a6 1) (a6 0)) (a9 (a6 0) (a9 (a6 2) am))))))))
def QK:Def P w K mg base "last_scale" 2 ["seats","rule"] tP false:=by
 show m4 Z.u0m ["seats","rule"] λsc hn hr=>?_
 show(bF (ce (O':=[]) (bH (Bm Z).mono hr (a9 (bM (aW 1) ae (λ_ _=>rfl)) (a9 (a6 0) am)))))
def Bt:Def P w K mg base "is_made_of" 1 ["word","signs","most"] iZ false:=by
 show m4 Z.u0n ["word","signs","most"] λsc hn hr=>?_
 show(bF (ce (O':=[]) (eP (qL ae (oF Z.u23 (a9 (a6 0) am)) (a6 2)) (gm (nG rfl Z.u1y (a9 (aH (dR (own:=["sign"]) (J6:=[1]) (cn:=["signs"]) (by walk_at"cp") rfl (KW (a6 0)) (by walk_at"pg") (fw 0) (by decide) (λ_ _ _ _=>dJ) (λ_ _ _ _=>(KA (a6 0) (a6 1))))) am))))))
def Bu:Def P w K mg base "yes_or_no" 1 ["taken"] j3 false:=by
 show m4 Z.u0o ["taken"] λsc hn hr=>?_
 show(bF (ce (O':=[]) (wG (fm (a6 0)) ar ar)))
def QM:Def P w K mg base "dash_or_number" 1 ["number"] tQ false:=by
 show m4 Z.u0p ["number"] λsc hn hr=>?_
 show(bF (ce (O':=[]) (wG (rD (a6 0)) ar (jW Z.u29 (a9 (a6 0) am)))))
def Bv:Def P w K mg base "_law_nth" 1 ["script","k"] oY false:=by
 show m4 Z.u0q ["script","k","cell"] λsc hn hr=>?_
 show(cO (E7 2 [] sc.nd rfl (aH (n8 (aW 0) (cN (a6 1)) (cN (cM (a6 1) ae)))) (bF (ce (O':=[]) (a6 2)))) (bF (ce (O':=[]) ae)))
def bg:DefN P w K mg base "_law_take" 1 ["pool","many"] (ba b_ a_):=by
 show nA Z.u0r ["pool","many","rest"] λsc hr=>?_
 show(ay (aL 2 sc.nd (oh (ns:=["rest","mixed","count"]) (i:=0) hr (a7 (a6 0)) (λ_ _=>rfl))) (ay (bK (fC (eS (oh (ns:=["rest","mixed","count"]) (i:=1) hr (a7 (a6 0)) (λ_ _=>rfl)))) (ay (sD (ns:=["rest","mixed","count"]) (i:=0) hr (a7 (a6 0)) (a7 (mY (a6 2) (a6 1)))) (aR (aS (a7 (fK (a6 2) (a6 1)))))) bJ) (ay (sD (ns:=["rest","mixed","count"]) (i:=2) hr (a7 (a6 0)) (dL (oh (ns:=["rest","mixed","count"]) (i:=2) hr (a7 (a6 0)) (λ_ _=>rfl)) (a7 ae))) (ay (aL 2 sc.nd (dL (a7 (fK (a6 2) ae)) (yp (a7 ae) (oh (ns:=["rest","mixed","count"]) (i:=2) hr (a7 (a6 0)) (λ_ _=>rfl))))) (ay (aL 2 sc.nd (a7 (fK (fj (a6 2) (cM (a6 2) ae)) ae))) (ay (aL 2 sc.nd (a7 (fK (fj (a6 2) (a6 2)) ae))) (ay (sD (ns:=["rest","mixed","count"]) (i:=0) hr (a7 (a6 0)) (a7 (a6 2))) (aR (aS (a7 (fK (mY (a6 2) ae) (a6 1))))))))))))
def uP:DefN P w K mg base "_law_good" 2 ["pool","names","ahead"] (lX b_ a_):=by
 show nA Z.u0s ["pool","names","ahead","name","number","some"] λsc hr=>?_
 show(ay (aL 3 sc.nd (cI (a7 (a6 1)) (aG (bg Z).mono hr (ad (a7 (a6 0)) (ad (a7 (cA Z.u23 (a9 (a6 1) am))) ao))) (λ_ _=>rfl))) (ay (aL 4 sc.nd (oN Z.u29 (ad (aG (bg Z).mono hr (ad (a7 (a6 0)) (ad (a7 ae) ao))) ao))) (ay (bK (bt (fm (a6 2))) (ay (aL 5 sc.nd (a7 (aH (b9 (a9 (aH (b9 (a9 ar (a9 (a6 3) (a9 (a6 4) am))))) (a9 (aH (b9 (a9 ar (a9 (a6 4) (a9 ar am))))) (a9 (aH (b9 (a9 ar (a9 ar (a9 ar (a9 ar (a9 (a6 4) am))))))) (a9 (aH (b9 (a9 ar (a9 (a6 4) am)))) am)))))))) (aR (aS (cI (a7 (a6 5)) (aG (bg Z).mono hr (ad (a7 (a6 0)) (ad (a7 ae) ao))) (λ_ _=>rfl))))) bJ) (ay (aL 5 sc.nd (a7 (aH (b9 (a9 (aH (b9 (a9 ar (a9 (a6 3) am)))) (a9 (aH (b9 (a9 ar (a9 (a6 3) am)))) (a9 (aH (b9 (a9 ar am))) (a9 (aH (b9 (a9 ar (a9 (a6 4) am)))) (a9 (aH (b9 (a9 ar am))) (a9 (aH (b9 (a9 ar am))) am)))))))))) (aR (aS (cI (a7 (aH (ft (aW 5) (d9 (aH (b9 (a9 (aH (b9 (a9 ar am))) (a9 (aH (b9 (a9 ar am))) (a9 (aH (b9 (a9 ar am))) am))))))))) (aG (bg Z).mono hr (ad (a7 (a6 0)) (ad (a7 ae) ao))) (λ_ _=>rfl))))))))
def Bw:DefN P w K mg base "_law_bad_number" 2 ["pool"] (oZ b_ a_):=by
 show nA Z.u0t ["pool","some"] λsc hr=>?_
 show(ay (aL 1 sc.nd (a7 (aH (b9 (a9 ar (a9 ar (a9 ar (a9 ar (a9 ar (a9 ar (a9 ar (a9 ar (a9 ar (a9 ar (a9 ar (a9 ar (a9 ar (a9 ar (a9 ar am))))))))))))))))))) (aR (aS (cI (a7 (aH (ft (aW 1) (d9 (aH (b9 (a9 ar am))))))) (aG (bg Z).mono hr (ad (a7 (a6 0)) (ad (a7 ae) ao))) (λ_ _=>rfl)))))
def QN:DefN P w K mg base "_law_other_word" 2 ["pool","word"] (pe b_ a_):=by
 show nA Z.u0u ["pool","word","words","at","signs","some","found"] λsc hr=>?_
 show(ay (aL 2 sc.nd (a7 (aH (b9 (a9 ar (a9 ar (a9 ar (a9 ar (a9 ar (a9 ar (a9 ar (a9 ar (a9 ar (a9 ar (a9 ar (a9 ar am)))))))))))))))) (ay (aL 3 sc.nd (aG (bg Z).mono hr (ad (a7 (a6 0)) (ad (a7 (oF Z.u23 (a9 (a6 1) am))) ao)))) (ay (aL 4 sc.nd (a7 ar)) (ay (aL 5 sc.nd (sw (ad (a7 (cR (dZ (a6 1) da (cN (a6 3))) (dZ (a6 1) (cN (cM (a6 3) ae)) da))) (ad (a7 (cR (cR (dZ (a6 1) da (cN (a6 3))) (lS (a6 1) (a6 3) (λ_ _=>rfl))) (dZ (a6 1) (cN (a6 3)) da))) (ad (oE (oE (a7 (dZ (a6 1) da (cN (a6 3)))) (zH (a7 (lS (a6 1) (a6 3) (λ_ _=>rfl))))) (a7 (dZ (a6 1) (cN (cM (a6 3) ae)) da))) ao))))) (ay (aL 5 sc.nd (zz (a7 (a6 5)) (fV (ad (a7 (dZ (a6 1) da (cN ae))) (ad (zH (a7 (a6 1))) (ad (a7 (cR (a6 1) ar)) (ad (a7 (cR (a6 1) ar)) (ad (a7 (cR ar (a6 1))) (ad (a7 ar) (ad (a7 ar) (ad (a7 ar) (ad (a7 ar) ao)))))))))))) (ay (jS (a7 (a6 5)) (iX (lL (y:="k") (J6:=[0,4]) (cn:=["pool","signs"]) (by walk_at"cp") rfl Z.u27 (ad (dL (a7 ae) (aG (bg Z).mono hr (ad (a7 (a6 0)) (ad (a7 ae) ao)))) ao) (by walk_at"pg") (λ_ _ _ _=>(sU (a7 (cR (a6 2) ar)) (aG (bg Z).mono hr (ad (a7 (a6 1)) (ad (a7 ae) ao))) (λ_ _=>rfl)))))) (ay (aL 6 sc.nd (sx (a7 (a6 5)) (aG (bg Z).mono hr (ad (a7 (a6 0)) (ad (a7 ae) ao))) (λ_ _=>rfl))) (ay (bK (bt (eO (qN (F7 (a6 6) (a6 2)) (qM (bN hr (a6 6) ar))))) (aR (aS (a7 ar))) bJ) (aR (aS (a7 (a6 6))))))))))))
def QO:DefN P w K mg base "_law_bad_name" 2 ["pool","name"] (tR b_ a_):=by
 show nA Z.u0v ["pool","name","at","sign"] λsc hr=>?_
 show(ay (aL 2 sc.nd (aG (bg Z).mono hr (ad (a7 (a6 0)) (ad (a7 (oF Z.u23 (a9 (a6 1) am))) ao)))) (ay (aL 3 sc.nd (sU (a7 ar) (aG (bg Z).mono hr (ad (a7 (a6 0)) (ad (a7 ae) ao))) (λ_ _=>rfl))) (aR (aS (cI (a7 (aH (b9 (a9 (cR (cR (dZ (a6 1) da (cN (a6 2))) (a6 3)) (dZ (a6 1) (cN (cM (a6 2) ae)) da)) (a9 (dZ (cR (a6 1) ar) da (cN ae)) (a9 (cR (a6 1) ar) am)))))) (aG (bg Z).mono hr (ad (a7 (a6 0)) (ad (a7 ae) ao))) (λ_ _=>rfl))))))
def QP:DefN P w K mg base "_law_bad" 3 ["pool","names","ahead"] (tS b_ a_):=by
 show nA Z.u0w ["pool","names","ahead","words","name","way","bad","rule","turn","some","at"] λsc hr=>?_
 show(ay (aL 3 sc.nd (aG (uP Z).mono hr (ad (a7 (a6 0)) (ad (a7 (a6 1)) (ad (a7 (a6 2)) ao))))) (ay (aL 4 sc.nd (cI (a7 (a6 1)) (aG (bg Z).mono hr (ad (a7 (a6 0)) (ad (a7 (cA Z.u23 (a9 (a6 1) am))) ao))) (λ_ _=>rfl))) (ay (aL 5 sc.nd (aG (bg Z).mono hr (ad (a7 (a6 0)) (ad (a7 ae) ao)))) (ay (bK (bt (eO (gk (bN hr (a6 5) ae) (gj (nF hr (bM (aW 3) ae (λ_ _=>rfl)) ar))))) (aR (aS (ib (a7 (a6 3)) (lL (y:="k") (J6:=[0,4]) (cn:=["pool","name"]) (by walk_at"cp") rfl Z.u27 (ad (dL (a7 ae) (aG (bg Z).mono hr (ad (a7 (a6 0)) (ad (a7 ae) ao)))) ao) (by walk_at"pg") (λ_ _ _ _=>(cI (a7 (aH (b9 (a9 (a6 2) (a9 ar (a9 ar (a9 ar am))))))) (aG (bg Z).mono hr (ad (a7 (a6 1)) (ad (a7 ae) ao))) (λ_ _=>rfl))))))) bJ) (ay (bK (bt (bN hr (a6 5) ae)) (aR (aS (LB (a7 (a6 3)) (aG (bg Z).mono hr (ad (a7 (a6 0)) (ad (a7 (qV rfl Z.u26 (a9 ae (a9 (cA Z.u23 (a9 (a6 3) am)) am)))) ao)))))) bJ) (ay (bK (bt (eO (gk (bN hr (a6 5) ae) (gj (fm (a6 2)))))) (ay (aL 6 sc.nd (aG (Bw Z).mono hr (ad (a7 (a6 0)) ao))) (ay (aL 7 sc.nd (og (b9 (a9 ar (a9 ar (a9 ar (a9 ar am))))))) (ay (oy (a7 (a6 7)) (aG (bg Z).mono hr (ad (a7 (a6 0)) (ad (a7 ae) ao))) (a7 (a6 6))) (ay (aL 8 sc.nd (LC (b9 (a9 ar am)) (dL (a7 ae) (aG (bg Z).mono hr (ad (a7 (a6 0)) (ad (a7 ae) ao)))))) (ay (oy (a7 (a6 8)) (aG (bg Z).mono hr (ad (a7 (a6 0)) (ad (i8 Z.u23 (ad (a7 (a6 8)) ao)) ao))) (a7 (a6 6))) (sG 8 (sG 7 (ay (aL 9 sc.nd (a7 (aH (b9 (a9 (aH (b9 (a9 ar (a9 (a6 4) (a9 (a6 6) am))))) (a9 (aH (ft (d9 (aH (b9 (a9 ar am)))) (aW 8))) (a9 (aH (ft (d9 (aH (b9 (a9 ar am)))) (aW 7))) (a9 (aH (b9 (a9 ar (a9 (a6 6) am)))) am)))))))) (aR (aS (cI (ib (a7 (a6 9)) (fV (ad (fV (ad (a7 ar) (ad (aG (QO Z).mono hr (ad (a7 (a6 0)) (ad (a7 (a6 4)) ao))) (ad (a7 ar) ao)))) ao))) (aG (bg Z).mono hr (ad (a7 (a6 0)) (ad (a7 ae) ao))) (λ_ _=>rfl)))))))))))) bJ) (ay (bK (bt (bN hr (a6 5) ae)) (aR (aS (fV (ad (a7 ar) (ad (aG (Bw Z).mono hr (ad (a7 (a6 0)) ao)) ao))))) bJ) (ay (bK (bt (wC (a6 5) ae)) (aR (aS (ib (fV (ad (aG (QN Z).mono hr (ad (a7 (a6 0)) (ad (a7 (bM (aW 3) ae (λ_ _=>rfl))) ao))) ao)) (a7 (aH (n8 (aW 3) (cN ae) da)))))) bJ) (ay (bK (bt (bN hr (a6 5) ae)) (aR (aS (a7 (aH (ft (d9 (aH (b9 (a9 ar am)))) (aW 3)))))) bJ) (ay (bK (bt (bN hr (a6 5) ae)) (aR (aS (a7 (aH (ft (aW 3) (d9 (aH (b9 (a9 ar am))))))))) bJ) (ay (bK (bt (bN hr (a6 5) ae)) (aR (aS (aG (uP Z).mono hr (ad (a7 (a6 0)) (ad (a7 (a6 1)) (ad (a7 (wF (a6 2))) ao)))))) bJ) (ay (aL 10 sc.nd (dL (a7 ae) (aG (bg Z).mono hr (ad (a7 (a6 0)) (ad (a7 (cA Z.u23 (a9 (a6 3) am))) ao))))) (aR (aS (ib (ib (a7 (aH (n8 (aW 3) da (cN (a6 10))))) (HL (b9 (a9 ar am)) (dL (a7 ae) (aG (bg Z).mono hr (ad (a7 (a6 0)) (ad (a7 ae) ao)))))) (a7 (aH (n8 (aW 3) (cN (a6 10)) da))))))))))))))))))
def QQ:DefE P w K mg base "read_words" 1 ["row"] (tT b_ a_):=by
 show xA Z.u0x ["row","words"] λsc hr ho=>?_
 show(aY (bu (aL 1 sc.nd (og (KQ (a6 0))))) (aY (bP (L5 (a7 ar) (a7 (a6 1))) (b6 (cQ Z.u37 ho)) bX) (b6 (bu (aS (a7 (a6 1)))))))
def Bx:MetN P w K mg base a_ "is_over" 1 ["self"] (pj b_ a_):=by
 show nM Z.u0y ["self"] λsc hr=>?_
 show(aR (aS (II hr (aX (i:=5) (ns:=c_) Z.u2q Z.u31 (a7 (a6 0))) (lJ (i8 Z.u23 (ad (aX (i:=3) (ns:=c_) Z.u2q Z.u2z (a7 (a6 0))) ao)) (a7 ae)))))
def QR:MetE P w K mg base a_ "fare_of" 2 ["self","asker"] (pp b_ a_):=by
 show xM Z.u0z ["self","asker"] λsc hr ho=>?_
 show(aY (bu (bK (bt (rD (a6 1))) (aR (aS (a7 gs))) bJ)) (aY (bP (fC (eS (oj (gH Z).mono hr (ad (a7 (a6 1)) (ad (a7 ae) (ad (lJ (i8 Z.u23 (ad (aX (i:=1) (ns:=c_) Z.u2q Z.u2x (a7 (a6 0))) ao)) (a7 ae)) ao)))))) (b6 (cQ Z.u37 ho)) bX) (b6 (bu (aS (cI (aX (i:=1) (ns:=c_) Z.u2q Z.u2x (a7 (a6 0))) (a7 (a6 1)) (λ_ _=>rfl)))))))
def mC:MetN P w K mg base a_ "left" 1 ["self"] (j4 b_ a_):=by
 show nM Z.u10 ["self"] λsc hr=>?_
 show(aR (aS (lJ (aX (i:=0) (ns:=c_) Z.u2q Z.u2w (a7 (a6 0))) (aX (i:=6) (ns:=c_) Z.u2q Z.u32 (a7 (a6 0))))))
def QS:MetN P w K mg base a_ "takes" 3 ["self","fare"] (pw b_ a_):=by
 show nM Z.u11 ["self","fare","behind"] λsc hr=>?_
 show(ay (aL 2 sc.nd (dL (aX (i:=5) (ns:=c_) Z.u2q Z.u31 (a7 (a6 0))) (a7 ae))) (aR (aS (Hl (a7 (EB (a6 1))) (Hk (oj (QC Z).mono hr (ad (a7 (a6 1)) (ad (cI (aX (i:=3) (ns:=c_) Z.u2q Z.u2z (a7 (a6 0))) (a7 (a6 2)) (λ_ _=>rfl)) (ad (cI (aX (i:=4) (ns:=c_) Z.u2q Z.u30 (a7 (a6 0))) (a7 (a6 2)) (λ_ _=>rfl)) (ad (eU (ns:=c_) Z.u2q (mC Z).mono hr (a7 (a6 0))) ao))))))))))
def QT:MetN P w K mg base a_ "least" 2 ["self"] (tU b_ a_):=by
 show nM Z.u12 ["self","behind"] λsc hr=>?_
 show(ay (bK (jN hr (eU (ns:=c_) Z.u2q (mC Z).mono hr (a7 (a6 0))) (a7 ae)) (aR (aS (a7 gs))) bJ) (ay (aL 1 sc.nd (dL (aX (i:=5) (ns:=c_) Z.u2q Z.u31 (a7 (a6 0))) (a7 ae))) (aR (aS (oj (QD Z).mono hr (ad (cI (aX (i:=3) (ns:=c_) Z.u2q Z.u2z (a7 (a6 0))) (a7 (a6 1)) (λ_ _=>rfl)) (ad (cI (aX (i:=4) (ns:=c_) Z.u2q Z.u30 (a7 (a6 0))) (a7 (a6 1)) (λ_ _=>rfl)) (ad (eU (ns:=c_) Z.u2q (mC Z).mono hr (a7 (a6 0))) ao))))))))
def By:MetE P w K mg base a_ "asked" 4 ["self","asker"] (gz b_ a_):=by
 show xM Z.u13 ["self","asker","fare","taken"] λsc hr ho=>?_
 show(aY (bP (eS (eU (ns:=c_) Z.u2q (Bx Z).mono hr (a7 (a6 0)))) (b6 (cQ Z.u37 ho)) bX) (aY (yO 2 ho sc.nd (iU (ns:=c_) Z.u2q (QR Z).mono hr (a7 (a6 0)) (ad (a7 (a6 1)) ao))) (aY (bu (aL 3 sc.nd (IJ (ns:=c_) Z.u2q (QS Z).mono hr (a7 (a6 0)) (ad (a7 (a6 2)) ao)))) (aY (bu (jQ (i:=9) (ns:=c_) Z.u2q Z.u36 (a7 (a6 0)) (o9 (ad (aX (i:=5) (ns:=c_) Z.u2q Z.u31 (a7 (a6 0))) (ad (eU (ns:=c_) Z.u2q (mC Z).mono hr (a7 (a6 0))) (ad (eU (ns:=c_) Z.u2q (QT Z).mono hr (a7 (a6 0))) (ad (a7 (a6 2)) ao))))))) (aY (bu (jQ (i:=5) (ns:=c_) Z.u2q Z.u31 (a7 (a6 0)) (dL (aX (i:=5) (ns:=c_) Z.u2q Z.u31 (a7 (a6 0))) (a7 ae)))) (aY (bu (bK (bt (fm (a6 3))) (ay (jQ (i:=6) (ns:=c_) Z.u2q Z.u32 (a7 (a6 0)) (dL (aX (i:=6) (ns:=c_) Z.u2q Z.u32 (a7 (a6 0))) (a7 ae))) (aR (jQ (i:=7) (ns:=c_) Z.u2q Z.u33 (a7 (a6 0)) (dL (aX (i:=7) (ns:=c_) Z.u2q Z.u33 (a7 (a6 0))) (a7 (a6 2)))))) bJ)) (b6 (bu (aS (a7 (a6 3)))))))))))
def QU:MetN P w K mg base a_ "turn" 1 ["self"] (tV b_ a_):=by
 show nM Z.u14 ["self"] λsc hr=>?_
 show(aR (aS (aX (i:=5) (ns:=c_) Z.u2q Z.u31 (a7 (a6 0)))))
def Bz:MetN P w K mg base a_ "coins" 1 ["self"] (lY b_ a_):=by
 show nM Z.u15 ["self"] λsc hr=>?_
 show(aR (aS (yt (o8 (aX (i:=8) (ns:=c_) Z.u2q Z.u35 (a7 (a6 0)))) (aX (i:=7) (ns:=c_) Z.u2q Z.u33 (a7 (a6 0))) (lJ (aX (i:=7) (ns:=c_) Z.u2q Z.u33 (a7 (a6 0))) (aX (i:=8) (ns:=c_) Z.u2q Z.u35 (a7 (a6 0)))))))
def QV:MetE P w K mg base a_ "paper" 1 ["self"] (tW b_ a_):=by
 show xM Z.u16 ["self"] λsc hr ho=>?_
 show(aY (bP (o8 (aX (i:=9) (ns:=c_) Z.u2q Z.u36 (a7 (a6 0)))) (b6 (cQ Z.u37 ho)) bX) (b6 (bu (aS (aX (i:=9) (ns:=c_) Z.u2q Z.u36 (a7 (a6 0)))))))
def QY:MetN P w K mg base a_ "worth" 1 ["self"] (py b_ a_):=by
 show nM Z.u17 ["self"] λsc hr=>?_
 show(aR (aS (o9 (ad (cI (cI (aX (i:=4) (ns:=c_) Z.u2q Z.u30 (a7 (a6 0))) (a7 ae) (λ_ _=>rfl)) (aX (i:=0) (ns:=c_) Z.u2q Z.u2w (a7 (a6 0))) (λ_ _=>rfl)) (ad (cI (aX (i:=3) (ns:=c_) Z.u2q Z.u2z (a7 (a6 0))) (a7 ae) (λ_ _=>rfl)) ao)))))
def QZ:MetE P w K mg base b_ "tell" 5 ["self","head"] (ef b_ a_):=by
 show xM Z.u18 ["self","head"] λsc hr ho=>?_
 show(aY (bP (bt (bN hr (a6 1) ar)) (b6 (iT ho (zx (Bu Z).mono hr (gy (iU (ns:=c_) Z.u2q (By Z).mono hr (aX (i:=4) (ns:=d_) Z.u2p Z.u2v (a7 (a6 0))) (ad (a7 gs) ao)) ik)))) bX) (aY (bu (bK (bt (bN hr (a6 1) ar)) (aR (aS (oN Z.u29 (ad (eU (ns:=c_) Z.u2q (mC Z).mono hr (aX (i:=4) (ns:=d_) Z.u2p Z.u2v (a7 (a6 0)))) ao)))) bJ)) (aY (bu (bK (bt (bN hr (a6 1) ar)) (aR (aS (oN Z.u29 (ad (eU (ns:=c_) Z.u2q (QU Z).mono hr (aX (i:=4) (ns:=d_) Z.u2p Z.u2v (a7 (a6 0)))) ao)))) bJ)) (aY (bu (bK (bt (bN hr (a6 1) ar)) (aR (aS (oN Z.u29 (ad (eU (ns:=c_) Z.u2q (Bz Z).mono hr (aX (i:=4) (ns:=d_) Z.u2p Z.u2v (a7 (a6 0)))) ao)))) bJ)) (aY (bP (bt (bN hr (a6 1) ar)) (b6 (iT ho (Ll (Lk (y:="number") (J6:=[]) (cn:=[]) (by walk_at"cp") rfl (IK (ns:=c_) Z.u2q (QV Z).mono hr (aX (i:=4) (ns:=d_) Z.u2p Z.u2v (a7 (a6 0)))) (by walk_at"pg") (λ_ _ _ _=>(a7 (bH (QM Z).mono hr (a9 (a6 0) am)))))))) bX) (aY (bu (bK (bt (bN hr (a6 1) ar)) (aR (aS (iX (Lj (y:="number") (J6:=[]) (cn:=[]) (by walk_at"cp") rfl (eU (ns:=c_) Z.u2q (QY Z).mono hr (aX (i:=4) (ns:=d_) Z.u2p Z.u2v (a7 (a6 0)))) (by walk_at"pg") (λ_ _ _ _=>(a7 (jW Z.u29 (a9 (a6 0) am)))))))) bJ)) (b6 (cQ Z.u37 ho))))))))
def Ra:MetE P w K mg base a_ "came" 2 ["self","number"] (il b_ a_):=by
 show xM Z.u19 ["self","number"] λsc hr ho=>?_
 show(aY (bP (fC (eS (eU (ns:=c_) Z.u2q (Bx Z).mono hr (a7 (a6 0))))) (b6 (cQ Z.u37 ho)) bX) (aY (bP (Hh (aX (i:=8) (ns:=c_) Z.u2q Z.u35 (a7 (a6 0)))) (b6 (cQ Z.u37 ho)) bX) (aY (bP (fC (eS (oj (gH Z).mono hr (ad (a7 (a6 1)) (ad (a7 ae) (ad (aX (i:=6) (ns:=c_) Z.u2q Z.u32 (a7 (a6 0))) ao)))))) (b6 (cQ Z.u37 ho)) bX) (aY (bu (jQ (i:=8) (ns:=c_) Z.u2q Z.u35 (a7 (a6 0)) (yp (cI (aX (i:=2) (ns:=c_) Z.u2q Z.u2y (a7 (a6 0))) (a7 ae) (λ_ _=>rfl)) (HF rfl Z.u25 (ad (lJ (a7 (a6 1)) (cI (aX (i:=2) (ns:=c_) Z.u2q Z.u2y (a7 (a6 0))) (a7 ae) (λ_ _=>rfl))) (ad (a7 ae) ao)))))) (b6 (bu (aS (eU (ns:=c_) Z.u2q (Bz Z).mono hr (a7 (a6 0))))))))))
def Rb:MetE P w K mg base b_ "place_of" 1 ["self","name"] (jX b_ a_):=by
 show xM Z.u1a ["self","name"] λsc hr ho=>?_
 show(aY (bP (Le hr (a7 (a6 1)) (aX (i:=0) (ns:=d_) Z.u2p Z.u2r (a7 (a6 0)))) (b6 (sX Z.u37 ho (a6 1))) bX) (b6 (bu (aS (Lf hr (aX (i:=0) (ns:=d_) Z.u2p Z.u2r (a7 (a6 0))) (a7 (a6 1)) (λ_ _=>rfl))))))
def qb:DefE P w K mg base "read_number" 2 ["word"] (im b_ a_):=by
 show xA Z.u1b ["word"] λsc hr ho=>?_
 show(aY (bP (bt (eO (qN (iE (fm (bH (Bt Z).mono hr (a9 (a6 0) (a9 (yZ Z.u2d.choose_spec) (a9 (eM Z.u2i.choose_spec) am)))))) (qM (eO (gk (bN hr (lS (a6 0) ae (λ_ _=>rfl)) ar) (gj (nF hr (a6 0) ar)))))))) (b6 (sX Z.u37 ho (a6 0))) bX) (b6 (bu (aS (a7 (KG Z.u21 (a9 (a6 0) am)))))))
def Rc:MetE P w K mg base b_ "serve" 6 ["self","head","rest"] (j5 b_ a_):=by
 show xM Z.u1c ["self","head","rest"] λsc hr ho=>?_
 show(aY (bP (bt (eO (gk (bN hr (a6 1) ar) (gj (bN hr (cA Z.u23 (a9 (a6 2) am)) ae))))) (b6 (iT ho (zx (Bu Z).mono hr (gy (jV (ns:=c_) Z.u2q (By Z).mono hr (aX (i:=4) (ns:=d_) Z.u2p Z.u2v (a7 (a6 0))) (gy (iU (ns:=d_) Z.u2p (Rb Z).mono hr (a7 (a6 0)) (ad (a7 (bM (aW 2) ae (λ_ _=>rfl))) ao)) ik)) ik)))) bX) (aY (bP (bt (eO (gk (bN hr (a6 1) ar) (gj (bN hr (cA Z.u23 (a9 (a6 2) am)) ae))))) (b6 (iT ho (Li Z.u29 (jV (ns:=c_) Z.u2q (Ra Z).mono hr (aX (i:=4) (ns:=d_) Z.u2p Z.u2v (a7 (a6 0))) (gy (ia (qb Z).mono hr (ad (a7 (bM (aW 2) ae (λ_ _=>rfl))) ao)) ik))))) bX) (aY (bP (bt (wD (cA Z.u23 (a9 (a6 2) am)) ae)) (b6 (cQ Z.u37 ho)) bX) (b6 (iT ho (iU (ns:=d_) Z.u2p (QZ Z).mono hr (a7 (a6 0)) (ad (a7 (a6 1)) ao)))))))
def Re:MetE P w K mg base b_ "add_class" 3 ["self","name","fare"] (tX b_ a_):=by
 show xM Z.u1d ["self","name","fare"] λsc hr ho=>?_
 show(aY (bP (Ld hr (a7 (a6 1)) (aX (i:=0) (ns:=d_) Z.u2p Z.u2r (a7 (a6 0)))) (b6 Lm) bX) (aY (bP (He (i8 Z.u23 (ad (aX (i:=2) (ns:=d_) Z.u2p Z.u2t (a7 (a6 0))) ao)) (a7 ae)) (b6 (cQ Z.u37 ho)) bX) (aY (bP (jN hr (i8 Z.u23 (ad (aX (i:=1) (ns:=d_) Z.u2p Z.u2s (a7 (a6 0))) ao)) (a7 (eM Z.u2h.choose_spec))) (b6 (cQ Z.u37 ho)) bX) (aY (bP (bt (iE (fm (bH (Bn Z).mono hr (a9 (aH (b9 (a9 (a6 2) am))) am))))) (b6 (cQ Z.u37 ho)) bX) (aY (bu (Lg hr (aX (i:=0) (ns:=d_) Z.u2p Z.u2r (a7 (a6 0))) (a7 (a6 1)) (i8 Z.u23 (ad (aX (i:=1) (ns:=d_) Z.u2p Z.u2s (a7 (a6 0))) ao)))) (b6 (bu (jS (aX (i:=1) (ns:=d_) Z.u2p Z.u2s (a7 (a6 0))) (a7 (a6 2))))))))))
def Rf:DefE P w K mg base "read_name" 2 ["word"] (tY b_ a_):=by
 show xA Z.u1e ["word"] λsc hr ho=>?_
 show(aY (bP (bt (iE (fm (bH (Bt Z).mono hr (a9 (a6 0) (a9 (yZ Z.u2e.choose_spec) (a9 (eM Z.u2j.choose_spec) am))))))) (b6 (sX Z.u37 ho (a6 0))) bX) (b6 (bu (aS (a7 (a6 0))))))
def Rg:MetE P w K mg base b_ "add_turn" 3 ["self","row"] (tZ b_ a_):=by
 show xM Z.u1f ["self","row","classes"] λsc hr ho=>?_
 show(aY (bu (aL 2 sc.nd (i8 Z.u23 (ad (aX (i:=1) (ns:=d_) Z.u2p Z.u2s (a7 (a6 0))) ao)))) (aY (bP (bt (eO (qN (bN hr (a6 2) ae) (qM (nF hr (cA Z.u23 (a9 (a6 1) am)) (cM (a6 2) ae)))))) (b6 (cQ Z.u37 ho)) bX) (aY (bP (jN hr (i8 Z.u23 (ad (aX (i:=2) (ns:=d_) Z.u2p Z.u2t (a7 (a6 0))) ao)) (a7 (eM Z.u2n.choose_spec))) (b6 (cQ Z.u37 ho)) bX) (aY (bP (bt (iE (fm (bH (Bp Z).mono hr (a9 (a6 1) (a9 (a6 2) am)))))) (b6 (cQ Z.u37 ho)) bX) (b6 (bu (jS (aX (i:=2) (ns:=d_) Z.u2p Z.u2t (a7 (a6 0))) (a7 (a6 1)))))))))
def BA:DefE P w K mg base "read_numbers" 3 ["words"] (lZ b_ a_):=by
 show xA Z.u1g ["words"] λsc hr ho=>?_
 show(b6 (LA ho (y:="word") (J6:=[]) (cn:=[]) (by walk_at"cp") rfl (a7 (a6 0)) (by walk_at"pg") (λ_ _ _ _=>(ia (qb Z).mono hr (ad (a7 (a6 0)) ao)))))
def Rh:MetE P w K mg base b_ "set_rule" 3 ["self","rule"] (zI b_ a_):=by
 show xM Z.u1h ["self","rule"] λsc hr ho=>?_
 show(aY (bP (bt (iE (fm (bH (Bs Z).mono hr (a9 (a6 1) am))))) (b6 (cQ Z.u37 ho)) bX) (b6 (bu (jQ (i:=3) (ns:=d_) Z.u2p Z.u2u (a7 (a6 0)) (a7 (a6 1))))))
def Ri:MakE P w K mg base "Office" a_ 6 ["self","seats","fares","turns","rule"] (u6 b_ a_):=by
 have sc:FnScope ["self","seats","fares","turns","rule","last"] ["self","seats","fares","turns","rule"] (aN Bk):=by walk_at"sc"
 show mkI Z.u1i (by walk_at"bd") λ_ _ Fn=>sQ rfl rfl rfl Fn sc (λ_ _ _ _ _ _ _ _ hr ho=>?_)
 show(aY (bP (fC (eS (HG (Qu Z).mono hr (ad (a7 (a6 1)) (ad (a7 (a6 2)) (ad (a7 (a6 3)) ao)))))) (b6 (cQ Z.u37 ho)) bX) (aY (bP (bt (iE (fm (bH (Bs Z).mono hr (a9 (a6 4) am))))) (b6 (cQ Z.u37 ho)) bX) (aY (bu (aL 5 sc.nd (a7 (bH (QK Z).mono hr (a9 (a6 1) (a9 (a6 4) am)))))) (aY (bu (dM (ns:=c_.take 0) Z.u2q Z.u2w (a7 (a6 0)) (a7 (a6 1)))) (aY (bu (dM (ns:=c_.take 1) Z.u2q Z.u2x (a7 (a6 0)) (HK Z.u24 (a7 (a6 2))))) (aY (bu (dM (ns:=c_.take 2) Z.u2q Z.u2y (a7 (a6 0)) (a7 (a6 4)))) (aY (bu (dM (ns:=c_.take 3) Z.u2q Z.u2z (a7 (a6 0)) (HH (Bq Z).mono hr (ad (a7 (a6 3)) (ad (a7 (a6 5)) ao))))) (aY (bu (dM (ns:=c_.take 4) Z.u2q Z.u30 (a7 (a6 0)) (HI (Qz Z).mono hr (ad (a7 (a6 2)) (ad (a7 (a6 3)) (ad (a7 (a6 5)) (ad (a7 (aH (lf (QJ Z).mono hr (a9 (a6 1) (a9 (a6 4) am))))) ao))))))) (aY (bu (dM (ns:=c_.take 5) Z.u2q Z.u31 (a7 (a6 0)) (a7 ae))) (aY (bu (dM (ns:=c_.take 6) Z.u2q Z.u32 (a7 (a6 0)) (a7 ae))) (aY (bu (dM (ns:=c_.take 7) Z.u2q Z.u33 (a7 (a6 0)) (a7 ae))) (aY (bu (dM (ns:=c_.take 8) Z.u2q Z.u35 (a7 (a6 0)) (a7 gs))) (b6 (bu (dM (ns:=c_.take 9) Z.u2q Z.u36 (a7 (a6 0)) (a7 gs))))))))))))))))
def Rj:MetE P w K mg base b_ "begin" 8 ["self","seats"] (u7 b_ a_):=by
 show xM Z.u1j ["self","seats","rule"] λsc hr ho=>?_
 show(aY (bu (aL 2 sc.nd (yt (o8 (aX (i:=3) (ns:=d_) Z.u2p Z.u2u (a7 (a6 0)))) (a7 (DW (a9 (a6 1) (a9 ae (a9 ae (a9 ae am)))))) (aX (i:=3) (ns:=d_) Z.u2p Z.u2u (a7 (a6 0)))))) (b6 (Lr (i:=4) (ns:=d_) ho Z.u2p Z.u2v (a7 (a6 0)) (Iu ((Ri Z).mono (k:=6)) (hr.mono (by decide)) (ad (a7 (a6 1)) (ad (aX (i:=1) (ns:=d_) Z.u2p Z.u2s (a7 (a6 0))) (ad (aX (i:=2) (ns:=d_) Z.u2p Z.u2t (a7 (a6 0))) (ad (a7 (a6 2)) ao))))))))
def Rk:MetE P w K mg base b_ "gather" 9 ["self","head","rest"] (gA b_ a_):=by
 show xM Z.u1k ["self","head","rest"] λsc hr ho=>?_
 show(aY (bP (bt (eO (gk (bN hr (a6 1) ar) (gj (bN hr (cA Z.u23 (a9 (a6 2) am)) ae))))) (b6 (oO ho (jV (ns:=d_) Z.u2p (Re Z).mono hr (a7 (a6 0)) (gy (ia (Rf Z).mono hr (ad (a7 (bM (aW 2) ae (λ_ _=>rfl))) ao)) (gy (ia (qb Z).mono hr (ad (a7 (bM (aW 2) ae (λ_ _=>rfl))) ao)) ik))))) (b6 (bP (bt (eO (gk (bN hr (a6 1) ar) (gj (wD (cA Z.u23 (a9 (a6 2) am)) ae))))) (b6 (oO ho (jV (ns:=d_) Z.u2p (Rg Z).mono hr (a7 (a6 0)) (gy (ia (BA Z).mono hr (ad (a7 (a6 2)) ao)) ik)))) (b6 (bP (bt (eO (gk (bN hr (a6 1) ar) (gj (bN hr (cA Z.u23 (a9 (a6 2) am)) ae))))) (b6 (oO ho (jV (ns:=d_) Z.u2p (Rh Z).mono hr (a7 (a6 0)) (gy (LD Z.u2b (ia (BA Z).mono hr (ad (a7 (a6 2)) ao))) ik)))) (b6 (bP (bt (eO (gk (bN hr (a6 1) ar) (gj (bN hr (cA Z.u23 (a9 (a6 2) am)) ae))))) (b6 (oO ho (jV (ns:=d_) Z.u2p (Rj Z).mono hr (a7 (a6 0)) (gy (ia (qb Z).mono hr (ad (a7 (bM (aW 2) ae (λ_ _=>rfl))) ao)) ik)))) (b6 (cQ Z.u37 ho))))))))) (b6 (bu (aS (a7 ar)))))
def Rl:MetE P w K mg base b_ "say" 10 ["self","row"] (cC b_ a_):=by
 show xM Z.u1l ["self","row","words"] λsc hr ho=>?_
 show(aY (yO 2 ho sc.nd (ia (QQ Z).mono hr (ad (a7 (a6 1)) ao))) (aY (bP (o8 (aX (i:=4) (ns:=d_) Z.u2p Z.u2v (a7 (a6 0)))) (b6 (iT ho (iU (ns:=d_) Z.u2p (Rk Z).mono hr (a7 (a6 0)) (ad (sx (a7 (a6 2)) (a7 ae) (λ_ _=>rfl)) (ad (yK (k:=1) (a7 (a6 2))) ao))))) bX) (b6 (iT ho (iU (ns:=d_) Z.u2p (Rc Z).mono hr (a7 (a6 0)) (ad (sx (a7 (a6 2)) (a7 ae) (λ_ _=>rfl)) (ad (yK (k:=1) (a7 (a6 2))) ao)))))))
def uQ:DefN P w K mg base "_law_said" 11 ["desk","row"] (io b_ a_):=by
 show nA Z.u1m ["desk","row","caught","answer","e","kinds"] λsc hr=>?_
 show(ay (aL 2 sc.nd (a7 gs)) (ay (aL 3 sc.nd (a7 gs)) (ay (ID 3 2 4 Z.u37 sc.nd (iU (ns:=d_) Z.u2p (Rl Z).mono hr (a7 (a6 0)) (ad (a7 (a6 1)) ao))) (ay (bK (bt (rD (a6 2))) (aR (aS (a7 (a6 3)))) bJ) (ay (aL 5 sc.nd (fV (ad (fW Z.u37 Z.u22 (a7 (a6 2))) (ad (IG Z.u37 Z.u22 Z.u1x (a7 (a6 2))) (ad (fW Z.u37 Z.u22 (a7 (a6 2))) ao))))) (ay (aL 5 sc.nd (ib (a7 (a6 5)) (fV (ad (fW Z.u37 Z.u22 (a7 (a6 2))) (ad (fW Z.u37 Z.u22 (a7 (a6 2))) (ad (fW Z.u37 Z.u22 (a7 (a6 2))) ao)))))) (ay (aL 5 sc.nd (ib (a7 (a6 5)) (fV (ad (fW Z.u37 Z.u22 (a7 (a6 2))) (ad (fW Z.u37 Z.u22 (a7 (a6 2))) (ad (fW Z.u37 Z.u22 (a7 (a6 2))) ao)))))) (aR (aS (ib (a7 (a6 5)) (fV (ad (fW Z.u37 Z.u22 (a7 (a6 2))) (ad (fW Z.u37 Z.u22 (a7 (a6 2))) ao)))))))))))))
def qc:DefN P w K mg base "_law_both" 12 ["one","other","rows"] (j6 b_ a_):=by
 show nA Z.u1n ["one","other","rows","row"] λsc hr=>?_
 show(ay (yD 3 sc.nd rfl (a7 (a6 2)) (aR (bK (yq hr (aG (uQ Z).mono hr (ad (a7 (a6 0)) (ad (a7 (a6 3)) ao))) (aG (uQ Z).mono hr (ad (a7 (a6 1)) (ad (a7 (a6 3)) ao)))) (aR (aS (a7 cY))) bJ))) (aR (aS (a7 cY))))
def Rm:DefN P w K mg base "_law_names" 2 ["pool","many"] (u8 b_ a_):=by
 show nA Z.u1o ["pool","many","letters","some","word","style","off","base","at","names","k","first","amid","odd"] λsc hr=>?_
 show(ay (aL 2 sc.nd (a7 ar)) (ay (aL 3 sc.nd (a7 (aH (b9 (a9 ar (a9 ar (a9 ar (a9 ar (a9 ar (a9 ar (a9 ar (a9 ar (a9 ar (a9 ar (a9 ar (a9 ar (a9 ar am))))))))))))))))) (ay (aL 4 sc.nd (iX (lL (y:="k") (J6:=[0,2]) (cn:=["pool","letters"]) (by walk_at"cp") rfl Z.u27 (ad (a7 ae) ao) (by walk_at"pg") (λ_ _ _ _=>(sU (a7 (a6 2)) (aG (bg Z).mono hr (ad (a7 (a6 1)) (ad (a7 ae) ao))) (λ_ _=>rfl)))))) (ay (aL 5 sc.nd (aG (bg Z).mono hr (ad (a7 (a6 0)) (ad (a7 ae) ao)))) (ay (aL 6 sc.nd (aG (bg Z).mono hr (ad (a7 (a6 0)) (ad (a7 ae) ao)))) (ay (aL 7 sc.nd (Lq (a7 (a6 4)) (aG (bg Z).mono hr (ad (a7 (a6 0)) (ad (a7 ae) ao))))) (ay (aL 8 sc.nd (aG (bg Z).mono hr (ad (a7 (a6 0)) (ad (a7 (cM (oF Z.u23 (a9 (a6 7) am)) ae)) ao)))) (ay (aL 9 sc.nd (og (b9 am))) (ay (yE 10 sc.nd rfl Z.u27 (ad (a7 (a6 1)) ao) (ay (aL 11 sc.nd (a7 (lS (a6 2) (fK (cM (a6 6) (mY (a6 10) ae)) ae) (λ_ _=>rfl)))) (ay (aL 12 sc.nd (a7 (cR (cR (dZ (a6 7) da (cN (a6 8))) (lS (a6 2) (fK (cM (a6 6) (a6 10)) ae) (λ_ _=>rfl))) (dZ (a6 7) (cN (a6 8)) da)))) (aR (jS (a7 (a6 9)) (a7 (bM (d9 (aH (b9 (a9 (cR (a6 11) (dZ (a6 4) da (cN (fK (a6 10) ae)))) (a9 (cR (dZ (a6 4) (cN (gi ae (fK (a6 10) ae))) da) (a6 11)) (a9 (a6 12) (a9 (a6 12) am))))))) (a6 5) (λ_ _=>rfl)))))))) (ay (aL 13 sc.nd (cI (a7 (a6 3)) (aG (bg Z).mono hr (ad (a7 (a6 0)) (ad (a7 ae) ao))) (λ_ _=>rfl))) (ay (bK (sv (su (Lp (a7 (a6 13)) (a7 (a6 9))) (yr (jN hr (aG (bg Z).mono hr (ad (a7 (a6 0)) (ad (a7 ae) ao))) (a7 ae))))) (aR (oy (a7 (a6 9)) (aG (bg Z).mono hr (ad (a7 (a6 0)) (ad (a7 (a6 1)) ao))) (a7 (a6 13)))) bJ) (aR (yw 9)))))))))))))
def qd:DefN P w K mg base "_law_pool" 2 ["script","k"] (jY b_ a_):=by
 show nA Z.u1p ["script","k"] λsc hr=>?_
 show(aR (aS (Hy (ns:=["rest","mixed","count"]) (sE (bH (Bv Z).mono hr (a9 (a6 0) (a9 (a6 1) am))) (sE (Ei hr (fK (bH (Bv Z).mono hr (a9 (a6 0) (a9 ae am))) ae) ae) (sE (cM ae (a6 1)) Hx))))))
def uR:DefN P w K mg base "_law_size" 2 ["pool","most"] (m6 b_ a_):=by
 show nA Z.u1q ["pool","most","kind"] λsc hr=>?_
 show(ay (aL 2 sc.nd (aG (bg Z).mono hr (ad (a7 (a6 0)) (ad (a7 ae) ao)))) (ay (bK (bt (bN hr (a6 2) ae)) (aR (aS (aG (bg Z).mono hr (ad (a7 (a6 0)) (ad (a7 (qV rfl Z.u26 (a9 ae (a9 (a6 1) am)))) ao))))) bJ) (ay (bK (bt (bN hr (a6 2) ae)) (aR (aS (a7 (gi (a6 1) ae)))) bJ) (aR (aS (aG (bg Z).mono hr (ad (a7 (a6 0)) (ad (a7 (a6 1)) ao))))))))
def Rn:DefN P w K mg base "_law_rule" 3 ["pool"] (u9 b_ a_):=by
 show nA Z.u1r ["pool","of"] λsc hr=>?_
 show(ay (aL 1 sc.nd (dL (a7 ae) (aG (uR Z).mono hr (ad (a7 (a6 0)) (ad (a7 ae) ao))))) (aR (aS (o9 (ad (aG (bg Z).mono hr (ad (a7 (a6 0)) (ad (a7 ae) ao))) (ad (aG (bg Z).mono hr (ad (a7 (a6 0)) (ad (a7 (cM (a6 1) ae)) ao))) (ad (a7 (a6 1)) (ad (aG (uR Z).mono hr (ad (a7 (a6 0)) (ad (a7 (cM (wA ae ae) ae)) ao))) ao))))))))
def Ro:DefN P w K mg base "_law_weights" 2 ["pool","many"] (ua b_ a_):=by
 show nA Z.u1s ["pool","many","row","k"] λsc hr=>?_
 show(ay (aL 2 sc.nd (og (b9 am))) (ay (yE 3 sc.nd rfl Z.u27 (ad (a7 (cM (a6 1) ae)) ao) (aR (jS (a7 (a6 2)) (cI (fV (ad (a7 ae) (ad (aG (bg Z).mono hr (ad (a7 (a6 0)) (ad (a7 ae) ao))) (ad (aG (bg Z).mono hr (ad (a7 (a6 0)) (ad (a7 ae) ao))) ao)))) (aG (bg Z).mono hr (ad (a7 (a6 0)) (ad (a7 ae) ao))) (λ_ _=>rfl))))) (ay (bK (jN hr (HC rfl Z.u2a (ad (a7 (a6 2)) ao)) (a7 ae)) (aR (oy (a7 (a6 2)) (a7 (a6 1)) (a7 ae))) bJ) (aR (yw 2)))))
def Rp:DefN P w K mg base "_law_sale" 4 ["script","k"] (ub b_ a_):=by
 show nA Z.u1t ["script","k","pool","seats","fares","rule","many"] λsc hr=>?_
 show(ay (aL 2 sc.nd (aG (qd Z).mono hr (ad (a7 (a6 0)) (ad (a7 (a6 1)) ao)))) (ay (aL 3 sc.nd (aG (bg Z).mono hr (ad (a7 (a6 2)) (ad (a7 ae) ao)))) (ay (aL 4 sc.nd (lL (y:="j") (J6:=[2]) (cn:=["pool"]) (by walk_at"cp") rfl Z.u27 (ad (dL (a7 ae) (aG (bg Z).mono hr (ad (a7 (a6 2)) (ad (a7 ae) ao)))) ao) (by walk_at"pg") (λ_ _ _ _=>(dL (a7 ae) (aG (uR Z).mono hr (ad (a7 (a6 1)) (ad (a7 (wA ae ae)) ao))))))) (ay (aL 5 sc.nd (aG (Rn Z).mono hr (ad (a7 (a6 2)) ao))) (ay (aL 6 sc.nd (aG (bg Z).mono hr (ad (a7 (a6 2)) (ad (a7 ae) ao)))) (ay (aL 2 sc.nd (aG (qd Z).mono hr (ad (a7 (a6 0)) (ad (a7 (cM (a6 1) ae)) ao)))) (aR (aS (o9 (ad (a7 (a6 3)) (ad (a7 (a6 4)) (ad (lL (y:="j") (J6:=[2,4]) (cn:=["pool","fares"]) (by walk_at"cp") rfl Z.u27 (ad (a7 (a6 6)) ao) (by walk_at"pg") (λ_ _ _ _=>(aG (Ro Z).mono hr (ad (a7 (a6 1)) (ad (a7 (cA Z.u23 (a9 (a6 2) am))) ao))))) (ad (a7 (a6 5)) ao)))))))))))))
def uS:DefN P w K mg base "_law_told" 13 ["one","other","script","places","names","ahead"] (m7 b_ a_):=by
 show nA Z.u1u ["one","other","script","places","names","ahead","k","pool","good"] λsc hr=>?_
 show(ay (yD 6 sc.nd rfl (a7 (a6 3)) (aR (bK (bt (wC (a6 6) (qV rfl Z.u26 (a9 ae (a9 (cA Z.u23 (a9 (a6 2) am)) am))))) (ay (aL 7 sc.nd (aG (qd Z).mono hr (ad (a7 (a6 2)) (ad (a7 (a6 6)) ao)))) (ay (bK (yq hr (aG (uQ Z).mono hr (ad (a7 (a6 0)) (ad (iX (aG (QP Z).mono hr (ad (a7 (a6 7)) (ad (a7 (a6 4)) (ad (a7 (a6 5)) ao))))) ao))) (a7 (aH (ft (d9 (aH (b9 (a9 cY (a9 cY am))))) (d9 (aH (wL (b9 (a9 cY am)) ae))))))) (aR (aS (a7 cY))) bJ) (ay (aL 8 sc.nd (iX (aG (uP Z).mono hr (ad (a7 (a6 7)) (ad (a7 (a6 4)) (ad (a7 cY) ao)))))) (aR (bK (sv (su (bt (iE (fm (a6 5)))) (su (jN hr (aG (bg Z).mono hr (ad (a7 (a6 7)) (ad (a7 ae) ao))) (a7 ae)) (yr (fC (eS (aG (qc Z).mono hr (ad (a7 (a6 0)) (ad (a7 (a6 1)) (ad (a7 (aH (b9 (a9 (a6 8) am)))) ao)))))))))) (aR (aS (a7 cY))) bJ))))) bJ))) (aR (aS (a7 cY))))
def BB:MakN P w K mg base "Desk" b_ 1 ["self"] (pz b_ a_):=by
 have sc:FnScope ["self"] ["self"] (aN Bl):=by walk_at"sc"
 show mkI Z.u1v (by walk_at"bd") λ_ _ Fn=>oz rfl rfl rfl Fn sc (λ_ _ _ _ _ _ hr=>?_)
 show(ay (dM (ns:=d_.take 0) Z.u2p Z.u2r (a7 (a6 0)) La) (ay (dM (ns:=d_.take 1) Z.u2p Z.u2s (a7 (a6 0)) (sw ao)) (ay (dM (ns:=d_.take 2) Z.u2p Z.u2t (a7 (a6 0)) (sw ao)) (ay (dM (ns:=d_.take 3) Z.u2p Z.u2u (a7 (a6 0)) (a7 gs)) (aR (dM (ns:=d_.take 4) Z.u2p Z.u2v (a7 (a6 0)) (a7 gs)))))))
def Rq{a:Addr}{fd:FuncData}(Fn:Fun K "law" "law" uO a fd):FnOk P w K mg base CX0 14 a fd ["script"] (spN K (uc b_ a_)):=by
 have sc:FnScope ["script","seats","fares","turns","rule","names","one","other","rows","rest"] ["script"] (aN uO):=by walk_at"sc"
 show oz rfl rfl rfl Fn sc (λcdv A outer s H E hr=>?_);show(ay (Hq [1,2,3,4] rfl sc.nd (aG (Rp Z).mono hr (ad (a7 (a6 0)) (ad (a7 ae) ao))) (.cons (i:=1) rfl (by first|show Or.inl rfl|show Or.inr rfl) (.inl rfl) (.cons (i:=2) rfl (by first|show Or.inl rfl|show Or.inr rfl) (.inl rfl) (.cons (i:=3) rfl (by first|show Or.inl rfl|show Or.inr rfl) (.inl rfl) (.cons (i:=4) rfl (by first|show Or.inl rfl|show Or.inr rfl) (.inl rfl) Tgs.nil rfl) rfl) rfl) rfl)) (ay (aL 5 sc.nd (aG (Rm Z).mono hr (ad (aG (qd Z).mono hr (ad (a7 (a6 0)) (ad (a7 ae) ao))) (ad (a7 ae) ao)))) (ay (aL 6 sc.nd (zA ((BB Z).mono (k:=12)) (hr.mono (by decide)))) (ay (aL 7 sc.nd (zA ((BB Z).mono (k:=12)) (hr.mono (by decide)))) (ay (Ln 8 sc.nd (own:=["k","fare"]) (J6:=[5]) (cn:=["names"]) (by walk_at"cp") rfl (xG Z.u20 (aW 2)) (λ_ _ _ _=>kB rfl (Tgs.ok (is:=[0,1]) (show(["k","fare","names"]:i_).Nodup from by decide +kernel) (.cons (i:=0) rfl (Or.inl rfl) (.inr rfl) (.cons (i:=1) rfl (Or.inl rfl) (.inr rfl) Tgs.nil rfl) rfl))) (nw [0,1]) (by decide) (λ_ _ _ _=>dJ) (λ_ _ _ _=>(cR (cR (cR ar (bM (aW 2) (a6 0) (λ_ _=>rfl))) ar) (jW Z.u29 (a9 (a6 1) am))))) (ay (aL 8 sc.nd (zz (a7 (a6 8)) (HN (y:="row") (J6:=[]) (cn:=[]) (by walk_at"cp") rfl (a7 (a6 3)) (by walk_at"pg") (λ_ _ _ _=>(oE (a7 ar) (iX (a7 (aH (dR (own:=["weight"]) (J6:=[]) (cn:=[]) (by walk_at"cp") rfl (iM (aW 0)) (by walk_at"pg") (fw 0) (by decide) (λ_ _ _ _=>dJ) (λ_ _ _ _=>(jW Z.u29 (a9 (a6 0) am)))))))))))) (ay (jS (a7 (a6 8)) (oE (a7 ar) (iX (a7 (aH (dR (own:=["number"]) (J6:=[]) (cn:=[]) (by walk_at"cp") rfl (Ls (a6 4)) (by walk_at"pg") (fw 0) (by decide) (λ_ _ _ _=>dJ) (λ_ _ _ _=>(jW Z.u29 (a9 (a6 0) am))))))))) (sG 8 (ay (bK (sv (Hj (fC (eS (aG (uS Z).mono hr (ad (a7 (a6 6)) (ad (a7 (a6 7)) (ad (a7 (a6 0)) (ad (a7 (aH (tq Z.u24 Z.u27 (a9 ae (a9 ae am))))) (ad (a7 (a6 5)) (ad (a7 cY) ao))))))))) (Hi (fC (eS (aG (qc Z).mono hr (ad (a7 (a6 6)) (ad (a7 (a6 7)) (ad (a7 (a6 8)) ao))))))))) (aR (aS (a7 cY))) bJ) (ay (bK (fC (eS (aG (uS Z).mono hr (ad (a7 (a6 6)) (ad (a7 (a6 7)) (ad (a7 (a6 0)) (ad (a7 (aH (tq Z.u24 Z.u27 (a9 ae (a9 ae am))))) (ad (a7 (a6 5)) (ad (a7 cY) ao))))))))) (aR (aS (a7 cY))) bJ) (ay (bK (fC (eS (aG (qc Z).mono hr (ad (a7 (a6 6)) (ad (a7 (a6 7)) (ad (a7 (aH (b9 (a9 (cR ar (jW Z.u29 (a9 (a6 1) am))) am)))) ao)))))) (aR (aS (a7 cY))) bJ) (ay (bK (fC (eS (aG (uS Z).mono hr (ad (a7 (a6 6)) (ad (a7 (a6 7)) (ad (a7 (a6 0)) (ad (a7 (aH (tq Z.u24 Z.u27 (a9 ae (a9 ae am))))) (ad (a7 (a6 5)) (ad (a7 cY) ao))))))))) (aR (aS (a7 cY))) bJ) (ay (aL 9 sc.nd (a7 (aH (ft (d9 (aH (wL (b9 (a9 ar am)) (cA Z.u23 (a9 (a6 3) am))))) (d9 (aH (b9 (a9 ar (a9 ar (a9 ar (a9 ar (a9 ar (a9 ar (a9 ar (a9 ar am))))))))))))))) (aR (aS (aG (qc Z).mono hr (ad (a7 (a6 6)) (ad (a7 (a6 7)) (ad (a7 (a6 9)) ao)))))))))))))))))))
end
def uT(K:K0):Sp:=λvs H Q E=>∀b_ a_:Nat,spN K (uc b_ a_) vs H Q E
def all_mk{l:W.OpenLaw}{w:World}{K:K0}{mg:Str->u_}{fa b_ a_:Addr}(hfa:mg "law"=some (.ref fa))(g_:W.nsIn K mainGlobals "Desk"=some (some (.ref b_)))(gV:W.nsIn K mainGlobals "Office"=some (some (.ref a_)))(Z:∀base,AF l.prog w K mg base b_ a_):
  ∃fd:FuncData,(∀(s:Shared) (v:Value),BindsTo s fd ⟨[v],[]⟩ [("script",v)])/\∀base:Heap,K.In base->base.Ns mainGlobals mg->FnOk l.prog w K mg base CX0 14 fa fd ["script"] (uT K):=by
 ext(⟨a,fd,Fn,m⟩:(Z default).u1w);cases hfa.symm.trans m;have Fm:=Fn;ext(⟨oc,od,kV,doc,pm,an,cdv,ct,osl,rfl,lk,hcd⟩:Fm.ex);show⟨_,λs v=>.of_eq rfl,λbase _ _=>(Rq (Z base) Fn).imp λvs H Q E h=>h b_ a_⟩
def walk{l:W.OpenLaw}{q:Program}{loose:i_}{XP:(Str->u_)->Heap->Prop}{YP:World->Heap->Prop}{d:DefRec}{K:Params->K0}(hn:l.most=some 63)(hdf:d.params.defaults=[])(hY:∀(w:World) (h:Heap),YP w h->(K w.params).In h)(Fm:∀(w:World) (mg:Str->u_) (fa:Addr) (h:Heap),(K w.params).In h->h.Ns mainGlobals mg->mg d.name=some (.ref fa) ->
   ∃fd:FuncData,(∀(s:Shared) (u:Value),BindsTo s fd ⟨[u],[]⟩ [("script",u)])/\∀base:Heap,(K w.params).In base->base.Ns mainGlobals mg->FnOk l.prog w (K w.params) mg base CX0 14 fa fd ["script"] (uT (K w.params))):
  W.WalkO q loose XP YP l.row.toRowW d [] (λf vs=>PySem.call f vs):=
 L2.walk_of (n:=63) (k:=14) (x:="script") (CX:=λ_=>CX0) (sp:=λw=>uT (K w.params)) hn (by decide) hdf ⟨rfl,by decide,by decide⟩ hY Fm (λ_ _ a ns hl _ hS b_ a_=>Hw hS (Pb ns hl b_ a_)) λ_ _ _ _ _ z=>z
end My
end VL
local macro_rules|`(universe $x*)=>return Lean.mkNullNode (←x.mapM λi=>`(command|def $(Lean.mkIdent (.mkSimple s!"tw{i.getId.toString.foldl (λn c=>n*26+c.toNat-97) 0}")):ident:=Nat))
namespace PySem.W.Fast
universe gcakgtbmmpxqig efactcwycthabz dzzctnymfkrqgp exgthjjzhbtsax hffonjlmcuybby lgebfusrfeufa kxnisdowgrgsm swsevlzexffjm gnqqtzebxwmluj oagaflikeegzj dzpllqxcrfsozy btzfodtycmvolb coeafznczbdcec bghtxnoowwasja ewldfmgrdbngvj lbhtziczncefp ggacrdywpwcxgr duowawxgbjiubh frhpjvjgfseyiz ddwbntdsxabczw erakrfxuudodwy dfztcwbbqdczmc blfcgjfgcjenrs ebmzsuzgoppztx fzekcupwotobgn bobtpndtxjsjxr cklnpjupresmlk ewjxxwcpcbbdrn gzzvpjnisnquic dqxiwarggkzaif dwvpafixtkoipm hfzhgbibbxwtem dbccebpyqbpwia qphknnrgsojqe bbehzmztvucphm dvynyfztvmwsi grmubalgyvxqcr bcrwljffazsctd cmrxhvwnsnmfui dkzzznuaoghpjf fcpsdeoowcwkol ejcvgftccmslrz ezlbufaabtgkxc ednavgllqfhvne bbkxwyluvatvxy ekahzdhggmawev fgfprchpfkarmo ejpnncblhrjjal boyyqzhmwznpvm fspwyrckjrvylk bfwaoehamrkbcw hajsneazaqkgnl fgqzavhlwyyai eicdbjjssajgfe bljmjjkitvysjr mylfbrwhqjmxv fkjffpwdcdffmt hnkbmzukaonhy dcddhcwoltkfhp bwxrtypkzptuzd hiqfgozynrjuei bstjjbecuvsfqt bwgoanvapjgyhl hbakszqwxqmvem btzudvfntjgzlp csouxsqvguzioj gcstwllikidmwg gtunyixacpkduv flljqnfqcqtfpv fpxjvlwqvgkwwc dgmvoqsyxuorsq gdpmjrnyovwdpx gwcghslhiqwozc cenibhasaoqnhc epnmxsumwfrnmo bmrpvxxjhuzppo fnmuxlxfqyalof fhkofuvcswjtfc cnyrykyzqvhaoq feqjdqwcfprwps hbetxmajbihxnm bonvnfyqdzbcdk dgqdnzehtvcwdd gksytlarhzpxsx efqtacgaiaymsc iflkundrhnyg bjgumkpgyjhdwt ctcukptixloeod ftkvybqjilblqf dhznnjjvafpaes cgjqhvztllopbl dlfkuhhetwekzn cwlmawwsstkcpe foccasvkxmcadh gskqlcgetrfshb cbfzoqnbmnsldu ddmjvityycjccy fvdfpgqvenblvw pmeetkczyvqtj gndemsqcsrtueg dlfehtxuxujcfp bclipidpqzuhxx dlqilocoiggjvt hnhipdwhdmkol dvvuspftdzilbo gdwuwjergaetpg cdbondouzyvpzy ciuqgdlutiwfao cfmawfxfrwrsyv kdlqplapuwzff fhysnniqmvwblf decvnapjwmigdb hgfpwrexnoxleb ewykloddppjolu zdpxcsnszgwos llazivjdgaudi etuahwlhkozwzu ctldeqloiusfaa gmrhkddcvahxlm bzuzuzcvzwamhv hjidktneorszrc guempvazwdnewo dvknqyezzefmim hiwqkfrnpqowuw cxuzzsuhuvvtgr hbrjztwncloarv cuxwdhszlqjgse dkpixhnymjnzb dajvowmdnxfobn coolwommylnqvi cnywhhmmrnxjay qhcorahhtszks cnvhwepxhcaend ghkakmflaugbdc fmeyohxhprlgom phuvsyqaommhf gemyjfyeumjgal cvbazolcdfusan bcdofyixoaaple rwcoxiajllhlv dqflghyywihlnr bclksaambwmpmh eouglxsbqwbduu hdepbwyceghfsz dxylhyxylblucz dkqeqibajssipb daapjolahfhrrr btvehrksempyfo cwfrwogdddntqj blymcggyyvfare dqpbsdlefraswz bwdymgfuawyiiq cczdjiyasvlqfw cwomufcpdozmyh cqoccksjpdwuoq bphpyahotbbblj cewvpmpzabzvqb fvwdvstxdkfzpf bnyierkrrjlvst gcwrnyldbubqsi epqqkasypfwkpr bbudbmuvtvwspw eorvemykkyfjxk elpkigzoyvkmwc djfomejlddfhtz hhtgbblgtyshoz fhowzppbbvlmdu hiigicogmldegs zwodnuspvxvrc cisdtamxzkxndc ftlakhtovdnlgf xydfdosbuckyb eqrejgzgxnjyho edggmgvroxkirm duvzvaagphvuxz cmadyumebtguqh cjggttbfopymcn bqminrcnxlhgdp xwnslizwxoyvw esdkcyajwfzuza duffowwfqureku exevyjpwyavlci fyfrhomzgnlyqj eqlueyixirtajc hlhunhfmlqersg edknpidypsnjkd hyhmauhsaxhlu hbyyfcuhkhihch drykwutuulalmq cbxxowjsfaduq cttevtjxluszng bhuinfowafdwoh byspomfdjawilx dweundoujwulql enrgoiqqhzbjde bskktcqeeorpct dbhhkkfrbdgrur gjplrckxruxzpg cgzsjhomblfjcw coaagyulvhlscx cezdzqpasnzway tqjudbgoitfdu capurzfovihycf cxxxfelcqwlftf fqiemvduvcxtp cedbtpdzfolbdx brvbawyukzuves bbvnwblbkiyypf hiinhclvwvtfya ggapglibnodwqp fxeqmrmgerctoa pfmjqppnibavo gljcrraghgzhxm gsxbgafqgcmryu bfimikwhkoolic gxmxbqjicwdyeb begcmnnwiwzeem cwhtmdbewdbiou gbmfkhsghsfuut cnvtqdvmupewvt crhcteecuhbjmw ggyjxtdfyusykg ciuuqxdrrvsinn hkaqtwleymuycc edxxunuwykshbq phqjoxkgvaejy etsmpyroefradp epevskefqryvsq qzbjsftkkqkmg fljxalekkyypra bokbaxejnbcltc whyttevkwbff cvghoilngrggbu clpikpowqgfjbf durqefqndzzkcu ghlokstphqyndf fjmsmvcxhnetbf ckjnjombcjbenr cewjbeftetxgrv eigeiglhbaveqa gxpyfmrzcodyzm bemomiitdxxstm dtvtxjujtxhezq dhhusmzugbirje gsmeytgukxckdo eyivvjtaxjgshy fgrzgrywivpml calehzknywfwxl ewprwwxolnvfgu ufuyjnggrkyb gnfqfkbxvtaboa echddysposcgsf esydyfzhcxcliu cjxgmgvbvmlyed blprbziaxxiuww ekkxshgnljmzcc eizesbniwrqddg ctoibacytzryab fuyfivqvajbmhm ctswhndwgtubgj ddezjauwxeovqp chkrgcxoyzjcev cevwaffsieqcdx cfmaurbujdulvh fabqxapwfyqrlf ghtxitwgxgtrtd fplqpchbesqrpd hdwflybutalmko frbbradusxgysh fdzmcrhmxjdmlg fbilqsogqnohrl cdezfafzeuxniq byvtyuguohgowh fcnddvlmcocgxr elpcofozvbynhf bzrgorbmvdvfew edngjbmxfvixip dgtgovplxqsdzf gomjetnggifnv ccworwfkmzeozd eituioudampcr grclorqjgenxin fdqmkbhkenrfad dikgydxobfxvuo boefauomfdhbrg ghxfgurrqnacqc fteductvzkypxx efjslnjkruzhoi dwvxhebzohkygk fugiggxxppappz qvbsucgbgkiyu feedmwonifpyiy cmxamompppgttm cgurutofiiwrzk zklxijrwigelh mkvkjhtxjlrcb hjnskvtjaiweup eyikjobsehivaj elukfyjtngsics gdxsybvehihepe fdjygygmpxtfyg eprikawamsnrij dqgebfgxesatty bdhqhartbmtdle esavrnjhqfyyux hghscqhpetmhab dzvvlsbanhhnar mgibanucmqbhh vaypfjtqncxoe eytakxckqorhjx cqlgreajpbkhay ewxulubltdfdum dzhvjrzobxlbik djcuzctyvuwojd clccqczrlzaglh cixvnuqwgcmecv fzieljhtoaqkxg bnsvqllrvqlpfo cqvbwianhuaued fpppximopumvfz gpxdrapzpfrokx xloqpyatsqpde evnofihjkywufv ihokqocgnhixw gbvopfmjinbzmp cogdgecgbjhrmu gbgsahlggjxmhp fxoeockszugwxe dvkorpxmokapkl hfzlcygkovcjst fvglxsetvshmhh eowkwtwtanljid ebflbkbulzfrtt czgbzevrlzxfwq gyfvzhxovallkn fafxyptbavcnrp fuofbqnxhtgpyp ftuxzqllboodte
end PySem.W.Fast
open PySem PySem.W PyProof.Rows
theorem PySem.Challenge.cw_latefare_k50_refused_rows_holds : PySem.Challenge.rw_latefare_k50_refused_rows.Holds := by
 w_on;o_law;k_head;(case hw=>w_witness2)
 k_fill
 refine VL.My.walk (l:=PySem.Challenge.rw_latefare_k50_refused_rows) rfl rfl (fun w h Y=>PySem.W.kIn_of Y) ?F
 case F =>
  intro w mg fa h KX G hmg
  refine' VL.My.all_mk hmg ?g_ ?gV (fun base=>?Z)
  (case g_=>k_is);(case gV=>k_is)
  case Z =>
   constructor
   all_goals first | (refine' VL.FA.of KX G ?a ?l ?c ?k;(case a=>k_is);(case l=>k_is);(case c=>k_is);(case k=>k_is)) | (refine' VL.MA.of ?a ?i ?l ?c ?k;(case a=>k_is);(case i=>k_is);(case l=>k_is);(case c=>k_is);(case k=>k_is)) | (refine' VL.IA.of KX G ?a ?i ?l ?c ?k ?b ?m ?e;(case a=>k_is);(case i=>k_is);(case l=>k_is);(case c=>k_is);(case k=>k_is);(case b=>k_is);(case m=>k_is);(case e=>k_is)) | (with_reducible refine' PySem.W.mg_none_of KX G ?_;k_is) | (refine' VL.gi_of KX G ?a;(case a=>k_is)) | (refine' VL.gs_of KX G ?a;(case a=>k_is)) | ((with_reducible refine' L2.Cls.mk ?_ ?_ ?_ ?_) <;> k_is) | (unfold L2.NoAttr;k_is) | kernel_rfl
