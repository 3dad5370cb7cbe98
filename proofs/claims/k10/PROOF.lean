import PyProof.Rows.All
import Wide.All
import OpenK.AllK
import Wide.FinOn
import Lean
import PyProof.EqAt
import PyProof.EqKinds
import PyProof.TupleCall
import PySem.Challenge.RW_lookback_k10_changes_done
set_option Elab.async false
set_option linter.all false
set_option compiler.extract_closed false
set_option maxRecDepth 100000
local macro_rules(kind:=Lean.Elab.Tactic.Ext.ext)|s=>return .node .none `Lean.Parser.Tactic.omega #[.atom .none "omega",.node .none `Lean.Parser.Tactic.optConfig #[.node .none `null #[]]]
local macro_rules|`(tactic|symm)=>`(tactic|decide +kernel)
local macro_rules|`(tactic|rfl')=>`(tactic|exact⟨rfl,rfl,rfl,by decide +kernel,rfl,by decide +kernel,by decide +kernel⟩)
noncomputable section
abbrev Zaa:=PySem.Shared->Prop
abbrev Zab:=List (PySem.Addr×PySem.Obj)
def Aa:=@PySem.wpAny_bind
def Ab:=@PySem.wpAny_pure
def Ac:=@Bool.and_eq_true
def Ad:=@PySem.Heap.get?_push_of_some
def Ae:=@List.getElem?_eq_some_iff
def Af:=@List.length_map
def Ag:=@List.mem_of_getElem?
def Ah:=@List.mem_map
def Ai:=@Nat.le_refl
def Aj:=@decide_eq_true_eq
def Ak:=@PySem.Heap.get?_push_size
def Al:=@List.getElem?_eq_getElem
def Am:=@List.getElem?_map
def An:=@Array.getElem?_eq_getElem
def Ao:=@PySem.Heap.lt_size
def Ap:=@List.mem_cons
def Aq:=@Array.getElem?_toList
def Ar:=@List.length_append
def As:=@List.getElem?_append_left
def Au:=@PySem.Heap.SameBut.update
def Av:=@List.mem_singleton
def Aw:=@List.mem_iff_getElem?
def Ax:=@Nat.ne_of_lt
def Ay:=@Bool.false_eq_true
def Az:=@List.size_toArray
def AA:=@List.length_take
def AB:=@List.all_eq_true
def AD:=@List.getElem?_set_ne
def AE:=@List.getElem?_zip_eq_some
def AF:=@PySem.Heap.get?_update_self
def AG:=@List.nodup_iff_pairwise_ne
def AH:=@Option.some.inj
def AI:=@List.mem_filter
def AJ:=@List.mem_append_right
def AK:=@List.map_map
def AL:=@PySem.wpAny_holding
def AM:=@PySem.wpAny_call_entry
def AN:=@Nat.lt_of_lt_of_le
def AO:=@PySem.sizeLine_eq
def AQ:=@List.mem_append
def AR:=@List.not_mem_nil
def AS:=@Bool.false_ne_true
def AU:=@Nat.le_trans
def AV:=@PySem.wpAny_callSpecial?_slot
def AW:=@List.getD_eq_getElem?_getD
def AX:=@Nat.zero_le
def AY:=@List.getElem?_append_right
def AZ:=@PySem.wpAny_newObj_type
def A0:=@decide_eq_true
def A1:=@PySem.wpAny_setState_of
def A3:=@List.map_cons
def A4:=@List.map_append
def A5:=@List.pairwise_map
def A6:=@PySem.wpAny_seqItems
def A7:=@decide_eq_false
def A8:=@List.ext_getElem?
def A9:=@List.getElem?_take_of_lt
def Ba:=@PySem.Heap.size_push
def Bb:=@Nat.zero_add
def Bc:=@List.mem_range
def Bd:=@if_false
def Be:=@List.pairwise_cons
def Bf:=@PySem.Heap.get?_update_other
def Bg:=@Array.getElem?_eq_none
def Bh:=@PySem.wpAny_field
def Bi:=@Nat.lt_succ_self
def Bj:=@List.length_filter_le
def Bk:=@PySem.wpAny_setField_rec
def Bl:=@List.map_congr_left
def Bm:=@List.getElem?_set_self
def Bn:=@PySem.wpAny_rule
def Bo:=@Array.getD_eq_getD_getElem?
def Bp:=@PySem.Around.under_plainId
def Bq:=@PySem.F.slot_dict_valueiterator_next
def Br:=@List.nodup_cons
def Bs:=@Nat.lt_succ_of_lt
def Bt:=@PySem.W.mg_none_of
def Bu:=@PySem.codeAny_builtin
def Bv:=@PySem.F.slot_dict_keyiterator_next
def Bw:=@List.mem_append_left
def Bx:=@Nat.lt_or_ge
def By:=@PySem.wpAny_setField
def Bz:=@Nat.lt_irrefl
def BA:=@Int.emod_lt_of_pos
def BB:=@PyProof.Rows.slot_tuple_getitem
def BC:=@List.getElem?_eq_none
def BD:=@PySem.wpAny_dictEpoch
def BE:=@PySem.PassesOwn.never
def BF:=@List.length_range
def BG:=@PySem.wpAny_dictEntries
def BH:=@List.map_take
def BI:=@List.mem_of_find?_eq_some
def BJ:=@PySem.wpAny_typeOf
def BK:=@List.forIn_cons
def BL:=@Int.emod_nonneg
def BM:=@or_false
def BN:=@PySem.wpAny_isInstance
def BP:=@Nat.ne_of_gt
def BQ:=@List.nodup_append
def BR:=@List.mem_cons_of_mem
def BS:=@List.length_zip
def BU:=@List.pairwise_iff_getElem
def BV:=@Classical.byContradiction
def BW:=@List.take_add_one
def BX:=@List.Perm.refl
def BY:=@List.Pairwise.imp_of_mem
def BZ:=@PySem.wpAny_updateSeq
def B0:=@Bool.not_true
def B1:=@PySem.plainId_quiet
def B2:=@PySem.isSubtype_type
def B3:=@Nat.lt_trichotomy
def B4:=@List.append_assoc
def B5:=@List.nodup_nil
def B6:=@PySem.wpAny_pyIter_slot
def B7:=@PyProof.Rows.boot_tuple
def B8:=@List.drop_eq_getElem_cons
def B9:=@PySem.wpAny_pyIter_tuple
def Ca:=@Nat.lt_or_eq_of_le
def Cb:=@List.getElem_mem
def Cc:=@PySem.F.slot_dict_valueiterator_iter
def Cd:=@List.take_length
def Ce:=@Option.isSome_iff_exists
def Cf:=@PySem.wpAny_attempt
def Cg:=@PySem.wpAny_onRaise
def Ci:=@Bool.and_self
def Cj:=@PySem.Heap.get?_none_of_le
def Ck:=@PySem.wpAny_typeNameOfWhole_keyiter
def Cm:=@PySem.wpAny_typeNameOfWhole_valiter
def Cn:=@List.getElem?_replicate
def Co:=@List.length_eq_zero_iff
def Cp:=@List.length_set
def Cq:=@PySem.wpAny_specialOf
def Cr:=@PySem.F.slot_zip_next
def Cs:=@PySem.F.slot_dict_keyiterator_iter
def Ct:=@PySem.mem_of_lookup
def Cu:=@PySem.Obj.isFreed_of_dict
def Cv:=@PyProof.Rows.F.plain_set_update_loop
def Cw:=@PyProof.Rows.callWith_type1
def Cy:=@PySem.wpAny_forIn_list
def Cz:=@PySem.wpAny_askSetting
def CA:=@PySem.F.slot_tuple_iterator_next
namespace L2
open PySem PySem.Spec PyProof.Rows
abbrev Key:=Sum Int Str
def UO:Key->Value->Bool
 |.inl k,v=>Value.isInt k v
 |.inr x,v=>Value.isStrOf x v
def Z3 (w:World):Key->Int
 |.inl k=>hashInt k
 |.inr x=>hashStr w x
theorem D6:∀{k:Key}{v:Value},UO k v=true->(∃i t,k=Sum.inl i/\v=Value.int i t)\/(∃x t,k=Sum.inr x/\v=Value.str x t)
 |.inl i,v,h=>by
  obtain⟨t,e⟩:=Value.isInt_shape (k:=i) (v:=v) h
  exact .inl ⟨i,t,rfl,e⟩
 |.inr x,v,h=>by
  obtain⟨t,e⟩:=Value.isStrOf_shape (x:=x) (v:=v) h
  exact .inr ⟨x,t,rfl,e⟩
def WK (a b:Int):decide ((Sum.inl a:Key)=Sum.inl b)=(a==b):=by
 by_cases e:a=b
 ·subst e;simp
 ·have h:¬ (Sum.inl a:Key)=Sum.inl b:=λq=>e (Sum.inl.inj q)
  rw[A7 h]
  exact(beq_eq_false_iff_ne.mpr e).symm
def Vv (a b:Str):decide ((Sum.inr a:Key)=Sum.inr b)=decide (a=b):=by
 by_cases e:a=b
 ·subst e;simp
 ·have h:¬ (Sum.inr a:Key)=Sum.inr b:=λq=>e (Sum.inr.inj q)
  rw[A7 h,A7 e]
def Ws (a:Int)(b:Str):decide ((Sum.inl a:Key)=Sum.inr b)=false:=A7 (λq=>nomatch q)
def V8 (a:Str)(b:Int):decide ((Sum.inr a:Key)=Sum.inl b)=false:=A7 (λq=>nomatch q)
def ON (prog:Program)(w:World):PySem.KeyKind prog w Key where
 is:=UO
 hash:=Z3 w
 inj:=λv a b ha hb=>by
  rcases D6 ha with⟨i,t,rfl,rfl⟩|⟨x,t,rfl,rfl⟩
  ·rcases D6 hb with⟨j,u,rfl,e⟩|⟨y,u,rfl,e⟩
   ·injection e with e1 _;rw[e1]
   ·exact nomatch e
  ·rcases D6 hb with⟨j,u,rfl,e⟩|⟨y,u,rfl,e⟩
   ·exact nomatch e
   ·injection e with e1 _;rw[e1]
 byValue:=λk v h=>by
  rcases D6 h with⟨i,t,rfl,rfl⟩|⟨x,t,rfl,rfl⟩<;>rfl
 pyHash:=λhv h=>by
  rcases D6 hv with⟨i,t,rfl,rfl⟩|⟨x,t,rfl,rfl⟩
  ·exact wpAny_pyHash_int h
  ·exact wpAny_pyHash_str h
 eqBool:=λhu hv h=>by
  rcases D6 hu with⟨i,t,rfl,rfl⟩|⟨x,t,rfl,rfl⟩
  ·rcases D6 hv with⟨j,u,rfl,rfl⟩|⟨y,u,rfl,rfl⟩
   ·rw[WK] at h;exact wpAny_eqBool_int h
   ·rw[Ws] at h;exact SeqAt.EqAt.int_str i t y u _ _ _ _ h
  ·rcases D6 hv with⟨j,u,rfl,rfl⟩|⟨y,u,rfl,rfl⟩
   ·rw[V8] at h;exact SeqAt.EqAt.str_int x t j u _ _ _ _ h
   ·rw[Vv] at h;exact wpAny_eqBool_str h
 «strs»:=λk x t v h=>by
  rcases D6 h with⟨i,u,rfl,e⟩|⟨y,u,rfl,e⟩
  ·exact nomatch e
  ·injection e with e1 _
   subst e1
   cases v<;>rfl
inductive V where
 |non|bl (b:Bool)|int (i:Int)|str (x:Str)|byt (b:Array UInt8)|flt (b:UInt64)|ref (a:Addr)|ty (n:String)
 deriving DecidableEq
def RelV:V->Value->Prop
 |.non,u=>u=Value.none
 |.bl b,u=>u=Value.bool b
 |.int i,u=>∃t,u=Value.int i t
 |.str x,u=>∃t,u=Value.str x t
 |.byt b,u=>∃t,u=Value.bytes b t
 |.flt b,u=>∃t,u=Value.float b t
 |.ref a,u=>u=Value.ref a
 |.ty n,u=>u=Value.type n
abbrev Vals:List V->List Value->Prop:=Paired RelV
theorem Vals.length {xs:List V}{us:List Value}(r:Vals xs us):xs.length=us.length:=Paired.length r
theorem Vals.get:∀{xs:List V}{us:List Value}{i:Nat}{x:V},Vals xs us->xs[i]?=some x->∃u,us[i]?=some u/\RelV x u
 |_,_,_,_,.nil,e=>by simp at e
 |_,_,0,_,.cons r _,e=>by simp at e;subst e;exact⟨_,rfl,r⟩
 |_,_,i+1,x,.cons _ t,e=>by
  obtain⟨u,h1,h2⟩:=Vals.get (i:=i) (x:=x) t (by simpa using e)
  exact⟨u,by simpa using h1,h2⟩
theorem Vals.set {x:V}{u:Value}(r:RelV x u):∀{xs:List V}{us:List Value} (i:Nat),Vals xs us->Vals (xs.set i x) (us.set i u)
 |_,_,_,.nil=>.nil
 |_,_,0,.cons _ t=>.cons r t
 |_,_,i+1,.cons q t=>.cons q (Vals.set r i t)
theorem Vals.append:∀{xs ys:List V}{us ws:List Value},Vals xs us->Vals ys ws->Vals (xs++ys) (us++ws)
 |_,_,_,_,.nil,s=>s
 |_,_,_,_,.cons r t,s=>.cons r (Vals.append t s)
theorem Vals.take:∀{xs:List V}{us:List Value} (n:Nat),Vals xs us->Vals (xs.take n) (us.take n)
 |_,_,0,_=>.nil
 |_,_,_+1,.nil=>.nil
 |_,_,n+1,.cons r t=>.cons r (Vals.take n t)
theorem Vals.drop:∀{xs:List V}{us:List Value} (n:Nat),Vals xs us->Vals (xs.drop n) (us.drop n)
 |_,_,0,r=>r
 |_,_,_+1,.nil=>.nil
 |_,_,n+1,.cons _ t=>Vals.drop n t
def Yg:Option V->Option Value->Prop
 |some v,some u=>RelV v u
 |none,none=>True
 |_,_=>False
def KV {κ:Type}:List (κ×V)->List (κ×Value)->Prop:=Paired λ(p:κ×V) (q:κ×Value)=>p.1=q.1/\RelV p.2 q.2
def kV:Key->V
 |.inl i=>.int i
 |.inr x=>.str x
inductive HO where
  |lst (xs:List V)
  |tup (xs:List V)
  |dK (kvs:List (Key×V))|dT (kvs:List (List Key×V))
  |set (S:Int->Bool) (n:Nat)
  |ins (C dx:Addr) (fs:List (Str×V))
  |own (x:Addr)
  |xd (fs:List (Str×V))
  |met (f x:Addr)
  |rng (lo hi:Int)
  |frz (o:Obj) (u:HO)
  |tbl (ps:Array Value)
  |ext (φ:Heap->Prop)
abbrev Hp:=Addr->Option HO
def upd (H:Hp)(a:Addr)(o:HO):Hp:=λb=>if b=a then some o else H b
def DT {H:Hp}{a:Addr}{o:HO}:upd H a o a=some o:=by unfold upd;rw[if_pos rfl]
def Dp {H:Hp}{a b:Addr}{o:HO}(h:b≠a):upd H a o b=H b:=by unfold upd;rw[if_neg h]
def Dm {H:Hp}{a b:Addr}{o:HO}(h:H a=some o)(h':H b=none):a≠b:=by
 intro e;subst e;rw[h] at h';cases h'
section
variable (P:Program) (w:World)
def ObjOk (H:Hp)(h:Heap)(a:Addr):HO->Prop
 |.lst xs=>xs.length<=sizeLine/\∃(its:List Value) (n:Nat),Vals xs its/\h.get? a=some {cls:=.type "list",data:=.seq its.toArray n}
 |.tup xs=>(xs.length<=sizeLine/\∃o,h.get? a=some o/\o.dict=none)/\∃its:List Value,Vals xs its/\IsTup h a its.toArray
 |.dK kvs=>kvs.length<=sizeLine/\(a==sysModules)=false/\∃vs,KV kvs vs/\h.DictOf (ON P w) a vs
 |.dT kvs=>kvs.length<=sizeLine/\(a==sysModules)=false/\∃xs:List (List Key×Addr×Value),
   Paired (λ(p:List Key×V) (q:List Key×Addr×Value)=>p.1=q.1/\H q.2.1=some (.tup (p.1.map kV))/\RelV p.2 q.2.2) kvs xs /\
   ∃o es ep,h.get? a=some o/\o.ExactDict/\o.data=.dict es ep/\es.toList=xs.map (entryOfKey (tupleKind (ON P w)))/\(xs.map (·.1)).Nodup
 |.set S n=>h.SetOf (intKind P w) a S n
 |.ins C dx fs=>H dx=some (.own a)/\fs.length<=1000/\dx≠a/\h.get? a=some (W.instObj C dx) /\
   ∃mA,h.Ns1 dx mA/\(∀f,Yg (fs.lookup f) (mA f))/\PySem.Within mA (fs.map (·.1))
 |.own _=>∃o,h.get? a=some o
 |.xd fs=>∃mA,h.Ns1 a mA/\∀f,Yg (fs.lookup f) (mA f)
 |.rng lo hi=>∃t u v,h.get? a=some {cls:=.type "range",data:=.fields #[.int lo t,.int hi u,.int 1 v]}
 |.frz o u=>h.get? a=some o/\ObjOk H h a u
 |.tbl ps=>h.get? a=some {cls:=.none,data:=.fields ps}
 |.met f x=>h.get? a=some (W.methodObj (.ref f) (.ref x))
 |.ext φ=>φ h/\(∃o,h.get? a=some o)/\∀h1 h2:Heap,φ h1->(∀o,h1.get? a=some o->h2.get? a=some o)->φ h2
def HOk (H:Hp)(h:Heap):Prop:=∀a o,H a=some o->ObjOk P w H h a o
end
section
variable {P:Program}{w:World}{H H':Hp}{h h':Heap}{a:Addr}{o:HO}
theorem ObjOk.lt (x:ObjOk P w H h a o):a<h.objs.size:=by
 cases o with
 |lst xs=>obtain⟨_,_,_,_,e⟩:=x;exact Ao e
 |tup xs=>obtain⟨_,_,_,p⟩:=x;exact p.lt
 |dK kvs=>obtain⟨_,_,_,_,o,_,_,e,_⟩:=x;exact Ao e
 |dT kvs=>obtain⟨_,_,_,_,o,_,_,e,_⟩:=x;exact Ao e
 |set S n=>obtain⟨o,_,_,_,e,_⟩:=x;exact Ao e
 |ins C dx fs=>obtain⟨_,_,_,e,_⟩:=x;exact Ao e
 |own y=>obtain⟨_,e⟩:=x;exact Ao e
 |xd fs=>obtain⟨_,⟨_,_,_,e,_⟩,_⟩:=x;exact Ao e
 |rng lo hi=>obtain⟨_,_,_,e⟩:=x;exact Ao e
 |frz ob u=>obtain⟨e,_⟩:=x;exact Ao e
 |tbl ps=>exact Ao (show h.get? a=some _ from x)
 |met f y=>exact Ao (show h.get? a=some _ from x)
 |ext φ=>obtain⟨_,⟨_,e⟩,_⟩:=x;exact Ao e
theorem Paired.mapP {α β:Type}{F G:α->β->Prop}:∀{l₁:List α} {l₂:List β},Paired F l₁ l₂->(∀a b,F a b->G a b)->Paired G l₁ l₂
 |_,_,.nil,_=>.nil
 |_,_,.cons r t,f=>.cons (f _ _ r) (Paired.mapP t f)
theorem ObjOk.stay (x:ObjOk P w H h a o)(k:∀b u,(b=a\/H b=some (.own a))->h.get? b=some u->h'.get? b=some u)
  (ho:∀b,H b=some (.own a)->H' b=some (.own a)) (ht:∀b xs,H b=some (.tup xs)->H' b=some (.tup xs)):ObjOk P w H' h' a o:=by
 induction o with
 |lst xs=>obtain⟨z,its,n,r,e⟩:=x;exact⟨z,its,n,r,k _ _ (.inl rfl) e⟩
 |tup xs=>obtain⟨⟨z,o1,z1,z2⟩,its,r,ob,e,c⟩:=x;exact⟨⟨z,o1,k _ _ (.inl rfl) z1,z2⟩,its,r,ob,k _ _ (.inl rfl) e,c⟩
 |dK kvs=>obtain⟨z,y,vs,r,ob,es,ep,e,c⟩:=x;exact⟨z,y,vs,r,ob,es,ep,k _ _ (.inl rfl) e,c⟩
 |dT kvs =>
  obtain⟨z,y,xs,r,ob,es,ep,e,c⟩:=x
  exact⟨z,y,xs,Paired.mapP r λp q z=>⟨z.1,ht _ _ z.2.1,z.2.2⟩,ob,es,ep,k _ _ (.inl rfl) e,c⟩
 |set S n=>obtain⟨ob,es,ep,t,e,c⟩:=x;exact⟨ob,es,ep,t,k _ _ (.inl rfl) e,c⟩
 |ins C dx fs =>
  obtain⟨d,z,ne,e,mA,⟨od,es,ep,e2,c⟩,r⟩:=x
  exact⟨ho _ d,z,ne,k _ _ (.inl rfl) e,mA,⟨od,es,ep,k _ _ (.inr d) e2,c⟩,r⟩
 |own y=>obtain⟨ob,e⟩:=x;exact⟨ob,k _ _ (.inl rfl) e⟩
 |xd fs=>obtain⟨mA,⟨od,es,ep,e,c⟩,r⟩:=x;exact⟨mA,⟨od,es,ep,k _ _ (.inl rfl) e,c⟩,r⟩
 |rng lo hi=>obtain⟨t,u,v,e⟩:=x;exact⟨t,u,v,k _ _ (.inl rfl) e⟩
 |frz ob u ih=>obtain⟨e,q⟩:=x;exact⟨k _ _ (.inl rfl) e,ih q⟩
 |tbl ps =>
  have e:h.get? a=some {cls:=.none,data:=.fields ps}:=x
  show h'.get? a=some {cls:=.none,data:=.fields ps}
  exact k a _ (.inl rfl) e
 |met f y =>
  have e:h.get? a=some (W.methodObj (.ref f) (.ref y)):=x
  show h'.get? a=some (W.methodObj (.ref f) (.ref y))
  exact k a _ (.inl rfl) e
 |ext φ=>obtain⟨p,⟨o,e⟩,st⟩:=x;exact⟨st _ _ p λo q=>k _ _ (.inl rfl) q,⟨o,k _ _ (.inl rfl) e⟩,st⟩
theorem HOk.lt (x:HOk P w H h)(e:H a=some o):a<h.objs.size:=(x a o e).lt
theorem HOk.fresh (x:HOk P w H h)(e:h.objs.size<=a):H a=none:=by
 cases q:H a with
 |none=>rfl
 |some u=>exact absurd (AN (x.lt q) e) (Bz _)
def HOk.kept (x:HOk P w H h)(k:∀b u,h.get? b=some u->h'.get? b=some u):HOk P w H h':=λa o e =>
 (x a o e).stay (λb u _ q=>k b u q) (λ_ q=>q) λ_ _ q=>q
def HOk.laid (x:HOk P w H h)(k:∀b u,h.get? b=some u->h'.get? b=some u)(hp:h.objs.size<=a)(new:ObjOk P w (upd H a o) h' a o):HOk P w (upd H a o) h':=λb u e=>by
 have hn:=x.fresh hp
 by_cases hb:b=a
 ·subst hb;rw[DT] at e;cases e;exact new
 ·rw[Dp hb] at e
  exact(x b u e).stay (λc v _ q=>k c v q) (λc q=>by rw[Dp (Dm q hn)];exact q) λc xs q=>by rw[Dp (Dm q hn)];exact q
end
def Rd (H:Hp)(a:Addr)(u:HO):Prop:=H a=some u\/∃o,H a=some (.frz o u)
def Rd.ok {P:Program}{w:World}{H:Hp}{h:Heap}{a:Addr}{u:HO}(r:Rd H a u)(x:HOk P w H h):ObjOk P w H h a u:=by
 rcases r with r|⟨o,r⟩
 ·exact x a u r
 ·obtain⟨_,q⟩:=x a _ r
  exact q
def Mut:Option HO->Prop
 |some (.lst _)=>True
 |some (.dK _)=>True
 |some (.dT _)=>True
 |some (.set _ _)=>True
 |some (.ins _ _ _)=>True
 |some (.ext _)=>True
 |_=>False
section
variable {P:Program}{w:World}{H:Hp}{h h':Heap}{x e:Addr}{o':HO}
def HOk.write (ok:HOk P w H h)(mu:Mut (H x))(he:e=x\/H e=some (.own x))(k:∀b u,b≠e->h.get? b=some u->h'.get? b=some u)(heo:∃u,h'.get? e=some u)
  (new:ObjOk P w (upd H x o') h' x o'):HOk P w (upd H x o') h':=λb u q=>by
 have nown:∀c y,H c=some (.own y)->c≠x:=λc y r z=>by subst z;rw[r] at mu;exact mu
 have ntup:∀c xs,H c=some (.tup xs)->c≠x:=λc xs r z=>by subst z;rw[r] at mu;exact mu
 by_cases hb:b=x
 ·subst hb;rw[DT] at q;cases q;exact new
 ·rw[Dp hb] at q
  by_cases hbe:b=e
  ·have q':H b=some (.own x):=by
    rcases he with z|z
    ·exact absurd (hbe.trans z) hb
    ·rw[hbe];exact z
   rw[q] at q';cases q'
   obtain⟨v,hv⟩:=heo
   exact⟨v,by rw[hbe];exact hv⟩
  ·refine(ok b u q).stay (λc v hc r=>k c v ?_ r) (λc r=>by rw[Dp (nown c b r)];exact r) λc xs r=>by rw[Dp (ntup c xs r)];exact r
   rcases hc with rfl|hc
   ·exact hbe
   ·rintro rfl
    rcases he with z|z
    ·exact nown c b hc z
    ·rw[hc] at z;cases z;exact hb rfl
end
structure Un (fs ex:List Addr) (H H':Hp) (h h':Heap):Prop where
 keep:∀b o,h.get? b=some o->H b=none->b∉fs->b∉ex->h'.get? b=some o
 slot:∀b o,h.get? b=some o->H b=none->b∈fs->b∉ex->∃sl,h'.get? b=some {o with slots:=sl}
 free:∀b o,h.get? b=some o->H b=none->b∉ex->H' b=none
 there:∀b o,h.get? b=some o->b∉ex->∃o',h'.get? b=some o'
 tups:∀b xs,H b=some (.tup xs)->H' b=some (.tup xs)
 frzs:∀b o u,H b=some (.frz o u)->H' b=some (.frz o u)
 tbls:∀b ps,H b=some (.tbl ps)->∃more,H' b=some (.tbl (ps++more))
section
variable {fs fs' ex ex':List Addr}{H H1 H2:Hp}{h h1 h2 h':Heap}{a x e:Addr}{o:HO}
def Un.any (u:Un fs ex H H1 h h1){b:Addr}{ob:Obj}(q:h.get? b=some ob)(n:H b=none)(hx:b∉ex):∃sl,h1.get? b=some {ob with slots:=sl}:=by
 by_cases hb:b∈fs
 ·exact u.slot b ob q n hb hx
 ·exact⟨ob.slots,u.keep b ob q n hb hx⟩
def Un.kept (k:∀b u,h.get? b=some u->h'.get? b=some u):Un fs ex H H h h':=
 ⟨λb ob q _ _ _=>k b ob q,λb ob q _ _ _=>⟨ob.slots,k b ob q⟩,λ_ _ _ n _=>n,λb ob q _=>⟨ob,k b ob q⟩,λ_ _ q=>q,λ_ _ _ q=>q,λ_ ps q=>⟨#[],by rw[q];simp⟩⟩
def Un.refl:Un fs ex H H h h:=Un.kept λ_ _ q=>q
def Un.laid (k:∀b u,h.get? b=some u->h'.get? b=some u)(hp:h.objs.size<=a)(hn:H a=none):Un fs ex H (upd H a o) h h' where
 keep:=λb u q _ _ _=>k b u q
 slot:=λb u q _ _ _=>⟨u.slots,k b u q⟩
 free:=λb u q n _=>by rw[Dp (Ax (AN (Ao q) hp))];exact n
 there:=λb u q _=>⟨u,k b u q⟩
 tups:=λb xs q=>by rw[Dp (Dm q hn)];exact q
 frzs:=λb u xs q=>by rw[Dp (Dm q hn)];exact q
 tbls:=λb ps q=>⟨#[],by rw[Dp (Dm q hn),q];simp⟩
def Un.write (mu:Mut (H x))(he:e=x\/H e=some (.own x))(k:∀b u,b≠e->h.get? b=some u->h'.get? b=some u)(heo:∃u,h'.get? e=some u):Un fs ex H (upd H x o) h h':=by
 have hx:∀b,H b=none->b≠x:=λb n z=>by subst z;rw[n] at mu;exact mu
 have hb:∀b,H b=none->b≠e:=λb n z=>by
  subst z
  rcases he with r|r
  ·exact hx b n r
  ·rw[n] at r;cases r
 have hm:∀b u,H b=some u->¬ Mut (some u)->b≠x:=λb u q nm z=>by subst z;rw[q] at mu;exact nm mu
 refine⟨λb u q n _ _=>k b u (hb b n) q,λb u q n _ _=>⟨u.slots,k b u (hb b n) q⟩,λb u q n _=>by rw[Dp (hx b n)];exact n,λb u q _=>?_,
  λb xs q=>by rw[Dp (hm b _ q λz=>z)];exact q,λb u xs q=>by rw[Dp (hm b _ q λz=>z)];exact q,λb ps q=>⟨#[],by rw[Dp (hm b _ q λz=>z),q];simp⟩⟩
 by_cases hbe:b=e
 ·subst hbe;exact heo
 ·exact⟨u,k b u hbe q⟩
end
def trk (h:Heap)(H:Hp):List Addr:=(List.range h.objs.size).filter λa=>(H a).isSome
def LQ (h:Heap)(H:Hp):Heap:=W.hideAll h (trk h H)
def Pk (h:Heap)(H:Hp):(LQ h H).objs.size=h.objs.size:=W.hideAll_size _ _
def Q2 {h:Heap}{H:Hp}{b:Addr}{o:Obj}(e:h.get? b=some o)(n:H b=none):(LQ h H).get? b=some o:=
 W.hideAll_get _ e λhm=>by
  have q:(H b).isSome=true:=(AI.mp hm).2
  rw[n] at q;simp at q
theorem TU {h:Heap}{H:Hp}{b:Addr}{o:Obj}(e:(LQ h H).get? b=some o):h.get? b=some o/\H b=none:=by
 have e':h.get? b=some o:=W.of_hideAll (trk h H) e
 refine⟨e',?_⟩
 cases q:H b with
 |none=>rfl
 |some x =>
  have hm:b∈trk h H:=AI.mpr ⟨Bc.mpr (Ao e'),by simp[q]⟩
  have z:(LQ h H).get? b=none:=W.hideAll_none (trk h H) hm
  rw[z] at e;cases e
def SE (g h:Heap)(L:Addr):Zab:=(List.range h.objs.size).filterMap λa=>if a=L\/(g.get? a).isSome=true then none else (h.get? a).map λo=>(a,o)
def rest (g h:Heap)(L d:Addr):Zab:=(SE g h L).filter λp=>decide (p.1≠d)
structure Mod (K:W.Frag) (mg:Str->Option Value) (base:Heap):Prop where
 kin:K.In base
 glob:base.Ns mainGlobals mg
 blt:∃mb,base.Ns builtinsNs mb/\∀x:Str,x≠"__name__"->mb x=bootBuiltins x
 nolimit:base.NoLimit
structure Cx where
 prog:Program
 w:World
 K:W.Frag
 mg:Str->Option Value
 base:Heap
 A:Around
 N:List Str
 s₀:Shared
 H₀:Hp
 env:Env
 outer:List Env
 stack:List Env
 ex:List Addr
 fn:Str->Bool
 calm:Bool
 pn:Zab
 xe:Value->Zaa
def frs (l:List Env):List Addr:=l.filterMap (·.frame)
abbrev Cx.fs (X:Cx):List Addr:=frs X.outer
def Vis (sc:Scope)(x:Str):Prop:=sc.names.lookup x=some .local ∨sc.names.lookup x=some .cell\/sc.names.lookup x=some .free
def Loc (sc:Scope)(x:Str):Prop:=sc.names.lookup x=some .local ∨sc.names.lookup x=some .cell
def Look (env:Env)(h:Heap)(m:Str->Option Value)(x:Str)(u:Value):Prop:=
 (env.kindOf x=some .local/\m x=some u)\/((env.kindOf x=some .cell\/env.kindOf x=some .free)/\∃c,env.cells.lookup x=some c/\h.IsCell c (some u))
structure Cx.Ok (X:Cx):Prop where
 mod:Mod X.K X.mg X.base
 kind:X.env.scope.kind=.function
 glob:X.env.globals=mainGlobals
 blt:X.env.builtins=builtinsNs
 above:X.s₀.heap.objs.size<=X.env.locals
 inj:∀x y c,X.env.cells.lookup x=some c->X.env.cells.lookup y=some c->x=y
 has:∀x,(X.env.kindOf x=some .cell\/X.env.kindOf x=some .free)->∃c,X.env.cells.lookup x=some c
 cab:∀x c,X.fn x=true->X.env.cells.lookup x=some c->X.s₀.heap.objs.size<=c
 hd:X.calm=true->X.A.handled=none
 frames:X.A.frames=some X.stack
 stk:X.stack=X.outer\/(X.stack=X.env::X.outer/\X.env.frame=some X.env.locals)
 exf:∀b∈X.ex,b≠X.env.locals/\∀x c,X.env.cells.lookup x=some c->c≠b
 bs:∀b o,X.base.get? b=some o->X.s₀.heap.get? b=some o/\X.H₀ b=none
 bsz:X.base.objs.size<=X.s₀.heap.objs.size
 noex:∀b o,X.base.get? b=some o->b∉X.ex
 exfs:∀b∈X.ex,b∉X.fs
 funs:X.s₀.heap.FunFrames X.base X.outer
 frf:∀b∈X.fs,X.H₀ b=none
structure Inv (X:Cx) (pj:Zab) (σ:List (Option V)) (H:Hp) (s:Shared):Prop where
 ok:X.Ok
 os:s.os=X.s₀.os
 bare:AllBare s.gens
 base:Un X.fs X.ex X.H₀ H X.s₀.heap s.heap
 loc:∃m,s.heap.Ns X.env.locals m/\∀(i:Nat) (x:Str) (v:V),X.N[i]?=some x->σ[i]?=some (some v)->Vis X.env.scope x->∃u,RelV v u/\Look X.env s.heap m x u
 cell:∀x c,X.env.cells.lookup x=some c->∃v,s.heap.IsCell c v
 free:H X.env.locals=none
 freeC:∀x c,X.env.cells.lookup x=some c->H c=none
 pin:∀p∈X.pn++pj,s.heap.get? p.1=some p.2/\H p.1=none/\p.1≠X.env.locals/\p.1∉X.fs/\∀v,p.2.data≠.cell v
 hok:HOk X.prog X.w H s.heap
 len:σ.length=X.N.length
section
variable {X:Cx}{pj:Zab} {σ:List (Option V)}{H H':Hp}{s:Shared}{h':Heap}
def Cx.Ok.nofr (ok:X.Ok){b:Addr}{o:Obj}(e:X.base.get? b=some o):b∉X.fs:=λhb=>by
 have:=(ok.funs.mem hb).1
 rw[e] at this;cases this
theorem Inv.bs (I:Inv X pj σ H s):∀b o,X.base.get? b=some o->s.heap.get? b=some o/\H b=none:=λb o e =>
 ⟨I.base.keep b o (I.ok.bs b o e).1 (I.ok.bs b o e).2 (I.ok.nofr e) (I.ok.noex b o e),I.base.free b o (I.ok.bs b o e).1 (I.ok.bs b o e).2 (I.ok.noex b o e)⟩
def Inv.bk (I:Inv X pj σ H s):∀b o,X.base.get? b=some o->s.heap.get? b=some o:=λb o e=>(I.bs b o e).1
theorem Inv.mod (I:Inv X pj σ H s):Mod X.K X.mg X.base:=I.ok.mod
def Inv.kIn (I:Inv X pj σ H s):X.K.In s.heap:=I.ok.mod.kin.keeps I.bk
theorem Inv.lt (I:Inv X pj σ H s):X.env.locals<s.heap.objs.size:=let ⟨_,hn,_⟩:=I.loc;hn.lt
def Inv.sz (I:Inv X pj σ H s):X.s₀.heap.objs.size<=s.heap.objs.size:=AU I.ok.above (Nat.le_of_lt I.lt)
def Inv.nofs (I:Inv X pj σ H s){a:Addr}(h:s.heap.objs.size<=a):a∉X.fs:=λhb=>by
 obtain⟨_,o,ho,_⟩:=I.ok.funs.mem hb
 exact absurd (AN (Ao ho) (AU I.sz h)) (Bz _)
def Inv.cne (I:Inv X pj σ H s):∀x c,X.env.cells.lookup x=some c->c≠X.env.locals:=λx c e z=>by
 obtain⟨v,o,ho,hd⟩:=I.cell x c e
 obtain⟨m,⟨o',es,ep,ho',hd',_⟩,_⟩:=I.loc
 rw[z,ho'] at ho;cases ho;rw[hd'] at hd;cases hd
theorem Inv.funs (I:Inv X pj σ H s):s.heap.FunFrames X.base X.outer:=by
 have all:∀(l:List Env),(∀b∈frs l,b∈X.fs)->X.s₀.heap.FunFrames X.base l->s.heap.FunFrames X.base l:=by
  intro l
  induction l with
  |nil=>intro _ _;trivial
  |cons env r ih =>
   intro hs hl
   obtain⟨hk,⟨L,o,hf,hn,ho,hd⟩,hr⟩:=hl
   have hL:L∈X.fs:=hs L (by unfold frs;rw[List.filterMap_cons,hf];exact List.mem_cons_self)
   obtain⟨sl,e⟩:=I.base.slot L o ho (I.ok.frf L hL) hL λz=>I.ok.exfs L z hL
   exact⟨hk,⟨L,_,hf,hn,e,hd⟩,ih (λb hb=>hs b (by unfold frs;rw[List.filterMap_cons,hf];exact BR _ hb)) hr⟩
 exact all X.outer (λ_ hb=>hb) I.ok.funs
theorem Inv.stack (I:Inv X pj σ H s):s.heap.FunFrames X.base X.stack:=by
 rcases I.ok.stk with e|⟨e,hf⟩
 ·rw[e];exact I.funs
 ·rw[e]
  obtain⟨m,hn,_⟩:=I.loc
  refine .cons (by rw[I.ok.kind];decide) hf hn ?_ I.funs
  exact Cj (AU I.ok.bsz I.ok.above)
def Inv.stkSub (I:Inv X pj σ H s):∀b∈frs X.stack,b∈X.env.locals::X.fs:=λb hb=>by
 rcases I.ok.stk with e|⟨e,hf⟩
 ·rw[e] at hb;exact BR _ hb
 ·rw[e] at hb
  unfold frs at hb
  rw[List.filterMap_cons,hf] at hb
  exact hb
def Inv.stkFree (I:Inv X pj σ H s):∀b∈frs X.stack,H b=none:=λb hb=>by
 rcases Ap.mp (I.stkSub b hb) with e|hb
 ·rw[e];exact I.free
 ·obtain⟨_,o,ho,_⟩:=I.ok.funs.mem hb
  exact I.base.free b o ho (I.ok.frf b hb) λz=>I.ok.exfs b z hb
def Inv.step {g':Array GenState}{t':Nat}{d':Drawn}{ch:List Addr}(I:Inv X pj σ H s)
  (hch:∀b∈ch,(b∈X.ex\/X.s₀.heap.objs.size<=b)/\b≠X.env.locals/\(∀x c,X.env.cells.lookup x=some c->c≠b)/\∀p∈X.pn++pj,p.1≠b)
  (keep:∀b o,b≠X.env.locals->b∉X.fs->b∉ch->s.heap.get? b=some o->H b=none->h'.get? b=some o)
  (slot:∀b o,b≠X.env.locals->b∈X.fs->b∉ch->s.heap.get? b=some o->H b=none->∃sl,h'.get? b=some {o with slots:=sl}) (free:∀b o,b∉ch->s.heap.get? b=some o->H b=none->H' b=none)
  (there:∀b o,b∉ch->s.heap.get? b=some o->∃o',h'.get? b=some o')
  (tups:∀b xs,H b=some (.tup xs)->H' b=some (.tup xs)) (frzs:∀b o u,H b=some (.frz o u)->H' b=some (.frz o u)) (tbls:∀b ps,H b=some (.tbl ps)->∃more,H' b=some (.tbl (ps++more)))
  (ns:∀m,s.heap.Ns X.env.locals m->h'.Ns X.env.locals m) (hok:HOk X.prog X.w H' h') (hg:AllBare g') :
  Inv X pj σ H' {s with heap:=h',gens:=g',drawn:=d',toks:=t'}:=by
 have neL:∀b o,X.s₀.heap.get? b=some o->b≠X.env.locals:=λb o e=>Ax (AN (Ao e) I.ok.above)
 have neC:∀b o,X.s₀.heap.get? b=some o->b∉X.ex->b∉ch:=λb o e hx hb=>by
  rcases (hch b hb).1 with z|z
  ·exact hx z
  ·exact absurd (AN (Ao e) z) (Bz _)
 have cellK:∀x c,X.env.cells.lookup x=some c->∀v,s.heap.IsCell c v->h'.IsCell c v:=λx c e v ⟨o,ho,hd⟩=>by
  have nch:c∉ch:=λz=>(hch c z).2.2.1 x c e rfl
  by_cases hc:c∈X.fs
  ·obtain⟨sl,q⟩:=slot c o (I.cne x c e) hc nch ho (I.freeC x c e)
   exact⟨_,q,hd⟩
  ·exact⟨o,keep c o (I.cne x c e) hc nch ho (I.freeC x c e),hd⟩
 refine⟨I.ok,I.os,hg,⟨λb o e n hb hx=>?_,λb o e n hb hx=>?_,λb o e n hx=>?_,λb o e hx=>?_,λb xs e=>tups b xs (I.base.tups b xs e),λb o xs e=>frzs b o xs (I.base.frzs b o xs e),λb ps e=>?_⟩,?_,λx c e=>?_,?_,λx c e=>?_,λp hp=>?_,hok,I.len⟩
 ·exact keep b o (neL b o e) hb (neC b o e hx) (I.base.keep b o e n hb hx) (I.base.free b o e n hx)
 ·obtain⟨sl,e1⟩:=I.base.slot b o e n hb hx
  obtain⟨sl',e2⟩:=slot b _ (neL b o e) hb (neC b o e hx) e1 (I.base.free b o e n hx)
  exact⟨sl',e2⟩
 ·obtain⟨o',e1⟩:=I.base.there b o e hx
  exact free b o' (neC b o e hx) e1 (I.base.free b o e n hx)
 ·obtain⟨o',e1⟩:=I.base.there b o e hx
  exact there b o' (neC b o e hx) e1
 ·obtain⟨m1,e1⟩:=I.base.tbls b ps e
  obtain⟨m2,e2⟩:=tbls b _ e1
  exact⟨m1++m2,by rw[e2,Array.append_assoc]⟩
 ·obtain⟨m,hn,hl⟩:=I.loc
  refine⟨m,ns m hn,λi x v e1 e2 e3=>?_⟩
  obtain⟨u,r,l⟩:=hl i x v e1 e2 e3
  refine⟨u,r,?_⟩
  rcases l with l|⟨k,c,e,z⟩
  ·exact .inl l
  ·exact .inr ⟨k,c,e,cellK x c e _ z⟩
 ·obtain⟨v,z⟩:=I.cell x c e
  exact⟨v,cellK x c e v z⟩
 ·obtain⟨m,⟨o,_,_,ho,_⟩,_⟩:=I.loc
  exact free _ o (λz=>(hch _ z).2.1 rfl) ho I.free
 ·obtain⟨v,o,ho,hd⟩:=I.cell x c e
  exact free c o (λz=>(hch c z).2.2.1 x c e rfl) ho (I.freeC x c e)
 ·obtain⟨e,n,ne,nf,d⟩:=I.pin p hp
  have nch:p.1∉ch:=λz=>(hch p.1 z).2.2.2 p hp rfl
  exact⟨keep p.1 p.2 ne nf nch e n,free p.1 p.2 nch e n,ne,nf,d⟩
def Inv.un {t':Nat}(I:Inv X pj σ H s)(u:Un X.fs [] H H' s.heap h')(hok:HOk X.prog X.w H' h'):Inv X pj σ H' {s with heap:=h',toks:=t'}:=by
 obtain⟨m,⟨o,es,ep,ho,r⟩,_⟩:=id I.loc
 obtain⟨sl,hL⟩:=u.any ho I.free (by simp)
 exact I.step (g':=s.gens) (d':=s.drawn) (ch:=[]) (λ_ z=>nomatch z) (λb o _ hb _ e n=>u.keep b o e n hb (by simp)) (λb o _ hb _ e n=>u.slot b o e n hb (by simp)) (λb o _ e n=>u.free b o e n (by simp)) (λb o _ e=>u.there b o e (by simp)) u.tups u.frzs u.tbls (λm' hm=>by
  obtain⟨o',es',ep',ho',r'⟩:=hm
  rw[ho] at ho';cases ho'
  exact⟨_,es',ep',hL,r'⟩) hok I.bare
def Inv.call {g':Array GenState}{t':Nat}{d':Drawn}{ch:List Addr}(I:Inv X pj σ H s)(u:Un (frs X.stack) ch H H' s.heap h')(hok:HOk X.prog X.w H' h')(hg:AllBare g')
  (hch:∀b∈ch,(b∈X.ex\/X.s₀.heap.objs.size<=b)/\b≠X.env.locals/\(∀x c,X.env.cells.lookup x=some c->c≠b)/\∀p∈X.pn++pj,p.1≠b) :
  Inv X pj σ H' {s with heap:=h',gens:=g',drawn:=d',toks:=t'}:=by
 obtain⟨m,⟨o,es,ep,ho,r⟩,_⟩:=id I.loc
 obtain⟨sl,hL⟩:=u.any ho I.free λz=>(hch _ z).2.1 rfl
 exact I.step (ch:=ch) hch (λb o hL hb hc e n=>u.keep b o e n (λz=>(Ap.mp (I.stkSub b z)).elim hL hb) hc) (λb o _ _ hc e n=>u.any e n hc) (λb o hc e n=>u.free b o e n hc) (λb o hc e=>u.there b o e hc) u.tups u.frzs u.tbls (λm' hm=>by
  obtain⟨o',es',ep',ho',r'⟩:=hm
  rw[ho] at ho';cases ho'
  exact⟨_,es',ep',hL,r'⟩) hok hg
def Inv.turned {t':Nat}{it:Addr}(I:Inv X pj σ H s)(k:∀b o,b≠it->s.heap.get? b=some o->h'.get? b=some o)(hn:H it=none)(hL:it≠X.env.locals)
  (h1:it∈X.ex\/X.s₀.heap.objs.size<=it) (h2:∀x c,X.env.cells.lookup x=some c->c≠it) (h3:∀p∈X.pn++pj,p.1≠it):Inv X pj σ H {s with heap:=h',toks:=t'}:=by
 have nit:∀b u,H b=some u->b≠it:=λb u e z=>by rw[z,hn] at e;cases e
 refine I.step (g':=s.gens) (d':=s.drawn) (ch:=[it]) (λb hb=>?_) (λb o _ _ hc e _=>k b o (λz=>hc (by simp[z])) e) (λb o _ _ hc e _=>⟨o.slots,k b o (λz=>hc (by simp[z])) e⟩) (λ_ _ _ _ n=>n)
  (λb o hc e=>⟨o,k b o (λz=>hc (by simp[z])) e⟩) (λ_ _ e=>e) (λ_ _ _ e=>e) (λb ps e=>⟨#[],by rw[e];simp⟩) (λm hm=>?_) (λb u e=>?_) I.bare
 ·have e:b=it:=by simpa using hb
  subst e
  exact⟨h1,hL,h2,h3⟩
 ·obtain⟨o,es,ep,ho,r⟩:=hm
  exact⟨o,es,ep,k _ o (Ne.symm hL) ho,r⟩
 ·refine(I.hok b u e).stay (λc v hc q=>k c v ?_ q) (λ_ q=>q) λ_ _ q=>q
  rcases hc with z|z
  ·rw[z];exact nit b u e
  ·exact nit c _ z
def Inv.tok (I:Inv X pj σ H s)(t:Nat):Inv X pj σ H {s with toks:=t}:=I.un (h':=s.heap) (t':=t) Un.refl I.hok
theorem Inv.kept {t':Nat}(I:Inv X pj σ H s)(k:∀b u,s.heap.get? b=some u->h'.get? b=some u):Inv X pj σ H {s with heap:=h',toks:=t'}:=I.un (Un.kept k) (I.hok.kept k)
theorem Inv.laid {a:Addr}{o:HO}{t':Nat}(I:Inv X pj σ H s)(k:∀b u,s.heap.get? b=some u->h'.get? b=some u)(hp:s.heap.objs.size<=a)(new:ObjOk X.prog X.w (upd H a o) h' a o) :
  Inv X pj σ (upd H a o) {s with heap:=h',toks:=t'}:=I.un (Un.laid k hp (I.hok.fresh hp)) (I.hok.laid k hp new)
theorem Inv.write {x e:Addr}{o:HO}{t':Nat}(I:Inv X pj σ H s)(mu:Mut (H x))(he:e=x\/H e=some (.own x))(k:∀b u,b≠e->s.heap.get? b=some u->h'.get? b=some u)(heo:∃u,h'.get? e=some u)
  (new:ObjOk X.prog X.w (upd H x o) h' x o):Inv X pj σ (upd H x o) {s with heap:=h',toks:=t'}:=I.un (Un.write mu he k heo) (I.hok.write mu he k heo new)
def Inv.pins_of {pins':Zab}(I:Inv X pj σ H s)(h:∀p∈pins',s.heap.get? p.1=some p.2/\H p.1=none/\p.1≠X.env.locals/\p.1∉X.fs/\∀v,p.2.data≠.cell v):Inv X pins' σ H s:=
 ⟨I.ok,I.os,I.bare,I.base,I.loc,I.cell,I.free,I.freeC,λp hp=>(AQ.mp hp).elim (λz=>I.pin p (Bw _ z)) (h p),I.hok,I.len⟩
def MK {N:List Str}(hN:N.Nodup){i j:Nat}{x:Str}(a:N[i]?=some x)(b:N[j]?=some x):i=j:=by
 obtain⟨h1,e1⟩:=Ae.mp a
 obtain⟨h2,e2⟩:=Ae.mp b
 exact(List.getElem_inj hN).mp (e1.trans e2.symm)
def Qa {M:Model}{A:Around}{E:Value->Zaa}{i:Nat}{x:Str}{v:V}{u:Value}{Q:Unit->Zaa}(I:Inv X pj σ H s)(hN:X.N.Nodup)(hi:X.N[i]?=some x)(hx:Loc X.env.scope x)(r:RelV v u)
  (h:∀s',Inv X pj (σ.set i (some v)) H s'->(∃a,Heap.SameBut a s.heap s'.heap/\(a=X.env.locals\/X.env.cells.lookup x=some a))->Q () s') (hf:X.fn x=true\/X.env.scope.names.lookup x=some .local:=by first|exact .inl rfl|exact .inr rfl|assumption):wpAny M A (storeName X.env x u) Q E s:=by
 obtain⟨m,hn,hl⟩:=id I.loc
 have hcls:(X.env.scope.kind==.class||(X.env.scope.kind==.module&&X.env.locals != X.env.globals))=false:=by rw[I.ok.kind];rfl
 have hiσ:i<σ.length:=by rw[I.len];exact(Ae.mp hi).1
 have cne:=I.cne
 have tracked:∀{a:Addr}{h':Heap},(∃o,s.heap.get? a=some o/\H a=none)->Heap.SameBut a s.heap h'->HOk X.prog X.w H h':=λ{a h'} ha hs b ob e=>by
  obtain⟨_,_,hfree⟩:=ha
  refine(I.hok b ob e).stay (λc w' hc q=>(hs.2 c ?_).trans q) (λ_ q=>q) λ_ _ q=>q
  rintro rfl
  rcases hc with rfl|hc
  ·rw[hfree] at e;cases e
  ·rw[hfree] at hc;cases hc
 rcases hx with hk|hk
 ·refine wpAny_storeName_local hk hn (λh' hn' hs=>?_) hcls
  obtain⟨oL,_,_,hoL,_⟩:=id hn
  refine h _ ⟨I.ok,I.os,I.bare,⟨λb o e n hb hx=>?_,λb o e n hb hx=>?_,I.base.free,λb o e hx=>?_,I.base.tups,I.base.frzs,I.base.tbls⟩,⟨_,hn',λj y v' e1 e2 e3=>?_⟩,λy c e=>?_,I.free,I.freeC,λp hp=>?_,tracked ⟨oL,hoL,I.free⟩ hs,by simpa using I.len⟩ ⟨_,hs,.inl rfl⟩
  ·exact(hs.2 b (Ax (AN (Ao e) I.ok.above))).trans (I.base.keep b o e n hb hx)
  ·obtain⟨sl,e1⟩:=I.base.slot b o e n hb hx
   exact⟨sl,(hs.2 b (Ax (AN (Ao e) I.ok.above))).trans e1⟩
  ·obtain⟨o',e1⟩:=I.base.there b o e hx
   exact⟨o',(hs.2 b (Ax (AN (Ao e) I.ok.above))).trans e1⟩
  ·by_cases hj:j=i
   ·subst hj
    rw[hi] at e1;cases e1
    rw[Bm hiσ] at e2
    cases e2
    exact⟨u,r,.inl ⟨hk,by simp⟩⟩
   ·rw[AD (Ne.symm hj)] at e2
    obtain⟨u',r',q⟩:=hl j y v' e1 e2 e3
    refine⟨u',r',?_⟩
    rcases q with⟨k,e⟩|⟨k,c,e,z⟩
    ·refine .inl ⟨k,?_⟩
     have:y≠x:=λe=>hj (MK hN e1 (e▸hi))
     simp[this,e]
    ·exact .inr ⟨k,c,e,z.sameBut hs (cne y c e)⟩
  ·obtain⟨w',z⟩:=I.cell y c e
   exact⟨w',z.sameBut hs (cne y c e)⟩
  ·obtain⟨e,n,ne,nf,d⟩:=I.pin p hp
   exact⟨(hs.2 p.1 ne).trans e,n,ne,nf,d⟩
 ·have hfn:X.fn x=true:=by
   rcases hf with z|z
   ·exact z
   ·rw[z] at hk;cases hk
  obtain⟨c,hc⟩:=I.ok.has x (.inl hk)
  obtain⟨w',z⟩:=I.cell x c hc
  refine wpAny_storeName_cell I.ok.kind hk hc z (λh' hc' hs=>?_)
  obtain⟨oc,hoc,hocd⟩:=id z
  refine h {s with heap:=h'} ⟨I.ok,I.os,I.bare,⟨λb o e n hb hx=>?_,λb o e n hb hx=>?_,I.base.free,λb o e hx=>?_,I.base.tups,I.base.frzs,I.base.tbls⟩,⟨m,hn.sameBut hs (Ne.symm (cne x c hc)),λj y v' e1 e2 e3=>?_⟩,λy c' e=>?_,I.free,I.freeC,λp hp=>?_,tracked ⟨oc,hoc,I.freeC x c hc⟩ hs,by simpa using I.len⟩ ⟨c,hs,.inr hc⟩
  ·exact(hs.2 b (Ax (AN (Ao e) (I.ok.cab x c hfn hc)))).trans (I.base.keep b o e n hb hx)
  ·obtain⟨sl,e1⟩:=I.base.slot b o e n hb hx
   exact⟨sl,(hs.2 b (Ax (AN (Ao e) (I.ok.cab x c hfn hc)))).trans e1⟩
  ·obtain⟨o',e1⟩:=I.base.there b o e hx
   exact⟨o',(hs.2 b (Ax (AN (Ao e) (I.ok.cab x c hfn hc)))).trans e1⟩
  ·by_cases hj:j=i
   ·subst hj
    rw[hi] at e1;cases e1
    rw[Bm hiσ] at e2
    cases e2
    exact⟨u,r,.inr ⟨.inl hk,c,hc,hc'⟩⟩
   ·rw[AD (Ne.symm hj)] at e2
    obtain⟨u',r',q⟩:=hl j y v' e1 e2 e3
    refine⟨u',r',?_⟩
    rcases q with q|⟨k,c',e,z'⟩
    ·exact .inl q
    ·refine .inr ⟨k,c',e,z'.sameBut hs ?_⟩
     rintro rfl
     exact hj (MK hN e1 (I.ok.inj _ _ _ e hc▸hi))
  ·by_cases hcc:c'=c
   ·subst hcc;exact⟨_,hc'⟩
   ·obtain⟨w2,z2⟩:=I.cell y c' e
    exact⟨w2,z2.sameBut hs hcc⟩
  ·obtain⟨e,n,ne,nf,d⟩:=I.pin p hp
   refine⟨(hs.2 p.1 ?_).trans e,n,ne,nf,d⟩
   intro q
   rw[q,hoc] at e
   have q':oc=p.2:=AH e
   exact d w' (by rw[<- q'];exact hocd)
def Fu {M:Model}{A:Around}{E:Value->Zaa}{i:Nat}{x:Str}{v:V}{u:Value}{Q:Unit->Zaa}(I:Inv X pj σ H s)(hN:X.N.Nodup)(hi:X.N[i]?=some x)(hx:Loc X.env.scope x)(r:RelV v u)
  (h:∀s',Inv X pj (σ.set i (some v)) H s'->Q () s') (hf:X.fn x=true\/X.env.scope.names.lookup x=some .local:=by first|exact .inl rfl|exact .inr rfl|assumption):wpAny M A (storeName X.env x u) Q E s:=
 Qa I hN hi hx r (λs' I' _=>h s' I') hf
def Inv.call' {s':Shared}{ch:List Addr}(I:Inv X pj σ H s)(ho:s'.os=s.os)(u:Un (frs X.stack) ch H H' s.heap s'.heap)(hok:HOk X.prog X.w H' s'.heap)(hg:AllBare s'.gens)
  (hch:∀b∈ch,(b∈X.ex\/X.s₀.heap.objs.size<=b)/\b≠X.env.locals/\(∀x c,X.env.cells.lookup x=some c->c≠b)/\∀p∈X.pn++pj,p.1≠b):Inv X pj σ H' s':=by
 obtain⟨h',g',d',t',o'⟩:=s'
 have e:o'=s.os:=ho
 subst e
 exact I.call (g':=g') (t':=t') (d':=d') u hok hg hch
end
abbrev XK:=Value->Option Addr->Hp->Prop
abbrev St:=List (Option V)
abbrev VK:=V->Hp->Prop
abbrev TE:=St->Hp->VK->Prop
abbrev TT:=St->Hp->(Bool->Hp->Prop)->Prop
abbrev TA:=St->Hp->(List V->Hp->Prop)->Prop
structure Ends where
 nx:St->Hp->Prop
 rt:VK
 bk:St->Hp->Prop:=λ_ _=>False
 ct:St->Hp->Prop:=λ_ _=>False
abbrev TS:=Ends->St->Hp->Prop
def EP (X:Cx)(pj:Zab)(σ:St)(Q:VK)(u:Value)(s':Shared):Prop:=∃v H',Inv X pj σ H' s'/\RelV v u/\Q v H'
def TP (X:Cx)(pj:Zab)(σ:St)(Q:Bool->Hp->Prop)(b:Bool)(s':Shared):Prop:=∃H',Inv X pj σ H' s'/\Q b H'
def AP (X:Cx)(pj:Zab)(σ:St)(Q:List V->Hp->Prop)(us:List Value)(s':Shared):Prop:=∃vs H',Inv X pj σ H' s'/\Vals vs us/\Q vs H'
def SP (X:Cx)(pj:Zab)(D:Ends)(f:Flow)(s':Shared):Prop:=
 match f with
 |.next=>∃σ' H',Inv X pj σ' H' s'/\D.nx σ' H'
 |.brk=>∃σ' H',Inv X pj σ' H' s'/\D.bk σ' H'
 |.cont=>∃σ' H',Inv X pj σ' H' s'/\D.ct σ' H'
 |.ret u=>∃v σ' H',Inv X pj σ' H' s'/\RelV v u/\D.rt v H'
def PE (X:Cx)(e:Expr)(t:TE):Prop:=
 ∀(pj:Zab) (s:Shared) (σ:St) (H:Hp) (Q:VK),Inv X pj σ H s->t σ H Q->wpAny (model X.prog X.w) X.A (eval e X.env) (EP X pj σ Q) X.xe s
def PT (X:Cx)(e:Expr)(t:TT):Prop:=
 ∀(pj:Zab) (s:Shared) (σ:St) (H:Hp) (Q:Bool->Hp->Prop),Inv X pj σ H s->t σ H Q->wpAny (model X.prog X.w) X.A (isTrue e X.env (eval e X.env)) (TP X pj σ Q) X.xe s
def PW (X:Cx)(e:Expr)(t:TT):Prop:=
 ∀(whole:Sem Value) (pj:Zab) (s:Shared) (σ:St) (H:Hp) (Q:Bool->Hp->Prop),Inv X pj σ H s->t σ H Q->wpAny (model X.prog X.w) X.A (isTrue e X.env whole) (TP X pj σ Q) X.xe s
def PW.pt {X:Cx}{e:Expr}{t:TT}(h:PW X e t):PT X e t:=h _
def PA (X:Cx)(es:List Expr)(t:TA):Prop:=
 ∀(pos:Pos) (pj:Zab) (s:Shared) (σ:St) (H:Hp) (Q:List V->Hp->Prop),Inv X pj σ H s->t σ H Q->wpAny (model X.prog X.w) X.A (spliced (backTo pos (starEach es X.env))) (AP X pj σ Q) X.xe s
def PS (X:Cx)(st:Stmt)(t:TS):Prop:=
 ∀(pj:Zab) (s:Shared) (σ:St) (H:Hp) (D:Ends),Inv X pj σ H s->t D σ H->wpAny (model X.prog X.w) X.A (exec st X.env) (SP X pj D) X.xe s
def PSs (X:Cx)(st:List Stmt)(t:TS):Prop:=
 ∀(pj:Zab) (s:Shared) (σ:St) (H:Hp) (D:Ends),Inv X pj σ H s->t D σ H->wpAny (model X.prog X.w) X.A (execs st X.env) (SP X pj D) X.xe s
def thn {α:Type}{t:Sem α}{Q Q':α->Zaa}{M:Model}{A:Around}{E:Value->Zaa}{s:Shared}(h:wpAny M A t Q E s)(hQ:∀a s,Q a s->Q' a s):wpAny M A t Q' E s:=wpAny_mono h hQ λ_ _ x=>x
section
variable {X:Cx}
def Yh (i:Nat):TE:=fun σ H Q=>∃v,σ[i]?=some (some v)/\Q v H
def tC (v:V):TE:=λ_ H Q=>Q v H
def QO {i:Nat}{x:Str}{pos:Pos}(hN:X.N[i]?=some x)(hv:Vis X.env.scope x)(hd:(x==("__debug__":Str))=false:=by decide)(hcd:(x==("__classdict__":Str))=false:=by decide):PE X (.Name x pos) (Yh i):=by
 intro pj s σ H Q I h
 obtain⟨v,e,h⟩:=h
 obtain⟨m,hn,hl⟩:=I.loc
 obtain⟨u,r,l⟩:=hl i x v hN e hv
 have fin:EP X pj σ Q u s:=⟨v,H,I,r,h⟩
 rcases l with⟨hk,hm⟩|⟨hk,c,hc,hcell⟩
 ·exact wpAny_Name (wpAny_loadName_local I.ok.kind hk hn hm fin) hd
 ·rcases hk with hk|hk
  ·exact wpAny_Name (wpAny_loadName_cell I.ok.kind hk hc hcell fin) hd
  ·exact wpAny_Name (wpAny_loadName_free I.ok.kind hk hc hcell fin hcd) hd
def Vz {i j pos}:PE X (.Constant (.int i) j pos) (tC (.int i)):=λ_ _ _ H _ I h=>wpAny_Constant_int ⟨.int i,H,I.tok _,⟨_,rfl⟩,h⟩
def Yc {b j pos}:PE X (.Constant (.bool b) j pos) (tC (.bl b)):=λ_ _ _ H _ I h=>Constant_bool ⟨.bl b,H,I,rfl,h⟩
def VL {j pos}:PE X (.Constant .none j pos) (tC .non):=λ_ _ _ H _ I h=>Constant_none ⟨.non,H,I,rfl,h⟩
def Xs {x j pos}:PE X (.Constant (.str x) j pos) (tC (.str x)):=λ_ _ _ H _ I h=>Calls.Constant_str ⟨.str x,H,I.tok _,⟨_,rfl⟩,h⟩
def Gl (X:Cx)(x:Str):Prop:=X.env.kindOf x=some .globalImplicit
def T6 {E:Value->Zaa}{pj:Zab}{s:Shared}{σ:St}{H:Hp}{x:Str}{u:Value}{pos:Pos}{Q:Value->Zaa}(I:Inv X pj σ H s)(hg:Gl X x)(hm:X.mg x=some u)(h:Q u s)
  (hd:(x==("__debug__":Str))=false:=by decide):wpAny (model X.prog X.w) X.A (eval (.Name x pos) X.env) Q E s:=
 Calls.Name_function_global I.ok.kind hg (Calls.loadGlobal_global (by rw[I.ok.glob];exact I.mod.glob.keeps I.bk) hm h) hd
def Kq {E:Value->Zaa}{pj:Zab}{s:Shared}{σ:St}{H:Hp}{x:Str}{u:Value}{pos:Pos}{Q:Value->Zaa}(I:Inv X pj σ H s)(hg:Gl X x)(hm:X.mg x=none)(hv:bootBuiltins x=some u)(h:Q u s)
  (hn:x≠"__name__":=by decide) (hd:(x==("__debug__":Str))=false:=by decide):wpAny (model X.prog X.w) X.A (eval (.Name x pos) X.env) Q E s:=by
 obtain⟨mb,h1,h2⟩:=I.mod.blt
 exact Calls.Name_function_global I.ok.kind hg (Calls.loadGlobal_builtin (by rw[I.ok.glob];exact I.mod.glob.keeps I.bk) hm (by rw[I.ok.blt];exact h1.keeps I.bk) ((h2 x hn).trans hv) h) hd
variable {a b:Expr}{ta tb:TE}{pos:Pos}
variable {tA tB':TT}{rest:List Expr}
def ZH (t u:TT):TT:=fun σ H Q=>t σ H λc H1=>if c=true then u σ H1 Q else Q false H1
theorem TF (ha:PT X a tA):PW X (.BoolOp .And [a] pos) tA:=by
 intro wh pj s σ H Q I h
 refine isTrue_and (thn (ha pj s σ H Q I h) λc s1 e=>?_)
 cases c with
 |true=>exact isTrue_and_nil e
 |false=>exact e
theorem Wk (ha:PT X a tA)(hb:PW X (.BoolOp .And (b::rest) pos) tB'):PW X (.BoolOp .And (a::b::rest) pos) (ZH tA tB'):=by
 intro wh pj s σ H Q I h
 refine isTrue_and (thn (ha pj s σ H _ I h) λc s1 ⟨H1,I1,q1⟩=>?_)
 cases c with
 |true=>exact hb wh pj s1 σ H1 Q I1 q1
 |false=>exact⟨H1,I1,q1⟩
end
def SqL (K:W.Frag)(H:Hp)(a:Addr)(xs:List V):Prop:=
 Rd H a (.lst xs) \/
  ∃(o:Obj) (its:Array Value) (n:Nat),K.lookup a=some o/\o.cls=.type "list"/\o.dict=none/\o.data=.seq its n/\its.size<=sizeLine/\Vals xs its.toList
def SqT (K:W.Frag)(H:Hp)(a:Addr)(xs:List V):Prop:=
 Rd H a (.tup xs) \/
  ∃(o:Obj) (its:Array Value) (n:Nat),K.lookup a=some o/\o.cls=.type "tuple"/\o.dict=none/\o.data=.seq its n/\its.size<=sizeLine/\Vals xs its.toList
def Aal:Value->Option V
 |.none=>some .non
 |.bool b=>some (.bl b)
 |.int i _=>some (.int i)
 |.str x _=>some (.str x)
 |.bytes b _=>some (.byt b)
 |.float b _=>some (.flt b)
 |.ref a=>some (.ref a)
 |.type n=>some (.ty n)
 |_=>none
theorem RelV.abs {x:V}{u:Value}(r:RelV x u):Aal u=some x:=by
 cases x with
 |non=>cases r;rfl
 |bl _=>cases r;rfl
 |int _=>obtain⟨t,rfl⟩:=r;rfl
 |str _=>obtain⟨t,rfl⟩:=r;rfl
 |byt _=>obtain⟨t,rfl⟩:=r;rfl
 |flt _=>obtain⟨t,rfl⟩:=r;rfl
 |ref _=>cases r;rfl
 |ty _=>cases r;rfl
def RelV.inj {x y:V}{u:Value}(r:RelV x u)(q:RelV y u):x=y:=AH (r.abs.symm.trans q.abs)
theorem Vals.inj:∀{xs ys:List V}{us:List Value},Vals xs us->Vals ys us->xs=ys
 |_,_,_,.nil,.nil=>rfl
 |_,_,_,.cons r t,.cons r' t'=>by rw[r.inj r',Vals.inj t t']
section
variable {X:Cx}{pj:Zab} {σ:St}{H:Hp}{s:Shared}{a:Addr}{xs ys:List V}
def SqL.of {K:W.Frag}(h:H a=some (.lst xs)):SqL K H a xs:=.inl (.inl h)
def SqT.of {K:W.Frag}(h:H a=some (.tup xs)):SqT K H a xs:=.inl (.inl h)
def Inv.list (I:Inv X pj σ H s)(h:SqL X.K H a xs):∃its:List Value,Vals xs its/\PlainL s.heap a its.toArray/\xs.length<=sizeLine:=by
 rcases h with h|⟨o,its,n,hk,hc,hd,hs,hz,r⟩
 ·obtain⟨z,its,n,r,e⟩:=h.ok I.hok
  exact⟨its,r,⟨_,n,e,rfl,rfl,rfl⟩,z⟩
 ·refine⟨its.toList,r,⟨o,n,I.kIn a o hk,hc,hd,by simpa using hs⟩,?_⟩
  have e:=r.length
  simp only[Array.length_toList] at e
  ext
def Inv.tupleD (I:Inv X pj σ H s)(h:SqT X.K H a xs):∃o,s.heap.get? a=some o/\o.dict=none/\o.cls=.type "tuple":=by
 rcases h with h|⟨o,its,n,hk,hc,hd,hs,hz,r⟩
 ·obtain⟨⟨z,o,g1,g2⟩,its,r,o',g3,g4,_⟩:=h.ok I.hok
  rw[g1] at g3
  cases g3
  exact⟨o,g1,g2,g4⟩
 ·exact⟨o,I.kIn a o hk,hd,hc⟩
def Inv.tuple (I:Inv X pj σ H s)(h:SqT X.K H a xs):∃its:List Value,Vals xs its/\IsTup s.heap a its.toArray/\xs.length<=sizeLine:=by
 rcases h with h|⟨o,its,n,hk,hc,_,hs,hz,r⟩
 ·obtain⟨⟨z,_⟩,its,r,p⟩:=h.ok I.hok
  exact⟨its,r,p,z⟩
 ·refine⟨its.toList,r,⟨o,I.kIn a o hk,hc,n,by simpa using hs⟩,?_⟩
  have e:=r.length
  simp only[Array.length_toList] at e
  ext
def Inv.list_inj (I:Inv X pj σ H s)(h:SqL X.K H a xs)(h':SqL X.K H a ys):xs=ys:=by
 obtain⟨its,r,⟨o,n,e,_,_,d⟩,_⟩:=I.list h
 obtain⟨its',r',⟨o',n',e',_,_,d'⟩,_⟩:=I.list h'
 rw[e] at e';cases e'
 rw[d] at d'
 injection d' with d1 _
 have:its=its':=by simpa using congrArg Array.toList d1
 subst this
 exact r.inj r'
def Inv.tuple_inj (I:Inv X pj σ H s)(h:SqT X.K H a xs)(h':SqT X.K H a ys):xs=ys:=by
 obtain⟨its,r,⟨o,e,_,n,d⟩,_⟩:=I.tuple h
 obtain⟨its',r',⟨o',e',_,n',d'⟩,_⟩:=I.tuple h'
 rw[e] at e';cases e'
 rw[d] at d'
 injection d' with d1 _
 have:its=its':=by simpa using congrArg Array.toList d1
 subst this
 exact r.inj r'
end
abbrev Cx.wish (X:Cx) (E:Value->Zaa):Cx:={X with xe:=E}
abbrev Cx.nox (X:Cx):Cx:=X.wish λ_ _=>False
theorem Cx.Ok.wish {X:Cx}(ok:X.Ok)(E:Value->Zaa):(X.wish E).Ok:=
 ⟨ok.mod,ok.kind,ok.glob,ok.blt,ok.above,ok.inj,ok.has,ok.cab,ok.hd,ok.frames,ok.stk,ok.exf,ok.bs,ok.bsz,ok.noex,ok.exfs,ok.funs,ok.frf⟩
def Cx.Ok.unwish {X:Cx}{E:Value->Zaa}(ok:(X.wish E).Ok):X.Ok:=
 ⟨ok.mod,ok.kind,ok.glob,ok.blt,ok.above,ok.inj,ok.has,ok.cab,ok.hd,ok.frames,ok.stk,ok.exf,ok.bs,ok.bsz,ok.noex,ok.exfs,ok.funs,ok.frf⟩
section
variable {X:Cx}{pj:Zab} {σ:St}{H:Hp}{s:Shared}{E:Value->Zaa}
theorem Inv.wish (I:Inv X pj σ H s)(E:Value->Zaa):Inv (X.wish E) pj σ H s:=⟨I.ok.wish E,I.os,I.bare,I.base,I.loc,I.cell,I.free,I.freeC,I.pin,I.hok,I.len⟩
theorem Inv.unwish (I:Inv (X.wish E) pj σ H s):Inv X pj σ H s:=⟨I.ok.unwish,I.os,I.bare,I.base,I.loc,I.cell,I.free,I.freeC,I.pin,I.hok,I.len⟩
theorem SP.unwish {D:Ends}{f:Flow}{s':Shared}(h:SP (X.wish E) pj D f s'):SP X pj D f s':=by
 cases f with
 |next=>obtain⟨σ',H',I,q⟩:=h;exact⟨σ',H',I.unwish,q⟩
 |brk=>obtain⟨σ',H',I,q⟩:=h;exact⟨σ',H',I.unwish,q⟩
 |cont=>obtain⟨σ',H',I,q⟩:=h;exact⟨σ',H',I.unwish,q⟩
 |ret u=>obtain⟨v,σ',H',I,r,q⟩:=h;exact⟨v,σ',H',I.unwish,r,q⟩
theorem PSs.nox {st:List Stmt}{t:TS}(h:PSs X.nox st t):PSs X st t:=λpj s σ H D I hw =>
 wpAny_mono (h pj s σ H D (I.wish _) hw) (λ_ _ q=>q.unwish) λ_ _ z=>False.elim z
end
section
variable {X:Cx}{st:Stmt}{rest:List Stmt}{t u:TS}{e:Expr}{te:TE}{pos:Pos}
def XJ:TS:=λD σ H=>D.nx σ H
def Aaq (t u:TS):TS:=λD σ H=>t {D with nx:=u D} σ H
def Tz:PSs X [] XJ:=λ_ _ σ H _ I h=>wpAny_execs_nil ⟨σ,H,I,h⟩
theorem Q5 (h1:PS X st t)(h2:PSs X rest u):PSs X (st::rest) (Aaq t u):=by
 intro pj s σ H D I h
 refine wpAny_execs_cons (thn (h1 pj s σ H {D with nx:=u D} I h) λf s1 q=>?_)
 cases f with
 |next =>
  obtain⟨σ',H',I',q⟩:=q
  exact h2 pj s1 σ' H' D I' q
 |ret v=>exact q
 |brk=>exact q
 |cont=>exact q
theorem S6 (h1:PS X st t):PSs X [st] t:=by
 intro pj s σ H D I h
 refine wpAny_execs_cons (thn (h1 pj s σ H D I h) λf s1 q=>?_)
 cases f with
 |next=>exact wpAny_execs_nil q
 |ret v=>exact q
 |brk=>exact q
 |cont=>exact q
def Inv.quiet {pj:Zab}{σ:St}{H:Hp}{s:Shared}(I:Inv X pj σ H s):interactive X.env=false:=by simp[interactive,I.ok.kind]
def YU (te:TE):TS:=λD σ H=>te σ H λ_ H1=>D.nx σ H1
def Tu (he:PE X e te)(hs:swapsWith e none pos.line X.env=pure false:=by rfl):PS X (.Expr e pos) (YU te):=by
 intro pj s σ H D I h
 exact wpAny_Expr_any (thn (he pj s σ H _ I h) λv s1 ⟨x,H1,I1,r1,q1⟩=>⟨σ,H1,I1,q1⟩) I.quiet hs
def Z4 (te:TE):TS:=λD σ H=>te σ H D.rt
def W8 (he:PE X e te):PS X (.Return (some e) pos) (Z4 te):=by
 intro pj s σ H D I h
 exact wpAny_Return_some (thn (he pj s σ H _ I h) λv s1 ⟨x,H1,I1,r1,q1⟩=>⟨x,σ,H1,I1,r1,q1⟩)
def Aah (c:TT)(t u:TS):TS:=λD σ H=>c σ H λb H1=>if b=true then t D σ H1 else u D σ H1
theorem YE {c:Expr}{a b:List Stmt}{tc:TT}(hc:PT X c tc)(ha:PSs X a t)(hb:PSs X b u):PS X (.If c a b pos) (Aah tc t u):=by
 intro pj s σ H D I h
 refine wpAny_If (thn (hc pj s σ H _ I h) λd s1 ⟨H1,I1,q1⟩=>?_)
 cases d with
 |true=>exact ha pj s1 σ H1 D I1 q1
 |false=>exact hb pj s1 σ H1 D I1 q1
end
abbrev TG:=V->St->Hp->(St->Hp->Prop)->Prop
abbrev TGs:=List V->St->Hp->(St->Hp->Prop)->Prop
def PG (X:Cx)(target:Expr)(t:TG):Prop:=
 ∀(pj:Zab) (s:Shared) (σ:St) (H:Hp) (v:V) (u:Value) (Q:St->Hp->Prop),Inv X pj σ H s->RelV v u->t v σ H Q ->
  wpAny (model X.prog X.w) X.A (assign target X.env u) (λ_ s'=>∃σ' H',Inv X pj σ' H' s'/\Q σ' H') X.xe s
def PGs (X:Cx)(ts:List Expr)(t:TGs):Prop:=
 ∀(pj:Zab) (s:Shared) (σ:St) (H:Hp) (vs:List V) (us:List Value) (Q:St->Hp->Prop),Inv X pj σ H s->Vals vs us->t vs σ H Q ->
  wpAny (model X.prog X.w) X.A (assignInOrder ((assignEach ts X.env).map (·.2)) us) (λ_ s'=>∃σ' H',Inv X pj σ' H' s'/\Q σ' H') X.xe s
abbrev RX:=V->V->V->Hp->(Hp->Prop)->Prop
def Ur (X:Cx)(t:RX):Prop:=
 ∀(pj:Zab) (s:Shared) (σ:St) (H:Hp) (o i v:V) (ov iv u:Value) (Q:Hp->Prop),Inv X pj σ H s->RelV o ov->RelV i iv->RelV v u->t o i v H Q ->
  wpAny (model X.prog X.w) X.A (setItem ov iv u) (λ_ s'=>∃H',Inv X pj σ H' s'/\Q H') X.xe s
section
variable {X:Cx}{pos:Pos}
def UY (i:Nat):TG:=λv σ H Q=>Q (σ.set i (some v)) H
def SN {i:Nat}{x:Str}(hN:X.N.Nodup)(hi:X.N[i]?=some x)(hx:Loc X.env.scope x)(hf:X.fn x=true\/X.env.scope.names.lookup x=some .local:=by first|exact .inl rfl|exact .inr rfl|assumption):PG X (.Name x pos) (UY i):=by
 intro pj s σ H v u Q I r h
 exact wpAny_assign_Name (Fu I hN hi hx r (λs' I'=>⟨_,H,I',h⟩) hf)
def ZX:TGs:=λvs σ H Q=>vs=[]/\Q σ H
def X5 (t:TG)(u:TGs):TGs:=λvs σ H Q=>∃v r,vs=v::r/\t v σ H fun σ' H'=>u r σ' H' Q
def Tw:PGs X [] ZX:=by
 intro pj s σ H vs us Q I r h
 obtain⟨e,h⟩:=h
 subst e
 cases r
 exact assignInOrder_nil ⟨σ,H,I,h⟩
theorem Qe {e:Expr}{es:List Expr}{t:TG}{u:TGs}(h1:PG X e t)(h2:PGs X es u)
  (hs:(assignEach (e::es) X.env).map (·.2)=assign e X.env::(assignEach es X.env).map (·.2):=by rfl):PGs X (e::es) (X5 t u):=by
 intro pj s σ H vs us Q I r h
 obtain⟨v,vr,e1,h⟩:=h
 subst e1
 cases r with
 |cons r rr =>
  rw[hs]
  refine assignInOrder_cons (thn (h1 pj s σ H _ _ _ I r h) λ_ s1 ⟨σ1,H1,I1,q1⟩=>?_)
  exact h2 pj s1 σ1 H1 _ _ Q I1 rr q1
def AaA (K:W.Frag)(n:Nat)(t:TGs):TG:=λv σ H Q=>∃a xs,v=.ref a/\SqT K H a xs/\xs.length=n/\t xs σ H Q
def Vt {es:List Expr}{k:Nat}{t:TGs}{n:Nat}(hc:X.calm=true)(h:PGs X es t)
  (hn:(assignEach es X.env).length=n:=by rfl) (hst:(assignEach es X.env).findIdx? (·.1)=none:=by rfl):PG X (.Tuple es k pos) (AaA X.K n t):=by
 intro pj s σ H v u Q I r hw
 obtain⟨a,xs,e1,hq,hl,hw⟩:=hw
 subst e1
 cases r
 obtain⟨its,rv,ht,hz⟩:=I.tuple hq
 refine assign_Tuple_tuple (I.ok.hd hc) ht (by simp[hn,<- hl,rv.length]) hst λh' hx=>?_
 have I1:Inv X pj σ H {s with heap:=h'}:=I.kept (t':=s.toks) λb o e=>hx b o (Ax (Ao e)) e
 exact h pj _ σ H xs _ Q I1 (by simpa using rv) hw
def Aac (to ti:TE)(t:RX):TG:=λv σ H Q=>to σ H λo H1=>ti σ H1 λi H2=>t o i v H2 λH3=>Q σ H3
def Vx {o i:Expr}{to ti:TE}{t:RX}(ho:PE X o to)(hi:PE X i ti)(hs:Ur X t)
  (ha:∀v,assign (.Subscript o i pos) X.env v=(do
   let ov<-holding [v] (eval o X.env)
   let iv<-holding [v,ov] (eval i X.env)
   standAt pos
   holding [v,ov,iv] (setItem ov iv v)
   release [v,ov,iv] []):=by intro _;rfl):PG X (.Subscript o i pos) (Aac to ti t):=by
 intro pj s σ H v u Q I r h
 rw[ha]
 refine Aa (AL (thn (ho pj s σ H _ I h) λov s1 ⟨x,H1,I1,r1,q1⟩=>?_))
 refine Aa (AL (thn (hi pj s1 σ H1 _ I1 q1) λiv s2 ⟨y,H2,I2,r2,q2⟩=>?_))
 refine Aa (wpAny_standAt (Aa (AL (thn (hs pj s2 σ H2 x y v ov iv u _ I2 r1 r2 r q2) λ_ s3 ⟨H3,I3,q3⟩=>?_))))
 exact wpAny_release ⟨σ,H3,I3,q3⟩
def WT (te:TE)(g:TG):TS:=λD σ H=>te σ H λx H1=>g x σ H1 D.nx
def VQ {tg e:Expr}{te:TE}{g:TG}(he:PE X e te)(hg:PG X tg g)(hs:swapsWithSole [tg] e pos.line X.env=pure false:=by rfl)(hw:swappedStores [tg] e X.env=pure none:=by rfl)
  (h1:(assignEach [tg] X.env).map (·.2)=[assign tg X.env]:=by rfl):PS X (.Assign [tg] e pos) (WT te g):=by
 intro pj s σ H D I h
 refine wpAny_Assign_stores (thn (he pj s σ H _ I h) λv s1 ⟨x,H1,I1,r1,q1⟩=>?_) hs hw
 rw[h1]
 exact thn (hg pj s1 σ H1 x v _ I1 r1 q1) λ_ s2 q=>q
def VX {i:Nat}{x:Str}{e:Expr}{te:TE}{pos':Pos}(hN:X.N.Nodup)(hi:X.N[i]?=some x)(hx:Loc X.env.scope x)(he:PE X e te)(hs:swapsWith e (some (.Name x pos')) pos.line X.env=pure false:=by rfl)(hf:X.fn x=true\/X.env.scope.names.lookup x=some .local:=by first|exact .inl rfl|exact .inr rfl|assumption) :
  PS X (.Assign [.Name x pos'] e pos) (WT te (UY i)):=by
 intro pj s σ H D I h
 refine wpAny_Assign_Name (thn (he pj s σ H _ I h) λv s1 ⟨y,H1,I1,r1,q1⟩=>?_) hs
 exact Fu I1 hN hi hx r1 (λs2 I2=>⟨_,H1,I2,q1⟩) hf
def ZU (i j:Nat)(ta:TA):TS:=λD σ H=>ta σ H λvs H1=>∃v w,vs=[v,w]/\D.nx ((σ.set i (some v)).set j (some w)) H1
def VY {i j:Nat}{x y:Str}{a b:Expr}{ta:TA}{px py pt:Pos}{kt k2 pt2}(hc:X.calm=true)(hN:X.N.Nodup)(hi:X.N[i]?=some x)(hj:X.N[j]?=some y)(hij:i≠j)
  (hx:X.env.scope.names.lookup x=some .local) (hy:X.env.scope.names.lookup y=some .local) (ha:PA X [a,b] ta)
  (hw:swappedStores [.Tuple [.Name x px,.Name y py] kt pt] (.Tuple [a,b] k2 pt2) X.env=pure (some [x,y]))
  (hs:swapsWithSole [.Tuple [.Name x px,.Name y py] kt pt] (.Tuple [a,b] k2 pt2) pos.line X.env=pure false:=by rfl) :
  PS X (.Assign [.Tuple [.Name x px,.Name y py] kt pt] (.Tuple [a,b] k2 pt2) pos) (ZU i j ta):=by
 intro pj s σ H D I h
 rw[exec_Assign_arm]
 refine Aa (wpAny_standAt ?_)
 rw[hs]
 refine Aa (Ab ?_)
 rw[if_neg (by decide)]
 refine Aa (Tuple_ (thn (ha _ pj s σ H _ I h) λus s1 ⟨vs,H1,I1,r1,q1⟩=>?_))
 obtain⟨v,w,e1,q1⟩:=q1
 subst e1
 obtain⟨u1,u2,rfl,rv,rw'⟩:∃u1 u2,us=[u1,u2]/\RelV v u1/\RelV w u2:=by
  cases r1 with
  |cons p q =>
   cases q with
   |cons p' q' =>
    cases q'
    exact⟨_,_,rfl,p,p'⟩
 refine AZ ?_ (by show 2<=sizeLine;decide)
 have I2:Inv X pj σ H1 {s1 with heap:=s1.heap.push {cls:=.type "tuple",data:=.seq [u1,u2].toArray}}:=I1.kept (t':=s1.toks) λb o e=>Ad _ e
 rw[hw]
 refine Aa (Ab ?_)
 show wpAny (model X.prog X.w) X.A (do rule "assign.swapped-stores";let items<-unpackItems (.ref s1.heap.objs.size) 2 none;assignInOrder [λv=>bindName X.env y v,λv=>bindName X.env x v] items.reverse;pure Flow.next) _ _ _
 refine Aa (Bn (Aa (unpackItems_tuple (items:=#[u1,u2]) (I.ok.hd hc) (IsTup.new s1.heap _) λh' hx'=>?_)))
 have I3:=I2.kept (h':=h') (t':=s1.toks) λb o e=>hx' b o (Ax (Ao e)) e
 show wpAny _ _ (assignInOrder [λv=>bindName X.env y v,λv=>bindName X.env x v] [u2,u1]>>=λ_=>pure Flow.next) _ _ _
 refine Aa (assignInOrder_cons (wpAny_bindName (Fu I3 hN hj (.inl hy) rw' (λs2 I4=>?_) (.inr hy))))
 refine assignInOrder_cons (wpAny_bindName (Fu I4 hN hi (.inl hx) rv (λs3 I5=>assignInOrder_nil (Ab ?_)) (.inr hx)))
 rw[List.set_comm _ _ (Ne.symm hij)] at I5
 exact⟨_,H1,I5,q1⟩
end
structure It where
 go:Nat->Hp->Prop
 yld:Nat->Hp->V->Hp->Prop
 stop:Nat->Hp->Prop
def HJ (X:Cx)(pj:Zab)(H:Hp)(b:Addr):Prop:=
 H b=none/\b≠X.env.locals/\b∉X.fs/\(b∈X.ex\/X.s₀.heap.objs.size<=b)/\(∀x c,X.env.cells.lookup x=some c->c≠b)/\∀p∈X.pn++pj,p.1≠b
def Inv.fpOk {X:Cx}{pj:Zab}{σ:St}{H H':Hp}{s:Shared}{b:Addr}(I:Inv X pj σ H s)(hb:s.heap.objs.size<=b)(hn:H' b=none):HJ X pj H' b:=by
 refine⟨hn,BP (AN I.lt hb),I.nofs hb,.inr (AU I.sz hb),λx c e z=>?_,λp hp z=>?_⟩
 ·obtain⟨v,q⟩:=I.cell x c e
  exact absurd (AN q.lt (by rw[z];exact hb)) (Bz _)
 ·exact absurd (AN (Ao (I.pin p hp).1) (by rw[z];exact hb)) (Bz _)
structure Turn (P:Program) (w:World) (K:W.Frag) (tg:Expr) (J:It) (fp:List Addr) (it:Addr) (tn:Nat->Heap->Prop):Prop where
 mem:it∈fp
 obj:∀i h,tn i h->∀b∈fp,∃o,h.get? b=some o/\∀v,o.data≠.cell v
 keep:∀i h h',tn i h->(∀b∈fp,∀o,h.get? b=some o->h'.get? b=some o)->tn i h'
 item:∀(X:Cx),X.prog=P->X.w=w->X.K=K->X.calm=true->∀(i:Nat) (pj:Zab) (s:Shared) (σ:St) (H:Hp) (E:Value->Zaa),Inv X pj σ H s->(∀b∈fp,HJ X pj H b)->tn i s.heap->J.go i H ->
  wpAny (model P w) X.A (pyNext (.ref it)) (λr s1=>∃u,r=some u /\
   wpAny (model P w) X.A (letOwnedTupleGo tg (.ref it) u) (λ_ s2=>∃x H',Inv X pj σ H' s2/\RelV x u/\J.yld i H x H'/\tn (i+1) s2.heap/\∀b∈fp,H' b=none) E s1) E s
 done:∀(X:Cx),X.prog=P->X.w=w->X.K=K->X.calm=true->∀(i:Nat) (pj:Zab) (s:Shared) (σ:St) (H:Hp) (E:Value->Zaa),Inv X pj σ H s->(∀b∈fp,HJ X pj H b)->tn i s.heap->J.stop i H ->
  wpAny (model P w) X.A (pyNext (.ref it)) (λr s1=>r=none/\Inv X pj σ H s1) E s
 self:∀(A:Around) (i:Nat) (s:Shared) (Q:Value->Zaa) (E:Value->Zaa),tn i s.heap->Q (.ref it) s->wpAny (model P w) A (pyIter (.ref it)) Q E s
abbrev TI:=St->Hp->(It->Hp->Prop)->Prop
def PIE (X:Cx)(pj:Zab)(σ:St)(tg:Expr)(R:It->Hp->Prop)(itv:Value)(s2:Shared):Prop:=
 ∃(it:Addr) (fp:List Addr) (tn:Nat->Heap->Prop) (J:It) (H':Hp),itv=.ref it/\Inv X pj σ H' s2/\Turn X.prog X.w X.K tg J fp it tn/\tn 0 s2.heap/\(∀b∈fp,HJ X pj H' b)/\R J H'
def PI (X:Cx)(tg iter:Expr)(wi:TI):Prop:=
 ∀(pj:Zab) (s:Shared) (σ:St) (H:Hp) (R:It->Hp->Prop),Inv X pj σ H s->wi σ H R ->
  wpAny (model X.prog X.w) X.A (eval iter X.env) (λv s1=>wpAny (model X.prog X.w) X.A (pyIter v) (PIE X pj σ tg R) X.xe s1) X.xe s
def Nd {M:Model}{A:Around}{E:Value->Zaa}{s:Shared}{tg:Expr}{it:Addr}{u:Value}{o:Obj}{n:String}{vs:Array Value}{Q:Unit->Zaa}(ho:s.heap.get? it=some o)(hc:o.cls=.type n)(hd:o.data=.fields vs)
  (hn:["enumerate","zip","dict_itemiterator","dict_reverseitemiterator","odict_iterator","itertools.zip_longest","itertools.pairwise"].contains n=false) (hQ:Q () s):wpAny M A (letOwnedTupleGo tg (.ref it) u) Q E s:=by
 unfold letOwnedTupleGo
 cases tg<;>first
  |exact Ab hQ
  |(cases u<;>first
    |exact Ab hQ
    |(refine Aa (wpAny_load ho ?_);rw[hc,hd];show wpAny M A (if (["enumerate","zip","dict_itemiterator","dict_reverseitemiterator","odict_iterator","itertools.zip_longest","itertools.pairwise"].contains n&&vs[0]?==some (rawInt _))=true then _ else _) Q E s;rw[if_neg (by intro h;rw[hn,Bool.false_and] at h;cases h)];exact Ab hQ))
def Itl (K:W.Frag)(a:Addr):It:=
 ⟨λi H=>∃xs x,SqL K H a xs/\xs[i]?=some x,λi H x H'=>H'=H/\∀xs,SqL K H a xs->xs[i]?=some x,λi H=>∃xs,SqL K H a xs/\xs.length<=i⟩
def Itt (K:W.Frag)(a:Addr):It:=
 ⟨λi H=>∃xs x,SqT K H a xs/\xs[i]?=some x,λi H x H'=>H'=H/\∀xs,SqT K H a xs->xs[i]?=some x,λi H=>∃xs,SqT K H a xs/\xs.length<=i⟩
def Itr (lo:Int)(n:Nat):It:=⟨λi _=>i<n,λi H x H'=>H'=H/\x=.int (lo+i),λi _=>n<=i⟩
def Qb {P:Program}{w:World}{K:W.Frag}{tg:Expr}(a it:Addr):Turn P w K tg (Itl K a) [it] it (λi h=>h.IsListIter it a i) where
 mem:=by simp
 obj:=λi h st b hb=>by
  have e:b=it:=by simpa using hb
  subst e
  obtain⟨o,e,c,d⟩:=st
  exact⟨o,e,λv z=>by rw[d] at z;cases z⟩
 keep:=λi h h' st k=>st.at λo e=>k it (by simp) o e
 item:=by
  intro X hP hw hK hc i pj s σ H E I hf st hg
  subst hP hw hK
  obtain⟨xs,x,hq,hx⟩:=hg
  obtain⟨its,rv,p,hz⟩:=I.list hq
  obtain⟨u,hu,ru⟩:=rv.get hx
  obtain⟨f0,f1,f2,f3,f4,f5⟩:=hf it (by simp)
  refine wpAny_pyNext_list_item st p.isList (x:=u) (by simpa using hu) λh' st' sb=>?_
  have I1:Inv X pj σ H {s with heap:=h'}:=I.turned (t':=s.toks) (λb o hb e=>(sb.2 b hb).trans e) f0 f1 f3 f4 f5
  obtain⟨o,e,c,d⟩:=id st'
  exact⟨u,rfl,Nd (s:={s with heap:=h'}) e c d (by decide) ⟨x,H,I1,ru,⟨rfl,λys hy=>by rw[I.list_inj hy hq];exact hx⟩,st',λb hb=>(hf b hb).1⟩⟩
 done:=by
  intro X hP hw hK hc i pj s σ H E I hf st hg
  subst hP hw hK
  obtain⟨xs,hq,hx⟩:=hg
  obtain⟨its,rv,p,hz⟩:=I.list hq
  obtain⟨f0,f1,f2,f3,f4,f5⟩:=hf it (by simp)
  have hl:=rv.length
  exact wpAny_pyNext_list_end (I.ok.hd hc) st p.isList (by simp;ext) λh' eb=>⟨rfl,I.turned (t':=s.toks) (λb o hb e=>eb b o hb e) f0 f1 f3 f4 f5⟩
 self:=λ_ _ _ _ _ st h=>wpAny_pyIter_listiter st h
def Nk {P:Program}{w:World}{K:W.Frag}{tg:Expr}(a it:Addr):Turn P w K tg (Itt K a) [it] it (λi h=>h.IsTupleIter it a i) where
 mem:=by simp
 obj:=λi h st b hb=>by
  have e:b=it:=by simpa using hb
  subst e
  obtain⟨o,e,c,d⟩:=st
  exact⟨o,e,λv z=>by rw[d] at z;cases z⟩
 keep:=λi h h' st k=>st.at λo e=>k it (by simp) o e
 item:=by
  intro X hP hw hK hc i pj s σ H E I hf st hg
  subst hP hw hK
  obtain⟨xs,x,hq,hx⟩:=hg
  obtain⟨its,rv,p,hz⟩:=I.tuple hq
  obtain⟨u,hu,ru⟩:=rv.get hx
  obtain⟨f0,f1,f2,f3,f4,f5⟩:=hf it (by simp)
  refine wpAny_pyNext_tuple_item st (show s.heap.IsTuple a its.toArray from p) (x:=u) (by simpa using hu) λh' st' sb=>?_
  have I1:Inv X pj σ H {s with heap:=h'}:=I.turned (t':=s.toks) (λb o hb e=>(sb.2 b hb).trans e) f0 f1 f3 f4 f5
  obtain⟨o,e,c,d⟩:=id st'
  exact⟨u,rfl,Nd (s:={s with heap:=h'}) e c d (by decide) ⟨x,H,I1,ru,⟨rfl,λys hy=>by rw[I.tuple_inj hy hq];exact hx⟩,st',λb hb=>(hf b hb).1⟩⟩
 done:=by
  intro X hP hw hK hc i pj s σ H E I hf st hg
  subst hP hw hK
  obtain⟨xs,hq,hx⟩:=hg
  obtain⟨its,rv,p,hz⟩:=I.tuple hq
  obtain⟨f0,f1,f2,f3,f4,f5⟩:=hf it (by simp)
  have hl:=rv.length
  exact wpAny_pyNext_tuple_end (I.ok.hd hc) st (show s.heap.IsTuple a its.toArray from p) (by simp;ext) λh' eb=>⟨rfl,I.turned (t':=s.toks) (λb o hb e=>eb b o hb e) f0 f1 f3 f4 f5⟩
 self:=λ_ _ _ _ _ st h=>wpAny_pyIter_tupleiter st h
def NJ {P:Program}{w:World}{K:W.Frag}{tg:Expr}(it:Addr)(lo:Int)(n:Nat):Turn P w K tg (Itr lo n) [it] it (λi h=>IsRangeIter h it (lo+(i:Nat)*1) ((n:Int)-(i:Nat)) 1) where
 mem:=by simp
 obj:=λi h st b hb=>by
  have e:b=it:=by simpa using hb
  subst e
  exact⟨_,st,λv z=>by
   have z':Data.fields _=Data.cell v:=z
   cases z'⟩
 keep:=λi h h' st k=>k it (by simp) _ st
 item:=by
  intro X hP hw hK hc i pj s σ H E I hf st hg
  subst hP hw hK
  obtain⟨f0,f1,f2,f3,f4,f5⟩:=hf it (by simp)
  have W:=Walks.range (prog:=X.prog) (w:=X.w) (I.ok.hd hc) it lo 1 n
  refine W.item i s _ _ hg st λv h' tk hv st' kk=>?_
  obtain⟨t,rfl⟩:=hv
  have I1:Inv X pj σ H {s with heap:=h',toks:=tk}:=I.turned (λb o hb e=>kk b o (by simpa using hb) e) f0 f1 f3 f4 f5
  refine⟨_,rfl,Nd (s:={s with heap:=h',toks:=tk}) (n:="range_iterator") st' rfl rfl (by decide) ⟨.int (lo+i),H,I1,⟨t,?_⟩,⟨rfl,rfl⟩,st',λb hb=>(hf b hb).1⟩⟩
  rw[Int.mul_one]
 done:=by
  intro X hP hw hK hc i pj s σ H E I hf st hg
  subst hP hw hK
  obtain⟨f0,f1,f2,f3,f4,f5⟩:=hf it (by simp)
  exact wpAny_pyNext_range_end (I.ok.hd hc) st (by have:n<=i:=hg;ext) λh' eb=>⟨rfl,I.turned (t':=s.toks) (λb o hb e=>eb b o hb e) f0 f1 f3 f4 f5⟩
 self:=λ_ _ _ _ _ st h=>wpAny_pyIter_rangeiter st h
section
variable {X:Cx}{tg:Expr}
def X7 (K:W.Frag)(tl:TE):TI:=fun σ H R=>tl σ H λx H1=>∃a,x=.ref a/\(∃xs,SqL K H1 a xs)/\R (Itl K a) H1
def Aan (K:W.Frag)(tl:TE):TI:=fun σ H R=>tl σ H λx H1=>∃a,x=.ref a/\(∃xs,SqT K H1 a xs)/\R (Itt K a) H1
def OV {l:Expr}{tl:TE}(hl:PE X l tl):PI X tg l (X7 X.K tl):=by
 intro pj s σ H R I h
 refine thn (hl pj s σ H _ I h) λv s1 ⟨x,H1,I1,r1,q1⟩=>?_
 obtain⟨a,e,⟨xs,hq⟩,q⟩:=q1
 subst e
 cases r1
 obtain⟨its,rv,p,hz⟩:=I1.list hq
 refine wpAny_pyIter_list p.isList ?_
 refine⟨s1.heap.objs.size,[s1.heap.objs.size],_,_,H1,rfl,I1.kept (t':=s1.toks) λb o e=>Ad _ e,Qb a _,⟨_,Ak _ rfl,rfl,rfl⟩,λb hb=>?_,q⟩
 have e:b=s1.heap.objs.size:=by simpa using hb
 subst e
 exact I1.fpOk (Ai _) (I1.hok.fresh (Ai _))
def Vk {l:Expr}{tl:TE}(hl:PE X l tl):PI X tg l (Aan X.K tl):=by
 intro pj s σ H R I h
 refine thn (hl pj s σ H _ I h) λv s1 ⟨x,H1,I1,r1,q1⟩=>?_
 obtain⟨a,e,⟨xs,hq⟩,q⟩:=q1
 subst e
 cases r1
 obtain⟨its,rv,p,hz⟩:=I1.tuple hq
 refine B9 (show s1.heap.IsTuple a its.toArray from p) ?_
 refine⟨s1.heap.objs.size,[s1.heap.objs.size],_,_,H1,rfl,I1.kept (t':=s1.toks) λb o e=>Ad _ e,Nk a _,⟨_,Ak _ rfl,rfl,rfl⟩,λb hb=>?_,q⟩
 have e:b=s1.heap.objs.size:=by simpa using hb
 subst e
 exact I1.fpOk (Ai _) (I1.hok.fresh (Ai _))
def Rx {pj:Zab}{σ:St}{H:Hp}{s:Shared}{R:It->Hp->Prop}{E:Value->Zaa}{lo hi:Int}{t u v:Tok}{tk:Nat}(I:Inv X pj σ H s)(h1:-(2 ^ 62)<=lo)(h2:lo<2 ^ 62)(h3:-(2 ^ 62)<=hi)(h4:hi<2 ^ 62)
  (q:R (Itr lo (hi-lo).toNat) H):wpAny (model X.prog X.w) X.A (pyIter (.ref s.heap.objs.size)) (PIE X pj σ tg R) E {s with heap:=s.heap.push {cls:=.type "range",data:=.fields #[.int lo t,.int hi u,.int 1 v]},toks:=tk}:=by
 refine wpAny_pyIter_range (IsRange.new ..) (small_one h1 h2 h3 h4) ?_
 have I1:Inv X pj σ H {s with heap:=s.heap.push {cls:=.type "range",data:=.fields #[.int lo t,.int hi u,.int 1 v]},toks:=tk}:=I.kept λb o e=>Ad _ e
 refine⟨(s.heap.push {cls:=.type "range",data:=.fields #[.int lo t,.int hi u,.int 1 v]}).objs.size,[(s.heap.push {cls:=.type "range",data:=.fields #[.int lo t,.int hi u,.int 1 v]}).objs.size],_,_,H,rfl,
  I1.kept (t':=tk) λb o e=>Ad _ e,NJ _ lo (hi-lo).toNat,?_,λb hb=>?_,q⟩
 ·have e1:lo+((0:Nat):Int)*1=lo:=by simp
  have e2:(((hi-lo).toNat:Nat):Int)-((0:Nat):Int)=Builtin.Range.rangeSize lo hi 1:=by rw[rangeSize_one];split<;>ext
  show IsRangeIter _ _ (lo+((0:Nat):Int)*1) ((((hi-lo).toNat:Nat):Int)-((0:Nat):Int)) 1
  rw[e1,e2]
  exact Ak _ rfl
 ·have e:b=(s.heap.push {cls:=.type "range",data:=.fields #[.int lo t,.int hi u,.int 1 v]}).objs.size:=by simpa using hb
  subst e
  exact I1.fpOk (Ai _) (I1.hok.fresh (Ai _))
def YK (ta:TA):TI:=fun σ H R=>ta σ H λvs H1=>∃j:Int,vs=[.int j]/\-(2 ^ 62)<=j/\j<2 ^ 62/\R (Itr 0 j.toNat) H1
theorem Pb {a:Expr}{ta:TA}{p pos:Pos}(hg:Gl X "range")(hm:X.mg "range"=none)(ha:PA X [a] ta)(hs:starEach [a] X.env=[(false,eval a X.env)]:=by rfl):PI X tg (.Call (.Name "range" p) [a] [] pos) (YK ta):=by
 intro pj s σ H R I h
 refine Call_ (Kq I hg hm boot_range (Cw (thn (ha pos pj s σ H _ I h) λus s1 ⟨vs,H1,I1,r1,q1⟩=>?_) hs rfl))
 obtain⟨j,e,q1,q2,q⟩:=q1
 subst e
 cases r1 with
 |cons r rr =>
  cases rr
  obtain⟨t,rfl⟩:=r
  exact call_range_1 (Rx I1 (by ext) (by ext) q1 q2 (by simpa using q))
def Zy (wi:TI)(g:TG)(tb:TS):TS:=λD σ H=>wi σ H λJ H1=>∃W:Nat->Nat->St->Hp->Prop,(∃m,W 0 m σ H1)/\∀i m σ H,W i m σ H ->
 (J.stop i H/\D.nx σ H)\/(J.go i H/\∃N:St->Hp->Prop,(∀σ' H',N σ' H'->∃m',m'<m/\W (i+1) m' σ' H')/\∀x H',J.yld i H x H'->g x σ H' fun σ2 H2=>tb {D with nx:=N,ct:=N,bk:=D.nx} σ2 H2)
def HM (fp:List Addr)(h:Heap):Zab:=fp.filterMap λb=>(h.get? b).map λo=>(b,o)
def GS {fp:List Addr}{h:Heap}{b:Addr}{o:Obj}(hb:b∈fp)(e:h.get? b=some o):(b,o)∈HM fp h:=List.mem_filterMap.mpr ⟨b,hb,by rw[e];rfl⟩
theorem Lg {fp:List Addr}{h:Heap}{p:Addr×Obj}(hp:p∈HM fp h):p.1∈fp/\h.get? p.1=some p.2:=by
 obtain⟨b,hb,e⟩:=List.mem_filterMap.mp hp
 cases q:h.get? b with
 |none=>rw[q] at e;cases e
 |some o =>
  rw[q] at e
  have e':(b,o)=p:=AH e
  subst e'
  exact⟨hb,q⟩
def Inv.pinned {pj:Zab}{σ:St}{H:Hp}{s:Shared}{fp:List Addr}(I:Inv X pj σ H s)(hf:∀b∈fp,HJ X pj H b)(ho:∀b∈fp,∃o,s.heap.get? b=some o/\∀v,o.data≠.cell v):Inv X (pj++HM fp s.heap) σ H s:=
 I.pins_of λp hp=>(AQ.mp hp).elim (λz=>I.pin p (AJ _ z)) λz=>by
  obtain⟨hb,e⟩:=Lg z
  obtain⟨f0,f1,f2,_⟩:=hf p.1 hb
  obtain⟨o,e',d⟩:=ho p.1 hb
  rw[e] at e';cases e'
  exact⟨e,f0,f1,f2,d⟩
def Inv.unpinned {pj pl:Zab}{σ:St}{H:Hp}{s:Shared}(I:Inv X (pj++pl) σ H s):Inv X pj σ H s:=I.pins_of λp hp=>I.pin p (AJ _ (Bw _ hp))
def Xi {iter:Expr}{body:List Stmt}{wi:TI}{g:TG}{tb:TS}{pos:Pos}(hp:PassesOwn (model X.prog X.w) X.A X.env X.xe)(hc:X.calm=true)(hi:PI X tg iter wi)(hg:PG X tg g)(hb:PSs X body tb)
  (hs:∀x,foldedSetIterable iter X.env x=pure x:=by intro _;rfl):PS X (.For tg iter body [] pos) (Zy wi g tb):=by
 intro pj s σ H D I h
 refine wpAny_For (thn (hi pj s σ H _ I h) λv s1 h1=>thn h1 λitv s2 h2=>?_) hs
 obtain⟨it,fp,tn,J,H2,e,I2,T,st2,f2,W,⟨m0,w0⟩,turn⟩:=h2
 subst e
 have stat:∀{H':Hp},(∀b∈fp,H' b=none)->∀b∈fp,HJ X pj H' b:=λhn b hb=>⟨hn b hb,(f2 b hb).2⟩
 refine codeAny_forLoop_any (λn s'=>∃i σ' H',Inv X pj σ' H' s'/\tn i s'.heap/\(∀b∈fp,H' b=none)/\W i n σ' H') ?_ m0 ⟨0,σ,H2,I2,st2,λb hb=>(f2 b hb).1,w0⟩
 rintro n s3 ⟨i,σ3,H3,I3,st3,fr3,w3⟩
 rcases turn i n σ3 H3 w3 with⟨stop,qn⟩|⟨go,N,hN,step⟩
 ·refine wpAny_passesOwn hp (thn (T.done X rfl rfl rfl hc i pj s3 σ3 H3 X.xe I3 (stat fr3) st3 stop) λr s4 ⟨hr,I4⟩=>?_)
  subst hr
  exact wpAny_execs_nil ⟨σ3,H3,I4,qn⟩
 ·refine wpAny_passesOwn hp (thn (T.item X rfl rfl rfl hc i pj s3 σ3 H3 X.xe I3 (stat fr3) st3 go) λr s4 ⟨u,hr,h4⟩=>?_)
  subst hr
  refine wpAny_passesOwn hp (thn h4 λ_ s5 ⟨x,H5,I5,r5,y5,st5,fr5⟩=>?_)
  have I5':=I5.pinned (stat fr5) (T.obj _ _ st5)
  refine wpAny_passesOwn hp (thn (hg _ s5 σ3 H5 x u _ I5' r5 (step x H5 y5)) λ_ s6 ⟨σ6,H6,I6,q6⟩=>?_)
  refine wpAny_passesOwn hp (thn (hb _ s6 σ6 H6 _ I6 q6) λf s7 q7=>?_)
  have again:∀{σ7:St}{H7:Hp},Inv X (pj++HM fp s5.heap) σ7 H7 s7->N σ7 H7->∃m,m<n/\∃i σ' H',Inv X pj σ' H' s7/\tn i s7.heap/\(∀b∈fp,H' b=none)/\W i m σ' H':=λ{σ7 H7} I7 n7=>by
   obtain⟨m',hm,w7⟩:=hN σ7 H7 n7
   refine⟨m',hm,i+1,σ7,H7,I7.unpinned,T.keep _ _ _ st5 λb hb o e=>(I7.pin (b,o) (AJ _ (AJ _ (GS hb e)))).1,λb hb=>?_,w7⟩
   obtain⟨o,e,d⟩:=T.obj _ _ st5 b hb
   exact(I7.pin (b,o) (AJ _ (AJ _ (GS hb e)))).2.1
  cases f with
  |next=>obtain⟨σ7,H7,I7,n7⟩:=q7;exact again I7 n7
  |cont=>obtain⟨σ7,H7,I7,n7⟩:=q7;exact again I7 n7
  |brk=>obtain⟨σ7,H7,I7,q7⟩:=q7;exact⟨σ7,H7,I7.unpinned,q7⟩
  |ret v=>obtain⟨x7,σ7,H7,I7,r7,q7⟩:=q7;exact⟨x7,σ7,H7,I7.unpinned,r7,q7⟩
end
abbrev R2:=V->V->Hp->VK->Prop
def OpR (X:Cx)(f:Value->Value->Sem Value)(r:R2):Prop:=
 ∀(pj:Zab) (s:Shared) (σ:St) (H:Hp) (x y:V) (v u:Value) (Q:VK),Inv X pj σ H s->RelV x v->RelV y u->r x y H Q ->
  wpAny (model X.prog X.w) X.A (f v u) (EP X pj σ Q) X.xe s
def HC (X:Cx)(f:Value)(r:List V->Hp->VK->Prop):Prop:=
 ∀(pj:Zab) (s:Shared) (σ:St) (H:Hp) (xs:List V) (us:List Value) (Q:VK),Inv X pj σ H s->Vals xs us->r xs H Q ->
  wpAny (model X.prog X.w) X.A (call f us) (EP X pj σ Q) X.xe s
def tOp (r:R2)(ta tb:TE):TE:=fun σ H Q=>ta σ H λx H1=>tb σ H1 λy H2=>r x y H2 Q
def rI (C:Int->Int->Prop)(g:Int->Int->V):R2:=λx y H Q=>∃i j,x=.int i/\y=.int j/\C i j/\Q (g i j) H
def rI0 (g:Int->Int->V):R2:=λx y H Q=>∃i j,x=.int i/\y=.int j/\Q (g i j) H
section
variable {X:Cx}{a b c:Expr}{ta tb tc:TE}{pos:Pos}
def VF (ha:PE X a ta)(hb:PE X b tb){pj:Zab}{s:Shared}{σ:St}{H:Hp}{R:V->V->Hp->Prop}(I:Inv X pj σ H s)
  (h:ta σ H λx H1=>tb σ H1 λy H2=>R x y H2){Q:Value->Zaa}{f:Value->Value->Sem Value}
  (hf:∀v u s2 x y H2,Inv X pj σ H2 s2->RelV x v->RelV y u->R x y H2->wpAny (model X.prog X.w) X.A (f v u) Q X.xe s2) :
  wpAny (model X.prog X.w) X.A (eval a X.env) (λv s₁=>wpAny (model X.prog X.w) X.A (eval b X.env) (λu s₂=>wpAny (model X.prog X.w) X.A (f v u) Q X.xe s₂) X.xe s₁) X.xe s:=by
 refine thn (ha pj s σ H _ I h) λv s1 ⟨x,H1,I1,r1,q1⟩=>?_
 refine thn (hb pj s1 σ H1 _ I1 q1) λu s2 ⟨y,H2,I2,r2,q2⟩=>?_
 exact hf v u s2 x y H2 I2 r1 r2 q2
def XZ {op:Operator}{r:R2}(ho:OpR X (binaryOp op) r)(ha:PE X a ta)(hb:PE X b tb):PE X (.BinOp a op b pos) (tOp r ta tb):=by
 intro pj s σ H Q I h
 exact wpAny_BinOp (VF ha hb I h λv u s2 x y H2 I2 rx ry q=>ho pj s2 σ H2 x y v u Q I2 rx ry q)
def opI {f:Value->Value->Sem Value}{C:Int->Int->Prop}{g:Int->Int->Int}
  (rule:∀(i j:Int) (t u:Tok) (s:Shared) (Q:Value->Zaa) (E:Value->Zaa),C i j->Q (.int (g i j) s.toks) {s with toks:=s.toks+1}->wpAny (model X.prog X.w) X.A (f (.int i t) (.int j u)) Q E s) :
  OpR X f (rI C λi j=>.int (g i j)):=by
 intro pj s σ H x y v u Q I rx ry h
 obtain⟨i,j,rfl,rfl,hc,q⟩:=h
 obtain⟨t,rfl⟩:=rx
 obtain⟨t',rfl⟩:=ry
 exact rule i j t t' s _ _ hc ⟨.int (g i j),H,I.tok _,⟨_,rfl⟩,q⟩
def YY {f:Value->Value->Sem Value}{g:Int->Int->Int}
  (rule:∀(i j:Int) (t u:Tok) (s:Shared) (Q:Value->Zaa) (E:Value->Zaa),Q (.int (g i j) s.toks) {s with toks:=s.toks+1}->wpAny (model X.prog X.w) X.A (f (.int i t) (.int j u)) Q E s) :
  OpR X f (rI0 λi j=>.int (g i j)):=by
 intro pj s σ H x y v u Q I rx ry h
 obtain⟨i,j,rfl,rfl,q⟩:=h
 obtain⟨t,rfl⟩:=rx
 obtain⟨t',rfl⟩:=ry
 exact rule i j t t' s _ _ ⟨.int (g i j),H,I.tok _,⟨_,rfl⟩,q⟩
def Yv {f:Value->Value->Sem Value}{g:Int->Int->Bool}
  (rule:∀(i j:Int) (t u:Tok) (s:Shared) (Q:Value->Zaa) (E:Value->Zaa),Q (.bool (g i j)) s->wpAny (model X.prog X.w) X.A (f (.int i t) (.int j u)) Q E s) :
  OpR X f (rI0 λi j=>.bl (g i j)):=by
 intro pj s σ H x y v u Q I rx ry h
 obtain⟨i,j,rfl,rfl,q⟩:=h
 obtain⟨t,rfl⟩:=rx
 obtain⟨t',rfl⟩:=ry
 exact rule i j t t' s _ _ ⟨.bl (g i j),H,I,rfl,q⟩
def L7 (i j:Int):Prop:=0<j/\j<1073741824
def O9 (i j:Int):Prop:=0<=j/\j<=1000000/\i.natAbs<2 ^ 64
def CMul (i j:Int):Prop:=(-(2 ^ 64)<i/\i<2 ^ 64)\/(-(2 ^ 64)<j/\j<2 ^ 64)
def CMul.ok {i j:Int}(h:CMul i j):IntMulOk i j:=by
 rcases h with⟨h1,h2⟩|⟨h1,h2⟩
 ·exact .of_left (intBits_le_64 h1 h2)
 ·exact .of_right (intBits_le_64 h1 h2)
def VB:OpR X (binaryOp .Add) (rI0 λi j=>.int (i+j)):=YY λ_ _ _ _ _ _ _ q=>add_int q
def WJ:OpR X (binaryOp .Sub) (rI0 λi j=>.int (i-j)):=YY λ_ _ _ _ _ _ _ q=>sub_int q
def WV:OpR X (binaryOp .Mult) (rI CMul λi j=>.int (i*j)):=opI λ_ _ _ _ _ _ _ hc q=>mul_int q hc.ok
def Tn:OpR X (binaryOp .FloorDiv) (rI L7 λi j=>.int (i / j)):=opI λi j _ _ _ _ _ hc q=>by
 have h1:(0:Int)<j:=hc.1
 have h2:j<1073741824:=hc.2
 exact floordiv_int (by ext) (by rw[Int.fdiv_eq_ediv_of_nonneg i (by ext)];exact q) (.inl (PyProof.noPylong_small (by ext)))
def VR:OpR X (binaryOp .Mod) (rI (λ_ j=>0<j) λi j=>.int (i % j)):=opI λi j _ _ _ _ _ hc q=>by
 have h1:(0:Int)<j:=hc
 exact mod_int' (by ext) (by rw[Int.fmod_eq_emod_of_nonneg i (by ext)];exact q)
def VJ:OpR X (binaryOp .Pow) (rI O9 λi j=>.int (i ^ j.toNat)):=opI λ_ _ _ _ _ _ _ hc q=>pow_int_small hc.1 hc.2.1 hc.2.2 q
def QG {pj:Zab}{σ:St}{H:Hp}{s:Shared}{Q:VK}{k k':Bool}(I:Inv X pj σ H s)(q:Q (.bl k) H)(e:k=k'):EP X pj σ Q (.bool k') s:=by
 subst e
 exact⟨.bl k,H,I,rfl,q⟩
def X6:OpR X (compareOp .Gt) (rI0 λi j=>.bl (decide (j<i))):=Yv λ_ _ _ _ _ _ _ q=>gt_int q
def Ze:OpR X (compareOp .GtE) (rI0 λi j=>.bl (decide (j<=i))):=Yv λ_ _ _ _ _ _ _ q=>ge_int q
def TZ:OpR X (compareOp .IsNot) (λx y H Q=>y=.non/\Q (.bl (!decide (x=.non))) H):=by
 intro pj s σ H x y v u Q I rx ry h
 obtain⟨rfl,q⟩:=h
 cases ry
 refine isnot_none_gen (QG I q ?_)
 cases x<;>first
  |(cases rx;rfl)
  |(obtain⟨t,rfl⟩:=rx;rfl)
def Rj (b:Expr){op:CmpOp}(h:op≠.In:=by decide)(h2:op≠.NotIn:=by decide):behindInMarks op b=false:=by
 have e1:(op==CmpOp.In)=false:=by cases op<;>first|rfl|exact absurd rfl h
 have e2:(op==CmpOp.NotIn)=false:=by cases op<;>first|rfl|exact absurd rfl h2
 cases b<;>simp[behindInMarks,e1,e2]
def Uv {op:CmpOp}{r:R2}(ho:OpR X (compareOp op) r)(ha:PE X a ta)(hb:PE X b tb)(hm:behindInMarks op b=false):PE X (.Compare a [op] [b] pos) (tOp r ta tb):=by
 intro pj s σ H Q I h
 exact wpAny_Compare1 (VF ha hb I h λv u s2 x y H2 I2 rx ry q=>ho pj s2 σ H2 x y v u Q I2 rx ry q) hm
def Va (t:TE):TT:=fun σ H Q=>t σ H λx H'=>∃k,x=.bl k/\Q k H'
def UA {op:CmpOp}{r:R2}(ho:OpR X (compareOp op) r)(ha:PE X a ta)(hb:PE X b tb)(hm:behindInMarks op b=false):PT X (.Compare a [op] [b] pos) (Va (tOp r ta tb)):=by
 intro pj s σ H Q I h
 refine wpAny_isTrue_Compare1 (thn (ha pj s σ H _ I h) λv s1 ⟨x,H1,I1,r1,q1⟩=>thn (hb pj s1 σ H1 _ I1 q1) λu s2 ⟨y,H2,I2,r2,q2⟩ =>
  thn (ho pj s2 σ H2 x y v u _ I2 r1 r2 q2) λc s3 ⟨z,H3,I3,r3,k,e,q3⟩=>?_) hm
 subst e
 cases r3
 exact wpAny_truthy_bool ⟨H3,I3,q3⟩
def IA:(sizeLine:Nat)<2 ^ 63:=by rw[AO];decide
def Nr:OpR X (binaryOp .Add) (λx y H Q=>∃i j,x=.str i/\y=.str j/\i.length+j.length<=sizeLine/\Q (.str (i++j)) H):=by
 intro pj s σ H x y v u Q I rx ry h
 obtain⟨i,j,rfl,rfl,hz,q⟩:=h
 obtain⟨t,rfl⟩:=rx
 obtain⟨t',rfl⟩:=ry
 exact add_str (λt' tk=>⟨.str (i++j),H,I.tok _,⟨_,rfl⟩,q⟩) hz
theorem vals1 {x:V}{us:List Value}(r:Vals [x] us):∃u,us=[u]/\RelV x u:=by
 cases r with
 |cons r1 r2=>cases r2;exact⟨_,rfl,r1⟩
theorem vals2 {x y:V}{us:List Value}(r:Vals [x,y] us):∃u w',us=[u,w']/\RelV x u/\RelV y w':=by
 cases r with
 |cons r1 r2 =>
  cases r2 with
  |cons r3 r4=>cases r4;exact⟨_,_,rfl,r1,r3⟩
def PJ (hc:X.calm=true):HC X (.builtin "max") (λxs H Q=>∃i j,xs=[.int i,.int j]/\Q (.int (if j > i then j else i)) H):=by
 intro pj s σ H xs us Q I r h
 obtain⟨i,j,rfl,q⟩:=h
 obtain⟨u,w',rfl,⟨t,rfl⟩,⟨t',rfl⟩⟩:=vals2 r
 refine max_two_ints (I.ok.hd hc) λh' tk k=>⟨_,H,I.kept k,?_,q⟩
 by_cases hj:j > i
 ·rw[if_pos hj,if_pos hj];exact⟨_,rfl⟩
 ·rw[if_neg hj,if_neg hj];exact⟨_,rfl⟩
def Pf (hc:X.calm=true):HC X (.builtin "min") (λxs H Q=>∃i j,xs=[.int i,.int j]/\Q (.int (if j<i then j else i)) H):=by
 intro pj s σ H xs us Q I r h
 obtain⟨i,j,rfl,q⟩:=h
 obtain⟨u,w',rfl,⟨t,rfl⟩,⟨t',rfl⟩⟩:=vals2 r
 refine min_two_ints (I.ok.hd hc) λh' tk k=>⟨_,H,I.kept k,?_,q⟩
 by_cases hj:j<i
 ·rw[if_pos hj,if_pos hj];exact⟨_,rfl⟩
 ·rw[if_neg hj,if_neg hj];exact⟨_,rfl⟩
def Lp:HC X (.type "int") (λxs H Q=>(∃i,xs=[.int i]/\Q (.int i) H)\/∃k,xs=[.bl k]/\Q (.int (if k then 1 else 0)) H):=by
 intro pj s σ H xs us Q I r h
 rcases h with⟨i,rfl,q⟩|⟨k,rfl,q⟩
 ·obtain⟨u,rfl,t,rfl⟩:=vals1 r
  exact call_int_int ⟨.int i,H,I,⟨_,rfl⟩,q⟩
 ·obtain⟨u,rfl,r1⟩:=vals1 r
  cases r1
  exact call_int_bool ⟨.int (if k then 1 else 0),H,I.tok _,⟨_,rfl⟩,q⟩
end
structure Room (k:Nat) (A:Around):Prop where
 hd:A.handled=none
 dp:A.depth+3*k+5<recursionLimit
 un:A.units+16*k+200<cLine
 gd:A.guards=some []
def Room.mono {j k:Nat}{A:Around}(r:Room k A)(h:j<=k):Room j A:=⟨r.hd,by have:=r.dp;ext,by have:=r.un;ext,r.gd⟩
theorem Room.deeper {k:Nat}{A:Around}(r:Room (k+1) A)(env:Env):Room k (A.deeper env):=
 ⟨r.hd,by have:=r.dp;show A.depth+1+3*k+5<_;ext,by have:=r.un;show A.units+3+16*k+200<_;ext,r.gd⟩
theorem Room.depth {k:Nat}{A:Around}(r:Room k A):A.depth<recursionLimit:=by have:=r.dp;ext
theorem Room.units {k:Nat}{A:Around}(r:Room k A):A.units+64<cLine:=by have:=r.un;ext
def Zu:TA:=λ_ H Q=>Q [] H
def X0 (ta:TE)(tr:TA):TA:=fun σ H Q=>ta σ H λx H1=>tr σ H1 λxs H2=>Q (x::xs) H2
section
variable {X:Cx}{e:Expr}{es:List Expr}{te:TE}{t:TA}{pos:Pos}
def QT:PA X [] Zu:=λ_ _ _ _ H Q I h=>Calls.spliced_nil ⟨[],H,I,.nil,h⟩
def OY (ha:PE X e te)(hr:PA X es t)(hs:starEach (e::es) X.env=(false,eval e X.env)::starEach es X.env:=by rfl):PA X (e::es) (X0 te t):=by
 intro pos pj s σ H Q I h
 rw[hs]
 show wpAny _ _ (spliced ((false,eval e X.env)::backTo pos (starEach es X.env))) _ _ s
 refine Calls.spliced_cons (thn (ha pj s σ H _ I h) λu s1 ⟨x,H1,I1,r1,q1⟩=>?_)
 exact thn (hr pos pj s1 σ H1 _ I1 q1) λus s2 ⟨xs,H2,I2,r2,q2⟩=>⟨x::xs,H2,I2,.cons r1 r2,q2⟩
def Aab (t:TA):TE:=fun σ H Q=>t σ H λxs H1=>xs.length<=sizeLine/\∀p,H1 p=none->Q (.ref p) (upd H1 p (.tup xs))
def ZD (t:TA):TE:=fun σ H Q=>t σ H λxs H1=>xs.length<=sizeLine/\∀p,H1 p=none->Q (.ref p) (upd H1 p (.lst xs))
def V5 {x1}(h:PA X es t):PE X (.Tuple es x1 pos) (Aab t):=by
 intro pj s σ H Q I hq
 refine wpAny_Tuple_spliced (thn (h pos pj s σ H _ I hq) λus s1 ⟨xs,H1,I1,r,z,q⟩=>⟨by rw[<- r.length];exact z,?_⟩)
 have hf:H1 s1.heap.objs.size=none:=I1.hok.fresh (Ai _)
 refine⟨.ref s1.heap.objs.size,upd H1 s1.heap.objs.size (.tup xs),I1.laid (t':=s1.toks) (λb u e=>Ad _ e) (Ai _) ?_,rfl,q _ hf⟩
 exact⟨⟨z,⟨_,Ak _ rfl,rfl⟩⟩,us,r,⟨_,Ak _ rfl,rfl,_,rfl⟩⟩
def RW (h:PA X es t):PE X (.List es pos) (ZD t):=by
 intro pj s σ H Q I hq
 refine wpAny_List_spliced (thn (h pos pj s σ H _ I hq) λus s1 ⟨xs,H1,I1,r,z,q⟩=>⟨by rw[<- r.length];exact z,?_⟩)
 have hf:H1 s1.heap.objs.size=none:=I1.hok.fresh (Ai _)
 refine⟨.ref s1.heap.objs.size,upd H1 s1.heap.objs.size (.lst xs),I1.laid (t':=s1.toks) (λb u e=>Ad _ e) (Ai _) ?_,rfl,q _ hf⟩
 exact⟨z,us,0,r,Ak _ rfl⟩
end
abbrev Sp:=List V->Hp->VK->XK->Prop
abbrev CXT:=List Env->Hp->Shared->XK->Value->Zaa
structure Uw (P:Program) (w:World) (K:W.Frag) (mg:Str->Option Value) (base:Heap) (A:Around) (outer:List Env) (s:Shared) (H:Hp):Prop where
 frames:A.frames=some outer
 mod:Mod K mg base
 bs:∀b o,base.get? b=some o->s.heap.get? b=some o/\H b=none
 bsz:base.objs.size<=s.heap.objs.size
 funs:s.heap.FunFrames base outer
 frf:∀b∈frs outer,H b=none
 hok:HOk P w H s.heap
 bare:AllBare s.gens
def CE (outer:List Env)(P:Program)(w:World)(H:Hp)(s:Shared)(Q:VK)(u:Value)(s':Shared):Prop:=
 ∃v H',s'.os=s.os/\AllBare s'.gens/\Un (frs outer) [] H H' s.heap s'.heap/\HOk P w H' s'.heap/\RelV v u/\Q v H'
def CR (CX:CXT)(outer:List Env)(P:Program)(w:World)(H:Hp)(s:Shared)(Q:VK)(E:XK)(r:Result)(s':Shared):Prop:=
 match r with
 |.ok (.ret u)=>CE outer P w H s Q u s'
 |.ok _=>False
 |.error e=>CX outer H s E e s'
structure E7 (P:Program) (w:World) (K:W.Frag) (mg:Str->Option Value) (base:Heap) (CX:CXT) (k:Nat) (f:Addr) (fd:FuncData) (ps:List Str) (sp:Sp):Prop where
 len:∀vs H Q E,sp vs H Q E->vs.length=ps.length
 run:∀(A:Around) (outer:List Env) (s:Shared) (H:Hp) (args:Args) (us:List Value) (vs:List V) (Q:VK) (E:XK),Room k A->Uw P w K mg base A outer s H->BindsTo s fd args (ps.zip us)->Vals vs us->sp vs H Q E ->
  codeAny (model P w) A (.call (.ref f) args) (CR CX outer P w H s Q E) s
section
variable {X:Cx}{pj:Zab} {σ:St}{H:Hp}{s s':Shared}
def Inv.env0 (I:Inv X pj σ H s):Uw X.prog X.w X.K X.mg X.base X.A X.stack s H:=
 ⟨I.ok.frames,I.ok.mod,I.bs,AU I.ok.bsz I.sz,I.stack,I.stkFree,I.hok,I.bare⟩
def Inv.after {Q:VK}{u:Value}(I:Inv X pj σ H s)(h:CE X.stack X.prog X.w H s Q u s'):EP X pj σ Q u s':=by
 obtain⟨v,H',os,bare,un,hok,r,q⟩:=h
 obtain⟨hh,g,d,t,os'⟩:=s'
 obtain rfl:os'=s.os:=os
 exact⟨v,H',I.call (h':=hh) (g':=g) (d':=d) (t':=t) (ch:=[]) un hok bare (λb z=>absurd z (by simp)),r,q⟩
end
def Zi (sp:Sp)(dvs:List V)(E:XK)(t:TA):TE:=fun σ H Q=>t σ H λvs H1=>sp (vs++dvs) H1 Q E
def Binds (K:W.Frag)(fd:FuncData)(ps:List Str)(ds:List Value):Prop:=
 ∀(s:Shared) (us:List Value),K.In s.heap->(us++ds).length=ps.length->BindsTo s fd ⟨us,[]⟩ (ps.zip (us++ds))
def Binds.all {K:W.Frag}{fd:FuncData}{ps:List Str}(h:∀us:List Value,us.length=ps.length->bindArgs fd ⟨us,[]⟩=pure (ps.zip us)):Binds K fd ps []:=λs us _ hl=>by
 rw[List.append_nil] at hl ⊢
 exact .of_eq (h us hl)
def Passes (CX:CXT)(X:Cx)(E:XK):Prop:=∀(pj:Zab) (σ:St) (H:Hp) (s:Shared) (e:Value) (s':Shared),Inv X pj σ H s->CX X.stack H s E e s'->X.xe e s'
section
variable {X:Cx}{CX:CXT}{k:Nat}{f C:Addr}{fd:FuncData}{ps:List Str}{sp:Sp}{dvs:List V}{ds:List Value}{E:XK}{x m:Str}{p pos apos:Pos}{e o:Expr}{es:List Expr}{ta:TE}{t:TA}
theorem Wi {pj:Zab}{σ:St}{H:Hp}{s:Shared}{Q:VK}{us:List Value}{vs:List V}(F:E7 X.prog X.w X.K X.mg X.base CX k f fd ps sp)(hr:Room k X.A)(hb:Binds X.K fd ps ds)(hd:Vals dvs ds)(hx:Passes CX X E)
  (I:Inv X pj σ H s) (r:Vals vs us) (h:sp (vs++dvs) H Q E):wpAny (model X.prog X.w) X.A (call (.ref f) us) (EP X pj σ Q) X.xe s:=by
 have r2:Vals (vs++dvs) (us++ds):=r.append hd
 have hl:(us++ds).length=ps.length:=by rw[<- r2.length];exact F.len _ _ _ _ h
 refine wpAny_call (codeAny_mono (F.run X.A X.stack s H ⟨us,[]⟩ (us++ds) (vs++dvs) Q E hr I.env0 (hb s us I.kIn hl) r2 h) λr s' hq=>?_)
 cases r with
 |error e=>exact hx pj σ H s e s' I hq
 |ok fl =>
  cases fl with
  |ret u=>exact I.after hq
  |next=>exact False.elim hq
  |brk=>exact False.elim hq
  |cont=>exact False.elim hq
def Td (F:E7 X.prog X.w X.K X.mg X.base CX k f fd ps sp)(hr:Room k X.A)(hg:Gl X x)(hm:X.mg x=some (.ref f))(hk:W.keepIn X.K (.ref f)=true)(hb:Binds X.K fd ps ds)(hd:Vals dvs ds)(hx:Passes CX X E)
  (ha:PA X (e::es) t) (hdb:(x==("__debug__":Str))=false:=by decide) (he:starEach (e::es) X.env=(false,eval e X.env)::starEach es X.env:=by rfl) (hpl:(backTo pos (starEach es X.env)).any (·.1)=false:=by rfl) :
  PE X (.Call (.Name x p) (e::es) [] pos) (Zi sp dvs E t):=by
 intro pj s σ H Q I h
 refine wpAny_Call_Name_kw (T6 I hg hm ?_ hdb)
 refine W.callWith_K (h₀:=X.base) I.ok.mod.kin hk (thn (ha pos pj s σ H _ I h) λus s1 ⟨vs,H1,I1,r,q⟩=>⟨I1.kIn,?_⟩) he hpl
 exact Wi F hr hb hd hx I1 r q
end
structure DG (N P:List Str) (sc:Scope):Prop where
 kind:sc.kind=.function
 co:sc.isCoroutine=false
 gen:sc.isGenerator=false
 nd:N.Nodup
 pre:N.take P.length=P
 par:∀x∈P,sc.names.lookup x=some .local ∨sc.names.lookup x=some .cell
 nofree:∀y∈sc.names,y.2≠.free
theorem KS {kindOf:Str->Option NameKind}{x:Str}:∀{binds:List (Str×Value)}{m:Str->Option Value},(∀v,(x,v)∉binds)->bindL kindOf binds m x=m x
 |[],_,_=>rfl
 |(n,v)::r,m,h=>by
  unfold bindL
  rw[KS λw hw=>h w (BR _ hw)]
  split
  ·have:x≠n:=by rintro rfl;exact h v List.mem_cons_self
   simp[this]
  ·rfl
theorem KU {kindOf:Str->Option NameKind}{x:Str}:∀{binds:List (Str×Value)}{m:Str->Option Value},(∀v,(x,v)∉binds)->bindC kindOf binds m x=m x
 |[],_,_=>rfl
 |(n,v)::r,m,h=>by
  unfold bindC
  rw[KU λw hw=>h w (BR _ hw)]
  split
  ·rfl
  ·have:x≠n:=by rintro rfl;exact h v List.mem_cons_self
   simp[this]
theorem Lb {kindOf:Str->Option NameKind}{x:Str}{v:Value}:∀{P:List Str}{vs:List Value}{i:Nat}{m:Str->Option Value},P.Nodup->P[i]?=some x->vs[i]?=some v->kindOf x=some .local ->
  bindL kindOf (P.zip vs) m x=some v
 |[],_,_,_,_,h,_,_=>by simp at h
 |_::_,[],_,_,_,_,h,_=>by simp at h
 |p::P,w::vs,0,m,nd,h1,h2,hk=>by
  simp at h1 h2;subst h1;subst h2
  show bindL kindOf ((p,w)::P.zip vs) m p=_
  unfold bindL
  rw[KS λv hv=>(Br.mp nd).1 (List.of_mem_zip hv).1,if_pos hk]
  simp
 |p::P,w::vs,i+1,m,nd,h1,h2,hk=>by
  show bindL kindOf ((p,w)::P.zip vs) m x=_
  unfold bindL
  exact Lb (i:=i) (Br.mp nd).2 (by simpa using h1) (by simpa using h2) hk
theorem K6 {kindOf:Str->Option NameKind}{x:Str}{v:Value}:∀{P:List Str}{vs:List Value}{i:Nat}{m:Str->Option Value},P.Nodup->P[i]?=some x->vs[i]?=some v->kindOf x≠some .local ->
  bindC kindOf (P.zip vs) m x=some v
 |[],_,_,_,_,h,_,_=>by simp at h
 |_::_,[],_,_,_,_,h,_=>by simp at h
 |p::P,w::vs,0,m,nd,h1,h2,hk=>by
  simp at h1 h2;subst h1;subst h2
  show bindC kindOf ((p,w)::P.zip vs) m p=_
  unfold bindC
  rw[KU λv hv=>(Br.mp nd).1 (List.of_mem_zip hv).1,if_neg hk]
  simp
 |p::P,w::vs,i+1,m,nd,h1,h2,hk=>by
  show bindC kindOf ((p,w)::P.zip vs) m x=_
  unfold bindC
  exact K6 (i:=i) (Br.mp nd).2 (by simpa using h1) (by simpa using h2) hk
def start (N:List Str)(vs:List V):St:=vs.map some++List.replicate (N.length-vs.length) none
def KJ (CX:CXT)(P:Program)(w:World)(K:W.Frag)(mg:Str->Option Value)(base:Heap)(N:List Str)(qual:Str)(scope:Scope)(f:Addr)(cd:Value)(A:Around)(outer:List Env)(s:Shared)(H:Hp)(E:XK):Cx where
 prog:=P
 w:=w
 K:=K
 mg:=mg
 base:=base
 A:=A.deeper (envOfC qual scope s.heap.objs.size f cd)
 N:=N
 s₀:=s
 H₀:=H
 env:=envOfC qual scope s.heap.objs.size f cd
 outer:=outer
 stack:=envOfC qual scope s.heap.objs.size f cd::outer
 ex:=[]
 calm:=true
 fn:=λ_=>true
 pn:=[]
 xe:=λe s'=>wpAny (model P w) (A.deeper (envOfC qual scope s.heap.objs.size f cd)) (leaving (envOfC qual scope s.heap.objs.size f cd) e) (λ_ s''=>CX outer H s E e s'') (λe' s''=>CX outer H s E e' s'') s'
def MH {sc:Scope}{n:Nat}{x:Str}(h:sc.names.lookup x=some .cell):∃c,(cellsFrom n sc.names []).lookup x=some c:=by
 have q:=W.cellsFrom_some sc.names n [] (.inl h)
 exact Ce.mp q
def Pg {CX:CXT}{P:Program}{w:World}{K:W.Frag}{mg:Str->Option Value}{base:Heap}{N ps:List Str}{qual:Str}{scope:Scope}{f:Addr}{cd:Value}{A:Around}{outer:List Env}{s s1:Shared}{H:Hp}{E:XK}{us:List Value}{vs:List V}
  (S:DG N ps scope) (hd:A.handled=none) (e0:Uw P w K mg base A outer s H) (hl:vs.length=ps.length) (r:Vals vs us)
  (x:InCallC s s.heap.objs.size (bindL (envOfC qual scope s.heap.objs.size f cd).kindOf (ps.zip us) λ_=>none) (cellsFrom (s.heap.objs.size+1) scope.names []) (bindC (envOfC qual scope s.heap.objs.size f cd).kindOf (ps.zip us) λ_=>none) s1) :
  Inv (KJ CX P w K mg base N qual scope f cd A outer s H E) [] (start N vs) H s1:=by
 have hpl:ps.length<=N.length:=by have:=congrArg List.length S.pre;rw[AA] at this;ext
 obtain⟨h1,tk,rfl,hk⟩:=x.done
 have noA:∀b:Addr,b∉(KJ CX P w K mg base N qual scope f cd A outer s H E).ex:=λb z=>absurd (show b∈([]:List Addr) from z) (by simp)
 refine⟨⟨e0.mod,S.kind,rfl,rfl,Ai _,λy z c h1 h2=>?_,λy hy=>?_,λy c _ h=>?_,λ_=>hd,Around.frames_deeper e0.frames,.inr ⟨rfl,rfl⟩,λb z=>absurd z (noA b),e0.bs,e0.bsz,λb _ _=>noA b,λb z=>absurd z (noA b),e0.funs,e0.frf⟩,
  rfl,e0.bare,Un.kept hk,⟨_,x.toInCall.ns,λi y v h1 h2 h3=>?_⟩,λy c h=>⟨_,x.cell y c h⟩,e0.hok.fresh (Ai _),λy c h=>?_,λp hp=>absurd (show p∈([]:Zab) from hp) (by simp),e0.hok.kept hk,?_⟩
 ·exact name_of_addr x.apart (Ct h1) (Ct h2)
 ·have hy:scope.names.lookup y=some .cell\/scope.names.lookup y=some .free:=hy
  rcases hy with hy|hy
  ·exact MH hy
  ·exact absurd rfl (S.nofree _ (Ct hy))
 ·exact Nat.le_of_lt (x.above y c (Ct h))
 ·have hi:i<vs.length:=by
   unfold start at h2
   by_cases hi:i<vs.length
   ·exact hi
   ·rw[AY (by simpa using hi)] at h2
    rw[Cn] at h2
    split at h2<;>cases h2
  have ha:vs[i]?=some v:=by
   unfold start at h2
   rw[As (by simpa using hi),Am] at h2
   cases e:vs[i]? with
   |none=>rw[e] at h2;cases h2
   |some a=>rw[e] at h2;cases h2;rfl
  obtain⟨u,hu,rv⟩:=r.get ha
  have hp:ps[i]?=some y:=by
   rw[<- S.pre,A9 (by ext)];exact h1
  have ndP:ps.Nodup:=by rw[<- S.pre];exact S.nd.sublist (List.take_sublist _ _)
  refine⟨u,rv,?_⟩
  rcases S.par y (Ag hp) with k|k
  ·exact .inl ⟨k,Lb ndP hp hu k⟩
  ·obtain⟨c,e⟩:=MH (n:=s.heap.objs.size+1) k
   refine .inr ⟨.inl k,c,e,?_⟩
   have q:=x.cell y c e
   rw[K6 ndP hp hu (by show scope.names.lookup y≠_;rw[k];decide)] at q
   exact q
 ·exact e0.hok.fresh (Nat.le_of_lt (x.above y c (Ct h)))
 ·unfold start
  show _=N.length
  rw[Ar,Af,List.length_replicate]
  ext
theorem Yw {CX:CXT}{P:Program}{w:World}{K:W.Frag}{mg:Str->Option Value}{base:Heap}{k:Nat}{f:Addr}{name qual:Str}{params:Arguments}{body:List Stmt}{scope:Scope}{dV kV doc pm cdv ct oc:Value}{an od:Option Addr}
  {osl:Array (Option Value)}{N ps:List Str}{sp:Sp} (lk:K.lookup f=some ⟨oc,od,.func (W.fnOf name qual params body scope dV kV doc pm an cdv ct),osl⟩) (hcd:W.codeIn K cdv qual=true) (S:DG N ps scope)
  (len:∀vs H Q E,sp vs H Q E->vs.length=ps.length)
  (hbody:∀(A:Around) (outer:List Env) (s:Shared) (H:Hp) (vs:List V) (Q:VK) (E:XK),Room k (A.deeper (envOfC qual scope s.heap.objs.size f cdv))->sp vs H Q E ->
   ∃t,PSs (KJ CX P w K mg base N qual scope f cdv A outer s H E) body t/\t {nx:=λ_ H'=>Q .non H',rt:=Q} (start N vs) H) :
  E7 P w K mg base CX (k+1) f (W.fnOf name qual params body scope dV kV doc pm an cdv ct) ps sp:=by
 refine⟨len,λA outer s H args us vs Q E hr e0 hb r hsp=>?_⟩
 have hl:=len _ _ _ _ hsp
 have KX:K.In s.heap:=e0.mod.kin.keeps λb o e=>(e0.bs b o e).1
 have lim:s.heap.NoLimit:=e0.mod.nolimit.keeps λb o e=>(e0.bs b o e).1
 have hkind:∀y∈ps.zip us,scope.names.lookup y.1=some .local ∨(scope.names.lookup y.1=some .cell/\((cellsFrom (s.heap.objs.size+1) scope.names []).lookup y.1).isSome=true):=λ⟨n,v⟩ hy=>by
  rcases S.par n (List.of_mem_zip hy).1 with q|q
  ·exact .inl q
  ·exact .inr ⟨q,W.cellsFrom_some _ _ _ (.inl q)⟩
 refine codeAny_call_function hr.depth (KX _ _ lk) rfl S.co S.gen rfl (W.codeRec_of KX hcd) (hb _ _ _ _ ?_)
 refine wpAny_newFunctionEnv_cells S.kind hkind λenv he s1 x=>?_
 subst he
 refine⟨lim.keeps x.toInCall.keep,codeAny_func ?_⟩
 obtain⟨t,ht,hq⟩:=hbody A outer s H vs Q E (hr.deeper _) hsp
 have I:Inv (KJ CX P w K mg base N qual scope f cdv A outer s H E) [] (start N vs) H s1:=Pg S hr.hd e0 hl r x
 refine wpAny_mono (ht [] s1 (start N vs) H _ I hq) (λfl s' hs=>?_) λe s' hs=>hs
 have fin:∀{σ':St}{H':Hp}{v:V}{u:Value},Inv (KJ CX P w K mg base N qual scope f cdv A outer s H E) [] σ' H' s'->RelV v u->Q v H'->CE outer P w H s Q u s':=
  λ{σ' H' v u} J rv q=>⟨v,H',J.os,J.bare,J.base,J.hok,rv,q⟩
 cases fl with
 |ret u =>
  obtain⟨v,σ',H',J,rv,q⟩:=hs
  exact fin J rv q
 |next =>
  obtain⟨σ',H',J,q⟩:=hs
  exact fin (v:=V.non) (u:=Value.none) J rfl q
 |brk =>
  obtain⟨_,_,_,q⟩:=hs
  exact False.elim q
 |cont =>
  obtain⟨_,_,_,q⟩:=hs
  exact False.elim q
section
variable {X:Cx}{x:Str}{p pos:Pos}{e:Expr}{es:List Expr}{t:TA}{id T:String}{r:List V->Hp->VK->Prop}
def tCB (r:List V->Hp->VK->Prop)(t:TA):TE:=fun σ H Q=>t σ H λvs H1=>r vs H1 Q
def Mv (hc:HC X (.builtin id) r)(hg:Gl X x)(hm:X.mg x=none)(hv:bootBuiltins x=some (.builtin id))(ha:PA X (e::es) t)(hn:x≠"__name__":=by decide)(hdb:(x==("__debug__":Str))=false:=by decide)
  (he:starEach (e::es) X.env=(false,eval e X.env)::starEach es X.env:=by rfl) (hpl:(backTo pos (starEach es X.env)).any (·.1)=false:=by rfl):PE X (.Call (.Name x p) (e::es) [] pos) (tCB r t):=by
 intro pj s σ H Q I h
 refine wpAny_Call_Name_kw (Kq I hg hm hv ?_ hn hdb)
 exact PyProof.Rows.callWith_builtin1 (thn (ha pos pj s σ H _ I h) λus s1 ⟨vs,H1,I1,r1,q1⟩=>hc pj s1 σ H1 vs us Q I1 r1 q1) he hpl
def Pj (hc:HC X (.type T) r)(hg:Gl X x)(hm:X.mg x=none)(hv:bootBuiltins x=some (.type T))(ha:PA X (e::es) t)(hn:x≠"__name__":=by decide)(hdb:(x==("__debug__":Str))=false:=by decide)
  (he:starEach (e::es) X.env=(false,eval e X.env)::starEach es X.env:=by rfl) (hpl:(backTo pos (starEach es X.env)).any (·.1)=false:=by rfl):PE X (.Call (.Name x p) (e::es) [] pos) (tCB r t):=by
 intro pj s σ H Q I h
 refine wpAny_Call_Name_kw (Kq I hg hm hv ?_ hn hdb)
 exact Cw (thn (ha pos pj s σ H _ I h) λus s1 ⟨vs,H1,I1,r1,q1⟩=>hc pj s1 σ H1 vs us Q I1 r1 q1) he hpl
end
end L2
namespace HT
open PySem PyProof.Rows
section
open PySem.SeqAt
open PySem.AutoSeq1 (wpAny_loadPart')
open PySem.MeetsSeq PySem.MeetsSeq2 PySem.MeetsSeq3
end
section
variable {prog:Program}{w:World}{A:Around}{E:Value->Zaa}{s:Shared}
def SJ {t b:Addr}{vs ws:List Value}{Q:Value->Zaa}(ht:IsTup s.heap t vs.toArray)(hb:IsTup s.heap b ws.toArray)(hv:vs≠[])
  (h1:ws=[]->Q (.ref t) s) (h2:ws≠[]->Q (.ref s.heap.objs.size) {s with heap:=s.heap.push {cls:=.type "tuple",data:=.seq (vs++ws).toArray}})
  (hsz:vs.length+ws.length<=sizeLine):wpAny (model prog w) A (binaryOp .Add (.ref t) (.ref b)) Q E s:=by
 obtain⟨⟨cls,dd,data,sl⟩,ho,hc,n,hd⟩:=id ht
 obtain⟨⟨cls2,dd2,data2,sl2⟩,ho2,hc2,n2,hd2⟩:=id hb
 simp only at hc hd hc2 hd2
 subst hc hd hc2 hd2
 have e:vs.toArray++ws.toArray=(vs++ws).toArray:=by simp
 by_cases hw:ws=[]
 ·exact concat_meets ⟨_,ho,rfl⟩ ⟨_,ho2,rfl⟩ noFill_tuple_add seq_tuple_add F.slot_tuple_add F.entry_tuple_add (F.args_tuple_add_2 _ _)
   (tuple_addW1 t b vs.toArray ws.toArray n n2 dd dd2 sl sl2 (by simpa using hv) (by simp[hw])) ⟨ho,ho2,h1 hw⟩
 ·refine concat_meets ⟨_,ho,rfl⟩ ⟨_,ho2,rfl⟩ noFill_tuple_add seq_tuple_add F.slot_tuple_add F.entry_tuple_add (F.args_tuple_add_2 _ _)
   (tuple_addW2 t b vs.toArray ws.toArray n n2 dd dd2 sl sl2 (by simpa using hv) (by simpa using hw) (by rw[Az,Az];exact hsz)) ⟨ho,ho2,?_⟩
  rw[e]
  exact h2 hw
def sIx (n d:Nat):Option Int->Nat
 |none=>d
 |some v=>if v<0 then (v+(n:Int)).toNat else min v.toNat n
theorem Kb (n d:Nat):sIx n d none=d:=rfl
def LC (n d k:Nat):sIx n d (some (k:Int))=min k n:=by
 show(if (k:Int)<0 then ((k:Int)+(n:Int)).toNat else min (k:Int).toNat n)=min k n
 rw[if_neg (by ext),Int.toNat_natCast]
theorem V9 (n d:Nat)(hd:d<=n)(o:Option Int):sIx n d o<=n:=by
 cases o with
 |none=>exact hd
 |some v =>
  show(if v<0 then (v+(n:Int)).toNat else min v.toNat n)<=n
  by_cases hv:v<0
  ·rw[if_pos hv];ext
  ·rw[if_neg hv];exact Nat.min_le_right _ _
def O3 (v:Int)(n d:Nat):(if v<0 then max (v+(n:Int)) 0 else min v (n:Int))=((sIx n d (some v):Nat):Int):=by
 show(if v<0 then max (v+(n:Int)) 0 else min v (n:Int))=(((if v<0 then (v+(n:Int)).toNat else min v.toNat n):Nat):Int)
 by_cases hv:v<0
 ·simp only[if_pos hv];ext
 ·simp only[if_neg hv];ext
def Nt (lo hi:Option Int)(n:Nat):Builtin.Slice.sliceAdjust lo hi 1 (n:Int)=(((sIx n 0 lo:Nat):Int),((sIx n n hi:Nat):Int)):=by
 have h1:¬ ((1:Int)<0):=by ext
 unfold Builtin.Slice.sliceAdjust
 simp only[h1,Bd]
 refine Prod.ext ?_ ?_
 ·cases lo with
  |none=>rfl
  |some v=>exact O3 v n 0
 ·cases hi with
  |none=>rfl
  |some v=>exact O3 v n n
def NC (i j:Nat):Builtin.Slice.slicePlaces (i:Int) (j:Int) 1=j-i:=by
 unfold Builtin.Slice.slicePlaces
 have h1:(1:Int) > 0:=by ext
 simp only[h1,if_true,Int.ediv_one]
 split<;>ext
theorem JG {v:Value}{o:Option Int}{Q:Option Int->Zaa}(p:IsPart v o)(h:Q o s):wpAny (model prog w) A (Builtin.Slice.slicePartIndex v) Q E s:=by
 cases p with
 |none=>exact slicePart_none h
 |int i t=>exact slicePart_int h
def Gn {sl:Addr}{vl vu:Value}{lo hi:Option Int}{n:Nat}{Q:Int×Int×Nat->Zaa}(hs:s.heap.IsSliceOf sl vl vu .none)(pl:IsPart vl lo)(pu:IsPart vu hi)
  (h:Q (((sIx n 0 lo:Nat):Int),1,sIx n n hi-sIx n 0 lo) s):wpAny (model prog w) A (Builtin.Slice.sliceApplied (.ref sl) (pure (n:Int))) Q E s:=by
 obtain⟨os,hos,hcs,hds⟩:=id hs
 unfold Builtin.Slice.sliceApplied Builtin.Slice.sliceFields
 refine Aa (Aa (Bh hos hds (x:=vl) rfl (Aa (Bh hos hds (x:=vu) rfl (Aa (Bh hos hds (x:=.none) rfl (Ab ?_)))))))
 refine Aa (slicePart_none ?_)
 show wpAny _ _ (if ((1:Int)==0)=true then _ else _) _ _ s
 rw[if_neg (by decide)]
 refine Aa (JG pl (Aa (JG pu (Aa (Ab ?_)))))
 show wpAny _ _ (match Builtin.Slice.sliceAdjust lo hi 1 (n:Int) with|(lo,hi)=>pure (lo,(1:Int),Builtin.Slice.slicePlaces lo hi 1)) _ _ s
 rw[Nt lo hi n]
 show wpAny _ _ (pure (((sIx n 0 lo:Nat):Int),(1:Int),Builtin.Slice.slicePlaces ((sIx n 0 lo:Nat):Int) ((sIx n n hi:Nat):Int) 1)) _ _ s
 rw[NC]
 exact Ab h
def RT (xs:Array Value)(i k:Nat):((List.range k).filterMap λ(m:Nat)=>xs[((i:Int)+(m:Int)*1).toNat]?).toArray=((xs.toList.drop i).take k).toArray:=by
 have e:(λ(m:Nat)=>xs[((i:Int)+(m:Int)*1).toNat]?)=λm=>xs[i+m]?:=by
  funext m
  have:((i:Int)+(m:Int)*1).toNat=i+m:=by ext
  rw[this]
 rw[e]
 have:=pick_run xs i k
 rw[List.filterMap_map] at this
 have e2:((λx=>xs[x]?)∘λx=>i+x)=λm=>xs[i+m]?:=rfl
 rw[e2] at this
 rw[this]
def Ih {t sl:Addr}{items:Array Value}{vl vu:Value}{lo hi:Option Int}{Q:Value->Zaa}(ht:IsTup s.heap t items)(hs:s.heap.IsSliceOf sl vl vu .none)(pl:IsPart vl lo)(pu:IsPart vu hi)
  (hw:¬ (sIx items.size 0 lo=0/\sIx items.size items.size hi=items.size))
  (h:Q (.ref s.heap.objs.size) {s with heap:=s.heap.push {cls:=.type "tuple",data:=.seq ((items.toList.drop (sIx items.size 0 lo)).take (sIx items.size items.size hi-sIx items.size 0 lo)).toArray}})
  (hsz:items.size<=sizeLine):wpAny (model prog w) A (getItem (.ref t) (.ref sl)) Q E s:=by
 have htake:sizeOk (.seq ((items.toList.drop (sIx items.size 0 lo)).take (sIx items.size items.size hi-sIx items.size 0 lo)).toArray):=by
  show((items.toList.drop (sIx items.size 0 lo)).take (sIx items.size items.size hi-sIx items.size 0 lo)).toArray.size<=sizeLine
  rw[Az,AA,List.length_drop,Array.length_toList]
  ext
 have hj:sIx items.size items.size hi<=items.size:=V9 _ _ (Ai _) hi
 obtain⟨os,hos,hcs,hds⟩:=id hs
 have hTs:s.TypeIs (.ref sl) "slice":=⟨os,hos,hcs⟩
 unfold getItem
 try with_reducible refine AL ?_
 first|refine Aa (Ab ?_)|skip
 refine Aa (wpAny_sequenceKey ht.typeIs (by decide) ?_)
 refine Aa (AV (name:=Str.ofString "__getitem__") ht.typeIs BB
  (AM BB ht.typeIs entry_tuple_getitem ?_ (args_tuple_getitem _ _)))
 show wpAny _ _ (Builtin.Tuple.tupleItemsOf (.ref t)>>=_) _ _ s
 refine Aa (tupleItemsOf_ ht ?_)
 refine Aa (BJ hTs ?_)
 rw[if_pos (by decide)]
 refine Aa (Gn hs pl pu ?_)
 have hno:¬ ((((sIx items.size 0 lo:Nat):Int)==0&&(1:Int)==1&&(sIx items.size items.size hi-sIx items.size 0 lo)==items.size)=true):=by
  intro q
  rw[Ac,Ac] at q
  have q1:((sIx items.size 0 lo:Nat):Int)=0:=eq_of_beq q.1.1
  have q2:sIx items.size items.size hi-sIx items.size 0 lo=items.size:=eq_of_beq q.2
  exact hw ⟨by ext,by ext⟩
 show wpAny _ _ (if (((sIx items.size 0 lo:Nat):Int)==0&&(1:Int)==1&&(sIx items.size items.size hi-sIx items.size 0 lo)==items.size)=true then _ else _) _ _ s
 rw[if_neg hno,RT]
 first
  |exact Aa (m:=Builtin.Tuple.tupleExact _) (AZ (Ab ⟨_,rfl,Ab h⟩) htake)
  |exact Aa (m:=Builtin.Tuple.tupleExact _) (AZ (Aa (Ab (Ab ⟨_,rfl,Ab h⟩))) htake)
  |exact Aa (Aa (m:=Builtin.Tuple.tupleExact _) (AZ (Ab (Ab ⟨_,rfl,Ab h⟩)) htake))
  |exact Aa (Aa (m:=Builtin.Tuple.tupleExact _) (AZ (Ab ⟨_,rfl,Ab h⟩) htake))
end
end HT
namespace L2
open PySem PySem.Spec PyProof.Rows
abbrev TO:=St->Hp->(Option Int->Hp->Prop)->Prop
def PO (X:Cx)(e:Option Expr)(t:TO):Prop:=
 ∀(pj:Zab) (s:Shared) (σ:St) (H:Hp) (Q:Option Int->Hp->Prop),Inv X pj σ H s->t σ H Q ->
  wpAny (model X.prog X.w) X.A (evalPart e X.env) (λu s'=>∃o H',Inv X pj σ H' s'/\IsPart u o/\Q o H') X.xe s
def Sv:TO:=λ_ H Q=>Q none H
def Zs (t:TE):TO:=fun σ H Q=>t σ H λx H1=>∃i,x=.int i/\Q (some i) H1
section
variable {X:Cx}{e:Expr}{te:TE}{lo hi:Option Expr}{tl th:TO}{pos p2:Pos}
def Ul:PO X none Sv:=by
 intro pj s σ H Q I h
 rw[evalPart_none]
 exact Ab ⟨none,H,I,.none,h⟩
def SU (h:PE X e te):PO X (some e) (Zs te):=by
 intro pj s σ H Q I hw
 rw[evalPart_some]
 refine thn (h pj s σ H _ I hw) λu s1 ⟨x,H1,I1,r1,q1⟩=>?_
 obtain⟨i,rfl,q⟩:=q1
 obtain⟨t,rfl⟩:=r1
 exact⟨some i,H1,I1,.int i t,q⟩
def SlR (X:Cx)(r:V->Option Int->Option Int->Hp->VK->Prop):Prop:=
 ∀(pj:Zab) (s:Shared) (σ:St) (H:Hp) (x:V) (v vl vu:Value) (lo hi:Option Int) (sl:Addr) (Q:VK),Inv X pj σ H s->RelV x v->s.heap.IsSliceOf sl vl vu .none->IsPart vl lo->IsPart vu hi->r x lo hi H Q ->
  ∃T id,typeLookup (.type T) "__getitem__"=pure (some (.builtin id))/\s.TypeIs v T/\wpAny (model X.prog X.w) X.A (getItem v (.ref sl)) (EP X pj σ Q) X.xe s
def tSl (r:V->Option Int->Option Int->Hp->VK->Prop)(te:TE)(tl th:TO):TE:=fun σ H Q=>te σ H λx H1=>tl σ H1 λl H2=>th σ H2 λu H3=>r x l u H3 Q
def RJ {r:V->Option Int->Option Int->Hp->VK->Prop}(hr:SlR X r)(he:PE X e te)(hl:PO X lo tl)(hu:PO X hi th):PE X (.Subscript e (.Slice lo hi none p2) pos) (tSl r te tl th):=by
 intro pj s σ H Q I h
 refine Subscript_ (thn (he pj s σ H _ I h) λv s1 ⟨x,H1,I1,r1,q1⟩=>?_)
 refine wpAny_Slice (thn (hl pj s1 σ H1 _ I1 q1) λvl s2 ⟨l,H2,I2,pl,q2⟩=>thn (hu pj s2 σ H2 _ I2 q2) λvu s3 ⟨u,H3,I3,pu,q3⟩=>?_)
 rw[evalPart_none]
 refine Ab ?_
 have I4:Inv X pj σ H3 {s3 with heap:=s3.heap.push {cls:=.type "slice",data:=.fields #[vl,vu,.none]}}:=I3.kept (t':=s3.toks) λb ob q=>Ad _ q
 obtain⟨T,id,hT,ht,hg⟩:=hr pj {s3 with heap:=s3.heap.push {cls:=.type "slice",data:=.fields #[vl,vu,.none]}} σ H3 x v vl vu l u s3.heap.objs.size Q I4 r1 (Heap.IsSliceOf.new ..) pl pu q3
 show wpAny (model X.prog X.w) X.A (subscriptTail e (.Slice lo hi none p2) v (.ref s3.heap.objs.size)) (EP X pj σ Q) X.xe {s3 with heap:=s3.heap.push {cls:=.type "slice",data:=.fields #[vl,vu,.none]}}
 exact tail_any (ops:=[.ref s3.heap.objs.size,v]) ht hT hg (by with_unfolding_all rfl)
def Nf (xs:List V)(lo hi:Option Int):List V:=(xs.drop (HT.sIx xs.length 0 lo)).take (HT.sIx xs.length xs.length hi-HT.sIx xs.length 0 lo)
def Ja (xs:List V)(lo hi:Option Int):(Nf xs lo hi).length<=xs.length:=by
 unfold Nf
 rw[AA,List.length_drop]
 ext
def Aau (K:W.Frag):V->Option Int->Option Int->Hp->VK->Prop:=λx lo hi H Q=>∃a xs,x=.ref a/\SqT K H a xs /\
 ¬ (HT.sIx xs.length 0 lo=0/\HT.sIx xs.length xs.length hi=xs.length)/\∀p,H p=none->Q (.ref p) (upd H p (.tup (Nf xs lo hi)))
def VS:SlR X (Aau X.K):=by
 intro pj s σ H x v vl vu lo hi sl Q I rx hs pl pu h
 obtain⟨a,xs,rfl,hx,hw,q⟩:=h
 cases rx
 obtain⟨its,r,ht,hz⟩:=I.tuple hx
 have hlen:its.toArray.size=xs.length:=by rw[Az];exact r.length.symm
 refine⟨"tuple",_,BB.lookup,ht.typeIs,?_⟩
 refine HT.Ih ht hs pl pu (by rw[hlen];exact hw) ?_ (by rw[hlen];exact hz)
 rw[hlen]
 refine⟨.ref s.heap.objs.size,_,I.laid (t':=s.toks) (o:=.tup (Nf xs lo hi)) (λb ob q=>Ad _ q) (Ai _) ?_,rfl,q _ (I.hok.fresh (Ai _))⟩
 exact⟨⟨AU (Ja xs lo hi) hz,⟨_,Ak _ rfl,rfl⟩⟩,_,(r.drop (HT.sIx xs.length 0 lo)).take (HT.sIx xs.length xs.length hi-HT.sIx xs.length 0 lo),IsTup.new _ _⟩
def Zt (K:W.Frag):R2:=λx y H Q=>∃a b xs ys,x=.ref a/\y=.ref b/\SqT K H a xs/\SqT K H b ys/\xs≠[]/\xs.length+ys.length<=sizeLine /\
 (ys=[]->Q (.ref a) H)/\(ys≠[]->∀p,H p=none->Q (.ref p) (upd H p (.tup (xs++ys))))
theorem Vals.nil_iff {xs:List V}{us:List Value}(r:Vals xs us):us=[]↔xs=[]:=by
 cases r with
 |nil=>simp
 |cons _ _=>simp
def Th:OpR X (binaryOp .Add) (Zt X.K):=by
 intro pj s σ H x y v u Q I rx ry h
 obtain⟨a,b,xs,ys,rfl,rfl,ha,hb,hx,hz,q1,q2⟩:=h
 cases rx
 cases ry
 obtain⟨its,r1,p1,_⟩:=I.tuple ha
 obtain⟨its2,r2,p2,_⟩:=I.tuple hb
 refine HT.SJ p1 p2 (λz=>hx (r1.nil_iff.mp z)) (λz=>⟨.ref a,H,I,rfl,q1 (r2.nil_iff.mp z)⟩) (λz=>?_) (by rw[<- r1.length,<- r2.length];exact hz)
 refine⟨.ref s.heap.objs.size,_,I.laid (t':=s.toks) (o:=.tup (xs++ys)) (λb ob q=>Ad _ q) (Ai _) ?_,rfl,q2 (λw=>z (r2.nil_iff.mpr w)) _ (I.hok.fresh (Ai _))⟩
 exact⟨⟨by rw[Ar];exact hz,⟨_,Ak _ rfl,rfl⟩⟩,_,r1.append r2,IsTup.new _ _⟩
end
def ixN (n:Nat)(i:Int):Option Nat:=if 0<=i then (if i<n then some i.toNat else none) else if -(n:Int)<=i then some (i+n).toNat else none
def atI {α:Type}(xs:List α)(i:Int):Option α:=(ixN xs.length i).bind λj=>xs[j]?
def Oq {n:Nat}{i:Int}{j:Nat}(h:ixN n i=some j):seqIndex? i n=some j/\j<n/\-(n:Int)<=i/\i<n:=by
 unfold ixN at h
 by_cases h0:0<=i
 ·rw[if_pos h0] at h
  by_cases h1:i<n
  ·rw[if_pos h1] at h
   have e:i.toNat=j:=AH h
   exact⟨by rw[seqIndex_of h0 h1,e],by ext,by ext,h1⟩
  ·rw[if_neg h1] at h;cases h
 ·rw[if_neg h0] at h
  by_cases h1:-(n:Int)<=i
  ·rw[if_pos h1] at h
   have e:(i+n).toNat=j:=AH h
   exact⟨by rw[seqIndex_neg (by ext) h1,e],by ext,h1,by ext⟩
  ·rw[if_neg h1] at h;cases h
theorem JA {α:Type}{xs:List α}{i:Int}{v:α}(h:atI xs i=some v):∃j,seqIndex? i xs.length=some j/\xs[j]?=some v/\j<xs.length/\-(xs.length:Int)<=i/\i<xs.length:=by
 unfold atI at h
 cases e:ixN xs.length i with
 |none=>rw[e] at h;cases h
 |some j =>
  rw[e] at h
  obtain⟨h1,h2,h3,h4⟩:=Oq e
  exact⟨j,h1,h,h2,h3,h4⟩
def O0 (b:Expr):Prop:=∀o i,subscripted b false o i=operate [o,i] (getItem o i)
def IxR (X:Cx)(r:R2):Prop:=
 ∀(value slice:Expr) (pj:Zab) (s:Shared) (σ:St) (H:Hp) (x y:V) (v u:Value) (Q:VK),Inv X pj σ H s->RelV x v->RelV y u->r x y H Q ->
  subscripted slice false v u=operate [v,u] (getItem v u)->wpAny (model X.prog X.w) X.A (subscriptTail value slice v u) (EP X pj σ Q) X.xe s
def MtR (X:Cx)(id:String)(r:V->List V->Hp->VK->Prop):Prop:=
 ∀(pj:Zab) (s:Shared) (σ:St) (H:Hp) (x:V) (xs:List V) (v:Value) (us:List Value) (Q:VK),Inv X pj σ H s->RelV x v->Vals xs us->r x xs H Q ->
  wpAny (model X.prog X.w) X.A (call (.builtin id) (v::us)) (EP X pj σ Q) X.xe s
section
variable {X:Cx}{a b:Expr}{ta tb:TE}{pos:Pos}
def IxR.or {r r':R2}(h:IxR X r)(h':IxR X r'):IxR X (λx y H Q=>r x y H Q\/r' x y H Q):=by
 intro value slice pj s σ H x y v u Q I rx ry q hs
 rcases q with q|q
 ·exact h value slice pj s σ H x y v u Q I rx ry q hs
 ·exact h' value slice pj s σ H x y v u Q I rx ry q hs
def YO {r:R2}(hr:IxR X r)(ha:PE X a ta)(hb:PE X b tb)(hs:O0 b):PE X (.Subscript a b pos) (tOp r ta tb):=by
 intro pj s σ H Q I h
 exact Subscript_ (VF ha hb I h λv u s2 x y H2 I2 rx ry q=>hr a b pj s2 σ H2 x y v u Q I2 rx ry q (hs _ _))
def Xq (K:W.Frag):R2:=λx y H Q=>∃p xs i v,x=.ref p/\y=.int i/\SqL K H p xs/\atI xs i=some v/\Q v H
def Y4 (K:W.Frag):R2:=λx y H Q=>∃p xs i v,x=.ref p/\y=.int i/\SqT K H p xs/\atI xs i=some v/\Q v H
def XR:R2:=λx y H Q=>∃z i c,x=.str z/\y=.int i/\z.length<=sizeLine/\atI z.cps.toList i=some c/\Q (.str ⟨#[c]⟩) H
def UH:IxR X (Xq X.K):=by
 intro value slice pj s σ H x y v u Q I rx ry h hs
 obtain⟨p,xs,i,z,rfl,rfl,hq,he,q⟩:=h
 cases rx
 obtain⟨t,rfl⟩:=ry
 obtain⟨its,r,pl,hz⟩:=I.list hq
 obtain⟨j,h1,h2,h3,h4,h5⟩:=JA he
 obtain⟨w,ew,rw'⟩:=r.get h2
 have hl:=r.length
 have hn:=IA
 have fin:EP X pj σ Q w s:=⟨z,H,I,rw',q⟩
 by_cases h0:0<=i
 ·have hj:i.toNat=j:=by
   rw[seqIndex_of h0 h5] at h1
   exact AH h1
  exact item_listR pl.isList h0 (by ext) (by rw[hj];simpa using ew) fin hs
 ·have hj:(i+(its.toArray.size:Int)).toNat=j:=by
   rw[seqIndex_neg (by ext) h4] at h1
   rw[Az,<- hl]
   exact AH h1
  exact subscriptTail_builtinR (x:=w) pl.isList.typeIs slot_list_getitem.lookup
   (wpAny_getItem_list_neg (Q:=λr s'=>r=w/\EP X pj σ Q r s') pl.isList (by ext) (by rw[Az]<;>ext) (by ext) (by rw[hj];simpa using ew) ⟨rfl,fin⟩) hs
def V3:IxR X (Y4 X.K):=by
 intro value slice pj s σ H x y v u Q I rx ry h hs
 obtain⟨p,xs,i,z,rfl,rfl,hq,he,q⟩:=h
 cases rx
 obtain⟨t,rfl⟩:=ry
 obtain⟨its,r,pl,hz⟩:=I.tuple hq
 obtain⟨j,h1,h2,h3,h4,h5⟩:=JA he
 obtain⟨w,ew,rw'⟩:=r.get h2
 have hl:=r.length
 have hn:=IA
 have fin:EP X pj σ Q w s:=⟨z,H,I,rw',q⟩
 exact subscriptTail_builtinR (x:=w) pl.typeIs slot_tuple_getitem.lookup
  (getItem_tuple (j:=j) (Q:=λr s'=>r=w/\EP X pj σ Q r s') pl (by ext) (by ext) (by rw[Az,<- hl];exact h1) (by simpa using ew) ⟨rfl,fin⟩) hs
def V2:IxR X XR:=by
 intro value slice pj s σ H x y v u Q I rx ry h hs
 obtain⟨z,i,c,rfl,rfl,hz,he,q⟩:=h
 obtain⟨t,rfl⟩:=rx
 obtain⟨t',rfl⟩:=ry
 obtain⟨j,h1,h2,h3,h4,h5⟩:=JA he
 have hl:z.cps.toList.length=z.length:=by simp[Str.length]
 rw[hl] at h1 h4 h5
 have hn:=IA
 exact tail_any (typeIs_str s z t) slot_str_getitem.lookup (getItem_str (c:=c) (by
  have e1:decide (i < -(2 ^ 63:Int))=false:=A7 (by ext)
  have e2:decide (i >= 2 ^ 63)=false:=A7 (by ext)
  rw[e1,e2,Bool.or_false]) (by rw[h1];simpa using h2) ⟨.str ⟨#[c]⟩,H,I.tok _,⟨_,rfl⟩,q⟩) hs
def rIx (K:W.Frag):R2:=λx y H Q=>Xq K x y H Q\/Y4 K x y H Q\/XR x y H Q
def WQ:IxR X (rIx X.K):=UH.or (V3.or V2)
def NR (its:List Value)(n j:Nat)(u:Value):Obj.mapSeq (·.setIfInBounds j u) {cls:=.type "list",data:=.seq its.toArray n}={cls:=.type "list",data:=.seq (its.set j u).toArray n}:=by
 simp[Obj.mapSeq]
theorem Inv.lst {pj:Zab}{σ:St}{H:Hp}{s:Shared}{p:Addr}{xs:List V}(I:Inv X pj σ H s)(h:H p=some (.lst xs)) :
  ∃(its:List Value) (n:Nat),Vals xs its/\s.heap.get? p=some {cls:=.type "list",data:=.seq its.toArray n}/\xs.length<=sizeLine:=by
 obtain⟨z,its,n,r,e⟩:=I.hok p _ h
 exact⟨its,n,r,e,z⟩
def Inv.lstUpd {pj:Zab}{σ:St}{H:Hp}{s:Shared}{p:Addr}{xs ys:List V}{its its':List Value}{n n':Nat}{f:Obj->Obj}(I:Inv X pj σ H s)(h:H p=some (.lst xs))
  (ho:s.heap.get? p=some {cls:=.type "list",data:=.seq its.toArray n}) (hf:f {cls:=.type "list",data:=.seq its.toArray n}={cls:=.type "list",data:=.seq its'.toArray n'}) (r:Vals ys its') (hz:ys.length<=sizeLine) (t:Nat) :
  Inv X pj σ (upd H p (.lst ys)) {s with heap:=s.heap.update p f,toks:=t}:=by
 have e:(s.heap.update p f).get? p=some {cls:=.type "list",data:=.seq its'.toArray n'}:=by
  rw[AF f ho (by rw[hf]<;>rfl),hf]
 refine I.write (x:=p) (e:=p) (by rw[h];trivial) (.inl rfl) (λb u hb q=>(Bf _ _ (Ne.symm hb)).trans q) ⟨_,e⟩ ?_
 exact⟨hz,its',n',r,e⟩
def XI:V->V->V->Hp->(Hp->Prop)->Prop:=λo i v H Q=>∃p xs k j,o=.ref p/\i=.int k/\H p=some (.lst xs)/\ixN xs.length k=some j/\Q (upd H p (.lst (xs.set j v)))
def set_list:Ur X XI:=by
 intro pj s σ H o i v ov iv u Q I ro ri rv h
 obtain⟨p,xs,k,j,rfl,rfl,hp,hj,q⟩:=h
 cases ro
 obtain⟨t,rfl⟩:=ri
 obtain⟨its,n,r,ho,hz⟩:=I.lst hp
 obtain⟨h1,h2,h3,h4⟩:=Oq hj
 have hl:=r.length
 have hn:=IA
 have I':Inv X pj σ (upd H p (.lst (xs.set j v))) {s with heap:=s.heap.update p (Obj.mapSeq (·.setIfInBounds j u))}:=
  I.lstUpd hp ho (NR its n j u) (r.set rv j) (by rw[Cp];exact hz) s.toks
 by_cases h0:0<=k
 ·have hk:k.toNat=j:=by
   rw[seqIndex_of h0 h4] at h1
   exact AH h1
  exact W.ki_setAt ho h0 (by ext) (by rw[Az,<- hl];exact h4) (by rw[hk];exact⟨_,I',q⟩)
 ·have hk:(k+(its.toArray.size:Int)).toNat=j:=by
   rw[seqIndex_neg (by ext) h3] at h1
   rw[Az,<- hl]
   exact AH h1
  exact W.ki_setBack ho (by ext) (by rw[Az,<- hl];exact h3) (by ext) (by rw[hk];exact⟨_,I',q⟩)
def Lz (lo hi:Option Int)(n:Nat):(sliceBounds lo hi none n).1=((HT.sIx n 0 lo:Nat):Int)/\(sliceBounds lo hi none n).2.1=((HT.sIx n n hi:Nat):Int)/\(sliceBounds lo hi none n).2.2=1:=by
 refine⟨?_,?_,rfl⟩
 ·cases lo with
  |none=>simp[sliceBounds,HT.sIx]
  |some i =>
   simp only[sliceBounds,HT.sIx,Option.getD_none,show(1:Int) > 0 by decide,if_true]
   by_cases h:i<0
   ·simp only[h,if_true]<;>ext
   ·simp only[h,Bd]<;>ext
 ·cases hi with
  |none=>simp[sliceBounds,HT.sIx]
  |some i =>
   simp only[sliceBounds,HT.sIx,Option.getD_none,show(1:Int) > 0 by decide,if_true]
   by_cases h:i<0
   ·simp only[h,if_true]<;>ext
   ·simp only[h,Bd]<;>ext
def KH (its:List Value)(lo hi:Option Int):slicePick its.toArray lo hi none=((its.drop (HT.sIx its.length 0 lo)).take (HT.sIx its.length its.length hi-HT.sIx its.length 0 lo)).toArray:=by
 obtain⟨h1,h2,h3⟩:=Lz lo hi its.toArray.size
 unfold slicePick
 rw[h1,h2,h3]
 simp only[sliceRange_one,pick_run,Az]<;>rfl
def YJ (K:W.Frag):V->Option Int->Option Int->Hp->VK->Prop:=λx lo hi H Q=>∃a xs,x=.ref a/\SqL K H a xs/\∀p,H p=none->Q (.ref p) (upd H p (.lst (Nf xs lo hi)))
def SO:SlR X (YJ X.K):=by
 intro pj s σ H x v vl vu lo hi sl Q I rx hs pl pu h
 obtain⟨a,xs,rfl,hx,q⟩:=h
 cases rx
 obtain⟨its,r,ht,hz⟩:=I.list hx
 have hlen:=r.length
 refine⟨"list",_,slot_list_getitem.lookup,ht.isList.typeIs,?_⟩
 refine wpAny_getItem_list_slice ht.isList hs pl pu .none (by simp) ?_ (by rw[Az]<;>ext)
 rw[KH,<- hlen]
 refine⟨.ref s.heap.objs.size,_,I.laid (t':=s.toks) (o:=.lst (Nf xs lo hi)) (λb ob q=>Ad _ q) (Ai _) ?_,rfl,q _ (I.hok.fresh (Ai _))⟩
 exact⟨AU (Ja xs lo hi) hz,_,0,(r.drop (HT.sIx xs.length 0 lo)).take (HT.sIx xs.length xs.length hi-HT.sIx xs.length 0 lo),Ak _ rfl⟩
def GB:HC X (.builtin "len") (λxs H Q=>∃p ys,xs=[.ref p]/\(SqL X.K H p ys\/SqT X.K H p ys)/\Q (.int ys.length) H):=by
 intro pj s σ H xs us Q I r h
 obtain⟨p,ys,rfl,hq,q⟩:=h
 obtain⟨u,rfl,rx⟩:=vals1 r
 cases rx
 have hn:=IA
 rcases hq with hq|hq
 ·obtain⟨its,r',pl,hz⟩:=I.list hq
  have hlen:=r'.length
  exact Calls.call_len_list pl.isList (by simp only[Az]<;>ext) ⟨.int ys.length,H,I.tok _,⟨s.toks+1,by rw[Az,hlen]⟩,q⟩
 ·obtain⟨its,r',pl,hz⟩:=I.tuple hq
  have hlen:=r'.length
  exact len_tuple pl (by simp only[Az]<;>ext) ⟨.int ys.length,H,I.tok _,⟨s.toks+1,by rw[Az,hlen]⟩,q⟩
def LI:HC X (.builtin "len") (λxs H Q=>∃z,xs=[.str z]/\z.length<=sizeLine/\Q (.int z.length) H):=by
 intro pj s σ H xs us Q I r h
 obtain⟨z,rfl,hz,q⟩:=h
 obtain⟨u,rfl,t,rfl⟩:=vals1 r
 have hn:=IA
 exact len_str (by ext) ⟨.int z.length,H,I.tok _,⟨_,rfl⟩,q⟩
def KP:HC X (.type "tuple") (λxs H Q=>∃p ys,xs=[.ref p]/\((SqL X.K H p ys/\∀l,H l=none->Q (.ref l) (upd H l (.tup ys)))\/(SqT X.K H p ys/\Q (.ref p) H))):=by
 intro pj s σ H xs us Q I r h
 obtain⟨p,ys,rfl,h⟩:=h
 obtain⟨u,rfl,rx⟩:=vals1 r
 cases rx
 rcases h with⟨hq,q⟩|⟨hq,q⟩
 ·obtain⟨its,r',pl,hz⟩:=I.list hq
  have hlen:=r'.length
  refine call_tuple_list pl.isList (λh' kp=>?_) (by simp only[Az]<;>ext)
  have I1:Inv X pj σ H {s with heap:=h'}:=I.kept (t':=s.toks) kp
  have I2:Inv X pj σ (upd H h'.objs.size (.tup ys)) {s with heap:=h'.push {cls:=.type "tuple",data:=.seq its.toArray}}:=
   I1.laid (t':=s.toks) (λb o e=>Ad _ e) (Ai _) (show ObjOk X.prog X.w _ _ _ (.tup ys) from⟨⟨hz,⟨_,Ak _ rfl,rfl⟩⟩,its,r',IsTup.new _ _⟩)
  exact⟨.ref h'.objs.size,_,I2,rfl,q _ (I1.hok.fresh (Ai _))⟩
 ·obtain⟨its,r',pl,hz⟩:=I.tuple hq
  exact call_tuple_same pl ⟨.ref p,H,I,rfl,q⟩
def tyV (K:W.Frag)(T:String)(x:V)(H:Hp):Prop:=match x with
 |.str _=>T="str"
 |.int _=>T="int"
 |.ref p=>(T="list"/\∃xs,SqL K H p xs)\/(T="tuple"/\∃o,K.lookup p=some o/\o.cls=.type "tuple"/\o.dict=none) \/
   (T="dict"/\((∃kvs,H p=some (.dK kvs))\/∃kvs,H p=some (.dT kvs)))\/(T="set"/\∃S n,H p=some (.set S n))
 |_=>False
theorem Vw {pj:Zab}{σ:St}{H:Hp}{s:Shared}{T:String}{x:V}{v:Value}(I:Inv X pj σ H s)(r:RelV x v)(ty:tyV X.K T x H) :
  s.TypeIs v T/\∀a,v=.ref a->∃ob,s.heap.get? a=some ob/\ob.dict=none:=by
 cases x with
 |str z =>
  obtain⟨t,rfl⟩:=r
  cases (show T="str" from ty)
  exact⟨typeIs_str s z t,λ_ e=>nomatch e⟩
 |int i =>
  obtain⟨t,rfl⟩:=r
  cases (show T="int" from ty)
  exact⟨typeIs_int s i t,λ_ e=>nomatch e⟩
 |ref p =>
  cases r
  rcases ty with⟨rfl,xs,hq⟩|⟨rfl,o,hk,hc,hd⟩|⟨rfl,hk⟩|⟨rfl,S,n,hk⟩
  ·obtain⟨its,_,pl,_⟩:=I.list hq
   refine⟨pl.isList.typeIs,λa e=>?_⟩
   cases e
   obtain⟨o,n,e,c,hd,_⟩:=pl
   exact⟨o,e,hd⟩
  ·refine⟨⟨o,I.kIn p o hk,hc⟩,λa e=>?_⟩
   cases e
   exact⟨o,I.kIn _ o hk,hd⟩
  ·have z:∃o,s.heap.get? p=some o/\o.ExactDict:=by
    rcases hk with⟨kvs,hk⟩|⟨kvs,hk⟩
    ·obtain⟨_,_,_,_,o,_,_,e,ex,_⟩:=I.hok p _ hk
     exact⟨o,e,ex⟩
    ·obtain⟨_,_,_,_,o,_,_,e,ex,_⟩:=I.hok p _ hk
     exact⟨o,e,ex⟩
   obtain⟨o,e,ex⟩:=z
   refine⟨⟨o,e,ex.1⟩,λa e2=>?_⟩
   cases e2
   exact⟨o,e,ex.2.1⟩
  ·obtain⟨o,_,_,_,e,ex,_⟩:=I.hok p _ hk
   refine⟨⟨o,e,ex.1⟩,λa e2=>?_⟩
   cases e2
   exact⟨o,e,ex.2.1⟩
 |_=>exact False.elim ty
def tBM (K:W.Frag)(T:String)(r:V->List V->Hp->VK->Prop)(to:TE)(t:TA):TE:=fun σ H Q=>to σ H λx H1=>tyV K T x H1/\t σ H1 λxs H2=>r x xs H2 Q
variable {o e:Expr}{es:List Expr}{to:TE}{t:TA}{name:Str}{apos cpos:Pos}{T id:String}{r:V->List V->Hp->VK->Prop}
def XO (pa:PlainAttrs T)(slot:Slot T name id)(hty:typeOf (.builtin id)=pure (.type "method_descriptor"))(hm:MtR X id r)(ho:PE X o to)(ha:PA X (e::es) t)
  (hbase:attributeBase o name X.env (eval o X.env)=eval o X.env:=by rfl)
  (hfew:((backTo cpos (starEach (e::es) X.env)).all (λx=>!x.1)&&(backToKw cpos (keywordEach [] X.env)).all (λx=>x.1.isSome)
   && decide ((e::es).length+([]:List Keyword).length+(if ([]:List Keyword).isEmpty then 0 else 1)<30))=true:=by rfl)
  (hline:(apos.endLine==cpos.line)=true:=by rfl) (hs:starEach (e::es) X.env=(false,eval e X.env)::starEach es X.env:=by rfl) (hplain:(backTo cpos (starEach es X.env)).any (·.1)=false:=by rfl) :
  PE X (.Call (.Attribute o name apos) (e::es) [] cpos) (tBM X.K T r to t):=by
 intro pj s σ H Q I h
 refine wpAny_Call_method_late hbase hfew hline rfl (thn (ho pj s σ H _ I h) λv s1 ⟨x,H1,I1,r1,ty,q1⟩=>?_)
 obtain⟨h1,h2⟩:=Vw I1 r1 ty
 refine⟨T,id,pa,slot,hty,h1,h2,?_⟩
 have hA:=ha cpos pj s1 σ H1 _ I1 q1
 rw[hs] at hA ⊢
 refine Calls.callWith_builtin (by show(false||(backTo cpos (starEach es X.env)).any (·.1))=false;rw[hplain]<;>rfl) (Calls.evalArgs_plain ?_)
 exact thn hA λus s2 ⟨vs,H2,I2,r2,q2⟩=>hm pj s2 σ H2 x vs v us Q I2 r1 r2 q2
end
def MtM (X:Cx)(id:String)(r:V->List V->Hp->VK->Prop):Prop:=
 ∀(pj:Zab) (s:Shared) (σ:St) (H:Hp) (x:V) (xs:List V) (v:Value) (us:List Value) (Q:VK),Inv X pj σ H s->RelV x v->Vals xs us->r x xs H Q ->
  wpAny (model X.prog X.w) X.A (call (.builtin id) (v::us)) (EP X pj σ Q) X.xe s
theorem Vals.one:∀{x:V}{us:List Value},Vals [x] us->∃u,us=[u]/\RelV x u
 |_,_,.cons r .nil=>⟨_,rfl,r⟩
section
variable {X:Cx}{pj:Zab} {σ:St}{H:Hp}{s:Shared}{l b:Addr}{xs ys zs:List V}
def Inv.lset {its its':List Value}{n:Nat}{f:Array Value->Array Value}{t':Nat}(I:Inv X pj σ H s)(hH:H l=some (.lst xs))
  (e:s.heap.get? l=some {cls:=.type "list",data:=.seq its.toArray n}) (hf:f its.toArray=its'.toArray) (hv:Vals ys its') (hz:ys.length<=sizeLine) :
  Inv X pj σ (upd H l (.lst ys)) {s with heap:=s.heap.update l (Obj.mapSeq f),toks:=t'}:=by
 have q:=PySem.IsL.update e f
 rw[hf] at q
 refine I.write (x:=l) (e:=l) (by rw[hH];exact trivial) (.inl rfl) (λb' u hb hu=>(Bf s.heap (Obj.mapSeq f) (Ne.symm hb)).trans hu) ⟨_,q⟩ ?_
 exact⟨hz,its',_,hv,q⟩
def Inv.lstM (I:Inv X pj σ H s)(hH:H l=some (.lst xs)):xs.length<=sizeLine/\∃(its:List Value) (n:Nat),Vals xs its/\xs.length=its.length/\s.heap.get? l=some {cls:=.type "list",data:=.seq its.toArray n}:=by
 obtain⟨z,its,n,r,e⟩:=I.hok l _ hH
 exact⟨z,its,n,r,r.length,e⟩
end
section
variable {X:Cx}
def SG:V->List V->Hp->VK->Prop:=λx vs H Q=>∃l xs y,x=.ref l/\vs=[y]/\H l=some (.lst xs)/\xs.length<sizeLine/\Q .non (upd H l (.lst (xs++[y])))
def PL:MtM X "list.append" SG:=by
 intro pj s σ H x vs v us Q I rx rv h
 obtain⟨l,xs,y,rfl,rfl,hH,hz,q⟩:=h
 cases rx
 obtain⟨u,rfl,ru⟩:=rv.one
 obtain⟨z,its,n,r,hl,e⟩:=I.lstM hH
 refine call_meets F.slot_list_append ⟨_,e,rfl⟩ F.entry_list_append (F.args_list_append_2 _ _) (PySem.list_append l its.toArray n u (by rw[Az];ext)) ⟨e,?_⟩
 refine⟨.non,_,I.lset (its':=its++[u]) hH e (by simp) (r.append (.cons ru .nil)) ?_,rfl,q⟩
 rw[Ar,List.length_singleton]
 ext
end
end L2
namespace Att
open PySem PySem.W PySem.Calls PyProof.Rows
theorem Jn {P:Params}{h:Heap}:∀(ns:List Int) (vs:List Value),WellAll P h vs (ns.map WData.int)->IntsAre vs ns:=by
 intro ns
 induction ns with
 |nil =>
  intro vs w
  rw[List.map_nil] at w
  cases w
  exact .nil
 |cons n ns ih =>
  intro vs w
  rw[A3] at w
  cases w with
  |cons a b =>
   cases a
   exact .cons _ _ (ih _ b)
theorem P6 {l:OpenLaw}{n:Nat}(hn:l.most=some n){P:Params}{h:Heap}{args:List WData}{vals:List Value}
  (hpre:l.row.toRowW.claim.pre args=true) (hwl:WellAll P h vals args) :
  ∃a vs ns,vals=[Value.ref a]/\args=[WData.list (ns.map WData.int)]/\h.get? a=some {cls:=.type "list",data:=.seq vs.toArray}/\IntsAre vs ns/\ns.length<=n:=by
 have hsh:WShape.hasAll [] args [.list .int]=true:=(pre_splitW hpre).1
 have hc:l.pre.holds [] {args:=args}=true:=(pre_splitW hpre).2
 obtain⟨d,r,rfl,h1,h2⟩:=hasAllW_cons hsh
 obtain rfl:=hasAllW_nil h2
 obtain⟨xs,rfl,h3⟩:=hasW_list h1
 obtain⟨ns,rfl⟩:=items_int h3
 have hlen:ns.length<=n:=by
  unfold OpenLaw.pre at hc
  have h4:(WTm.not (.lt (.lit (.int (n:Int))) (.len (.arg 0)))).holds [] {args:=[.list (ns.map .int)]}=true:=by
   have h4:=(holds_andW hc).1
   rw[hn] at h4
   exact h4
  have h5:=condW_of h4 (w_not (w_lt w_lit (w_len_list (w_arg rfl))))
  rw[Af] at h5
  refine Nat.le_of_not_lt λq=>?_
  have q':(n:Int)<((ns.length:Nat):Int):=by ext
  first
   |(rw[A0 q'] at h5;exact absurd h5 (by decide))
   |(simp at h5;ext)
 cases hwl with
 |cons w1 w2 =>
  cases w2
  cases w1 with
  |list ho hall=>exact⟨_,_,ns,rfl,rfl,ho,Jn ns _ hall,hlen⟩
def Ph (l:OpenLaw)(args:List WData):l.row.toRowW.claim.post args (.bool true) args=true:=
 postW_of (r:=l.row.toRowW) (X:=(true==true))
  (show WShape.has [] (.bool true) .bool=true by first|rfl|decide|simp[WShape.has,WShape.arms,WShape.armsAll])
  (show(WTm.eq .res (.lit (.bool true))).value [] {args:=args,res:=some (.bool true),after:=args}=some (.bool (true==true)) from w_eq_bool (w_res rfl) w_lit) rfl
def MW {l:OpenLaw}{n:Nat}{q:Program}{loose:List Str}{XP:(Str->Option Value)->Heap->Prop}{YP:World->Heap->Prop}{d:DefRec}
  (hn:l.most=some n) (hdf:d.params.defaults=[])
  (call:∀(w:World) (s₀ s₁:Shared) (mg mb:Str->Option Value) (fa:Addr) (o:Obj) (pm cd doc:Value) (a:Addr) (vs:List Value) (ns:List Int),
   Ground q loose [] XP w s₀ mg mb s₁.heap->YP w s₁.heap ->
   s₁.heap.get? fa=some o->o.data=.func (docDef d.name d.params d.body d.scope pm cd doc)->s₁.heap.CodeRec cd d.name->mg d.name=some (.ref fa) ->
   s₁.heap.get? a=some {cls:=.type "list",data:=.seq vs.toArray}->IntsAre vs ns->ns.length<=n->s₁.gens=#[] ->
   codeAny (model l.prog w) callerA (.call (.ref fa) ⟨[.ref a],[]⟩) (λr s'=>r=.ok (.ret (.bool true))/\OldK s₁.heap s'.heap/\s'.os=s₁.os/\AllBare s'.gens) s₁) :
  WalkO q loose XP YP l.row.toRowW d [] (λf vs=>PySem.call f vs):=by
 intro w s₀ s₁ mg mb G Y fa o pm cd doc dV kV ho hd hcd hD hmg hg args vals as hpre hlay hrd hwl hlo
 obtain rfl:dV=.none:=Dflts.none hD hdf
 obtain rfl:kV=.none:=Dflts.noKw hD
 obtain⟨a,vs,ns,rfl,rfl,hobj,hints,hlen⟩:=P6 hn hpre hwl
 refine enter_call (codeAny_mono (call w s₀ s₁ mg mb fa o pm cd doc a vs ns G Y ho (fd_plain hd) hcd hmg hobj hints hlen hg) λr s' hq=>?_)
 obtain⟨rfl,h2,h3,h4⟩:=hq
 exact⟨.inl ⟨.bool true,.bool true,[],rfl,λ_=>rfl,.bool true,Ph l _,λ_=>⟨List.Pairwise.nil,λ_ hm=>(nomatch hm)⟩⟩,h2,h3,h4⟩
end Att
namespace L2
open PySem PySem.Spec PyProof.Rows
theorem K5:∀{vs:List Value}{ns:List Int},IntsAre vs ns->Vals (ns.map V.int) vs
 |_,_,.nil=>.nil
 |_,_,.cons n t h=>.cons ⟨t,rfl⟩ (K5 h)
def WE (H:Hp):Prop:=∀b,H b=none\/∃o xs,H b=some (.frz o (.lst xs))
theorem Rz {P:Program}{w:World}{K:W.Frag}{mg mb:Str->Option Value}{CX:CXT}{k:Nat}{fa a:Addr}{fd:FuncData}{x:Str}{sp:Sp}{s₁:Shared}{vs:List Value}{ns:List Int}
  (KX:K.In s₁.heap) (hns:s₁.heap.Ns mainGlobals mg) (hb:s₁.heap.Ns builtinsNs mb) (hbb:∀x:Str,x≠"__name__"->mb x=bootBuiltins x) (hlim:s₁.heap.NoLimit) (hg:s₁.gens=#[])
  (ha:s₁.heap.get? a=some {cls:=.type "list",data:=.seq vs.toArray}) (hi:IntsAre vs ns) (hl:ns.length<=sizeLine) (hr:Room k callerA)
  (F:∀base:Heap,K.In base->base.Ns mainGlobals mg->E7 P w K mg base CX k fa fd [x] sp) (hbind:∀(s:Shared) (u:Value),BindsTo s fd ⟨[u],[]⟩ [(x,u)])
  (hsp:∀H:Hp,WE H->SqL K H a (ns.map V.int)->sp [.ref a] H (λv _=>v=.bl true) λ_ _ _=>False)
  (hCX:∀H e s',CX [] H s₁ (λ_ _ _=>False) e s'->False) :
  codeAny (model P w) callerA (.call (.ref fa) ⟨[.ref a],[]⟩) (λr s'=>r=.ok (.ret (.bool true))/\OldK s₁.heap s'.heap/\s'.os=s₁.os/\AllBare s'.gens) s₁:=by
 have rv:=K5 hi
 have lenV:=hi.length
 have core:∀H:Hp,WE H->SqL K H a (ns.map V.int)->HOk P w H s₁.heap->(∀b,H b≠none->b=a)->(H a≠none->K.lookup a=none) ->
   codeAny (model P w) callerA (.call (.ref fa) ⟨[.ref a],[]⟩) (λr s'=>r=.ok (.ret (.bool true))/\OldK s₁.heap s'.heap/\s'.os=s₁.os/\AllBare s'.gens) s₁:=by
  intro H hO hS hok hA hK
  have base_of:∀{b:Addr}{o:Obj},s₁.heap.get? b=some o->H b=none->(LQ s₁.heap H).get? b=some o:=λe n=>Q2 e n
  have noA:∀{b:Addr}{o:Obj}{es:Array DictEntry}{ep:Nat},s₁.heap.get? b=some o->o.data=.dict es ep->H b=none:=λ{b o es ep} e d=>by
   cases q:H b with
   |none=>rfl
   |some u =>
    have e':b=a:=hA b (by rw[q];simp)
    subst e'
    rw[ha] at e;cases e
    have d':Data.seq vs.toArray _=Data.dict es ep:=d
    cases d'
  have nsK:∀{b:Addr}{m:Str->Option Value},s₁.heap.Ns b m->(LQ s₁.heap H).Ns b m:=λ{b m} ⟨o,es,ep,e,d,r⟩=>⟨o,es,ep,base_of e (noA e d),d,r⟩
  have hKb:K.In (LQ s₁.heap H):=λb o e=>base_of (KX b o e) (by
   cases q:H b with
   |none=>rfl
   |some u =>
    have e':b=a:=hA b (by rw[q];simp)
    subst e'
    rw[hK (by rw[q];simp)] at e;cases e)
  have hM:Mod K mg (LQ s₁.heap H):=⟨hKb,nsK hns,⟨mb,nsK hb,hbb⟩,let ⟨mc,h1,h2⟩:=hlim;⟨mc,nsK h1,h2⟩⟩
  have e0:Uw P w K mg (LQ s₁.heap H) callerA [] s₁ H:=⟨rfl,hM,λb o e=>TU e,Nat.le_of_eq (Pk _ _),trivial,λb hb=>absurd (show b∈([]:List Addr) from hb) (by simp),hok,.of_eq hg⟩
  refine codeAny_mono ((F _ hKb (nsK hns)).run callerA [] s₁ H ⟨[.ref a],[]⟩ [.ref a] [.ref a] _ _ hr e0 (hbind s₁ (.ref a)) (.cons rfl .nil) (hsp H hO hS)) λr s' h=>?_
  cases r with
  |error e=>exact(hCX H e s' h).elim
  |ok fl =>
   cases fl with
   |next=>exact False.elim h
   |brk=>exact False.elim h
   |cont=>exact False.elim h
   |ret u =>
    obtain⟨v,H',os,bare,un,hok',r',q⟩:=h
    have q':v=.bl true:=q
    subst q'
    obtain rfl:u=Value.bool true:=r'
    refine⟨rfl,OldK.of_keep λb o e=>?_,os,bare⟩
    cases q:H b with
    |none=>exact un.keep b o e q (by intro z;exact absurd (show b∈([]:List Addr) from z) (by simp)) (by simp)
    |some u =>
     rcases hO b with z|⟨ob,xs,z⟩
     ·rw[q] at z;cases z
     ·have z2:=un.frzs b ob _ z
      obtain⟨e1,_⟩:=hok b _ z
      obtain⟨e2,_⟩:=hok' b _ z2
      rw[e] at e1;cases e1
      exact e2
 cases hk:K.lookup a with
 |some o =>
  have e:=KX a o hk
  rw[ha] at e
  cases e
  refine core (λ_=>none) (λ_=>.inl rfl) (.inr ⟨_,vs.toArray,_,hk,rfl,rfl,rfl,by rw[Az,lenV];exact hl,by simpa using rv⟩) (λb u z=>by have z':(none:Option HO)=some u:=z;cases z') (λb z=>absurd rfl z) λz=>absurd rfl z
 |none =>
  refine core (λb=>if b=a then some (.frz {cls:=.type "list",data:=.seq vs.toArray} (.lst (ns.map V.int))) else none) (λb=>?_) (.inl (.inr ⟨{cls:=.type "list",data:=.seq vs.toArray},if_pos rfl⟩)) (λb u z=>?_) (λb z=>?_) λ_=>hk
  ·by_cases hb:b=a
   ·exact .inr ⟨_,_,if_pos hb⟩
   ·exact .inl (if_neg hb)
  ·by_cases hb:b=a
   ·have z':=(if_pos hb).symm.trans z
    cases z'
    subst hb
    exact⟨ha,by rw[Af];exact hl,vs,_,rv,ha⟩
   ·have z':=(if_neg hb).symm.trans z
    cases z'
  ·by_cases hb:b=a
   ·exact hb
   ·exact absurd (if_neg hb) z
def UC {l:W.OpenLaw}{n k:Nat}{q:Program}{loose:List Str}{XP:(Str->Option Value)->Heap->Prop}{YP:World->Heap->Prop}{d:DefRec}{K:Params->W.Frag}{CX:World->CXT}{sp:World->Sp}{x:Str}
  (hn:l.most=some n) (hn2:n<=sizeLine) (hdf:d.params.defaults=[]) (hr:Room k callerA)
  (hY:∀(w:World) (h:Heap),YP w h->(K w.params).In h)
  (F:∀(w:World) (mg:Str->Option Value) (fa:Addr) (h:Heap),(K w.params).In h->h.Ns mainGlobals mg->mg d.name=some (.ref fa) ->
   ∃fd:FuncData,(∀(s:Shared) (u:Value),BindsTo s fd ⟨[u],[]⟩ [(x,u)]) /\
    ∀base:Heap,(K w.params).In base->base.Ns mainGlobals mg->E7 l.prog w (K w.params) mg base (CX w) k fa fd [x] (sp w))
  (hsp:∀(w:World) (H:Hp) (a:Addr) (ns:List Int),ns.length<=n->WE H->SqL (K w.params) H a (ns.map V.int)->sp w [.ref a] H (λv _=>v=.bl true) λ_ _ _=>False)
  (hCX:∀(w:World) (H:Hp) (s:Shared) (e:Value) (s':Shared),CX w [] H s (λ_ _ _=>False) e s'->False) :
  W.WalkO q loose XP YP l.row.toRowW d [] (λf vs=>PySem.call f vs):=by
 refine Att.MW hn hdf λw s₀ s₁ mg mb fa o pm cd doc a vs ns G Y ho hd hcd hmg hobj hints hlen hg=>?_
 have KX:=hY w _ Y
 obtain⟨fd,hb,hF⟩:=F w mg fa _ KX G.T.g hmg
 exact Rz KX G.T.g G.T.b G.T.builtins G.T.nolimit hg hobj hints (AU hlen hn2) hr hF hb (λH hO hS=>hsp w H a ns hlen hO hS) λH e s'=>hCX w H s₁ e s'
def GJ (s:Stmt):Arguments:=match s with
 |.FunctionDef _ a _ _ _ _ _ _ _ _=>a
 |_=>{posonlyargs:=[],args:=[],vararg:=none,kwonlyargs:=[],kw_defaults:=[],kwarg:=none,defaults:=[]}
def EK (s:Stmt):List Stmt:=match s with
 |.FunctionDef _ _ b _ _ _ _ _ _ _=>b
 |_=>[]
def CO (s:Stmt):Scope:=match s with
 |.FunctionDef _ _ _ _ _ _ sc _ _ _=>sc
 |_=>{kind:=.function,names:=[],isGenerator:=false,isCoroutine:=false}
abbrev CX0:CXT:=λ_ _ _ _ _ _=>False
abbrev E0:XK:=λ_ _ _=>False
def Yo {X:Cx}:Passes CX0 X E0:=λ_ _ _ _ _ _ _ h=>h.elim
structure Fun (K:W.Frag) (x qual:Str) (st:Stmt) (f:Addr) (fd:FuncData):Prop where
 ex:∃(oc:Value) (od:Option Addr) (kV doc pm:Value) (an:Option Addr) (cdv ct:Value) (osl:Array (Option Value)),
  fd=W.fnOf x qual (GJ st) (EK st) (CO st) .none kV doc pm an cdv ct/\K.lookup f=some ⟨oc,od,.func fd,osl⟩/\W.codeIn K cdv qual=true
 kp:W.keepIn K (.ref f)=true
section
variable {P:Program}{w:World}{K:W.Frag}{mg:Str->Option Value}{base:Heap}
def Fun.ok {x qual:Str}{st:Stmt}{f:Addr}{fd:FuncData}{N ps:List Str}{k:Nat}{sp:Sp}(F:Fun K x qual st f fd)(S:DG N ps (CO st))(len:∀vs H Q E,sp vs H Q E->vs.length=ps.length)
  (hbody:∀(cdv:Value) (A:Around) (outer:List Env) (s:Shared) (H:Hp) (vs:List V) (Q:VK) (E:XK),Room k (A.deeper (envOfC qual (CO st) s.heap.objs.size f cdv))->sp vs H Q E ->
   ∃t,PSs (KJ CX0 P w K mg base N qual (CO st) f cdv A outer s H E).nox (EK st) t/\t {nx:=λ_ H'=>Q .non H',rt:=Q} (start N vs) H):E7 P w K mg base CX0 (k+1) f fd ps sp:=by
 obtain⟨oc,od,kV,doc,pm,an,cdv,ct,osl,rfl,lk,hcd⟩:=F.ex
 refine Yw lk hcd S len λA outer s H vs Q E hr hsp=>?_
 obtain⟨t,h,q⟩:=hbody cdv A outer s H vs Q E hr hsp
 exact⟨t,h.nox,q⟩
def Fun.binds {x qual:Str}{st:Stmt}{f:Addr}{fd:FuncData}{ps:List Str}(F:Fun K x qual st f fd)
  (h:∀(kV doc pm:Value) (an:Option Addr) (cdv ct:Value) (us:List Value),us.length=ps.length->bindArgs (W.fnOf x qual (GJ st) (EK st) (CO st) .none kV doc pm an cdv ct) ⟨us,[]⟩=pure (ps.zip us)):Binds K fd ps []:=by
 obtain⟨oc,od,kV,doc,pm,an,cdv,ct,osl,rfl,lk,hcd⟩:=F.ex
 exact .all (h kV doc pm an cdv ct)
def Sl {x qual:Str}{st:Stmt}{f:Addr}{oc:Value}{od an:Option Addr}{osl:Array (Option Value)}{kV doc pm cdv ct:Value}(l:K.lookup f=some ⟨oc,od,.func (W.fnOf x qual (GJ st) (EK st) (CO st) .none kV doc pm an cdv ct),osl⟩)
  (c:W.codeIn K cdv qual=true) (k:W.keepIn K (.ref f)=true):Fun K x qual st f (W.fnOf x qual (GJ st) (EK st) (CO st) .none kV doc pm an cdv ct):=⟨⟨oc,od,kV,doc,pm,an,cdv,ct,osl,rfl,l,c⟩,k⟩
end
section
variable {X:Cx}
def pv (i:Nat){x:Str}{pos:Pos}(hN:X.N[i]?=some x:=by rfl)(hv:Vis X.env.scope x:=by first|exact Or.inl rfl|exact Or.inr (Or.inl rfl)|exact Or.inr (Or.inr rfl))(hd:(x==("__debug__":Str))=false:=by decide)
  (hcd:(x==("__classdict__":Str))=false:=by decide):PE X (.Name x pos) (Yh i):=QO hN hv hd hcd
end
abbrev Go (prog:Program) (w:World) (A:Around) {α:Type} (t:Sem α) (Q:α->Zaa) (s:Shared):Prop:=wpAny (model prog w) A t Q (λ_ _=>False) s
def tests (env:Env)(ifs:List Expr):Sem Bool:=forIn ifs true λc r =>
 if r=true then (isTrue c env (eval c env)>>=λok=>pure (ForInStep.yield ok)) else pure (ForInStep.yield r)
def NP {scope:Scope}{env:Env}(h:∀y∈scope.names,y.2=.free->∃c,env.cells.lookup y.1=some c) :
  ∃cl,closureFor scope env=pure cl/\(∀x c,cl.lookup x=some c->env.cells.lookup x=some c)/\∀y∈scope.names,y.2=.free->∃c,cl.lookup y.1=some c:=by
 have gen:∀(l:List (Str×NameKind)) (acc:List (Str×Addr)),(∀y∈l,y.2=.free->∃c,env.cells.lookup y.1=some c)->(∀x c,acc.lookup x=some c->env.cells.lookup x=some c) ->
   ∃cl,(forIn l acc λ(x:Str×NameKind) (r:List (Str×Addr))=>if (x.2==NameKind.free)=true then do let c<-cellOf env x.1;pure (ForInStep.yield ((x.1,c)::r)) else pure (ForInStep.yield r))=(pure cl:Sem (List (Str×Addr))) /\
    (∀x c,cl.lookup x=some c->env.cells.lookup x=some c)/\(∀y∈l,y.2=.free->∃c,cl.lookup y.1=some c)/\∀x c,acc.lookup x=some c->∃c',cl.lookup x=some c':=by
  intro l
  induction l with
  |nil=>intro acc _ ha;exact⟨acc,rfl,ha,λ_ z=>(nomatch z),λx c e=>⟨c,e⟩⟩
  |cons y r ih =>
   intro acc hl ha
   obtain⟨n,k⟩:=y
   by_cases hk:k=.free
   ·subst hk
    obtain⟨c,hc⟩:=hl (n,.free) List.mem_cons_self rfl
    have ha':∀x c',((n,c)::acc).lookup x=some c'->env.cells.lookup x=some c':=λx c' e=>by
     by_cases hx:x=n
     ·subst hx
      have hb:(x==x)=true:=beq_iff_eq.mpr rfl
      simp only[List.lookup,hb] at e
      cases e;exact hc
     ·have hb:(x==n)=false:=beq_eq_false_iff_ne.mpr hx
      simp only[List.lookup,hb] at e
      exact ha x c' e
    obtain⟨cl,h1,h2,h3,h4⟩:=ih ((n,c)::acc) (λy hy=>hl y (BR _ hy)) ha'
    refine⟨cl,?_,h2,λy hy hf=>?_,λx c' e=>?_⟩
    ·rw[BK]
     have e:cellOf env n=pure c:=by unfold cellOf;rw[hc]
     simp only[beq_self_eq_true,if_true,e,pure_bind]
     exact h1
    ·refine(Ap.mp hy).elim (λz=>?_) λhy=>?_
     ·subst z
      have hb:(n==n)=true:=beq_iff_eq.mpr rfl
      exact h4 n c (by simp only[List.lookup,hb])
     ·exact h3 y hy hf
    ·by_cases hx:x=n
     ·subst hx
      have hb:(x==x)=true:=beq_iff_eq.mpr rfl
      exact h4 x c (by simp only[List.lookup,hb])
     ·have hb:(x==n)=false:=beq_eq_false_iff_ne.mpr hx
      exact h4 x c' (by simp only[List.lookup,hb];exact e)
   ·obtain⟨cl,h1,h2,h3,h4⟩:=ih acc (λy hy=>hl y (BR _ hy)) ha
    refine⟨cl,?_,h2,λy hy hf=>?_,h4⟩
    ·rw[BK]
     have e:(k==NameKind.free)=false:=by simpa using hk
     simp only[e,Ay,Bd,pure_bind]
     exact h1
    ·refine(Ap.mp hy).elim (λz=>?_) λhy=>?_
     ·subst z
      exact absurd hf hk
     ·exact h3 y hy hf
 obtain⟨cl,h1,h2,h3,_⟩:=gen scope.names [] h (λx c e=>by simp at e)
 refine⟨cl,?_,h2,h3⟩
 unfold closureFor
 rw[<- h1]
 simp only[bind_pure]
def DA (X:Cx)(scope:Scope)(N:List Str)(cl:List (Str×Addr))(C:Addr)(s₁:Shared)(H₁:Hp)(fp:List Addr):Cx where
 prog:=X.prog
 w:=X.w
 K:=X.K
 mg:=X.mg
 base:=X.base
 A:=X.A
 N:=N
 s₀:=s₁
 H₀:=H₁
 env:=compEnvC scope cl C X.env
 outer:=X.stack
 stack:=X.stack
 ex:=fp
 fn:=λ_=>false
 calm:=X.calm
 pn:=[]
 xe:=λ_ _=>False
def PF (X:Cx)(ifs:List Expr)(t:TT):Prop:=
 ∀(pj:Zab) (s:Shared) (σ:St) (H:Hp) (Q:Bool->Hp->Prop),Inv X pj σ H s->t σ H Q ->
  wpAny (model X.prog X.w) X.A (tests X.env ifs) (TP X pj σ Q) X.xe s
def Aag:TT:=λ_ H Q=>Q true H
def We {X:Cx}:PF X [] Aag:=λ_ _ _ H _ I h=>wpAny_tests_nil ⟨H,I,h⟩
def Xk {X:Cx}{c:Expr}{t:TT}(h:PT X c t):PF X [c] t:=λpj s σ H Q I q=>wpAny_tests_one (h pj s σ H Q I q)
def FvOk (X:Cx)(sc:Scope):List (Nat×Str)->Prop
 |[]=>True
 |p::r=>(X.N[p.1]?=some p.2/\(X.env.scope.names.lookup p.2=some .cell\/X.env.scope.names.lookup p.2=some .free)/\(sc.names.lookup p.2=some .cell\/sc.names.lookup p.2=some .free))/\FvOk X sc r
theorem FvOk.get {X:Cx}{sc:Scope}:∀{l:List (Nat×Str)}{k:Nat}{p:Nat×Str},FvOk X sc l->l[k]?=some p ->
  X.N[p.1]?=some p.2/\(X.env.scope.names.lookup p.2=some .cell\/X.env.scope.names.lookup p.2=some .free)/\(sc.names.lookup p.2=some .cell\/sc.names.lookup p.2=some .free)
 |[],_,_,_,h=>(by simp at h)
 |_::_,0,_,hf,h=>by simp at h;subst h;exact hf.1
 |_::_,k+1,_,hf,h=>FvOk.get (k:=k) hf.2 (by simpa using h)
def st0 (nc:Nat)(fv:List (Nat×Str))(σ:St):St:=List.replicate nc none++fv.map λp=>σ.getD p.1 none
def Jb {scope:Scope}{env:Env}{x:Str}(hcell:∀y∈scope.names,y.2≠.cell)
  (h:(relabel scope env).names.lookup x=some .cell\/(relabel scope env).names.lookup x=some .free):(x,NameKind.free)∈scope.names:=by
 have key:∀k,(relabel scope env).names.lookup x=some k->k=.cell\/k=.free->(x,NameKind.free)∈scope.names:=λk hk hkk=>by
  have hm:=Ct hk
  obtain⟨⟨n,k'⟩,hy,e⟩:=Ah.mp hm
  dsimp only at e
  by_cases hc:(k'==NameKind.free&&env.scope.kind==.function&&env.kindOf n==some .cell)=true
  ·rw[if_pos hc] at e
   cases e
   have:k'=.free:=by
    rw[Ac,Ac] at hc
    exact beq_iff_eq.mp hc.1.1
   subst this
   exact hy
  ·rw[if_neg hc] at e
   cases e
   rcases hkk with e|e
   ·subst e;exact absurd rfl (hcell _ hy)
   ·subst e;exact hy
 rcases h with h|h
 ·exact key _ h (.inl rfl)
 ·exact key _ h (.inr rfl)
def Un.lay {fs ex:List Addr}{H H':Hp}{h h':Heap}{D:Addr}{o:HO}(u:Un fs ex H H' h h')(hD:h.objs.size<=D)(hn:H' D=none):Un fs ex H (upd H' D o) h h' where
 keep:=u.keep
 slot:=u.slot
 free:=λb ob q n hx=>by
  rw[Dp (Ax (AN (Ao q) hD))]
  exact u.free b ob q n hx
 there:=u.there
 tups:=λb xs q=>by have:=u.tups b xs q;rw[Dp (Dm this hn)];exact this
 frzs:=λb ob xs q=>by have:=u.frzs b ob xs q;rw[Dp (Dm this hn)];exact this
 tbls:=λb ps q=>by
  obtain⟨m,e⟩:=u.tbls b ps q
  exact⟨m,by rw[Dp (Dm e hn)];exact e⟩
def HOk.lay {P:Program}{w:World}{H:Hp}{h:Heap}{D:Addr}{o:HO}(x:HOk P w H h)(hn:H D=none)(new:ObjOk P w (upd H D o) h D o):HOk P w (upd H D o) h:=λb u e=>by
 by_cases hb:b=D
 ·subst hb;rw[DT] at e;cases e;exact new
 ·rw[Dp hb] at e
  exact(x b u e).stay (λc v _ q=>q) (λc q=>by rw[Dp (Dm q hn)];exact q) λc xs q=>by rw[Dp (Dm q hn)];exact q
section
variable {X:Cx}{tg iter elt:Expr}{ifs:List Expr}{scope:Scope}{pos:Pos}{wi:TI}{own:List Str}{fv:List (Nat×Str)}{g:TG}{tt:TT}{te:TE}
structure MI (X:Cx) (scope:Scope) (fv:List (Nat×Str)):Prop where
 calm:X.calm=true
 kind:scope.kind=.function
 cell:∀y∈scope.names,y.2≠.cell
 names:∀y∈scope.names,y.2=.local->scope.names.lookup y.1=some .local
 free:∀y∈scope.names,y.2=.free->X.env.kindOf y.1=some .cell\/X.env.kindOf y.1=some .free
 fv:FvOk X (relabel scope X.env) fv
end
section
variable {X:Cx}
def Mu:OpR X (compareOp .IsNot) (λx y H Q=>∃a b,x=.bl a/\y=.bl b/\Q (.bl (a != b)) H):=by
 intro pj s σ H x y v u Q I rx ry h
 obtain⟨a,b,rfl,rfl,q⟩:=h
 cases rx
 cases ry
 exact isnot_bool (QG I q rfl)
def N2:OpR X (binaryOp .Mult) (λx y H Q=>∃(z:Str) (n:Int),x=.str z/\y=.int n/\MulOk z n/\Q (.str (Txt.mul z n)) H):=by
 intro pj s σ H x y v u Q I rx ry h
 obtain⟨z,n,rfl,rfl,hok,q⟩:=h
 obtain⟨t,rfl⟩:=rx
 obtain⟨t',rfl⟩:=ry
 exact SB.mul hok λt' k=>⟨.str _,H,I.tok _,⟨_,rfl⟩,q⟩
theorem part_of {v:Value}{o:Option Int}(p:IsPart v o):∃l:Option (Int×Tok),v=partValue l/\l.map (·.1)=o:=by
 cases p with
 |none=>exact⟨none,rfl,rfl⟩
 |int i t=>exact⟨some (i,t),rfl,rfl⟩
def W9:SlR X (λx lo hi H Q=>∃z:Str,x=.str z/\z.length<=sizeLine/\Q (.str (Txt.slice z lo hi)) H):=by
 intro pj s σ H x v vl vu lo hi sl Q I rx hs pl pu h
 obtain⟨z,rfl,hz,q⟩:=h
 obtain⟨t,rfl⟩:=rx
 obtain⟨l,rfl,rfl⟩:=part_of pl
 obtain⟨u,rfl,rfl⟩:=part_of pu
 refine⟨"str",_,F.slot_str_getitem.lookup,typeIs_str _ _ _,?_⟩
 refine wpAny_getItem_str_slice (l:=l) (u:=u) (st:=none) hs rfl (post_val_or_str ⟨AU (Txt.slice_le z _ _) hz,λt' k=>?_⟩)
 exact⟨.str _,H,I.tok _,⟨_,rfl⟩,q⟩
end
section
variable {X:Cx}{pj:Zab} {σ:St}{H:Hp}{s:Shared}{h':Heap}
def Inv.turnedL {t':Nat}{ch:List Addr}(I:Inv X pj σ H s)(k:∀b o,b∉ch->s.heap.get? b=some o->h'.get? b=some o)(hf:∀b∈ch,HJ X pj H b):Inv X pj σ H {s with heap:=h',toks:=t'}:=by
 have nit:∀b u,H b=some u->b∉ch:=λb u e z=>by rw[(hf b z).1] at e;cases e
 refine I.step (g':=s.gens) (d':=s.drawn) (ch:=ch) (λb hb=>?_) (λb o _ _ hc e _=>k b o hc e) (λb o _ _ hc e _=>⟨o.slots,k b o hc e⟩) (λ_ _ _ _ n=>n) (λb o hc e=>⟨o,k b o hc e⟩)
  (λ_ _ e=>e) (λ_ _ _ e=>e) (λb ps e=>⟨#[],by rw[e];simp⟩) (λm hm=>?_) (λb u e=>?_) I.bare
 ·obtain⟨_,f1,_,f3,f4,f5⟩:=hf b hb
  exact⟨f3,f1,f4,f5⟩
 ·obtain⟨o,es,ep,ho,r⟩:=hm
  exact⟨o,es,ep,k _ o (λz=>(hf _ z).2.1 rfl) ho,r⟩
 ·refine(I.hok b u e).stay (λc v hc q=>k c v ?_ q) (λ_ q=>q) λ_ _ q=>q
  rcases hc with z|z
  ·rw[z];exact nit b u e
  ·exact nit c _ z
theorem Inv.lay {T:Addr}{o:HO}(I:Inv X pj σ H s)(hf:HJ X pj H T)(hs:X.s₀.heap.objs.size<=T)(new:ObjOk X.prog X.w (upd H T o) s.heap T o):Inv X pj σ (upd H T o) s:=by
 obtain⟨f0,f1,f2,f3,f4,f5⟩:=hf
 refine⟨I.ok,I.os,I.bare,I.base.lay hs f0,I.loc,I.cell,?_,λx c e=>?_,λp hp=>?_,I.hok.lay f0 new,I.len⟩
 ·rw[Dp (Ne.symm f1)];exact I.free
 ·rw[Dp (f4 x c e)];exact I.freeC x c e
 ·obtain⟨e,n,r⟩:=I.pin p hp
  exact⟨e,by rw[Dp (f5 p hp)];exact n,r⟩
end
def Its (x:Str):It:=⟨λi _=>i<x.cps.size,λi H v H'=>H'=H/\∃c,x.cps[i]?=some c/\v=.str ⟨#[c]⟩,λi _=>i=x.cps.size⟩
def Qu {P:Program}{w:World}{K:W.Frag}{tg:Expr}{ty:String}(x:Str)(t:Tok)(it:Addr)
  (W:∀A:Around,A.handled=none->Walks P w A it [it] [it] x.cps.size (SignAt x) (λi h=>h.IsStrIter it ty x t i)) (W0:∀A:Around,∀i (s:Shared) (Q:Value->Zaa) (E:Value->Zaa),s.heap.IsStrIter it ty x t i->Q (.ref it) s->wpAny (model P w) A (pyIter (.ref it)) Q E s)
  (hn:["enumerate","zip","dict_itemiterator","dict_reverseitemiterator","odict_iterator","itertools.zip_longest","itertools.pairwise"].contains ty=false):Turn P w K tg (Its x) [it] it (λi h=>h.IsStrIter it ty x t i) where
 mem:=by simp
 obj:=λi h st b hb=>by
  have e:b=it:=by simpa using hb
  subst e
  obtain⟨o,e,c,d⟩:=st
  exact⟨o,e,λv z=>by rw[d] at z;cases z⟩
 keep:=λi h h' st k=>by
  obtain⟨o,e,r⟩:=st
  exact⟨o,k it (by simp) o e,r⟩
 item:=by
  intro X hP hw hK hc i pj s σ H E I hf st hg
  subst hP hw hK
  refine(W X.A (I.ok.hd hc)).item i s _ _ hg st λv h' tk hv st' kk=>?_
  obtain⟨c,u,hc',rfl⟩:=hv
  have I1:Inv X pj σ H {s with heap:=h',toks:=tk}:=I.turnedL kk hf
  obtain⟨o,e,c2,d⟩:=id st'
  exact⟨_,rfl,Nd (s:={s with heap:=h',toks:=tk}) e c2 d hn ⟨.str ⟨#[c]⟩,H,I1,⟨u,rfl⟩,⟨rfl,c,hc',rfl⟩,st',λb hb=>(hf b hb).1⟩⟩
 done:=by
  intro X hP hw hK hc i pj s σ H E I hf st hg
  subst hP hw hK
  have e:i=x.cps.size:=hg
  subst e
  exact(W X.A (I.ok.hd hc)).done s _ _ st λh' tk kk=>⟨rfl,I.turnedL kk hf⟩
 self:=λA i s Q E st h=>W0 A i s Q E st h
def Aap (tl:TE):TI:=fun σ H R=>tl σ H λx H1=>∃z,x=.str z/\R (Its z) H1
def Vh {X:Cx}{tg l:Expr}{tl:TE}(hl:PE X l tl):PI X tg l (Aap tl):=by
 intro pj s σ H R I h
 refine thn (hl pj s σ H _ I h) λv s1 ⟨x,H1,I1,r1,q1⟩=>?_
 obtain⟨z,e,q⟩:=q1
 subst e
 obtain⟨t,rfl⟩:=r1
 have fin:∀ty:String,(∀A:Around,A.handled=none->Walks X.prog X.w A s1.heap.objs.size [s1.heap.objs.size] [s1.heap.objs.size] z.cps.size (SignAt z) (λi h=>h.IsStrIter s1.heap.objs.size ty z t i)) ->
   (∀A:Around,∀i (s:Shared) (Q:Value->Zaa) (E:Value->Zaa),s.heap.IsStrIter s1.heap.objs.size ty z t i->Q (.ref s1.heap.objs.size) s->wpAny (model X.prog X.w) A (pyIter (.ref s1.heap.objs.size)) Q E s) ->
   ["enumerate","zip","dict_itemiterator","dict_reverseitemiterator","odict_iterator","itertools.zip_longest","itertools.pairwise"].contains ty=false ->
   PIE X pj σ tg R (.ref s1.heap.objs.size) {s1 with heap:=s1.heap.push {cls:=.type ty,data:=.fields #[.str z t,.int 0 0]}}:=λty W W0 hn=>by
  refine⟨s1.heap.objs.size,[s1.heap.objs.size],_,_,H1,rfl,I1.kept (t':=s1.toks) λb o e=>Ad _ e,Qu z t _ W W0 hn,⟨_,Ak _ rfl,rfl,rfl⟩,λb hb=>?_,q⟩
  have e:b=s1.heap.objs.size:=by simpa using hb
  subst e
  exact I1.fpOk (Ai _) (I1.hok.fresh (Ai _))
 cases ha:z.cps.all (·<128)
 ·exact wpAny_pyIter_wide ha (fin _ (λA hA=>Walks.strWide hA _ z t) (λA i s Q E st h=>wpAny_pyIter_striter_wide st h) (by decide))
 ·exact wpAny_pyIter_ascii ha (fin _ (λA hA=>Walks.strAscii hA _ z t) (λA i s Q E st h=>wpAny_pyIter_striter_ascii st h) (by decide))
def W7 {a b:Nat}(h:a<b\/b<a):a≠b:=by ext
def Gh (n a b:Nat)(h1:a<n)(h2:b<n):ZipApart (n+4) (n+2) (n+3) n (n+1) a b:=by
 constructor<;>(refine W7 ?_;ext)
section
variable {prog:Program}{w:World}{A:Around}{E:Value->Zaa}{s:Shared}
def Ud:isSubtype (.type "tuple") (.type "set")=pure false:=(by rw[B2];kernel_rfl)
def NQ:isSubtype (.type "tuple") (.type "frozenset")=pure false:=(by rw[B2];kernel_rfl)
abbrev Ew (led:Bool):Obj:={cls:=.type "set",dict:=none,data:=.set #[] 0 (.fresh 0 0 led)}
def call_cls {T nw ini:String}{args:List Value}{Q Q1:Value->Zaa}(ft:TypeCalled T nw ini)(hct:checkTypeCall T ⟨args,[]⟩=pure ())
  (hn:codeAny (model prog w) A.in1 (.call (.builtin nw) ⟨.type T::args,[]⟩) (wants Q1 E) s)
  (hi:∀obj z,Q1 obj z->z.TypeIs obj T/\codeAny (model prog w) A.in1 (.call (.builtin ini) ⟨obj::args,[]⟩) (wants (λr z'=>r=.none/\Q obj z') E) z) :
  wpAny (model prog w) A (PySem.call (.type T) args) Q E s:=by
 have m1:=ft.made
 have m2:=ft.sub
 have m3:=ft.notType
 have m4:=ft.canCreate
 obtain⟨_,_,m5⟩:=ft.mro
 have cl:wpAny (model prog w) A.in1 (callAny (.type T) ⟨args,[]⟩) (λfin z=>match fin with
   |.done f=>wants Q E (.ok f) z
   |.again c'=>c'.quiet=true/\codeAny (model prog w) A c' (wants Q E) z) (λe z=>wants Q E (.error e) z) s:=by
  refine Ab (And.intro (Code.quiet_builtin _ (by symm)) (Bu F.entry_type_call ?_))
  rw[Around.under_plain (weight_type_call_type T args []) (by rfl)]
  repeat (any_goals (first|wp_step|assumption))
  refine codeAny_mono hn λr z hz=>?_
  cases r with
  |error e=>exact hz
  |ok fl =>
   cases fl<;>first|exact hz.elim|skip
   rename_i obj
   obtain⟨hT,hc⟩:=hi _ _ hz
   have m6:=ft.init.lookup
   have m7:=ft.init.bind obj
   repeat (any_goals (first|wp_step|assumption))
   refine codeAny_mono hc λr2 z2 h2=>?_
   cases r2 with
   |error e=>exact h2
   |ok f2 =>
    cases f2<;>first|exact h2.elim|skip
    obtain⟨e0,hq⟩:=h2
    subst e0
    repeat (any_goals (first|wp_step|assumption))
 exact wpAny_call (codeAny_of_tree cl)
end
structure LcS (esc scope:Scope):Prop where
 kind:scope.kind=.function
 cell:∀y∈scope.names,y.2≠.cell
 names:∀y∈scope.names,y.2=.local->scope.names.lookup y.1=some .local
 free:∀y∈scope.names,y.2=.free->esc.names.lookup y.1=some .cell\/esc.names.lookup y.1=some .free
def HE {X:Cx}{scope:Scope}{fv:List (Nat×Str)}(esc:Scope)(he:X.env.scope=esc)(hc:X.calm=true)(h:LcS esc scope)(hf:FvOk X (relabel scope X.env) fv):MI X scope fv:=
 ⟨hc,h.kind,h.cell,h.names,λy hy hk=>by subst he;exact h.free y hy hk,hf⟩
end L2
namespace PV
open PySem L2 PySem.Spec PyProof.Rows
theorem KC (xs:Array Nat)(j:Nat)(hs:xs.toList.Pairwise (·<·)):∀(f lo hi:Nat),hi-lo<=f->lo<=hi->hi<=xs.size->(∀(i v:Nat),i<lo->xs.toList[i]?=some v->v<j)->(∀(i v:Nat),hi<=i->xs.toList[i]?=some v->j<=v) ->
  SetTable.below.go xs j f lo hi<=xs.size/\(∀(i v:Nat),i<SetTable.below.go xs j f lo hi->xs.toList[i]?=some v->v<j)/\(∀(i v:Nat),SetTable.below.go xs j f lo hi<=i->xs.toList[i]?=some v->j<=v)
 |0,lo,hi,h,h1,h2,h3,h4=>by
  have:lo=hi:=by ext
  subst this
  exact⟨h2,h3,h4⟩
 |f+1,lo,hi,h,h1,h2,h3,h4=>by
  have mono:∀(i k v u:Nat),i<=k->xs.toList[i]?=some v->xs.toList[k]?=some u->v<=u:=λi k v u hik a b=>by
   rcases Bx i k with c|c
   ·obtain⟨ha,rfl⟩:=Ae.mp a
    obtain⟨hb,rfl⟩:=Ae.mp b
    exact Nat.le_of_lt (BU.mp hs i k ha hb c)
   ·obtain rfl:i=k:=by ext
    rw[a] at b
    cases b
    exact Ai _
  unfold SetTable.below.go
  by_cases c:lo<hi
  ·rw[if_pos c]
   dsimp only
   have hm:(lo+hi) / 2<xs.toList.length:=by rw[Array.length_toList];ext
   have em:=Al hm
   generalize xs.toList[(lo+hi) / 2]=v at em
   have eg:xs.getD ((lo+hi) / 2) j=v:=by
    rw[Bo,<- Aq,em]
    rfl
   rw[eg]
   by_cases c2:v<j
   ·rw[if_pos c2]
    exact KC xs j hs f _ _ (by ext) (by ext) h2 (λi u hi hu=>Nat.lt_of_le_of_lt (mono i _ u v (by ext) hu em) c2) h4
   ·rw[if_neg c2]
    exact KC xs j hs f _ _ (by ext) (by ext) (by ext) h3 (λi u hi hu=>AU (Nat.le_of_not_lt c2) (mono _ i v u hi em hu))
  ·rw[if_neg c]
   have:lo=hi:=by ext
   subst this
   exact⟨h2,h3,h4⟩
def JE {xs:Array Nat}(hs:xs.toList.Pairwise (·<·))(j:Nat):SetTable.below xs j<=xs.size/\(∀(i v:Nat),i<SetTable.below xs j->xs.toList[i]?=some v->v<j)/\(∀(i v:Nat),SetTable.below xs j<=i->xs.toList[i]?=some v->j<=v):=
 KC xs j hs xs.size 0 xs.size (by ext) (AX _) (Ai _) (λi v h=>absurd h (Nat.not_lt_zero _)) (λi v h e=>by
  have:=(Ae.mp e).1
  rw[Array.length_toList] at this
  ext)
theorem has_none (j:Nat):SetTable.has #[] j=false:=rfl
def OZ {t:SetTable}(hd:t.dummies=#[])(hs:t.place.toList.Pairwise (·<·))(j:Nat):(∃i,t.slot j=.live i/\t.place.toList[i]?=some j)\/(t.slot j=.empty/\j∉t.place.toList):=by
 obtain⟨_,b1,b2⟩:=JE hs j
 unfold SetTable.slot
 dsimp only
 by_cases c:t.place[SetTable.below t.place j]?=some j
 ·refine .inl ⟨SetTable.below t.place j,?_,by rw[Aq];exact c⟩
  rw[c]
  simp
 ·refine .inr ⟨?_,λhm=>?_⟩
  ·rw[hd,has_none]
   have:(t.place[SetTable.below t.place j]?==some j)=false:=by simpa using c
   rw[this]
   rfl
  ·obtain⟨i,ei⟩:=Aw.mp hm
   rcases B3 i (SetTable.below t.place j) with h|h|h
   ·exact absurd (b1 i j h ei) (Bz _)
   ·rw[h,Aq] at ei
    exact c ei
   ·obtain⟨hi,ei'⟩:=Ae.mp ei
    have hb:SetTable.below t.place j<t.place.toList.length:=by ext
    have x:=BU.mp hs _ i hb hi h
    have y:=b2 _ _ (Ai _) (Al hb)
    rw[ei'] at x
    ext
def IF {t:SetTable}(hd:t.dummies=#[])(hs:t.place.toList.Pairwise (·<·)){i j:Nat}(h:t.place.toList[i]?=some j):t.slot j=.live i:=by
 rcases OZ hd hs j with⟨i',e,h'⟩|⟨_,n⟩
 ·rw[e]
  obtain⟨a,a'⟩:=Ae.mp h
  obtain⟨b,b'⟩:=Ae.mp h'
  rcases B3 i i' with c|c|c
  ·have:=BU.mp hs i i' a b c;ext
  ·rw[c]
  ·have:=BU.mp hs i' i b a c;ext
 ·exact absurd (Ag h) n
def NX {xs:Array Nat}(hs:xs.toList.Pairwise (·<·)){j:Nat}(hj:j∉xs.toList):(SetTable.insertAt xs (SetTable.below xs j) j).toList.Pairwise (·<·):=by
 obtain⟨b0,b1,b2⟩:=JE hs j
 rw[SetTable.toList_insertAt,List.pairwise_append]
 have hdr:∀v∈xs.toList.drop (SetTable.below xs j),j<v:=λv hv=>by
  obtain⟨i,ei⟩:=Aw.mp hv
  rw[List.getElem?_drop] at ei
  have:=b2 _ v (by ext) ei
  rcases Ca this with h|h
  ·exact h
  ·exact absurd (h▸List.mem_of_mem_drop hv) hj
 have htk:∀v∈xs.toList.take (SetTable.below xs j),v<j:=λv hv=>by
  obtain⟨i,ei⟩:=Aw.mp hv
  have hi:i<SetTable.below xs j:=by
   have:=(Ae.mp ei).1
   rw[AA] at this
   ext
  rw[A9 hi] at ei
  exact b1 i v hi ei
 refine⟨hs.sublist (List.take_sublist _ _),Be.mpr ⟨hdr,hs.sublist (List.drop_sublist _ _)⟩,λa ha b hb=>?_⟩
 rcases Ap.mp hb with rfl|hb
 ·exact htk a ha
 ·exact Nat.lt_trans (htk a ha) (hdr b hb)
def adv (mask:Nat)(p:SetTable.Probe):SetTable.Probe:=
 if p.more > 0 then {p with j:=p.j+1,more:=p.more-1} else
 {p with j:=(SetTable.leap mask p.i p.perturb).1,more:=SetTable.runEnd mask (SetTable.leap mask p.i p.perturb).1-(SetTable.leap mask p.i p.perturb).1,i:=(SetTable.leap mask p.i p.perturb).1,perturb:=(SetTable.leap mask p.i p.perturb).2}
theorem Vo (t:SetTable)(p:SetTable.Probe):t.advance p=adv t.mask p:=rfl
def rn (mask:Nat)(q:Nat×Nat):SetTable.Probe:={j:=q.1,more:=SetTable.runEnd mask q.1-q.1,i:=q.1,perturb:=q.2,dummy:=none}
def lp (mask:Nat)(h:Int):Nat->Nat×Nat
 |0=>(SetTable.bits h % (mask+1),SetTable.bits h)
 |k+1=>SetTable.leap mask (lp mask h k).1 (lp mask h k).2
def pth (mask:Nat)(h:Int):Nat->SetTable.Probe
 |0=>rn mask (lp mask h 0)
 |n+1=>adv mask (pth mask h n)
theorem L8 {mask:Nat}{h:Int}{n:Nat}{q:Nat×Nat}(e:pth mask h n=rn mask q):∀m,m<=SetTable.runEnd mask q.1-q.1->pth mask h (n+m)={rn mask q with j:=q.1+m,more:=SetTable.runEnd mask q.1-q.1-m}
 |0,_=>by rw[Nat.add_zero,e];rfl
 |m+1,hm=>by
  have ih:=L8 e m (by ext)
  rw[<- Nat.add_assoc,pth,ih]
  unfold adv
  dsimp only
  rw[if_pos (by ext)]
  show SetTable.Probe.mk _ _ _ _ _=SetTable.Probe.mk _ _ _ _ _
  congr 1<;>ext
def Om {mask i:Nat}:SetTable.runEnd mask i-i<=9:=by unfold SetTable.runEnd;split<;>ext
def NH {mask i:Nat}(h:i<=mask):SetTable.runEnd mask i<=mask:=by unfold SetTable.runEnd;split<;>ext
theorem Ot (mask:Nat)(h:Int):∀k,(lp mask h k).1<=mask
 |0=>Nat.le_of_lt_succ (Nat.mod_lt _ (Nat.succ_pos _))
 |k+1=>Nat.le_of_lt_succ (Nat.mod_lt _ (Nat.succ_pos _))
theorem QL (mask:Nat)(h:Int):∀k,∃n,n<=10*k/\pth mask h n=rn mask (lp mask h k)
 |0=>⟨0,Ai _,rfl⟩
 |k+1=>by
  obtain⟨n,hn,e⟩:=QL mask h k
  have r9:=Om (mask:=mask) (i:=(lp mask h k).1)
  refine⟨n+(SetTable.runEnd mask (lp mask h k).1-(lp mask h k).1)+1,by ext,?_⟩
  rw[pth,L8 e _ (Ai _)]
  unfold adv
  dsimp only
  rw[if_neg (by ext)]
  rfl
def orb (mask:Nat):Nat->Nat->Nat
 |i,0=>i
 |i,m+1=>orb mask ((i*5+1) % (mask+1)) m
def Xo (mask:Nat):Nat->Nat->List Nat
 |0,_=>[]
 |n+1,i=>i::Xo mask n ((i*5+1) % (mask+1))
theorem Ju (mask:Nat):∀(a i b:Nat),orb mask i (a+b)=orb mask (orb mask i a) b
 |0,i,b=>by rw[Bb];rfl
 |a+1,i,b=>by rw[Nat.succ_add,orb,Ju mask a,orb]
theorem Mt {mask:Nat}{j:Nat}:∀(n i:Nat),j∈Xo mask n i->∃m,m<n/\orb mask i m=j
 |0,i,h=>by cases h
 |n+1,i,h=>by
  rcases Ap.mp h with rfl|h
  ·exact⟨0,Nat.succ_pos _,rfl⟩
  ·obtain⟨m,hm,e⟩:=Mt n _ h
   exact⟨m+1,by ext,e⟩
def FC (mask:Nat):Prop:=mask=7\/mask=31\/mask=127\/mask=15\/mask=63\/mask=255
def O5 {mask:Nat}(hm:FC mask){j:Nat}(hj:j<=mask):∃m,m<=mask/\orb mask 0 m=j:=by
 have key:(List.range (mask+1)).all (λj=>(Xo mask (mask+1) 0).contains j)=true:=by
  rcases hm with rfl|rfl|rfl|rfl|rfl|rfl<;>symm
 have:=AB.mp key j (Bc.mpr (by ext))
 obtain⟨m,h1,h2⟩:=Mt (mask+1) 0 (List.contains_iff_mem.mp this)
 exact⟨m,by ext,h2⟩
def QJ {mask:Nat}(hm:FC mask):orb mask 0 (mask+1)=0:=by
 rcases hm with rfl|rfl|rfl|rfl|rfl|rfl<;>symm
def Ou {mask:Nat}(hm:FC mask){i j:Nat}(hi:i<=mask)(hj:j<=mask):∃m,m<=mask/\orb mask i m=j:=by
 obtain⟨a,ha,ea⟩:=O5 hm hi
 obtain⟨b,hb,eb⟩:=O5 hm hj
 rcases Nat.le_total a b with c|c
 ·refine⟨b-a,by ext,?_⟩
  rw[<- ea,<- Ju,show a+(b-a)=b by ext,eb]
 ·by_cases c2:a=b
  ·exact⟨0,AX _,by rw[<- ea,<- eb,c2];rfl⟩
  ·refine⟨(mask+1-a)+b,by ext,?_⟩
   rw[<- ea,<- Ju,show a+((mask+1-a)+b)=(mask+1)+b by ext,Ju,QJ hm,eb]
theorem Xy (mask:Nat)(h:Int):∀k,(lp mask h k).2=SetTable.bits h / 32 ^ k
 |0=>by rw[Nat.pow_zero,Nat.div_one];rfl
 |k+1=>by
  show(lp mask h k).2 / 32=_
  rw[Xy mask h k,Nat.div_div_eq_div_mul,Nat.pow_succ]
def Tp (h:Int):SetTable.bits h<32 ^ 13:=by
 unfold SetTable.bits
 have a:=BL h (show(2 ^ 64:Int)≠0 by decide)
 have b:=BA h (show(0:Int)<2 ^ 64 by decide)
 have c:(2 ^ 64:Int)=18446744073709551616:=by decide
 have d:(32 ^ 13:Nat)=36893488147419103232:=by decide
 rw[d]
 ext
def Sr (mask:Nat)(h:Int):∀m,(lp mask h (13+m)).1=orb mask (lp mask h 13).1 m:=by
 have q0:∀k,13<=k->(lp mask h k).2=0:=λk hk=>by
  rw[Xy]
  exact Nat.div_eq_of_lt (AN (Tp h) (Nat.pow_le_pow_right (by decide) hk))
 have st:∀k,13<=k->(lp mask h (k+1)).1=((lp mask h k).1*5+1) % (mask+1):=λk hk=>by
  show((lp mask h k).1*5+1+(lp mask h k).2 / 32) % (mask+1)=_
  rw[q0 k hk]
 have gen:∀m k,13<=k->(lp mask h (k+m)).1=orb mask (lp mask h k).1 m:=by
  intro m
  induction m with
  |zero=>intro k _;rfl
  |succ m ih =>
   intro k hk
   rw[show k+(m+1)=(k+1)+m by ext,ih (k+1) (by ext),st k hk]
   rfl
 exactλm=>gen m 13 (Ai _)
def SK {mask:Nat}(hm:FC mask)(h:Int){j:Nat}(hj:j<=mask):∃n,n<10*SetTable.turns mask/\(pth mask h n).j=j:=by
 obtain⟨m,h1,h2⟩:=Ou hm (Ot mask h 13) hj
 obtain⟨n,hn,e⟩:=QL mask h (13+m)
 refine⟨n,?_,?_⟩
 ·unfold SetTable.turns;ext
 ·rw[e]
  show(lp mask h (13+m)).1=j
  rw[Sr,h2]
theorem IU (mask:Nat)(h:Int):∀n,(pth mask h n).dummy=none
 |0=>rfl
 |n+1=>by
  rw[pth]
  unfold adv
  split
  ·exact IU mask h n
  ·exact IU mask h n
theorem Lv {α:Type} [DecidableEq α]:∀{a b:List α},a.Nodup->(∀x∈a,x∈b)->a.length<=b.length
 |[],_,_,_=>AX _
 |x::a,b,nd,h=>by
  rw[Br] at nd
  have hx:=h x (.head _)
  have:=Lv (a:=a) (b:=b.erase x) nd.2 λy hy=>(List.mem_erase_of_ne (λe:y=x=>nd.1 (e▸hy))).mpr (h y (.tail _ hy))
  rw[List.length_erase_of_mem hx] at this
  have:=List.length_pos_of_mem hx
  rw[List.length_cons]
  ext
theorem least {P:Nat->Prop}:∀n,P n->∃k,k<=n/\P k/\∀m,m<k->¬ P m:=by
 intro n
 induction n using Nat.strongRecOn with
 |ind n ih =>
  intro h
  by_cases c:∃m,m<n/\P m
  ·obtain⟨m,hm,pm⟩:=c
   obtain⟨k,a,b,d⟩:=ih m hm pm
   exact⟨k,by ext,b,d⟩
  ·exact⟨n,Ai _,h,λm hm pm=>c ⟨m,hm,pm⟩⟩
structure TW (mask:Nat) (pl:List Nat) (es:List (Int×Value)):Prop where
 so:pl.Pairwise (·<·)
 ln:pl.length=es.length
 mo:FC mask
 lt:es.length<=mask
 bd:∀j∈pl,j<=mask
 rc:∀(i j:Nat) (e:Int×Value),pl[i]?=some j->es[i]?=some e->∃n,n<10*SetTable.turns mask/\(pth mask e.1 n).j=j/\∀m,m<=n->(pth mask e.1 m).j∈pl
def TW.first {mask:Nat}{pl:List Nat}{es:List (Int×Value)}(T:TW mask pl es)(h:Int):∃k,k<10*SetTable.turns mask/\(pth mask h k).j∉pl/\(∀m,m<k->(pth mask h m).j∈pl)/\(pth mask h k).j<=mask:=by
 obtain⟨j,hj,hn⟩:∃j,j<=mask/\j∉pl:=by
  apply BV
  intro hc
  have:∀x∈List.range (mask+1),x∈pl:=λx hx=>BV λhx'=>hc ⟨x,by have:=Bc.mp hx;ext,hx'⟩
  have:=Lv List.nodup_range this
  rw[BF,T.ln] at this
  have:=T.lt
  ext
 obtain⟨n,hn1,hn2⟩:=SK T.mo h hj
 obtain⟨k,k1,k2,k3⟩:=least (P:=λn=>(pth mask h n).j∉pl/\(pth mask h n).j<=mask) n ⟨hn2▸hn,by ext⟩
 refine⟨k,by ext,k2.1,λm hm=>?_,k2.2⟩
 have le:∀n,(pth mask h n).j+(pth mask h n).more<=mask/\(pth mask h n).i<=mask:=by
  intro n
  induction n with
  |zero =>
   have:=Ot mask h 0
   have r:=NH this
   constructor
   ·show(lp mask h 0).1+(SetTable.runEnd mask (lp mask h 0).1-(lp mask h 0).1)<=mask
    ext
   ·exact this
  |succ n ih =>
   rw[pth]
   unfold adv
   split
   ·dsimp only;exact⟨by ext,ih.2⟩
   ·have:(SetTable.leap mask (pth mask h n).i (pth mask h n).perturb).1<=mask:=Nat.le_of_lt_succ (Nat.mod_lt _ (Nat.succ_pos _))
    have r:=NH this
    dsimp only
    exact⟨by ext,this⟩
 exact BV λhc=>k3 m hm ⟨hc,by have:=(le m).1;ext⟩
theorem U1 {t:SetTable}(hd:t.dummies=#[])(hs:t.place.toList.Pairwise (·<·))(h:Int)(hashAt:Nat->Int){k:Nat}(hk:(pth t.mask h k).j∉t.place.toList)(hb:∀m,m<k->(pth t.mask h m).j∈t.place.toList) :
  ∀(f n:Nat),n<=k->k<n+f->∃c,n<=c/\c<=k/\(∀m i,n<=m->m<c->t.place.toList[i]?=some (pth t.mask h m).j->hashAt i≠h) /\
   ((c=k/\SetTable.probe.go t hashAt h f (pth t.mask h n)=some (.empty (pth t.mask h k).j none))\/(c<k/\∃i,t.place.toList[i]?=some (pth t.mask h c).j/\hashAt i=h/\SetTable.probe.go t hashAt h f (pth t.mask h n)=some (.candidate (pth t.mask h c).j i (pth t.mask h (c+1)))))
 |0,n,h1,h2=>by ext
 |f+1,n,h1,h2=>by
  unfold SetTable.probe.go
  rcases OZ hd hs (pth t.mask h n).j with⟨i,e,hi⟩|⟨e,hn⟩
  ·rw[e]
   dsimp only
   have nk:n<k:=by
    rcases Ca h1 with c|c
    ·exact c
    ·subst c
     exact absurd (Ag hi) hk
   have un:∀i',t.place.toList[i']?=some (pth t.mask h n).j->i'=i:=λi' h'=>by
    have a:=IF hd hs h'
    rw[e] at a
    cases a
    rfl
   by_cases c:hashAt i=h
   ·refine⟨n,Ai _,h1,λm i a b=>by ext,.inr ⟨nk,i,hi,c,?_⟩⟩
    rw[if_pos (by simpa using c)]
    rfl
   ·obtain⟨c',a1,a2,a3,a4⟩:=U1 hd hs h hashAt hk hb f (n+1) nk (by ext)
    refine⟨c',by ext,a2,λm i' b1 b2 b3=>?_,?_⟩
    ·rcases Ca b1 with b1|b1
     ·exact a3 m i' b1 b2 b3
     ·subst b1
      rw[un i' b3]
      exact c
    ·rw[if_neg (by simpa using c),Vo]
     exact a4
  ·rw[e]
   dsimp only
   have:n=k:=by
    rcases Ca h1 with c|c
    ·exact absurd (hb n c) hn
    ·exact c
   subst this
   exact⟨n,Ai _,Ai _,λm i a b=>by ext,.inl ⟨rfl,by rw[IU]⟩⟩
def Xe {α β:Type}{l1:List α}{l2:List β}{p:Nat}{a x:α}{b y:β}(hp:p<=l1.length)(hl:l1.length=l2.length){i:Nat}(h1:(l1.take p++a::l1.drop p)[i]?=some x)(h2:(l2.take p++b::l2.drop p)[i]?=some y):(x=a/\y=b)\/∃i0:Nat,l1[i0]?=some x/\l2[i0]?=some y:=by
 rcases B3 i p with c|c|c
 ·rw[As (by rw[AA];ext),A9 c] at h1 h2
  exact .inr ⟨i,h1,h2⟩
 ·subst c
  rw[AY (by rw[AA];ext),AA,Nat.min_eq_left hp,Nat.sub_self] at h1
  rw[AY (by rw[AA];ext),AA,Nat.min_eq_left (by ext),Nat.sub_self] at h2
  cases h1
  cases h2
  exact .inl ⟨rfl,rfl⟩
 ·rw[AY (by rw[AA];ext),AA,Nat.min_eq_left hp] at h1
  rw[AY (by rw[AA];ext),AA,Nat.min_eq_left (by ext)] at h2
  obtain⟨q,hq⟩:∃q,i-p=q+1:=⟨i-p-1,by ext⟩
  rw[hq,List.getElem?_cons_succ,List.getElem?_drop] at h1 h2
  exact .inr ⟨p+q,h1,h2⟩
def TW.put {mask:Nat}{pl:List Nat}{es:List (Int×Value)}(T:TW mask pl es){h:Int}{v:Value}{k p:Nat}(hk:k<10*SetTable.turns mask)(hn:(pth mask h k).j∉pl)(hb:∀m,m<k->(pth mask h m).j∈pl)(hj:(pth mask h k).j<=mask)(hp:p<=pl.length)(hl:es.length<mask)
  (hs:(pl.take p++(pth mask h k).j::pl.drop p).Pairwise (·<·)):TW mask (pl.take p++(pth mask h k).j::pl.drop p) (es.take p++(h,v)::es.drop p):=by
 have mem:∀x,x∈pl.take p++(pth mask h k).j::pl.drop p↔x=(pth mask h k).j\/x∈pl:=λx=>by
  have e:x∈pl↔x∈pl.take p\/x∈pl.drop p:=by rw[<- AQ,List.take_append_drop]
  rw[AQ,Ap,e]
  constructor
  ·rintro(a|a|a)
   ·exact .inr (.inl a)
   ·exact .inl a
   ·exact .inr (.inr a)
  ·rintro(a|a|a)
   ·exact .inr (.inl a)
   ·exact .inl a
   ·exact .inr (.inr a)
 have ll:=T.ln
 refine⟨hs,?_,T.mo,?_,λj hj'=>?_,λi j e h1 h2=>?_⟩
 ·simp only[Ar,AA,List.length_cons,List.length_drop]
  ext
 ·simp only[Ar,AA,List.length_cons,List.length_drop]
  ext
 ·rcases (mem j).mp hj' with rfl|q
  ·exact hj
  ·exact T.bd j q
 ·rcases Xe hp T.ln h1 h2 with⟨rfl,rfl⟩|⟨i0,a,b⟩
  ·refine⟨k,hk,rfl,λm hm=>(mem _).mpr ?_⟩
   rcases Ca hm with c|c
   ·exact .inr (hb m c)
   ·subst c
    exact .inl rfl
  ·obtain⟨n,n1,n2,n3⟩:=T.rc i0 j e a b
   exact⟨n,n1,n2,λm hm=>(mem _).mpr (.inr (n3 m hm))⟩
structure Zc where
 K:W.Frag
 P:Program
 w:World
abbrev _root_.L2.Cx.z (X:Cx):Zc:=⟨X.K,X.prog,X.w⟩
inductive D where
 |non|bl (b:Bool)|int (i:Int)|str (x:Str)|tup (ds:List D)|lst (ds:List D)|dct (ks vs:List D)|set (ds:List D)|ref (k:Nat)
instance:DecidableEq D:=λa b=>Classical.propDecidable (a=b)
inductive MO where
 |lst (ds:List D)|dct (ks ds:List D)
abbrev Sto:=List MO
abbrev Rs (α:Type):=Option (α×Sto)
abbrev Ro:=List (Option D)
abbrev Ex:=Ro->Sto->Rs D
abbrev Exs:=Ro->Sto->Rs (List D)
abbrev Tx:=Ro->Sto->Rs Bool
inductive Fl where
 |nx|bk|ct|rt (d:D)
abbrev Sx:=Ro->Sto->Rs (Fl×Ro)
abbrev Fn:=List D->Sto->Rs D
def bM {α β:Type}(r:Rs α)(f:α->Sto->Rs β):Rs β:=match r with
 |none=>none
 |some (a,m)=>f a m
theorem DD {α β:Type}{a:α}{m:Sto}{f:α->Sto->Rs β}:bM (some (a,m)) f=f a m:=rfl
theorem Fi {α β:Type}{r:Rs α}{f:α->Sto->Rs β}{b:β}{m':Sto}(h:bM r f=some (b,m')):∃a m,r=some (a,m)/\f a m=some (b,m'):=by
 cases r with
 |none=>cases h
 |some p=>exact⟨p.1,p.2,rfl,h⟩
mutual
def CS (w:World):D->Int
 |.non=>reduceHash 0xFCA86420
 |.int i=>hashInt i
 |.str x=>hashStr w x
 |.tup ds=>reduceHash (Builtin.Tuple.tupleHashOf (DM w ds))
 |_=>0
def DM (w:World):List D->List Int
 |[]=>[]
 |d::ds=>CS w d::DM w ds
end
mutual
def dpt:D->Nat
 |.tup ds=>HX ds+1
 |_=>0
def HX:List D->Nat
 |[]=>0
 |d::ds=>max (dpt d) (HX ds)
end
mutual
def hsh:D->Bool
 |.non=>true
 |.int _=>true
 |.str _=>true
 |.tup ds=>F0 ds
 |_=>false
def F0:List D->Bool
 |[]=>true
 |d::ds=>hsh d&&F0 ds
end
def DN (d:D):Bool:=hsh d&&decide (dpt d<=8)
structure KeysOk (ks:List D):Prop where
 len:ks.length<=sizeLine
 nd:ks.Nodup
 ok:∀k∈ks,DN k=true
theorem DV (w:World)(ds:List D):DM w ds=ds.map (CS w):=by induction ds with
 |nil=>rfl
 |cons d ds ih=>rw[DM,ih];rfl
def WH (a:Addr)(xs:List (Int×V×V))(h:Heap):Prop:=(a==sysModules)=false/\∃o es ep,h.get? a=some o/\o.ExactDict/\o.data=.dict es ep/\Paired (λ(x:Int×V×V) (e:DictEntry)=>e.hash=x.1/\RelV x.2.1 e.key/\RelV x.2.2 e.val) xs es.toList/\ep=es.size
def Et (a:Addr)(xs:List (Int×V×V)):HO:=.ext (WH a xs)
def Vq (w:World)(a:Addr)(us:List (Int×V))(h:Heap):Prop:=∃o es ep t,h.get? a=some o/\o.ExactSet/\o.data=.set es ep t/\es.size<scanBound/\t.fits es.size=true/\Vals (us.map (·.2)) (es.toList.map (·.2)) /\
 (w.params.followText "set-order"=true\/t.led=true/\(t.plain=false\/es.size<=1)) /\
 ((∃n x,(n,V.str x)∈us)\/t.dummies=#[]/\TW t.mask t.place.toList es.toList/\es.size*5<t.mask*3/\t.led=(!w.params.followText "set-order")/\(t.plain=false\/es.size=0))/\us.map (·.1)=es.toList.map (·.1)
def Pc (w:World)(a:Addr)(us:List (Int×V)):HO:=.ext (Vq w a us)
def FzL (K:Zc)(th:List Addr)(H:Hp)(a:Addr)(vs:List V):Prop:=(a∉th/\Rd H a (.lst vs)) \/
 ∃(o:Obj) (its:Array Value) (n:Nat),K.K.lookup a=some o/\o.cls=.type "list"/\o.dict=none/\o.data=.seq its n/\its.size<=sizeLine/\Vals vs its.toList
def FzL.sq {K:Zc}{th:List Addr}{H:Hp}{a:Addr}{vs:List V}(h:FzL K th H a vs):SqL K.K H a vs:=h.elim (λh=>.inl h.2) .inr
mutual
def Rep (K:Zc)(th:List Addr)(H:Hp):D->V->Prop
 |.non,v=>v=.non
 |.bl b,v=>v=.bl b
 |.int i,v=>v=.int i
 |.str x,v=>v=.str x/\x.length<=sizeLine/\PyData.strOk x=true
 |.tup ds,v=>∃a vs,v=.ref a/\SqT K.K H a vs/\RepL K th H ds vs/\ds.length<=sizeLine
 |.lst ds,v=>∃a vs,v=.ref a/\FzL K th H a vs/\RepL K th H ds vs/\ds.length<=sizeLine
 |.dct ks ds,v=>∃a xs,v=.ref a/\a∉th/\H a=some (Et a xs)/\xs.map (·.1)=DM K.w ks/\RepL K th H ks (xs.map (·.2.1))/\RepL K th H ds (xs.map (·.2.2))/\KeysOk ks
 |.set ds,v=>∃a us vs,v=.ref a/\a∉th/\H a=some (Pc K.w a us)/\us.Perm ((DM K.w ds).zip vs)/\RepL K th H ds vs/\ds.Nodup
 |.ref k,v=>∃a,v=.ref a/\th[k]?=some a
def RepL (K:Zc)(th:List Addr)(H:Hp):List D->List V->Prop
 |[],vs=>vs=[]
 |d::ds,vs=>∃v r,vs=v::r/\Rep K th H d v/\RepL K th H ds r
end
section
variable {K:Zc}{th th':List Addr}{H H':Hp}
def RepL.nil:RepL K th H [] []:=by unfold RepL;rfl
def RepL.cons {d:D}{ds:List D}{v:V}{r:List V}(h:Rep K th H d v)(t:RepL K th H ds r):RepL K th H (d::ds) (v::r):=by unfold RepL;exact⟨v,r,rfl,h,t⟩
def RepL.inv {d:D}{ds:List D}{vs:List V}(h:RepL K th H (d::ds) vs):∃v r,vs=v::r/\Rep K th H d v/\RepL K th H ds r:=by unfold RepL at h;exact h
def RepL.inv0 {vs:List V}(h:RepL K th H [] vs):vs=[]:=by unfold RepL at h;exact h
theorem RepL.len:∀{ds:List D}{vs:List V},RepL K th H ds vs->vs.length=ds.length
 |[],_,h=>by rw[h.inv0];rfl
 |d::ds,_,h=>by obtain⟨v,r,rfl,_,t⟩:=h.inv;simp[RepL.len t]
theorem RepL.get:∀{ds:List D}{vs:List V}{i:Nat}{d:D},RepL K th H ds vs->ds[i]?=some d->∃v,vs[i]?=some v/\Rep K th H d v
 |[],_,_,_,_,e=>by simp at e
 |d::ds,_,0,d',h,e=>by obtain⟨v,r,rfl,h1,_⟩:=h.inv;simp at e;subst e;exact⟨v,rfl,h1⟩
 |d::ds,_,i+1,d',h,e=>by
  obtain⟨v,r,rfl,_,t⟩:=h.inv
  obtain⟨u,e1,e2⟩:=RepL.get (i:=i) t (by simpa using e)
  exact⟨u,by simpa using e1,e2⟩
theorem RepL.getV:∀{ds:List D}{vs:List V}{i:Nat}{v:V},RepL K th H ds vs->vs[i]?=some v->∃d,ds[i]?=some d/\Rep K th H d v
 |[],_,_,_,h,e=>by rw[h.inv0] at e;simp at e
 |d::ds,_,0,v',h,e=>by obtain⟨v,r,rfl,h1,_⟩:=h.inv;simp at e;subst e;exact⟨d,rfl,h1⟩
 |d::ds,_,i+1,v',h,e=>by
  obtain⟨v,r,rfl,_,t⟩:=h.inv
  obtain⟨u,e1,e2⟩:=RepL.getV (i:=i) t (by simpa using e)
  exact⟨u,by simpa using e1,e2⟩
theorem RepL.app:∀{ds es:List D}{vs us:List V},RepL K th H ds vs->RepL K th H es us->RepL K th H (ds++es) (vs++us)
 |[],_,_,_,h,t=>by rw[h.inv0];exact t
 |d::ds,_,_,_,h,t=>by obtain⟨v,r,rfl,h1,h2⟩:=h.inv;exact .cons h1 (RepL.app h2 t)
theorem RepL.take:∀{ds:List D}{vs:List V} (n:Nat),RepL K th H ds vs->RepL K th H (ds.take n) (vs.take n)
 |_,_,0,_=>by simp only[List.take_zero];exact .nil
 |[],_,n+1,h=>by rw[h.inv0];exact .nil
 |d::ds,_,n+1,h=>by obtain⟨v,r,rfl,h1,h2⟩:=h.inv;exact .cons h1 (RepL.take n h2)
theorem RepL.drop:∀{ds:List D}{vs:List V} (n:Nat),RepL K th H ds vs->RepL K th H (ds.drop n) (vs.drop n)
 |_,_,0,h=>h
 |[],_,n+1,h=>by rw[h.inv0];exact .nil
 |d::ds,_,n+1,h=>by obtain⟨v,r,rfl,h1,h2⟩:=h.inv;exact RepL.drop n h2
theorem RepL.setAt:∀{ds:List D}{vs:List V} (i:Nat){d:D}{v:V},RepL K th H ds vs->Rep K th H d v->RepL K th H (ds.set i d) (vs.set i v)
 |[],_,_,_,_,h,_=>by rw[h.inv0];exact .nil
 |d::ds,_,0,_,_,h,g=>by obtain⟨v,r,rfl,h1,h2⟩:=h.inv;exact .cons g h2
 |d::ds,_,i+1,_,_,h,g=>by obtain⟨v,r,rfl,h1,h2⟩:=h.inv;exact .cons h1 (RepL.setAt i h2 g)
structure Ext (th:List Addr) (H:Hp) (th':List Addr) (H':Hp):Prop where
 pre:∃more,th'=th++more
 out:∀a o,a∉th->H a=some o->a∉th'
 keep:∀a o,a∉th->H a=some o->H' a=some o
def Ext.refl (th:List Addr)(H:Hp):Ext th H th H:=⟨⟨[],by simp⟩,λ_ _ n _=>n,λ_ _ _ h=>h⟩
def Ext.trans {th2:List Addr}{H2:Hp}(a:Ext th H th' H')(b:Ext th' H' th2 H2):Ext th H th2 H2:=by
 obtain⟨m1,e1⟩:=a.pre
 obtain⟨m2,e2⟩:=b.pre
 exact⟨⟨m1++m2,by rw[e2,e1,B4]⟩,λx o n h=>b.out x o (a.out x o n h) (a.keep x o n h),λx o n h=>b.keep x o (a.out x o n h) (a.keep x o n h)⟩
def Ext.at (e:Ext th H th' H'){k:Nat}{a:Addr}(h:th[k]?=some a):th'[k]?=some a:=by
 obtain⟨m,rfl⟩:=e.pre
 rw[As (Ae.mp h).1]
 exact h
def Ext.new {p:Addr}(h:H p=none)(o:HO):Ext th H th (upd H p o):=⟨⟨[],by simp⟩,λ_ _ n _=>n,λa u _ e=>by rw[Dp (Dm e h)];exact e⟩
def Ext.newM {p:Addr}(h:H p=none)(o:HO):Ext th H (th++[p]) (upd H p o):=⟨⟨[p],rfl⟩,λa u n e z=>(AQ.mp z).elim n λz=>(by rw[Av.mp z,h] at e;cases e),
 λa u _ e=>by rw[Dp (Dm e h)];exact e⟩
def Ext.mut {p:Addr}(h:p∈th)(o:HO):Ext th H th (upd H p o):=⟨⟨[],by simp⟩,λ_ _ n _=>n,λa u n e=>by rw[Dp (λz=>n (by rw[z];exact h))];exact e⟩
def Ext.rd (e:Ext th H th' H'){a:Addr}{u:HO}(n:a∉th)(h:Rd H a u):a∉th'/\Rd H' a u:=by
 rcases h with h|⟨o,h⟩
 ·exact⟨e.out _ _ n h,.inl (e.keep _ _ n h)⟩
 ·exact⟨e.out _ _ n h,.inr ⟨o,e.keep _ _ n h⟩⟩
def Ext.fz (e:Ext th H th' H'){a:Addr}{vs:List V}(h:FzL K th H a vs):FzL K th' H' a vs:=h.elim (λh=>.inl (e.rd h.1 h.2)) .inr
def HU (th:List Addr)(H:Hp):Prop:=∀a,a∈th->∃o,H a=some o/\((∃xs,o=.lst xs)\/∃φ,o=.ext φ)
def Ext.sqT (e:Ext th H th' H')(t:HU th H){a:Addr}{xs:List V}(h:SqT K.K H a xs):SqT K.K H' a xs:=by
 rcases h with h|h
 ·refine .inl (e.rd (λz=>?_) h).2
  obtain⟨o',q,q2⟩:=t a z
  rcases h with h|⟨o,h⟩
  ·rcases q2 with⟨_,rfl⟩|⟨_,rfl⟩<;>(rw[q] at h;cases h)
  ·rcases q2 with⟨_,rfl⟩|⟨_,rfl⟩<;>(rw[q] at h;cases h)
 ·exact .inr h
mutual
theorem Rep.ext (e:Ext th H th' H')(t:HU th H):∀{d:D}{v:V},Rep K th H d v->Rep K th' H' d v
 |.non,_,h=>h
 |.bl _,_,h=>h
 |.int _,_,h=>h
 |.str _,_,h=>h
 |.tup ds,_,h=>by
  unfold Rep at h ⊢
  obtain⟨a,vs,q,h1,h2,z⟩:=h
  exact⟨a,vs,q,e.sqT t h1,RepL.ext e t h2,z⟩
 |.lst ds,_,h=>by
  unfold Rep at h ⊢
  obtain⟨a,vs,q,h1,h2,z⟩:=h
  exact⟨a,vs,q,e.fz h1,RepL.ext e t h2,z⟩
 |.dct ks ds,_,h=>by
  unfold Rep at h ⊢
  obtain⟨a,xs,q,n,h1,h2,h3,h4,h5⟩:=h
  exact⟨a,xs,q,e.out _ _ n h1,e.keep _ _ n h1,h2,RepL.ext e t h3,RepL.ext e t h4,h5⟩
 |.set ds,_,h=>by
  unfold Rep at h ⊢
  obtain⟨a,us,vs,q,n,h1,h2,h3,h4⟩:=h
  exact⟨a,us,vs,q,e.out _ _ n h1,e.keep _ _ n h1,h2,RepL.ext e t h3,h4⟩
 |.ref k,_,h=>by
  unfold Rep at h ⊢
  obtain⟨a,q,h1⟩:=h
  exact⟨a,q,e.at h1⟩
theorem RepL.ext (e:Ext th H th' H')(t:HU th H):∀{ds:List D}{vs:List V},RepL K th H ds vs->RepL K th' H' ds vs
 |[],_,h=>by rw[h.inv0];exact .nil
 |_::_,_,h=>by
  obtain⟨v,r,rfl,h1,h2⟩:=h.inv
  exact .cons (Rep.ext e t h1) (RepL.ext e t h2)
end
def UZ {N:List Addr}(hN:N.Nodup){i j:Nat}{x:Addr}(a:N[i]?=some x)(b:N[j]?=some x):i=j:=by
 obtain⟨hi,ei⟩:=Ae.mp a
 obtain⟨hj,ej⟩:=Ae.mp b
 have:=BU.mp hN
 rcases B3 i j with h|h|h
 ·exact absurd (ei.trans ej.symm) (this i j hi hj h)
 ·exact h
 ·exact absurd (ej.trans ei.symm) (this j i hj hi h)
def MRep (K:Zc)(th:List Addr)(H:Hp)(a:Addr):MO->Prop
 |.lst ds=>∃vs,H a=some (.lst vs)/\RepL K th H ds vs/\ds.length<=sizeLine
 |.dct ks ds=>∃xs,H a=some (Et a xs)/\xs.map (·.1)=DM K.w ks/\RepL K th H ks (xs.map (·.2.1))/\RepL K th H ds (xs.map (·.2.2))/\KeysOk ks
theorem MRep.ext (e:Ext th H th' H')(t:HU th H){a:Addr}{o:MO}(ha:∀u,H a=some u->H' a=some u)(h:MRep K th H a o):MRep K th' H' a o:=by
 cases o with
 |lst ds=>obtain⟨vs,q1,q2,z⟩:=h;exact⟨vs,ha _ q1,q2.ext e t,z⟩
 |dct ks ds=>obtain⟨xs,q1,q2,q3,q4,z⟩:=h;exact⟨xs,ha _ q1,q2,q3.ext e t,q4.ext e t,z⟩
structure StoOk (K:Zc) (th:List Addr) (mu:Sto) (H:Hp):Prop where
 len:th.length=mu.length
 nd:th.Nodup
 at':∀(k:Nat) (a:Addr) (o:MO),th[k]?=some a->mu[k]?=some o->MRep K th H a o
theorem StoOk.out {mu:Sto}(s:StoOk K th mu H):HU th H:=λa ha=>by
 obtain⟨k,hk,rfl⟩:=List.mem_iff_getElem.mp ha
 have hk':k<mu.length:=by rw[<- s.len];exact hk
 have q:=s.at' k th[k] mu[k] (by simp) (by simp)
 cases e:mu[k] with
 |lst ds=>rw[e] at q;obtain⟨vs,q,_⟩:=q;exact⟨_,q,.inl ⟨_,rfl⟩⟩
 |dct ks ds=>rw[e] at q;obtain⟨vs,q,_⟩:=q;exact⟨_,q,.inr ⟨_,rfl⟩⟩
theorem StoOk.new {mu:Sto}(s:StoOk K th mu H){p:Addr}(h:H p=none)(o:HO):StoOk K th mu (upd H p o):=
 ⟨s.len,s.nd,λk a o' e1 e2=>(s.at' k a o' e1 e2).ext (.new h o) s.out λu q=>by rw[Dp (Dm q h)];exact q⟩
def StoOk.newG {mu:Sto}(s:StoOk K th mu H){p:Addr}(h:H p=none)(o:HO)(mo:MO)(r:MRep K (th++[p]) (upd H p o) p mo):StoOk K (th++[p]) (mu++[mo]) (upd H p o):=by
 have ex:Ext th H (th++[p]) (upd H p o):=.newM h _
 refine⟨by simp[s.len],?_,λk a o' e1 e2=>?_⟩
 ·refine BQ.mpr ⟨s.nd,by simp,λx hx y hy=>?_⟩
  rw[Av.mp hy]
  obtain⟨xs,q,_⟩:=s.out x hx
  exact Dm q h
 ·by_cases hk:k<th.length
  ·rw[As hk] at e1
   rw[As (by rw[<- s.len];exact hk)] at e2
   exact(s.at' k a o' e1 e2).ext ex s.out λu q=>by rw[Dp (Dm q h)];exact q
  ·have hk2:k=th.length:=by
    have:=(Ae.mp e1).1
    simp at this
    ext
   subst hk2
   have e1':a=p:=by simpa using e1.symm
   have e2':o'=mo:=by rw[s.len] at e2;simpa using e2.symm
   subst e1' e2'
   exact r
theorem StoOk.newM {mu:Sto}(s:StoOk K th mu H){p:Addr}(h:H p=none){ds:List D}{vs:List V}(r:RepL K th H ds vs)(hz:ds.length<=sizeLine):StoOk K (th++[p]) (mu++[.lst ds]) (upd H p (.lst vs)):=
 s.newG h _ _ ⟨vs,DT,r.ext (.newM h _) s.out,hz⟩
def StoOk.putG {mu:Sto}(s:StoOk K th mu H){k:Nat}{a:Addr}(hk:th[k]?=some a)(o:HO)(mo:MO)(r:MRep K th (upd H a o) a mo):StoOk K th (mu.set k mo) (upd H a o):=by
 have ex:Ext th H th (upd H a o):=.mut (Ag hk) _
 refine⟨by simp[s.len],s.nd,λj b o' e1 e2=>?_⟩
 by_cases hj:j=k
 ·subst hj
  rw[hk] at e1
  cases e1
  have:j<mu.length:=by rw[<- s.len];exact(Ae.mp hk).1
  have e2':o'=mo:=by simpa[this] using e2.symm
  subst e2'
  exact r
 ·rw[AD (Ne.symm hj)] at e2
  have nb:b≠a:=λz=>by
   subst z
   exact hj (UZ s.nd e1 hk)
  exact(s.at' j b o' e1 e2).ext ex s.out λu q=>by rw[Dp nb];exact q
def StoOk.put {mu:Sto}(s:StoOk K th mu H){k:Nat}{a:Addr}(hk:th[k]?=some a){ds:List D}{vs:List V}(r:RepL K th H ds vs)(hz:ds.length<=sizeLine):StoOk K th (mu.set k (.lst ds)) (upd H a (.lst vs)):=
 s.putG hk _ _ ⟨vs,DT,r.ext (.mut (Ag hk) _) s.out,hz⟩
def KeysOk.nil:KeysOk []:=⟨AX _,B5,λ_ h=>nomatch h⟩
def StoOk.newD {mu:Sto}(s:StoOk K th mu H){p:Addr}(h:H p=none):StoOk K (th++[p]) (mu++[.dct [] []]) (upd H p (Et p [])):=
 s.newG h _ _ ⟨[],DT,rfl,.nil,.nil,.nil⟩
def Tr (K:Zc){A:Type}(th:List Addr)(H:Hp)(r:Rs A)(k:A->List Addr->Sto->Hp->Prop):Prop:=
 ∃a mu',r=some (a,mu')/\∀th' H',Ext th H th' H'->StoOk K th' mu' H'->k a th' mu' H'
def Tr.mono {A:Type}{r:Rs A}{k k':A->List Addr->Sto->Hp->Prop}(h:Tr K th H r k)(f:∀a th' mu' H',Ext th H th' H'->StoOk K th' mu' H'->k a th' mu' H'->k' a th' mu' H'):Tr K th H r k':=by
 obtain⟨a,mu',e,q⟩:=h
 exact⟨a,mu',e,λth' H' x s=>f a th' mu' H' x s (q th' H' x s)⟩
def Tr.ahead {A:Type}{r:Rs A}{k:A->List Addr->Sto->Hp->Prop}(h:Tr K th H r k)(x:Ext th H th' H'):Tr K th' H' r k:=by
 obtain⟨a,mu',e,q⟩:=h
 exact⟨a,mu',e,λth2 H2 y s=>q th2 H2 (x.trans y) s⟩
def Tr.bind {A B:Type}{r:Rs A}{f:A->Sto->Rs B}{k:B->List Addr->Sto->Hp->Prop}(h:Tr K th H (bM r f) k):Tr K th H r λa th1 mu1 H1=>Tr K th1 H1 (f a mu1) k:=by
 obtain⟨b,mu',e,q⟩:=h
 obtain⟨a,m,e1,e2⟩:=Fi e
 exact⟨a,m,e1,λth1 H1 x1 s1=>⟨b,mu',e2,λth' H' x s=>q th' H' (x1.trans x) s⟩⟩
def Tr.bindE {A B:Type}{r:Rs A}{f:A->Sto->Rs B}{k:B->List Addr->Sto->Hp->Prop}(h:Tr K th H (bM r f) k):Tr K th H r λa th1 mu1 H1=>r=some (a,mu1)/\Tr K th1 H1 (f a mu1) k:=by
 obtain⟨b,mu',e,q⟩:=h
 obtain⟨a,m,e1,e2⟩:=Fi e
 exact⟨a,m,e1,λth1 H1 x1 s1=>⟨e1,b,mu',e2,λth' H' x s=>q th' H' (x1.trans x) s⟩⟩
def Tr.ret {A:Type}{a:A}{mu:Sto}{k:A->List Addr->Sto->Hp->Prop}(h:Tr K th H (some (a,mu)) k)(s:StoOk K th mu H):k a th mu H:=by
 obtain⟨b,mu',e,q⟩:=h
 cases e
 exact q th H (.refl _ _) s
def Tr.retX {A:Type}{a:A}{mu:Sto}{k:A->List Addr->Sto->Hp->Prop}(h:Tr K th H (some (a,mu)) k)(x:Ext th H th' H')(s:StoOk K th' mu H'):k a th' mu H':=by
 obtain⟨b,mu',e,q⟩:=h
 cases e
 exact q th' H' x s
def Tr.no {A:Type}{k:A->List Addr->Sto->Hp->Prop}(h:Tr K th H (none:Rs A) k):False:=by
 obtain⟨b,mu',e,q⟩:=h
 cases e
def EnvOk (K:Zc)(th:List Addr)(H:Hp)(ro:Ro)(st:L2.St):Prop:=ro.length=st.length/\∀(i:Nat) (d:D),ro[i]?=some (some d)->∃v,st[i]?=some (some v)/\Rep K th H d v
theorem EnvOk.ext {ro:Ro}{st:L2.St}(h:EnvOk K th H ro st)(e:Ext th H th' H')(t:HU th H):EnvOk K th' H' ro st:=⟨h.1,λi d q=>by
 obtain⟨v,a,b⟩:=h.2 i d q
 exact⟨v,a,b.ext e t⟩⟩
theorem EnvOk.set {ro:Ro}{st:L2.St}(h:EnvOk K th H ro st)(i:Nat){d:D}{v:V}(r:Rep K th H d v):EnvOk K th H (ro.set i (some d)) (st.set i (some v)):=by
 refine⟨by simp[h.1],λj d' q=>?_⟩
 by_cases hj:j=i
 ·subst hj
  have hl:j<ro.length:=by
   have:=(Ae.mp q).1
   simpa using this
  have:d'=d:=by simpa[hl] using q.symm
  subst this
  exact⟨v,by simp[<- h.1,hl],r⟩
 ·rw[AD (Ne.symm hj)] at q ⊢
  exact h.2 j d' q
abbrev KV' (K:Zc) (Q:VK):D->List Addr->Sto->Hp->Prop:=λd th' _ H'=>∀v,Rep K th' H' d v->Q v H'
def rdE (K:Zc)(m:Ex):TE:=λst H Q=>∃th mu ro,StoOk K th mu H/\EnvOk K th H ro st/\Tr K th H (m ro mu) (KV' K Q)
def rdA (K:Zc)(m:Exs):TA:=λst H Q=>∃th mu ro,StoOk K th mu H/\EnvOk K th H ro st/\Tr K th H (m ro mu) λds th' _ H'=>∀vs,RepL K th' H' ds vs->Q vs H'
def rdT (K:Zc)(m:Tx):TT:=λst H Q=>∃th mu ro,StoOk K th mu H/\EnvOk K th H ro st/\Tr K th H (m ro mu) λb _ _ H'=>Q b H'
def Vc (K:Zc)(E:Ends)(p:Fl×Ro)(th:List Addr)(_:Sto)(H:Hp):Prop:=∀st',EnvOk K th H p.2 st'->match p.1 with
 |.nx=>E.nx st' H
 |.bk=>E.bk st' H
 |.ct=>E.ct st' H
 |.rt d=>∀v,Rep K th H d v->E.rt v H
def rdS (K:Zc)(m:Sx):TS:=λE st H=>∃th mu ro,StoOk K th mu H/\EnvOk K th H ro st/\Tr K th H (m ro mu) (Vc K E)
def r2 (K:Zc)(op:D->D->Sto->Rs D):R2:=λx y H Q=>∃th mu d e,StoOk K th mu H/\Rep K th H d x/\Rep K th H e y/\Tr K th H (op d e mu) (KV' K Q)
def rL (K:Zc)(f:Fn):List V->Hp->VK->Prop:=λxs H Q=>∃th mu ds,StoOk K th mu H/\RepL K th H ds xs/\Tr K th H (f ds mu) (KV' K Q)
end
structure SV (X:Cx) (e:Expr) (m:Ex):Prop where
 r:PE X e (rdE X.z m)
structure SVT (X:Cx) (e:Expr) (m:Tx):Prop where
 r:PT X e (rdT X.z m)
structure SVW (X:Cx) (e:Expr) (m:Tx):Prop where
 r:PW X e (rdT X.z m)
def SVA (X:Cx)(es:List Expr)(m:Exs):Prop:=PA X es (rdA X.z m)/\∀ro mu ds mu',m ro mu=some (ds,mu')->ds.length=es.length
structure SVS (X:Cx) (s:Stmt) (m:Sx):Prop where
 r:PS X s (rdS X.z m)
structure SVB (X:Cx) (b:List Stmt) (m:Sx):Prop where
 r:PSs X b (rdS X.z m)
def OpV (X:Cx)(f:Value->Value->Sem Value)(op:D->D->Sto->Rs D):Prop:=OpR X f (r2 X.z op)
def CallV (X:Cx)(f:Value)(g:Fn):Prop:=HC X f (rL X.z g)
def PE.weak {X:Cx}{e:Expr}{t t':TE}(h:PE X e t)(f:∀st H Q,t' st H Q->t st H Q):PE X e t':=λpj s st H Q I q=>h pj s st H Q I (f st H Q q)
def PT.weak {X:Cx}{e:Expr}{t t':TT}(h:PT X e t)(f:∀st H Q,t' st H Q->t st H Q):PT X e t':=λpj s st H Q I q=>h pj s st H Q I (f st H Q q)
def PW.weak {X:Cx}{e:Expr}{t t':TT}(h:PW X e t)(f:∀st H Q,t' st H Q->t st H Q):PW X e t':=λwh pj s st H Q I q=>h wh pj s st H Q I (f st H Q q)
def PA.weak {X:Cx}{e:List Expr}{t t':TA}(h:PA X e t)(f:∀st H Q,t' st H Q->t st H Q):PA X e t':=λpos pj s st H Q I q=>h pos pj s st H Q I (f st H Q q)
def PS.weak {X:Cx}{e:Stmt}{t t':TS}(h:PS X e t)(f:∀E st H,t' E st H->t E st H):PS X e t':=λpj s st H E I q=>h pj s st H E I (f E st H q)
def PSs.weak {X:Cx}{e:List Stmt}{t t':TS}(h:PSs X e t)(f:∀E st H,t' E st H->t E st H):PSs X e t':=λpj s st H E I q=>h pj s st H E I (f E st H q)
section
variable {X:Cx}{K:Zc}{th:List Addr}{mu:Sto}{H:Hp}
def CD (i:Nat):Ex:=λro mu=>match ro[i]? with
 |some (some d)=>some (d,mu)
 |_=>none
def eC (d:D):Ex:=λ_ mu=>some (d,mu)
theorem CF (i:Nat){x:Str}{pos:Pos}(hN:X.N[i]?=some x:=by rfl)(hv:Vis X.env.scope x:=by first|exact Or.inl rfl|exact Or.inr (Or.inl rfl)|exact Or.inr (Or.inr rfl))(hd:(x==("__debug__":Str))=false:=by decide)
  (hcd:(x==("__classdict__":Str))=false:=by decide):SV X (.Name x pos) (CD i):=⟨PE.weak (QO hN hv hd hcd) λst H Q h=>by
 obtain⟨th,mu,ro,so,en,t⟩:=h
 unfold CD at t
 cases e:ro[i]? with
 |none=>rw[e] at t;exact t.no.elim
 |some o =>
  cases o with
  |none=>rw[e] at t;exact t.no.elim
  |some d =>
   rw[e] at t
   obtain⟨v,ev,rv⟩:=en.2 i d e
   exact⟨v,ev,t.ret so v rv⟩⟩
def Iu {e:Expr}{d:D}{v:V}(h:PE X e (tC v))(r:∀K th H,Rep K th H d v):SV X e (eC d):=⟨PE.weak h λst H Q q=>by
 obtain⟨th,mu,ro,so,en,t⟩:=q
 exact t.ret so v (r _ _ _)⟩
def CP {i j pos}:SV X (.Constant (.int i) j pos) (eC (.int i)):=Iu Vz λ_ _ _=>by unfold Rep;rfl
def Jc {i j pos}:SV X (.Constant (.bool i) j pos) (eC (.bl i)):=Iu Yc λ_ _ _=>by unfold Rep;rfl
def LF {j pos}:SV X (.Constant .none j pos) (eC .non):=Iu VL λ_ _ _=>by unfold Rep;rfl
def VE {i j pos}(h:i.length<=sizeLine/\PyData.strOk i=true:=by symm):SV X (.Constant (.str i) j pos) (eC (.str i)):=Iu Xs λ_ _ _=>by unfold Rep;exact⟨rfl,h⟩
def CJ (g:D->D->Sto->Rs D)(a b:Ex):Ex:=λro mu=>bM (a ro mu) λx m1=>bM (b ro m1) λy m2=>g x y m2
def LN {a b:Ex}{g:D->D->Sto->Rs D}{st:L2.St}{Q:VK}(h:rdE K (CJ g a b) st H Q):tOp (r2 K g) (rdE K a) (rdE K b) st H Q:=by
 obtain⟨th,mu,ro,so,en,t⟩:=h
 refine⟨th,mu,ro,so,en,t.bind.mono λx th1 mu1 H1 e1 s1 t1 v rv=>?_⟩
 exact⟨th1,mu1,ro,s1,en.ext e1 so.out,t1.bind.mono λy th2 mu2 H2 e2 s2 t2 u ru=>⟨th2,mu2,x,y,s2,rv.ext e2 s1.out,ru,t2⟩⟩
def CV {a b:Expr}{op:Operator}{g:D->D->Sto->Rs D}{ma mb:Ex}{pos:Pos}(ho:OpV X (binaryOp op) g)(ha:SV X a ma)(hb:SV X b mb):SV X (.BinOp a op b pos) (CJ g ma mb):=
 ⟨PE.weak (XZ ho ha.r hb.r) λ_ _ _ h=>LN h⟩
def Rv {a b:Expr}{op:CmpOp}{g:D->D->Sto->Rs D}{ma mb:Ex}{pos:Pos}(ho:OpV X (compareOp op) g)(ha:SV X a ma)(hb:SV X b mb)(hm:behindInMarks op b=false:=by first|exact Rj _|with_unfolding_all rfl):SV X (.Compare a [op] [b] pos) (CJ g ma mb):=
 ⟨PE.weak (Uv ho ha.r hb.r hm) λ_ _ _ h=>LN h⟩
def D9 {a b:Expr}{g:D->D->Sto->Rs D}{ma mb:Ex}{pos:Pos}(ho:IxR X (r2 X.z g))(ha:SV X a ma)(hb:SV X b mb)(hs:O0 b:=by intro _ _;rfl):SV X (.Subscript a b pos) (CJ g ma mb):=
 ⟨PE.weak (YO ho ha.r hb.r hs) λ_ _ _ h=>LN h⟩
def e1 (g:D->Sto->Rs D)(a:Ex):Ex:=λro mu=>bM (a ro mu) λx m1=>g x m1
def asB:D->Option Bool
 |.bl b=>some b
 |_=>none
def tV (a:Ex):Tx:=λro mu=>bM (a ro mu) λx m1=>(asB x).map λb=>(b,m1)
theorem SD {d:D}{b:Bool}{v:V}(h:asB d=some b)(r:Rep K th H d v):v=.bl b:=by
 cases d with
 |bl c=>cases h;exact r
 |_=>cases h
theorem XH {a:Ex}{st:L2.St}{Q:Bool->Hp->Prop}(h:rdT K (tV a) st H Q):Va (rdE K a) st H Q:=by
 obtain⟨th,mu,ro,so,en,t⟩:=h
 refine⟨th,mu,ro,so,en,t.bind.mono λx th1 mu1 H1 e1 s1 t1 v rv=>?_⟩
 cases e:asB x with
 |none=>rw[e] at t1;exact t1.no.elim
 |some b=>rw[e] at t1;exact⟨b,SD e rv,t1.ret s1⟩
def DL {a b:Expr}{op:CmpOp}{g:D->D->Sto->Rs D}{ma mb:Ex}{pos:Pos}(ho:OpV X (compareOp op) g)(ha:SV X a ma)(hb:SV X b mb)(hm:behindInMarks op b=false:=by first|exact Rj _|with_unfolding_all rfl):SVT X (.Compare a [op] [b] pos) (tV (CJ g ma mb)):=
 ⟨PT.weak (UA ho ha.r hb.r hm) λ_ _ _ h=>by
  obtain⟨th,mu,ro,so,en,t⟩:=XH h
  exact LN ⟨th,mu,ro,so,en,t⟩⟩
def tNt (a:Tx):Tx:=λro mu=>bM (a ro mu) λb m1=>some (!b,m1)
def tAn (a b:Tx):Tx:=λro mu=>bM (a ro mu) λx m1=>if x=true then b ro m1 else some (false,m1)
def tO (a b:Tx):Tx:=λro mu=>bM (a ro mu) λx m1=>if x=true then some (true,m1) else b ro m1
def QU {a:Expr}{m:Tx}{pos:Pos}(ha:SVT X a m):SVW X (.BoolOp .And [a] pos) m:=⟨TF ha.r⟩
theorem UI {a b:Expr}{rest:List Expr}{m n:Tx}{pos:Pos}(ha:SVT X a m)(hb:SVW X (.BoolOp .And (b::rest) pos) n):SVW X (.BoolOp .And (a::b::rest) pos) (tAn m n):=⟨PW.weak (Wk ha.r hb.r) λst H Q h=>by
 obtain⟨th,mu,ro,so,en,t⟩:=h
 refine⟨th,mu,ro,so,en,t.bind.mono λb th1 mu1 H1 e1 s1 t1=>?_⟩
 cases b with
 |true=>exact⟨th1,mu1,ro,s1,en.ext e1 so.out,t1⟩
 |false=>exact t1.ret s1⟩
def SVW.t {e:Expr}{m:Tx}(h:SVW X e m):SVT X e m:=⟨PW.pt h.r⟩
def eAn (a b:Ex):Ex:=λro mu=>bM (a ro mu) λx m1=>match asB x with
 |none=>none
 |some c=>if c=true then b ro m1 else some (.bl false,m1)
def eO (a b:Ex):Ex:=λro mu=>bM (a ro mu) λx m1=>match asB x with
 |none=>none
 |some c=>if c=true then some (.bl true,m1) else b ro m1
def eNt (a:Ex):Ex:=λro mu=>bM (a ro mu) λx m1=>match asB x with
 |none=>none
 |some c=>some (.bl (!c),m1)
def eIf (c:Tx)(a b:Ex):Ex:=λro mu=>bM (c ro mu) λx m1=>if x=true then a ro m1 else b ro m1
def CH:Exs:=λ_ mu=>some ([],mu)
def CC (a:Ex)(r:Exs):Exs:=λro mu=>bM (a ro mu) λx m1=>bM (r ro m1) λxs m2=>some (x::xs,m2)
def CG:SVA X [] CH:=by
 refine⟨PA.weak QT λst H Q h=>?_,λro mu ds mu' h=>by cases h;rfl⟩
 obtain⟨th,mu,ro,so,en,t⟩:=h
 exact t.ret so [] .nil
def CB {e:Expr}{es:List Expr}{m:Ex}{n:Exs}(ha:SV X e m)(hr:SVA X es n)(hs:starEach (e::es) X.env=(false,eval e X.env)::starEach es X.env:=by rfl):SVA X (e::es) (CC m n):=by
 refine⟨PA.weak (OY ha.r hr.1 hs) λst H Q h=>?_,λro mu ds mu' h=>?_⟩
 ·obtain⟨th,mu,ro,so,en,t⟩:=h
  refine⟨th,mu,ro,so,en,t.bind.mono λx th1 mu1 H1 e1 s1 t1 v rv=>?_⟩
  exact⟨th1,mu1,ro,s1,en.ext e1 so.out,t1.bind.mono λxs th2 mu2 H2 e2 s2 t2 vs rvs=>t2.ret s2 _ (.cons (rv.ext e2 s1.out) rvs)⟩
 ·obtain⟨x,m1,_,h⟩:=Fi h
  obtain⟨xs,m2,h1,h⟩:=Fi h
  cases h
  rw[List.length_cons,List.length_cons,hr.2 _ _ _ _ h1]
def Ep (a:Exs):Ex:=λro mu=>bM (a ro mu) λxs m1=>some (.tup xs,m1)
def Jo (a:Exs):Ex:=λro mu=>bM (a ro mu) λxs m1=>some (.lst xs,m1)
def F5 (a:Exs):Ex:=λro mu=>bM (a ro mu) λxs m1=>some (.ref m1.length,m1++[.lst xs])
def Rep.newTup (so:StoOk K th mu H){p:Addr}(h:H p=none){ds:List D}{vs:List V}(r:RepL K th H ds vs)(hz:ds.length<=sizeLine):Rep K th (upd H p (.tup vs)) (.tup ds) (.ref p):=by
 unfold Rep
 exact⟨p,vs,rfl,SqT.of DT,r.ext (.new h _) so.out,hz⟩
def StoOk.notin (so:StoOk K th mu H){p:Addr}(h:H p=none):p∉th:=λz=>by
 obtain⟨xs,e,_⟩:=so.out p z
 rw[h] at e
 cases e
def Rep.newLst (so:StoOk K th mu H){p:Addr}(h:H p=none){ds:List D}{vs:List V}(r:RepL K th H ds vs)(hz:ds.length<=sizeLine):Rep K th (upd H p (.lst vs)) (.lst ds) (.ref p):=by
 unfold Rep
 exact⟨p,vs,rfl,.inl ⟨so.notin h,.inl DT⟩,r.ext (.new h _) so.out,hz⟩
def EN {es:List Expr}{m:Exs}{x1}{pos:Pos}(h:SVA X es m)(hl:es.length<=1000:=by decide):SV X (.Tuple es x1 pos) (Ep m):=⟨PE.weak (V5 h.1) λst H Q q=>by
 obtain⟨th,mu,ro,so,en,t⟩:=q
 obtain⟨d,mu',e,_⟩:=id t
 obtain⟨xs0,m0,e0,_⟩:=Fi e
 have hn:=h.2 _ _ _ _ e0
 have tb:Tr X.z th H (m ro mu) λds th' mu' H'=>ds.length<=1000/\Tr X.z th' H' (some (D.tup ds,mu')) (KV' X.z Q):=by
  obtain⟨a,mu1,e1,q1⟩:=t.bind
  exact⟨a,mu1,e1,λth' H' x s=>⟨by rw[h.2 _ _ _ _ e1];exact hl,q1 th' H' x s⟩⟩
 refine⟨th,mu,ro,so,en,tb.mono λxs th1 mu1 H1 e1 s1 t1 vs rvs=>⟨?_,λp hp=>?_⟩⟩
 ·rw[rvs.len];exact AU t1.1 (by decide)
 ·exact t1.2.retX (.new hp _) (s1.new hp _) _ (Rep.newTup s1 hp rvs (AU t1.1 (by decide)))⟩
def RO {es:List Expr}{m:Exs}{C:List D->Sto->Rs D}{st:L2.St}{ro:Ro}{k:D->List Addr->Sto->Hp->Prop}(h:SVA X es m)(hl:es.length<=1000)(t:Tr K th H (bM (m ro mu) C) k) :
  Tr K th H (m ro mu) λds th' mu' H'=>ds.length<=1000/\Tr K th' H' (C ds mu') k:=by
 obtain⟨a,mu1,e1,q1⟩:=t.bind
 exact⟨a,mu1,e1,λth' H' x s=>⟨by rw[h.2 _ _ _ _ e1];exact hl,q1 th' H' x s⟩⟩
def JR {es:List Expr}{m:Exs}{pos:Pos}(h:SVA X es m)(hl:es.length<=1000:=by decide):SV X (.List es pos) (Jo m):=⟨PE.weak (RW h.1) λst H Q q=>by
 obtain⟨th,mu,ro,so,en,t⟩:=q
 refine⟨th,mu,ro,so,en,(RO (st:=st) h hl t).mono λxs th1 mu1 H1 e1 s1 t1 vs rvs=>⟨?_,λp hp=>?_⟩⟩
 ·rw[rvs.len];exact AU t1.1 (by decide)
 ·exact t1.2.retX (.new hp _) (s1.new hp _) _ (Rep.newLst s1 hp rvs (AU t1.1 (by decide)))⟩
def GR {es:List Expr}{m:Exs}{pos:Pos}(h:SVA X es m)(hl:es.length<=1000:=by decide):SV X (.List es pos) (F5 m):=⟨PE.weak (RW h.1) λst H Q q=>by
 obtain⟨th,mu,ro,so,en,t⟩:=q
 refine⟨th,mu,ro,so,en,(RO (st:=st) h hl t).mono λxs th1 mu1 H1 e1 s1 t1 vs rvs=>⟨?_,λp hp=>?_⟩⟩
 ·rw[rvs.len];exact AU t1.1 (by decide)
 ·refine t1.2.retX (.newM hp _) (s1.newM hp rvs (AU t1.1 (by decide))) _ ?_
  unfold Rep
  exact⟨p,rfl,by rw[<- s1.len];simp⟩⟩
def CI (f:Fn)(a:Exs):Ex:=λro mu=>bM (a ro mu) λxs m1=>f xs m1
def Qz {f:Fn}{a:Exs}{st:L2.St}{Q:VK}(h:rdE K (CI f a) st H Q):tCB (rL K f) (rdA K a) st H Q:=by
 obtain⟨th,mu,ro,so,en,t⟩:=h
 exact⟨th,mu,ro,so,en,t.bind.mono λxs th1 mu1 H1 e1 s1 t1 vs rvs=>⟨th1,mu1,xs,s1,rvs,t1⟩⟩
def De {x:Str}{id:String}{g:Fn}{e:Expr}{es:List Expr}{m:Exs}{p pos:Pos}(hc:CallV X (.builtin id) g)(hm:X.mg x=none)(hv:bootBuiltins x=some (.builtin id))(ha:SVA X (e::es) m)(hg:Gl X x:=by rfl)
  (hn:x≠"__name__":=by decide) (hdb:(x==("__debug__":Str))=false:=by decide) (hs1:starEach (e::es) X.env=(false,eval e X.env)::starEach es X.env:=by rfl) (hs2:(backTo pos (starEach es X.env)).any (·.1)=false:=by rfl):SV X (.Call (.Name x p) (e::es) [] pos) (CI g m):=
 ⟨PE.weak (Mv hc hg hm hv ha.1 hn hdb hs1 hs2) λ_ _ _ h=>Qz h⟩
def C0 {x:Str}{T:String}{g:Fn}{e:Expr}{es:List Expr}{m:Exs}{p pos:Pos}(hc:CallV X (.type T) g)(hm:X.mg x=none)(hv:bootBuiltins x=some (.type T))(ha:SVA X (e::es) m)(hg:Gl X x:=by rfl)
  (hn:x≠"__name__":=by decide) (hdb:(x==("__debug__":Str))=false:=by decide) (hs1:starEach (e::es) X.env=(false,eval e X.env)::starEach es X.env:=by rfl) (hs2:(backTo pos (starEach es X.env)).any (·.1)=false:=by rfl):SV X (.Call (.Name x p) (e::es) [] pos) (CI g m):=
 ⟨PE.weak (Pj hc hg hm hv ha.1 hn hdb hs1 hs2) λ_ _ _ h=>Qz h⟩
def spF (K:Zc)(f:Fn)(n:Nat):Sp:=λvs H Q _=>∃th mu ds,StoOk K th mu H/\RepL K th H ds vs/\ds.length=n/\Tr K th H (f ds mu) (KV' K Q)
structure Cal (P:Program) (w:World) (K:W.Frag) (mg:Str->Option Value) (base:Heap) (k:Nat) (x:Str) (f:Fn) (n:Nat):Prop where
 ex:∃(ps:List Str) (a:Addr) (fd:FuncData),ps.length=n/\E7 P w K mg base CX0 k a fd ps (spF ⟨K,P,w⟩ f n)/\Binds K fd ps []/\W.keepIn K (.ref a)=true/\mg x=some (.ref a)
def CT {x:Str}{k:Nat}{f:Fn}{n:Nat}{e:Expr}{es:List Expr}{m:Exs}{p pos:Pos}(C:Cal X.prog X.w X.K X.mg X.base k x f n)(hr:Room k X.A)(ha:SVA X (e::es) m)(hl:(e::es).length=n:=by rfl)(hg:Gl X x:=by rfl)
  (hdb:(x==("__debug__":Str))=false:=by decide) (he:starEach (e::es) X.env=(false,eval e X.env)::starEach es X.env:=by rfl) (hpl:(backTo pos (starEach es X.env)).any (·.1)=false:=by rfl):SV X (.Call (.Name x p) (e::es) [] pos) (CI f m):=⟨by
 obtain⟨ps,a,fd,hn,F,b,kp,mm⟩:=C.ex
 refine PE.weak (Td F hr hg mm kp b .nil Yo ha.1 hdb he hpl) λst H Q h=>?_
 obtain⟨th,mu,ro,so,en,t⟩:=h
 have tb:Tr X.z th H (m ro mu) λds th' mu' H'=>ds.length=n/\Tr X.z th' H' (f ds mu') (KV' X.z Q):=by
  obtain⟨a,mu1,e1,q1⟩:=t.bind
  exact⟨a,mu1,e1,λth' H' x s=>⟨by rw[ha.2 _ _ _ _ e1];exact hl,q1 th' H' x s⟩⟩
 exact⟨th,mu,ro,so,en,tb.mono λxs th1 mu1 H1 e1 s1 t1 vs rvs=>⟨th1,mu1,xs,s1,by simpa using rvs,t1.1,t1.2⟩⟩⟩
def sNx:Sx:=λro mu=>some ((.nx,ro),mu)
def CY (a b:Sx):Sx:=λro mu=>bM (a ro mu) λp m1=>match p.1 with
 |.nx=>b p.2 m1
 |_=>some (p,m1)
def Es:SVB X [] sNx:=⟨PSs.weak Tz λE st H h=>by
 obtain⟨th,mu,ro,so,en,t⟩:=h
 exact t.ret so st en⟩
def CU {s:Stmt}{m:Sx}(h:SVS X s m):SVB X [s] m:=⟨S6 h.r⟩
theorem CK {s:Stmt}{r:List Stmt}{m n:Sx}(h1:SVS X s m)(h2:SVB X r n):SVB X (s::r) (CY m n):=⟨PSs.weak (Q5 h1.r h2.r) λE st H h=>by
 obtain⟨th,mu,ro,so,en,t⟩:=h
 refine⟨th,mu,ro,so,en,t.bind.mono λp th1 mu1 H1 e1 s1 t1 st' en'=>?_⟩
 obtain⟨fl,ro'⟩:=p
 cases fl with
 |nx=>exact⟨th1,mu1,ro',s1,en',t1⟩
 |bk=>exact t1.ret s1 st' en'
 |ct=>exact t1.ret s1 st' en'
 |rt d=>exact t1.ret s1 st' en'⟩
def sRt (a:Ex):Sx:=λro mu=>bM (a ro mu) λd m1=>some ((.rt d,ro),m1)
def Dz {e:Expr}{m:Ex}{pos:Pos}(h:SV X e m):SVS X (.Return (some e) pos) (sRt m):=⟨PS.weak (W8 h.r) λE st H h=>by
 obtain⟨th,mu,ro,so,en,t⟩:=h
 exact⟨th,mu,ro,so,en,t.bind.mono λd th1 mu1 H1 e1 s1 t1 v rv=>t1.ret s1 st (en.ext e1 so.out) v rv⟩⟩
def sEx (a:Ex):Sx:=λro mu=>bM (a ro mu) λ_ m1=>some ((.nx,ro),m1)
def Gp {e:Expr}{m:Ex}{pos:Pos}(h:SV X e m)(hs:swapsWith e none pos.line X.env=pure false:=by rfl):SVS X (.Expr e pos) (sEx m):=⟨PS.weak (Tu h.r hs) λE st H h=>by
 obtain⟨th,mu,ro,so,en,t⟩:=h
 exact⟨th,mu,ro,so,en,t.bind.mono λd th1 mu1 H1 e1 s1 t1 v rv=>t1.ret s1 st (en.ext e1 so.out)⟩⟩
def sIf (c:Tx)(a b:Sx):Sx:=λro mu=>bM (c ro mu) λx m1=>if x=true then a ro m1 else b ro m1
theorem EX {c:Expr}{a b:List Stmt}{mc:Tx}{ma mb:Sx}{pos:Pos}(hc:SVT X c mc)(ha:SVB X a ma)(hb:SVB X b mb):SVS X (.If c a b pos) (sIf mc ma mb):=⟨PS.weak (YE hc.r ha.r hb.r) λE st H h=>by
 obtain⟨th,mu,ro,so,en,t⟩:=h
 refine⟨th,mu,ro,so,en,t.bind.mono λb th1 mu1 H1 e1 s1 t1=>?_⟩
 cases b with
 |true=>exact⟨th1,mu1,ro,s1,en.ext e1 so.out,t1⟩
 |false=>exact⟨th1,mu1,ro,s1,en.ext e1 so.out,t1⟩⟩
abbrev Gx:=D->Ro->Sto->Rs Ro
abbrev Gxs:=List D->Ro->Sto->Rs Ro
def rdG (K:Zc)(g:Gx):TG:=λv st H Q=>∃th mu ro d,StoOk K th mu H/\EnvOk K th H ro st/\Rep K th H d v/\Tr K th H (g d ro mu) λro' th' _ H'=>∀st',EnvOk K th' H' ro' st'->Q st' H'
def Aaf (K:Zc)(g:Gxs):TGs:=λvs st H Q=>∃th mu ro ds,StoOk K th mu H/\EnvOk K th H ro st/\RepL K th H ds vs/\Tr K th H (g ds ro mu) λro' th' _ H'=>∀st',EnvOk K th' H' ro' st'->Q st' H'
structure SVG (X:Cx) (e:Expr) (g:Gx):Prop where
 r:PG X e (rdG X.z g)
structure T4 (X:Cx) (es:List Expr) (g:Gxs):Prop where
 r:PGs X es (Aaf X.z g)
def PG.weak {e:Expr}{t t':TG}(h:PG X e t)(f:∀v st H Q,t' v st H Q->t v st H Q):PG X e t':=λpj s st H v u Q I r q=>h pj s st H v u Q I r (f v st H Q q)
def PGs.weak {e:List Expr}{t t':TGs}(h:PGs X e t)(f:∀v st H Q,t' v st H Q->t v st H Q):PGs X e t':=λpj s st H v u Q I r q=>h pj s st H v u Q I r (f v st H Q q)
def gNm (i:Nat):Gx:=λd ro mu=>some (ro.set i (some d),mu)
def CL (i:Nat){x:Str}{pos:Pos}(hN:X.N.Nodup)(hi:X.N[i]?=some x:=by rfl)(hx:Loc X.env.scope x:=by first|exact Or.inl rfl|exact Or.inr rfl)(hf:X.fn x=true\/X.env.scope.names.lookup x=some .local:=by first|exact .inl rfl|exact .inr rfl):SVG X (.Name x pos) (gNm i):=
 ⟨PG.weak (SN hN hi hx hf) λv st H Q h=>by
  obtain⟨th,mu,ro,d,so,en,r,t⟩:=h
  exact t.ret so _ (en.set i r)⟩
def DJ:Gxs:=λds ro mu=>match ds with
 |[]=>some (ro,mu)
 |_=>none
def CM (g:Gx)(r:Gxs):Gxs:=λds ro mu=>match ds with
 |d::ds=>bM (g d ro mu) λro' m1=>r ds ro' m1
 |[]=>none
theorem DU:T4 X [] DJ:=⟨PGs.weak Tw λv st H Q h=>by
 obtain⟨th,mu,ro,ds,so,en,r,t⟩:=h
 cases ds with
 |nil=>exact⟨r.inv0,t.ret so _ en⟩
 |cons d ds=>exact t.no.elim⟩
theorem CQ {e:Expr}{es:List Expr}{g:Gx}{gs:Gxs}(h1:SVG X e g)(h2:T4 X es gs)(hs:(assignEach (e::es) X.env).map (·.2)=assign e X.env::(assignEach es X.env).map (·.2):=by rfl):T4 X (e::es) (CM g gs):=⟨PGs.weak (Qe h1.r h2.r hs) λv st H Q h=>by
 obtain⟨th,mu,ro,ds,so,en,r,t⟩:=h
 cases ds with
 |nil=>exact t.no.elim
 |cons d ds =>
  obtain⟨v,vr,rfl,r1,r2⟩:=r.inv
  refine⟨v,vr,rfl,th,mu,ro,d,so,en,r1,?_⟩
  exact Tr.mono (Tr.bind t) λro' th1 mu1 H1 e1 s1 t1 st' en'=>⟨th1,mu1,ro',ds,s1,en',r2.ext e1 so.out,t1⟩⟩
def gTp (n:Nat)(g:Gxs):Gx:=λd ro mu=>match d with
 |.tup ds=>if ds.length=n then g ds ro mu else none
 |_=>none
def El {es:List Expr}{k n:Nat}{g:Gxs}{pos:Pos}(hc:X.calm=true)(h:T4 X es g)(hn:(assignEach es X.env).length=n:=by rfl)(hst:(assignEach es X.env).findIdx? (·.1)=none:=by rfl):SVG X (.Tuple es k pos) (gTp n g):=
 ⟨PG.weak (Vt hc h.r hn hst) λv st H Q q=>by
  obtain⟨th,mu,ro,d,so,en,r,t⟩:=q
  cases d with
  |tup ds =>
   unfold Rep at r
   obtain⟨a,vs,rfl,hs,rl,_⟩:=r
   unfold gTp at t;dsimp only at t
   by_cases e:ds.length=n
   ·rw[if_pos e] at t
    exact⟨a,vs,rfl,hs,by rw[rl.len];exact e,th,mu,ro,ds,so,en,rl,t⟩
   ·rw[if_neg e] at t;exact t.no.elim
  |_=>exact t.no.elim⟩
def Dh (a:Ex)(g:Gx):Sx:=λro mu=>bM (a ro mu) λd m1=>bM (g d ro m1) λro' m2=>some ((.nx,ro'),m2)
def TH {a:Ex}{g:Gx}{st:L2.St}{E:Ends}(h:rdS K (Dh a g) E st H):WT (rdE K a) (rdG K g) E st H:=by
 obtain⟨th,mu,ro,so,en,t⟩:=h
 refine⟨th,mu,ro,so,en,t.bind.mono λd th1 mu1 H1 e1 s1 t1 v rv=>?_⟩
 refine⟨th1,mu1,ro,d,s1,en.ext e1 so.out,rv,t1.bind.mono λro' th2 mu2 H2 e2 s2 t2 st' en'=>?_⟩
 exact t2.ret s2 st' en'
def FG {tg e:Expr}{m:Ex}{g:Gx}{pos:Pos}(he:SV X e m)(hg:SVG X tg g)(hs:swapsWithSole [tg] e pos.line X.env=pure false:=by rfl)(hw:swappedStores [tg] e X.env=pure none:=by rfl)
  (h1:(assignEach [tg] X.env).map (·.2)=[assign tg X.env]:=by rfl):SVS X (.Assign [tg] e pos) (Dh m g):=⟨PS.weak (VQ he.r hg.r hs hw h1) λ_ _ _ h=>TH h⟩
def CZ (i:Nat){x:Str}{e:Expr}{m:Ex}{pos pos':Pos}(hN:X.N.Nodup)(he:SV X e m)(hi:X.N[i]?=some x:=by rfl)(hx:Loc X.env.scope x:=by first|exact Or.inl rfl|exact Or.inr rfl)(hs:swapsWith e (some (.Name x pos')) pos.line X.env=pure false:=by rfl)
  (hf:X.fn x=true\/X.env.scope.names.lookup x=some .local:=by first|exact .inl rfl|exact .inr rfl):SVS X (.Assign [.Name x pos'] e pos) (Dh m (gNm i)):=⟨PS.weak (VX hN hi hx he.r hs hf) λE st H h=>by
 obtain⟨th,mu,ro,so,en,t⟩:=h
 refine⟨th,mu,ro,so,en,t.bind.mono λd th1 mu1 H1 e1 s1 t1 v rv=>?_⟩
 exact t1.ret s1 _ ((en.ext e1 so.out).set i rv)⟩
def PQ (i j:Nat)(a:Exs):Sx:=λro mu=>bM (a ro mu) λds m1=>match ds with
 |[x,y]=>some ((.nx,(ro.set i (some x)).set j (some y)),m1)
 |_=>none
theorem OB (i j:Nat){x y:Str}{a b:Expr}{m:Exs}{px py pt:Pos}{kt k2 pt2}{pos:Pos}(hc:X.calm=true)(hN:X.N.Nodup)(ha:SVA X [a,b] m)
  (hw:swappedStores [.Tuple [.Name x px,.Name y py] kt pt] (.Tuple [a,b] k2 pt2) X.env=pure (some [x,y]))
  (hi:X.N[i]?=some x:=by rfl) (hj:X.N[j]?=some y:=by rfl) (hij:i≠j:=by decide)
  (hx:X.env.scope.names.lookup x=some .local:=by rfl) (hy:X.env.scope.names.lookup y=some .local:=by rfl)
  (hs:swapsWithSole [.Tuple [.Name x px,.Name y py] kt pt] (.Tuple [a,b] k2 pt2) pos.line X.env=pure false:=by rfl) :
  SVS X (.Assign [.Tuple [.Name x px,.Name y py] kt pt] (.Tuple [a,b] k2 pt2) pos) (PQ i j m):=⟨PS.weak (VY hc hN hi hj hij hx hy ha.1 hw hs) λE st H h=>by
 obtain⟨th,mu,ro,so,en,t⟩:=h
 refine⟨th,mu,ro,so,en,t.bind.mono λds th1 mu1 H1 e1 s1 t1 vs rvs=>?_⟩
 match ds,t1,rvs with
 |[d,d'],t1,rvs =>
  obtain⟨v,r,rfl,r1,r2⟩:=rvs.inv
  obtain⟨u,r',rfl,r3,r4⟩:=r2.inv
  cases r4.inv0
  exact⟨v,u,rfl,t1.ret s1 _ (((en.ext e1 so.out).set i r1).set j r3)⟩
 |[],t1,_=>exact t1.no.elim
 |[_],t1,_=>exact t1.no.elim
 |_::_::_::_,t1,_=>exact t1.no.elim⟩
def fnB (n:Nat)(m:Sx):Fn:=λds mu=>bM (m (ds.map some++List.replicate (n-ds.length) none) mu) λp m1=>match p.1 with
 |.rt d=>some (d,m1)
 |.nx=>some (.non,m1)
 |_=>none
def Jg {N:List Str}{ds:List D}{vs:List V}(r:RepL K th H ds vs):EnvOk K th H (ds.map some++List.replicate (N.length-ds.length) none) (L2.start N vs):=by
 unfold L2.start
 refine⟨by simp[r.len],λi d e=>?_⟩
 by_cases hi:i<ds.length
 ·rw[As (by simpa using hi),Am] at e
  cases q:ds[i]? with
  |none=>rw[q] at e;cases e
  |some d' =>
   rw[q] at e
   have:d'=d:=by simpa using e
   subst this
   obtain⟨v,ev,rv⟩:=r.get q
   exact⟨v,by rw[As (by simpa[r.len] using hi),Am,ev];rfl,rv⟩
 ·rw[AY (by simpa using hi),Cn] at e
  split at e<;>cases e
def Yk {P:Program}{w:World}{K:W.Frag}{mg:Str->Option Value}{base:Heap}{x qual:Str}{st:Stmt}{f:Addr}{fd:FuncData}{N ps:List Str}{k:Nat}{m:Sx}(F:Fun K x qual st f fd)(S:DG N ps (CO st))
  (hbody:∀(cdv:Value) (A:Around) (outer:List Env) (s:Shared) (H:Hp) (E:XK),Room k (A.deeper (envOfC qual (CO st) s.heap.objs.size f cdv)) ->
   SVB (KJ CX0 P w K mg base N qual (CO st) f cdv A outer s H E).nox (EK st) m):E7 P w K mg base CX0 (k+1) f fd ps (spF ⟨K,P,w⟩ (fnB N.length m) ps.length):=by
 refine F.ok S (λvs H Q E h=>?_) (λcdv A outer s H vs Q E hr h=>?_)
 ·obtain⟨th,mu,ds,_,r,hl,_⟩:=h
  rw[r.len]
  exact hl
 ·obtain⟨th,mu,ds,so,r,hl,t⟩:=h
  refine⟨_,(hbody cdv A outer s H E hr).r,?_⟩
  refine⟨th,mu,_,so,Jg r,t.bind.mono λp th1 mu1 H1 e1 s1 t1 st' en'=>?_⟩
  obtain⟨fl,ro'⟩:=p
  cases fl with
  |nx=>exact t1.ret s1 _ (by unfold Rep;rfl)
  |bk=>exact t1.no.elim
  |ct=>exact t1.no.elim
  |rt d=>exactλv rv=>t1.ret s1 v rv
def Hg (n np:Nat){P:Program}{w:World}{K:W.Frag}{mg:Str->Option Value}{base:Heap}{x qual:Str}{st:Stmt}{f:Addr}{fd:FuncData}{N ps:List Str}{k:Nat}{m:Sx}(F:Fun K x qual st f fd)(S:DG N ps (CO st))(hn:N.length=n)(hp:ps.length=np)
  (hbody:∀(cdv:Value) (A:Around) (outer:List Env) (s:Shared) (H:Hp) (E:XK),Room k (A.deeper (envOfC qual (CO st) s.heap.objs.size f cdv)) ->
   SVB (KJ CX0 P w K mg base N qual (CO st) f cdv A outer s H E).nox (EK st) m):E7 P w K mg base CX0 (k+1) f fd ps (spF ⟨K,P,w⟩ (fnB n m) np):=by
 subst hn hp
 exact Yk F S hbody
def EY {P:Program}{w:World}{K:W.Frag}{mg:Str->Option Value}{base:Heap}{x:Str}{st:Stmt}{f:Addr}{fd:FuncData}{ps:List Str}{k n:Nat}{g:Fn}(F:Fun K x x st f fd)(hm:mg x=some (.ref f))(h:E7 P w K mg base CX0 k f fd ps (spF ⟨K,P,w⟩ g n))(hb:Binds K fd ps [])(hn:ps.length=n:=by rfl):Cal P w K mg base k x g n:=
 ⟨ps,f,fd,hn,h,hb,F.kp,hm⟩
abbrev Ix:=Ro->Sto->Rs (List D×Option Nat)
def gOk (g:Option Nat)(m0 m:Sto):Prop:=match g with
 |none=>True
 |some k=>m0[k]?=m[k]?
structure N0 (K:Zc) (J:It) (th:List Addr) (mu:Sto) (H:Hp) (ds:List D) (g:Option Nat):Prop where
 sz:ds.length<=sizeLine
 go:∀th' mu' H',Ext th H th' H'->StoOk K th' mu' H'->gOk g mu mu'->∀(i:Nat) (d:D),ds[i]?=some d->J.go i H'/\∀x H2,J.yld i H' x H2->Ext th' H' th' H2/\StoOk K th' mu' H2/\Rep K th' H2 d x
 stop:∀th' mu' H',Ext th H th' H'->StoOk K th' mu' H'->gOk g mu mu'->J.stop ds.length H'
def rdI (K:Zc)(m:Ix):TI:=λst H R=>∃th mu ro,StoOk K th mu H/\EnvOk K th H ro st/\Tr K th H (m ro mu) λp th' mu' H'=>∀J,N0 K J th' mu' H' p.1 p.2->R J H'
structure SVI (X:Cx) (tg iter:Expr) (m:Ix):Prop where
 r:PI X tg iter (rdI X.z m)
def PI.weak {tg e:Expr}{t t':TI}(h:PI X tg e t)(f:∀st H R,t' st H R->t st H R):PI X tg e t':=λpj s st H R I q=>h pj s st H R I (f st H R q)
open Classical in
def Em {A:Type}(g:Option Nat)(m0 m:Sto)(r:Rs A):Rs A:=if gOk g m0 m then r else none
def NS {A:Type}{m0 m:Sto}{r:Rs A}:Em none m0 m r=r:=by unfold Em;rw[if_pos (show gOk none m0 m from True.intro)]
def FO {A:Type}{g:Option Nat}{m0 m:Sto}{r:Rs A}{p:A×Sto}(h:Em g m0 m r=some p):gOk g m0 m/\r=some p:=by
 unfold Em at h
 by_cases e:gOk g m0 m
 ·rw[if_pos e] at h;exact⟨e,h⟩
 ·rw[if_neg e] at h;cases h
def FQ (g:Option Nat)(m0:Sto)(tg:Gx)(body:Sx):List D->Ro->Sto->Rs (Fl×Ro)
 |[],ro,mu=>some ((.nx,ro),mu)
 |d::ds,ro,mu=>bM (tg d ro mu) λro1 m1=>bM (body ro1 m1) λp m2=>match p.1 with
  |.nx=>Em g m0 m2 (FQ g m0 tg body ds p.2 m2)
  |.ct=>Em g m0 m2 (FQ g m0 tg body ds p.2 m2)
  |.bk=>some ((.nx,p.2),m2)
  |.rt d=>some ((.rt d,p.2),m2)
def Gw (i:Ix)(tg:Gx)(body:Sx):Sx:=λro mu=>bM (i ro mu) λp m1=>FQ p.2 m1 tg body p.1 ro m1
def EG {tg iter:Expr}{body:List Stmt}{i:Ix}{g:Gx}{m:Sx}{pos:Pos}(hp:PassesOwn (model X.prog X.w) X.A X.env X.xe)(hc:X.calm=true)(hi:SVI X tg iter i)(hg:SVG X tg g)(hb:SVB X body m)
  (hs:∀x,foldedSetIterable iter X.env x=pure x:=by intro _;rfl):SVS X (.For tg iter body [] pos) (Gw i g m):=⟨PS.weak (Xi hp hc hi.r hg.r hb.r hs) λE st H h=>by
 obtain⟨th,mu,ro,so,en,t⟩:=h
 refine⟨th,mu,ro,so,en,t.bind.mono λp th1 mu1 H1 e1 s1 t1 J ok=>?_⟩
 obtain⟨ds,gd⟩:=p
 have en1:=en.ext e1 so.out
 refine⟨λk n st' H'=>n=ds.length-k/\k<=ds.length/\∃th' mu' ro',StoOk X.z th' mu' H'/\EnvOk X.z th' H' ro' st'/\Ext th1 H1 th' H'/\gOk gd mu1 mu'/\Tr X.z th' H' (FQ gd mu1 g m (ds.drop k) ro' mu') (Vc X.z E),⟨_,rfl,AX _,th1,mu1,ro,s1,en1,.refl _ _,?_,t1⟩,?_⟩
 ·cases gd with
  |none=>exact True.intro
  |some k=>exact rfl
 rintro k n st2 H2 ⟨rfl,hk,th2,mu2,ro2,s2,en2,e2,g2,t2⟩
 by_cases lt:k<ds.length
 ·refine .inr ?_
  have ek:ds[k]?=some ds[k]:=by simp
  obtain⟨a1,a2⟩:=ok.go th2 mu2 H2 e2 s2 g2 k ds[k] ek
  refine⟨a1,λst' H'=>k+1<=ds.length/\∃th' mu' ro',StoOk X.z th' mu' H'/\EnvOk X.z th' H' ro' st'/\Ext th1 H1 th' H'/\gOk gd mu1 mu'/\Tr X.z th' H' (FQ gd mu1 g m (ds.drop (k+1)) ro' mu') (Vc X.z E),λst' H' q=>⟨ds.length-(k+1),by ext,rfl,q⟩,λx H3 y=>?_⟩
  obtain⟨e3,s3,r3⟩:=a2 x H3 y
  rw[B8 lt] at t2
  unfold FQ at t2
  refine⟨th2,mu2,ro2,ds[k],s3,en2.ext e3 s2.out,r3,?_⟩
  refine(t2.ahead e3).bind.mono λro4 th4 mu4 H4 e4 s4 t4 st4 en4=>?_
  refine⟨th4,mu4,ro4,s4,en4,t4.bind.mono λp th5 mu5 H5 e5 s5 t5 st5 en5=>?_⟩
  obtain⟨fl,ro5⟩:=p
  have e15:Ext th1 H1 th5 H5:=((e2.trans e3).trans e4).trans e5
  cases fl with
  |nx =>
   obtain⟨a,mu',q1,q2⟩:=t5
   obtain⟨go5,q1⟩:=FO q1
   exact⟨lt,th5,mu5,ro5,s5,en5,e15,go5,a,mu',q1,q2⟩
  |ct =>
   obtain⟨a,mu',q1,q2⟩:=t5
   obtain⟨go5,q1⟩:=FO q1
   exact⟨lt,th5,mu5,ro5,s5,en5,e15,go5,a,mu',q1,q2⟩
  |bk=>exact t5.ret s5 st5 en5
  |rt d=>exact t5.ret s5 st5 en5
 ·have e:k=ds.length:=by ext
  subst e
  rw[List.drop_length] at t2
  unfold FQ at t2
  exact .inl ⟨ok.stop th2 mu2 H2 e2 s2 g2,t2.ret s2 st2 en2⟩⟩
end
end PV
namespace L2
open PySem PySem.Spec PyProof.Rows
section
variable {X:Cx}{tg iter elt:Expr}{ifs:List Expr}{scope:Scope}{pos:Pos}{wi:TI}{own:List Str}{fv:List (Nat×Str)}{g:TG}{tt:TT}{te:TE}
def IV {C:Addr}{h h':Heap}(sb:Heap.SameBut C h h'):∀b o,b∉[C]->h.get? b=some o->h'.get? b=some o:=λb o hb e=>(sb.2 b (by simpa using hb)).trans e
end
end L2
namespace PV
open PySem L2 PySem.Spec PyProof.Rows
section
variable {X:Cx}{K:Zc}{th:List Addr}{mu:Sto}{H:Hp}
def F9 (g:Option Nat)(m0:Sto)(tg:Gx)(tt:Tx)(el:Ex)(ro:Ro):List D->Sto->Rs (List D)
 |[],mu=>some ([],mu)
 |d::ds,mu=>bM (tg d ro mu) λro1 m1=>bM (tt ro1 m1) λb m2 =>
  if b=true then bM (el ro1 m2) λy m3=>Em g m0 m3 (bM (F9 g m0 tg tt el ro ds m3) λys m4=>some (y::ys,m4)) else Em g m0 m2 (F9 g m0 tg tt el ro ds m2)
def r0 (nc:Nat)(fvs:List Nat)(ro:Ro):Ro:=List.replicate nc none++fvs.map λk=>ro.getD k none
def eLC (i:Ix)(nc:Nat)(fvs:List Nat)(tg:Gx)(tt:Tx)(el:Ex):Ex:=λro mu=>bM (i ro mu) λp m1=>bM (F9 p.2 m1 tg tt el (r0 nc fvs ro) p.1 m1) λys m2=>some (.lst ys,m2)
def GOwn (nc:Nat)(tg:Gx):Prop:=∀d ro mu ro' mu',tg d ro mu=some (ro',mu')->ro'.length=ro.length/\∀i,nc<=i->ro'[i]?=ro[i]?
def Oa (nc:Nat)(tg:Gxs):Prop:=∀d ro mu ro' mu',tg d ro mu=some (ro',mu')->ro'.length=ro.length/\∀i,nc<=i->ro'[i]?=ro[i]?
def Dj {nc i:Nat}(h:i<nc:=by decide):GOwn nc (gNm i):=λd ro mu ro' mu' e=>by
 cases e
 exact⟨by simp,λj hj=>AD (by ext)⟩
theorem Hx {nc:Nat}:Oa nc DJ:=λds ro mu ro' mu' e=>by
 cases ds with
 |nil=>cases e;exact⟨rfl,λ_ _=>rfl⟩
 |cons d ds=>cases e
theorem D8 {nc:Nat}{g:Gx}{gs:Gxs}(h1:GOwn nc g)(h2:Oa nc gs):Oa nc (CM g gs):=λds ro mu ro' mu' e=>by
 cases ds with
 |nil=>cases e
 |cons d ds =>
  obtain⟨ro1,m1,e1,e2⟩:=Fi e
  obtain⟨a1,a2⟩:=h1 _ _ _ _ _ e1
  obtain⟨b1,b2⟩:=h2 _ _ _ _ _ e2
  exact⟨b1.trans a1,λi hi=>(b2 i hi).trans (a2 i hi)⟩
theorem Ie {nc n:Nat}{g:Gxs}(h:Oa nc g):GOwn nc (gTp n g):=λd ro mu ro' mu' e=>by
 cases d with
 |tup ds =>
  unfold gTp at e
  dsimp only at e
  by_cases q:ds.length=n
  ·rw[if_pos q] at e;exact h _ _ _ _ _ e
  ·rw[if_neg q] at e;cases e
 |_=>cases e
def MA {nc:Nat}{fv:List (Nat×Str)}{ro:Ro}{st:L2.St}(en:EnvOk K th H ro st):EnvOk K th H (r0 nc (fv.map (·.1)) ro) (st0 nc fv st):=by
 unfold r0 st0
 refine⟨by simp,λi d e=>?_⟩
 by_cases hi:i<nc
 ·rw[As (by simpa using hi),Cn] at e
  split at e<;>cases e
 ·rw[AY (by simpa using hi)] at e ⊢
  simp only[List.length_replicate,AK,Am] at e ⊢
  cases q:fv[i-nc]? with
  |none=>rw[q] at e;cases e
  |some p =>
   rw[q] at e
   have e':ro.getD p.1 none=some d:=by simpa using e
   rw[AW] at e'
   have e2:ro[p.1]?=some (some d):=by
    cases w:ro[p.1]? with
    |none=>rw[w] at e';cases e'
    |some o=>rw[w] at e';exact congrArg some e'
   obtain⟨v,ev,rv⟩:=en.2 _ _ e2
   exact⟨v,by simp[AW,ev],rv⟩
def Kl {nc:Nat}{fvs:List Nat}{ro:Ro}{i:Nat}{d:D}(e:(r0 nc fvs ro)[i]?=some (some d)):nc<=i:=by
 rcases Bx i nc with h|h
 ·unfold r0 at e
  rw[As (by simpa using h),Cn] at e
  split at e<;>cases e
 ·exact h
def tY:Tx:=λ_ mu=>some (true,mu)
structure SVF (X:Cx) (ifs:List Expr) (m:Tx):Prop where
 r:PF X ifs (rdT X.z m)
def Fj:SVF X [] tY:=⟨λpj s st H Q I h=>We pj s st H Q I (by
 obtain⟨th,mu,ro,so,en,t⟩:=h
 exact t.ret so)⟩
def Ic {c:Expr}{m:Tx}(h:SVT X c m):SVF X [c] m:=⟨Xk h.r⟩
def chars (x:Str):List D:=x.cps.toList.map λc=>.str ⟨#[c]⟩
def Ff (a:Ex):Ix:=λro mu=>bM (a ro mu) λd m1=>match d with
 |.tup ds=>some ((ds,none),m1)
 |.lst ds=>some ((ds,none),m1)
 |.str x=>some ((chars x,none),m1)
 |.ref k=>match m1[k]? with
  |some (.lst ds)=>some ((ds,some k),m1)
  |_=>none
 |_=>none
def KQ {a:Addr}{ds:List D}{g:Option Nat}(hz:ds.length<=sizeLine)(h:∀th' mu' H',Ext th H th' H'->StoOk K th' mu' H'->gOk g mu mu'->∃vs,SqL K.K H' a vs/\RepL K th' H' ds vs):N0 K (Itl K.K a) th mu H ds g where
 sz:=hz
 go:=λth' mu' H' e s go i d ed=>by
  obtain⟨vs,h1,h2⟩:=h th' mu' H' e s go
  obtain⟨v,ev,rv⟩:=h2.get ed
  refine⟨⟨vs,v,h1,ev⟩,λx H2 y=>?_⟩
  obtain⟨rfl,y⟩:=y
  have ex:=y vs h1
  rw[ev] at ex
  cases ex
  exact⟨.refl _ _,s,rv⟩
 stop:=λth' mu' H' e s go=>by
  obtain⟨vs,h1,h2⟩:=h th' mu' H' e s go
  exact⟨vs,h1,by rw[h2.len];exact Ai _⟩
def RR {a:Addr}{ds:List D}{vs:List V}(so:StoOk K th mu H)(hz:ds.length<=sizeLine)(h:SqT K.K H a vs)(r:RepL K th H ds vs):N0 K (Itt K.K a) th mu H ds none where
 sz:=hz
 go:=λth' mu' H' e s go i d ed=>by
  have h1:=e.sqT so.out h
  obtain⟨v,ev,rv⟩:=(r.ext e so.out).get ed
  refine⟨⟨vs,v,h1,ev⟩,λx H2 y=>?_⟩
  obtain⟨rfl,y⟩:=y
  have ex:=y vs h1
  rw[ev] at ex
  cases ex
  exact⟨.refl _ _,s,rv⟩
 stop:=λth' mu' H' e s go=>⟨vs,e.sqT so.out h,by rw[r.len];exact Ai _⟩
def Mw {x:Str}{c:Nat}(ok:PyData.strOk x=true)(h:c∈x.cps.toList):Rep K th H (.str ⟨#[c]⟩) (.str ⟨#[c]⟩):=by
 unfold Rep
 refine⟨rfl,by show 1<=sizeLine;decide,?_⟩
 unfold PyData.strOk at ok ⊢
 rw[<- Array.all_toList] at ok ⊢
 simpa using AB.mp ok c h
def RV {x:Str}(hz:x.length<=sizeLine)(ok:PyData.strOk x=true):N0 K (Its x) th mu H (chars x) none where
 sz:=by unfold chars;rw[Af,Array.length_toList];exact hz
 go:=λth' mu' H' e s go i d ed=>by
  unfold chars at ed
  rw[Am] at ed
  cases q:x.cps.toList[i]? with
  |none=>rw[q] at ed;cases ed
  |some c =>
   rw[q] at ed
   have hd:D.str ⟨#[c]⟩=d:=by simpa using ed
   subst hd
   have hlt:=(Ae.mp q).1
   refine⟨by show i<x.cps.size;simpa using hlt,λv H2 y=>?_⟩
   obtain⟨rfl,c',hc',rfl⟩:=y
   have:c'=c:=by
    rw[<- Aq,q] at hc'
    exact(AH hc').symm
   subst this
   exact⟨.refl _ _,s,Mw ok (Ag q)⟩
 stop:=λth' mu' H' e s go=>by show(chars x).length=x.cps.size;unfold chars;simp
theorem Ek {tg e:Expr}{m:Ex}(h:SV X e m):SVI X tg e (Ff m):=⟨by
 intro pj s st H R I q
 obtain⟨th,mu,ro,so,en,t⟩:=q
 obtain⟨p,mu',e1,q1⟩:=id t
 obtain⟨d,m1,e2,e3⟩:=Fi e1
 have t':=t.bindE
 cases d with
 |tup ds =>
  refine Vk h.r pj s st H R I ⟨th,mu,ro,so,en,t'.mono λd th1 mu1 H1 x1 s1 t1 v rv=>?_⟩
  obtain⟨eq,t1⟩:=t1
  rw[e2] at eq
  cases eq
  unfold Rep at rv
  obtain⟨a,vs,rfl,hs,rl,hz⟩:=rv
  exact⟨a,rfl,⟨vs,hs⟩,t1.ret s1 _ (RR s1 hz hs rl)⟩
 |lst ds =>
  refine OV h.r pj s st H R I ⟨th,mu,ro,so,en,t'.mono λd th1 mu1 H1 x1 s1 t1 v rv=>?_⟩
  obtain⟨eq,t1⟩:=t1
  rw[e2] at eq
  cases eq
  unfold Rep at rv
  obtain⟨a,vs,rfl,hs,rl,hz⟩:=rv
  exact⟨a,rfl,⟨vs,hs.sq⟩,t1.ret s1 _ (KQ hz λth' mu' H' e s' _=>⟨vs,(e.fz hs).sq,rl.ext e s1.out⟩)⟩
 |str x =>
  refine Vh h.r pj s st H R I ⟨th,mu,ro,so,en,t'.mono λd th1 mu1 H1 x1 s1 t1 v rv=>?_⟩
  obtain⟨eq,t1⟩:=t1
  rw[e2] at eq
  cases eq
  unfold Rep at rv
  obtain⟨rfl,hz,ok⟩:=rv
  exact⟨x,rfl,t1.ret s1 _ (RV hz ok)⟩
 |ref k =>
  refine OV h.r pj s st H R I ⟨th,mu,ro,so,en,t'.mono λd th1 mu1 H1 x1 s1 t1 v rv=>?_⟩
  obtain⟨eq,t1⟩:=t1
  rw[e2] at eq
  cases eq
  unfold Rep at rv
  obtain⟨a,rfl,ha⟩:=rv
  dsimp only at t1
  cases em:m1[k]? with
  |none=>rw[em] at t1;exact t1.no.elim
  |some o =>
   cases o with
   |dct _ _=>rw[em] at t1;exact t1.no.elim
   |lst ds =>
    rw[em] at t1
    obtain⟨vs,h1,h2,hz⟩:=s1.at' k a _ ha em
    refine⟨a,rfl,⟨vs,.inl (.inl h1)⟩,t1.ret s1 _ (KQ hz λth' mu' H' e s' go=>?_)⟩
    have em':mu'[k]?=some (.lst ds):=by rw[<- em];exact(show m1[k]?=mu'[k]? from go).symm
    obtain⟨vs',h1',h2',_⟩:=s'.at' k a _ (e.at ha) em'
    exact⟨vs',.inl (.inl h1'),h2'⟩
 |non=>cases e3
 |bl b=>cases e3
 |int b=>cases e3
 |dct _ _=>cases e3
 |set _=>cases e3⟩
end
mutual
def toPy:D->PyData
 |.non=>.none
 |.bl b=>.bool b
 |.int i=>.int i
 |.str x=>.str x
 |.tup ds=>.tuple (Dg ds)
 |.lst ds=>.list (Dg ds)
 |.dct _ _=>.none
 |.set _=>.none
 |.ref _=>.none
def Dg:List D->List PyData
 |[]=>[]
 |d::ds=>toPy d::Dg ds
end
mutual
def DW:D->Bool
 |.tup ds=>F1 ds
 |.lst ds=>F1 ds
 |.dct _ _=>false
 |.set _=>false
 |.ref _=>false
 |_=>true
def F1:List D->Bool
 |[]=>true
 |d::ds=>DW d&&F1 ds
end
def seen (mu:Sto):D->D
 |.ref k=>match mu[k]? with
  |some (.lst ds)=>.lst ds
  |_=>.ref k
 |d=>d
def eqB (mu:Sto)(d e:D):Option Bool:=if DW (seen mu d)&&DW (seen mu e)&&decide (min (toPy (seen mu d)).depth (toPy (seen mu e)).depth<=60) then some (PyData.eqv (toPy (seen mu d)) (toPy (seen mu e))) else none
def eqD (d e:D)(mu:Sto):Rs D:=(eqB mu d e).map λb=>(.bl b,mu)
def neD (d e:D)(mu:Sto):Rs D:=(eqB mu d e).map λb=>(.bl (!b),mu)
section
variable {X:Cx}{K:Zc}{th:List Addr}{mu:Sto}{H:Hp}
mutual
theorem FX {pj:Zab}{st:L2.St}{s:Shared}(I:L2.Inv X pj st H s):∀(d:D) (v:V) (u:Value),DW d=true->Rep X.z th H d v->RelV v u->∃as,Reads s.heap u (toPy d) as/\(toPy d).canLay0=true
 |.non,_,_,_,r,q=>by cases (show _=_ from r);cases q;exact⟨_,.none,rfl⟩
 |.bl b,_,_,_,r,q=>by cases (show _=_ from r);cases q;exact⟨_,.bool b,rfl⟩
 |.int i,_,_,_,r,q=>by cases (show _=_ from r);obtain⟨t,rfl⟩:=q;exact⟨_,.int i t,rfl⟩
 |.str x,_,_,_,r,q=>by obtain⟨rfl,hz,ok⟩:=(show _/\_/\_ from r);obtain⟨t,rfl⟩:=q;exact⟨_,.str x t,ok⟩
 |.tup ds,_,_,p,r,q=>by
  unfold Rep at r
  obtain⟨a,vs,rfl,hs,rl,_⟩:=r
  cases q
  obtain⟨its,rv,⟨o,h1,h2,n,h3⟩,_⟩:=I.tuple hs
  unfold DW at p
  obtain⟨as,h4,h5⟩:=F7 I ds vs its p rl rv
  exact⟨as,by unfold toPy;exact .tuple h1 h2 h3 (by simpa using h4),by unfold toPy PyData.canLay0;exact h5⟩
 |.lst ds,_,_,p,r,q=>by
  unfold Rep at r
  obtain⟨a,vs,rfl,hs,rl,_⟩:=r
  cases q
  obtain⟨its,rv,⟨o,n,h1,h2,_,h3⟩,_⟩:=I.list hs.sq
  unfold DW at p
  obtain⟨as,h4,h5⟩:=F7 I ds vs its p rl rv
  exact⟨_,by unfold toPy;exact .list h1 h2 h3 (by simpa using h4),by unfold toPy PyData.canLay0;exact h5⟩
 |.dct _ _,_,_,p,_,_=>by cases p
 |.set _,_,_,p,_,_=>by cases p
 |.ref k,_,_,p,_,_=>by cases p
theorem F7 {pj:Zab}{st:L2.St}{s:Shared}(I:L2.Inv X pj st H s):∀(ds:List D) (vs:List V) (us:List Value),F1 ds=true->RepL X.z th H ds vs->Vals vs us->∃as,ReadsAll s.heap us (Dg ds) as/\PyData.canLayAll0 (Dg ds)=true
 |[],_,_,_,r,q=>by cases r.inv0;cases q;exact⟨_,.nil,rfl⟩
 |d::ds,_,_,p,r,q=>by
  obtain⟨v,r',rfl,r1,r2⟩:=r.inv
  unfold F1 at p
  rw[Ac] at p
  cases q with
  |cons q1 q2 =>
   obtain⟨as,a1,a2⟩:=FX I d v _ p.1 r1 q1
   obtain⟨bs,b1,b2⟩:=F7 I ds r' _ p.2 r2 q2
   exact⟨_,.cons a1 b1,by unfold Dg PyData.canLayAll0;rw[a2,b2];rfl⟩
end
theorem FZ {pj:Zab}{st:L2.St}{s:Shared}(I:L2.Inv X pj st H s)(so:StoOk X.z th mu H){d:D}{v:V}{u:Value}(p:DW (seen mu d)=true)(r:Rep X.z th H d v)(q:RelV v u):∃as,Reads s.heap u (toPy (seen mu d)) as/\(toPy (seen mu d)).canLay0=true:=by
 cases d with
 |ref k =>
  unfold seen at p ⊢
  dsimp only at p ⊢
  cases e:mu[k]? with
  |none=>rw[e] at p;cases p
  |some o =>
   cases o with
   |dct _ _=>rw[e] at p;cases p
   |lst ds =>
    rw[e] at p
    dsimp only at p ⊢
    unfold Rep at r
    obtain⟨a,rfl,ha⟩:=r
    obtain⟨vs,h1,rl,hz⟩:=so.at' k a _ ha e
    cases q
    obtain⟨its,rv,⟨o,n,h2,h3,_,h4⟩,_⟩:=I.list (.inl (.inl h1))
    unfold DW at p
    obtain⟨as,h5,h6⟩:=F7 I ds vs its p rl rv
    exact⟨_,by unfold toPy;exact .list h2 h3 h4 (by simpa using h5),by unfold toPy PyData.canLay0;exact h6⟩
 |_=>exact FX I _ v u p r q
def Kp (hu:X.A.units+64<cLine):OpV X (compareOp .Eq) eqD:=by
 intro pj s st H x y v u Q I rx ry h
 obtain⟨th,mu,d,e,so,r1,r2,t⟩:=h
 unfold eqD eqB at t
 by_cases hc:(DW (seen mu d)&&DW (seen mu e)&&decide (min (toPy (seen mu d)).depth (toPy (seen mu e)).depth<=60))=true
 ·rw[if_pos hc] at t
  rw[Ac,Ac,Aj] at hc
  obtain⟨as,a1,a2⟩:=FZ I so hc.1.1 r1 rx
  obtain⟨bs,b1,b2⟩:=FZ I so hc.1.2 r2 ry
  exact SeqAt.rcAt_reads a1 b1 a2 b2 (by ext) _ _ _ _ ⟨.bl _,H,I,rfl,t.ret so _ rfl⟩
 ·rw[if_neg hc] at t
  exact t.no.elim
def FP (hu:X.A.units+64<cLine):OpV X (compareOp .NotEq) neD:=by
 intro pj s st H x y v u Q I rx ry h
 obtain⟨th,mu,d,e,so,r1,r2,t⟩:=h
 unfold neD eqB at t
 by_cases hc:(DW (seen mu d)&&DW (seen mu e)&&decide (min (toPy (seen mu d)).depth (toPy (seen mu e)).depth<=60))=true
 ·rw[if_pos hc] at t
  rw[Ac,Ac,Aj] at hc
  obtain⟨as,a1,a2⟩:=FZ I so hc.1.1 r1 rx
  obtain⟨bs,b1,b2⟩:=FZ I so hc.1.2 r2 ry
  exact SeqAt.rcNeAt_reads a1 b1 a2 b2 (by ext) _ _ _ _ ⟨.bl _,H,I,rfl,t.ret so _ rfl⟩
 ·rw[if_neg hc] at t
  exact t.no.elim
end
section
variable {X:Cx}{K:Zc}{th:List Addr}{mu:Sto}{H:Hp}
def VM (d e:D)(mu:Sto):Rs D:=match d,e with
 |.int i,.int j=>some (.int (i-j),mu)
 |_,_=>none
theorem Um:OpV X (binaryOp .Sub) VM:=by
 intro pj s st H x y v u Q I rx ry h
 obtain⟨th,mu,d,e,so,r1,r2,t⟩:=h
 cases d with
 |int i =>
  cases e with
  |int j=>exact WJ pj s st H x y v u Q I rx ry ⟨i,j,r1,r2,t.ret so _ rfl⟩
  |_=>exact t.no.elim
 |_=>exact t.no.elim
instance (i j:Int):Decidable (CMul i j):=by unfold CMul;infer_instance
instance (i j:Int):Decidable (L7 i j):=by unfold L7;infer_instance
instance (i j:Int):Decidable (O9 i j):=by unfold O9;infer_instance
def PR {x y:Str}(hx:PyData.strOk x=true)(hy:PyData.strOk y=true):PyData.strOk (x++y)=true:=by
 unfold PyData.strOk at *
 show(Array.all (x.cps++y.cps) _)=true
 rw[<- Array.all_toList] at *
 rw[Array.toList_append,List.all_append,hx,hy]
 rfl
def len_app (x y:Str):(x++y).length=x.length+y.length:=by
 show(x.cps++y.cps).size=_
 rw[Array.size_append]
 rfl
def Gr (d e:D)(mu:Sto):Rs D:=match d,e with
 |.int i,.int j=>if 0<j then some (.int (i % j),mu) else none
 |_,_=>none
theorem FJ:OpV X (binaryOp .Mod) Gr:=by
 intro pj s st H x y v u Q I rx ry h
 obtain⟨th,mu,d,e,so,r1,r2,t⟩:=h
 cases d with
 |int i =>
  cases e with
  |int j =>
   unfold Gr at t;dsimp only at t
   by_cases c:0<j
   ·rw[if_pos c] at t;exact VR pj s st H x y v u Q I rx ry ⟨i,j,r1,r2,c,t.ret so _ rfl⟩
   ·rw[if_neg c] at t;exact t.no.elim
  |_=>exact t.no.elim
 |_=>exact t.no.elim
def Ke (d e:D)(mu:Sto):Rs D:=match d,e with
 |.int i,.int j=>if L7 i j then some (.int (i / j),mu) else none
 |_,_=>none
theorem Kr:OpV X (binaryOp .FloorDiv) Ke:=by
 intro pj s st H x y v u Q I rx ry h
 obtain⟨th,mu,d,e,so,r1,r2,t⟩:=h
 cases d with
 |int i =>
  cases e with
  |int j =>
   unfold Ke at t;dsimp only at t
   by_cases c:L7 i j
   ·rw[if_pos c] at t;exact Tn pj s st H x y v u Q I rx ry ⟨i,j,r1,r2,c,t.ret so _ rfl⟩
   ·rw[if_neg c] at t;exact t.no.elim
  |_=>exact t.no.elim
 |_=>exact t.no.elim
def Qx (d e:D)(mu:Sto):Rs D:=match d,e with
 |.int i,.int j=>if O9 i j then some (.int (i ^ j.toNat),mu) else none
 |_,_=>none
theorem SF:OpV X (binaryOp .Pow) Qx:=by
 intro pj s st H x y v u Q I rx ry h
 obtain⟨th,mu,d,e,so,r1,r2,t⟩:=h
 cases d with
 |int i =>
  cases e with
  |int j =>
   unfold Qx at t;dsimp only at t
   by_cases c:O9 i j
   ·rw[if_pos c] at t;exact VJ pj s st H x y v u Q I rx ry ⟨i,j,r1,r2,c,t.ret so _ rfl⟩
   ·rw[if_neg c] at t;exact t.no.elim
  |_=>exact t.no.elim
 |_=>exact t.no.elim
instance (z:Str) (n:Int):Decidable (MulOk z n):=by unfold MulOk;infer_instance
def F8 (d e:D)(mu:Sto):Rs D:=match d,e with
 |.int i,.int j=>if CMul i j then some (.int (i*j),mu) else none
 |.str z,.int n=>if MulOk z n/\(Txt.mul z n).length<=sizeLine/\PyData.strOk (Txt.mul z n)=true then some (.str (Txt.mul z n),mu) else none
 |_,_=>none
theorem Fp:OpV X (binaryOp .Mult) F8:=by
 intro pj s st H x y v u Q I rx ry h
 obtain⟨th,mu,d,e,so,r1,r2,t⟩:=h
 cases d with
 |int i =>
  cases e with
  |int j =>
   unfold F8 at t;dsimp only at t
   by_cases c:CMul i j
   ·rw[if_pos c] at t;exact WV pj s st H x y v u Q I rx ry ⟨i,j,r1,r2,c,t.ret so _ rfl⟩
   ·rw[if_neg c] at t;exact t.no.elim
  |_=>exact t.no.elim
 |str z =>
  cases e with
  |int j =>
   unfold F8 at t;dsimp only at t
   by_cases c:MulOk z j/\(Txt.mul z j).length<=sizeLine/\PyData.strOk (Txt.mul z j)=true
   ·rw[if_pos c] at t;exact N2 pj s st H x y v u Q I rx ry ⟨z,j,r1.1,r2,c.1,t.ret so _ ⟨rfl,c.2⟩⟩
   ·rw[if_neg c] at t;exact t.no.elim
  |_=>exact t.no.elim
 |_=>exact t.no.elim
def Qw {a b:Addr}{ys:List V}{pj:Zab}{st:L2.St}{s:Shared}{Q:VK}(I:L2.Inv X pj st H s)(ha:SqT X.K H a [])(hb:SqT X.K H b ys)(q:Q (.ref b) H):wpAny (model X.prog X.w) X.A (binaryOp .Add (.ref a) (.ref b)) (EP X pj st Q) X.xe s:=by
 obtain⟨its,r1,p1,_⟩:=I.tuple ha
 obtain⟨its2,r2,p2,_⟩:=I.tuple hb
 have e:its=[]:=by cases r1;rfl
 subst e
 obtain⟨⟨cls,dd,data,sl⟩,ho,hc,n,hd⟩:=id p1
 obtain⟨⟨cls2,dd2,data2,sl2⟩,ho2,hc2,n2,hd2⟩:=id p2
 simp only at hc hd hc2 hd2
 subst hc hd hc2 hd2
 exact concat_meets ⟨_,ho,rfl⟩ ⟨_,ho2,rfl⟩ noFill_tuple_add seq_tuple_add F.slot_tuple_add F.entry_tuple_add (F.args_tuple_add_2 _ _)
   (tuple_addW0 a b _ its2.toArray n n2 dd dd2 sl sl2 (by simp)) ⟨ho,ho2,⟨.ref b,H,I,rfl,q⟩⟩
def UG {a b:Addr}{xs ys:List V}{pj:Zab}{st:L2.St}{s:Shared}{Q:VK}(I:L2.Inv X pj st H s)(ha:SqL X.K H a xs)(hb:SqL X.K H b ys)(hz:xs.length+ys.length<=sizeLine)(q:∀p,H p=none->Q (.ref p) (upd H p (.lst (xs++ys)))):wpAny (model X.prog X.w) X.A (binaryOp .Add (.ref a) (.ref b)) (EP X pj st Q) X.xe s:=by
 obtain⟨its,r1,⟨o1,n1,p1,c1,d1,e1⟩,_⟩:=I.list ha
 obtain⟨its2,r2,⟨o2,n2,p2,c2,d2,e2⟩,_⟩:=I.list hb
 obtain⟨cls,dd,data,sl⟩:=o1
 obtain⟨cls2,dd2,data2,sl2⟩:=o2
 simp only at c1 d1 e1 c2 d2 e2
 subst c1 d1 e1 c2 d2 e2
 refine concat_meets ⟨_,p1,rfl⟩ ⟨_,p2,rfl⟩ noFill_list_add seq_list_add F.slot_list_add F.entry_list_add (F.args_list_add_2 _ _)
   (list_addW a b _ its2.toArray n1 n2 _ _ sl sl2 (by rw[Az,Az,<- r1.length,<- r2.length];exact hz)) ⟨p1,p2,?_⟩
 refine⟨.ref s.heap.objs.size,_,I.laid (t':=s.toks) (o:=.lst (xs++ys)) (λb ob q=>Ad _ q) (Ai _) ?_,rfl,q _ (I.hok.fresh (Ai _))⟩
 exact⟨by rw[Ar];exact hz,its++its2,0,r1.append r2,by simpa using Ak _ rfl⟩
def D5 (mu:Sto):D->Option (List D)
 |.lst ds=>some ds
 |.ref k=>match mu[k]? with
  |some (.lst ds)=>some ds
  |_=>none
 |_=>none
theorem Fh (so:StoOk K th mu H){d:D}{ds:List D}{v:V}(h:D5 mu d=some ds)(r:Rep K th H d v):∃a vs,v=.ref a/\SqL K.K H a vs/\RepL K th H ds vs/\ds.length<=sizeLine:=by
 cases d with
 |lst es=>cases h;unfold Rep at r;obtain⟨a,vs,rfl,h1,h2,h3⟩:=r;exact⟨a,vs,rfl,h1.sq,h2,h3⟩
 |ref k =>
  unfold D5 at h
  dsimp only at h
  cases e:mu[k]? with
  |none=>rw[e] at h;cases h
  |some o =>
   cases o with
   |dct _ _=>rw[e] at h;cases h
   |lst es =>
    rw[e] at h
    cases h
    unfold Rep at r
    obtain⟨a,rfl,ha⟩:=r
    obtain⟨vs,h1,h2,h3⟩:=so.at' k a _ ha e
    exact⟨a,vs,rfl,.inl (.inl h1),h2,h3⟩
 |_=>cases h
def Dw (d e:D)(mu:Sto):Rs D:=match d,e with
 |.int i,.int j=>some (.int (i+j),mu)
 |.str x,.str y=>if x.length+y.length<=sizeLine then some (.str (x++y),mu) else none
 |.tup xs,.tup ys=>if xs.length+ys.length<=sizeLine then some (.tup (xs++ys),mu) else none
 |d,e=>match D5 mu d,D5 mu e with
  |some xs,some ys=>if xs.length+ys.length<=sizeLine then some (.lst (xs++ys),mu) else none
  |_,_=>none
theorem Dr:OpV X (binaryOp .Add) Dw:=by
 intro pj s st H x y v u Q I rx ry h
 obtain⟨th,mu,d,e,so,r1,r2,t⟩:=h
 have lists:∀(t:Tr X.z th H (match D5 mu d,D5 mu e with
  |some xs,some ys=>if xs.length+ys.length<=sizeLine then some (D.lst (xs++ys),mu) else none
  |_,_=>none) (KV' X.z Q)),wpAny (model X.prog X.w) X.A (binaryOp .Add v u) (EP X pj st Q) X.xe s:=λt=>by
  cases e1:D5 mu d with
  |none=>rw[e1] at t;exact t.no.elim
  |some xs =>
   cases e2:D5 mu e with
   |none=>rw[e1,e2] at t;exact t.no.elim
   |some ys =>
    rw[e1,e2] at t
    dsimp only at t
    by_cases c:xs.length+ys.length<=sizeLine
    ·rw[if_pos c] at t
     obtain⟨a,vs,rfl,h1,h2,h3⟩:=Fh so e1 r1
     obtain⟨b,us,rfl,k1,k2,k3⟩:=Fh so e2 r2
     cases rx
     cases ry
     refine UG I h1 k1 (by rw[h2.len,k2.len];exact c) λp hp=>t.retX (.new hp _) (so.new hp _) _ (Rep.newLst so hp (h2.app k2) (by rw[Ar];exact c))
    ·rw[if_neg c] at t;exact t.no.elim
 cases d with
 |int i =>
  cases e with
  |int j=>exact VB pj s st H x y v u Q I rx ry ⟨i,j,r1,r2,t.ret so _ rfl⟩
  |_=>exact lists t
 |str i =>
  cases e with
  |str j =>
   unfold Dw at t;dsimp only at t
   by_cases c:i.length+j.length<=sizeLine
   ·rw[if_pos c] at t
    exact Nr pj s st H x y v u Q I rx ry ⟨i,j,r1.1,r2.1,c,t.ret so _ ⟨rfl,by rw[len_app];exact c,PR r1.2.2 r2.2.2⟩⟩
   ·rw[if_neg c] at t;exact t.no.elim
  |_=>exact lists t
 |tup xs =>
  cases e with
  |tup ys =>
   unfold Dw at t;dsimp only at t
   by_cases c:xs.length+ys.length<=sizeLine
   ·rw[if_pos c] at t
    unfold Rep at r1 r2
    obtain⟨a,vs,rfl,h1,h2,h3⟩:=r1
    obtain⟨b,us,rfl,k1,k2,k3⟩:=r2
    cases rx
    cases ry
    cases xs with
    |nil =>
     cases h2.inv0
     exact Qw I h1 k1 (t.ret so _ (by unfold Rep;exact⟨b,us,rfl,k1,k2,k3⟩))
    |cons x0 xs0 =>
     obtain⟨v0,vr,rfl,_,_⟩:=h2.inv
     refine Th pj s st H (.ref a) (.ref b) _ _ Q I rfl rfl ⟨a,b,v0::vr,us,rfl,rfl,h1,k1,by simp,by rw[h2.len,k2.len];exact c,λhu=>?_,λ_ p hp=>t.retX (.new hp _) (so.new hp _) _ (Rep.newTup so hp (h2.app k2) (by rw[Ar];exact c))⟩
     subst hu
     have:ys=[]:=Co.mp (by rw[<- k2.len];rfl)
     subst this
     rw[List.append_nil] at t
     exact t.ret so _ (by unfold Rep;exact⟨a,_,rfl,h1,h2,h3⟩)
   ·rw[if_neg c] at t;exact t.no.elim
  |_=>exact lists t
 |_=>exact lists t
def RA (f:Int->Int->Bool)(g:Str->Str->Bool)(d e:D)(mu:Sto):Rs D:=match d,e with
 |.int i,.int j=>some (.bl (f i j),mu)
 |.str i,.str j=>some (.bl (g i j),mu)
 |_,_=>none
def leD:=RA (λi j=>decide (i<=j)) λi j=>!decide (j.cps.toList<i.cps.toList)
def gtD:=RA (λi j=>decide (j<i)) λi j=>decide (j.cps.toList<i.cps.toList)
def geD:=RA (λi j=>decide (j<=i)) λi j=>!decide (i.cps.toList<j.cps.toList)
theorem OC {op:CmpOp}{f:Int->Int->Bool}{g:Str->Str->Bool}(h1:OpR X (compareOp op) (rI0 λi j=>.bl (f i j)))
  (h2:∀(i j:Str) (t t':Tok) (s:Shared) (Q:Value->Zaa),Q (.bool (g i j)) s->wpAny (model X.prog X.w) X.A (compareOp op (.str i t) (.str j t')) Q X.xe s):OpV X (compareOp op) (RA f g):=by
 intro pj s st H x y v u Q I rx ry h
 obtain⟨th,mu,d,e,so,r1,r2,t⟩:=h
 cases d with
 |int i =>
  cases e with
  |int j=>exact h1 pj s st H x y v u Q I rx ry ⟨i,j,r1,r2,t.ret so _ rfl⟩
  |_=>exact t.no.elim
 |str i =>
  cases e with
  |str j =>
   obtain⟨rfl,_⟩:=(show _/\_ from r1)
   obtain⟨rfl,_⟩:=(show _/\_ from r2)
   obtain⟨t1,rfl⟩:=rx
   obtain⟨t2,rfl⟩:=ry
   exact h2 i j t1 t2 s _ ⟨.bl _,H,I,rfl,t.ret so _ rfl⟩
  |_=>exact t.no.elim
 |_=>exact t.no.elim
def Vb:OpV X (compareOp .Gt) gtD:=OC X6 λi j t t' s Q h=>PySem.P.gt_str h
def VO:OpV X (compareOp .GtE) geD:=OC Ze λi j t t' s Q h=>PySem.P.ge_str h
def isB:D->D->Option Bool
 |.non,.non=>some true
 |.bl a,.bl b=>some (a==b)
 |.non,.bl _=>none
 |.ref _,.non=>some false
 |.tup _,.non=>some false
 |.lst _,.non=>some false
 |.str _,.non=>some false
 |.int _,.non=>some false
 |.bl _,.non=>some false
 |.dct _ _,.non=>some false
 |.set _,.non=>some false
 |_,_=>none
def isD (d e:D)(mu:Sto):Rs D:=(isB d e).map λb=>(.bl b,mu)
def L3 (d e:D)(mu:Sto):Rs D:=(isB d e).map λb=>(.bl (!b),mu)
theorem OE:OpV X (compareOp .IsNot) L3:=by
 intro pj s st H x y v u Q I rx ry h
 obtain⟨th,mu,d,e,so,r1,r2,t⟩:=h
 cases e with
 |non =>
  have go:∀b,isB d .non=some b->(b=decide (x=.non))->wpAny (model X.prog X.w) X.A (compareOp .IsNot v u) (EP X pj st Q) X.xe s:=λb eb ex=>by
   unfold L3 at t
   rw[eb] at t
   have q:Q (.bl (!b)) H:=t.ret so _ rfl
   exact TZ pj s st H x y v u Q I rx ry ⟨r2,by rw[<- ex];exact q⟩
  cases d with
  |non=>exact go _ rfl (by rw[show x=_ from r1];rfl)
  |bl b=>exact go _ rfl (by rw[show x=_ from r1];rfl)
  |int b=>exact go _ rfl (by rw[show x=_ from r1];rfl)
  |str b=>exact go _ rfl (by rw[r1.1];rfl)
  |tup b=>exact go _ rfl (by unfold Rep at r1;obtain⟨a,vs,rfl,_⟩:=r1;rfl)
  |lst b=>exact go _ rfl (by unfold Rep at r1;obtain⟨a,vs,rfl,_⟩:=r1;rfl)
  |dct _ _=>exact go _ rfl (by unfold Rep at r1;obtain⟨a,xs,rfl,_⟩:=r1;rfl)
  |set _=>exact go _ rfl (by unfold Rep at r1;obtain⟨a,us,vs,rfl,_⟩:=r1;rfl)
  |ref b=>exact go _ rfl (by unfold Rep at r1;obtain⟨a,rfl,_⟩:=r1;rfl)
 |bl b =>
  cases d with
  |bl a=>exact Mu pj s st H x y v u Q I rx ry ⟨a,b,r1,r2,t.ret so _ rfl⟩
  |_=>exact t.no.elim
 |_=>cases d<;>exact t.no.elim
def Wc (g g':D->D->Sto->Rs D)(a b c:Ex):Ex:=λro mu=>bM (a ro mu) λx m1=>bM (b ro m1) λy m2=>bM (g x y m2) λz m3=>match asB z with
 |none=>none
 |some k=>if k=true then bM (c ro m3) λw' m4=>g' y w' m4 else some (.bl false,m3)
def ixD (d e:D)(mu:Sto):Rs D:=match e with
 |.int i=>match d with
  |.tup ds=>(atI ds i).map λx=>(x,mu)
  |.str z=>(atI z.cps.toList i).map λc=>(.str ⟨#[c]⟩,mu)
  |d=>match D5 mu d with
   |some ds=>(atI ds i).map λx=>(x,mu)
   |none=>none
 |_=>none
theorem OD {ds:List D}{vs:List V}{i:Int}{d:D}(r:RepL K th H ds vs)(h:atI ds i=some d):∃v,atI vs i=some v/\Rep K th H d v:=by
 unfold atI at h ⊢
 rw[r.len]
 cases e:ixN ds.length i with
 |none=>rw[e] at h;cases h
 |some j =>
  rw[e] at h
  obtain⟨v,e1,e2⟩:=r.get (show ds[j]?=some d from h)
  exact⟨v,e1,e2⟩
def Tc {α:Type}{xs:List α}{i:Int}{v:α}(h:atI xs i=some v):v∈xs:=by
 obtain⟨j,_,e,_⟩:=JA h
 exact Ag e
theorem Aax:IxR X (r2 X.z ixD):=by
 intro value slice pj s st H x y v u Q I rx ry h hsub
 obtain⟨th,mu,d,e,so,r1,r2,t⟩:=h
 cases e with
 |int i =>
  have lists:∀(t:Tr X.z th H (match D5 mu d with
   |some ds=>(atI ds i).map λx=>(x,mu)
   |none=>none) (KV' X.z Q)),Xq X.K x y H Q:=λt=>by
   cases e1:D5 mu d with
   |none=>rw[e1] at t;exact t.no.elim
   |some ds =>
    rw[e1] at t
    dsimp only at t
    cases e2:atI ds i with
    |none=>rw[e2] at t;exact t.no.elim
    |some x' =>
     rw[e2] at t
     obtain⟨a,vs,rfl,h1,h2,h3⟩:=Fh so e1 r1
     obtain⟨v',w1,w2⟩:=OD h2 e2
     exact⟨a,vs,i,v',rfl,r2,h1,w1,t.ret so _ w2⟩
  refine WQ value slice pj s st H x y v u Q I rx ry ?_ hsub
  cases d with
  |tup ds =>
   unfold ixD at t;dsimp only at t
   cases e2:atI ds i with
   |none=>rw[e2] at t;exact t.no.elim
   |some x' =>
    rw[e2] at t
    unfold Rep at r1
    obtain⟨a,vs,rfl,h1,h2,h3⟩:=r1
    obtain⟨v',w1,w2⟩:=OD h2 e2
    exact .inr (.inl ⟨a,vs,i,v',rfl,r2,h1,w1,t.ret so _ w2⟩)
  |str z =>
   unfold ixD at t;dsimp only at t
   cases e2:atI z.cps.toList i with
   |none=>rw[e2] at t;exact t.no.elim
   |some c =>
    rw[e2] at t
    exact .inr (.inr ⟨z,i,c,r1.1,r2,r1.2.1,e2,t.ret so _ (Mw r1.2.2 (Tc e2))⟩)
  |_=>exact .inl (lists t)
 |_=>exact t.no.elim
abbrev Px:=Ro->Sto->Rs (Option Int)
def pNo:Px:=λ_ mu=>some (none,mu)
def DK (a:Ex):Px:=λro mu=>bM (a ro mu) λd m1=>match d with
 |.int i=>some (some i,m1)
 |_=>none
def rdP (K:Zc)(m:Px):TO:=λst H Q=>∃th mu ro,StoOk K th mu H/\EnvOk K th H ro st/\Tr K th H (m ro mu) λo _ _ H'=>Q o H'
structure SVP (X:Cx) (e:Option Expr) (m:Px):Prop where
 r:PO X e (rdP X.z m)
def PO.weak {e:Option Expr}{t t':TO}(h:PO X e t)(f:∀st H Q,t' st H Q->t st H Q):PO X e t':=λpj s st H Q I q=>h pj s st H Q I (f st H Q q)
def Ee:SVP X none pNo:=⟨PO.weak Ul λst H Q h=>by
 obtain⟨th,mu,ro,so,en,t⟩:=h
 exact t.ret so⟩
theorem Ef {e:Expr}{m:Ex}(h:SV X e m):SVP X (some e) (DK m):=⟨PO.weak (SU h.r) λst H Q h=>by
 obtain⟨th,mu,ro,so,en,t⟩:=h
 refine⟨th,mu,ro,so,en,t.bind.mono λd th1 mu1 H1 e1 s1 t1 v rv=>?_⟩
 cases d with
 |int i=>exact⟨i,rv,t1.ret s1⟩
 |_=>exact t1.no.elim⟩
def cutD {α:Type}(xs:List α)(lo hi:Option Int):List α:=(xs.drop (HT.sIx xs.length 0 lo)).take (HT.sIx xs.length xs.length hi-HT.sIx xs.length 0 lo)
def OA {ds:List D}{vs:List V}(r:RepL K th H ds vs)(lo hi:Option Int):RepL K th H (cutD ds lo hi) (Nf vs lo hi):=by
 unfold cutD Nf
 rw[r.len]
 exact(r.drop _).take _
def Mh {α:Type}(xs:List α)(lo hi:Option Int):(cutD xs lo hi).length<=xs.length:=by
 unfold cutD
 rw[AA,List.length_drop]
 ext
def slD (d:D)(lo hi:Option Int)(mu:Sto):Rs D:=match d with
 |.tup ds=>some (.tup (cutD ds lo hi),mu)
 |.str z=>if PyData.strOk (Txt.slice z lo hi)=true then some (.str (Txt.slice z lo hi),mu) else none
 |d=>match D5 mu d with
  |some ds=>some (.lst (cutD ds lo hi),mu)
  |none=>none
def r3 (K:Zc)(op:D->Option Int->Option Int->Sto->Rs D):V->Option Int->Option Int->Hp->VK->Prop:=λx lo hi H Q=>∃th mu d,StoOk K th mu H/\Rep K th H d x/\Tr K th H (op d lo hi mu) (KV' K Q)
def eSl (a:Ex)(p q:Px):Ex:=λro mu=>bM (a ro mu) λd m1=>bM (p ro m1) λlo m2=>bM (q ro m2) λhi m3=>slD d lo hi m3
def Hy {prog:Program}{w:World}{A:Around}{E:Value->Zaa}{s:Shared}{t sl:Addr}{items:Array Value}{vl vu:Value}{lo hi:Option Int}{Q:Value->Zaa}(ht:IsTup s.heap t items)(hs:s.heap.IsSliceOf sl vl vu .none)(pl:IsPart vl lo)(pu:IsPart vu hi)
  (h1:HT.sIx items.size 0 lo=0) (h2:HT.sIx items.size items.size hi=items.size) (h:Q (.ref t) s):wpAny (model prog w) A (getItem (.ref t) (.ref sl)) Q E s:=by
 obtain⟨os,hos,hcs,hds⟩:=id hs
 have hTs:s.TypeIs (.ref sl) "slice":=⟨os,hos,hcs⟩
 unfold getItem
 try with_reducible refine AL ?_
 first|refine Aa (Ab ?_)|skip
 refine Aa (wpAny_sequenceKey ht.typeIs (by decide) ?_)
 refine Aa (AV (name:=Str.ofString "__getitem__") ht.typeIs BB
  (AM BB ht.typeIs entry_tuple_getitem ?_ (args_tuple_getitem _ _)))
 show wpAny _ _ (Builtin.Tuple.tupleItemsOf (.ref t)>>=_) _ _ s
 refine Aa (tupleItemsOf_ ht ?_)
 refine Aa (BJ hTs ?_)
 rw[if_pos (by decide)]
 refine Aa (HT.Gn hs pl pu ?_)
 rw[h1,h2]
 dsimp only
 rw[if_pos (by simp)]
 unfold Builtin.Tuple.tupleIsExact
 refine Aa (Aa (BJ ht.typeIs (Ab ?_)))
 rw[if_pos (by decide)]
 exact Aa (Bn (Ab ⟨_,rfl,Ab h⟩))
theorem ZS:SlR X (r3 X.z slD):=by
 intro pj s st H x v vl vu lo hi sl Q I rx hs pl pu h
 obtain⟨th,mu,d,so,r,t⟩:=h
 have lists:∀(t:Tr X.z th H (match D5 mu d with
   |some ds=>some (D.lst (cutD ds lo hi),mu)
   |none=>none) (KV' X.z Q)),YJ X.K x lo hi H Q:=λt=>by
   cases e1:D5 mu d with
   |none=>rw[e1] at t;exact t.no.elim
   |some ds =>
    rw[e1] at t
    obtain⟨a,vs,rfl,h1,h2,h3⟩:=Fh so e1 r
    exact⟨a,vs,rfl,h1,λp hp=>t.retX (.new hp _) (so.new hp _) _ (Rep.newLst so hp (OA h2 lo hi) (AU (Mh ds lo hi) h3))⟩
 cases d with
 |tup ds =>
  unfold Rep at r
  obtain⟨a,vs,rfl,h1,h2,h3⟩:=r
  by_cases c:HT.sIx vs.length 0 lo=0/\HT.sIx vs.length vs.length hi=vs.length
  ·cases rx
   obtain⟨its,rv,ht,hz⟩:=I.tuple h1
   have hlen:its.toArray.size=vs.length:=by rw[Az];exact rv.length.symm
   refine⟨"tuple",_,BB.lookup,ht.typeIs,?_⟩
   refine Hy ht hs pl pu (by rw[hlen];exact c.1) (by rw[hlen];exact c.2) ⟨.ref a,H,I,rfl,t.ret so _ ?_⟩
   have e:cutD ds lo hi=ds:=by
    unfold cutD
    rw[<- h2.len,c.1,c.2,h2.len]
    simp
   rw[e]
   unfold Rep
   exact⟨a,vs,rfl,h1,h2,h3⟩
  ·exact VS pj s st H _ v vl vu lo hi sl Q I rx hs pl pu ⟨a,vs,rfl,h1,c,λp hp=>t.retX (.new hp _) (so.new hp _) _ (Rep.newTup so hp (OA h2 lo hi) (AU (Mh ds lo hi) h3))⟩
 |str z =>
  unfold slD at t;dsimp only at t
  by_cases c:PyData.strOk (Txt.slice z lo hi)=true
  ·rw[if_pos c] at t
   exact W9 pj s st H _ v vl vu lo hi sl Q I rx hs pl pu ⟨z,r.1,r.2.1,t.ret so _ ⟨rfl,AU (Txt.slice_le z _ _) r.2.1,c⟩⟩
  ·rw[if_neg c] at t;exact t.no.elim
 |_=>exact SO pj s st H _ v vl vu lo hi sl Q I rx hs pl pu (lists t)
def Ea {e:Expr}{lo hi:Option Expr}{m:Ex}{p q:Px}{p2 pos:Pos}(he:SV X e m)(hl:SVP X lo p)(hh:SVP X hi q):SV X (.Subscript e (.Slice lo hi none p2) pos) (eSl m p q):=⟨PE.weak (RJ ZS he.r hl.r hh.r) λst H Q h=>by
 obtain⟨th,mu,ro,so,en,t⟩:=h
 refine⟨th,mu,ro,so,en,t.bind.mono λd th1 mu1 H1 e1 s1 t1 v rv=>?_⟩
 refine⟨th1,mu1,ro,s1,en.ext e1 so.out,t1.bind.mono λlo' th2 mu2 H2 e2 s2 t2=>?_⟩
 refine⟨th2,mu2,ro,s2,(en.ext e1 so.out).ext e2 s1.out,t2.bind.mono λhi' th3 mu3 H3 e3 s3 t3=>?_⟩
 exact⟨th3,mu3,d,s3,(rv.ext e2 s1.out).ext e3 s2.out,t3⟩⟩
def tyN:D->String
 |.non=>"NoneType"|.bl _=>"bool"|.int _=>"int"|.str _=>"str"|.tup _=>"tuple"|.lst _=>"list"|.dct _ _=>"dict"|.set _=>"set"|.ref _=>"list"
def isi (T:String)(d:D):Bool:=tyN d==T||(T=="int"&&tyN d=="bool")
def FD (mu:Sto):D->Bool
 |.ref k=>match mu[k]? with
  |some (.lst _)=>true
  |_=>false
 |_=>true
def P9 {mu:Sto}{k:Nat}(h:FD mu (.ref k)=true):∃ds,mu[k]?=some (.lst ds):=by
 unfold FD at h
 dsimp only at h
 split at h
 ·rename_i ds e;exact⟨ds,e⟩
 ·cases h
def Aay (T:String)(a:Ex):Ex:=λro mu=>bM (a ro mu) λd m1=>if FD m1 d=true then some (.bl (isi T d),m1) else none
def YX (mu:Sto):D->Option Nat
 |.str x=>some x.length
 |.tup ds=>some ds.length
 |.lst ds=>some ds.length
 |.ref k=>(D5 mu (.ref k)).map (·.length)
 |_=>none
def GL:Fn:=λds mu=>match ds with
 |[d]=>(YX mu d).map λn=>(.int n,mu)
 |_=>none
def Eg {xs:List V}{d:D}(r:RepL K th H [d] xs):∃x,xs=[x]/\Rep K th H d x:=by
 obtain⟨v,r',rfl,h1,h2⟩:=r.inv
 cases h2.inv0
 exact⟨v,rfl,h1⟩
def GH {xs:List V}{d e:D}(r:RepL K th H [d,e] xs):∃x y,xs=[x,y]/\Rep K th H d x/\Rep K th H e y:=by
 obtain⟨v,r',rfl,h1,h2⟩:=r.inv
 obtain⟨u,rfl,h3⟩:=Eg h2
 exact⟨v,u,rfl,h1,h3⟩
theorem Fg:CallV X (.builtin "len") GL:=by
 intro pj s st H xs us Q I r h
 obtain⟨th,mu,ds,so,rd,t⟩:=h
 match ds,t,rd with
 |[d],t,rd =>
  obtain⟨x,rfl,rx⟩:=Eg rd
  cases d with
  |str z=>exact LI pj s st H _ us Q I r ⟨z,by rw[rx.1],rx.2.1,t.ret so _ rfl⟩
  |tup es =>
   unfold Rep at rx
   obtain⟨a,vs,rfl,h1,h2,_⟩:=rx
   exact GB pj s st H _ us Q I r ⟨a,vs,rfl,.inr h1,by rw[h2.len];exact t.ret so _ rfl⟩
  |lst es =>
   unfold Rep at rx
   obtain⟨a,vs,rfl,h1,h2,_⟩:=rx
   exact GB pj s st H _ us Q I r ⟨a,vs,rfl,.inl h1.sq,by rw[h2.len];exact t.ret so _ rfl⟩
  |ref k =>
   unfold GL YX at t
   dsimp only at t
   cases e1:D5 mu (.ref k) with
   |none=>rw[e1] at t;exact t.no.elim
   |some es =>
    rw[e1] at t
    obtain⟨a,vs,rfl,h1,h2,h3⟩:=Fh so e1 rx
    exact GB pj s st H _ us Q I r ⟨a,vs,rfl,.inl h1,by rw[h2.len];exact t.ret so _ rfl⟩
  |_=>exact t.no.elim
 |[],t,_=>exact t.no.elim
 |_::_::_,t,_=>exact t.no.elim
def N9:List D->Option (List Bool)
 |[]=>some []
 |.bl b::ds=>(N9 ds).map (b::·)
 |_=>none
def quF (f:List Bool->Bool):Fn:=λds mu=>match ds with
 |[d]=>match D5 mu d with
  |some es=>(N9 es).map λbs=>(.bl (f bs),mu)
  |none=>none
 |_=>none
def Wq:=quF λbs=>bs.all id
def ints2 (ds:List D):Option (Int×Int):=match ds with
 |[.int i,.int j]=>some (i,j)
 |_=>none
def K2 {ds:List D}{p:Int×Int}(h:ints2 ds=some p):ds=[.int p.1,.int p.2]:=by
 unfold ints2 at h
 split at h
 ·cases h;rfl
 ·cases h
def M1:Fn:=λds mu=>(ints2 ds).map λp=>(.int (if p.2<p.1 then p.2 else p.1),mu)
def QE:Fn:=λds mu=>(ints2 ds).map λp=>(.int (if p.2 > p.1 then p.2 else p.1),mu)
def intOf (ds:List D):Option Int:=match ds with
 |[.int i]=>some i
 |[.bl b]=>some (if b then 1 else 0)
 |_=>none
def PB {ds:List D}{i:Int}(h:intOf ds=some i):ds=[.int i]\/∃b,ds=[.bl b]/\i=if b then 1 else 0:=by
 unfold intOf at h
 split at h
 ·cases h;exact .inl rfl
 ·cases h;exact .inr ⟨_,rfl,rfl⟩
 ·cases h
def J9:Fn:=λds mu=>(intOf ds).map λi=>(.int i,mu)
def RQ (ds:List D):Option Int:=match ds with
 |[.int i]=>some i
 |_=>none
def Q3 {ds:List D}{i:Int}(h:RQ ds=some i):ds=[.int i]:=by
 unfold RQ at h
 split at h
 ·cases h;rfl
 ·cases h
theorem K0 (hc:X.calm=true):CallV X (.builtin "min") M1:=by
 intro pj s st H xs us Q I r h
 obtain⟨th,mu,ds,so,rd,t⟩:=h
 unfold M1 at t
 cases e:ints2 ds with
 |none=>rw[e] at t;exact t.no.elim
 |some p =>
  rw[e] at t
  rw[K2 e] at rd
  obtain⟨x,y,rfl,rx,ry⟩:=GH rd
  exact Pf hc pj s st H _ us Q I r ⟨p.1,p.2,by rw[show x=_ from rx,show y=_ from ry],t.ret so _ rfl⟩
theorem Pn (hc:X.calm=true):CallV X (.builtin "max") QE:=by
 intro pj s st H xs us Q I r h
 obtain⟨th,mu,ds,so,rd,t⟩:=h
 unfold QE at t
 cases e:ints2 ds with
 |none=>rw[e] at t;exact t.no.elim
 |some p =>
  rw[e] at t
  rw[K2 e] at rd
  obtain⟨x,y,rfl,rx,ry⟩:=GH rd
  exact PJ hc pj s st H _ us Q I r ⟨p.1,p.2,by rw[show x=_ from rx,show y=_ from ry],t.ret so _ rfl⟩
theorem KR:CallV X (.type "int") J9:=by
 intro pj s st H xs us Q I r h
 obtain⟨th,mu,ds,so,rd,t⟩:=h
 unfold J9 at t
 cases e:intOf ds with
 |none=>rw[e] at t;exact t.no.elim
 |some i =>
  rw[e] at t
  rcases PB e with h|⟨b,h,hb⟩
  ·rw[h] at rd
   obtain⟨x,rfl,rx⟩:=Eg rd
   exact Lp pj s st H _ us Q I r (.inl ⟨i,by rw[show x=_ from rx],t.ret so _ rfl⟩)
  ·rw[h] at rd
   obtain⟨x,rfl,rx⟩:=Eg rd
   exact Lp pj s st H _ us Q I r (.inr ⟨b,by rw[show x=_ from rx],by rw[<- hb];exact t.ret so _ rfl⟩)
def Gg (mu:Sto):D->Option (List D)
 |.tup ds=>some ds
 |d=>D5 mu d
theorem Hm (so:StoOk K th mu H){d:D}{ds:List D}{v:V}(h:Gg mu d=some ds)(r:Rep K th H d v):∃a vs,v=.ref a/\(SqL K.K H a vs\/SqT K.K H a vs/\d=.tup ds)/\RepL K th H ds vs/\ds.length<=sizeLine:=by
 cases d with
 |tup es=>cases h;unfold Rep at r;obtain⟨a,vs,rfl,h1,h2,h3⟩:=r;exact⟨a,vs,rfl,.inr ⟨h1,rfl⟩,h2,h3⟩
 |lst es=>obtain⟨a,vs,rfl,h1,h2,h3⟩:=Fh so (d:=.lst es) h r;exact⟨a,vs,rfl,.inl h1,h2,h3⟩
 |ref k=>obtain⟨a,vs,rfl,h1,h2,h3⟩:=Fh so (d:=.ref k) h r;exact⟨a,vs,rfl,.inl h1,h2,h3⟩
 |_=>cases h
def FK (ds:List D):Option D:=match ds with
 |[d]=>some d
 |_=>none
def FU {ds:List D}{d:D}(h:FK ds=some d):ds=[d]:=by
 unfold FK at h
 split at h
 ·cases h;rfl
 ·cases h
def sq1 (ds:List D)(mu:Sto):Option (List D):=match FK ds with
 |some d=>Gg mu d
 |none=>none
def EW:Fn:=λds mu=>(sq1 ds mu).map λes=>(.tup es,mu)
def Aav:Fn:=λds mu=>(sq1 ds mu).map λes=>(.lst es,mu)
theorem LR {ds es:List D}(h:sq1 ds mu=some es):∃d,ds=[d]/\Gg mu d=some es:=by
 unfold sq1 at h
 cases e:FK ds with
 |none=>rw[e] at h;cases h
 |some d=>rw[e] at h;exact⟨d,FU e,h⟩
theorem DE:CallV X (.type "tuple") EW:=by
 intro pj s st H xs us Q I r h
 obtain⟨th,mu,ds,so,rd,t⟩:=h
 unfold EW at t
 cases e:sq1 ds mu with
 |none=>rw[e] at t;exact t.no.elim
 |some es =>
  rw[e] at t
  obtain⟨d,rfl,e2⟩:=LR e
  obtain⟨x,rfl,rx⟩:=Eg rd
  obtain⟨a,vs,rfl,h1,h2,h3⟩:=Hm so e2 rx
  refine KP pj s st H _ us Q I r ⟨a,vs,rfl,?_⟩
  rcases h1 with h1|⟨h1,rfl⟩
  ·exact .inl ⟨h1,λp hp=>t.retX (.new hp _) (so.new hp _) _ (Rep.newTup so hp h2 h3)⟩
  ·exact .inr ⟨h1,t.ret so _ rx⟩
def HG (o:Ex)(a:Exs):Ex:=λro mu=>bM (o ro mu) λd m1=>match d with
 |.ref k=>if FD m1 (.ref k)=true then bM (a ro m1) λxs m2=>match FK xs,m2[k]? with
  |some y,some (.lst ds)=>if ds.length<sizeLine then some (.non,m2.set k (.lst (ds++[y]))) else none
  |_,_=>none
  else none
 |_=>none
def FL {o e:Expr}{m:Ex}{n:Exs}{apos cpos:Pos}(ho:SV X o m)(ha:SVA X [e] n)(hbase:attributeBase o "append" X.env (eval o X.env)=eval o X.env:=by rfl)
  (hfew:((backTo cpos (starEach [e] X.env)).all (λx=>!x.1)&&(backToKw cpos (keywordEach [] X.env)).all (λx=>x.1.isSome)
   && decide ([e].length+([]:List Keyword).length+(if ([]:List Keyword).isEmpty then 0 else 1)<30))=true:=by rfl)
  (hline:(apos.endLine==cpos.line)=true:=by rfl) (hs:starEach [e] X.env=(false,eval e X.env)::starEach [] X.env:=by rfl) (hplain:(backTo cpos (starEach [] X.env)).any (·.1)=false:=by rfl) :
  SV X (.Call (.Attribute o "append" apos) [e] [] cpos) (HG m n):=
 ⟨PE.weak (XO F.plainAttrs_list F.slot_list_append F.type_list_append PL ho.r ha.1 hbase hfew hline hs hplain) λst H Q h=>by
  obtain⟨th,mu,ro,so,en,t⟩:=h
  refine⟨th,mu,ro,so,en,t.bind.mono λd th1 mu1 H1 e1 s1 t1 v rv=>?_⟩
  cases d with
  |ref k =>
   unfold Rep at rv
   obtain⟨a,rfl,ha'⟩:=rv
   by_cases cr:FD mu1 (.ref k)=true
   case neg=>dsimp only at t1;rw[if_neg cr] at t1;exact t1.no.elim
   dsimp only at t1
   rw[if_pos cr] at t1
   obtain⟨ds0,em⟩:=P9 cr
   obtain⟨vs,h2,_⟩:=s1.at' k a _ ha' em
   refine⟨.inl ⟨rfl,vs,SqL.of h2⟩,th1,mu1,ro,s1,en.ext e1 so.out,?_⟩
   refine Tr.mono (Tr.bind t1) λxs th2 mu2 H2 e2 s2 t2 ws rws=>?_
   cases q1:FK xs with
   |none=>rw[q1] at t2;exact t2.no.elim
   |some y =>
    cases q2:mu2[k]? with
    |none=>rw[q1,q2] at t2;exact t2.no.elim
    |some o =>
     cases o with
     |dct _ _=>rw[q1,q2] at t2;exact t2.no.elim
     |lst ds =>
      rw[q1,q2] at t2
      dsimp only at t2
      by_cases c:ds.length<sizeLine
      ·rw[if_pos c] at t2
       rw[FU q1] at rws
       obtain⟨y',rfl,ry⟩:=Eg rws
       have hk:=e2.at ha'
       obtain⟨us,g1,g2,g3⟩:=s2.at' k a _ hk q2
       exact⟨a,us,y',rfl,rfl,g1,by rw[g2.len];exact c,t2.retX (.mut (Ag hk) _) (s2.put hk (g2.app (.cons ry .nil)) (by rw[Ar];exact c)) _ rfl⟩
      ·rw[if_neg c] at t2;exact t2.no.elim
  |_=>exact t1.no.elim⟩
end
end PV
namespace L2
open PySem PySem.Spec PyProof.Rows
theorem Wl {x y z:V}{us:List Value}(r:Vals [x,y,z] us):∃u v w',us=[u,v,w']/\RelV x u/\RelV y v/\RelV z w':=by
 cases r with
 |cons r1 r2 =>
  obtain⟨v,w',rfl,a,b⟩:=vals2 r2
  exact⟨_,v,w',rfl,r1,a,b⟩
def Yf (i j k:Nat)(ta:TA):TS:=λD σ H=>ta σ H λvs H1=>∃u v w,vs=[u,v,w]/\D.nx (((σ.set i (some u)).set j (some v)).set k (some w)) H1
def TJ {X:Cx}{pos:Pos}{i j k:Nat}{x y z:Str}{a b c:Expr}{ta:TA}{px py pz pt:Pos}{kt k2 pt2}(hc:X.calm=true)(hN:X.N.Nodup)(hi:X.N[i]?=some x)(hj:X.N[j]?=some y)(hk:X.N[k]?=some z)(hij:i≠j)(hik:i≠k)(hjk:j≠k)
  (hx:X.env.scope.names.lookup x=some .local) (hy:X.env.scope.names.lookup y=some .local) (hz:X.env.scope.names.lookup z=some .local) (ha:PA X [a,b,c] ta)
  (hw:swappedStores [.Tuple [.Name x px,.Name y py,.Name z pz] kt pt] (.Tuple [a,b,c] k2 pt2) X.env=pure (some [x,y,z]))
  (hs:swapsWithSole [.Tuple [.Name x px,.Name y py,.Name z pz] kt pt] (.Tuple [a,b,c] k2 pt2) pos.line X.env=pure false:=by rfl) :
  PS X (.Assign [.Tuple [.Name x px,.Name y py,.Name z pz] kt pt] (.Tuple [a,b,c] k2 pt2) pos) (Yf i j k ta):=by
 intro pj s σ H D I h
 rw[exec_Assign_arm]
 refine Aa (wpAny_standAt ?_)
 rw[hs]
 refine Aa (Ab ?_)
 rw[if_neg (by decide)]
 refine Aa (Tuple_ (thn (ha _ pj s σ H _ I h) λus s1 ⟨vs,H1,I1,r1,q1⟩=>?_))
 obtain⟨v1,v2,v3,e1,q1⟩:=q1
 subst e1
 obtain⟨u1,u2,u3,rfl,ra,rb,rc⟩:=Wl r1
 refine AZ ?_ (by show 3<=sizeLine;decide)
 have I2:Inv X pj σ H1 {s1 with heap:=s1.heap.push {cls:=.type "tuple",data:=.seq [u1,u2,u3].toArray}}:=I1.kept (t':=s1.toks) λb o e=>Ad _ e
 rw[hw]
 refine Aa (Ab ?_)
 show wpAny (model X.prog X.w) X.A (do rule "assign.swapped-stores";let items<-unpackItems (.ref s1.heap.objs.size) 3 none;assignInOrder [λv=>bindName X.env z v,λv=>bindName X.env y v,λv=>bindName X.env x v] items.reverse;pure Flow.next) _ _ _
 refine Aa (Bn (Aa (unpackItems_tuple (items:=#[u1,u2,u3]) (I.ok.hd hc) (IsTup.new s1.heap _) λh' hx'=>?_)))
 have I3:=I2.kept (h':=h') (t':=s1.toks) λb o e=>hx' b o (Ax (Ao e)) e
 show wpAny _ _ (assignInOrder [λv=>bindName X.env z v,λv=>bindName X.env y v,λv=>bindName X.env x v] [u3,u2,u1]>>=λ_=>pure Flow.next) _ _ _
 refine Aa (assignInOrder_cons (wpAny_bindName (Fu I3 hN hk (.inl hz) rc (λs2 I4=>?_) (.inr hz))))
 refine assignInOrder_cons (wpAny_bindName (Fu I4 hN hj (.inl hy) rb (λs3 I5=>?_) (.inr hy)))
 refine assignInOrder_cons (wpAny_bindName (Fu I5 hN hi (.inl hx) ra (λs4 I6=>assignInOrder_nil (Ab ?_)) (.inr hx)))
 rw[List.set_comm _ _ (Ne.symm hjk),List.set_comm _ _ (Ne.symm hik),List.set_comm (i:=j) (j:=i) _ _ (Ne.symm hij)] at I6
 exact⟨_,H1,I6,q1⟩
end L2
namespace PV
open PySem L2 PySem.Spec PyProof.Rows
section
variable {X:Cx}{K:Zc}{th:List Addr}{mu:Sto}{H:Hp}
def Oj (i j k:Nat)(a:Exs):Sx:=λro mu=>bM (a ro mu) λds m1=>match ds with
 |[x,y,z]=>some ((.nx,((ro.set i (some x)).set j (some y)).set k (some z)),m1)
 |_=>none
theorem R0 (i j k:Nat){x y z:Str}{a b c:Expr}{m:Exs}{px py pz pt:Pos}{kt k2 pt2}{pos:Pos}(hc:X.calm=true)(hN:X.N.Nodup)(ha:SVA X [a,b,c] m)
  (hw:swappedStores [.Tuple [.Name x px,.Name y py,.Name z pz] kt pt] (.Tuple [a,b,c] k2 pt2) X.env=pure (some [x,y,z]))
  (hi:X.N[i]?=some x:=by rfl) (hj:X.N[j]?=some y:=by rfl) (hk:X.N[k]?=some z:=by rfl) (hij:i≠j:=by decide) (hik:i≠k:=by decide) (hjk:j≠k:=by decide)
  (hx:X.env.scope.names.lookup x=some .local:=by rfl) (hy:X.env.scope.names.lookup y=some .local:=by rfl) (hz:X.env.scope.names.lookup z=some .local:=by rfl)
  (hs:swapsWithSole [.Tuple [.Name x px,.Name y py,.Name z pz] kt pt] (.Tuple [a,b,c] k2 pt2) pos.line X.env=pure false:=by rfl) :
  SVS X (.Assign [.Tuple [.Name x px,.Name y py,.Name z pz] kt pt] (.Tuple [a,b,c] k2 pt2) pos) (Oj i j k m):=⟨PS.weak (TJ hc hN hi hj hk hij hik hjk hx hy hz ha.1 hw hs) λE st H h=>by
 obtain⟨th,mu,ro,so,en,t⟩:=h
 refine⟨th,mu,ro,so,en,t.bind.mono λds th1 mu1 H1 e1 s1 t1 vs rvs=>?_⟩
 match ds,t1,rvs with
 |[d,d',d''],t1,rvs =>
  obtain⟨v,r,rfl,r1,r2⟩:=rvs.inv
  obtain⟨u,w,rfl,r3,r4⟩:=GH r2
  exact⟨v,u,w,rfl,t1.ret s1 _ ((((en.ext e1 so.out).set i r1).set j r3).set k r4)⟩
 |[],t1,_=>exact t1.no.elim
 |[_],t1,_=>exact t1.no.elim
 |[_,_],t1,_=>exact t1.no.elim
 |_::_::_::_::_,t1,_=>exact t1.no.elim⟩
def Uc (d e v:D)(mu:Sto):Rs Unit:=match d,e with
 |.ref k,.int i=>match mu[k]? with
  |some (.lst ds)=>match ixN ds.length i with
   |some j=>some ((),mu.set k (.lst (ds.set j v)))
   |none=>none
  |_=>none
 |_,_=>none
def AaB (K:Zc):RX:=λo i v H Q=>∃th mu d e w,StoOk K th mu H/\Rep K th H d o/\Rep K th H e i/\Rep K th H w v/\Tr K th H (Uc d e w mu) λ_ _ _ H'=>Q H'
theorem Y1:Ur X (AaB X.z):=by
 intro pj s st H o i v ov iv u Q I ro ri rv h
 obtain⟨th,mu,d,e,w,so,r1,r2,r3,t⟩:=h
 cases d with
 |ref k =>
  cases e with
  |int j =>
   unfold Uc at t
   dsimp only at t
   cases q:mu[k]? with
   |none=>rw[q] at t;exact t.no.elim
   |some o' =>
    cases o' with
    |dct _ _=>rw[q] at t;exact t.no.elim
    |lst ds =>
     rw[q] at t
     dsimp only at t
     cases q2:ixN ds.length j with
     |none=>rw[q2] at t;exact t.no.elim
     |some n =>
      rw[q2] at t
      unfold Rep at r1
      obtain⟨a,rfl,ha⟩:=r1
      obtain⟨vs,h1,h2,h3⟩:=so.at' k a _ ha q
      exact set_list pj s st H _ i v ov iv u Q I ro ri rv ⟨a,vs,j,n,rfl,r2,h1,by rw[h2.len];exact q2,t.retX (.mut (Ag ha) _) (so.put ha (h2.setAt n r3) (by rw[Cp];exact h3))⟩
  |_=>exact t.no.elim
 |_=>exact t.no.elim
def E4 (lo:Int)(n:Nat):List D:=(List.range n).map λk:Nat=>.int (lo+k)
def Rb {lo:Int}{n:Nat}(hn:n<=sizeLine):N0 K (Itr lo n) th mu H (E4 lo n) none where
 sz:=by unfold E4;simpa using hn
 go:=λth' mu' H' e s go i d ed=>by
  unfold E4 at ed
  rw[Am] at ed
  cases q:(List.range n)[i]? with
  |none=>rw[q] at ed;cases ed
  |some k =>
   rw[q] at ed
   have hd:D.int (lo+k)=d:=by simpa using ed
   obtain⟨hi,hk⟩:=Ae.mp q
   rw[BF] at hi
   rw[List.getElem_range] at hk
   subst hk hd
   refine⟨hi,λv H2 y=>?_⟩
   obtain⟨rfl,rfl⟩:=y
   exact⟨.refl _ _,s,by unfold Rep;rfl⟩
 stop:=λth' mu' H' e s go=>by show n<=(E4 lo n).length;unfold E4;simp
def iRg (a:Exs):Ix:=λro mu=>bM (a ro mu) λds m1=>match RQ ds with
 |some j=>if -(2 ^ 62)<=j/\j<=(sizeLine:Int) then some ((E4 0 j.toNat,none),m1) else none
 |none=>none
def Fb {tg a:Expr}{m:Exs}{p pos:Pos}(hm:X.mg "range"=none)(ha:SVA X [a] m)(hg:Gl X "range":=by rfl)(hs:starEach [a] X.env=[(false,eval a X.env)]:=by rfl):SVI X tg (.Call (.Name "range" p) [a] [] pos) (iRg m):=
 ⟨PI.weak (Pb hg hm ha.1 hs) λst H R h=>by
  obtain⟨th,mu,ro,so,en,t⟩:=h
  refine⟨th,mu,ro,so,en,t.bind.mono λds th1 mu1 H1 e1 s1 t1 vs rvs=>?_⟩
  cases q:RQ ds with
  |none=>rw[q] at t1;exact t1.no.elim
  |some j =>
   rw[q] at t1
   dsimp only at t1
   by_cases c:-(2 ^ 62)<=j/\j<=(sizeLine:Int)
   ·rw[if_pos c] at t1
    rw[Q3 q] at rvs
    obtain⟨x,rfl,rx⟩:=Eg rvs
    refine⟨j,by rw[show x=_ from rx],c.1,?_,t1.ret s1 _ (Rb (by ext))⟩
    have:=c.2
    rw[AO] at this
    ext
   ·rw[if_neg c] at t1;exact t1.no.elim⟩
def HN (xs ys:List D):List D:=(xs.zip ys).map λp=>.tup [p.1,p.2]
def Us {a b:Str}(h:a.cps.toList=b.cps.toList):a=b:=by
 obtain⟨x⟩:=a
 obtain⟨y⟩:=b
 have:x=y:=Array.toList_inj.mp h
 rw[this]
end
def LtAt (A:Around)(s:Shared)(y x:Value)(b:Bool):Prop:=
 ∀(prog:Program) (w:World) (E:Value->Zaa) (Q:Value->Zaa),Q (.bool b) s->wpAny (model prog w) A (richCompare .Lt y x) Q E s
def Mp (A:Around)(s:Shared):List Value->List Value->Bool->Prop
 |[],[],b=>b=false
 |[],_::_,b=>b=true
 |_::_,[],b=>b=false
 |y::vs,x::ws,b=>∃e,SeqAt.EqAt A s y x e/\if e=true then Mp A s vs ws b else LtAt A s y x b
section
open PySem.SeqAt
open PySem.AutoSeq1 (wpAny_loadPart')
open PySem.MeetsSeq PySem.MeetsSeq2 PySem.MeetsSeq3
def LO (l b:Addr)(items items2:Array Value)(n n2:Nat)(dd dd2:Option Addr)(sl sl2:Array (Option Value))(r:Bool) :
  Meets (Builtin.«tuple.__lt__» ⟨[.ref l,.ref b],[]⟩)
   (λA R s=>s.heap.get? l=some {cls:=.type "tuple",dict:=dd,data:=.seq items n,slots:=sl}/\s.heap.get? b=some {cls:=.type "tuple",dict:=dd2,data:=.seq items2 n2,slots:=sl2} /\
    Mp A.in1 s items.toList items2.toList r/\R (.ok (.ret (.bool r))) s):=
 .of_wp λprog w A R s h=>by
  obtain⟨hp,g,d,tk,os⟩:=s;obtain⟨hl,hb,hx,h⟩:=h
  have f2:=AutoSeq1.sub_tuple_tuple
  wp_walk using wpAny_loadPart' hl,wpAny_loadPart' hb,Cy _ (λrest b s'=>b.1=none/\s'=⟨hp,g,d,tk,os⟩/\∃(vs ws:List Value),rest=vs.zip ws /\
   Mp A.in1 ⟨hp,g,d,tk,os⟩ vs ws r/\vs.length+items2.size=ws.length+items.size) _
  case turn =>
   rintro⟨y,x⟩ rest b s' ⟨hb',rfl,vs,ws,hz,hlx,hlen⟩
   cases vs with
   |nil=>rw[List.zip_nil_left] at hz;cases hz
   |cons a vs' =>
    cases ws with
    |nil=>rw[List.zip_nil_right] at hz;cases hz
    |cons c ws' =>
     rw[List.zip_cons_cons] at hz
     injection hz with hyx hrest
     injection hyx with hy hx
     subst hy hx
     simp only[List.length_cons] at hlen
     obtain⟨e,he,hiff⟩:=hlx
     refine Aa (he prog w _ _ ?_)
     cases e with
     |true =>
      rw[if_pos rfl] at hiff
      wp_walk
      exact⟨rfl,rfl,_,_,hrest,hiff,by ext⟩
     |false =>
      rw[if_neg AS] at hiff
      have hri:=hiff prog w
      wp_walk using hri
      exact⟨_,rfl,by simpa using h⟩
  case fin =>
   rintro⟨b1,b2⟩ s' ⟨hb',rfl,vs,ws,hz,hlx,hlen⟩
   simp only at hb'
   subst hb'
   have hv:r=decide (items.size<items2.size):=by
    cases vs with
    |nil =>
     cases ws with
     |nil =>
      simp only[List.length_nil] at hlen
      rw[show r=false from hlx]
      exact(A7 (by ext)).symm
     |cons c ws' =>
      simp only[List.length_nil,List.length_cons] at hlen
      rw[show r=true from hlx]
      exact(A0 (by ext)).symm
    |cons a vs' =>
     cases ws with
     |nil =>
      simp only[List.length_nil,List.length_cons] at hlen
      rw[show r=false from hlx]
      exact(A7 (by ext)).symm
     |cons c ws' =>
      rw[List.zip_cons_cons] at hz
      cases hz
   rw[hv] at h
   wp_walk
   exact⟨_,rfl,by simpa[Builtin.Tuple.tupleCompareSizes] using h⟩
  case h =>
   exact⟨rfl,rfl,items.toList,items2.toList,rfl,hx,by simp;ext⟩
end
def LtAt.tuples {A:Around}{s:Shared}{l b:Addr}{items items2:Array Value}{r:Bool}(hl:IsTup s.heap l items)(hb:IsTup s.heap b items2)(hu:A.units<cLine)(hx:Mp A.in1 s items.toList items2.toList r):LtAt A s (.ref l) (.ref b) r:=λprog w E Q h=>by
 obtain⟨⟨cls,dd,data,sl⟩,ho,hc,n,hd⟩:=id hl
 obtain⟨⟨cls2,dd2,data2,sl2⟩,ho2,hc2,n2,hd2⟩:=id hb
 simp only at hc hd hc2 hd2
 subst hc hd hc2 hd2
 exact richCompare_meets_room (op:=.Lt) ⟨_,ho,rfl⟩ ⟨_,ho2,rfl⟩ F.slot_tuple_lt F.entry_tuple_lt (F.args_tuple_lt_2 _ _) (LO l b items items2 n n2 dd dd2 sl sl2 r)
  ⟨ho,ho2,hx,show Value.bool r≠Value.notImplemented/\Q (.bool r) s from⟨(λx=>nomatch x),h⟩⟩ hu
mutual
def ltB:D->D->Option Bool
 |.int i,.int j=>some (decide (i<j))
 |.str i,.str j=>some (decide (i.cps.toList<j.cps.toList))
 |.tup xs,.tup ys=>Gf xs ys
 |_,_=>none
def Gf:List D->List D->Option Bool
 |[],[]=>some false
 |[],_::_=>some true
 |_::_,[]=>some false
 |x::xs,y::ys=>if DW x&&DW y then (if PyData.eqv (toPy x) (toPy y) then Gf xs ys else ltB x y) else none
end
section
variable {X:Cx}{K:Zc}{th:List Addr}{mu:Sto}{H:Hp}
mutual
theorem Nm {pj:Zab}{st:L2.St}{s:Shared}(I:L2.Inv X pj st H s):∀(d e:D) (b:Bool) (v u:V) (vv uu:Value) (A:Around),ltB d e=some b->Rep X.z th H d v->Rep X.z th H e u->RelV v vv->RelV u uu->A.units+(toPy d).depth+1<cLine->LtAt A s vv uu b
 |.int i,e,b,v,u,vv,uu,A,h,r1,r2,q1,q2,hu=>by
  cases e with
  |int j =>
   unfold ltB at h
   cases h
   cases (show _=_ from r1)
   cases (show _=_ from r2)
   obtain⟨t1,rfl⟩:=q1
   obtain⟨t2,rfl⟩:=q2
   exactλprog w E Q hq=>(PyProof.Rows.lt_int hq:wpAny (model prog w) A (compareOp .Lt (.int i t1) (.int j t2)) Q E s)
  |_=>unfold ltB at h;cases h
 |.str i,e,b,v,u,vv,uu,A,h,r1,r2,q1,q2,hu=>by
  cases e with
  |str j =>
   unfold ltB at h
   cases h
   obtain⟨rfl,_⟩:=(show _/\_ from r1)
   obtain⟨rfl,_⟩:=(show _/\_ from r2)
   obtain⟨t1,rfl⟩:=q1
   obtain⟨t2,rfl⟩:=q2
   exactλprog w E Q hq=>(PyProof.Rows.lt_str hq:wpAny (model prog w) A (compareOp .Lt (.str i t1) (.str j t2)) Q E s)
  |_=>unfold ltB at h;cases h
 |.tup xs,e,b,v,u,vv,uu,A,h,r1,r2,q1,q2,hu=>by
  cases e with
  |tup ys =>
   unfold ltB at h
   unfold Rep at r1 r2
   obtain⟨a,vs,rfl,h1,l1,_⟩:=r1
   obtain⟨c,us,rfl,h2,l2,_⟩:=r2
   cases q1
   cases q2
   obtain⟨its,rv,p1,_⟩:=I.tuple h1
   obtain⟨its2,rv2,p2,_⟩:=I.tuple h2
   have hd:(toPy (.tup xs)).depth=PyData.depthAll (Dg xs)+1:=by unfold toPy PyData.depth;rfl
   rw[hd] at hu
   refine LtAt.tuples p1 p2 (by ext) ?_
   have:=O4 I xs ys b vs us its its2 A.in1 h l1 l2 rv rv2 (by show A.units+1+PyData.depthAll (Dg xs)+1<cLine;ext)
   simpa using this
  |_=>unfold ltB at h;cases h
 |.non,e,b,_,_,_,_,_,h,_,_,_,_,_=>by cases e<;>(unfold ltB at h;cases h)
 |.bl _,e,b,_,_,_,_,_,h,_,_,_,_,_=>by cases e<;>(unfold ltB at h;cases h)
 |.lst _,e,b,_,_,_,_,_,h,_,_,_,_,_=>by cases e<;>(unfold ltB at h;cases h)
 |.dct _ _,e,b,_,_,_,_,_,h,_,_,_,_,_=>by cases e<;>(unfold ltB at h;cases h)
 |.set _,e,b,_,_,_,_,_,h,_,_,_,_,_=>by cases e<;>(unfold ltB at h;cases h)
 |.ref _,e,b,_,_,_,_,_,h,_,_,_,_,_=>by cases e<;>(unfold ltB at h;cases h)
theorem O4 {pj:Zab}{st:L2.St}{s:Shared}(I:L2.Inv X pj st H s):∀(xs ys:List D) (b:Bool) (vs us:List V) (vvs uus:List Value) (A:Around),Gf xs ys=some b->RepL X.z th H xs vs->RepL X.z th H ys us->Vals vs vvs->Vals us uus->A.units+PyData.depthAll (Dg xs)+1<cLine->Mp A s vvs uus b
 |[],[],b,_,_,_,_,A,h,r1,r2,q1,q2,hu=>by
  cases r1.inv0;cases r2.inv0;cases q1;cases q2
  unfold Gf at h
  cases h
  rfl
 |[],y::ys,b,_,_,_,_,A,h,r1,r2,q1,q2,hu=>by
  cases r1.inv0
  obtain⟨v,r,rfl,_,_⟩:=r2.inv
  cases q1
  cases q2
  unfold Gf at h
  cases h
  rfl
 |x::xs,[],b,_,_,_,_,A,h,r1,r2,q1,q2,hu=>by
  cases r2.inv0
  obtain⟨v,r,rfl,_,_⟩:=r1.inv
  cases q1
  cases q2
  unfold Gf at h
  cases h
  rfl
 |x::xs,y::ys,b,_,_,_,_,A,h,r1,r2,q1,q2,hu=>by
  obtain⟨v,r,rfl,a1,a2⟩:=r1.inv
  obtain⟨u,r',rfl,b1,b2⟩:=r2.inv
  cases q1 with
  |cons g1 g2 =>
   cases q2 with
   |cons k1 k2 =>
    unfold Gf at h
    have hd:PyData.depthAll (Dg (x::xs))=max (toPy x).depth (PyData.depthAll (Dg xs)):=by rw[Dg,PyData.depthAll]
    rw[hd] at hu
    by_cases c:(DW x&&DW y)=true
    ·rw[if_pos c] at h
     rw[Ac] at c
     obtain⟨as,w1,w2⟩:=FX I x v _ c.1 a1 g1
     obtain⟨bs,w3,w4⟩:=FX I y u _ c.2 b1 k1
     refine⟨_,SeqAt.eqAt_reads _ _ A s _ _ as bs w1 w3 w2 w4 (by ext),?_⟩
     cases e:PyData.eqv (toPy x) (toPy y) with
     |true=>rw[e] at h;rw[if_pos rfl] at h ⊢;exact O4 I xs ys b _ _ _ _ A h a2 b2 g2 k2 (by ext)
     |false=>rw[e] at h;rw[if_neg AS] at h ⊢;exact Nm I x y b _ _ _ _ A h a1 b1 g1 k1 (by ext)
    ·rw[if_neg c] at h;cases h
end
def ltG (d e:D)(mu:Sto):Rs D:=if (toPy d).depth<=60 then (ltB d e).map λb=>(.bl b,mu) else none
def Xd (hu:X.A.units+64<cLine):OpV X (compareOp .Lt) ltG:=by
 intro pj s st H x y v u Q I rx ry h
 obtain⟨th,mu,d,e,so,r1,r2,t⟩:=h
 unfold ltG at t
 by_cases c:(toPy d).depth<=60
 ·rw[if_pos c] at t
  cases e1:ltB d e with
  |none=>rw[e1] at t;exact t.no.elim
  |some b =>
   rw[e1] at t
   exact Nm I d e b x y v u X.A e1 r1 r2 rx ry (by ext) _ _ _ _ ⟨.bl b,H,I,rfl,t.ret so _ rfl⟩
 ·rw[if_neg c] at t;exact t.no.elim
end
section
variable {X:Cx}{K:Zc}{th:List Addr}{mu:Sto}{H:Hp}
def HH {pj:Zab}{st:L2.St}{s:Shared}(I:L2.Inv X pj st H s):sysModules<s.heap.objs.size:=by
 obtain⟨o,_,_,ho,_⟩:=I.mod.glob
 exact AN (show sysModules<mainGlobals+1 by decide) (Ao (I.bk _ _ ho))
def Ka {P:Program}{w:World}{H:Hp}{h:Heap}{a:Addr}{xs:List (Int×V×V)}(x:WH a xs h):ObjOk P w H h a (Et a xs):=by
 refine⟨x,?_,λh1 h2 ⟨z,o,es,ep,ho,r⟩ k=>⟨z,o,es,ep,k o ho,r⟩⟩
 obtain⟨_,o,es,ep,ho,r⟩:=x
 exact⟨o,ho⟩
def Ye:Ex:=λ_ mu=>some (.dct [] [],mu)
def Mm:Ex:=λ_ mu=>some (.ref mu.length,mu++[.dct [] []])
def Uk {pj:Zab}{st:L2.St}{s:Shared}(I:L2.Inv X pj st H s):WH s.heap.objs.size [] (s.heap.push {cls:=.type "dict",data:=.dict #[]}):=
 ⟨beq_eq_false_iff_ne.mpr (Ne.symm (Ax (HH I))),_,#[],0,Ak _ rfl,⟨rfl,rfl,rfl⟩,rfl,.nil,rfl⟩
def Od {pos:Pos}:SV X (.Dict [] [] pos) Mm:=⟨λpj s st H Q I h=>by
 obtain⟨th,mu,ro,so,en,t⟩:=h
 have hp:H s.heap.objs.size=none:=I.hok.fresh (Ai _)
 refine wpAny_Dict_empty ⟨.ref s.heap.objs.size,_,I.laid (a:=s.heap.objs.size) (o:=Et s.heap.objs.size []) (t':=s.toks) (λ_ _ q=>Ad _ q) (Ai _) (Ka (Uk I)),rfl,t.retX (.newM hp _) (so.newD hp) _ ?_⟩
 unfold Rep
 exact⟨_,rfl,by rw[<- so.len];simp⟩⟩
end
def DP {α:Type}(ask:Nat->Nat->Option Bool):W.KasT α->Option α
 |.ret a=>some a
 |.ask i j k=>match ask i j with
  |none=>none
  |some b=>DP ask (k b)
theorem IB {α:Type}{ask:Nat->Nat->Option Bool}{cmp:Nat->Nat->(Bool->Zaa)->Zaa}{s:Shared}(hc:∀i j b C,ask i j=some b->C b s->cmp i j C s):∀(t:W.KasT α) (a:α) (Q:α->Zaa),DP ask t=some a->Q a s->t.kasWp cmp Q s
 |.ret a,_,Q,e,q=>by cases e;exact q
 |.ask i j k,a,Q,e,q=>by
  unfold DP at e
  cases e1:ask i j with
  |none=>rw[e1] at e;cases e
  |some b =>
   rw[e1] at e
   exact hc i j b _ e1 (IB hc (k b) a Q e q)
section
variable {X:Cx}{K:Zc}{th:List Addr}{mu:Sto}{H:Hp}
def tupS:D->Bool
 |.tup (.str x::r)=>F1 r&&decide (PyData.depthAll (Dg r)<=50)
 |_=>false
def JV {d:D}(h:tupS d=true):∃x r,d=.tup (.str x::r)/\F1 r=true/\PyData.depthAll (Dg r)<=50:=by
 unfold tupS at h
 split at h
 ·rename_i x r
  rw[Ac,Aj] at h
  exact⟨x,r,rfl,h.1,h.2⟩
 ·cases h
theorem Ls {pj:Zab}{st:L2.St}{s:Shared}(I:L2.Inv X pj st H s){A:Around}{fin:Bool}{Q:Bool->Zaa} :
  ∀(xs ys:List D) (b:Bool) (vs us:List V) (vvs uus:List Value) (i:Nat),Gf xs ys=some b->RepL X.z th H xs vs->RepL X.z th H ys us->Vals vs vvs->Vals us uus->A.units+PyData.depthAll (Dg xs)+1<cLine ->
   (i=0->∃x r y r',xs=.str x::r/\ys=.str y::r')->(fin=decide (xs.length<ys.length))->Q b s->W.KatLex X.prog X.w A true fin Q (vvs.zip uus) i s
 |[],[],b,_,_,_,_,i,h,r1,r2,q1,q2,hu,h0,hf,q=>by
  cases r1.inv0;cases r2.inv0;cases q1;cases q2
  unfold Gf at h
  cases h
  exact W.kat_nil (by rw[hf];exact q)
 |[],y::ys,b,_,_,_,_,i,h,r1,r2,q1,q2,hu,h0,hf,q=>by
  cases r1.inv0
  obtain⟨v,r,rfl,_,_⟩:=r2.inv
  cases q1
  cases q2
  unfold Gf at h
  cases h
  exact W.kat_nil (by rw[hf,A0 (by simp)];exact q)
 |x::xs,[],b,_,_,_,_,i,h,r1,r2,q1,q2,hu,h0,hf,q=>by
  cases r2.inv0
  obtain⟨v,r,rfl,_,_⟩:=r1.inv
  cases q1
  cases q2
  unfold Gf at h
  cases h
  exact W.kat_nil (by rw[hf,A7 (by simp)];exact q)
 |x::xs,y::ys,b,_,_,_,_,i,h,r1,r2,q1,q2,hu,h0,hf,q=>by
  obtain⟨v,r,rfl,a1,a2⟩:=r1.inv
  obtain⟨u,r',rfl,b1,b2⟩:=r2.inv
  cases q1 with
  |cons g1 g2 =>
   cases q2 with
   |cons k1 k2 =>
    unfold Gf at h
    have hd:PyData.depthAll (Dg (x::xs))=max (toPy x).depth (PyData.depthAll (Dg xs)):=by rw[Dg,PyData.depthAll]
    rw[hd] at hu
    by_cases c:(DW x&&DW y)=true
    ·rw[if_pos c] at h
     rw[Ac] at c
     obtain⟨as,w1,w2⟩:=FX I x v _ c.1 a1 g1
     obtain⟨bs,w3,w4⟩:=FX I y u _ c.2 b1 k1
     refine W.kat_cons (SeqAt.eqAt_reads _ _ A s _ _ as bs w1 w3 w2 w4 (by ext) _ _ _ _ ?_)
     cases e:PyData.eqv (toPy x) (toPy y) with
     |true =>
      rw[e,if_pos rfl] at h
      refine W.kat_yes (Ls I xs ys b _ _ _ _ (i+1) h a2 b2 g2 k2 (by ext) (λz=>by ext) (by rw[hf];simp) q)
     |false =>
      rw[e,if_neg AS] at h
      refine W.kat_no ?_
      by_cases hi:i=0
      ·subst hi
       obtain⟨x',_,y',_,e1,e2⟩:=h0 rfl
       cases e1
       cases e2
       obtain⟨rfl,_⟩:=(show _/\_ from a1)
       obtain⟨rfl,_⟩:=(show _/\_ from b1)
       obtain⟨t1,rfl⟩:=g1
       obtain⟨t2,rfl⟩:=k1
       unfold ltB at h
       cases h
       exact oneLt_str q
      ·rw[show(true&&i==0)=false by simp[hi]]
       exact W.kat_one _ _ (Nm I x y b _ _ _ _ A h a1 b1 g1 k1 (by ext) _ _ _ _ q)
    ·rw[if_neg c] at h;cases h
def P2 (ds:List D)(i j:Nat):Option Bool:=match ds[i]?,ds[j]? with
 |some d,some e=>ltB d e
 |_,_=>none
theorem Kn {pj:Zab}{st:L2.St}{s:Shared}(I:L2.Inv X pj st H s):∀{ds:List D}{vs:List V}{us:List Value},ds.all tupS=true->RepL X.z th H ds vs->Vals vs us->∃fs,W.KatTups s.heap us fs/\fs.length=ds.length/\∀v∈fs,∃x t,v=.str x t
 |[],_,_,_,r,q=>by cases r.inv0;cases q;exact⟨[],.nil,rfl,λ_ h=>nomatch h⟩
 |d::ds,_,_,h,r,q=>by
  obtain⟨v,r',rfl,a1,a2⟩:=r.inv
  rw[List.all_cons,Ac] at h
  cases q with
  |cons q1 q2 =>
   obtain⟨x,es,rfl,_,_⟩:=JV h.1
   obtain⟨fs,f1,f2,f3⟩:=Kn I h.2 a2 q2
   unfold Rep at a1
   obtain⟨a,ws,rfl,h1,l1,_⟩:=a1
   obtain⟨w0,wr,rfl,l2,_⟩:=RepL.inv l1
   obtain⟨rfl,_⟩:=(show _/\_ from l2)
   cases q1
   obtain⟨its,rv,⟨o,g1,g2,n,g3⟩,_⟩:=I.tuple h1
   cases rv with
   |cons k1 k2 =>
    obtain⟨t,rfl⟩:=k1
    exact⟨_::fs,.cons g1 g2 g3 rfl f1,by simp[f2],λz hz=>(Ap.mp hz).elim (λe=>⟨x,t,e⟩) (f3 z)⟩
theorem Wy {pj:Zab}{st:L2.St}{s:Shared}(I:L2.Inv X pj st H s){ds:List D}{vs:List V}{us:List Value}(hd:ds.all tupS=true)(r:RepL X.z th H ds vs)(q:Vals vs us){A:Around}(hu:A.units+60<cLine) :
  ∀i j b C,P2 ds i j=some b->C b s->W.kas_ask X.prog X.w A (tuples' true) us i j C s:=λi j b C e hC=>by
 unfold P2 at e
 cases e1:ds[i]? with
 |none=>rw[e1] at e;cases e
 |some d =>
  cases e2:ds[j]? with
  |none=>rw[e1,e2] at e;cases e
  |some d' =>
   rw[e1,e2] at e
   have m1:=AB.mp hd d (Ag e1)
   have m2:=AB.mp hd d' (Ag e2)
   obtain⟨x,xs,rfl,_,dx⟩:=JV m1
   obtain⟨y,ys,rfl,_,dy⟩:=JV m2
   obtain⟨v,ev,rv⟩:=r.get e1
   obtain⟨v',ev',rv'⟩:=r.get e2
   obtain⟨u,eu,ru⟩:=q.get ev
   obtain⟨u',eu',ru'⟩:=q.get ev'
   unfold W.kas_ask
   rw[show us.getD i Value.none=u by rw[AW,eu];rfl,show us.getD j Value.none=u' by rw[AW,eu'];rfl]
   unfold Rep at rv rv'
   obtain⟨a,ws,rfl,h1,l1,_⟩:=rv
   obtain⟨a',ws',rfl,h1',l1',_⟩:=rv'
   cases ru
   cases ru'
   obtain⟨its,rw1,⟨o,g1,g2,n,g3⟩,_⟩:=I.tuple h1
   obtain⟨its',rw2,⟨o',g1',g2',n',g3'⟩,_⟩:=I.tuple h1'
   unfold ltB at e
   refine W.kat_lt g1 g3 g1' g3' ?_
   have hx:PyData.depthAll (Dg (.str x::xs))<=50:=by
    rw[Dg,PyData.depthAll]
    show max 0 _<=50
    ext
   have:=Ls I (A:=A) (fin:=decide (its.toArray.size<its'.toArray.size)) (Q:=C) (.str x::xs) (.str y::ys) b ws ws' its its' 0 e l1 l1' rw1 rw2 (by ext) (λ_=>⟨x,xs,y,ys,rfl,rfl⟩) (by rw[Az,Az,<- rw1.length,<- rw2.length,l1.len,l1'.len]) hC
   simpa using this
end
section
variable {prog:Program}{w:World}{A:Around}{E:Value->Zaa}{s:Shared}
def NM {T:String}(hT:T="list"\/T="tuple"){l:Addr}{ob:Obj}{zs:List Value}{n:Nat}{Q:List Value->Zaa}(ho:s.heap.get? l=some ob)(hc:ob.cls=.type T)(hd:ob.data=.seq zs.toArray n)
  (h:Q zs {s with heap:=(s.heap.push (seqObj "list" #[] 0)).update s.heap.objs.size (Obj.mapSeq (·++zs.toArray))}) (hz:zs.length<=sizeLine):wpAny (model prog w) A (collect (.ref l)) Q E s:=by
 unfold collect
 refine Aa (wpAny_runValue (Bu entry_proto_collect' ?_))
 show wpAny _ _ (do again (.builtin "list.__iadd__" ⟨[<- newList [],.ref l],[]⟩)) _ _ s
 refine Aa (wpAny_newList (Ab (And.intro (Code.quiet_builtin _ (by symm)) (Bu entry_list_iadd' ?_))))
 show wpAny _ _ (Builtin.List.listExtendWith (.ref s.heap.objs.size) (.ref l) (.ref s.heap.objs.size)) _ _ {s with heap:=s.heap.push (seqObj "list" #[] 0)}
 have g:(s.heap.push (seqObj "list" #[] 0)).get? l=some ob:=Ad _ ho
 (unfold Builtin.List.listExtendWith)
 refine Aa (BJ (T:=T) ⟨ob,g,hc⟩ ?_)
 rw[if_pos (by rcases hT with rfl|rfl<;>simp)]
 refine Aa (listItems_at g hd (Aa (listItems_at (xs:=#[]) (n:=0) (Ak _ rfl) rfl ?_)))
 rw[if_neg (by simp)]
 refine Aa (listUpdate_at (xs:=#[]) (n:=0) (Ak _ rfl) rfl (Ab ?_) (AX _) (by
  show((#[]:Array Value)++zs.toArray).size<=sizeLine+1
  simp only[Array.size_append,Az,List.length_nil]
  ext))
 show wpAny (model prog w) A (load s.heap.objs.size>>=λo=>match o.data with
   |.seq xs _=>pure xs.toList
   |_=>unsupported "internal:collect") Q E {s with heap:=(s.heap.push (seqObj "list" #[] 0)).update s.heap.objs.size (Obj.mapSeq (·++zs.toArray))}
 refine Aa (wpAny_load (get?_update_seq (Ak _ rfl) _) ?_)
 show wpAny _ _ (pure ((#[]:Array Value)++zs.toArray).toList) Q E _
 have e0:((#[]:Array Value)++zs.toArray).toList=zs:=by simp
 rw[e0]
 exact Ab h
def OM {a:Addr}{zs:List Value}{n:Nat}{P:PySem.Fin->Zaa}{kd:SortKind}(p:Array Nat)(hp:p.size=zs.length)(ho:s.heap.get? a=some (seqObj "list" zs.toArray n))(h2:2<=zs.length)(h64:zs.length<64)
  (hk:∀(Q:SortKind->Zaa) (E':Value->Zaa),Q kd {s with heap:=((s.heap.update a (Obj.mapSeq λ_=>#[])).push (seqObj "tuple" zs.toArray 0)).push (seqObj "list" #[] 0)}->wpAny (model prog w) A (keyKind' zs.toArray) Q E' {s with heap:=((s.heap.update a (Obj.mapSeq λ_=>#[])).push (seqObj "tuple" zs.toArray 0)).push (seqObj "list" #[] 0)})
  (hr:∀G:Array Nat->Zaa,G p {s with heap:=((s.heap.update a (Obj.mapSeq λ_=>#[])).push (seqObj "tuple" zs.toArray 0)).push (seqObj "list" #[] 0)}->(W.kas_sort zs.length).kasWp (W.kas_ask prog w A kd zs) G {s with heap:=((s.heap.update a (Obj.mapSeq λ_=>#[])).push (seqObj "tuple" zs.toArray 0)).push (seqObj "list" #[] 0)})
  (h:P (.done (.ret .none)) {s with heap:=sortedHeap s.heap a zs (p.toList.map λi=>zs.getD i Value.none).toArray}):wpAny (model prog w) A (Builtin.«list.sort» ⟨[.ref a],[]⟩) P E s:=by
 have la:a<s.heap.objs.size:=Ao ho
 rw[list_sort_plain]
 refine Aa (listItems_at ho rfl (Aa (listUpdate_at ho rfl ?_ (by rw[Az,AO];ext) (AX _))))
 obtain⟨n1,ho1⟩:∃n1,(s.heap.update a (Obj.mapSeq λ_=>#[])).get? a=some (seqObj "list" #[] n1):=⟨_,get?_update_seq ho λ_=>#[]⟩
 refine Aa (seqEpoch_at ho1 rfl (Aa (wpAny_newTuple (Aa (wpAny_newList (AL ?_) (AX _))) (by show zs.length<=_;rw[AO];ext))))
 have ho2:(((s.heap.update a (Obj.mapSeq λ_=>#[])).push (seqObj "tuple" zs.toArray 0)).push (seqObj "list" #[] 0)).get? a=some (seqObj "list" #[] n1):=Ad _ (Ad _ ho1)
 show wpAny (model prog w) A _ P E {s with heap:=((s.heap.update a (Obj.mapSeq λ_=>#[])).push (seqObj "tuple" zs.toArray 0)).push (seqObj "list" #[] 0)}
 dsimp only
 have n2:¬ zs.toArray.size<2:=by rw[Az];ext
 rw[if_neg n2,if_neg n2]
 refine Aa (hk _ _ ?_)
 refine Aa (wpAny_mono (W.kat_run (E:=E) (Q:=λst' s'=>arrOf st'=p.map (W.kas_item (zs.toArray.zip zs.toArray))/\failedOf st'=none/\s'={s with heap:=((s.heap.update a (Obj.mapSeq λ_=>#[])).push (seqObj "tuple" zs.toArray 0)).push (seqObj "list" #[] 0)}) rfl h2 h64
  (G:=λp' s'=>p'=p/\s'={s with heap:=((s.heap.update a (Obj.mapSeq λ_=>#[])).push (seqObj "tuple" zs.toArray 0)).push (seqObj "list" #[] 0)}) (λp' st' s' _ a2 a3 a4=>⟨by rw[<- a4.1];exact a2,a3,a4.2⟩) (hr _ ⟨rfl,rfl⟩)) ?_ λ_ _ e=>e)
 rintro⟨⟨⟩,st'⟩ s' ⟨ha,hf,rfl⟩
 dsimp only
 rw[W.kat_snds rfl ha]
 refine Aa (seqEpoch_at ho2 rfl (Aa (listUpdate_at ho2 rfl ?_ (AX _) (by
  show(List.toArray (p.toList.map λi=>zs.getD i Value.none)).size<=sizeLine+1
  rw[Az,Af,Array.length_toList,hp,AO]
  ext))))
 rw[hf]
 simp only[bne_self_eq_false,Ay,Bd]
 exact Ab h
def RE {a:Addr}{zs:List Value}{n:Nat}{P:PySem.Fin->Zaa}(ho:s.heap.get? a=some (seqObj "list" zs.toArray n))(h2:zs.length<2)
  (h:P (.done (.ret .none)) {s with heap:=sortedHeap s.heap a zs zs.toArray}):wpAny (model prog w) A (Builtin.«list.sort» ⟨[.ref a],[]⟩) P E s:=by
 rw[list_sort_plain]
 refine Aa (listItems_at ho rfl (Aa (listUpdate_at ho rfl ?_ (by rw[Az,AO];ext) (AX _))))
 obtain⟨n1,ho1⟩:∃n1,(s.heap.update a (Obj.mapSeq λ_=>#[])).get? a=some (seqObj "list" #[] n1):=⟨_,get?_update_seq ho λ_=>#[]⟩
 refine Aa (seqEpoch_at ho1 rfl (Aa (wpAny_newTuple (Aa (wpAny_newList (AL ?_) (AX _))) (by show zs.length<=_;rw[AO];ext))))
 have ho2:(((s.heap.update a (Obj.mapSeq λ_=>#[])).push (seqObj "tuple" zs.toArray 0)).push (seqObj "list" #[] 0)).get? a=some (seqObj "list" #[] n1):=Ad _ (Ad _ ho1)
 show wpAny (model prog w) A _ P E {s with heap:=((s.heap.update a (Obj.mapSeq λ_=>#[])).push (seqObj "tuple" zs.toArray 0)).push (seqObj "list" #[] 0)}
 dsimp only
 have n2:zs.toArray.size<2:=by rw[Az];exact h2
 rw[if_pos n2,if_pos n2]
 refine Aa (Ab ?_)
 rw[StateT.run_pure]
 refine Aa (Ab ?_)
 dsimp only
 have e0:(arrOf (SortSt.mk' general' (zs.toArray.zip zs.toArray) #[] 7 none)).map (·.2)=zs.toArray:=by
  show(zs.toArray.zip zs.toArray).map (·.2)=zs.toArray
  rw[show zs.toArray.zip zs.toArray=(zs.zip zs).toArray by simp,List.map_toArray,List.map_snd_zip (Ai _)]
 rw[e0]
 refine Aa (seqEpoch_at ho2 rfl (Aa (listUpdate_at ho2 rfl ?_ (AX _) (by
  show zs.toArray.size<=sizeLine+1
  rw[Az,AO]
  ext))))
 simp only[bne_self_eq_false,Ay,Bd]
 exact Ab h
end
end PV
namespace PV
open PySem PyProof.Rows
theorem EU {α β:Type}(ask:Nat->Nat->Option Bool):∀(t:W.KasT α) (f:α->W.KasT β),DP ask (t.bind f)=(DP ask t).bind λa=>DP ask (f a)
 |.ret a,f=>rfl
 |.ask i j k,f=>by
  have ih:=λb=>EU ask (k b) f
  simp only[W.KasT.bind,DP]
  cases ask i j with
  |none=>rfl
  |some b=>exact ih b
structure Pre (n:Nat) (ask:Nat->Nat->Option Bool) (lt:Nat->Nat->Bool):Prop where
 tot:∀i j,i<n->j<n->ask i j=some (lt i j)
 asym:∀i j,i<n->j<n->lt i j=true->lt j i=false
 trans:∀i j k,i<n->j<n->k<n->lt j i=false->lt k j=false->lt k i=false
def gi (p:Array Nat)(k:Nat):Nat:=p.getD k 0
structure Ix' (n:Nat) (p:Array Nat):Prop where
 pm:p.toList.Perm (List.range n)
theorem Ix'.size {n:Nat}{p:Array Nat}(h:Ix' n p):p.size=n:=by rw[<- Array.length_toList,h.pm.length_eq,BF]
def Rq {p:Array Nat}{k:Nat}(h:k<p.size):gi p k=p[k]:=by unfold gi;simp[Array.getD,h]
def Ix'.lt {n:Nat}{p:Array Nat}(h:Ix' n p){k:Nat}(hk:k<n):gi p k<n:=by
 have hs:k<p.size:=by rw[h.size];exact hk
 rw[Rq hs]
 exact Bc.mp (h.pm.mem_iff.mp (by simpa using Array.getElem_mem hs))
def Ly {p q:Array Nat}{k j:Nat}(h:p[k]?=q[j]?):gi p k=gi q j:=by
 unfold gi
 rw[Bo,Bo,h]
def Ix'.rev {n:Nat}{p:Array Nat}(h:Ix' n p)(i j:Nat):Ix' n (W.kas_rev p i j):=⟨(Array.perm_iff_toList_perm.mp (mirror_perm p i j _)).trans h.pm⟩
def Ix'.bub {n:Nat}{p:Array Nat}(h:Ix' n p)(i j:Nat):Ix' n (bubble p i j):=⟨(Array.perm_iff_toList_perm.mp (bubble_perm p i j)).trans h.pm⟩
def HP {p:Array Nat}{i j:Nat}(hj:j<=p.size)(k:Nat):gi (W.kas_rev p i j) k=if i<=k/\k<j then gi p (i+j-1-k) else gi p k:=by
 unfold W.kas_rev
 have e:=getElem?_mirror (xs:=p) (i:=i) hj ((j-i) / 2) (by ext) k
 by_cases c:(i<=k/\k<i+(j-i) / 2)\/(j-(j-i) / 2<=k/\k<j)
 ·rw[if_pos c] at e
  rw[if_pos (by ext)]
  exact Ly e
 ·rw[if_neg c] at e
  by_cases c2:i<=k/\k<j
  ·rw[if_pos c2,show i+j-1-k=k by ext]
   exact Ly e
  ·rw[if_neg c2]
   exact Ly e
def Vu {p:Array Nat}{src d:Nat}(hs:src<p.size)(hd:d<=src)(k:Nat):gi (bubble p src d) k=if k=src-d then gi p src else if src-d<k/\k<=src then gi p (k-1) else gi p k:=by
 have e:=getElem?_bubble hs d hd k
 by_cases c:k=src-d
 ·rw[if_pos c] at e ⊢;exact Ly e
 ·rw[if_neg c] at e ⊢
  by_cases c2:src-d<k/\k<=src
  ·rw[if_pos c2] at e ⊢;exact Ly e
  ·rw[if_neg c2] at e ⊢;exact Ly e
section
variable {n:Nat}{ask:Nat->Nat->Option Bool}{lt:Nat->Nat->Bool}
def Up' (lt:Nat->Nat->Bool)(p:Array Nat)(m:Nat):Prop:=∀a b,a<=b->b<m->lt (gi p b) (gi p a)=false
def Dn' (lt:Nat->Nat->Bool)(p:Array Nat)(m:Nat):Prop:=∀a b,a<=b->b<m->lt (gi p a) (gi p b)=false
theorem Pre.irr (O:Pre n ask lt){i:Nat}(h:i<n):lt i i=false:=by
 cases e:lt i i with
 |false=>rfl
 |true=>rw[<- e];exact O.asym i i h h e
def Up'.more (O:Pre n ask lt){p:Array Nat}{m:Nat}(I:Ix' n p)(h:Up' lt p m)(hm:m<n)(h1:m=0\/lt (gi p m) (gi p (m-1))=false):Up' lt p (m+1):=λa b hab hb=>by
 by_cases e:b<m
 ·exact h a b hab e
 ·have:b=m:=by ext
  subst this
  by_cases ea:a=b
  ·subst ea;exact O.irr (I.lt hm)
  ·rcases h1 with h1|h1
   ·ext
   ·exact O.trans (gi p a) (gi p (b-1)) (gi p b) (I.lt (by ext)) (I.lt (by ext)) (I.lt hm) (h a (b-1) (by ext) (by ext)) h1
theorem NW (O:Pre n ask lt){p:Array Nat}(I:Ix' n p):∀(f m:Nat),1<=m->m+f<=n->Up' lt p m->∃k,DP ask (W.kas_asc p f m)=some k/\m<=k/\k<=m+f/\Up' lt p k/\(k<m+f->lt (gi p k) (gi p (k-1))=true)
 |0,m,_,_,h=>⟨m,rfl,Ai _,Ai _,h,λz=>by ext⟩
 |f+1,m,h1,hm,h=>by
  have e:ask (p.getD m 0) (p.getD (m-1) 0)=some (lt (gi p m) (gi p (m-1))):=O.tot _ _ (I.lt (by ext)) (I.lt (by ext))
  unfold W.kas_asc DP
  rw[e]
  dsimp only
  cases c:lt (gi p m) (gi p (m-1)) with
  |true =>
   rw[if_pos rfl]
   exact⟨m,rfl,Ai _,by ext,h,λ_=>c⟩
  |false =>
   rw[if_neg AS]
   obtain⟨k,a1,a2,a3,a4,a5⟩:=NW O I f (m+1) (by ext) (by ext) (h.more O I (by ext) (.inr c))
   exact⟨k,a1,by ext,by ext,a4,λz=>a5 (by ext)⟩
def X8 (lt:Nat->Nat->Bool)(n:Nat)(p q:Array Nat):Prop:=∀k,k<n->lt (gi p k) (gi q k)=false/\lt (gi q k) (gi p k)=false
def Dn'.more (O:Pre n ask lt){p:Array Nat}{m:Nat}(I:Ix' n p)(h:Dn' lt p m)(hm:m<n)(h0:0<m)(h1:lt (gi p (m-1)) (gi p m)=false):Dn' lt p (m+1):=λa b hab hb=>by
 by_cases e:b<m
 ·exact h a b hab e
 ·have:b=m:=by ext
  subst this
  by_cases ea:a=b
  ·subst ea;exact O.irr (I.lt hm)
  ·exact O.trans (gi p b) (gi p (b-1)) (gi p a) (I.lt hm) (I.lt (by ext)) (I.lt (by ext)) h1 (h a (b-1) (by ext) (by ext))
def Dn'.like (O:Pre n ask lt){p q:Array Nat}{m:Nat}(I:Ix' n p)(J:Ix' n q)(hm:m<=n)(h:Dn' lt p m)(l:X8 lt n p q):Dn' lt q m:=λa b hab hb =>
 O.trans (gi q b) (gi p a) (gi q a) (J.lt (by ext)) (I.lt (by ext)) (J.lt (by ext)) (O.trans (gi q b) (gi p b) (gi p a) (J.lt (by ext)) (I.lt (by ext)) (I.lt (by ext)) (l b (by ext)).1 (h a b hab hb)) (l a (by ext)).2
def Mk (O:Pre n ask lt){p:Array Nat}(I:Ix' n p){i j:Nat}(hj:j<=n)(eq:∀a b,i<=a->a<j->i<=b->b<j->lt (gi p a) (gi p b)=false):X8 lt n p (W.kas_rev p i j):=λk hk=>by
 rw[HP (by rw[I.size];exact hj)]
 by_cases c:i<=k/\k<j
 ·rw[if_pos c]
  exact⟨eq _ _ (by ext) (by ext) (by ext) (by ext),eq _ _ (by ext) (by ext) (by ext) (by ext)⟩
 ·rw[if_neg c]
  exact⟨O.irr (I.lt hk),O.irr (I.lt hk)⟩
theorem Jp (O:Pre n ask lt):∀(f:Nat) (p:Array Nat) (m q:Nat),Ix' n p->1<=m->m+f<=n->q+1<=m->Dn' lt p m->(∀a b,m-(q+1)<=a->a<m->m-(q+1)<=b->b<m->lt (gi p a) (gi p b)=false) ->
  ∃r,DP ask (W.kas_desc f p m q)=some r/\Ix' n r.1/\m<=r.2.1/\r.2.1<=m+f/\r.2.2+1<=r.2.1/\Dn' lt r.1 r.2.1/\∀a b,r.2.1-(r.2.2+1)<=a->a<r.2.1->r.2.1-(r.2.2+1)<=b->b<r.2.1->lt (gi r.1 a) (gi r.1 b)=false
 |0,p,m,q,I,h1,hm,hq,hd,he=>⟨(p,m,q),rfl,I,Ai _,Ai _,hq,hd,he⟩
 |f+1,p,m,q,I,h1,hm,hq,hd,he=>by
  have e:ask (p.getD m 0) (p.getD (m-1) 0)=some (lt (gi p m) (gi p (m-1))):=O.tot _ _ (I.lt (by ext)) (I.lt (by ext))
  have e':ask (p.getD (m-1) 0) (p.getD m 0)=some (lt (gi p (m-1)) (gi p m)):=O.tot _ _ (I.lt (by ext)) (I.lt (by ext))
  unfold W.kas_desc DP
  rw[e]
  dsimp only
  have one:∀p':Array Nat,Ix' n p'->∀a b,m+1-(0+1)<=a->a<m+1->m+1-(0+1)<=b->b<m+1->lt (gi p' a) (gi p' b)=false:=λp' J a b a1 a2 b1 b2=>by
   have:a=b:=by ext
   subst this
   exact O.irr (J.lt (by ext))
  cases c:lt (gi p m) (gi p (m-1)) with
  |true =>
   rw[if_pos rfl]
   have hd1:=hd.more O I (by ext) (by ext) (O.asym _ _ (I.lt (by ext)) (I.lt (by ext)) c)
   by_cases hq0:q > 0
   ·rw[if_pos hq0]
    have J:=I.rev (m-(q+1)) m
    have lk:=Mk O I (i:=m-(q+1)) (j:=m) (by ext) he
    obtain⟨r,a1,a2,a3,a4,a5⟩:=Jp O f (W.kas_rev p (m-(q+1)) m) (m+1) 0 J (by ext) (by ext) (by ext) (hd1.like O I J (by ext) lk) (one _ J)
    exact⟨r,a1,a2,by ext,by ext,a5⟩
   ·rw[if_neg hq0]
    obtain⟨r,a1,a2,a3,a4,a5⟩:=Jp O f p (m+1) 0 I (by ext) (by ext) (by ext) hd1 (one _ I)
    exact⟨r,a1,a2,by ext,by ext,a5⟩
  |false =>
   rw[if_neg AS]
   unfold DP
   rw[e']
   dsimp only
   cases c2:lt (gi p (m-1)) (gi p m) with
   |true =>
    rw[if_pos rfl]
    exact⟨(p,m,q),rfl,I,Ai _,by show m<=_;ext,hq,hd,he⟩
   |false =>
    rw[if_neg AS]
    have hd1:=hd.more O I (by ext) (by ext) c2
    obtain⟨r,a1,a2,a3,a4,a5⟩:=Jp O f p (m+1) (q+1) I (by ext) (by ext) (by ext) hd1 λa b z1 z2 z3 z4=>by
     have key:∀x,m+1-(q+1+1)<=x->x<m+1->lt (gi p x) (gi p (m-1))=false/\lt (gi p (m-1)) (gi p x)=false:=λx x1 x2=>by
      by_cases hx:x=m
      ·subst hx;exact⟨c,c2⟩
      ·exact⟨he _ _ (by ext) (by ext) (by ext) (by ext),he _ _ (by ext) (by ext) (by ext) (by ext)⟩
     exact O.trans (gi p b) (gi p (m-1)) (gi p a) (I.lt (by ext)) (I.lt (by ext)) (I.lt (by ext)) (key b z3 z4).2 (key a z1 z2).1
    exact⟨r,a1,a2,by ext,by ext,a5⟩
def Ob (O:Pre n ask lt){p:Array Nat}(I:Ix' n p){m:Nat}(h1:1<=m)(hm:m<=n)(hd:Dn' lt p m):∃r,DP ask (W.kas_tail3 m n p)=some r/\Ix' n r.2/\1<=r.1/\r.1<=n/\Up' lt r.2 r.1:=by
 have J:=I.rev 0 m
 have up:Up' lt (W.kas_rev p 0 m) m:=λa b hab hb=>by
  rw[HP (by rw[I.size];exact hm),HP (by rw[I.size];exact hm),if_pos (by ext),if_pos (by ext)]
  exact hd _ _ (by ext) (by ext)
 obtain⟨k,a1,a2,a3,a4,_⟩:=NW O J (n-m) m h1 (by ext) up
 refine⟨(k,W.kas_rev p 0 m),?_,J,by show 1<=k;ext,by show k<=n;ext,a4⟩
 unfold W.kas_tail3
 rw[EU,a1]
 rfl
def Jd (O:Pre n ask lt){p:Array Nat}(I:Ix' n p){m:Nat}(h1:1<=m)(hm:m<n)(eq:∀a b,a<m->b<m->lt (gi p a) (gi p b)=false)(hl:lt (gi p m) (gi p (m-1))=true) :
  ∃r,DP ask (W.kas_descPart m n p)=some r/\Ix' n r.2/\1<=r.1/\r.1<=n/\Up' lt r.2 r.1:=by
 have hd:Dn' lt p m:=λa b _ hb=>eq a b (by ext) hb
 have hd1:=hd.more O I hm (by ext) (O.asym _ _ (I.lt hm) (I.lt (by ext)) hl)
 obtain⟨r,a1,a2,a3,a4,a5,a6,a7⟩:=Jp O (n-(m+1)) p (m+1) 0 I (by ext) (by ext) (by ext) hd1 λa b z1 z2 z3 z4=>by
  have:a=b:=by ext
  subst this
  exact O.irr (I.lt (by ext))
 unfold W.kas_descPart
 rw[EU,a1]
 show ∃r',DP ask (if r.2.2 > 0 then _ else _)=some r'/\_
 by_cases hq:r.2.2 > 0
 ·rw[if_pos hq]
  have J:=a2.rev (r.2.1-(r.2.2+1)) r.2.1
  exact Ob O J (by ext) (by ext) (a6.like O a2 J (by ext) (Mk O a2 (by ext) a7))
 ·rw[if_neg hq]
  exact Ob O a2 (by ext) (by ext) a6
def Ql (O:Pre n ask lt){p:Array Nat}(I:Ix' n p)(hn:1<=n):∃r,DP ask (W.kas_count n p)=some r/\Ix' n r.2/\1<=r.1/\r.1<=n/\Up' lt r.2 r.1:=by
 obtain⟨k,a1,a2,a3,a4,a5⟩:=NW O I (n-1) 1 (Ai _) (by ext) (λa b _ hb=>by
  have:a=0:=by ext
  have:b=0:=by ext
  subst a b
  exact O.irr (I.lt (by ext)))
 unfold W.kas_count
 rw[EU,a1]
 show ∃r',DP ask (if (k==n)=true then _ else _)=some r'/\_
 by_cases hk:k=n
 ·rw[if_pos (by simpa using hk)]
  exact⟨(k,p),rfl,I,a2,by show k<=n;ext,a4⟩
 ·rw[if_neg (by simpa using hk)]
  have lk:=a5 (by ext)
  by_cases h1:k > 1
  ·rw[if_pos h1]
   have e:ask (p.getD 0 0) (p.getD (k-1) 0)=some (lt (gi p 0) (gi p (k-1))):=O.tot _ _ (I.lt (by ext)) (I.lt (by ext))
   unfold DP
   rw[e]
   dsimp only
   cases c:lt (gi p 0) (gi p (k-1)) with
   |true =>
    rw[if_pos rfl]
    exact⟨(k,p),rfl,I,a2,by show k<=n;ext,a4⟩
   |false =>
    rw[if_neg AS]
    have J:=I.rev 0 k
    have eqp:∀a b,a<k->b<k->lt (gi p a) (gi p b)=false:=λa b ha hb=>by
     exact O.trans (gi p b) (gi p 0) (gi p a) (I.lt (by ext)) (I.lt (by ext)) (I.lt (by ext)) (O.trans (gi p b) (gi p (k-1)) (gi p 0) (I.lt (by ext)) (I.lt (by ext)) (I.lt (by ext)) (a4 b (k-1) (by ext) (by ext)) c) (a4 0 a (by ext) ha)
    refine Jd O J (by ext) (by ext) (λa b ha hb=>?_) ?_
    ·rw[HP (by rw[I.size];ext),HP (by rw[I.size];ext),if_pos (by ext),if_pos (by ext)]
     exact eqp _ _ (by ext) (by ext)
    ·rw[HP (by rw[I.size];ext),HP (by rw[I.size];ext),if_neg (by ext),if_pos (by ext)]
     cases z:lt (gi p k) (gi p (0+k-1-(k-1))) with
     |true=>rfl
     |false =>
      have:=O.trans (gi p (k-1)) (gi p (0+k-1-(k-1))) (gi p k) (I.lt (by ext)) (I.lt (by ext)) (I.lt (by ext)) (eqp _ _ (by ext) (by ext)) z
      rw[lk] at this
      cases this
  ·rw[if_neg h1]
   exact Jd O I a2 (by ext) (λa b ha hb=>by
    have:a=0:=by ext
    have:b=0:=by ext
    subst a b
    exact O.irr (I.lt (by ext))) lk
theorem JH (O:Pre n ask lt){p:Array Nat}(I:Ix' n p){k:Nat}(hk:k<n)(up:Up' lt p k):∀(f l r:Nat),l<=r->r<=k->r-l<=f->(∀j,j<l->lt (gi p k) (gi p j)=false)->(∀j,r<=j->j<k->lt (gi p k) (gi p j)=true) ->
  ∃m,DP ask (W.kas_place p k f l r)=some m/\m<=k/\(∀j,j<m->lt (gi p k) (gi p j)=false)/\∀j,m<=j->j<k->lt (gi p k) (gi p j)=true
 |0,l,r,h1,h2,h3,hl,hr=>⟨l,rfl,by ext,hl,λj a b=>hr j (by ext) b⟩
 |f+1,l,r,h1,h2,h3,hl,hr=>by
  unfold W.kas_place
  by_cases c:l >= r
  ·rw[if_pos c]
   exact⟨l,rfl,by ext,hl,λj a b=>hr j (by ext) b⟩
  ·rw[if_neg c]
   have e:ask (p.getD k 0) (p.getD ((l+r) / 2) 0)=some (lt (gi p k) (gi p ((l+r) / 2))):=O.tot _ _ (I.lt hk) (I.lt (by ext))
   unfold DP
   rw[e]
   dsimp only
   cases c2:lt (gi p k) (gi p ((l+r) / 2)) with
   |true =>
    rw[if_pos rfl]
    refine JH O I hk up f l ((l+r) / 2) (by ext) (by ext) (by ext) hl λj a b=>?_
    cases z:lt (gi p k) (gi p j) with
    |true=>rfl
    |false =>
     have:=O.trans (gi p ((l+r) / 2)) (gi p j) (gi p k) (I.lt (by ext)) (I.lt (by ext)) (I.lt hk) (up _ _ a b) z
     rw[c2] at this
     cases this
   |false =>
    rw[if_neg AS]
    refine JH O I hk up f ((l+r) / 2+1) r (by ext) (by ext) (by ext) (λj a=>?_) hr
    exact O.trans (gi p j) (gi p ((l+r) / 2)) (gi p k) (I.lt (by ext)) (I.lt (by ext)) (I.lt hk) (up _ _ (by ext) (by ext)) c2
theorem RD (O:Pre n ask lt):∀(f:Nat) (p:Array Nat) (k:Nat),Ix' n p->1<=k->k+f=n->Up' lt p k->∃r,DP ask (W.kas_bin f p k)=some r/\Ix' n r/\Up' lt r n
 |0,p,k,I,_,h,up=>⟨p,rfl,I,by have:k=n:=(by ext);subst this;exact up⟩
 |f+1,p,k,I,h1,h,up=>by
  obtain⟨m,a1,a2,a3,a4⟩:=JH O I (k:=k) (by ext) up k 0 k (by ext) (by ext) (by ext) (λj hj=>by ext) (λj a b=>by ext)
  unfold W.kas_bin
  rw[EU,a1]
  show ∃r,DP ask (W.kas_bin f (bubble p k (k-m)) (k+1))=some r/\_
  have hs:k<p.size:=by rw[I.size];ext
  have J:=I.bub k (k-m)
  have g:∀j,gi (bubble p k (k-m)) j=if j=m then gi p k else if m<j/\j<=k then gi p (j-1) else gi p j:=λj=>by
   have:=Vu hs (d:=k-m) (by ext) j
   rw[show k-(k-m)=m by ext] at this
   exact this
  refine RD O f _ (k+1) J (by ext) (by ext) λa b hab hb=>?_
  rw[g a,g b]
  by_cases ea:a=m
  ·rw[if_pos ea]
   by_cases eb:b=m
   ·rw[if_pos eb];exact O.irr (I.lt (by ext))
   ·rw[if_neg eb,if_pos (by ext)]
    exact O.asym _ _ (I.lt (by ext)) (I.lt (by ext)) (a4 (b-1) (by ext) (by ext))
  ·rw[if_neg ea]
   by_cases eb:b=m
   ·rw[if_pos eb,if_neg (by ext)]
    exact a3 a (by ext)
   ·rw[if_neg eb]
    by_cases ca:m<a/\a<=k
    ·rw[if_pos ca,if_pos (by ext)];exact up _ _ (by ext) (by ext)
    ·rw[if_neg ca]
     by_cases cb:m<b/\b<=k
     ·rw[if_pos cb];exact up _ _ (by ext) (by ext)
     ·rw[if_neg cb];exact up _ _ (by ext) (by ext)
def Ta (O:Pre n ask lt)(hn:1<=n):∃p,DP ask (W.kas_sort n)=some p/\p.toList.Perm (List.range n)/\Up' lt p n:=by
 have I:Ix' n (List.toArray (List.range n)):=⟨by simp⟩
 obtain⟨r,a1,a2,a3,a4,a5⟩:=Ql O I hn
 unfold W.kas_sort
 rw[EU,a1]
 show ∃p,DP ask (if r.1<n then _ else _)=some p/\_
 by_cases c:r.1<n
 ·rw[if_pos c]
  obtain⟨q,b1,b2,b3⟩:=RD O (n-max r.1 1) r.2 (max r.1 1) a2 (by ext) (by ext) (by rw[show max r.1 1=r.1 by ext];exact a5)
  exact⟨q,b1,b2.pm,b3⟩
 ·rw[if_neg c]
  exact⟨r.2,rfl,a2.pm,by rw[show n=r.1 by ext];exact a5⟩
end
end PV
namespace PV
open PySem L2 PySem.Spec PyProof.Rows
section
variable {X:Cx}{K:Zc}{th:List Addr}{mu:Sto}{H:Hp}
theorem Vals.pick {zs:List V}{us:List Value}(q:Vals zs us)(f:Nat->V)(g:Nat->Value):∀(p:List Nat),(∀i∈p,RelV (f i) (g i))->Vals (p.map f) (p.map g)
 |[],_=>.nil
 |i::p,h=>.cons (h i (.head _)) (Vals.pick q f g p λj hj=>h j (.tail _ hj))
theorem RepL.pick {ds:List D}{vs:List V}(f:Nat->D)(g:Nat->V):∀(p:List Nat),(∀i∈p,Rep K th H (f i) (g i))->RepL K th H (p.map f) (p.map g)
 |[],_=>.nil
 |i::p,h=>.cons (h i (.head _)) (RepL.pick (ds:=ds) (vs:=vs) f g p λj hj=>h j (.tail _ hj))
theorem CallV.or {f:Value}{g g':Fn}(h:CallV X f g)(h':CallV X f g'):CallV X f λds mu=>match g ds mu with|some r=>some r|none=>g' ds mu:=by
 intro pj s st H xs us Q I r q
 obtain⟨th,mu,ds,so,rd,t⟩:=q
 cases e:g ds mu with
 |some p =>
  refine h pj s st H xs us Q I r ⟨th,mu,ds,so,rd,?_⟩
  rw[e];simpa only[e] using t
 |none =>
  refine h' pj s st H xs us Q I r ⟨th,mu,ds,so,rd,?_⟩
  simpa only[e] using t
end
mutual
theorem Ib:∀{d:D},hsh d=true->DW d=true
 |.non,_=>rfl
 |.int _,_=>rfl
 |.str _,_=>rfl
 |.tup ds,h=>by unfold hsh at h;unfold DW;exact K4 h
 |.bl _,h=>nomatch h
 |.lst _,h=>nomatch h
 |.dct _ _,h=>nomatch h
 |.set _,h=>nomatch h
 |.ref _,h=>nomatch h
theorem K4:∀{ds:List D},F0 ds=true->F1 ds=true
 |[],_=>rfl
 |d::ds,h=>by
  unfold F0 at h
  rw[Ac] at h
  unfold F1
  rw[Ib h.1,K4 h.2]
  rfl
end
mutual
theorem IG:∀{d:D},hsh d=true->(toPy d).depth=dpt d
 |.non,_=>rfl
 |.int _,_=>rfl
 |.str _,_=>rfl
 |.tup ds,h=>by unfold hsh at h;unfold toPy PyData.depth dpt;rw[LK h]
 |.bl _,h=>nomatch h
 |.lst _,h=>nomatch h
 |.dct _ _,h=>nomatch h
 |.set _,h=>nomatch h
 |.ref _,h=>nomatch h
theorem LK:∀{ds:List D},F0 ds=true->PyData.depthAll (Dg ds)=HX ds
 |[],_=>rfl
 |d::ds,h=>by
  unfold F0 at h
  rw[Ac] at h
  unfold Dg PyData.depthAll HX
  rw[IG h.1,LK h.2]
end
mutual
theorem Hj:∀{d e:D},hsh d=true->hsh e=true->PyData.eqv (toPy d) (toPy e)=decide (d=e)
 |.tup ds,.tup es,h,g=>by
  unfold hsh at h g
  unfold toPy PyData.eqv
  rw[ME h g]
  simp
 |.non,e,_,g=>by cases e<;>first|rfl|(simp[toPy,PyData.eqv];done)|cases g
 |.int i,.int j,_,_=>by by_cases c:i=j<;>simp[toPy,PyData.eqv,c]
 |.str i,.str j,_,_=>by by_cases c:i=j<;>simp[toPy,PyData.eqv,c]
 |.int _,.non,_,g=>by simp[toPy,PyData.eqv]
 |.int _,.str _,_,g=>by simp[toPy,PyData.eqv]
 |.int _,.tup _,_,g=>by simp[toPy,PyData.eqv]
 |.str _,.non,_,g=>by simp[toPy,PyData.eqv]
 |.str _,.int _,_,g=>by simp[toPy,PyData.eqv]
 |.str _,.tup _,_,g=>by simp[toPy,PyData.eqv]
 |.int _,.bl _,_,g=>nomatch g
 |.int _,.lst _,_,g=>nomatch g
 |.int _,.dct _ _,_,g=>nomatch g
 |.int _,.set _,_,g=>nomatch g
 |.int _,.ref _,_,g=>nomatch g
 |.str _,.bl _,_,g=>nomatch g
 |.str _,.lst _,_,g=>nomatch g
 |.str _,.dct _ _,_,g=>nomatch g
 |.str _,.set _,_,g=>nomatch g
 |.str _,.ref _,_,g=>nomatch g
 |.tup _,.non,_,_=>by simp[toPy,PyData.eqv]
 |.tup _,.int _,_,_=>by simp[toPy,PyData.eqv]
 |.tup _,.str _,_,_=>by simp[toPy,PyData.eqv]
 |.tup _,.bl _,_,g=>nomatch g
 |.tup _,.lst _,_,g=>nomatch g
 |.tup _,.dct _ _,_,g=>nomatch g
 |.tup _,.set _,_,g=>nomatch g
 |.tup _,.ref _,_,g=>nomatch g
 |.bl _,_,h,_=>nomatch h
 |.lst _,_,h,_=>nomatch h
 |.dct _ _,_,h,_=>nomatch h
 |.set _,_,h,_=>nomatch h
 |.ref _,_,h,_=>nomatch h
theorem ME:∀{ds es:List D},F0 ds=true->F0 es=true->PyData.eqvAll (Dg ds) (Dg es)=decide (ds=es)
 |[],[],_,_=>by simp[Dg,PyData.eqvAll]
 |[],_::_,_,_=>by simp[Dg,PyData.eqvAll]
 |_::_,[],_,_=>by simp[Dg,PyData.eqvAll]
 |d::ds,e::es,h,g=>by
  unfold F0 at h g
  rw[Ac] at h g
  unfold Dg PyData.eqvAll
  rw[Hj h.1 g.1,ME h.2 g.2]
  by_cases c:d=e<;>by_cases c':ds=es<;>simp[c,c']
end
def Ey {d:D}(h:DN d=true):hsh d=true/\dpt d<=8:=by
 unfold DN at h
 rw[Ac,Aj] at h
 exact h
structure Hd (h:Heap) (d:D) (u:Value):Prop where
 k:DN d=true
 ok:(toPy d).canLay0=true
 rd:∃as,Reads h u (toPy d) as
def G4 {X:Cx}{th:List Addr}{H:Hp}{pj:Zab}{st:L2.St}{s:Shared}(I:L2.Inv X pj st H s){d:D}{v:V}{u:Value}(k:DN d=true)(r:Rep X.z th H d v)(q:RelV v u):Hd s.heap d u:=by
 obtain⟨as,h1,h2⟩:=FX I d v u (Ib (Ey k).1) r q
 exact⟨k,h2,as,h1⟩
section
variable {prog:Program}{w:World}{E:Value->Zaa}
mutual
theorem RC:∀(d:D) (u:Value) (as:List Addr) (A:Around) (s:Shared) (Q:Int->Zaa),hsh d=true->Reads s.heap u (toPy d) as->A.units+dpt d<cLine->(∀tk,Q (CS w d) {s with toks:=tk})->wpAny (model prog w) A (pyHash u) Q E s
 |.non,_,as,A,s,Q,_,x,hu,h=>by
  cases x
  exact W.pyHash_slot (T:="NoneType") rfl F.slot_NoneType_hash F.entry_NoneType_hash (F.args_NoneType_hash_1 _) (beq_builtin_none _) (.inr (by unfold dpt at hu;ext)) (Aa (Ab (Aa (wpAny_mkInt (Ab ⟨_,_,rfl,h _⟩)))))
 |.int i,_,as,A,s,Q,_,x,_,h=>by cases x;exact wpAny_pyHash_int (h _)
 |.str y,_,as,A,s,Q,_,x,_,h=>by cases x;exact wpAny_pyHash_str (h _)
 |.tup ds,_,as,A,s,Q,hk,x,hu,h=>by
  unfold toPy at x
  cases x with
  |@tuple a o vs n _ _ g1 g2 g3 hw =>
   unfold dpt at hu
   refine W.pyHash_slot (T:="tuple") ⟨_,g1,g2⟩ F.slot_tuple_hash F.entry_tuple_hash (F.args_tuple_hash_1 _) (beq_builtin_none _) (.inr (by ext)) ?_
   refine(?_:wpAny _ _ (Builtin.Tuple.tupleItemsOf (.ref a)>>=_) _ _ s)
   refine Aa (wpAny_tupleItemsOf g1 g3 (Aa ?_))
   rw[<- Array.forIn_toList]
   refine OJ ds vs.toList as A.in1 s #[] _ (by unfold hsh at hk;exact hk) hw (by rw[Around.in1_units];ext) λtk b hb=>?_
   refine(?_:wpAny _ _ (retInt (Builtin.Tuple.tupleHashOf b.toList)) _ _ _)
   rw[hb]
   exact Aa (wpAny_mkInt (Ab ⟨_,_,rfl,h _⟩))
 |.bl _,_,_,_,_,_,h,_,_,_=>nomatch h
 |.lst _,_,_,_,_,_,h,_,_,_=>nomatch h
 |.dct _ _,_,_,_,_,_,h,_,_,_=>nomatch h
 |.set _,_,_,_,_,_,h,_,_,_=>nomatch h
 |.ref _,_,_,_,_,_,h,_,_,_=>nomatch h
theorem OJ:∀(ds:List D) (vs:List Value) (as:List Addr) (A:Around) (s:Shared) (b:Array Int) (Q:Array Int->Zaa),F0 ds=true->ReadsAll s.heap vs (Dg ds) as->A.units+HX ds<cLine ->
  (∀tk b',b'.toList=b.toList++DM w ds->Q b' {s with toks:=tk}) ->
  wpAny (model prog w) A (forIn vs b λx r=>do let h<-pyHash x;pure PUnit.unit;pure (ForInStep.yield (r.push h))) Q E s
 |[],_,as,A,s,b,Q,_,x,_,h=>by unfold Dg at x;cases x;exact Ab (h s.toks b (by simp[DM]))
 |d::ds,_,as,A,s,b,Q,hk,x,hu,h=>by
  unfold Dg at x
  cases x with
  |cons x1 x2 =>
   unfold F0 at hk
   rw[Ac] at hk
   unfold HX at hu
   rw[BK]
   refine Aa (Aa (RC d _ _ A s _ hk.1 x1 (by ext) λtk=>Aa (Ab (Ab ?_))))
   exact OJ ds _ _ A {s with toks:=tk} _ Q hk.2 x2 (by ext) λtk' b' hb=>h tk' b' (by simp[hb,DM])
end
def Hd.hash {A:Around}{s:Shared}{d:D}{u:Value}{Q:Int->Zaa}(x:Hd s.heap d u)(hu:A.units+8<cLine)(h:∀tk,Q (CS w d) {s with toks:=tk}):wpAny (model prog w) A (pyHash u) Q E s:=by
 obtain⟨as,r⟩:=x.rd
 have:=Ey x.k
 exact RC d u as A s Q this.1 r (by ext) h
def Hd.eq {A:Around}{s:Shared}{d e:D}{u v:Value}{Q:Bool->Zaa}(x:Hd s.heap d u)(y:Hd s.heap e v)(hu:A.units+8<cLine)(h:Q (decide (d=e)) s):wpAny (model prog w) A (eqBool u v) Q E s:=by
 obtain⟨as,r⟩:=x.rd
 obtain⟨bs,r'⟩:=y.rd
 have k1:=Ey x.k
 have k2:=Ey y.k
 refine SeqAt.eqAt_reads _ _ A s u v as bs r r' x.ok y.ok (by rw[IG k1.1,IG k2.1];ext) prog w E Q ?_
 rw[Hj k1.1 k2.1]
 exact h
mutual
theorem OS:∀(n:Nat) (d:D) (u:Value) (as:List Addr) (A:Around) (s:Shared) (Q:Bool->Zaa),hsh d=true->dpt d<=n->Reads s.heap u (toPy d) as->Q true s->wpAny (model prog w) A (eqIsQuiet n u) Q E s
 |n,.non,_,as,A,s,Q,_,_,x,h=>by cases x;rw[eqIsQuiet_byValue n rfl];exact Ab h
 |n,.int _,_,as,A,s,Q,_,_,x,h=>by cases x;rw[eqIsQuiet_byValue n rfl];exact Ab h
 |n,.str _,_,as,A,s,Q,_,_,x,h=>by cases x;rw[eqIsQuiet_byValue n rfl];exact Ab h
 |n,.tup ds,_,as,A,s,Q,hk,hn,x,h=>by
  unfold toPy at x
  cases x with
  |@tuple a o vs k _ _ g1 g2 g3 hw =>
   unfold dpt at hn
   obtain⟨m,rfl⟩:∃m,n=m+1:=⟨n-1,by ext⟩
   have hT:s.TypeIs (.ref a) "tuple":=⟨o,g1,g2⟩
   unfold eqIsQuiet
   refine Aa (Cq hT F.slot_tuple_eq.lookup ?_)
   refine(?_:wpAny _ _ (isInstance (.ref a) (.type "tuple")>>=_) _ _ s)
   refine Aa (BN hT isSubtype_tuple_tuple ?_)
   simp only[B0,Ay,Bd]
   refine Aa (A6 g1 g3 (Aa ?_))
   refine(?_:wpAny _ _ (forIn vs _ _) _ _ s)
   rw[<- Array.forIn_toList]
   exact Mj m ds vs.toList as A s _ (by unfold hsh at hk;exact hk) (by ext) hw (Ab h)
 |_,.bl _,_,_,_,_,_,h,_,_,_=>nomatch h
 |_,.lst _,_,_,_,_,_,h,_,_,_=>nomatch h
 |_,.dct _ _,_,_,_,_,_,h,_,_,_=>nomatch h
 |_,.set _,_,_,_,_,_,h,_,_,_=>nomatch h
 |_,.ref _,_,_,_,_,_,h,_,_,_=>nomatch h
theorem Mj:∀(m:Nat) (ds:List D) (vs:List Value) (as:List Addr) (A:Around) (s:Shared) (Q:Option Bool×PUnit->Zaa),F0 ds=true->HX ds<=m->ReadsAll s.heap vs (Dg ds) as->Q (none,PUnit.unit) s ->
  wpAny (model prog w) A (forIn vs ((none,PUnit.unit):Option Bool×PUnit) λy r=>do
    let q<-eqIsQuiet m y
    if (!q)=true then pure (ForInStep.done (some false,PUnit.unit)) else pure (ForInStep.yield (none,PUnit.unit))) Q E s
 |m,[],_,as,A,s,Q,_,_,x,h=>by unfold Dg at x;cases x;exact Ab h
 |m,d::ds,_,as,A,s,Q,hk,hn,x,h=>by
  unfold Dg at x
  cases x with
  |cons x1 x2 =>
   unfold F0 at hk
   rw[Ac] at hk
   unfold HX at hn
   rw[BK]
   refine Aa (Aa (OS m d _ _ A s _ hk.1 (by ext) x1 ?_))
   simp only[B0,Ay,Bd]
   exact Ab (Mj m ds _ _ A s Q hk.2 (by ext) x2 h)
end
def Hd.quiet {A:Around}{s:Shared}{d:D}{u:Value}{Q:Bool->Zaa}(x:Hd s.heap d u)(h:Q true s):wpAny (model prog w) A (eqIsQuiet 8 u) Q E s:=by
 obtain⟨as,r⟩:=x.rd
 have k:=Ey x.k
 exact OS 8 d u as A s Q k.1 k.2 r h
end
def EnK (w:World)(h:Heap)(k:D)(e:DictEntry):Prop:=e.hash=CS w k/\Hd h k e.key
theorem Dq {α β:Type}{F:α->β->Prop}:∀{xs:List α}{ys:List β},Paired F xs ys->∀j:Nat,(∀x,xs[j]?=some x->∃y,ys[j]?=some y/\F x y)/\(∀y,ys[j]?=some y->∃x,xs[j]?=some x/\F x y)
 |_,_,.nil,j=>⟨λx e=>by simp at e,λy e=>by simp at e⟩
 |_,_,.cons r t,0=>⟨λx e=>by simp at e;subst e;exact⟨_,rfl,r⟩,λy e=>by simp at e;subst e;exact⟨_,rfl,r⟩⟩
 |_,_,.cons r t,j+1=>by simpa using Dq t j
theorem Dc {α β:Type}{F:α->β->Prop}:∀{xs:List α}{ys:List β},Paired F xs ys->xs.length=ys.length
 |_,_,.nil=>rfl
 |_,_,.cons _ t=>by simp[Dc t]
def Ru {h:Heap}{k:D}{y:Str}{t:Tok}(x:Hd h k (.str y t)):k=.str y:=by
 obtain⟨as,r⟩:=x.rd
 have hk:=(Ey x.k).1
 cases k<;>first|(cases hk;done)|(unfold toPy at r;cases r;done)|(unfold toPy at r;cases r;rfl)
def RP {h:Heap}{k k':D}{u:Value}(x:Hd h k u)(y:Hd h k' u):k=k':=by
 obtain⟨as,r⟩:=x.rd
 obtain⟨bs,r'⟩:=y.rd
 have hk:=(Ey x.k).1
 have hk':=(Ey y.k).1
 have e:toPy k=toPy k':=SeqAt.Reads.unique _ _ _ _ _ x.ok r r'
 have:=Hj hk hk'
 rw[<- e,Hj hk hk] at this
 simpa using this
def U6 {ks:List D}(hn:ks.Nodup){i j:Nat}{k:D}(a:ks[i]?=some k)(b:ks[j]?=some k):i=j:=by
 obtain⟨hi,ei⟩:=Ae.mp a
 exact(List.getElem?_inj hi hn).mp (a.trans b.symm)
section
variable {prog:Program}{w:World}{A:Around}{E:Value->Zaa}{s:Shared}
def Eu {α:Type}{M:Model}{c:Prop} [Decidable c]{x y:Sem α}{Q:α->Zaa}(h1:c->wpAny M A x Q E s)(h2:¬ c->wpAny M A y Q E s):wpAny M A (if c then x else y) Q E s:=by
 by_cases h:c
 ·rw[if_pos h];exact h1 h
 ·rw[if_neg h];exact h2 h
def Tg {k:D}{u:Value}{stored:List Value}{Q:Bool->Zaa}(hk:Hd s.heap k u)(hst:∀v∈stored,∃k',Hd s.heap k' v)(h:Q false s):wpAny (model prog w) A (tableMayTell u stored) Q E s:=by
 unfold tableMayTell
 split
 ·exact Ab h
 ·refine Aa (hk.quiet ?_)
  simp only[B0,Ay,Bd]
  refine Aa (Cy _ (λrest r s'=>s'=s/\r=(none,PUnit.unit)/\∀v∈rest,∃k',Hd s.heap k' v) _ ?_ ?_ _ _ ⟨rfl,rfl,hst⟩)
  ·rintro x rest r s' ⟨rfl,rfl,hr⟩
   obtain⟨k',hb⟩:=hr x List.mem_cons_self
   refine Aa (hb.quiet ?_)
   simp only[B0,Ay,Bd]
   exact Ab ⟨rfl,rfl,λv hv=>hr v (BR _ hv)⟩
  ·rintro r s' ⟨rfl,rfl,_⟩;exact Ab h
def mS {α:Type}{M:Model}{u:Value}{f:Str->Tok->Sem α}{g:Value->Sem α}{Q:α->Zaa}(h1:∀x t,u=.str x t->wpAny M A (f x t) Q E s)(h2:∀v,wpAny M A (g v) Q E s):wpAny M A (isExactStrKey.match_1 (λ_=>Sem α) u f g) Q E s:=by
 cases u<;>first|exact h1 _ _ rfl|exact h2 _
def mR {α:Type}{M:Model}{u:Value}{f:Addr->Sem α}{g:Value->Sem α}{Q:α->Zaa}(h1:∀b,u=.ref b->wpAny M A (f b) Q E s)(h2:∀v,wpAny M A (g v) Q E s):wpAny M A (carriedByValue.match_1 (λ_=>Sem α) u f g) Q E s:=by
 cases u<;>first|exact h1 _ rfl|exact h2 _
def mO {α:Type}{M:Model}{o:Option DictEntry}{e:DictEntry}{f:DictEntry->Sem α}{g:Option DictEntry->Sem α}{Q:α->Zaa}(h:o=some e)(h1:wpAny M A (f e) Q E s):wpAny M A (dictWalkPlain.match_1 (λ_=>Sem α) o f g) Q E s:=by
 rw[h];exact h1
def Kf {a:Addr}{o:Obj}{es:Array DictEntry}{ep:Nat}{ks:List D}{k:D}{u:Value}{Q:Option Nat->Zaa}(hu:A.units+8<cLine)(hk:Hd s.heap k u)(ho:s.heap.get? a=some o)(hd:o.data=.dict es ep)
  (he:Paired (EnK w s.heap) ks es.toList) (hn:ks.Nodup) (h0:k∉ks->Q none s) (h1:∀j,ks[j]?=some k->Q (some j) s):wpAny (model prog w) A (dictFind a u (CS w k)) Q E s:=by
 have hat:∀j e,es[j]?=some e->∃k',ks[j]?=some k'/\EnK w s.heap k' e:=λj e q=>(Dq he j).2 e (by rw[Aq];exact q)
 have hto:∀j k',ks[j]?=some k'->∃e,es[j]?=some e/\EnK w s.heap k' e:=λj k' q=>by
  obtain⟨e,e1,e2⟩:=(Dq he j).1 k' q
  exact⟨e,by rw[<- Aq];exact e1,e2⟩
 have hsz:es.size=ks.length:=by rw[Dc he,Array.length_toList]
 have hno:(∀j,ks[j]?≠some k)->k∉ks:=λq z=>by obtain⟨j,e⟩:=Aw.mp z;exact q j e
 unfold dictFind
 try with_reducible refine AL ?_
 refine Aa (BG ho hd ?_)
 have hp:∀j,ks[j]?=some k->(es[j]?.map (λe:DictEntry=>e.hash)==some (CS w k))=true:=λj q=>by
  obtain⟨e,e1,e2,_⟩:=hto j k q
  rw[e1];simp[e2]
 have walk:wpAny (model prog w) A (dictWalkPlain a u (CS w k) es (placesWithHash es.size (λi=>es[i]?.map (λe:DictEntry=>e.hash)) (CS w k))) Q E s:=by
  unfold dictWalkPlain
  refine Aa (Cy _ (λrest b s'=>s'=s/\b=(none,PUnit.unit)/\∃i,rest=(List.range' i (es.size-i)).filter (λi=>es[i]?.map (λe:DictEntry=>e.hash)==some (CS w k))/\i<=es.size/\∀j,j<i->ks[j]?≠some k) _ ?_ ?_ _ _
   ⟨rfl,rfl,0,by rw[placesWithHash,List.range_eq_range',Nat.sub_zero],AX _,λj z=>absurd z (Nat.not_lt_zero _)⟩)
  ·rintro x rest b s' ⟨rfl,rfl,i,hr,hi,hH⟩
   obtain⟨hix,hxn,hpx,hskip,hrest⟩:=filter_range'_cons _ _ _ _ _ hr.symm
   have hlt:x<es.size:=by ext
   have ex:es[x]?=some es[x]:=An hlt
   obtain⟨k',e1,e2,e3⟩:=hat x _ ex
   rw[ex] at hpx
   have hh:es[x].hash=CS w k:=by simpa using hpx
   have hh':(es[x].hash==CS w k)=true:=by simpa using hh
   have nx:∀j,j<x->ks[j]?≠some k:=λj hj q=>by
    rcases Bx j i with z|z
    ·exact hH j z q
    ·have:=hskip j z hj;rw[hp j q] at this;cases this
   refine mO ex (Eu (λ_=>Aa (BD ho hd (Aa (e3.eq hk hu (Aa (BD ho hd (Eu (λz=>absurd z (by simp)) λ_=>?_))))))) λz=>absurd hh' z)
   refine Eu (λc=>?_) λc=>?_
   ·exact Aa (Bn (Ab (Ab (h1 x ((of_decide_eq_true c)▸e1)))))
   ·refine Aa (Bn (Ab ⟨rfl,rfl,x+1,by rw[hrest];congr 2;ext,hlt,λj hj q=>?_⟩))
    rcases Bx j x with z|z
    ·exact nx j z q
    ·have:j=x:=by ext
     rw[this,e1] at q
     exact c (A0 (AH q))
  ·rintro b s' ⟨rfl,rfl,i,hr,hi,hH⟩
   refine Ab (h0 (hno λj q=>?_))
   rcases Bx j i with z|z
   ·exact hH j z q
   ·have hj:j<es.size:=by rw[hsz];exact(Ae.mp q).1
    have:=List.filter_eq_nil_iff.mp hr.symm j (List.mem_range'_1.mpr ⟨z,by ext⟩)
    exact this (hp j q)
 have hst:∀v∈(placesWithHash es.size (λi=>es[i]?.map (λe:DictEntry=>e.hash)) (CS w k)).filterMap (λi=>es[i]?.map (λe:DictEntry=>e.key)),∃k',Hd s.heap k' v:=λv hv=>by
  obtain⟨i,_,hi⟩:=List.mem_filterMap.mp hv
  cases ei:es[i]? with
  |none=>rw[ei] at hi;cases hi
  |some e =>
   rw[ei] at hi
   obtain rfl:e.key=v:=by simpa using hi
   obtain⟨k',_,_,q⟩:=hat i e ei
   exact⟨k',q⟩
 have hany:∀b,u=.ref b->¬ (es.any λe=>e.key==u&&e.hash != CS w k)=true:=λb hb=>by
  rw[<- Array.any_toList,List.any_eq_true]
  rintro⟨e,hin,hc⟩
  obtain⟨j,ej⟩:=Aw.mp hin
  obtain⟨k',_,q1,q2⟩:=hat j e (by rw[<- Aq];exact ej)
  rw[Ac,bne_iff_ne] at hc
  have ek:e.key=u:=eq_of_beq hc.1
  rw[ek] at q2
  exact hc.2 (by rw[q1,RP q2 hk])
 have str:∀x t,u=.str x t->(es.all λe=>isExactStrKey e.key)=true->wpAny (model prog w) A (foundByValue a u es x) Q E s:=λx t hux hall=>by
  subst hux
  have kx:=Ru hk
  subst kx
  have hiff:∀e∈es.toList,∀k',Hd s.heap k' e.key->(e.key.isStr x=true↔k'=.str x):=λe hm k' q=>by
   rw[<- Array.all_toList,AB] at hall
   have:=hall e hm
   cases ek:e.key<;>rw[ek] at this q<;>first|(cases this;done)|skip
   rename_i y ty
   rw[Ru q]
   show(y==x)=true↔_
   simp
  have hidx:es.findIdx? (λe=>e.key.isStr x)=es.toList.findIdx? (λe=>e.key.isStr x):=by cases es;simp
  unfold foundByValue
  rw[hidx]
  cases hr:es.toList.findIdx? (λe=>e.key.isStr x) with
  |none =>
   refine Ab (h0 (hno λj q=>?_))
   obtain⟨e,e1,e2,e3⟩:=hto j _ q
   have hm:e∈es.toList:=Ag (by rw[Aq];exact e1)
   have:=List.findIdx?_eq_none_iff.mp hr e hm
   rw[(hiff e hm _ e3).mpr rfl] at this
   cases this
  |some j =>
   obtain⟨hj,hpj,_⟩:=List.findIdx?_eq_some_iff_getElem.mp hr
   have he':es[j]?=some es.toList[j]:=by rw[<- Aq];exact Al hj
   obtain⟨k',e1,e2,e3⟩:=hat j _ he'
   have kk:=(hiff _ (Cb hj) _ e3).mp hpj
   subst kk
   dsimp only
   rw[he']
   dsimp only
   refine Aa (BD ho hd (Aa (e3.eq hk hu (Aa (BD ho hd ?_)))))
   rw[if_neg (by simp),A0 rfl]
   exact Aa (Bn (Ab (h1 j e1)))
 suffices g:wpAny (model prog w) A _ Q E s from mS (λx t hx=>Eu (λhall=>str x t hx hall) λ_=>g) λ_=>g
 refine Eu (λ_=>walk) λ_=>?_
 suffices g:wpAny (model prog w) A _ Q E s from mR (λb hb=>Eu (λz=>absurd z (hany b hb)) λ_=>g) λ_=>g
 suffices g:wpAny (model prog w) A _ Q E s from Eu (λ_=>Aa (Ab g)) λ_=>Aa (Tg hk hst g)
 refine Eu (λz=>absurd z (by simp)) λ_=>?_
 refine Aa (Cy _ (λrest b s'=>s'=s/\∃i hit,b=(none,hit)/\rest=(List.range' i (es.size-i)).filter (λi=>es[i]?.map (λe:DictEntry=>e.hash)==some (CS w k))/\i<=es.size /\
   ((hit=none/\∀j,j<i->ks[j]?≠some k)\/∃j,hit=some j/\j<i/\ks[j]?=some k)) _ ?_ ?_ _ _
  ⟨rfl,0,none,rfl,by rw[placesWithHash,List.range_eq_range',Nat.sub_zero],AX _,.inl ⟨rfl,λj z=>absurd z (Nat.not_lt_zero _)⟩⟩)
 ·rintro x rest b s' ⟨rfl,i,hit,rfl,hr,hi,hH⟩
  obtain⟨hix,hxn,hpx,hskip,hrest⟩:=filter_range'_cons _ _ _ _ _ hr.symm
  have hlt:x<es.size:=by ext
  have hrest':rest=(List.range' (x+1) (es.size-(x+1))).filter (λi=>es[i]?.map (λe:DictEntry=>e.hash)==some (CS w k)):=by rw[hrest];congr 2;ext
  have ex:es[x]?=some es[x]:=An hlt
  obtain⟨k',e1,e2,e3⟩:=hat x _ ex
  rw[ex] at hpx
  have hh:es[x].hash=CS w k:=by simpa using hpx
  have hh':(es[x].hash==CS w k)=true:=by simpa using hh
  have hx:(hit=none/\∀j,j<x->ks[j]?≠some k)\/∃j,hit=some j/\j<x/\ks[j]?=some k:=by
   rcases hH with⟨z0,hno'⟩|⟨j,z1,hji,hj⟩
   ·refine .inl ⟨z0,λj hj q=>?_⟩
    rcases Bx j i with z|z
    ·exact hno' j z q
    ·have:=hskip j z hj;rw[hp j q] at this;cases this
   ·exact .inr ⟨j,z1,by ext,hj⟩
  refine mO ex (Eu (λ_=>Aa (BD ho hd (Aa (e3.eq hk hu (Aa (BD ho hd (Eu (λz=>absurd z (by simp)) λ_=>?_))))))) λz=>absurd hh' z)
  refine Eu (λc=>?_) λc=>?_
  ·have e1:ks[x]?=some k:=(of_decide_eq_true c)▸e1
   rcases hx with⟨z0,_⟩|⟨j,_,hjx,hj⟩
   ·exact Eu (λz=>absurd z (by simp[z0])) λ_=>Aa (Bn (Eu (λ_=>Ab (Ab (h1 x e1))) λ_=>Ab ⟨rfl,x+1,some x,rfl,hrest',hlt,.inr ⟨x,rfl,Bi x,e1⟩⟩))
   ·exact absurd (U6 hn hj e1) (by ext)
  ·refine Aa (Bn (Eu (λz=>absurd z (by simp)) λ_=>Ab ⟨rfl,x+1,hit,rfl,hrest',hlt,?_⟩))
   rcases hx with⟨z0,hno'⟩|⟨j,z1,hji,hj⟩
   ·refine .inl ⟨z0,λj hj q=>?_⟩
    rcases Bx j x with z|z
    ·exact hno' j z q
    ·have:j=x:=by ext
     rw[this,e1] at q
     exact c (A0 (AH q))
   ·exact .inr ⟨j,z1,by ext,hj⟩
 ·rintro b s' ⟨rfl,i,hit,rfl,hr,hi,hH⟩
  rcases hH with⟨rfl,hno'⟩|⟨j,rfl,_,hj⟩
  ·refine Ab (h0 (hno λj q=>?_))
   rcases Bx j i with z|z
   ·exact hno' j z q
   ·have hj:j<es.size:=by rw[hsz];exact(Ae.mp q).1
    exact List.filter_eq_nil_iff.mp hr.symm j (List.mem_range'_1.mpr ⟨z,by ext⟩) (hp j q)
  ·exact Ab (h1 j hj)
end
def Di (k:D):List D->List D->Option D
 |k'::ks,d::ds=>if k'=k then some d else Di k ks ds
 |_,_=>none
def Gv (k v:D):List D->List D->List D
 |k'::ks,d::ds=>(if k'=k then v else d)::Gv k v ks ds
 |_,ds=>ds
def DC (k v:D)(ks ds:List D):List D×List D:=if k∈ks then (ks,Gv k v ks ds) else (ks++[k],ds++[v])
theorem Ht {k:D}:∀{ks ds:List D},k∉ks->Di k ks ds=none
 |[],_,_=>rfl
 |_::_,[],_=>rfl
 |k'::ks,d::ds,h=>by
  rw[Ap,not_or] at h
  rw[Di,if_neg (λe=>h.1 e.symm),Ht h.2]
theorem Jv {k:D}:∀{ks ds:List D}{j:Nat},ks.Nodup->ks[j]?=some k->Di k ks ds=ds[j]?
 |[],_,_,_,e=>by simp at e
 |_::_,[],_,_,_=>by simp[Di]
 |k'::ks,d::ds,0,n,e=>by simp at e;subst e;simp[Di]
 |k'::ks,d::ds,j+1,n,e=>by
  rw[Br] at n
  simp at e
  have:k'≠k:=λz=>n.1 (by rw[z];exact Ag e)
  rw[Di,if_neg this,Jv n.2 e]
  rfl
theorem Nc {k v:D}:∀{ks ds:List D},k∉ks->Gv k v ks ds=ds
 |[],_,_=>rfl
 |_::_,[],_=>rfl
 |k'::ks,d::ds,h=>by
  rw[Ap,not_or] at h
  rw[Gv,if_neg (λe=>h.1 e.symm),Nc h.2]
theorem Jy {k v:D}:∀{ks ds:List D}{j:Nat},ks.Nodup->ks[j]?=some k->Gv k v ks ds=ds.set j v
 |[],_,_,_,e=>by simp at e
 |_::_,[],_,_,_=>by simp[Gv]
 |k'::ks,d::ds,0,n,e=>by
  simp at e
  subst e
  rw[Br] at n
  rw[Gv,if_pos rfl,Nc n.1]
  rfl
 |k'::ks,d::ds,j+1,n,e=>by
  rw[Br] at n
  simp at e
  have:k'≠k:=λz=>n.1 (by rw[z];exact Ag e)
  rw[Gv,if_neg this,Jy n.2 e]
  rfl
def DcAt (K:Zc)(th:List Addr)(H:Hp)(a:Addr)(ks ds:List D):Prop:=∃xs,H a=some (Et a xs)/\xs.map (·.1)=DM K.w ks/\RepL K th H ks (xs.map (·.2.1))/\RepL K th H ds (xs.map (·.2.2))/\KeysOk ks
def DF (mu:Sto):D->Option (List D×List D)
 |.dct ks ds=>some (ks,ds)
 |.ref k=>match mu[k]? with
  |some (.dct ks ds)=>some (ks,ds)
  |_=>none
 |_=>none
section
variable {X:Cx}{K:Zc}{th:List Addr}{mu:Sto}{H:Hp}{pj:Zab}{st:L2.St}{s:Shared}{A:Around}{E:Value->Zaa}
def Eb (so:StoOk K th mu H){d:D}{p:List D×List D}{v:V}(h:DF mu d=some p)(r:Rep K th H d v):∃a,v=.ref a/\DcAt K th H a p.1 p.2:=by
 unfold DF at h
 split at h
 ·cases h;unfold Rep at r;obtain⟨a,xs,rfl,_,h1⟩:=r;exact⟨a,rfl,xs,h1⟩
 ·split at h
  ·rename_i k _ ks ds e
   cases h
   unfold Rep at r
   obtain⟨a,rfl,ha⟩:=r
   exact⟨a,rfl,so.at' k a _ ha e⟩
  ·cases h
 ·cases h
structure DcO (X:Cx) (th:List Addr) (H:Hp) (s:Shared) (a:Addr) (ks ds:List D) (xs:List (Int×V×V)) (o:Obj) (es:Array DictEntry) (ep:Nat):Prop where
 ns:(a==sysModules)=false
 at':s.heap.get? a=some o
 ex:o.ExactDict
 dt:o.data=.dict es ep
 pr:Paired (λ(x:Int×V×V) (e:DictEntry)=>e.hash=x.1/\RelV x.2.1 e.key/\RelV x.2.2 e.val) xs es.toList
 en:Paired (EnK X.w s.heap) ks es.toList
 xl:xs.length=ks.length
 dl:ds.length=ks.length
theorem Ii {α β:Type}{F:α->β->Prop}:∀{xs:List α}{ys:List β},xs.length=ys.length->(∀(j:Nat) x y,xs[j]?=some x->ys[j]?=some y->F x y)->Paired F xs ys
 |[],[],_,_=>.nil
 |[],_::_,h,_=>by simp at h
 |_::_,[],h,_=>by simp at h
 |x::xs,y::ys,h,f=>.cons (f 0 x y rfl rfl) (Ii (by simpa using h) λj a b e1 e2=>f (j+1) a b (by simpa using e1) (by simpa using e2))
def Hs (I:L2.Inv X pj st H s){a:Addr}{ks ds:List D}(h:DcAt X.z th H a ks ds):∃xs o es ep,H a=some (Et a xs)/\DcO X th H s a ks ds xs o es ep:=by
 obtain⟨xs,h1,h2,h3,h4,h5⟩:=h
 obtain⟨⟨z,o,es,ep,g1,g2,g3,g4,ge⟩,_⟩:=(show ObjOk X.prog X.w H s.heap a (Et a xs) from I.hok a _ h1)
 have xl:xs.length=ks.length:=by have:=h3.len;simpa using this
 refine⟨xs,o,es,ep,h1,z,g1,g2,g3,g4,?_,xl,by have:=h4.len;rw[Af] at this;ext⟩
 refine Ii (by rw[<- Dc g4,xl]) λj k e e1 e2=>?_
 obtain⟨x,q1,q2,q3,q4⟩:=(Dq g4 j).2 e e2
 have hh:(xs.map (·.1))[j]?=(DM X.w ks)[j]?:=by rw[h2]
 rw[DV,Am,Am,q1,e1] at hh
 obtain⟨v,v1,v2⟩:=h3.get e1
 rw[Am,q1] at v1
 have v1':x.2.1=v:=by simpa using v1
 refine⟨by rw[q2];simpa using hh,G4 I (h5.ok k (Ag e1)) v2 (by rw[<- v1'];exact q3)⟩
def Wj (I:L2.Inv X pj st H s){a:Addr}{ks ds:List D}(h:DcAt X.z th H a ks ds){k:D}{u:Value}(hk:Hd s.heap k u)(hu:A.units+8<cLine){Q:Option Value->Zaa}
  (q0:Di k ks ds=none->∀tk,Q none {s with toks:=tk}) (q1:∀d v r,Di k ks ds=some d->Rep X.z th H d v->RelV v r->∀tk,Q (some r) {s with toks:=tk}):wpAny (model X.prog X.w) A (dictGet a u) Q E s:=by
 obtain⟨xs,o,es,ep,h1,g⟩:=Hs I h
 obtain⟨xs',h1',h2,h3,h4,h5⟩:=id h
 unfold dictGet
 refine AL (Aa (hk.hash hu λtk=>Aa (Kf (s:={s with toks:=tk}) hu hk g.at' g.dt g.en h5.nd (λz=>Ab (q0 (Ht z) tk)) λj ej=>?_)))
 refine Aa (BG (s:={s with toks:=tk}) g.at' g.dt ?_)
 obtain⟨e,e1,e2⟩:=(Dq g.en j).1 k ej
 rw[Aq] at e1
 rw[e1]
 obtain⟨⟨z',o',es',ep',g1,g2,g3,g4,ge⟩,_⟩:=(show ObjOk X.prog X.w H s.heap a (Et a xs') from I.hok a _ h1')
 have g1':=g.at'
 rw[g1] at g1'
 cases g1'
 have g3':=g.dt
 rw[g3] at g3'
 cases g3'
 obtain⟨x,x1,x2,x3,x4⟩:=(Dq g4 j).2 e (by rw[Aq];exact e1)
 have vj:(xs'.map (·.2.2))[j]?=some x.2.2:=by rw[Am,x1];rfl
 obtain⟨d,d1,d2⟩:=h4.getV vj
 exact Ab (q1 d _ _ (by rw[Jv h5.nd ej];exact d1) d2 x4 tk)
theorem G7 {α β:Type}{F:α->β->Prop}:∀{xs:List α}{ys:List β} (j:Nat){x:α}{y:β},Paired F xs ys->F x y->Paired F (xs.set j x) (ys.set j y)
 |_,_,_,_,_,.nil,_=>.nil
 |_,_,0,_,_,.cons _ t,f=>.cons f t
 |_,_,j+1,_,_,.cons r t,f=>.cons r (G7 j t f)
theorem Gi {α β:Type}{F:α->β->Prop}:∀{xs xs':List α}{ys ys':List β},Paired F xs ys->Paired F xs' ys'->Paired F (xs++xs') (ys++ys')
 |_,_,_,_,.nil,t=>t
 |_,_,_,_,.cons r t,t'=>.cons r (Gi t t')
def WB (I:L2.Inv X pj st H s){a:Addr}{ks ds:List D}(h:DcAt X.z th H a ks ds)(ext:∀xs,Ext th H th (upd H a (Et a xs)))(so:StoOk X.z th mu H){k v:D}{kv vv:V}{u r:Value}(hk:DN k=true)(rk:Rep X.z th H k kv)(ru:RelV kv u)(rv:Rep X.z th H v vv)(rr:RelV vv r)(lt:ks.length<sizeLine)(hu:A.units+8<cLine)
  {Q:Unit->Zaa} (q:∀s' xs',L2.Inv X pj st (upd H a (Et a xs')) s'->DcAt X.z th (upd H a (Et a xs')) a (DC k v ks ds).1 (DC k v ks ds).2->Q () s'):wpAny (model X.prog X.w) A (dictSet a u r) Q E s:=by
 have hd:=G4 I hk rk ru
 obtain⟨xs',h1',h2,h3,h4,h5⟩:=id h
 obtain⟨⟨z',o,es,ep,g1,g2,g3,g4,ge⟩,_⟩:=(show ObjOk X.prog X.w H s.heap a (Et a xs') from I.hok a _ h1')
 obtain⟨xs,o',es',ep',h1,g⟩:=Hs I h
 have g1':=g.at'
 rw[g1] at g1'
 cases g1'
 have g3':=g.dt
 rw[g3] at g3'
 cases g3'
 have mu1:Mut (H a):=by rw[h1'];exact True.intro
 unfold dictSet
 refine AL (Aa (hd.hash hu λtk=>?_))
 unfold dictSetHashed
 refine AL (Aa (Kf (s:={s with toks:=tk}) hu hd g1 g3 g.en h5.nd (λz=>?_) λj ej=>?_))
 ·have hz0:es.size<=sizeLine:=by rw[<- Array.length_toList,<- Dc g.en];ext
  refine Aa (Bn (wpAny_updateDictKeys (s:={s with toks:=tk}) g1 g3 (hz:=hz0) ?_))
  have e1:(DC k v ks ds).1=ks++[k]:=by unfold DC;rw[if_neg z]
  have e2:(DC k v ks ds).2=ds++[v]:=by unfold DC;rw[if_neg z]
  have so1:=AF (Obj.mapDictKeys (·.push ⟨CS X.w k,u,r⟩)) g1 (Cu (Obj.data_mapDictKeys g3 _))
  refine q _ (xs'++[(CS X.w k,kv,vv)]) (I.write (x:=a) (e:=a) (t':=tk) mu1 (.inl rfl) (λb ob hb e=>((Au ..).2 b hb).trans e) ⟨_,so1⟩ (Ka ⟨z',_,_,ep+1,so1,g2.mapDictKeys _,Obj.data_mapDictKeys g3 _,?_,by rw[Array.size_push,ge]⟩)) ?_
  ·rw[Array.toList_push]
   exact Gi g4 (.cons ⟨rfl,ru,rr⟩ .nil)
  ·rw[e1,e2]
   have ex:=ext (xs'++[(CS X.w k,kv,vv)])
   refine⟨_,DT,?_,?_,?_,?_⟩
   ·rw[A4,h2,DV,DV,A4];rfl
   ·rw[A4];exact(h3.ext ex so.out).app (.cons (rk.ext ex so.out) .nil)
   ·rw[A4];exact(h4.ext ex so.out).app (.cons (rv.ext ex so.out) .nil)
   ·refine⟨by rw[Ar];exact lt,?_,λk' hk'=>?_⟩
    ·refine BQ.mpr ⟨h5.nd,by simp,λx hx y hy=>?_⟩
     rw[Av.mp hy]
     exactλe=>z (e▸hx)
    ·rcases AQ.mp hk' with w'|w'
     ·exact h5.ok k' w'
     ·rw[Av.mp w'];exact hk
 ·have mem:k∈ks:=Ag ej
  have e1:(DC k v ks ds).1=ks:=by unfold DC;rw[if_pos mem]
  have e2:(DC k v ks ds).2=ds.set j v:=by unfold DC;rw[if_pos mem];exact Jy h5.nd ej
  have hj:j<xs'.length:=by
   have:=(Ae.mp ej).1
   have l2:=h3.len
   rw[Af] at l2
   ext
  have hje:j<es.size:=by rw[<- Array.length_toList,<- Dc g4];exact hj
  obtain⟨y,y1,y2,y3,y4⟩:=(Dq g4 j).1 xs'[j] (Al hj)
  rw[Aq] at y1
  have ye:es[j]=y:=by rw[An hje] at y1;exact AH y1
  refine Aa (Bn (Aa (wpAny_updateDict (s:={s with toks:=tk}) g1 g3 (wpAny_point ?_))))
  have so1:=AF (Obj.mapDict (·.modify j λe=>{e with val:=r})) g1 (Cu (Obj.data_mapDict g3 _))
  refine q _ (xs'.set j (xs'[j].1,xs'[j].2.1,vv)) (I.write (x:=a) (e:=a) (t':=tk) mu1 (.inl rfl) (λb ob hb e=>((Au ..).2 b hb).trans e) ⟨_,so1⟩ (Ka ⟨z',_,_,ep,so1,g2.mapDict _,Obj.data_mapDict g3 _,?_,by rw[Array.size_modify,ge]⟩)) ?_
  ·have em:(es.modify j λe=>{e with val:=r}).toList=es.toList.set j {y with val:=r}:=by
    have yl:es.toList[j]?=some y:=by rw[Aq];exact y1
    rw[Array.toList_modify]
    refine A8 λi=>?_
    rw[List.getElem?_modify]
    by_cases c:j=i
    ·subst c
     rw[yl,Bm (by simpa using hje)]
     simp
    ·rw[AD c]
     simp[c]
   rw[em]
   exact G7 j g4 ⟨y2,y3,rr⟩
  ·rw[e1,e2]
   have ex:=ext (xs'.set j (xs'[j].1,xs'[j].2.1,vv))
   refine⟨_,DT,?_,?_,?_,h5⟩
   ·rw[<- h2,List.map_set]
    refine A8 λi=>?_
    by_cases c:i=j
    ·subst c;simp[hj]
    ·rw[AD (Ne.symm c)]
   ·have:(xs'.set j (xs'[j].1,xs'[j].2.1,vv)).map (·.2.1)=xs'.map (·.2.1):=by
     rw[List.map_set]
     refine A8 λi=>?_
     by_cases c:i=j
     ·subst c;simp[hj]
     ·rw[AD (Ne.symm c)]
    rw[this]
    exact h3.ext ex so.out
   ·rw[List.map_set]
    exact(h4.ext ex so.out).setAt j (rv.ext ex so.out)
def L5 (I:L2.Inv X pj st H s){a:Addr}{ks ds:List D}(h:DcAt X.z th H a ks ds){k d:D}{u:Value}(hk:Hd s.heap k u)(e:Di k ks ds=some d):∃v r,Rep X.z th H d v/\RelV v r /\
  ∀{A:Around}{E:Value->Zaa}{Q:Option Value->Zaa},A.units+8<cLine->(∀tk,Q (some r) {s with toks:=tk})->wpAny (model X.prog X.w) A (dictGet a u) Q E s:=by
 obtain⟨xs',h1',h2,h3,h4,h5⟩:=id h
 obtain⟨xs,o,es,ep,h1,g⟩:=Hs I h
 obtain⟨⟨z',o',es',ep',g1,g2,g3,g4,ge⟩,_⟩:=(show ObjOk X.prog X.w H s.heap a (Et a xs') from I.hok a _ h1')
 have g1':=g.at'
 rw[g1] at g1'
 cases g1'
 have g3':=g.dt
 rw[g3] at g3'
 cases g3'
 have mem:k∈ks:=by
  refine BV λz=>?_
  rw[Ht z] at e
  cases e
 obtain⟨j,ej⟩:=Aw.mp mem
 rw[Jv h5.nd ej] at e
 obtain⟨v,v1,v2⟩:=h4.get e
 obtain⟨en,e1,e2⟩:=(Dq g.en j).1 k ej
 obtain⟨x,x1,x2,x3,x4⟩:=(Dq g4 j).2 en e1
 rw[Am,x1] at v1
 have v1':x.2.2=v:=by simpa using v1
 rw[Aq] at e1
 refine⟨v,en.val,v2,v1'▸x4,λhu q=>?_⟩
 unfold dictGet
 refine AL (Aa (hk.hash hu λtk=>Aa (Kf (s:={s with toks:=tk}) hu hk g1 g3 g.en h5.nd (λz=>absurd mem z) λj' ej'=>?_)))
 cases U6 h5.nd ej ej'
 refine Aa (BG (s:={s with toks:=tk}) g1 g3 ?_)
 rw[e1]
 exact Ab (q tk)
def LL (I:L2.Inv X pj st H s){a:Addr}{ks ds:List D}(h:DcAt X.z th H a ks ds){k:D}{u:Value}(hk:Hd s.heap k u)(e:Di k ks ds=none){Q:Option Value->Zaa}(hu:A.units+8<cLine)(q:∀tk,Q none {s with toks:=tk}):wpAny (model X.prog X.w) A (dictGet a u) Q E s:=
 Wj I h hk hu (λ_=>q) λd v r e'=>by rw[e] at e';cases e'
def OR (I:L2.Inv X pj st H s){a:Addr}{ks ds:List D}(h:DcAt X.z th H a ks ds):s.TypeIs (.ref a) "dict"/\(a==sysModules)=false/\∃o,s.heap.get? a=some o/\o.dict=none:=by
 obtain⟨xs,o,es,ep,h1,g⟩:=Hs I h
 exact⟨⟨o,g.at',g.ex.1⟩,g.ns,o,g.at',g.ex.2.1⟩
def GZ {k:D}{ks ds:List D}(n:ks.Nodup)(l:ds.length=ks.length):(Di k ks ds).isSome=decide (k∈ks):=by
 by_cases c:k∈ks
 ·obtain⟨j,ej⟩:=Aw.mp c
  rw[Jv n ej,A0 c]
  have:=(Ae.mp ej).1
  rw[Al (by ext)]
  rfl
 ·rw[Ht c,A7 c];rfl
def VP {a:Addr}{ks ds:List D}(h:DcAt K th H a ks ds):ds.length=ks.length/\KeysOk ks:=by
 obtain⟨xs,_,_,h3,h4,h5⟩:=h
 have a:=h3.len
 have b:=h4.len
 rw[Af] at a b
 exact⟨by ext,h5⟩
def ixC (d e:D)(mu:Sto):Rs D:=match DF mu d with
 |some p=>if DN e=true then (Di e p.1 p.2).map λv=>(v,mu) else none
 |none=>none
def T7 {d e:D}{r:D×Sto}(h:ixC d e mu=some r):∃p,DF mu d=some p/\DN e=true/\∃v,Di e p.1 p.2=some v/\r=(v,mu):=by
 unfold ixC at h
 split at h
 ·rename_i p e1
  split at h
  ·rename_i c
   cases q:Di e p.1 p.2 with
   |none=>rw[q] at h;cases h
   |some v=>rw[q] at h;cases h;exact⟨p,e1,c,v,q,rfl⟩
  ·cases h
 ·cases h
def Aaz (hu:X.A.units+64<cLine):IxR X (r2 X.z ixC):=by
 intro value slice pj s st H x y v u Q I rx ry h hs
 obtain⟨th,mu,d,e,so,r1,r2,t⟩:=h
 obtain⟨a0,mu0,e0,_⟩:=id t
 obtain⟨p,e1,hk,w',e2,er⟩:=T7 e0
 rw[e0] at t
 cases er
 obtain⟨a,rfl,dc⟩:=Eb so e1 r1
 cases rx
 obtain⟨v',r',q1,q2,q3⟩:=L5 I dc (G4 I hk r2 ry) e2
 obtain⟨ty,_⟩:=OR I dc
 refine subscriptTail_builtinR (x:=r') ty slot_dict_getitem.lookup ?_ hs
 unfold getItem
 refine AL (Aa (wpAny_sequenceKey ty (by decide) (Aa (AV (name:=Str.ofString "__getitem__") ty slot_dict_getitem (AM slot_dict_getitem ty entry_dict_getitem ?_ (args_dict_getitem _ _))))))
 refine(?_:wpAny _ _ (dictGet a u>>=_) _ _ s)
 exact Aa (q3 (by rw[Around.in1_units];ext) λtk=>Ab ⟨r',rfl,Ab ⟨rfl,v',H,I.tok _,q2,t.ret so _ q1⟩⟩)
theorem IxR.or {g g':D->D->Sto->Rs D}(h:IxR X (r2 X.z g))(h':IxR X (r2 X.z g')):IxR X (r2 X.z λd e mu=>match g d e mu with|some r=>some r|none=>g' d e mu):=by
 intro value slice pj s st H x y v u Q I rx ry q hs
 obtain⟨th,mu,d,e,so,r1,r2,t⟩:=q
 dsimp only at t
 cases c:g d e mu with
 |some r=>rw[c] at t;exact h value slice pj s st H x y v u Q I rx ry ⟨th,mu,d,e,so,r1,r2,by rw[c];exact t⟩ hs
 |none=>rw[c] at t;exact h' value slice pj s st H x y v u Q I rx ry ⟨th,mu,d,e,so,r1,r2,t⟩ hs
def ixG (d e:D)(mu:Sto):Rs D:=match ixD d e mu with
 |some r=>some r
 |none=>ixC d e mu
def E6 (hu:X.A.units+64<cLine):IxR X (r2 X.z ixG):=IxR.or Aax (Aaz hu)
def inC (neg:Bool)(d c:D)(mu:Sto):Rs D:=match DF mu c with
 |some p=>if DN d=true then some (.bl (decide (d∈p.1) != neg),mu) else none
 |none=>none
def Uh {neg:Bool}{d e:D}{r:D×Sto}(h:inC neg d e mu=some r):∃p,DF mu e=some p/\DN d=true/\r=(.bl (decide (d∈p.1) != neg),mu):=by
 unfold inC at h
 split at h
 ·rename_i p e1
  split at h
  ·rename_i c;cases h;exact⟨p,e1,c,rfl⟩
  ·cases h
 ·cases h
theorem Zj (hu:X.A.units+64<cLine)(I:L2.Inv X pj st H s){a:Addr}{ks ds:List D}(dc:DcAt X.z th H a ks ds){d:D}{u:Value}(hk:Hd s.heap d u){Q:Bool->Zaa}(q:∀tk,Q (decide (d∈ks)) {s with toks:=tk}):wpAny (model X.prog X.w) X.A (contains (.ref a) u) Q E s:=by
 obtain⟨ty,ns,_⟩:=OR I dc
 obtain⟨l,ko⟩:=VP dc
 have gm:=GZ (k:=d) ko.nd l
 unfold contains
 refine AL (Aa (Cq ty slot_dict_contains.lookup ?_))
 refine(?_:wpAny _ _ (if (some (Value.builtin "dict.__contains__")==some Value.none)=true then _ else _) _ E s)
 rw[if_neg (by rw[beq_builtin_none];exact AS)]
 refine Aa (wpAny_callSpecialUnlessNone?_slot (name:=Str.ofString "__contains__") ty slot_dict_contains (AM slot_dict_contains ty entry_dict_contains ?_ (args_dict_contains _ _)))
 refine(?_:wpAny _ _ (dictGet a u>>=_) _ _ s)
 refine Aa ?_
 have hu':X.A.in1.units+8<cLine:=by rw[Around.in1_units];ext
 cases c:Di d ks ds with
 |some v =>
  rw[c] at gm
  obtain⟨v',r',q1,q2,q3⟩:=L5 I dc hk c
  refine q3 hu' λtk=>?_
  refine(?_:wpAny _ _ (ret (.bool true)) _ _ _)
  exact Ab ⟨_,rfl,wpAny_truthy_bool (by rw[<- gm] at q;exact q tk)⟩
 |none =>
  rw[c] at gm
  refine LL I dc hk c hu' λtk=>?_
  refine(?_:wpAny _ _ (Builtin.Dict.pendingKey? a u>>=_) _ _ _)
  exact Aa (wpAny_pendingKey_other ns (Ab ⟨_,rfl,wpAny_truthy_bool (by rw[<- gm] at q;exact q tk)⟩))
def Uq (hu:X.A.units+64<cLine):OpV X (compareOp .NotIn) (inC true):=by
 intro pj s st H x y v u Q I rx ry h
 obtain⟨th,mu,d,e,so,r1,r2,t⟩:=h
 obtain⟨a0,mu0,e0,_⟩:=id t
 obtain⟨p,e1,hk,er⟩:=Uh e0
 rw[e0] at t
 cases er
 obtain⟨a,rfl,dc⟩:=Eb so e1 r2
 cases ry
 refine(?_:wpAny _ _ (do return Value.bool (!(<- contains (.ref a) v))) _ _ s)
 exact Aa (Zj hu I dc (G4 I hk r1 rx) λtk=>Ab ⟨.bl _,H,I.tok _,rfl,by have:=t.ret so _ rfl;simpa using this⟩)
def putG (d e v:D)(mu:Sto):Rs Unit:=match d with
 |.ref k=>match mu[k]? with
  |some (.dct ks ds)=>if DN e=true/\ks.length<sizeLine then some ((),mu.set k (.dct (DC e v ks ds).1 (DC e v ks ds).2)) else none
  |_=>Uc d e v mu
 |_=>none
def XQ (K:Zc):RX:=λo i v H Q=>∃th mu d e w,StoOk K th mu H/\Rep K th H d o/\Rep K th H e i/\Rep K th H w v/\Tr K th H (putG d e w mu) λ_ _ _ H'=>Q H'
def Yb (hu:X.A.units+64<cLine):Ur X (XQ X.z):=by
 intro pj s st H o i v ov iv u Q I ro ri rv h
 obtain⟨th,mu,d,e,w,so,r1,r2,r3,t⟩:=h
 unfold putG at t
 split at t
 ·rename_i k
  split at t
  ·rename_i ks ds em
   split at t
   ·rename_i c
    unfold Rep at r1
    obtain⟨a,rfl,ha⟩:=r1
    have dc:DcAt X.z th H a ks ds:=so.at' k a _ ha em
    obtain⟨ty,ns,_⟩:=OR I dc
    cases ro
    unfold setItem
    refine AL (Aa (wpAny_sequenceKey ty (by decide) (Aa (AV (name:=Str.ofString "__setitem__") ty slot_dict_setitem (AM slot_dict_setitem ty entry_dict_setitem ?_ (args_dict_setitem _ _ _))))))
    refine(?_:wpAny _ _ (Builtin.Dict.notOrdered "__setitem__" ⟨[.ref a,iv,u],[]⟩>>=_) _ _ s)
    refine Aa (wpAny_notOrdered_dict ty (?_:wpAny _ _ (dictSet a iv u>>=_) _ _ s))
    refine Aa (WB I dc (λxs=>.mut (Ag ha) _) so c.1 r2 ri r3 rv c.2 (by rw[Around.in1_units];ext) λs' xs' I' dc'=>Ab ⟨.none,rfl,Ab ⟨_,I',?_⟩⟩)
    exact t.retX (.mut (Ag ha) _) (so.putG ha _ _ dc')
   ·exact t.no.elim
  ·exact Y1 pj s st H o i v ov iv u Q I ro ri rv ⟨th,mu,.ref k,e,w,so,r1,r2,r3,t⟩
 ·exact t.no.elim
def gIx (o i:Ex):Gx:=λv ro mu=>bM (o ro mu) λd m1=>bM (i ro m1) λe m2=>bM (putG d e v m2) λ_ m3=>some (ro,m3)
def KG (hu:X.A.units+64<cLine){o i:Expr}{mo mi:Ex}{pos:Pos}(ho:SV X o mo)(hi:SV X i mi)
  (ha:∀v,assign (.Subscript o i pos) X.env v=(do
   let ov<-holding [v] (eval o X.env)
   let iv<-holding [v,ov] (eval i X.env)
   standAt pos
   holding [v,ov,iv] (setItem ov iv v)
   release [v,ov,iv] []):=by intro _;rfl):SVG X (.Subscript o i pos) (gIx mo mi):=⟨PG.weak (Vx ho.r hi.r (Yb hu) ha) λv st H Q h=>by
 obtain⟨th,mu,ro,d,so,en,r,t⟩:=h
 refine⟨th,mu,ro,so,en,t.bind.mono λx th1 mu1 H1 e1 s1 t1 xv rx=>?_⟩
 refine⟨th1,mu1,ro,s1,en.ext e1 so.out,t1.bind.mono λy th2 mu2 H2 e2 s2 t2 yv ry=>?_⟩
 refine⟨th2,mu2,x,y,d,s2,rx.ext e2 s1.out,ry,(r.ext e1 so.out).ext e2 s1.out,t2.bind.mono λ_ th3 mu3 H3 e3 s3 t3=>?_⟩
 exact t3.ret s3 _ (((en.ext e1 so.out).ext e2 s1.out).ext e3 s2.out)⟩
end
section
variable {prog:Program}{w:World}{A:Around}{E:Value->Zaa}{s:Shared}
def wp_choose {M:Model}{src:Source}{n:Nat}{Q:Nat->Zaa}(hn:n≠0)(h:∀i d',i<n->Q i {s with drawn:=d'}):wpAny M A (choose src n) Q E s:=
 λ_ _ _=>⟨hn,h _ _ (Nat.mod_lt _ (Nat.pos_of_ne_zero hn))⟩
theorem HK {α:Type}:∀(xs:List α) (i:Nat) (hi:i<xs.length),(xs[i]::xs.eraseIdx i).Perm xs
 |[],i,hi=>by simp at hi
 |x::xs,0,_=>BX _
 |x::xs,i+1,hi=>by
  have hi':i<xs.length:=by simpa using hi
  exact(List.Perm.swap x xs[i] _).trans (List.Perm.cons x (HK xs i hi'))
theorem Kj {M:Model}{α:Type}:∀(n:Nat) (xs:List α){s:Shared}{Q:List α->Zaa},n=xs.length->(∀ys d',ys.Perm xs->Q ys {s with drawn:=d'})->wpAny M A (drawOrder n xs) Q E s
 |0,[],s,Q,_,h=>Ab (h [] s.drawn (BX _))
 |0,_::_,_,_,e,_=>by simp at e
 |n+1,[],_,_,e,_=>by simp at e
 |n+1,x::xs,s,Q,e,h=>by
  refine Aa (wp_choose (by simp) λi d' hi=>?_)
  rw[Al hi]
  refine Aa (Kj n ((x::xs).eraseIdx i) (by rw[List.length_eraseIdx_of_lt hi,<- e];rfl) λys d2 p=>Ab (h _ d2 ?_))
  exact(List.Perm.cons _ p).trans (HK _ _ hi)
theorem K9 {α:Type}(next:Nat->Nat):∀(f k:Nat) (left:List α) (out:Array α),f=left.length->(pickOrder.go next f k left out).toList.Perm (out.toList++left)
 |0,k,[],out,_=>by unfold pickOrder.go;simp
 |0,_,_::_,_,e=>by simp at e
 |f+1,k,[],out,e=>by simp at e
 |f+1,k,x::xs,out,e=>by
  unfold pickOrder.go
  have hi:next k % (x::xs).length<(x::xs).length:=Nat.mod_lt _ (by simp)
  rw[Al hi]
  refine(K9 next f (k+1) _ _ (by rw[List.length_eraseIdx_of_lt hi,<- e];rfl)).trans ?_
  rw[Array.toList_push,B4]
  exact List.Perm.append_left _ (HK _ _ hi)
def E5 {α:Type}(next:Nat->Nat)(xs:Array α):(pickOrder next xs).toList.Perm xs.toList:=by
 have:=K9 next xs.size 0 xs.toList #[] (by simp)
 simpa[pickOrder] using this
def CW (w:World):Bool:=w.params.followText "set-order"
def EE {Q:Bool->Zaa}(h:Q (CW w) s):wpAny (model prog w) A setsByText Q E s:=Aa (Cz (Ab h))
def Ed:Slot "set_iterator" "__next__" "set_iterator.__next__":=
 .of (owner:="set_iterator") (n:="__next__") (by rw[typeLookup_type,builtinLookup_eq_fast];kernel_rfl) (by symm) (by symm) (by symm) (by first|exact .inl (by symm)|exact .inr (by symm)) (by rw[B2];kernel_rfl)
def GV:entryFor table "set_iterator.__next__"=some Builtin.«set_iterator.__next__»:=entryFor_of_tree (by kernel_rfl)
def JQ:Manifest.owners.lookup (String.ofList ['r','o','t','a','r','e','t','i','_','t','e','s'].reverse)=some Manifest.sig_set_iterator:=by kernel_rfl
def G8 (a:Value):argsOk "set_iterator.__next__" ⟨[a],[]⟩:=by
 unfold argsOk;rw[signature?_of (id:="set_iterator.__next__") (n:=['_','_','t','x','e','n','_','_']) (o:=['r','o','t','a','r','e','t','i','_','t','e','s']) (by kernel_rfl) JQ];kernel_rfl
def G3:Slot "set_iterator" "__iter__" "set_iterator.__iter__":=
 .of (owner:="set_iterator") (n:="__iter__") (by rw[typeLookup_type,builtinLookup_eq_fast];kernel_rfl) (by symm) (by symm) (by symm) (by first|exact .inl (by symm)|exact .inr (by symm)) (by rw[B2];kernel_rfl)
inductive Md where
 |txt|drw (TI:Addr) (pl:List Nat)|one
def SetAt (h:Heap)(S:Addr)(es:Array (Int×Value))(ep:Nat)(t:SetTable):Prop:=∃o,h.get? S=some o/\o.data=.set es ep t
def Fst (w:World)(es:Array (Int×Value))(t:SetTable)(h:Heap)(i:Nat)(v:Value):Md->Prop
 |.txt=>CW w=true/\∃c:Nat,v=rawInt c
 |.drw TI pl=>v=.ref TI/\h.IsTuple TI (pl.map λp:Nat=>rawInt p).toArray/\pl.length=es.size/\(∀p∈pl,p<es.size)
 |.one=>CW w=false/\(t.plain=false\/es.size<=1)/\es.size<=1/\t.led=true/\v=rawInt ((if i=0 then 0 else t.place.getD 0 0+1:Nat):Int)
def KI (w:World)(S:Addr)(es:Array (Int×Value))(ep:Nat):Md->List Value
 |.txt=>(pickOrder (w.params.setOrder S ep) es).toList.map (·.2)
 |.drw _ pl=>pl.map λp=>(es.getD p (0,.none)).2
 |.one=>es.toList.map (·.2)
def SIt (w:World)(S I:Addr)(es:Array (Int×Value))(ep:Nat)(t:SetTable)(md:Md)(i:Nat)(h:Heap):Prop:=
 SetAt h S es ep t/\∃o v,h.get? I=some o/\o.cls=.type "set_iterator"/\o.data=.fields #[v,rawInt i,.ref S,rawInt es.size,rawInt ep]/\Fst w es t h i v md
def FW {M:Model}{I:Addr}{Q:PySem.Fin->Zaa}(hh:A.handled=none)(q:∀h' e,(∀c o,s.heap.get? c=some o->h'.get? c=some o)->(∃o,h'.get? e=some o/\o.cls=.type "StopIteration")->E (.ref e) {s with heap:=h'}) :
  wpAny M A (newExc (.type "StopIteration") []>>=λe=>(raiseNew e:Sem PySem.Fin)) Q E s:=by
 refine Aa ?_
 simp only[newExc,newTuple]
 refine Aa (AZ (Aa (m:=firstArgMember _ _) (wpAny_of_eq (a:=Value.none) (by first|rfl|(simp only[firstArgMember];rfl)) (AZ ?_ (by size_fits)))) (by size_fits))
 simp only[raiseNew]
 refine Aa (wpAny_handled ?_)
 rw[hh]
 exact Aa (Ab (wpAny_throw (q _ _ (λc o e=>Ad _ (Ad _ e)) ⟨_,Ak _ rfl,rfl⟩)))
def Kt {xs:Array Nat}(h:xs.size<=1):SetTable.below xs 0=0:=by
 unfold SetTable.below
 rcases Bx 0 xs.size with c|c
 ·have:xs.size=1:=by ext
  rw[this]
  simp[SetTable.below.go]
 ·have:xs.size=0:=by ext
  rw[this]
  simp[SetTable.below.go]
def Nn {xs:Array Nat}(h:xs.size=1):SetTable.below xs (xs.getD 0 0+1)=1:=by
 unfold SetTable.below
 have e0:xs[0]?=some xs[0]:=An (by ext)
 rw[h]
 simp[SetTable.below.go,e0]
def E9 {a:Addr}{o:Obj}{vs:Array Value}{i:Nat}{x:Value}{h:Heap}(ho:h.get? a=some o)(hd:o.data=.fields vs):∃o',(h.update a (Obj.mapFields (·.setIfInBounds i x))).get? a=some o'/\o'.cls=o.cls/\o'.data=.fields (vs.setIfInBounds i x):=
 ⟨_,AF _ ho (Obj.isFreed_of_fields (Obj.data_mapFields hd _)),Obj.cls_mapFields ..,Obj.data_mapFields hd _⟩
def SetAt.keep {h h':Heap}{S I:Addr}{es:Array (Int×Value)}{ep:Nat}{t:SetTable}(x:SetAt h S es ep t)(ne:S≠I)(sb:Heap.SameBut I h h'):SetAt h' S es ep t:=
 let ⟨o,a,b⟩:=x;⟨o,(sb.2 S ne).trans a,b⟩
def Md.apart (I:Addr):Md->Prop
 |.drw TI _=>TI≠I
 |_=>True
theorem PU {S I:Addr}{es:Array (Int×Value)}{ep:Nat}{t:SetTable}{md:Md}{i:Nat}{Q:Value->Zaa}(hf:t.fits es.size=true)(ne:S≠I)(ap:md.apart I)(g:SIt w S I es ep t md i s.heap)(hi:i<es.size)
  (q:∀v h',(KI w S es ep md)[i]?=some v->SIt w S I es ep t md (i+1) h'->Heap.SameBut I s.heap h'->Q v {s with heap:=h'}) :
  wpAny (model prog w) A (Builtin.«set_iterator.__next__» ⟨[.ref I],[]⟩) (λfin s'=>∃v,fin=.done (.ret v)/\Q v s') E s:=by
 obtain⟨⟨ob,g1,g2⟩,o,v,k1,k2,k3,k4⟩:=id g
 refine(?_:wpAny _ _ (fieldsOf (.ref I)>>=_) _ _ _)
 refine Aa (wpAny_fieldsOf k1 k3 (?_:wpAny _ _ (setEntries S>>=_) _ _ _))
 refine Aa (wpAny_setEntries_of g1 g2 hf ?_)
 rw[if_neg (by simp)]
 cases md with
 |drw TI pl =>
  obtain⟨rfl,⟨tb,b1,b2,n,b3⟩,c1,c2⟩:=k4
  refine(?_:wpAny _ _ (seqItems? (.ref TI)>>=_) _ _ _)
  refine Aa (A6 b1 b3 ?_)
  have hp:i<pl.length:=by ext
  have ei:(pl.map λp:Nat=>rawInt p).toArray[(i:Int).toNat]?=some (rawInt pl[i]):=by simp[hp]
  dsimp only
  rw[ei]
  have hpl:=c2 pl[i] (Cb hp)
  refine(?_:wpAny _ _ (setNextDrawn S ((pl[i]:Nat):Int).toNat ((ep:Nat):Int).toNat>>=_) _ _ _)
  refine Aa ?_
  unfold setNextDrawn
  refine Aa (A1 g1 g2 hf ?_)
  rw[Int.toNat_natCast,Int.toNat_natCast]
  dsimp only
  rw[if_neg (by simp),An hpl]
  refine Ab (Aa (By k1 k3 (by simp) (Ab ⟨_,rfl,q _ _ ?_ ?_ (Au ..)⟩)))
  ·unfold KI
   rw[Am,Al hp]
   simp[Array.getD,hpl]
  ·obtain⟨o',e1,e2,e3⟩:=E9 (i:=1) (x:=rawInt ((i:Int)+1)) k1 k3
   exact⟨SetAt.keep ⟨ob,g1,g2⟩ ne (Au ..),o',.ref TI,e1,e2.trans k2,e3,rfl,⟨tb,((Au ..).2 TI ap).trans b1,b2,n,b3⟩,c1,c2⟩
 |txt =>
  obtain⟨bt,c,rfl⟩:=k4
  refine(?_:wpAny _ _ (setNext S ((c:Nat):Int).toNat ((i:Nat):Int).toNat ((ep:Nat):Int).toNat>>=_) _ _ _)
  refine Aa ?_
  unfold setNext
  refine Aa (A1 g1 g2 hf (Aa (EE ?_)))
  rw[if_pos bt]
  rw[Int.toNat_natCast,Int.toNat_natCast,Int.toNat_natCast]
  dsimp only
  rw[if_neg (by simp)]
  refine Aa ?_
  unfold setWalk
  refine Aa (A1 g1 g2 hf (Aa (EE ?_)))
  rw[if_pos bt]
  refine Aa (Cz (Ab ?_))
  have hl:i<(pickOrder (w.params.setOrder S ep) es).size:=by
   have:=(E5 (w.params.setOrder S ep) es).length_eq
   simp at this
   ext
  have ex:(pickOrder ((⟨prog,w.params⟩:Setting).params.setOrder S ep) es)[i]?=some (pickOrder (w.params.setOrder S ep) es)[i]:=An hl
  refine Ab ?_
  have ex':Option.map (λe:Int×Value=>(e.2,c)) (pickOrder ((⟨prog,w.params⟩:Setting).params.setOrder S ep) es)[i]?=some ((pickOrder (w.params.setOrder S ep) es)[i].2,c):=by rw[ex];rfl
  refine(?_:wpAny _ _ (match Option.map (λe:Int×Value=>(e.2,c)) (pickOrder ((⟨prog,w.params⟩:Setting).params.setOrder S ep) es)[i]? with|some (x,next)=>_|none=>_) _ _ _)
  rw[ex']
  obtain⟨o',e1,e2,e3⟩:=E9 (i:=0) (x:=rawInt (c:Int)) k1 k3
  refine Aa (By k1 k3 (by simp) ?_)
  obtain⟨o2,f1,f2,f3⟩:=E9 (i:=1) (x:=rawInt ((i:Int)+1)) e1 e3
  refine Aa (By e1 e3 (by simp) (Ab ⟨_,rfl,q _ _ ?_ ?_ ((Au ..).trans (Au ..))⟩))
  ·unfold KI
   rw[Am,Aq,An hl]
   rfl
  ·exact⟨(SetAt.keep ⟨ob,g1,g2⟩ ne (Au ..)).keep ne (Au ..),o2,rawInt c,f1,(f2.trans e2).trans k2,f3,bt,c,rfl⟩
 |one =>
  obtain⟨bt,pl,sz,led,rfl⟩:=k4
  have i0:i=0:=by ext
  subst i0
  have s1:es.size=1:=by ext
  have ps:t.place.size=1:=by
   simp only[SetTable.fits,Ac,beq_iff_eq,Aj] at hf
   ext
  refine(?_:wpAny _ _ (setNext S ((0:Nat):Int).toNat ((0:Nat):Int).toNat ((ep:Nat):Int).toNat>>=_) _ _ _)
  refine Aa ?_
  unfold setNext
  refine Aa (A1 g1 g2 hf (Aa (EE ?_)))
  rw[if_neg (by rw[bt];exact AS)]
  refine Eu (λz=>?_) λ_=>?_
  ·exfalso
   have z':(!t.plain&&decide (es.size > 1))=true:=z
   rw[s1] at z'
   simp at z'
  refine Aa (Eu (λz=>?_) λ_=>?_)
  ·exfalso
   have z':(!t.led&&!es.isEmpty)=true:=z
   rw[led] at z'
   simp at z'
  refine Ab ?_
  have b0:=Kt (xs:=t.place) (by ext)
  have ee:es[0]?=some es[0]:=An (by ext)
  have pe:t.place[0]?=some t.place[0]:=An (by ext)
  have hm:(match es[SetTable.below t.place ((0:Nat):Int).toNat]?,t.place[SetTable.below t.place ((0:Nat):Int).toNat]? with|some (_,x),some j=>some (x,j+1)|_,_=>none)=some (es[0].2,t.place[0]+1):=by
   rw[show((0:Nat):Int).toNat=0 from rfl,b0,ee,pe]
  refine(?_:wpAny _ _ (pure (match es[SetTable.below t.place ((0:Nat):Int).toNat]?,t.place[SetTable.below t.place ((0:Nat):Int).toNat]? with|some (_,x),some j=>some (x,j+1)|_,_=>none)) _ _ _)
  rw[hm]
  refine Ab ?_
  obtain⟨o',e1,e2,e3⟩:=E9 (i:=0) (x:=rawInt ((t.place[0]+1:Nat):Int)) k1 k3
  refine Aa (By k1 k3 (by simp) ?_)
  obtain⟨o2,f1,f2,f3⟩:=E9 (i:=1) (x:=rawInt (((0:Nat):Int)+1)) e1 e3
  refine Aa (By e1 e3 (by simp) (Ab ⟨_,rfl,q _ _ ?_ ?_ ((Au ..).trans (Au ..))⟩))
  ·unfold KI
   rw[Am,Aq,ee]
   rfl
  ·refine⟨(SetAt.keep ⟨ob,g1,g2⟩ ne (Au ..)).keep ne (Au ..),o2,rawInt ((t.place[0]+1:Nat):Int),f1,(f2.trans e2).trans k2,f3,bt,pl,sz,led,?_⟩
   have:t.place.getD 0 0=t.place[0]:=by simp[Array.getD,ps]
   rw[this]
   rfl
end
def rk:D->Nat
 |.int _=>0|.str _=>1|.tup _=>2|_=>3
def G1 (i j:Nat):Ordering:=if i<j then .lt else if j<i then .gt else .eq
def Jm (i j:Int):Ordering:=if i<j then .lt else if j<i then .gt else .eq
def GW (x y:Str):Ordering:=if x.cps.toList<y.cps.toList then .lt else if y.cps.toList<x.cps.toList then .gt else .eq
def oTh:Ordering->Ordering->Ordering
 |.eq,t=>t
 |.lt,_=>.lt
 |.gt,_=>.gt
mutual
def Ds:D->D->Ordering
 |.int i,.int j=>Jm i j
 |.str x,.str y=>GW x y
 |.tup xs,.tup ys=>FY xs ys
 |a,b=>G1 (rk a) (rk b)
def FY:List D->List D->Ordering
 |[],[]=>.eq
 |[],_::_=>.lt
 |_::_,[]=>.gt
 |x::xs,y::ys=>oTh (Ds x y) (FY xs ys)
end
def ltT (a b:D):Bool:=Ds a b==.lt
structure T3 (a b c:Ordering):Prop where
 e1:a=.eq->b=c
 e2:b=.eq->a=c
 e3:a=b->c=a
def DB (i j:Nat):G1 j i=(G1 i j).swap:=by
 unfold G1
 rcases B3 i j with h|h|h
 ·rw[if_pos h,if_neg (by ext),if_pos h];rfl
 ·subst h;simp
 ·rw[if_pos h,if_neg (by ext),if_pos h];rfl
def P8 (i j:Int):Jm j i=(Jm i j).swap:=by
 unfold Jm
 rcases Int.lt_trichotomy i j with h|h|h
 ·rw[if_pos h,if_neg (by ext),if_pos h];rfl
 ·subst h;simp
 ·rw[if_pos h,if_neg (by ext),if_pos h];rfl
def WA {x y:Str}:(x.cps.toList<y.cps.toList)->¬ (y.cps.toList<x.cps.toList):=λa b=>List.lt_asymm a b
def IM (i j:Str):GW j i=(GW i j).swap:=by
 unfold GW
 by_cases h:i.cps.toList<j.cps.toList
 ·rw[if_pos h,if_neg (WA h),if_pos h];rfl
 ·rw[if_neg h]
  by_cases h2:j.cps.toList<i.cps.toList
  ·rw[if_pos h2,if_neg h,if_pos h2];rfl
  ·rw[if_neg h2,if_neg h,if_neg h2];rfl
def U8 {α:Type}(f:α->α->Ordering)(lt:α->α->Prop)(h1:∀x y,lt x y->f x y=.lt/\f y x=.gt)(h0:∀x,f x x=.eq)(tr:∀x y z,lt x y->lt y z->lt x z)(tri:∀x y,lt x y\/x=y\/lt y x)(a b c:α):T3 (f a b) (f b c) (f a c):=by
 rcases tri a b with h|rfl|h
 ·rcases tri b c with g|rfl|g
  ·rw[(h1 _ _ h).1,(h1 _ _ g).1,(h1 _ _ (tr _ _ _ h g)).1];exact⟨λz=>(nomatch z),λ_=>rfl,λ_=>rfl⟩
  ·rw[(h1 _ _ h).1,h0];exact⟨λz=>(nomatch z),λ_=>rfl,λ_=>rfl⟩
  ·rw[(h1 _ _ h).1,(h1 _ _ g).2];exact⟨λz=>(nomatch z),λz=>(nomatch z),λz=>(nomatch z)⟩
 ·rw[h0];exact⟨λ_=>rfl,λz=>z.symm,λz=>z.symm⟩
 ·rcases tri b c with g|rfl|g
  ·rw[(h1 _ _ h).2,(h1 _ _ g).1];exact⟨λz=>(nomatch z),λz=>(nomatch z),λz=>(nomatch z)⟩
  ·rw[(h1 _ _ h).2,h0];exact⟨λz=>(nomatch z),λ_=>rfl,λ_=>rfl⟩
  ·rw[(h1 _ _ h).2,(h1 _ _ g).2,(h1 _ _ (tr _ _ _ g h)).2];exact⟨λz=>(nomatch z),λ_=>rfl,λ_=>rfl⟩
def Wv:∀i j k:Nat,T3 (G1 i j) (G1 j k) (G1 i k):=
 U8 G1 (·<·) (λx y h=>⟨if_pos h,by rw[G1,if_neg (Nat.lt_asymm h),if_pos h]⟩) (λx=>by rw[G1,if_neg (Bz x),if_neg (Bz x)]) (λ_ _ _=>Nat.lt_trans) B3
def Xr:∀i j k:Int,T3 (Jm i j) (Jm j k) (Jm i k):=
 U8 Jm (·<·) (λx y h=>⟨if_pos h,by rw[Jm,if_neg (Int.lt_asymm h),if_pos h]⟩) (λx=>by rw[Jm,if_neg (Int.lt_irrefl x),if_neg (Int.lt_irrefl x)]) (λ_ _ _=>Int.lt_trans) Int.lt_trichotomy
def Hk {i j:Str}:GW i j=.eq↔i=j:=by
 unfold GW
 constructor
 ·intro h
  by_cases h1:i.cps.toList<j.cps.toList
  ·rw[if_pos h1] at h;cases h
  ·rw[if_neg h1] at h
   by_cases h2:j.cps.toList<i.cps.toList
   ·rw[if_pos h2] at h;cases h
   ·exact Us (List.le_antisymm (Std.not_lt.mp h2) (Std.not_lt.mp h1))
 ·rintro rfl
  rw[if_neg (List.lt_irrefl _),if_neg (List.lt_irrefl _)]
def FI {i j:Str}:GW i j=.lt↔i.cps.toList<j.cps.toList:=by
 unfold GW
 by_cases h1:i.cps.toList<j.cps.toList
 ·simp[h1]
 ·rw[if_neg h1]
  by_cases h2:j.cps.toList<i.cps.toList
  ·simp[h2,h1]
  ·simp[h2,h1]
def Jr {i j:Str}:GW i j=.gt↔j.cps.toList<i.cps.toList:=by
 rw[<- FI,IM i j]
 cases GW i j<;>simp
def Xp (i j k:Str):T3 (GW i j) (GW j k) (GW i k):=by
 refine⟨λh=>?_,λh=>?_,λh=>?_⟩
 ·rw[Hk.mp h]
 ·rw[Hk.mp h]
 ·cases c:GW i j with
  |eq=>rw[Hk.mp c];rw[c] at h;exact h.symm
  |lt=>rw[c] at h;exact FI.mpr (List.lt_trans (FI.mp c) (FI.mp h.symm))
  |gt=>rw[c] at h;exact Jr.mpr (List.lt_trans (Jr.mp h.symm) (Jr.mp c))
mutual
theorem cmp_swap:∀(a b:D),Ds b a=(Ds a b).swap
 |.tup xs,.tup ys=>by unfold Ds;exact K3 xs ys
 |.int i,b=>by cases b<;>first|(unfold Ds;exact P8 _ _)|(simp only[Ds];exact DB _ _)
 |.str i,b=>by cases b<;>first|(unfold Ds;exact IM _ _)|(simp only[Ds];exact DB _ _)
 |.tup xs,.int _=>by simp only[Ds];exact DB _ _
 |.tup xs,.str _=>by simp only[Ds];exact DB _ _
 |.tup xs,.non=>by simp only[Ds];exact DB _ _
 |.tup xs,.bl _=>by simp only[Ds];exact DB _ _
 |.tup xs,.lst _=>by simp only[Ds];exact DB _ _
 |.tup xs,.dct _ _=>by simp only[Ds];exact DB _ _
 |.tup xs,.set _=>by simp only[Ds];exact DB _ _
 |.tup xs,.ref _=>by simp only[Ds];exact DB _ _
 |.non,b=>by cases b<;>(simp only[Ds];exact DB _ _)
 |.bl _,b=>by cases b<;>(simp only[Ds];exact DB _ _)
 |.lst _,b=>by cases b<;>(simp only[Ds];exact DB _ _)
 |.dct _ _,b=>by cases b<;>(simp only[Ds];exact DB _ _)
 |.set _,b=>by cases b<;>(simp only[Ds];exact DB _ _)
 |.ref _,b=>by cases b<;>(simp only[Ds];exact DB _ _)
theorem K3:∀(xs ys:List D),FY ys xs=(FY xs ys).swap
 |[],[]=>rfl
 |[],_::_=>rfl
 |_::_,[]=>rfl
 |x::xs,y::ys=>by
  unfold FY
  rw[cmp_swap x y]
  cases Ds x y with
  |eq=>exact K3 xs ys
  |lt=>rfl
  |gt=>rfl
end
def NO {a b:D}(h:rk a≠rk b):Ds a b=G1 (rk a) (rk b):=by
 cases a<;>cases b<;>first|(simp only[Ds];done)|(exact absurd rfl h)
def W4 {a b:D}(h:Ds a b=.eq):rk a=rk b:=by
 refine BV λz=>?_
 rw[NO z] at h
 unfold G1 at h
 repeat' split at h
 all_goals first|(cases h;done)|ext
theorem T3.then' {h1 h2 h3 t1 t2 t3:Ordering}(h:T3 h1 h2 h3)(t:T3 t1 t2 t3):T3 (oTh h1 t1) (oTh h2 t2) (oTh h3 t3):=by
 obtain⟨a,b,c⟩:=h
 cases h1 with
 |eq =>
  cases a rfl
  cases h2 with
  |eq=>exact t
  |lt=>exact(show T3 t1 .lt .lt from⟨λ_=>rfl,λz=>(nomatch z),λz=>z.symm⟩)
  |gt=>exact(show T3 t1 .gt .gt from⟨λ_=>rfl,λz=>(nomatch z),λz=>z.symm⟩)
 |lt =>
  cases h2 with
  |eq=>cases b rfl;exact(show T3 .lt t2 .lt from⟨λz=>(nomatch z),λ_=>rfl,λ_=>rfl⟩)
  |lt=>cases c rfl;exact(show T3 .lt .lt .lt from⟨λz=>(nomatch z),λ_=>rfl,λ_=>rfl⟩)
  |gt=>exact(show T3 .lt .gt _ from⟨λz=>(nomatch z),λz=>(nomatch z),λz=>(nomatch z)⟩)
 |gt =>
  cases h2 with
  |eq=>cases b rfl;exact(show T3 .gt t2 .gt from⟨λz=>(nomatch z),λ_=>rfl,λ_=>rfl⟩)
  |gt=>cases c rfl;exact(show T3 .gt .gt .gt from⟨λz=>(nomatch z),λ_=>rfl,λ_=>rfl⟩)
  |lt=>exact(show T3 .gt .lt _ from⟨λz=>(nomatch z),λz=>(nomatch z),λz=>(nomatch z)⟩)
def T3.of_rk {a b c:D}(h:¬ (rk a=rk b/\rk b=rk c)):T3 (Ds a b) (Ds b c) (Ds a c):=by
 have n3:=Wv (rk a) (rk b) (rk c)
 have sg:∀x y:D,rk x≠rk y->Ds x y≠.eq:=λx y z e=>z (W4 e)
 have lt:∀x y:D,rk x<rk y->Ds x y=.lt:=λx y z=>by rw[NO (by ext)];unfold G1;rw[if_pos z]
 have gt:∀x y:D,rk y<rk x->Ds x y=.gt:=λx y z=>by rw[NO (by ext)];unfold G1;rw[if_neg (by ext),if_pos z]
 rcases B3 (rk a) (rk b) with h1|h1|h1<;>rcases B3 (rk b) (rk c) with h2|h2|h2
 ·rw[lt a b h1,lt b c h2,lt a c (by ext)];exact⟨λz=>(nomatch z),λ_=>rfl,λ_=>rfl⟩
 ·rw[lt a b h1,lt a c (by ext)];exact⟨λz=>(nomatch z),λ_=>rfl,λ_=>rfl⟩
 ·rw[lt a b h1,gt b c h2];exact⟨λz=>(nomatch z),λz=>(nomatch z),λz=>(nomatch z)⟩
 ·rw[lt b c h2,lt a c (by ext)];exact⟨λ_=>rfl,λz=>(nomatch z),λz=>z.symm⟩
 ·exact absurd ⟨h1,h2⟩ h
 ·rw[gt b c h2,gt a c (by ext)];exact⟨λ_=>rfl,λz=>(nomatch z),λz=>z.symm⟩
 ·rw[gt a b h1,lt b c h2];exact⟨λz=>(nomatch z),λz=>(nomatch z),λz=>(nomatch z)⟩
 ·rw[gt a b h1,gt a c (by ext)];exact⟨λz=>(nomatch z),λ_=>rfl,λ_=>rfl⟩
 ·rw[gt a b h1,gt b c h2,gt a c (by ext)];exact⟨λz=>(nomatch z),λ_=>rfl,λ_=>rfl⟩
def Qd {b:D}(h:0=rk b):∃j,b=.int j:=by cases b<;>first|exact⟨_,rfl⟩|cases h
def QN {b:D}(h:1=rk b):∃j,b=.str j:=by cases b<;>first|exact⟨_,rfl⟩|cases h
def Ss {b:D}(h:2=rk b):∃j,b=.tup j:=by cases b<;>first|exact⟨_,rfl⟩|cases h
def Vf {a b:D}(ha:3=rk a)(hb:3=rk b):Ds a b=.eq:=by
 cases a<;>first|(cases ha;done)|(cases b<;>first|(cases hb;done)|rfl)
def T3.of_o {a b c:D}(h:3=rk a):T3 (Ds a b) (Ds b c) (Ds a c):=by
 by_cases e:rk a=rk b/\rk b=rk c
 ·have h2:=h.trans e.1
  rw[Vf h h2,Vf h2 (h2.trans e.2),Vf h (h2.trans e.2)]
  exact⟨λ_=>rfl,λ_=>rfl,λ_=>rfl⟩
 ·exact .of_rk e
mutual
theorem U5:∀(a b c:D),T3 (Ds a b) (Ds b c) (Ds a c)
 |.tup xs,b,c=>by
  by_cases e:rk (.tup xs)=rk b/\rk b=rk c
  ·obtain⟨ys,rfl⟩:=Ss e.1
   obtain⟨zs,rfl⟩:=Ss e.2
   unfold Ds
   exact RU xs ys zs
  ·exact .of_rk e
 |.int i,b,c=>by
  by_cases e:rk (.int i)=rk b/\rk b=rk c
  ·obtain⟨j,rfl⟩:=Qd e.1
   obtain⟨k,rfl⟩:=Qd e.2
   unfold Ds
   exact Xr _ _ _
  ·exact .of_rk e
 |.str i,b,c=>by
  by_cases e:rk (.str i)=rk b/\rk b=rk c
  ·obtain⟨j,rfl⟩:=QN e.1
   obtain⟨k,rfl⟩:=QN e.2
   unfold Ds
   exact Xp _ _ _
  ·exact .of_rk e
 |.non,_,_=>.of_o rfl
 |.bl _,_,_=>.of_o rfl
 |.lst _,_,_=>.of_o rfl
 |.dct _ _,_,_=>.of_o rfl
 |.set _,_,_=>.of_o rfl
 |.ref _,_,_=>.of_o rfl
theorem RU:∀(xs ys zs:List D),T3 (FY xs ys) (FY ys zs) (FY xs zs)
 |[],[],[]=>⟨λ_=>rfl,λ_=>rfl,λ_=>rfl⟩
 |[],[],_::_=>⟨λ_=>rfl,λz=>(nomatch z),λz=>(nomatch z)⟩
 |[],_::_,[]=>⟨λz=>(nomatch z),λz=>(nomatch z),λz=>(nomatch z)⟩
 |[],y::ys,z::zs=>⟨λz=>(nomatch z),λ_=>rfl,λ_=>rfl⟩
 |x::xs,[],[]=>⟨λz=>(nomatch z),λ_=>rfl,λz=>(nomatch z)⟩
 |x::xs,[],_::_=>⟨λz=>(nomatch z),λz=>(nomatch z),λz=>(nomatch z)⟩
 |x::xs,y::ys,[]=>⟨λ_=>rfl,λz=>(nomatch z),λz=>z.symm⟩
 |x::xs,y::ys,z::zs=>by
  unfold FY
  exact(U5 x y z).then' (RU xs ys zs)
end
def GN (a b:D)(h:ltT a b=true):ltT b a=false:=by
 unfold ltT at *
 rw[cmp_swap a b]
 cases c:Ds a b<;>rw[c] at h<;>first|rfl|cases h
theorem N7 (a b c:D)(h1:ltT b a=false)(h2:ltT c b=false):ltT c a=false:=by
 unfold ltT at *
 have t:=U5 c b a
 cases q:Ds c b with
 |eq=>rw[<- t.e1 q];exact h1
 |lt=>rw[q] at h2;cases h2
 |gt =>
  cases q2:Ds b a with
  |eq=>rw[<- t.e2 q2,q];rfl
  |lt=>rw[q2] at h1;cases h1
  |gt=>rw[t.e3 (q.trans q2.symm),q];rfl
mutual
def FA:D->Bool
 |.int _=>true
 |.str _=>true
 |.tup ds=>FV ds
 |_=>false
def FV:List D->Bool
 |[]=>true
 |d::ds=>FA d&&FV ds
end
mutual
theorem L6:∀{d:D},FA d=true->hsh d=true
 |.int _,_=>rfl
 |.str _,_=>rfl
 |.tup ds,h=>by unfold FA at h;unfold hsh;exact Mf h
 |.non,h=>nomatch h
 |.bl _,h=>nomatch h
 |.lst _,h=>nomatch h
 |.dct _ _,h=>nomatch h
 |.set _,h=>nomatch h
 |.ref _,h=>nomatch h
theorem Mf:∀{ds:List D},FV ds=true->F0 ds=true
 |[],_=>rfl
 |d::ds,h=>by
  unfold FV at h
  rw[Ac] at h
  unfold F0
  rw[L6 h.1,Mf h.2]
  rfl
end
mutual
theorem NI:∀(a b:D),FA a=true->FA b=true->Ds a b=.eq->a=b
 |.int i,b,_,hb,h=>by
  cases b<;>first|(cases hb;done)|(simp[Ds,G1,rk] at h;done)|skip
  rename_i j
  unfold Ds Jm at h
  repeat' split at h
  all_goals first|(cases h;done)|(congr 1;ext)
 |.str i,b,_,hb,h=>by
  cases b<;>first|(cases hb;done)|(simp[Ds,G1,rk] at h;done)|skip
  unfold Ds at h
  rw[Hk.mp h]
 |.tup xs,b,ha,hb,h=>by
  cases b<;>first|(cases hb;done)|(simp[Ds,G1,rk] at h;done)|skip
  unfold Ds at h
  unfold FA at ha hb
  congr 1
  exact OH xs _ ha hb h
 |.non,_,h,_,_=>nomatch h
 |.bl _,_,h,_,_=>nomatch h
 |.lst _,_,h,_,_=>nomatch h
 |.dct _ _,_,h,_,_=>nomatch h
 |.set _,_,h,_,_=>nomatch h
 |.ref _,_,h,_,_=>nomatch h
theorem OH:∀(xs ys:List D),FV xs=true->FV ys=true->FY xs ys=.eq->xs=ys
 |[],[],_,_,_=>rfl
 |[],_::_,_,_,h=>by cases h
 |_::_,[],_,_,h=>by cases h
 |x::xs,y::ys,ha,hb,h=>by
  unfold FV at ha hb
  rw[Ac] at ha hb
  unfold FY at h
  cases c:Ds x y<;>rw[c] at h<;>first|(cases h;done)|skip
  rw[NI x y ha.1 hb.1 c,OH xs ys ha.2 hb.2 h]
end
theorem lt_eq (a b:D)(ha:FA a=true)(hb:FA b=true)(h1:ltT a b=false)(h2:ltT b a=false):a=b:=by
 refine NI a b ha hb ?_
 unfold ltT at h1 h2
 rw[cmp_swap a b] at h2
 cases c:Ds a b with
 |eq=>rfl
 |lt=>rw[c] at h1;cases h1
 |gt=>rw[c] at h2;cases h2
def RS (a:D):Ds a a=.eq:=by
 have:=cmp_swap a a
 cases c:Ds a a<;>rw[c] at this<;>first|rfl|cases this
mutual
theorem U3:∀(a b:D) (r:Bool),FA a=true->FA b=true->ltB a b=some r->r=(Ds a b==.lt)
 |.int i,b,r,_,hb,h=>by
  cases b<;>first|(cases hb;done)|(unfold ltB at h;cases h;done)|skip
  rename_i j
  unfold ltB at h
  cases h
  unfold Ds Jm
  by_cases c:i<j
  ·simp[c]
  ·rw[A7 c,if_neg c];split<;>rfl
 |.str i,b,r,_,hb,h=>by
  cases b<;>first|(cases hb;done)|(unfold ltB at h;cases h;done)|skip
  rename_i j
  unfold ltB at h
  cases h
  unfold Ds
  by_cases c:i.cps.toList<j.cps.toList
  ·rw[A0 c,FI.mpr c];rfl
  ·rw[A7 c]
   have:GW i j≠.lt:=λz=>c (FI.mp z)
   cases e:GW i j<;>first|rfl|exact absurd e this
 |.tup xs,b,r,ha,hb,h=>by
  cases b<;>first|(cases hb;done)|(unfold ltB at h;cases h;done)|skip
  unfold ltB at h
  unfold Ds
  unfold FA at ha hb
  exact Q9 xs _ r ha hb h
 |.non,_,_,h,_,_=>nomatch h
 |.bl _,_,_,h,_,_=>nomatch h
 |.lst _,_,_,h,_,_=>nomatch h
 |.dct _ _,_,_,h,_,_=>nomatch h
 |.set _,_,_,h,_,_=>nomatch h
 |.ref _,_,_,h,_,_=>nomatch h
theorem Q9:∀(xs ys:List D) (r:Bool),FV xs=true->FV ys=true->Gf xs ys=some r->r=(FY xs ys==.lt)
 |[],[],r,_,_,h=>by unfold Gf at h;cases h;rfl
 |[],_::_,r,_,_,h=>by unfold Gf at h;cases h;rfl
 |_::_,[],r,_,_,h=>by unfold Gf at h;cases h;rfl
 |x::xs,y::ys,r,ha,hb,h=>by
  unfold FV at ha hb
  rw[Ac] at ha hb
  unfold Gf at h
  split at h
  ·rw[Hj (L6 ha.1) (L6 hb.1)] at h
   unfold FY
   by_cases c:x=y
   ·rw[A0 c] at h
    subst c
    rw[RS]
    exact Q9 xs ys r ha.2 hb.2 (by simpa using h)
   ·rw[A7 c] at h
    have e:=U3 x y r ha.1 hb.1 (by simpa using h)
    rw[e]
    cases q:Ds x y with
    |eq=>exact absurd (NI x y ha.1 hb.1 q) c
    |lt=>rfl
    |gt=>rfl
  ·cases h
end
def leT (a b:D):Bool:=!ltT b a
def Dv (es:List D):List D:=es.mergeSort leT
def Pu (a b c:D)(h1:leT a b=true)(h2:leT b c=true):leT a c=true:=by
 unfold leT at *
 simp at h1 h2 ⊢
 exact N7 a b c h1 h2
theorem Pz (a b:D):(leT a b||leT b a)=true:=by
 unfold leT
 cases c:ltT b a with
 |false=>rfl
 |true=>simp[GN b a c]
def Df (es:List D):(Dv es).Perm es:=List.mergeSort_perm es leT
def Jw (es:List D):(Dv es).Pairwise λa b=>leT a b=true:=List.pairwise_mergeSort Pu Pz es
def HZ {es rs:List D}(ho:∀d∈es,FA d=true)(hp:rs.Perm es)(hs:rs.Pairwise λa b=>leT a b=true):rs=Dv es:=by
 have hp2:=hp.trans (Df es).symm
 refine List.Perm.eq_of_pairwise (λa b ha hb h1 h2=>?_) hs (Jw es) hp2
 unfold leT at h1 h2
 simp at h1 h2
 exact lt_eq a b (ho a (hp.mem_iff.mp ha)) (ho b ((Df es).mem_iff.mp hb)) h2 h1
def Lw {es fs:List D}(ho:∀d∈es,FA d=true)(hp:fs.Perm es):Dv fs=Dv es:=HZ ho ((Df fs).trans hp) (Jw fs)
section
variable {prog:Program}{w:World}{A:Around}{E:Value->Zaa}{s:Shared}
theorem Pq {S I:Addr}{es:Array (Int×Value)}{ep:Nat}{t:SetTable}{md:Md}{Q:PySem.Fin->Zaa}(hh:A.handled=none)(hf:t.fits es.size=true)(g:SIt w S I es ep t md es.size s.heap)
  (q:∀h' e,(∀c o,c≠I->s.heap.get? c=some o->h'.get? c=some o)->(∃o,h'.get? e=some o/\o.cls=.type "StopIteration")->E (.ref e) {s with heap:=h'}) :
  wpAny (model prog w) A (Builtin.«set_iterator.__next__» ⟨[.ref I],[]⟩) Q E s:=by
 obtain⟨⟨ob,g1,g2⟩,o,v,k1,k2,k3,k4⟩:=id g
 have upd:∀(h:Heap) f c o',c≠I->h.get? c=some o'->(h.update I f).get? c=some o':=λh f c o' hc e=>((Au ..).2 c hc).trans e
 refine(?_:wpAny _ _ (fieldsOf (.ref I)>>=_) _ _ _)
 refine Aa (wpAny_fieldsOf k1 k3 (?_:wpAny _ _ (setEntries S>>=_) _ _ _))
 refine Aa (wpAny_setEntries_of g1 g2 hf ?_)
 rw[if_neg (by simp)]
 cases md with
 |drw TI pl =>
  obtain⟨rfl,⟨tb,b1,b2,n,b3⟩,c1,c2⟩:=k4
  refine(?_:wpAny _ _ (seqItems? (.ref TI)>>=_) _ _ _)
  refine Aa (A6 b1 b3 ?_)
  have ei:(pl.map λp:Nat=>rawInt p).toArray[((es.size:Nat):Int).toNat]?=none:=by simp[c1]
  dsimp only
  rw[ei]
  obtain⟨o',e1,e2,e3⟩:=E9 (i:=0) (x:=rawInt 0) k1 k3
  refine Aa (By k1 k3 (by simp) (Aa (By e1 e3 (by simp) ?_)))
  exact FW (I:=I) hh λh' e a b=>q h' e (λc o hc z=>a c o (upd _ _ c o hc (upd _ _ c o hc z))) b
 |txt =>
  obtain⟨bt,c,rfl⟩:=k4
  refine(?_:wpAny _ _ (setNext S ((c:Nat):Int).toNat ((es.size:Nat):Int).toNat ((ep:Nat):Int).toNat>>=_) _ _ _)
  refine Aa ?_
  unfold setNext
  refine Aa (A1 g1 g2 hf (Aa (EE ?_)))
  rw[if_pos bt]
  rw[Int.toNat_natCast,Int.toNat_natCast,Int.toNat_natCast]
  dsimp only
  rw[if_neg (by simp)]
  refine Aa ?_
  unfold setWalk
  refine Aa (A1 g1 g2 hf (Aa (EE ?_)))
  rw[if_pos bt]
  refine Aa (Cz (Ab (Ab ?_)))
  have hl:(pickOrder (w.params.setOrder S ep) es).size=es.size:=by
   have:=(E5 (w.params.setOrder S ep) es).length_eq
   simpa using this
  have ex':Option.map (λe:Int×Value=>(e.2,c)) (pickOrder ((⟨prog,w.params⟩:Setting).params.setOrder S ep) es)[es.size]?=none:=by
   rw[Bg (by rw[show(⟨prog,w.params⟩:Setting).params.setOrder S ep=w.params.setOrder S ep from rfl,hl];exact Ai _)];rfl
  refine(?_:wpAny _ _ (match Option.map (λe:Int×Value=>(e.2,c)) (pickOrder ((⟨prog,w.params⟩:Setting).params.setOrder S ep) es)[es.size]? with|some (x,next)=>_|none=>_) _ _ _)
  rw[ex']
  refine Aa (By k1 k3 (by simp) ?_)
  exact FW (I:=I) hh λh' e a b=>q h' e (λc o hc z=>a c o (upd _ _ c o hc z)) b
 |one =>
  obtain⟨bt,pl,sz,led,rfl⟩:=k4
  refine(?_:wpAny _ _ (setNext S ((if es.size=0 then 0 else (t.place.getD 0 0+1):Nat):Int).toNat ((es.size:Nat):Int).toNat ((ep:Nat):Int).toNat>>=_) _ _ _)
  refine Aa ?_
  unfold setNext
  refine Aa (A1 g1 g2 hf (Aa (EE ?_)))
  rw[if_neg (by rw[bt];exact AS)]
  refine Eu (λz=>?_) λ_=>?_
  ·exfalso
   have z':(!t.plain&&decide (es.size > 1))=true:=z
   simp at z'
   ext
  refine Aa (Eu (λz=>?_) λ_=>?_)
  ·exfalso
   have z':(!t.led&&!es.isEmpty)=true:=z
   rw[led] at z'
   simp at z'
  refine Ab ?_
  have ps:t.place.size=es.size:=by
   simp only[SetTable.fits,Ac,beq_iff_eq,Aj] at hf
   exact hf.1
  have bl:SetTable.below t.place (if es.size=0 then 0 else (t.place.getD 0 0+1))=es.size:=by
   by_cases c:es.size=0
   ·rw[if_pos c,Kt (by ext),c]
   ·rw[if_neg c,Nn (by ext)];ext
  have en:es[es.size]?=none:=Bg (Ai _)
  have hm:(match es[SetTable.below t.place ((if es.size=0 then 0 else (t.place.getD 0 0+1):Nat):Int).toNat]?,t.place[SetTable.below t.place ((if es.size=0 then 0 else (t.place.getD 0 0+1):Nat):Int).toNat]? with|some (_,x),some j=>some (x,j+1)|_,_=>none)=none:=by
   rw[Int.toNat_natCast,bl,en]
  refine(?_:wpAny _ _ (pure (match es[SetTable.below t.place ((if es.size=0 then 0 else (t.place.getD 0 0+1):Nat):Int).toNat]?,t.place[SetTable.below t.place ((if es.size=0 then 0 else (t.place.getD 0 0+1):Nat):Int).toNat]? with|some (_,x),some j=>some (x,j+1)|_,_=>none)) _ _ _)
  rw[hm]
  refine Ab (Aa (By k1 k3 (by simp) ?_))
  exact FW (I:=I) hh λh' e a b=>q h' e (λc o hc z=>a c o (upd _ _ c o hc z)) b
def SIt.ty {S I:Addr}{es:Array (Int×Value)}{ep:Nat}{t:SetTable}{md:Md}{i:Nat}(g:SIt w S I es ep t md i s.heap):s.TypeIs (.ref I) "set_iterator":=let ⟨_,o,v,k1,k2,_⟩:=g;⟨o,k1,k2⟩
def Md.fp (S I:Addr):Md->List Addr
 |.drw TI _=>[I,S,TI]
 |_=>[I,S]
def Jl:entryFor table "set_iterator.__iter__"=some Builtin.«dict_keyiterator.__iter__»:=
 entryFor_alias (id':="dict_keyiterator.__iter__") (by kernel_rfl) rfl (by symm) (by kernel_rfl)
def J0 (a:Value):argsOk "set_iterator.__iter__" ⟨[a],[]⟩:=by
 unfold argsOk;rw[signature?_of (id:="set_iterator.__iter__") (n:=['_','_','r','e','t','i','_','_']) (o:=['r','o','t','a','r','e','t','i','_','t','e','s']) (by kernel_rfl) JQ];kernel_rfl
def K8 (hh:A.handled=none){S I:Addr}{es:Array (Int×Value)}{ep:Nat}{t:SetTable}{md:Md}(hf:t.fits es.size=true)(ne:S≠I)(ap:md.apart I) :
  Walks prog w A I (md.fp S I) [I] es.size (λi v=>(KI w S es ep md)[i]?=some v) (λi h=>SIt w S I es ep t md i h) where
 sub:=λb hb=>by rw[Av.mp hb];cases md<;>simp[Md.fp]
 frame:=λ_ h h' st hk=>by
  obtain⟨⟨ob,g1,g2⟩,o,v,k1,k2,k3,k4⟩:=st
  refine⟨⟨ob,hk S (by cases md<;>simp[Md.fp]) _ g1,g2⟩,o,v,hk I (by cases md<;>simp[Md.fp]) _ k1,k2,k3,?_⟩
  cases md with
  |drw TI pl=>obtain⟨a,⟨tb,b1,b2⟩,c⟩:=k4;exact⟨a,⟨tb,hk TI (by simp[Md.fp]) _ b1,b2⟩,c⟩
  |txt=>exact k4
  |one=>exact k4
 item:=λ_ s Q E hi st hQ=>by
  unfold pyNext
  exact Aa (Cf (AV (name:=Str.ofString "__next__") st.ty Ed (AM Ed st.ty GV (PU hf ne ap st hi λv h' e g' sb=>Ab (hQ v h' s.toks e g' λb o hb z=>(sb.2 b (by simpa using hb)).trans z)) (G8 _))))
 done:=λs Q E st hQ=>by
  unfold pyNext
  refine Aa (Cf (AV (name:=Str.ofString "__next__") st.ty Ed (AM Ed st.ty GV (Pq hh hf st λh' e a b=>?_) (G8 _))))
  obtain⟨o,ho,hc⟩:=b
  exact Aa (BN (T:="StopIteration") (b:=true) ⟨o,ho,hc⟩ isSubtype_stop (Ab (hQ h' s.toks λb o hb z=>a b o (by simpa using hb) z)))
 self:=λi s Q E st hQ=>by
  refine B6 st.ty G3 (AM G3 st.ty Jl ?_ (J0 _))
  refine(?_:wpAny _ _ (ret (.ref I)) _ _ s)
  exact Ab ⟨_,rfl,"set_iterator",_,st.ty,Ed.lookup,hQ⟩
def JO:entryFor table "set.__iter__"=some Builtin.«frozenset.__iter__»:=
 entryFor_alias (id':="frozenset.__iter__") (by kernel_rfl) (by symm) (by symm) (by kernel_rfl)
def NA {S:Addr}{ob:Obj}{es:Array (Int×Value)}{ep:Nat}{t:SetTable}{Q:Value->Zaa}(hz:es.size<=sizeLine)(g1:s.heap.get? S=some ob)(gc:ob.cls=.type "set")(g2:ob.data=.set es ep t)(hf:t.fits es.size=true)(hw:CW w=true\/t.led=true/\(t.plain=false\/es.size<=1))
  (q:∀I h' d' md,s.heap.objs.size<=I->SIt w S I es ep t md 0 h'->md.apart I->(∀b o,s.heap.get? b=some o->h'.get? b=some o)->(KI w S es ep md).Perm (es.toList.map (·.2))->(∀b∈md.fp S I,b<h'.objs.size)->Q (.ref I) {s with heap:=h',drawn:=d'}):wpAny (model prog w) A (pyIter (.ref S)) Q E s:=by
 have ty:s.TypeIs (.ref S) "set":=⟨ob,g1,gc⟩
 refine B6 ty F.slot_set_iter (AM F.slot_set_iter ty JO ?_ (F.args_set_iter_1 _))
 refine(?_:wpAny _ _ (Builtin.Frozenset.sizeOf S>>=_) _ _ s)
 refine Aa (Aa (wpAny_setEntries_of g1 g2 hf (Ab ?_)))
 have lt:S<s.heap.objs.size:=Ao g1
 have fin:∀(h1:Heap) d1 (md:Md) (v:Value),(∀b o,s.heap.get? b=some o->h1.get? b=some o)->s.heap.objs.size<=h1.objs.size->Fst w es t h1 0 v md->(∀TI pl,md=.drw TI pl->TI<h1.objs.size)->(KI w S es ep md).Perm (es.toList.map (·.2)) ->
   wpAny (model prog w) A.in1 (setEpoch S>>=λe=>newFields "set_iterator" [v,rawInt 0,.ref S,rawInt es.size,rawInt e]>>=λr=>ret r) (λfin s'=>∃v,fin=.done (.ret v)/\∃T' r,s'.TypeIs v T'/\typeLookup (.type T') "__next__"=pure (some r)/\Q v s') E {s with heap:=h1,drawn:=d1}:=λh1 d1 md v hk hsz hF hTI hp=>by
  refine Aa (wpAny_setEpoch_of (s:={s with heap:=h1,drawn:=d1}) (hk _ _ g1) g2 hf (Aa ?_))
  unfold newFields
  refine AZ (Ab ⟨_,rfl,"set_iterator",_,⟨_,Ak _ rfl,rfl⟩,Ed.lookup,?_⟩) (by size_fits)
  refine q h1.objs.size _ d1 md hsz ⟨⟨ob,Ad _ (hk _ _ g1),g2⟩,_,v,Ak _ rfl,rfl,rfl,?_⟩ ?_ (λb o e=>Ad _ (hk b o e)) hp ?_
  ·cases md with
   |drw TI pl=>obtain⟨a,⟨tb,b1,b2⟩,c⟩:=hF;exact⟨a,⟨tb,Ad _ b1,b2⟩,c⟩
   |txt=>exact hF
   |one=>exact hF
  ·cases md with
   |drw TI pl=>exact Ax (hTI TI pl rfl)
   |txt=>exact True.intro
   |one=>exact True.intro
  ·intro b hb
   rw[Ba]
   have lS:=Bs (AN lt hsz)
   cases md with
   |drw TI pl =>
    have:=hTI TI pl rfl
    simp only[Md.fp,Ap,AR,BM] at hb
    rcases hb with rfl|rfl|rfl
    ·exact Bi _
    ·exact lS
    ·exact Bs this
   |txt =>
    simp only[Md.fp,Ap,AR,BM] at hb
    rcases hb with rfl|rfl
    ·exact Bi _
    ·exact lS
   |one =>
    simp only[Md.fp,Ap,AR,BM] at hb
    rcases hb with rfl|rfl
    ·exact Bi _
    ·exact lS
 refine(?_:wpAny _ _ (setDrawn S>>=_) _ _ s)
 refine Aa ?_
 unfold setDrawn
 refine Aa (A1 g1 g2 hf (Aa (EE (Ab ?_))))
 refine Eu (λc=>?_) λc=>?_
 ·have c':(!CW w&&(!t.plain&&decide (es.size > 1)))=true:=c
  refine Aa (Kj es.size (List.range es.size) (by simp) λys d' p=>?_)
  unfold newTuple
  refine Aa (AZ ?_ (by
   show((ys.map λi:Nat=>rawInt i).toArray).size<=sizeLine
   rw[Az,Af,p.length_eq,BF];exact hz))
  have sz:(s.heap.push {cls:=.type "tuple",data:=.seq (ys.map λi:Nat=>rawInt i).toArray}).objs.size=s.heap.objs.size+1:=Ba ..
  refine fin _ d' (.drw s.heap.objs.size ys) _ (λb o e=>Ad _ e) (by rw[sz];ext) ⟨rfl,⟨_,Ak _ rfl,rfl,_,rfl⟩,by rw[p.length_eq,BF],λx hx=>Bc.mp (p.mem_iff.mp hx)⟩ (λTI pl e=>by cases e;rw[sz];exact Bi _) ?_
  unfold KI
  have e1:(List.range es.size).map (λp=>(es.getD p (0,.none)).2)=es.toList.map (·.2):=by
   refine A8 λi=>?_
   rw[Am,Am,Aq]
   by_cases hi:i<es.size
   ·simp[hi,Array.getD]
   ·simp[hi]
  rw[<- e1]
  exact p.map _
 ·have c':¬ (!CW w&&(!t.plain&&decide (es.size > 1)))=true:=c
  by_cases bt:CW w=true
  ·refine fin s.heap s.drawn .txt (rawInt 0) (λ_ _ e=>e) (Ai _) ⟨bt,0,rfl⟩ (λTI pl e=>nomatch e) ?_
   exact(E5 _ es).map _
  ·have bf:CW w=false:=by simpa using bt
   have hw':=hw.resolve_left bt
   have sz:es.size<=1:=by
    rw[bf] at c'
    rcases hw'.2 with z|z
    ·rw[z] at c';simp at c';ext
    ·exact z
   exact fin s.heap s.drawn .one (rawInt 0) (λ_ _ e=>e) (Ai _) ⟨bf,hw'.2,sz,hw'.1,rfl⟩ (λTI pl e=>nomatch e) (BX _)
def NB {S:Addr}{ob:Obj}{es:Array (Int×Value)}{ep:Nat}{t:SetTable}{Q:List Value->Zaa}(hh:A.handled=none)(hz:es.size<=sizeLine)(g1:s.heap.get? S=some ob)(gc:ob.cls=.type "set")(g2:ob.data=.set es ep t)(hf:t.fits es.size=true)(hw:CW w=true\/t.led=true/\(t.plain=false\/es.size<=1))
  (q:∀zs h' tk d',zs.Perm (es.toList.map (·.2))->(∀b o,s.heap.get? b=some o->h'.get? b=some o)->Q zs {s with heap:=h',toks:=tk,drawn:=d'}):wpAny (model prog w) A (collect (.ref S)) Q E s:=by
 have lt:S<s.heap.objs.size:=Ao g1
 have nS:s.heap.objs.size≠S:=BP lt
 unfold collect
 refine Aa (wpAny_runValue (Bu F.entry_proto_collect ?_))
 rw[Bp F.plain_proto_collect _]
 refine(?_:wpAny _ A.in1 (newList []>>=λl=>again (.builtin "list.__iadd__" ⟨[l,.ref S],[]⟩)) _ _ s)
 refine Aa (AZ (Ab ⟨B1 F.plain_list_iadd _,Bu F.entry_list_iadd ?_⟩))
 rw[Bp F.plain_list_iadd _]
 refine(?_:wpAny _ A.in1 (Builtin.List.listExtendWith (.ref s.heap.objs.size) (.ref S) (.ref s.heap.objs.size)) _ _ _)
 (unfold Builtin.List.listExtendWith)
 have gS:(s.heap.push {cls:=.type "list",data:=.seq ([]:List Value).toArray}).get? S=some ob:=Ad _ g1
 have gL:(s.heap.push {cls:=.type "list",data:=.seq ([]:List Value).toArray}).get? s.heap.objs.size=some {cls:=.type "list",data:=.seq ([]:List Value).toArray}:=Ak _ rfl
 generalize hP:s.heap.push {cls:=.type "list",data:=.seq ([]:List Value).toArray}=h1 at gS gL ⊢
 have k1:∀b o,s.heap.get? b=some o->h1.get? b=some o:=λb o e=>by rw[<- hP];exact Ad _ e
 have sz1:h1.objs.size=s.heap.objs.size+1:=by rw[<- hP];exact Ba ..
 have ty:Shared.TypeIs {s with heap:=h1} (.ref S) "set":=⟨ob,gS,gc⟩
 refine Aa (BJ ty ?_)
 have e1:Builtin.List.listSameRef (.ref s.heap.objs.size) (.ref S)=false:=by simp[Builtin.List.listSameRef,nS]
 have e2:(Value.type "set"==Value.type "list")=false:=by decide
 have e3:(Value.type "set"==Value.type "tuple")=false:=by decide
 simp only[e1,e2,e3,Bool.or_false,Ay,Bd]
 refine Aa (NA (s:={s with heap:=h1}) hz gS gc g2 hf hw λI h2 d2 md hI st ap k2 pm fpl=>?_)
 refine Aa (AL ?_)
 have ty2:Shared.TypeIs {s with heap:=h2,drawn:=d2} (.ref S) "set":=⟨ob,k2 _ _ gS,gc⟩
 (unfold Builtin.List.listLengthHint)
 refine Aa (Cq ty2 F.slot_set_len.lookup ?_)
 refine(?_:wpAny _ A.in1 (isInstance (Value.ref S) (.type "set")>>=_) _ _ _)
 refine Aa (BN ty2 sub_set_self ?_)
 refine(?_:wpAny _ A.in1 (typeOf (Value.ref S)>>=_) _ _ _)
 refine Aa (BJ ty2 (Ab ?_))
 refine(?_:wpAny _ A.in1 (rule "list.extend.makes-room">>=λ_=>Builtin.List.listTouch (.ref s.heap.objs.size)>>=λ_=>again (.builtin "list.extend.loop" ⟨[.ref s.heap.objs.size,.ref I,.ref s.heap.objs.size],[]⟩)) _ _ _)
 refine Aa (Bn (Aa ?_))
 refine(?_:wpAny _ A.in1 (updateSeq s.heap.objs.size (·.push .none)>>=λ_=>updateSeq s.heap.objs.size (·.pop)) _ _ _)
 have gL2:=k2 _ _ gL
 refine Aa (BZ gL2 rfl ?_)
 have gL3:=AF (Obj.mapSeq (·.push Value.none)) gL2 rfl
 refine BZ gL3 rfl ?_
 have gL4:=AF (Obj.mapSeq (·.pop)) gL3 rfl
 have nL:s.heap.objs.size∉md.fp S I:=by
  have nI:s.heap.objs.size≠I:=λe=>by
   have:s.heap.objs.size+1<=I:=by rw[<- sz1];exact hI
   rw[<- e] at this
   exact absurd this (Nat.not_succ_le_self _)
  cases md with
  |drw TI pl =>
   obtain⟨_,o,v,_,_,_,_,⟨tb,b1,b2,_⟩,_⟩:=st
   have nT:s.heap.objs.size≠TI:=λe=>by
    rw[<- e,gL2] at b1
    cases b1
    exact absurd b2 (by decide)
   simp only[Md.fp,Ap,AR,BM,not_or]
   exact⟨nI,nS,nT⟩
  |txt=>simp only[Md.fp,Ap,AR,BM,not_or];exact⟨nI,nS⟩
  |one=>simp only[Md.fp,Ap,AR,BM,not_or];exact⟨nI,nS⟩
 have oth:∀b o,b≠s.heap.objs.size->h2.get? b=some o->((h2.update s.heap.objs.size (Obj.mapSeq (·.push Value.none))).update s.heap.objs.size (Obj.mapSeq (·.pop))).get? b=some o:=
  λb o hb e=>(Bf _ _ (Ne.symm hb)).trans ((Bf _ _ (Ne.symm hb)).trans e)
 have nSI:S≠I:=λe=>by
  have a:s.heap.objs.size+1<=I:=by rw[<- sz1];exact hI
  rw[<- e] at a
  exact absurd (AN lt (AU (Nat.le_succ _) a)) (Bz _)
 have W:=(K8 (prog:=prog) (A:=A.in1) (w:=w) (ep:=ep) hh hf nSI ap).toS
 refine Ab ⟨B1 F.plain_extend_loop _,codeAny_extend_loopS (A:=A) W hz _ nL _ es.size 0 _ _ _ rfl (AX _) ?_ gL4 (ItemsOf.nil _) λs' acc' c' hm hS' hacc=>?_⟩
 ·exact(K8 (prog:=prog) (A:=A.in1) (w:=w) (ep:=ep) hh hf nSI ap).frame 0 _ _ st λb hb o e=>oth b o (λz=>nL (z▸hb)) e
 refine(?_:wpAny _ A (load s.heap.objs.size>>=_) _ _ s')
 refine Aa (wpAny_load hS' ?_)
 obtain⟨zh,zg,zd,zt,zo⟩:=s'
 have e4:zg=s.gens:=hm.gens
 have e5:zd=d2:=hm.drawn
 have e6:zo=s.os:=hm.os
 subst e4 e5 e6
 refine Ab (q acc'.toList zh zt zd ?_ λb o e=>?_)
 ·have ln:(KI w S es ep md).length=es.size:=by rw[pm.length_eq];simp
  have:acc'.toList=KI w S es ep md:=by
   refine A8 λi=>?_
   by_cases hi:i<es.size
   ·have hi':i<acc'.size:=by rw[hacc.1];exact hi
    rw[Aq,An hi']
    exact(hacc.2 i _ (An hi')).symm
   ·rw[Aq,Bg (by rw[hacc.1];ext),BC (by rw[ln];ext)]
  rw[this]
  exact pm
 ·have bl:=Ao e
  refine hm.heap b o ?_ (oth b o (Ax bl) (k2 _ _ (k1 _ _ e)))
  simp only[Ap,AR,BM,not_or]
  refine⟨Ax bl,λz=>?_⟩
  have a:s.heap.objs.size+1<=I:=by rw[<- sz1];exact hI
  rw[<- z] at a
  exact absurd (AN bl (AU (Nat.le_succ _) a)) (Bz _)
def Ia (prog:Program)(w:World)(A:Around)(zs out:List Value)(s:Shared):Prop:=∀(h1:Heap) (a:Addr) (P:PySem.Fin->Zaa) (E':Value->Zaa),(∀b o,s.heap.get? b=some o->h1.get? b=some o)->s.heap.get? a=none->h1.get? a=some (seqObj "list" zs.toArray 0) ->
 P (.done (.ret .none)) {s with heap:=sortedHeap h1 a zs out.toArray}->wpAny (model prog w) A (Builtin.«list.sort» ⟨[.ref a],[]⟩) P E' {s with heap:=h1}
def Ll {x:Value}{Q:Value->Zaa}(hcol:wpAny (model prog w) A.in1 (collect x) (λzs s1=>zs.length<=sizeLine/\∃out,Ia prog w A.in1.in1 zs out s1/\∀h' e a,(∀b o,s1.heap.get? b=some o->h'.get? b=some o)->s1.heap.objs.size<=a->h'.get? a=some (seqObj "list" out.toArray e)->Q (.ref a) {s1 with heap:=h'}) E s) :
  wpAny (model prog w) A (call (.builtin "sorted") [x]) Q E s:=by
 (refine Calls.call_function_entry kind_sorted plain_sorted entry_sorted (args_sorted1 _) ?_)
 unfold Builtin.«sorted»
 refine Aa (m:=checkCount "sorted" 1 1 _) (Ab (Aa (wpAny_mono hcol (λzs s1 hq=>?_) λ_ _ z=>z)))
 obtain⟨hz,out,hs,q⟩:=hq
 refine Aa (wpAny_newList ?_ hz)
 have g1:(s1.heap.push (seqObj "list" zs.toArray 0)).get? s1.heap.objs.size=some (seqObj "list" zs.toArray 0):=Ak _ rfl
 have fr:s1.heap.get? s1.heap.objs.size=none:=Cj (Ai _)
 refine Aa (AL (AM slot_list_sort ⟨_,g1,rfl⟩ entry_list_sort (hs (s1.heap.push (seqObj "list" zs.toArray 0)) _ _ _ (λb o e=>Ad _ e) fr g1 ⟨_,rfl,Ab ⟨_,rfl,?_⟩⟩) (args_list_sort _)))
 obtain⟨e,he⟩:=sortedHeap_at (out:=out.toArray) g1
 refine q _ e _ (λb o z=>?_) (Ai _) he
 have lb:=Ao z
 rw[sortedHeap_old (Ax lb) (by rw[size_push'];exact Bs lb)]
 exact Ad _ z
end
def Ww:D->Bool
 |.str _=>true
 |_=>false
def JC (es:List D):Bool:=es.all λa=>es.all λb=>(ltB a b).isSome
def DX (es:List D):Bool:=decide (es.length<64)&&es.all FA&&JC es&&(es.all Ww||es.all tupS)
section
variable {X:Cx}{K:Zc}{th:List Addr}{mu:Sto}{H:Hp}{pj:Zab}{st:L2.St}{s:Shared}
def Ug {es:List D}(ho:es.all FA=true)(hc:JC es=true):Pre es.length (P2 es) λi j=>ltT (es.getD i .non) (es.getD j .non):=by
 have gd:∀i,i<es.length->es.getD i .non=es[i]?.getD .non/\∃d,es[i]?=some d/\es.getD i .non=d/\d∈es:=λi hi=>by
  rw[AW]
  exact⟨rfl,es[i],Al hi,by rw[Al hi];rfl,Cb hi⟩
 rw[AB] at ho
 unfold JC at hc
 rw[AB] at hc
 refine⟨λi j hi hj=>?_,λi j hi hj h=>GN _ _ h,λi j k hi hj hk h1 h2=>N7 _ _ _ h1 h2⟩
 obtain⟨_,d,e1,e2,e3⟩:=gd i hi
 obtain⟨_,d',f1,f2,f3⟩:=gd j hj
 unfold P2
 rw[e1,f1,e2,f2]
 have:=hc d e3
 rw[AB] at this
 obtain⟨r,hr⟩:=Ce.mp (this d' f3)
 dsimp only
 rw[hr,U3 d d' r (ho d e3) (ho d' f3) hr]
 rfl
theorem SH (I:L2.Inv X pj st H s){es:List D}{vs:List V}{us:List Value}(hd:es.all Ww=true)(r:RepL X.z th H es vs)(q:Vals vs us){A:Around} :
  ∀i j b C,P2 es i j=some b->C b s->W.kas_ask X.prog X.w A oneType' us i j C s:=λi j b C e hC=>by
 rw[AB] at hd
 unfold P2 at e
 cases e1:es[i]? with
 |none=>rw[e1] at e;cases e
 |some d =>
  cases e2:es[j]? with
  |none=>rw[e1,e2] at e;cases e
  |some d' =>
   rw[e1,e2] at e
   have s1:=hd d (Ag e1)
   have s2:=hd d' (Ag e2)
   cases d<;>first|(cases s1;done)|skip
   cases d'<;>first|(cases s2;done)|skip
   rename_i x y
   unfold ltB at e
   cases e
   obtain⟨v,v1,v2⟩:=r.get e1
   obtain⟨v',v1',v2'⟩:=r.get e2
   obtain⟨u,u1,u2⟩:=q.get v1
   obtain⟨u',u1',u2'⟩:=q.get v1'
   obtain⟨rfl,_⟩:=(show _/\_ from v2)
   obtain⟨rfl,_⟩:=(show _/\_ from v2')
   obtain⟨t,rfl⟩:=u2
   obtain⟨t',rfl⟩:=u2'
   unfold W.kas_ask
   rw[AW,AW,u1,u1']
   exact W.kas_lt_str hC
def QP {es:List D}{vs:List V}{us:List Value}(hd:es.all Ww=true)(r:RepL X.z th H es vs)(q:Vals vs us):∃ss,StrsAre us ss:=by
 refine⟨_,strsAre_map us λu hu=>?_⟩
 obtain⟨i,ei⟩:=Aw.mp hu
 have hi:i<es.length:=by
  have:=(Ae.mp ei).1
  rw[<- q.length,r.len] at this
  exact this
 rw[AB] at hd
 obtain⟨v,v1,v2⟩:=r.get (Al hi)
 have hs:=hd _ (Cb hi)
 obtain⟨u',u1,u2⟩:=q.get v1
 rw[ei] at u1
 cases u1
 cases e:es[i]<;>rw[e] at hs v2<;>first|(cases hs;done)|skip
 obtain⟨rfl,_⟩:=(show _/\_ from v2)
 obtain⟨t,rfl⟩:=u2
 exact⟨_,t,rfl⟩
def sorts (hu:X.A.units+64<cLine)(I:L2.Inv X pj st H s){es:List D}{vs:List V}{zs:List Value}(h2:RepL X.z th H es vs)(rv:Vals vs zs)(ok:DX es=true) :
  ∃ws out,RepL X.z th H (Dv es) ws/\Vals ws out/\Ia X.prog X.w X.A.in1.in1 zs out s:=by
 unfold DX at ok
 rw[Ac,Ac,Ac,Aj,Bool.or_eq_true] at ok
 obtain⟨⟨⟨c64,ho⟩,hc⟩,hk⟩:=ok
 have ho':∀d∈es,FA d=true:=by rw[AB] at ho;exact ho
 have lz:zs.length=es.length:=by rw[<- rv.length,h2.len]
 by_cases c2:es.length<2
 ·have:Dv es=es:=by
   refine(HZ ho' (BX _) ?_).symm
   match es,c2 with
   |[],_=>exact .nil
   |[_],_=>exact List.pairwise_singleton _ _
   |_::_::_,c2=>exact absurd c2 (by simp only[List.length_cons];ext)
  rw[this]
  exact⟨vs,zs,h2,rv,λh1 a P E' hk fr hl hP=>RE hl (by rw[lz];exact c2) hP⟩
 ·obtain⟨p,p1,pm,up⟩:=Ta (Ug ho hc) (by ext)
  have pl:p.size=es.length:=by rw[<- Array.length_toList,pm.length_eq,BF]
  have inn:∀i∈p.toList,i<es.length:=λi hi=>Bc.mp (pm.mem_iff.mp hi)
  have es_eq:p.toList.map (λi=>es.getD i .non)=Dv es:=by
   refine HZ ho' ?_ ?_
   ·refine(pm.map _).trans ?_
    have:(List.range es.length).map (λi=>es.getD i .non)=es:=by
     refine A8 λi=>?_
     rw[Am]
     by_cases hi:i<es.length
     ·simp[hi]
     ·simp[hi]
    rw[this]
   ·rw[BU]
    intro i j hi hj hij
    rw[Af,Array.length_toList,pl] at hi hj
    have:=up i j (Nat.le_of_lt hij) hj
    rw[Rq (by ext),Rq (by ext)] at this
    dsimp only at this
    unfold leT
    simp only[List.getElem_map,Array.getElem_toList]
    rw[this]
    rfl
  refine⟨p.toList.map λi=>vs.getD i .non,p.toList.map λi=>zs.getD i Value.none,?_,?_,λh1 a P E' hk1 fr hl hP=>?_⟩
  ·rw[<- es_eq]
   exact RepL.pick (ds:=es) (vs:=vs) _ _ _ λi hi=>by
    have hi':=inn i hi
    obtain⟨v,ev,rv'⟩:=h2.get (show es[i]?=some es[i] by simp[hi'])
    rw[AW,AW,ev,show es[i]?=some es[i] by simp[hi']]
    exact rv'
  ·exact Vals.pick rv _ _ _ λi hi=>by
    have hi':=inn i hi
    obtain⟨v,ev,_⟩:=h2.get (show es[i]?=some es[i] by simp[hi'])
    obtain⟨u,eu,ru⟩:=rv.get ev
    rw[AW,AW,ev,eu]
    exact ru
  ·have I6:L2.Inv X pj st H {s with heap:=((h1.update a (Obj.mapSeq λ_=>#[])).push (seqObj "tuple" zs.toArray 0)).push (seqObj "list" #[] 0)}:=I.kept (t':=s.toks) λb o q=>by
    refine Ad _ (Ad _ ?_)
    rw[Heap.get?_update_ne _ _ _ _ (λz=>by rw[z,fr] at q;cases q)]
    exact hk1 b o q
   rcases hk with hk|hk
   ·obtain⟨ss,hS⟩:=QP hk h2 rv
    refine OM (kd:=oneType') p (by rw[lz];exact pl) hl (by rw[lz];ext) (by rw[lz];exact c64) (λQ' E2 hq=>?_) (λG hG=>?_) hP
    ·match zs,hS,lz with
     |[],_,lz=>simp at lz;ext
     |[_],_,lz=>simp at lz;ext
     |v1::v2::r,hS,_=>rw[keyKind_strs hS];exact Ab hq
    ·rw[lz]
     exact IB (λi j b C ea hC=>SH I6 hk h2 rv i j b C ea hC) _ p G p1 hG
   ·obtain⟨fs,f1,f2,f3⟩:=Kn I6 hk h2 rv
    refine OM (kd:=tuples' true) p (by rw[lz];exact pl) hl (by rw[lz];ext) (by rw[lz];exact c64) (λQ' E2 hq=>W.kat_kind f1 (by rw[f2];ext) (T:=.type "str") (λv hv=>?_) rfl hq) (λG hG=>?_) hP
    ·obtain⟨x,tk,rfl⟩:=f3 v hv
     exactλA Q E s _ hq=>BJ (typeIs_str s x tk) hq
    ·rw[lz]
     exact IB (λi j b C ea hC=>Wy I6 hk h2 rv (A:=X.A.in1.in1) (by show X.A.units+1+1+60<cLine;ext) i j b C ea hC) _ p G p1 hG
end
theorem Gy {α β:Type}{F:α->β->Prop}:∀{xs xs':List α},xs.Perm xs'->∀{ys:List β},Paired F xs' ys->∃ys',ys'.Perm ys/\Paired F xs ys':=by
 intro xs xs' p
 induction p with
 |nil=>intro ys h;cases h;exact⟨[],.nil,.nil⟩
 |cons x p ih =>
  intro ys h
  cases h with
  |cons r t =>
   obtain⟨ys',a,b⟩:=ih t
   exact⟨_,a.cons _,.cons r b⟩
 |swap x y l =>
  intro ys h
  cases h with
  |cons r t =>
   cases t with
   |cons r' t=>exact⟨_,List.Perm.swap _ _ _,.cons r' (.cons r t)⟩
 |trans p q ih1 ih2 =>
  intro ys h
  obtain⟨ys',a,b⟩:=ih2 h
  obtain⟨ys2,c,d⟩:=ih1 b
  exact⟨ys2,c.trans a,d⟩
section
variable {prog:Program}{w:World}{A:Around}{E:Value->Zaa}{s:Shared}
def Nb (a:Value){Q1:Value->Zaa}(h:Q1 (.ref s.heap.objs.size) {s with heap:=s.heap.push {cls:=.type "set",dict:=none,data:=.set #[] 0 (.fresh 0 0 (!CW w))}}) :
  codeAny (model prog w) A (.call (.builtin "set.__new__") ⟨[.type "set",a],[]⟩) (wants Q1 E) s:=by
 refine codeAny_of_tree (?_:wpAny _ A.in1 (do checkBuiltinCall "set.__new__" ⟨[.type "set",a],[]⟩;again (.builtin "set.__new__" ⟨[.type "set",a],[]⟩)) _ _ s)
 refine Aa (wpAny_of_eq (F.newCall_set_1 a) (Ab ⟨B1 F.plain_set_new _,Bu F.entry_set_new ?_⟩))
 rw[Bp F.plain_set_new _]
 (unfold Builtin.«set.__new__» Builtin.Frozenset.newClass)
 have hsub:=sub_set_self
 obtain⟨hp,g,d,tk,os⟩:=s
 dsimp only
 wp_walk
 refine Cz (Ab ?_)
 dsimp only
 simp only[newObj]
 exact Aa (wpAny_alloc (Ab (Ab h)))
def YieldsV (prog:Program)(w:World)(A:Around)(E:Value->Zaa)(h:Heap)(l:Addr)(us:List Value):Prop:=
 ∀(s1:Shared) (A':Around) (R:Value->Zaa),A'.handled=A.handled->(∀b o,h.get? b=some o->s1.heap.get? b=some o) ->
  (∀(I:Addr) (fp:List Addr) (h2:Heap) (d2:Drawn) (P:Nat->Value->Prop) (St:Nat->Heap->Prop),s1.heap.objs.size<=I->(∀b∈fp,b<h2.objs.size)->(∀b∈fp,s1.heap.objs.size<=b\/∃o,h.get? b=some o)->(∀A2:Around,A2.handled=A.handled->Walks prog w A2 I fp [I] us.length P St)->St 0 h2 ->
   (∀b o,s1.heap.get? b=some o->h2.get? b=some o)->(∀i v,P i v->us[i]?=some v)->R (.ref I) {s1 with heap:=h2,drawn:=d2})->wpAny (model prog w) A' (pyIter (.ref l)) R E s1
end
def Dx (r:List D)(v:D):List D:=if v∈r then r else r++[v]
def Gu (es:List D):List D:=es.foldl Dx []
theorem E1 (es:List D):∀r:List D,r.Nodup->(es.foldl Dx r).Nodup:=by
 induction es with
 |nil=>intro r h;exact h
 |cons x es ih =>
  intro r h
  rw[List.foldl_cons]
  refine ih _ ?_
  unfold Dx
  split
  ·exact h
  ·rename_i c
   refine BQ.mpr ⟨h,by simp,λa ha b hb=>?_⟩
   rw[Av.mp hb]
   exactλe=>c (e▸ha)
theorem Fe (es:List D):∀(r:List D) (d:D),d∈es.foldl Dx r↔d∈r\/d∈es:=by
 induction es with
 |nil=>intro r d;simp
 |cons x es ih =>
  intro r d
  rw[List.foldl_cons,ih,Ap]
  unfold Dx
  split
  ·rename_i c
   constructor
   ·rintro(h|h)
    ·exact .inl h
    ·exact .inr (.inr h)
   ·rintro(h|rfl|h)
    ·exact .inl h
    ·exact .inl c
    ·exact .inr h
  ·rw[AQ,Av]
   constructor
   ·rintro((h|h)|h)
    ·exact .inl h
    ·exact .inr (.inl h)
    ·exact .inr (.inr h)
   ·rintro(h|h|h)
    ·exact .inl (.inl h)
    ·exact .inl (.inr h)
    ·exact .inr h
theorem Gq (es:List D):∀r:List D,(es.foldl Dx r).length<=r.length+es.length:=by
 induction es with
 |nil=>intro r;simp
 |cons x es ih =>
  intro r
  rw[List.foldl_cons,List.length_cons]
  refine AU (ih _) ?_
  unfold Dx
  split
  ·ext
  ·rw[Ar,List.length_singleton];ext
section
variable {X:Cx}{K:Zc}{th:List Addr}{mu:Sto}{H:Hp}{pj:Zab}{st:L2.St}{s:Shared}
def Jh (I:L2.Inv X pj st H s)(hc:X.calm=true){a:Addr}{vs:List V}{E:Value->Zaa}(h:SqL X.K H a vs):∃us,Vals vs us/\YieldsV X.prog X.w X.A E s.heap a us/\∃o,s.heap.get? a=some o/\o.cls=.type "list":=by
 obtain⟨its,rv,pl,hz⟩:=I.list h
 obtain⟨o,n,ho,hcl,hdd,hdt⟩:=id pl
 refine⟨its,rv,λs1 A' R hA hk hR=>?_,o,ho,hcl⟩
 have pl':s1.heap.IsList a its.toArray:=pl.isList.at λo e=>hk a o e
 have lt:a<s1.heap.objs.size:=Ao (hk a o ho)
 have hh:=I.ok.hd hc
 refine wpAny_pyIter_list pl' (hR s1.heap.objs.size [s1.heap.objs.size,a] _ s1.drawn (λi v=>its.toArray[i]?=some v) (λi h=>h.IsListIter s1.heap.objs.size a i/\h.IsList a its.toArray) (Ai _) (λb hb=>?_) (λb hb=>?_) (λA2 hA2=>?_) ?_ (λb o e=>Ad _ e) λi v hP=>?_)
 ·rw[Ba]
  rcases Ap.mp hb with rfl|hb
  ·exact Bi _
  ·rw[Av.mp hb];exact Bs lt
 ·rcases Ap.mp hb with rfl|hb
  ·exact .inl (Ai _)
  ·rw[Av.mp hb];exact .inr ⟨o,ho⟩
 ·have:=Walks.list (prog:=X.prog) (w:=X.w) (hA2.trans hh) s1.heap.objs.size a (Ax lt) its.toArray
  rw[Az] at this
  exact this
 ·exact⟨⟨_,Ak _ rfl,rfl,rfl⟩,pl'.push _⟩
 ·have hP':its.toArray[i]?=some v:=hP
  simpa using hP'
def Im (I:L2.Inv X pj st H s)(hc:X.calm=true){a:Addr}{vs:List V}{E:Value->Zaa}(h:SqT X.K H a vs):∃us,Vals vs us/\YieldsV X.prog X.w X.A E s.heap a us/\∃o,s.heap.get? a=some o/\o.cls=.type "tuple":=by
 obtain⟨its,rv,pl,hz⟩:=I.tuple h
 obtain⟨o,ho,hcl,n,hdt⟩:=id pl
 refine⟨its,rv,λs1 A' R hA hk hR=>?_,o,ho,hcl⟩
 have pl':s1.heap.IsTuple a its.toArray:=⟨o,hk a o ho,hcl,n,hdt⟩
 have lt:a<s1.heap.objs.size:=Ao (hk a o ho)
 have hh:=I.ok.hd hc
 refine B9 pl' (hR s1.heap.objs.size [s1.heap.objs.size,a] _ s1.drawn (λi v=>its.toArray[i]?=some v) (λi h=>h.IsTupleIter s1.heap.objs.size a i/\h.IsTuple a its.toArray) (Ai _) (λb hb=>?_) (λb hb=>?_) (λA2 hA2=>?_) ?_ (λb o e=>Ad _ e) λi v hP=>?_)
 ·rw[Ba]
  rcases Ap.mp hb with rfl|hb
  ·exact Bi _
  ·rw[Av.mp hb];exact Bs lt
 ·rcases Ap.mp hb with rfl|hb
  ·exact .inl (Ai _)
  ·rw[Av.mp hb];exact .inr ⟨o,ho⟩
 ·have:=Walks.tuple (prog:=X.prog) (w:=X.w) (hA2.trans hh) s1.heap.objs.size a (Ax lt) its.toArray
  rw[Az] at this
  exact this
 ·exact⟨⟨_,Ak _ rfl,rfl,rfl⟩,⟨o,Ad _ (hk a o ho),hcl,n,hdt⟩⟩
 ·have hP':its.toArray[i]?=some v:=hP
  simpa using hP'
def Vi {P:Program}{w:World}{h:Heap}{a:Addr}{us:List (Int×V)}(x:Vq w a us h):ObjOk P w H h a (Pc w a us):=by
 refine⟨x,?_,λh1 h2 ⟨o,es,ep,t,ho,r⟩ k=>⟨o,es,ep,t,k o ho,r⟩⟩
 obtain⟨o,es,ep,t,ho,r⟩:=x
 exact⟨o,ho⟩
def Z9:Fn:=λds mu=>match ds with
 |[.set es]=>some (.int es.length,mu)
 |[d]=>(DF mu d).map λp=>(.int p.1.length,mu)
 |_=>none
def SS:Fn:=λds mu=>match GL ds mu with|some r=>some r|none=>Z9 ds mu
def Nz (mu:Sto):D->Option (List D)
 |.set es=>some es
 |d=>Gg mu d
def Jk:Fn:=λds mu=>match FK ds with
 |some d=>match Nz mu d with
  |some es=>if DX es=true then some (.lst (Dv es),mu) else none
  |none=>none
 |none=>none
def R4 {ds:List D}{r:D×Sto}(h:Jk ds mu=some r):∃d es,ds=[d]/\Nz mu d=some es/\DX es=true/\r=(.lst (Dv es),mu):=by
 unfold Jk at h
 split at h
 ·rename_i d e
  split at h
  ·rename_i es e2
   split at h
   ·rename_i c;cases h;exact⟨d,es,FU e,e2,c,rfl⟩
   ·cases h
  ·cases h
 ·cases h
def NK {es fs:List D}(p:fs.Perm es)(h:DX es=true):DX fs=true:=by
 unfold DX JC at *
 rw[Ac,Ac,Ac,Aj,Bool.or_eq_true] at *
 simp only[AB] at *
 obtain⟨⟨⟨a,b⟩,c⟩,d⟩:=h
 exact⟨⟨⟨by rw[p.length_eq];exact a,λx hx=>b x (p.mem_iff.mp hx)⟩,λx hx y hy=>c x (p.mem_iff.mp hx) y (p.mem_iff.mp hy)⟩,d.imp (λz x hx=>z x (p.mem_iff.mp hx)) λz x hx=>z x (p.mem_iff.mp hx)⟩
def Hh {es:List D}(h:DX es=true):∀d∈es,FA d=true:=by
 unfold DX at h
 rw[Ac,Ac,Ac] at h
 exact AB.mp h.1.1.2
theorem RepL.perm {ds:List D}{vs us:List V}(p:us.Perm vs)(r:RepL K th H ds vs):∃ds',ds'.Perm ds/\RepL K th H ds' us:=by
 induction p generalizing ds with
 |nil=>exact⟨ds,BX _,r⟩
 |cons x p ih =>
  cases ds with
  |nil=>cases r.inv0
  |cons d ds =>
   obtain⟨v,r',e,a,b⟩:=r.inv
   cases e
   obtain⟨ds',q1,q2⟩:=ih b
   exact⟨d::ds',q1.cons d,.cons a q2⟩
 |swap x y l =>
  cases ds with
  |nil=>cases r.inv0
  |cons d ds =>
   obtain⟨v,r',e,a,b⟩:=r.inv
   cases e
   cases ds with
   |nil=>cases b.inv0
   |cons d' ds =>
    obtain⟨v',r2,e',a',b'⟩:=b.inv
    cases e'
    exact⟨d'::d::ds,List.Perm.swap _ _ _,.cons a' (.cons a b')⟩
 |trans p q ih1 ih2 =>
  obtain⟨ds1,a1,b1⟩:=ih2 r
  obtain⟨ds2,a2,b2⟩:=ih1 b1
  exact⟨ds2,a2.trans a1,b2⟩
theorem Vals.perm {vs:List V}{us us':List Value}(p:us'.Perm us)(r:Vals vs us):∃vs',vs'.Perm vs/\Vals vs' us':=by
 induction p generalizing vs with
 |nil=>cases r;exact⟨[],.nil,.nil⟩
 |cons x p ih =>
  cases r with
  |cons a b=>obtain⟨vs',q1,q2⟩:=ih b;exact⟨_,q1.cons _,.cons a q2⟩
 |swap x y l =>
  cases r with
  |cons a b =>
   cases b with
   |cons a' b'=>exact⟨_,List.Perm.swap _ _ _,.cons a' (.cons a b')⟩
 |trans p q ih1 ih2 =>
  obtain⟨v1,a1,b1⟩:=ih2 r
  obtain⟨v2,a2,b2⟩:=ih1 b1
  exact⟨v2,a2.trans a1,b2⟩
def P5 (hu:X.A.units+64<cLine)(hc:X.calm=true):CallV X (.builtin "sorted") Jk:=by
 intro pj s st H xs us Q I r h
 obtain⟨th,mu,ds,so,rd,t⟩:=h
 obtain⟨a0,mu0,e0,_⟩:=id t
 obtain⟨d,es,rfl,eg,ok,er⟩:=R4 e0
 rw[e0] at t
 cases er
 obtain⟨x,rfl,rx⟩:=Eg rd
 obtain⟨u,rfl,ru⟩:=vals1 r
 have fin:∀(fs:List D) (vs:List V) (zs:List Value) (h1:Heap) (tk:Nat) d',fs.Perm es->RepL X.z th H fs vs->Vals vs zs->(∀b o,s.heap.get? b=some o->h1.get? b=some o)->zs.length<=sizeLine/\∃out,Ia X.prog X.w X.A.in1.in1 zs out {s with heap:=h1,toks:=tk,drawn:=d'} /\
   ∀h' e a,(∀b o,h1.get? b=some o->h'.get? b=some o)->h1.objs.size<=a->h'.get? a=some (seqObj "list" out.toArray e)->EP X pj st Q (.ref a) {s with heap:=h',toks:=tk,drawn:=d'}:=λfs vs zs h1 tk d' p h2 rv hk=>by
  have I0:L2.Inv X pj st H {s with drawn:=d'}:=⟨I.ok,I.os,I.bare,I.base,I.loc,I.cell,I.free,I.freeC,I.pin,I.hok,I.len⟩
  have I1:L2.Inv X pj st H {s with heap:=h1,toks:=tk,drawn:=d'}:=I0.kept (t':=tk) hk
  have okf:=NK p ok
  have l64:fs.length<64:=by
   unfold DX at okf
   rw[Ac,Ac,Ac,Aj] at okf
   exact okf.1.1.1
  have lz:zs.length=fs.length:=by rw[<- rv.length,h2.len]
  obtain⟨ws,out,w1,w2,w3⟩:=sorts hu I1 h2 rv okf
  rw[Lw (Hh ok) p] at w1
  have z64:64<=sizeLine:=by rw[AO];decide
  have wl:(Dv es).length<=sizeLine:=by rw[(Df es).length_eq,<- p.length_eq];ext
  refine⟨by ext,out,w3,λh' e a hk' ha he=>?_⟩
  have hp:H a=none:=I1.hok.fresh ha
  refine⟨.ref a,_,I1.laid (t':=tk) (o:=.lst ws) hk' ha ⟨by rw[w1.len];exact wl,out,e,w2,he⟩,rfl,?_⟩
  exact t.retX (.new hp _) (so.new hp _) _ (Rep.newLst so hp w1 wl)
 refine Ll ?_
 have seqc:∀(T:String) (a:Addr) (ob:Obj) (vs:List V) (zs:List Value) (n:Nat),(T="list"\/T="tuple")->s.heap.get? a=some ob->ob.cls=.type T->ob.data=.seq zs.toArray n->Vals vs zs->RepL X.z th H es vs->es.length<=sizeLine->wpAny (model X.prog X.w) X.A.in1 (collect (.ref a)) (λzs s1=>zs.length<=sizeLine/\∃out,Ia X.prog X.w X.A.in1.in1 zs out s1/\∀h' e a,(∀b o,s1.heap.get? b=some o->h'.get? b=some o)->s1.heap.objs.size<=a->h'.get? a=some (seqObj "list" out.toArray e)->EP X pj st Q (.ref a) {s1 with heap:=h'}) X.xe s:=λT a ob vs zs n hT g1 g2 g3 rv h2 hz=>by
  refine NM hT g1 g2 g3 ?_ (by rw[<- rv.length,h2.len];exact hz)
  refine fin es vs zs _ s.toks s.drawn (BX _) h2 rv λb o e=>?_
  have lt:=Ao e
  rw[Heap.get?_update_ne _ _ _ _ (Ax lt),Heap.get?_push_ne _ _ _ (Ax lt)]
  exact e
 have sq:Gg mu d=some es->wpAny (model X.prog X.w) X.A.in1 (collect u) (λzs s1=>zs.length<=sizeLine/\∃out,Ia X.prog X.w X.A.in1.in1 zs out s1/\∀h' e a,(∀b o,s1.heap.get? b=some o->h'.get? b=some o)->s1.heap.objs.size<=a->h'.get? a=some (seqObj "list" out.toArray e)->EP X pj st Q (.ref a) {s1 with heap:=h'}) X.xe s:=λe2=>by
  obtain⟨a,vs,rfl,h1,h2,h3⟩:=Hm so e2 rx
  cases ru
  rcases h1 with h1|⟨h1,_⟩
  ·obtain⟨its,rv,⟨o,n,g1,g2,_,g3⟩,_⟩:=I.list h1
   exact seqc "list" a o vs its n (.inl rfl) g1 g2 g3 rv h2 h3
  ·obtain⟨its,rv,⟨o,g1,g2,n,g3⟩,_⟩:=I.tuple h1
   exact seqc "tuple" a o vs its n (.inr rfl) g1 g2 g3 rv h2 h3
 unfold Nz at eg
 split at eg
 ·cases eg
  unfold Rep at rx
  obtain⟨a,us',vs,rfl,_,h1,h2,h3,_⟩:=rx
  cases ru
  obtain⟨⟨o,tes,ep,tb,ho,hex,hd,sb,hf,hv,hw,_⟩,_⟩:=(show ObjOk X.prog X.w H s.heap a (Pc X.w a us') from I.hok a _ h1)
  refine NB (I.ok.hd hc) (fits_of_scanBound sb) ho hex.1 hd hf hw λzs h' tk d' pm hk=>?_
  obtain⟨ws,p1,r1⟩:=Vals.perm pm hv
  obtain⟨fs,p2,r2⟩:=RepL.perm (p1.trans (by have:=h2.map (·.2);rw[List.map_snd_zip (by rw[DV,Af,h3.len];exact Ai _)] at this;exact this)) h3
  exact fin fs ws zs h' tk d' p2 r2 r1 hk
 ·exact sq eg
end
def Occ (ow:Array (Option Nat))(j:Nat):Prop:=∃c,ow[j]?=some (some c)
theorem O2 {mask:Nat}{ow:Array (Option Nat)}(hz:ow.size=mask+1){h:Int}{r0:Nat}(hr:ow[(lp mask h r0).1]?=some none):∀(f r n:Nat),pth mask h n=rn mask (lp mask h r)->n<=10*r->(∀m,m<n->Occ ow (pth mask h m).j)->r<=r0->r0<r+f ->
  ∃k,k<=10*r0+9/\SetTable.layClean.free mask ow f (lp mask h r).1 (lp mask h r).2=some (pth mask h k).j/\ow[(pth mask h k).j]?=some none/\(∀m,m<k->Occ ow (pth mask h m).j)/\(pth mask h k).j<=mask
 |0,r,n,_,_,_,h1,h2=>by ext
 |f+1,r,n,e,hn,ho,h1,h2=>by
  have le:=Ot mask h r
  have rl:=NH le
  have re:(lp mask h r).1<=SetTable.runEnd mask (lp mask h r).1:=by unfold SetTable.runEnd;split<;>ext
  have r9:=Om (mask:=mask) (i:=(lp mask h r).1)
  have at_:∀q,q<SetTable.runEnd mask (lp mask h r).1+1-(lp mask h r).1->(pth mask h (n+q)).j=(lp mask h r).1+q:=λq hq=>by
   rw[L8 e q (by ext)]
  have val:∀q,q<SetTable.runEnd mask (lp mask h r).1+1-(lp mask h r).1->∃o,ow[(lp mask h r).1+q]?=some o/\ow.getD ((lp mask h r).1+q) (some 0)=o:=λq hq=>by
   have hl:(lp mask h r).1+q<ow.size:=by ext
   refine⟨_,An hl,?_⟩
   rw[Bo,An hl]
   rfl
  unfold SetTable.layClean.free
  cases c:(List.range (SetTable.runEnd mask (lp mask h r).1+1-(lp mask h r).1)).find? (λk=>(ow.getD ((lp mask h r).1+k) (some 0)).isNone) with
  |some q =>
   obtain⟨a,b,d⟩:=List.find?_range_eq_some.mp c
   have hq:=Bc.mp b
   obtain⟨o,o1,o2⟩:=val q hq
   rw[o2] at a
   have oN:o=none:=by simpa using a
   subst oN
   dsimp only
   refine⟨n+q,by ext,by rw[at_ q hq],by rw[at_ q hq];exact o1,λm hm=>?_,by rw[at_ q hq];ext⟩
   rcases Bx m n with c2|c2
   ·exact ho m c2
   ·obtain⟨x,rfl⟩:∃x,m=n+x:=⟨m-n,by ext⟩
    have hx:x<q:=by ext
    obtain⟨o,u1,u2⟩:=val x (by ext)
    have:=d x hx
    rw[u2] at this
    cases o with
    |none=>simp at this
    |some c=>exact⟨c,by rw[at_ x (by ext)];exact u1⟩
  |none =>
   have d:=List.find?_range_eq_none.mp c
   dsimp only
   have ne:r≠r0:=λz=>by
    subst z
    have:=d 0 (by ext)
    obtain⟨o,u1,u2⟩:=val 0 (by ext)
    rw[u2] at this
    rw[Nat.add_zero,hr] at u1
    cases u1
    simp at this
   refine O2 hz hr f (r+1) (n+(SetTable.runEnd mask (lp mask h r).1-(lp mask h r).1)+1) ?_ (by ext) (λm hm=>?_) (by ext) (by ext)
   ·rw[pth,L8 e _ (Ai _)]
    unfold adv
    dsimp only
    rw[if_neg (by ext)]
    rfl
   ·rcases Bx m n with c2|c2
    ·exact ho m c2
    ·obtain⟨x,rfl⟩:∃x,m=n+x:=⟨m-n,by ext⟩
     obtain⟨o,u1,u2⟩:=val x (by ext)
     have:=d x (by ext)
     rw[u2] at this
     cases o with
     |none=>simp at this
     |some c=>exact⟨c,by rw[at_ x (by ext)];exact u1⟩
structure OI (mask:Nat) (hs:List Int) (ow:Array (Option Nat)) (k:Nat):Prop where
 sz:ow.size=mask+1
 rc:∀(j c:Nat),ow[j]?=some (some c)->c<k/\∃hc,hs[c]?=some hc/\∃n,n<10*SetTable.turns mask/\(pth mask hc n).j=j/\∀m,m<=n->Occ ow (pth mask hc m).j
 on:∀c,c<k->∃j:Nat,ow[j]?=some (some c)
 inj:∀(j j' c:Nat),ow[j]?=some (some c)->ow[j']?=some (some c)->j=j'
def OI.room {mask:Nat}{hs:List Int}{ow:Array (Option Nat)}{k:Nat}(O:OI mask hs ow k)(hk:k<=mask):∃j,j<=mask/\ow[j]?=some none:=by
 apply BV
 intro hc
 have all:∀j,j<=mask->∃c,ow[j]?=some (some c):=λj hj=>by
  have hl:j<ow.size:=by rw[O.sz];ext
  cases e:ow[j] with
  |none=>exact absurd ⟨j,hj,by rw[An hl,e]⟩ hc
  |some c=>exact⟨c,by rw[An hl,e]⟩
 have f:∀j,∃c,j<=mask->ow[j]?=some (some c):=λj=>by
  by_cases hj:j<=mask
  ·obtain⟨c,e⟩:=all j hj
   exact⟨c,λ_=>e⟩
  ·exact⟨0,λh=>absurd h hj⟩
 have g:∃g:Nat->Nat,∀j,j<=mask->ow[j]?=some (some (g j)):=⟨λj=>(f j).choose,λj=>(f j).choose_spec⟩
 obtain⟨g,hg⟩:=g
 have nd:((List.range (mask+1)).map g).Nodup:=by
  rw[AG,A5]
  refine BY (λ{a b} ha hb hne e=>hne ?_) (AG.mp List.nodup_range)
  have ha':=hg a (by have:=Bc.mp ha;ext)
  have hb':=hg b (by have:=Bc.mp hb;ext)
  rw[e] at ha'
  exact O.inj a b _ ha' hb'
 have:=Lv (b:=List.range k) nd λx hx=>by
  obtain⟨j,hj,rfl⟩:=Ah.mp hx
  exact Bc.mpr (O.rc j _ (hg j (by have:=Bc.mp hj;ext))).1
 rw[Af,BF,BF] at this
 ext
def OI.step {mask:Nat}(hm:FC mask){hs:List Int}{ow:Array (Option Nat)}{k:Nat}(O:OI mask hs ow k)(hk:k<=mask){h:Int}(hh:hs[k]?=some h):∃j,SetTable.layClean.free mask ow (SetTable.turns mask) (SetTable.bits h % (mask+1)) (SetTable.bits h)=some j/\OI mask hs (ow.setIfInBounds j (some k)) (k+1):=by
 obtain⟨e,he,hn⟩:=O.room hk
 obtain⟨m,h1,h2⟩:=Ou hm (Ot mask h 13) he
 have hr:ow[(lp mask h (13+m)).1]?=some none:=by rw[Sr,h2];exact hn
 obtain⟨q,q1,q2,q3,q4,q5⟩:=O2 O.sz hr (SetTable.turns mask) 0 0 rfl (Ai _) (λm h=>absurd h (Nat.not_lt_zero _)) (AX _) (by unfold SetTable.turns;ext)
 refine⟨(pth mask h q).j,q2,?_⟩
 have hl:(pth mask h q).j<ow.size:=by rw[O.sz];ext
 have get:∀j',(ow.setIfInBounds (pth mask h q).j (some k))[j']?=if (pth mask h q).j=j' then some (some k) else ow[j']?:=λj'=>by
  (rw[Array.getElem?_setIfInBounds])
  by_cases c:(pth mask h q).j=j'
  ·rw[if_pos c,if_pos c,if_pos hl]
  ·rw[if_neg c,if_neg c]
 have up:∀j',Occ ow j'->Occ (ow.setIfInBounds (pth mask h q).j (some k)) j':=λj' ⟨c,hc⟩=>by
  refine⟨c,?_⟩
  rw[get,if_neg,hc]
  rintro rfl
  rw[q3] at hc
  cases hc
 have own:Occ (ow.setIfInBounds (pth mask h q).j (some k)) (pth mask h q).j:=⟨k,by rw[get,if_pos rfl]⟩
 refine⟨by rw[Array.size_setIfInBounds];exact O.sz,λj' c hc=>?_,λc hc=>?_,λa b c ha hb=>?_⟩
 ·rw[get] at hc
  by_cases x:(pth mask h q).j=j'
  ·rw[if_pos x] at hc
   cases hc
   refine⟨Bi _,h,hh,q,by unfold SetTable.turns;ext,x,λm hm=>?_⟩
   rcases Ca hm with c|c
   ·exact up _ (q4 m c)
   ·subst c;exact own
  ·rw[if_neg x] at hc
   obtain⟨a,hc',b,n,n1,n2,n3⟩:=O.rc j' c hc
   exact⟨by ext,hc',b,n,n1,n2,λm hm=>up _ (n3 m hm)⟩
 ·rcases Ca (Nat.le_of_lt_succ hc) with x|x
  ·obtain⟨j',hj'⟩:=O.on c x
   refine⟨j',?_⟩
   rw[get,if_neg,hj']
   rintro rfl
   rw[q3] at hj'
   cases hj'
  ·subst x
   exact⟨_,by rw[get,if_pos rfl]⟩
 ·rw[get] at ha hb
  by_cases x:(pth mask h q).j=a
  ·by_cases y:(pth mask h q).j=b
   ·ext
   ·rw[if_pos x] at ha
    rw[if_neg y] at hb
    cases ha
    have:=(O.rc b k hb).1
    ext
  ·rw[if_neg x] at ha
   by_cases y:(pth mask h q).j=b
   ·rw[if_pos y] at hb
    cases hb
    have:=(O.rc a k ha).1
    ext
   ·rw[if_neg y] at hb
    exact O.inj a b c ha hb
def OI.start (mask:Nat)(hs:List Int):OI mask hs (Array.replicate (mask+1) none) 0:=by
 have no:∀j c:Nat,(Array.replicate (mask+1) (none:Option Nat))[j]?≠some (some c):=λj c h=>by
  rw[Array.getElem?_replicate] at h
  split at h<;>cases h
 exact⟨by simp,λj c h=>absurd h (no j c),λc h=>absurd h (Nat.not_lt_zero _),λa b c h=>absurd h (no a c)⟩
def VH {mask:Nat}(hm:FC mask)(hs:Array Int)(hl:hs.size<=mask):∃ow,SetTable.layClean mask hs=some ow/\OI mask hs.toList ow hs.size:=by
 have key:∀(l2 l1:List Int) (ow:Array (Option Nat)),l1++l2=hs.toList->OI mask hs.toList ow l1.length->∃ow',(l2.foldl (λ(acc:Option (Array (Option Nat)×Nat)) h=>(do
   let (owner,k)<-acc
   let j<-SetTable.layClean.free mask owner (SetTable.turns mask) (SetTable.bits h % (mask+1)) (SetTable.bits h)
   pure (owner.setIfInBounds j (some k),k+1):Option (Array (Option Nat)×Nat))) (some (ow,l1.length)))=some (ow',hs.size)/\OI mask hs.toList ow' hs.size:=by
  intro l2
  induction l2 with
  |nil =>
   intro l1 ow e O
   have:l1.length=hs.size:=by rw[<- Array.length_toList,<- e,List.append_nil]
   rw[this] at O ⊢
   exact⟨ow,rfl,O⟩
  |cons h l2 ih =>
   intro l1 ow e O
   have hlen:l1.length+(l2.length+1)=hs.size:=by rw[<- Array.length_toList,<- e,Ar,List.length_cons]
   have hh:hs.toList[l1.length]?=some h:=by rw[<- e,AY (Ai _),Nat.sub_self];rfl
   obtain⟨j,j1,j2⟩:=O.step hm (by ext) hh
   obtain⟨ow',a,b⟩:=ih (l1++[h]) (ow.setIfInBounds j (some l1.length)) (by rw[<- e,B4];rfl) (by rw[Ar,List.length_singleton];exact j2)
   refine⟨ow',?_,b⟩
   rw[List.foldl_cons]
   rw[Ar,List.length_singleton] at a
   have st:(do
    let (owner,k)<-(some (ow,l1.length):Option (Array (Option Nat)×Nat))
    let j<-SetTable.layClean.free mask owner (SetTable.turns mask) (SetTable.bits h % (mask+1)) (SetTable.bits h)
    pure (owner.setIfInBounds j (some k),k+1):Option (Array (Option Nat)×Nat))=some (ow.setIfInBounds j (some l1.length),l1.length+1):=by
    show(SetTable.layClean.free mask ow (SetTable.turns mask) (SetTable.bits h % (mask+1)) (SetTable.bits h)).bind _=_
    rw[j1]
    rfl
   rw[st]
   exact a
 obtain⟨ow,a,b⟩:=key hs.toList [] _ rfl (OI.start mask hs.toList)
 refine⟨ow,?_,b⟩
 unfold SetTable.layClean
 rw[<- Array.foldl_toList]
 have a':=congrArg (Option.map Prod.fst) a
 exact a'
theorem QW {α β:Type}{f:α->Option β}{g:α->β}:∀{l:List α},(∀x∈l,f x=some (g x))->l.filterMap f=l.map g
 |[],_=>rfl
 |x::l,h=>by
  rw[List.filterMap_cons,h x (.head _)]
  dsimp only
  rw[QW λx hx=>h x (.tail _ hx),A3]
theorem F6 {α:Type} [DecidableEq α]:∀{a b:List α},a.Nodup->b.Nodup->(∀x,x∈a↔x∈b)->a.Perm b
 |[],b,_,_,h=>by
  cases b with
  |nil=>exact .nil
  |cons y b=>exact absurd ((h y).mpr (.head _)) (by simp)
 |x::a,b,na,nb,h=>by
  have hx:x∈b:=(h x).mp (.head _)
  rw[Br] at na
  have:=F6 (a:=a) (b:=b.erase x) na.2 (nb.erase x) λy=>by
   constructor
   ·intro hy
    have ne:y≠x:=λe=>na.1 (e▸hy)
    exact(List.mem_erase_of_ne ne).mpr ((h y).mp (.tail _ hy))
   ·intro hy
    have ne:y≠x:=λe=>by
     subst e
     exact(List.Nodup.mem_erase_iff nb).mp hy |>.1 rfl
    rcases Ap.mp ((h y).mpr (List.mem_of_mem_erase hy)) with e|e
    ·exact absurd e ne
    ·exact e
  exact(this.cons x).trans (List.perm_cons_erase hx).symm
def LS {mask:Nat}(hm:FC mask)(finger moves:Nat)(led plain:Bool)(es:Array (Int×Value))(hl:es.size<=mask) :
  ∃t order,SetTable.laid mask finger moves led plain (es.map (·.1))=some (t,order)/\t.mask=mask/\t.dummies=#[]/\t.led=led/\t.plain=plain/\(order.filterMap (es[·]?)).toList.Perm es.toList/\TW mask t.place.toList (order.filterMap (es[·]?)).toList:=by
 obtain⟨ow,e,O⟩:=VH hm (es.map (·.1)) (by rw[Array.size_map];exact hl)
 rw[Array.size_map] at O
 have hsz:=O.sz
 generalize hL:(List.range (mask+1)).filterMap (λj=>(ow.getD j none).map (λc=>(j,c)))=L
 have mem:∀(j c:Nat),(j,c)∈L↔ow[j]?=some (some c):=λj c=>by
  rw[<- hL,List.mem_filterMap]
  constructor
  ·rintro⟨a,ha,hb⟩
   have la:a<ow.size:=by have:=Bc.mp ha;ext
   rw[Bo,An la] at hb
   cases q:ow[a] with
   |none=>rw[q] at hb;cases hb
   |some d =>
    rw[q] at hb
    cases hb
    rw[An la,q]
  ·intro h
   have la:=(Array.getElem?_eq_some_iff.mp h).1
   refine⟨j,Bc.mpr (by ext),?_⟩
   rw[Bo,h]
   rfl
 have srt:(L.map (·.1)).Pairwise (·<·):=by
  rw[<- hL,A5]
  refine List.Pairwise.filterMap _ (λa a' hlt b hb b' hb'=>?_) List.pairwise_lt_range
  cases q:ow.getD a none with
  |none=>rw[q] at hb;cases hb
  |some d =>
   cases q':ow.getD a' none with
   |none=>rw[q'] at hb';cases hb'
   |some d' =>
    rw[q] at hb
    rw[q'] at hb'
    cases hb
    cases hb'
    exact hlt
 have snd:∀p∈L,es[p.2]?=some (es.getD p.2 default):=λp hp=>by
  have:=(O.rc p.1 p.2 ((mem p.1 p.2).mp hp)).1
  rw[Bo,An this]
  rfl
 have ee:((L.map (·.2)).toArray.filterMap (es[·]?)).toList=L.map (λp=>es.getD p.2 default):=by
  rw[Array.toList_filterMap,List.filterMap_map]
  exact QW snd
 refine⟨{mask,place:=(L.map (·.1)).toArray,dummies:=#[],finger,led,moves,plain},(L.map (·.2)).toArray,?_,rfl,rfl,rfl,rfl,?_,?_⟩
 ·unfold SetTable.laid
  rw[e]
  show some (_,_)=some (_,_)
  rw[hL]
 ·rw[ee]
  have p1:(L.map (·.2)).Perm (List.range es.size):=by
   refine F6 ?_ List.nodup_range λc=>?_
   ·rw[AG,A5]
    have:=A5.mp srt
    refine BY (λ{a b} ha hb hlt e=>?_) this
    have h1:=(mem a.1 a.2).mp ha
    have h2:=(mem b.1 b.2).mp hb
    rw[e] at h1
    have:=O.inj _ _ _ h1 h2
    ext
   ·rw[Bc,Ah]
    constructor
    ·rintro⟨p,hp,rfl⟩
     exact(O.rc p.1 p.2 ((mem p.1 p.2).mp hp)).1
    ·intro hc
     obtain⟨j,hj⟩:=O.on c hc
     exact⟨(j,c),(mem j c).mpr hj,rfl⟩
  have p2:=p1.map (λc=>es.getD c default)
  rw[AK] at p2
  refine p2.trans ?_
  have:(List.range es.size).map (λc=>es.getD c default)=es.toList:=by
   apply List.ext_getElem
   ·rw[Af,BF,Array.length_toList]
   ·intro i h1 h2
    rw[List.getElem_map,List.getElem_range,Bo]
    rw[Array.length_toList] at h2
    rw[An h2]
    rfl
  rw[this]
 ·rw[ee]
  have ll:(L.map (λp=>es.getD p.2 default)).length=es.size:=by
   have:L.length=es.size:=by
    have nd:(L.map (·.2)).Nodup:=by
     rw[AG,A5]
     have:=A5.mp srt
     refine BY (λ{a b} ha hb hlt e=>?_) this
     have h1:=(mem a.1 a.2).mp ha
     have h2:=(mem b.1 b.2).mp hb
     rw[e] at h1
     have:=O.inj _ _ _ h1 h2
     ext
    have a:=Lv (b:=List.range es.size) nd λc hc=>by
     obtain⟨p,hp,rfl⟩:=Ah.mp hc
     exact Bc.mpr (O.rc p.1 p.2 ((mem p.1 p.2).mp hp)).1
    have b:=Lv (a:=List.range es.size) (b:=L.map (·.2)) List.nodup_range λc hc=>by
     obtain⟨j,hj⟩:=O.on c (Bc.mp hc)
     exact Ah.mpr ⟨(j,c),(mem j c).mpr hj,rfl⟩
    rw[Af,BF] at a b
    ext
   rw[Af,this]
  have occ:∀j,Occ ow j↔j∈L.map (·.1):=λj=>by
   rw[Ah]
   constructor
   ·rintro⟨c,hc⟩
    exact⟨(j,c),(mem j c).mpr hc,rfl⟩
   ·rintro⟨p,hp,rfl⟩
    exact⟨p.2,(mem p.1 p.2).mp hp⟩
  refine⟨srt,by rw[Af,Af],hm,by rw[ll];exact hl,λj hj=>?_,λi j e' h1 h2=>?_⟩
  ·obtain⟨c,hc⟩:=(occ j).mpr hj
   have:=(Array.getElem?_eq_some_iff.mp hc).1
   ext
  ·have h1':(L.map (·.1))[i]?=some j:=h1
   rw[Am] at h1' h2
   cases q:L[i]? with
   |none=>rw[q] at h1';cases h1'
   |some p =>
    rw[q] at h1' h2
    have e1:p.1=j:=AH h1'
    have e2:es.getD p.2 default=e':=AH h2
    have hp:=Ag q
    obtain⟨a,hc,b,n,n1,n2,n3⟩:=O.rc p.1 p.2 ((mem p.1 p.2).mp hp)
    have:hc=e'.1:=by
     rw[Array.toList_map,Am,Aq,snd p hp,e2] at b
     exact(AH b).symm
    subst this
    exact⟨n,n1,by rw[n2,e1],λm hm=>(occ _).mp (n3 m hm)⟩
section
variable {prog:Program}{w:World}{A:Around}{E:Value->Zaa}{s:Shared}
def Hb {i t:Addr}{k:Nat}{its:Array Value}{x:Value}{Q:Value->Zaa}(g:s.heap.IsTupleIter i t k)(p:s.heap.IsTuple t its)(e:its[k]?=some x)
  (q:∀h',h'.IsTupleIter i t (k+1)->Heap.SameBut i s.heap h'->Q x {s with heap:=h'}):wpAny (model prog w) A (Builtin.SmallTypes.nextOf (.ref i)) Q E s:=by
 obtain⟨ob,g1,g2,g3⟩:=id g
 obtain⟨tb,p1,p2,n,p3⟩:=p
 (unfold Builtin.SmallTypes.nextOf)
 refine Aa (AV (name:=Str.ofString "__next__") g.typeIs CA (AM CA g.typeIs F.entry_tuple_iterator_next (?_:wpAny _ _ (field (.ref i) 0>>=_) _ _ _) (F.args_tuple_iterator_next_1 _)))
 refine Aa (Bh g1 g3 (x:=.ref t) rfl (?_:wpAny _ _ (if (Value.ref t==Value.none)=true then _ else _) _ _ _))
 have nn:¬ ((Value.ref t==Value.none)=true):=AS
 rw[if_neg nn]
 refine Aa (m:=field (.ref i) 1) (Bh g1 g3 (x:=.int k 0) rfl (?_:wpAny _ _ (seqItems? (.ref t)>>=_) _ _ _))
 refine Aa (A6 p1 p3 ?_)
 simp only[Int.toNat_natCast,e]
 refine Aa (By g1 g3 (by simp) (Ab ⟨x,rfl,Ab (q _ ⟨_,AF _ g1 (Obj.isFreed_of_fields (Obj.data_mapFields g3 _)),(Obj.cls_mapFields ..).trans g2,?_⟩ (Au ..))⟩))
 rw[Obj.data_mapFields g3]
 simp[rawInt]
def Kw {i t:Addr}{k:Nat}{its:Array Value}{Q:Value->Zaa}(hh:A.handled=none)(g:s.heap.IsTupleIter i t k)(p:s.heap.IsTuple t its)(e:its[k]?=none)
  (q:∀h' b,Heap.ExtBut i s.heap h'->(∃o,h'.get? b=some o/\o.cls=.type "StopIteration")->E (.ref b) {s with heap:=h'}):wpAny (model prog w) A (Builtin.SmallTypes.nextOf (.ref i)) Q E s:=by
 obtain⟨ob,g1,g2,g3⟩:=id g
 obtain⟨tb,p1,p2,n,p3⟩:=p
 (unfold Builtin.SmallTypes.nextOf)
 refine Aa (AV (name:=Str.ofString "__next__") g.typeIs CA (AM CA g.typeIs F.entry_tuple_iterator_next (?_:wpAny _ _ (field (.ref i) 0>>=_) _ _ _) (F.args_tuple_iterator_next_1 _)))
 refine Aa (Bh g1 g3 (x:=.ref t) rfl (?_:wpAny _ _ (if (Value.ref t==Value.none)=true then _ else _) _ _ _))
 have nn:¬ ((Value.ref t==Value.none)=true):=AS
 rw[if_neg nn]
 refine Aa (m:=field (.ref i) 1) (Bh g1 g3 (x:=.int k 0) rfl (?_:wpAny _ _ (seqItems? (.ref t)>>=_) _ _ _))
 refine Aa (A6 p1 p3 ?_)
 simp only[Int.toNat_natCast,e]
 refine Aa (Bn (Aa (By g1 g3 (by simp) (?_:wpAny _ _ (newExc (.type "StopIteration") []>>=_) _ _ _))))
 refine Aa ?_
 simp only[newExc,newTuple]
 refine Aa (AZ (Aa (m:=firstArgMember _ _) (wpAny_of_eq (a:=Value.none) (by first|rfl|(simp only[firstArgMember];rfl)) (AZ ?_ (by size_fits)))) (by size_fits))
 simp only[raiseNew]
 refine Aa (wpAny_handled ?_)
 first|rw[show A.in1.handled=none from hh]|rw[hh]
 exact Aa (Ab (wpAny_throw (q _ _ (((Au ..).extBut.push _).push _) ⟨_,Ak _ rfl,rfl⟩)))
def zTu (z TI TO i1 i2 l1 l2:Addr)(k:Nat)(h:Heap):Prop:=
 IsZip h z TI TO .none/\IsPair h TI (.ref i1) (.ref i2)/\(∃a b,IsPair h TO a b)/\h.IsTupleIter i1 l1 k/\h.IsTupleIter i2 l2 k
def QQ {z TI TO i1 i2 l1 l2:Addr}{k:Nat}{xs ys:Array Value}{x y:Value}{Q:Value->Zaa}(D:ZipApart z TI TO i1 i2 l1 l2)(g:zTu z TI TO i1 i2 l1 l2 k s.heap)
  (p1:s.heap.IsTuple l1 xs) (p2:s.heap.IsTuple l2 ys) (ex:xs[k]?=some x) (ey:ys[k]?=some y)
  (q:∀h',IsZip h' z TI TO (rawInt s.heap.objs.size)->IsPair h' TO x y->h'.IsTupleIter i1 l1 (k+1)->h'.IsTupleIter i2 l2 (k+1)->IsPair h' s.heap.objs.size x y ->
   (∀c o,c≠z->c≠TO->c≠i1->c≠i2->s.heap.get? c=some o->h'.get? c=some o)->Q (.ref s.heap.objs.size) {s with heap:=h'}) :
  wpAny (model prog w) A (Builtin.«zip.__next__» ⟨[.ref z],[]⟩) (λfin s'=>∃v,fin=.done (.ret v)/\Q v s') E s:=by
 obtain⟨g1,g2,⟨a,b,g3⟩,g4,g5⟩:=g
 refine(?_:wpAny _ _ (field (.ref z) 2>>=_) _ _ _)
 refine Aa (Bh g1 rfl (x:=.bool false) rfl (?_:wpAny _ _ (field (.ref z) 3>>=_) _ _ _))
 refine Aa (Bh g1 rfl (x:=.ref TI) rfl (Aa (A6 g2 rfl (?_:wpAny _ _ (Builtin.SmallTypes.ownedTupleIsFree (.ref z)>>=_) _ _ _))))
 refine Aa ?_
 (unfold Builtin.SmallTypes.ownedTupleIsFree)
 refine Aa (Bh g1 rfl (x:=.none) rfl (Ab ?_))
 simp only[if_true]
 refine Aa (Bn (Aa (Bh g1 rfl (x:=.ref TO) rfl (Aa (Bk g1 (by simp) λq1 z1 b1=>?_)))))
 replace z1:IsZip q1 z TI TO .ellipsis:=z1
 refine Aa ?_
 simp only[List.zipIdx_cons,List.zipIdx_nil,BK,List.forIn_nil]
 refine Aa (Aa (Cg (?_:wpAny _ _ (Builtin.SmallTypes.nextOf (.ref i1)>>=_) _ _ _)))
 refine Aa (Hb (g4.extBut b1.extBut D.i1z) (p1.extBut b1.extBut D.l1z) ex λq2 n1 b2=>Ab ?_)
 have o2:IsPair q2 TO a b:=b2.extBut _ _ D.TOi1 (b1.extBut _ _ D.TOz g3)
 refine Aa (A6 o2 rfl (Aa (wpAny_updateSeq_pair o2 λq3 o3 b3=>Aa (wpAny_letGo (Ab ?_)))))
 replace o3:IsPair q3 TO x b:=o3
 refine Aa (Aa (Cg (?_:wpAny _ _ (Builtin.SmallTypes.nextOf (.ref i2)>>=_) _ _ _)))
 refine Aa (Hb (((g5.extBut b1.extBut D.i2z).extBut b2.extBut D.i12.symm).extBut b3.extBut D.TOi2.symm) (((p2.extBut b1.extBut D.l2z).extBut b2.extBut D.l2i1).extBut b3.extBut D.l2TO) ey λq4 n2 b4=>Ab ?_)
 have o4:IsPair q4 TO x b:=b4.extBut _ _ D.TOi2 o3
 refine Aa (A6 o4 rfl (Aa (wpAny_updateSeq_pair o4 λq5 o5 b5=>Aa (wpAny_letGo (Ab (Ab ?_))))))
 replace o5:IsPair q5 TO x y:=o5
 refine Aa (A6 o5 rfl (Aa (wpAny_newTuple ?_)))
 have sz:q5.objs.size=s.heap.objs.size:=by rw[b5.1,b4.1,b3.1,b2.1,b1.1]
 have z5:IsZip q5 z TI TO .ellipsis:=b5.extBut _ _ D.TOz.symm (b4.extBut _ _ D.i2z.symm (b3.extBut _ _ D.TOz.symm (b2.extBut _ _ D.i1z.symm z1)))
 have k5:∀c o,c≠z->c≠TO->c≠i1->c≠i2->s.heap.get? c=some o->q5.get? c=some o:=λc o d1 d2 d3 d4 e=>b5.extBut _ _ d2 (b4.extBut _ _ d4 (b3.extBut _ _ d2 (b2.extBut _ _ d3 (b1.extBut _ _ d1 e))))
 have m1:q5.IsTupleIter i1 l1 (k+1):=((n1.extBut b3.extBut D.TOi1.symm).extBut b4.extBut D.i12).extBut b5.extBut D.TOi1.symm
 have m2:q5.IsTupleIter i2 l2 (k+1):=n2.extBut b5.extBut D.TOi2.symm
 have zl:q5.objs.size≠z:=BP (Ao z5)
 refine(?_:wpAny _ _ (Builtin.SmallTypes.ownedTupleHandOut (.ref z) (.ref q5.objs.size)>>=_) _ _ _)
 refine Aa ?_
 (unfold Builtin.SmallTypes.ownedTupleHandOut)
 have z6:IsZip (q5.push {cls:=.type "tuple",data:=.seq #[x,y]}) z TI TO .ellipsis:=Ad _ z5
 refine Aa (Bk z6 (by simp) λq7 z7 b7=>?_)
 replace z7:IsZip q7 z TI TO (rawInt q5.objs.size):=z7
 refine Bk z7 (by simp) λq8 z8 b8=>?_
 replace z8:IsZip q8 z TI TO (rawInt q5.objs.size):=z8
 have up:∀c o,c≠z->q5.get? c=some o->q8.get? c=some o:=λc o d e=>b8.extBut _ _ d (b7.extBut _ _ d (Ad _ e))
 have nw:IsPair q8 q5.objs.size x y:=b8.extBut _ _ zl (b7.extBut _ _ zl (Ak _ rfl))
 rw[sz] at z8 nw
 refine Ab ⟨_,rfl,?_⟩
 rw[sz]
 exact q q8 z8 (up _ _ D.TOz o5) (m1.at λo e=>up _ o D.i1z e) (m2.at λo e=>up _ o D.i2z e) nw λc o d1 d2 d3 d4 e=>up c o d1 (k5 c o d1 d2 d3 d4 e)
theorem R6 {z TI TO i1 i2 l1 l2:Addr}{k:Nat}{xs ys:Array Value}{Q:PySem.Fin->Zaa}(hh:A.handled=none)(D:ZipApart z TI TO i1 i2 l1 l2)(g:zTu z TI TO i1 i2 l1 l2 k s.heap)
  (p1:s.heap.IsTuple l1 xs) (p2:s.heap.IsTuple l2 ys) (en:xs[k]?=none\/ys[k]?=none)
  (q:∀h' e,(∀c o,c≠z->c≠TO->c≠i1->c≠i2->s.heap.get? c=some o->h'.get? c=some o)->(∃o,h'.get? e=some o/\o.cls=.type "StopIteration")->E (.ref e) {s with heap:=h'}) :
  wpAny (model prog w) A (Builtin.«zip.__next__» ⟨[.ref z],[]⟩) Q E s:=by
 obtain⟨g1,g2,⟨a,b,g3⟩,g4,g5⟩:=g
 refine(?_:wpAny _ _ (field (.ref z) 2>>=_) _ _ _)
 refine Aa (Bh g1 rfl (x:=.bool false) rfl (?_:wpAny _ _ (field (.ref z) 3>>=_) _ _ _))
 refine Aa (Bh g1 rfl (x:=.ref TI) rfl (Aa (A6 g2 rfl (?_:wpAny _ _ (Builtin.SmallTypes.ownedTupleIsFree (.ref z)>>=_) _ _ _))))
 refine Aa ?_
 (unfold Builtin.SmallTypes.ownedTupleIsFree)
 refine Aa (Bh g1 rfl (x:=.none) rfl (Ab ?_))
 simp only[if_true]
 refine Aa (Bn (Aa (Bh g1 rfl (x:=.ref TO) rfl (Aa (Bk g1 (by simp) λq1 z1 b1=>?_)))))
 replace z1:IsZip q1 z TI TO .ellipsis:=z1
 refine Aa ?_
 simp only[List.zipIdx_cons,List.zipIdx_nil,BK,List.forIn_nil]
 refine Aa (Aa (Cg (?_:wpAny _ _ (Builtin.SmallTypes.nextOf (.ref i1)>>=_) _ _ _)))
 cases ex:xs[k]? with
 |none =>
  refine Aa (Kw hh (g4.extBut b1.extBut D.i1z) (p1.extBut b1.extBut D.l1z) ex λq2 e b2 he=>?_)
  obtain⟨oe,he1,he2⟩:=he
  have z2:IsZip q2 z TI TO .ellipsis:=b2 _ _ D.i1z.symm z1
  have ne:e≠z:=λu=>by subst u;rw[z2] at he1;cases he1;simp at he2
  exact Bk z2 (by simp) λq3 _ b3=>q q3 e (λc o d1 _ d3 _ u=>b3.extBut _ _ d1 (b2 _ _ d3 (b1.extBut _ _ d1 u))) ⟨oe,b3.extBut _ _ ne he1,he2⟩
 |some x =>
  have ey:ys[k]?=none:=en.resolve_left λu=>by rw[ex] at u;cases u
  refine Aa (Hb (g4.extBut b1.extBut D.i1z) (p1.extBut b1.extBut D.l1z) ex λq2 n1 b2=>Ab ?_)
  have o2:IsPair q2 TO a b:=b2.extBut _ _ D.TOi1 (b1.extBut _ _ D.TOz g3)
  refine Aa (A6 o2 rfl (Aa (wpAny_updateSeq_pair o2 λq3 o3 b3=>Aa (wpAny_letGo (Ab ?_)))))
  refine Aa (Aa (Cg (?_:wpAny _ _ (Builtin.SmallTypes.nextOf (.ref i2)>>=_) _ _ _)))
  refine Aa (Kw hh (((g5.extBut b1.extBut D.i2z).extBut b2.extBut D.i12.symm).extBut b3.extBut D.TOi2.symm) (((p2.extBut b1.extBut D.l2z).extBut b2.extBut D.l2i1).extBut b3.extBut D.l2TO) ey λq4 e b4 he=>?_)
  obtain⟨oe,he1,he2⟩:=he
  have z4:IsZip q4 z TI TO .ellipsis:=b4 _ _ D.i2z.symm (b3.extBut _ _ D.TOz.symm (b2.extBut _ _ D.i1z.symm z1))
  have ne:e≠z:=λu=>by subst u;rw[z4] at he1;cases he1;simp at he2
  exact Bk z4 (by simp) λq5 _ b5=>q q5 e (λc o d1 d2 d3 d4 u=>b5.extBut _ _ d1 (b4 _ _ d4 (b3.extBut _ _ d2 (b2.extBut _ _ d3 (b1.extBut _ _ d1 u))))) ⟨oe,b5.extBut _ _ ne he1,he2⟩
def N4 {z TI TO i1 i2 l1 l2:Addr}{k:Nat}{xs ys:Array Value}{x y:Value}{Q:Option Value->Zaa}(D:ZipApart z TI TO i1 i2 l1 l2)(g:zTu z TI TO i1 i2 l1 l2 k s.heap)
  (p1:s.heap.IsTuple l1 xs) (p2:s.heap.IsTuple l2 ys) (ex:xs[k]?=some x) (ey:ys[k]?=some y)
  (q:∀h',IsZip h' z TI TO (rawInt s.heap.objs.size)->IsPair h' TO x y->h'.IsTupleIter i1 l1 (k+1)->h'.IsTupleIter i2 l2 (k+1)->IsPair h' s.heap.objs.size x y ->
   (∀c o,c≠z->c≠TO->c≠i1->c≠i2->s.heap.get? c=some o->h'.get? c=some o)->Q (some (.ref s.heap.objs.size)) {s with heap:=h'}) :
  wpAny (model prog w) A (pyNext (.ref z)) Q E s:=by
 have ty:s.TypeIs (.ref z) "zip":=⟨_,g.1,rfl⟩
 unfold pyNext
 exact Aa (Cf (AV (name:=Str.ofString "__next__") ty Cr (AM Cr ty F.entry_zip_next (QQ D g p1 p2 ex ey λh' a1 a2 a3 a4 a5 a6=>Ab (q h' a1 a2 a3 a4 a5 a6)) (F.args_zip_next_1 _))))
def Nj {z TI TO i1 i2 l1 l2:Addr}{k:Nat}{xs ys:Array Value}{Q:Option Value->Zaa}(hh:A.handled=none)(D:ZipApart z TI TO i1 i2 l1 l2)(g:zTu z TI TO i1 i2 l1 l2 k s.heap)
  (p1:s.heap.IsTuple l1 xs) (p2:s.heap.IsTuple l2 ys) (en:xs[k]?=none\/ys[k]?=none)
  (q:∀h',(∀c o,c≠z->c≠TO->c≠i1->c≠i2->s.heap.get? c=some o->h'.get? c=some o)->Q none {s with heap:=h'}):wpAny (model prog w) A (pyNext (.ref z)) Q E s:=by
 have ty:s.TypeIs (.ref z) "zip":=⟨_,g.1,rfl⟩
 unfold pyNext
 refine Aa (Cf (AV (name:=Str.ofString "__next__") ty Cr (AM Cr ty F.entry_zip_next (R6 hh D g p1 p2 en λh' e hk he=>?_) (F.args_zip_next_1 _))))
 obtain⟨o,ho,hc⟩:=he
 exact Aa (BN (T:="StopIteration") (b:=true) ⟨o,ho,hc⟩ isSubtype_stop (Ab (q _ hk)))
end
abbrev zu1 (h:Heap) (l1:Addr):Heap:=h.push {cls:=.type "tuple_iterator",data:=.fields #[.ref l1,.int 0 0]}
abbrev zu2 (h:Heap) (l1 l2:Addr):Heap:=(zu1 h l1).push {cls:=.type "tuple_iterator",data:=.fields #[.ref l2,.int 0 0]}
abbrev zu3 (h:Heap) (l1 l2:Addr):Heap:=(zu2 h l1 l2).push {cls:=.type "tuple",data:=.seq #[.ref h.objs.size,.ref (zu1 h l1).objs.size]}
abbrev zu4 (h:Heap) (l1 l2:Addr):Heap:=(zu3 h l1 l2).push {cls:=.type "tuple",data:=.seq #[.none,.none]}
abbrev zu5 (h:Heap) (l1 l2:Addr):Heap:=(zu4 h l1 l2).push {cls:=.type "zip",data:=.fields #[.none,.bool false,.bool false,.ref (zu2 h l1 l2).objs.size,.ref (zu3 h l1 l2).objs.size]}
def W2 (l1 l2:Addr)(xs ys:Array Value):Meets (Builtin.«zip.__new__» ⟨[.type "zip",.ref l1,.ref l2],[]⟩) (λ_ R s=>s.heap.IsTuple l1 xs/\s.heap.IsTuple l2 ys/\R (.ok (.ret (.ref (zu4 s.heap l1 l2).objs.size))) {s with heap:=zu5 s.heap l1 l2}):=
 .of_wp λprog w A R s h=>by
  obtain⟨hp,gn,dr,tk,os⟩:=s
  obtain⟨t1,t2,h⟩:=h
  have hsub:=sub_zip
  have u1:Heap.IsTuple (Shared.heap ⟨hp,gn,dr,tk,os⟩) l1 xs:=t1
  have u2:Heap.IsTuple (Shared.heap ⟨hp.push {cls:=.type "tuple_iterator",data:=.fields #[.ref l1,.int 0 0]},gn,dr,tk,os⟩) l2 ys:=Heap.IsTuple.push t2 _
  wp_walk using B9 u1,B9 u2
  exact⟨_,rfl,h⟩
def S0 {prog:Program}{w:World}{A:Around}{E:Value->Zaa}{s:Shared}{l1 l2:Addr}{xs ys:Array Value}{Q:Value->Zaa}(p1:s.heap.IsTuple l1 xs)(p2:s.heap.IsTuple l2 ys)
  (q:∀h',zTu (s.heap.objs.size+4) (s.heap.objs.size+2) (s.heap.objs.size+3) s.heap.objs.size (s.heap.objs.size+1) l1 l2 0 h'->(∀c o,s.heap.get? c=some o->h'.get? c=some o)->Q (.ref (s.heap.objs.size+4)) {s with heap:=h'}) :
  wpAny (model prog w) A (call (.type "zip") [.ref l1,.ref l2]) Q E s:=by
 refine callType_new F.called_zip (by decide) (F.typeCall_zip_2 _ _) (F.newCall_zip_2 _ _) (λobj=>F.args_object_init_3 obj _ _) F.entry_zip_new (W2 l1 l2 xs ys) ⟨p1,p2,?_⟩
 have n1:(zu1 s.heap l1).objs.size=s.heap.objs.size+1:=Ba ..
 have n2:(zu2 s.heap l1 l2).objs.size=s.heap.objs.size+2:=by rw[Ba,n1]
 have n3:(zu3 s.heap l1 l2).objs.size=s.heap.objs.size+3:=by rw[Ba,n2]
 have n4:(zu4 s.heap l1 l2).objs.size=s.heap.objs.size+4:=by rw[Ba,n3]
 have e5:(zu5 s.heap l1 l2).get? (zu4 s.heap l1 l2).objs.size=some _:=Ak _ rfl
 have e4:(zu4 s.heap l1 l2).get? (zu3 s.heap l1 l2).objs.size=some _:=Ak _ rfl
 have e3:(zu3 s.heap l1 l2).get? (zu2 s.heap l1 l2).objs.size=some _:=Ak _ rfl
 have e2:(zu2 s.heap l1 l2).get? (zu1 s.heap l1).objs.size=some _:=Ak _ rfl
 have e1:(zu1 s.heap l1).get? s.heap.objs.size=some _:=Ak _ rfl
 have w5:∀c o,(zu4 s.heap l1 l2).get? c=some o->(zu5 s.heap l1 l2).get? c=some o:=λc o e=>Ad _ e
 have w4:∀c o,(zu3 s.heap l1 l2).get? c=some o->(zu5 s.heap l1 l2).get? c=some o:=λc o e=>w5 c o (Ad _ e)
 have w3:∀c o,(zu2 s.heap l1 l2).get? c=some o->(zu5 s.heap l1 l2).get? c=some o:=λc o e=>w4 c o (Ad _ e)
 have w2:∀c o,(zu1 s.heap l1).get? c=some o->(zu5 s.heap l1 l2).get? c=some o:=λc o e=>w3 c o (Ad _ e)
 have w1:∀c o,s.heap.get? c=some o->(zu5 s.heap l1 l2).get? c=some o:=λc o e=>w2 c o (Ad _ e)
 have f4:=w5 _ _ e4
 have f3:=w4 _ _ e3
 have f2:=w3 _ _ e2
 have f1:=w2 _ _ e1
 refine(?_:_/\_)
 rw[n2,n3,n4] at e5
 rw[n1,n2] at f3
 rw[n3] at f4
 rw[n1] at f2
 rw[n4]
 exact⟨⟨_,e5,rfl⟩,q _ ⟨e5,f3,⟨_,_,f4⟩,⟨_,f1,rfl,rfl⟩,⟨_,f2,rfl,rfl⟩⟩ w1⟩
def Xx (K:W.Frag)(a b:Addr):It:=
 ⟨λi H=>∃xs ys x y,SqT K H a xs/\SqT K H b ys/\xs[i]?=some x/\ys[i]?=some y,
  λi H v H'=>∃T x y,v=.ref T/\H T=none/\H'=upd H T (.tup [x,y])/\(∀xs,SqT K H a xs->xs[i]?=some x)/\∀ys,SqT K H b ys->ys[i]?=some y,
  λi H=>∃xs ys,SqT K H a xs/\SqT K H b ys/\(xs.length<=i\/ys.length<=i)⟩
def Pe {P:Program}{w:World}{K:W.Frag}{elts:List Expr}{k:Nat}{pos:Pos}(z TI TO i1 i2 l1 l2:Addr)(D:ZipApart z TI TO i1 i2 l1 l2) :
  Turn P w K (.Tuple elts k pos) (Xx K l1 l2) [z,TI,TO,i1,i2] z (zTu z TI TO i1 i2 l1 l2) where
 mem:=by simp
 obj:=λi h st b hb=>by
  obtain⟨h1,h2,⟨_,_,h3⟩,⟨o4,h4,_,d4⟩,⟨o5,h5,_,d5⟩⟩:=st
  have hb':b=z\/b=TI\/b=TO\/b=i1\/b=i2:=by simpa using hb
  rcases hb' with e|e|e|e|e<;>subst e
  ·exact⟨_,h1,λv e=>by cases e⟩
  ·exact⟨_,h2,λv e=>by cases e⟩
  ·exact⟨_,h3,λv e=>by cases e⟩
  ·exact⟨_,h4,λv e=>by rw[d4] at e;cases e⟩
  ·exact⟨_,h5,λv e=>by rw[d5] at e;cases e⟩
 keep:=λi h h' st kk=>by
  obtain⟨h1,h2,⟨a,b,h3⟩,h4,h5⟩:=st
  exact⟨kk z (by simp) _ h1,kk TI (by simp) _ h2,⟨a,b,kk TO (by simp) _ h3⟩,h4.at λo e=>kk i1 (by simp) o e,h5.at λo e=>kk i2 (by simp) o e⟩
 item:=by
  intro X hP hw hK hc i pj s σ H E I hf st hg
  subst hP hw hK
  obtain⟨xs,ys,x,y,hq1,hq2,hx,hy⟩:=hg
  obtain⟨its1,rv1,p1,hz1⟩:=I.tuple hq1
  obtain⟨its2,rv2,p2,hz2⟩:=I.tuple hq2
  obtain⟨u1,hu1,ru1⟩:=rv1.get hx
  obtain⟨u2,hu2,ru2⟩:=rv2.get hy
  obtain⟨h1,h2,⟨a,b,h3⟩,h4,h5⟩:=st
  have D':=D
  refine N4 D ⟨h1,h2,⟨a,b,h3⟩,h4,h5⟩ (show s.heap.IsTuple l1 its1.toArray from p1) (show s.heap.IsTuple l2 its2.toArray from p2) (x:=u1) (y:=u2) (by simpa using hu1) (by simpa using hu2) λh' a1 a2 a3 a4 a5 hk=>?_
  have lt:∀{c:Addr}{o:Obj},s.heap.get? c=some o->c≠s.heap.objs.size:=λe=>Ax (Ao e)
  refine⟨_,rfl,wpAny_letOwnedTupleGo_zip a1 λh'' b1 sb=>?_⟩
  have nT:s.heap.objs.size≠z:=Ne.symm (lt h1)
  have kk:∀b o,b∉[z,TI,TO,i1,i2]->s.heap.get? b=some o->h''.get? b=some o:=λb o hb e=>by
   simp only[Ap,AR,BM,not_or] at hb
   exact(sb.2 b hb.1).trans (hk b o hb.1 hb.2.2.1 hb.2.2.2.1 hb.2.2.2.2 e)
  have I1:Inv X pj σ H {s with heap:=h'',toks:=s.toks}:=I.turnedL kk hf
  have hn:H s.heap.objs.size=none:=I.hok.fresh (Ai _)
  have fT:HJ X pj H s.heap.objs.size:=I.fpOk (Ai _) hn
  have I2:Inv X pj σ (upd H s.heap.objs.size (.tup [x,y])) {s with heap:=h'',toks:=s.toks}:=I1.lay fT I.sz
   ⟨⟨by show 2<=sizeLine;decide,_,(sb.2 _ nT).trans a5,rfl⟩,[u1,u2],.cons ru1 (.cons ru2 .nil),⟨_,(sb.2 _ nT).trans a5,rfl,_,rfl⟩⟩
  refine⟨.ref s.heap.objs.size,_,I2,rfl,⟨_,x,y,rfl,hn,rfl,λxs' hx'=>by rw[I.tuple_inj hx' hq1];exact hx,λys' hy'=>by rw[I.tuple_inj hy' hq2];exact hy⟩,?_,λb hb=>?_⟩
  ·exact⟨b1,(sb.2 _ D.TIz).trans (hk _ _ D.TIz D.TITO D.TIi1 D.TIi2 h2),⟨_,_,(sb.2 _ D.TOz).trans a2⟩,a3.at λo e=>(sb.2 _ D.i1z).trans e,a4.at λo e=>(sb.2 _ D.i2z).trans e⟩
  ·have hb':b=z\/b=TI\/b=TO\/b=i1\/b=i2:=by simpa using hb
   have ne:b≠s.heap.objs.size:=by
    obtain⟨o4,e4,_⟩:=h4
    obtain⟨o5,e5,_⟩:=h5
    rcases hb' with e|e|e|e|e<;>subst e
    ·exact lt h1
    ·exact lt h2
    ·exact lt h3
    ·exact lt e4
    ·exact lt e5
   rw[Dp ne]
   exact(hf b hb).1
 done:=by
  intro X hP hw hK hc i pj s σ H E I hf st hg
  subst hP hw hK
  obtain⟨xs,ys,hq1,hq2,hend⟩:=hg
  obtain⟨its1,rv1,p1,hz1⟩:=I.tuple hq1
  obtain⟨its2,rv2,p2,hz2⟩:=I.tuple hq2
  obtain⟨h1,h2,⟨a,b,h3⟩,h4,h5⟩:=st
  have n1:=rv1.length
  have n2:=rv2.length
  refine Nj (I.ok.hd hc) D ⟨h1,h2,⟨a,b,h3⟩,h4,h5⟩ (show s.heap.IsTuple l1 its1.toArray from p1) (show s.heap.IsTuple l2 its2.toArray from p2) (by
   rcases hend with e|e
   ·exact .inl (by simp;ext)
   ·exact .inr (by simp;ext)) λh' hk=>⟨rfl,I.turnedL (t':=s.toks) (λb o hb e=>?_) hf⟩
  simp only[Ap,AR,BM,not_or] at hb
  exact hk b o hb.1 hb.2.2.1 hb.2.2.2.1 hb.2.2.2.2 e
 self:=λA i s Q E st h=>wpAny_pyIter_zip st.1 h
def Yn (K:W.Frag)(ta:TA):TI:=fun σ H R=>ta σ H λvs H1=>∃a b,vs=[.ref a,.ref b]/\(∃xs,SqT K H1 a xs)/\(∃ys,SqT K H1 b ys)/\R (Xx K a b) H1
def UB {X:Cx}{a b:Expr}{ta:TA}{p pos:Pos}{elts:List Expr}{k:Nat}{tp:Pos}(hg:Gl X "zip")(hm:X.mg "zip"=none)(hz:bootBuiltins "zip"=some (.type "zip"))(ha:PA X [a,b] ta)(hs:starEach [a,b] X.env=[(false,eval a X.env),(false,eval b X.env)]:=by rfl)(hs2:starEach [b] X.env=[(false,eval b X.env)]:=by rfl) :
  PI X (.Tuple elts k tp) (.Call (.Name "zip" p) [a,b] [] pos) (Yn X.K ta):=by
 intro pj s σ H R I h
 refine Call_ (Kq I hg hm hz (Cw (thn (ha pos pj s σ H _ I h) λus s1 ⟨vs,H1,I1,r1,q1⟩=>?_) (by rw[hs,hs2]) (by rw[hs2];rfl)))
 obtain⟨a1,a2,e,⟨xs,hx⟩,⟨ys,hy⟩,q⟩:=q1
 subst e
 obtain⟨u1,u2,rfl,ra,rb⟩:=vals2 r1
 cases ra
 cases rb
 obtain⟨its1,rv1,p1,_⟩:=I1.tuple hx
 obtain⟨its2,rv2,p2,_⟩:=I1.tuple hy
 have lt1:a1<s1.heap.objs.size:=by obtain⟨o,e,_⟩:=p1;exact Ao e
 have lt2:a2<s1.heap.objs.size:=by obtain⟨o,e,_⟩:=p2;exact Ao e
 refine S0 (show s1.heap.IsTuple a1 its1.toArray from p1) (show s1.heap.IsTuple a2 its2.toArray from p2) λh' zt hk=>?_
 refine wpAny_pyIter_zip zt.1 ?_
 refine⟨s1.heap.objs.size+4,[s1.heap.objs.size+4,s1.heap.objs.size+2,s1.heap.objs.size+3,s1.heap.objs.size,s1.heap.objs.size+1],_,_,H1,rfl,I1.kept (t':=s1.toks) λb o e=>hk b o e,
  Pe _ _ _ _ _ a1 a2 ?_,zt,λb hb=>?_,q⟩
 ·exact Gh _ _ _ lt1 lt2
 ·have hle:s1.heap.objs.size<=b:=by
   have hb':b=s1.heap.objs.size+4\/b=s1.heap.objs.size+2\/b=s1.heap.objs.size+3\/b=s1.heap.objs.size\/b=s1.heap.objs.size+1:=by simpa using hb
   rcases hb' with rfl|rfl|rfl|rfl|rfl<;>simp
  exact I1.fpOk hle (I1.hok.fresh hle)
section
variable {X:Cx}{K:Zc}{th:List Addr}{mu:Sto}{H:Hp}
def PY (ds:List D):Option (List D×List D):=match ds with
 |[.tup xs,.tup ys]=>some (xs,ys)
 |_=>none
def QK {ds:List D}{p:List D×List D}(h:PY ds=some p):ds=[.tup p.1,.tup p.2]:=by
 unfold PY at h
 split at h
 ·cases h;rfl
 ·cases h
def Rn (a:Exs):Ix:=λro mu=>bM (a ro mu) λds m1=>(PY ds).map λp=>((HN p.1 p.2,none),m1)
theorem MG {a b:Expr}{m:Exs}{p pos:Pos}{elts:List Expr}{k:Nat}{tp:Pos}(hm:X.mg "zip"=none)(ha:SVA X [a,b] m)(hg:Gl X "zip":=by rfl)(hs:starEach [a,b] X.env=[(false,eval a X.env),(false,eval b X.env)]:=by rfl)(hs2:starEach [b] X.env=[(false,eval b X.env)]:=by rfl) :
  SVI X (.Tuple elts k tp) (.Call (.Name "zip" p) [a,b] [] pos) (Rn m):=⟨PI.weak (UB hg hm PyProof.Rows.boot_zip ha.1 hs hs2) λst H R h=>by
 obtain⟨th,mu,ro,so,en,t⟩:=h
 refine⟨th,mu,ro,so,en,t.bind.mono λds th1 mu1 H1 e1 s1 t1 vs rvs=>?_⟩
 cases q:PY ds with
 |none=>rw[q] at t1;exact t1.no.elim
 |some pr =>
  rw[q] at t1
  rw[QK q] at rvs
  obtain⟨xs,ys⟩:=pr
  obtain⟨x,y,rfl,rx,ry⟩:=GH rvs
  unfold Rep at rx ry
  obtain⟨a1,us,rfl,h1,l1,z1⟩:=rx
  obtain⟨a2,ws,rfl,h2,l2,z2⟩:=ry
  refine⟨a1,a2,rfl,⟨us,h1⟩,⟨ws,h2⟩,t1.ret s1 _ ⟨?_,λth' mu' H' e s' go i d ed=>?_,λth' mu' H' e s' go=>?_⟩⟩
  ·show(HN xs ys).length<=sizeLine
   unfold HN
   rw[Af,BS]
   exact AU (Nat.min_le_left _ _) z1
  ·have g1:=e.sqT s1.out h1
   have g2:=e.sqT s1.out h2
   have ed':(HN xs ys)[i]?=some d:=ed
   unfold HN at ed'
   rw[Am] at ed'
   cases q3:(xs.zip ys)[i]? with
   |none=>rw[q3] at ed';cases ed'
   |some pq =>
    rw[q3] at ed'
    have hd:D.tup [pq.1,pq.2]=d:=by simpa using ed'
    subst hd
    obtain⟨hx,hy⟩:=AE.mp q3
    obtain⟨v1,ev1,rv1⟩:=(l1.ext e s1.out).get hx
    obtain⟨v2,ev2,rv2⟩:=(l2.ext e s1.out).get hy
    refine⟨⟨us,ws,v1,v2,g1,g2,ev1,ev2⟩,λv H2 y=>?_⟩
    obtain⟨T,x',y',rfl,hT,rfl,f1,f2⟩:=y
    have ex:=f1 us g1
    have ey:=f2 ws g2
    rw[ev1] at ex
    rw[ev2] at ey
    cases ex
    cases ey
    exact⟨.new hT _,s'.new hT _,Rep.newTup s' hT (.cons rv1 (.cons rv2 .nil)) (by show 2<=sizeLine;decide)⟩
  ·have g1:=e.sqT s1.out h1
   have g2:=e.sqT s1.out h2
   refine⟨us,ws,g1,g2,?_⟩
   show us.length<=(HN xs ys).length\/ws.length<=(HN xs ys).length
   unfold HN
   rw[Af,BS,l1.len,l2.len]
   dsimp only
   ext⟩
end
mutual
def DZ (n:Nat):D->Bool
 |.ref k=>decide (k<n)
 |.tup ds=>Fy n ds
 |.lst ds=>Fy n ds
 |.dct ks ds=>Fy n ks&&Fy n ds
 |.set ds=>Fy n ds
 |_=>true
def Fy (n:Nat):List D->Bool
 |[]=>true
 |d::ds=>DZ n d&&Fy n ds
end
def MT (n:Nat):MO->Bool
 |.lst ds=>Fy n ds
 |.dct ks ds=>Fy n ks&&Fy n ds
def Ku (g:D->Option D):List D->Option (List D)
 |[]=>some []
 |d::ds=>match g d,Ku g ds with
  |some d',some ds'=>some (d'::ds')
  |_,_=>none
def frz (n:Nat)(mu:Sto):Nat->D->Option D
 |0,d=>if DZ n d=true then some d else none
 |f+1,d=>if DZ n d=true then some d else match d with
  |.ref k=>match mu[k]? with
   |some (.lst ds)=>(Ku (frz n mu f) ds).map .lst
   |some (.dct ks ds)=>if Fy n ks=true then (Ku (frz n mu f) ds).map (.dct ks) else none
   |none=>none
  |.tup ds=>(Ku (frz n mu f) ds).map .tup
  |.lst ds=>(Ku (frz n mu f) ds).map .lst
  |_=>none
def KO (mu m1:Sto)(d:D):Rs D:=match frz mu.length m1 3 d with
 |some d'=>if (m1.take mu.length).all (MT mu.length)=true then some (d',m1.take mu.length) else none
 |none=>none
def fnG (n:Nat)(m:Sx):Fn:=λds mu=>bM (m (ds.map some++List.replicate (n-ds.length) none) mu) λp m1=>match p.1 with
 |.rt d=>KO mu m1 d
 |.nx=>KO mu m1 .non
 |_=>none
section
variable {K:Zc}{th th1 more:List Addr}{H:Hp}{mu:Sto}
mutual
theorem LB (pre:th1=th++more):∀{d:D}{v:V},DZ th.length d=true->Rep K th1 H d v->Rep K th H d v
 |.non,_,_,h=>h
 |.bl _,_,_,h=>h
 |.int _,_,_,h=>h
 |.str _,_,_,h=>h
 |.tup ds,_,l,h=>by
  unfold DZ at l
  unfold Rep at h ⊢
  obtain⟨a,vs,q,h1,h2,z⟩:=h
  exact⟨a,vs,q,h1,EH pre l h2,z⟩
 |.lst ds,_,l,h=>by
  unfold DZ at l
  unfold Rep at h ⊢
  obtain⟨a,vs,q,h1,h2,z⟩:=h
  exact⟨a,vs,q,h1.imp (λw=>⟨λz=>w.1 (by rw[pre];exact Bw _ z),w.2⟩) id,EH pre l h2,z⟩
 |.dct ks ds,_,l,h=>by
  unfold DZ at l
  rw[Ac] at l
  unfold Rep at h ⊢
  obtain⟨a,xs,q,n,h1,h2,h3,h4,h5⟩:=h
  exact⟨a,xs,q,λz=>n (by rw[pre];exact Bw _ z),h1,h2,EH pre l.1 h3,EH pre l.2 h4,h5⟩
 |.set ds,_,l,h=>by
  unfold DZ at l
  unfold Rep at h ⊢
  obtain⟨a,us,vs,q,n,h1,h2,h3,h4⟩:=h
  exact⟨a,us,vs,q,λz=>n (by rw[pre];exact Bw _ z),h1,h2,EH pre l h3,h4⟩
 |.ref k,_,l,h=>by
  unfold DZ at l
  rw[Aj] at l
  unfold Rep at h ⊢
  obtain⟨a,q,h1⟩:=h
  rw[pre,As l] at h1
  exact⟨a,q,h1⟩
theorem EH (pre:th1=th++more):∀{ds:List D}{vs:List V},Fy th.length ds=true->RepL K th1 H ds vs->RepL K th H ds vs
 |[],_,_,h=>by rw[h.inv0];exact .nil
 |d::ds,_,l,h=>by
  unfold Fy at l
  rw[Ac] at l
  obtain⟨v,r,rfl,h1,h2⟩:=h.inv
  exact .cons (LB pre l.1 h1) (EH pre l.2 h2)
end
theorem GY {g:D->Option D}(hg:∀d d' v,g d=some d'->Rep K th1 H d v->Rep K th H d' v):∀{ds ds':List D}{vs:List V},Ku g ds=some ds'->RepL K th1 H ds vs->RepL K th H ds' vs/\ds'.length=ds.length
 |[],ds',vs,e,h=>by cases e;rw[h.inv0];exact⟨.nil,rfl⟩
 |d::ds,ds',vs,e,h=>by
  obtain⟨v,r,rfl,h1,h2⟩:=h.inv
  unfold Ku at e
  split at e
  ·rename_i d2 ds2 e1 e2
   cases e
   obtain⟨a,b⟩:=GY hg e2 h2
   exact⟨.cons (hg _ _ _ e1 h1) a,by simp[b]⟩
  ·cases e
theorem OQ (so:StoOk K th1 mu H)(pre:th1=th++more):∀(f:Nat) (d d':D) (v:V),frz th.length mu f d=some d'->Rep K th1 H d v->Rep K th H d' v
 |0,d,d',v,e,h=>by
  unfold frz at e
  split at e
  ·rename_i c;cases e;exact LB pre c h
  ·cases e
 |f+1,d,d',v,e,h=>by
  have ih:=OQ so pre f
  unfold frz at e
  split at e
  ·rename_i c;cases e;exact LB pre c h
  ·rename_i c
   have kp:∀{k:Nat}{a:Addr},¬ k<th.length->th1[k]?=some a->a∉th:=λ{k a} hk ha z=>by
    obtain⟨i,hi,ei⟩:=List.mem_iff_getElem.mp z
    have:th1[i]?=some a:=by rw[pre,As hi,Al hi,ei]
    have:=UZ so.nd this ha
    ext
   split at e
   ·rename_i k
    have hk:¬ k<th.length:=by unfold DZ at c;simpa using c
    unfold Rep at h
    obtain⟨a,rfl,ha⟩:=h
    split at e
    ·rename_i ds em
     cases q:Ku (frz th.length mu f) ds with
     |none=>rw[q] at e;cases e
     |some ds' =>
      rw[q] at e
      cases e
      obtain⟨vs,h1,h2,h3⟩:=so.at' k a _ ha em
      obtain⟨r1,r2⟩:=GY ih q h2
      unfold Rep
      exact⟨a,vs,rfl,.inl ⟨kp hk ha,.inl h1⟩,r1,by rw[r2];exact h3⟩
    ·rename_i ks ds em
     split at e
     ·rename_i lk
      cases q:Ku (frz th.length mu f) ds with
      |none=>rw[q] at e;cases e
      |some ds' =>
       rw[q] at e
       cases e
       obtain⟨xs,h1,h2,h3,h4,h5⟩:=so.at' k a _ ha em
       obtain⟨r1,r2⟩:=GY ih q h4
       unfold Rep
       exact⟨a,xs,rfl,kp hk ha,h1,h2,EH pre lk h3,r1,h5⟩
     ·cases e
    ·cases e
   ·rename_i ds
    cases q:Ku (frz th.length mu f) ds with
    |none=>rw[q] at e;cases e
    |some ds' =>
     rw[q] at e
     cases e
     unfold Rep at h ⊢
     obtain⟨a,vs,rfl,h1,h2,h3⟩:=h
     obtain⟨r1,r2⟩:=GY ih q h2
     exact⟨a,vs,rfl,h1,r1,by rw[r2];exact h3⟩
   ·rename_i ds
    cases q:Ku (frz th.length mu f) ds with
    |none=>rw[q] at e;cases e
    |some ds' =>
     rw[q] at e
     cases e
     unfold Rep at h ⊢
     obtain⟨a,vs,rfl,h1,h2,h3⟩:=h
     obtain⟨r1,r2⟩:=GY ih q h2
     exact⟨a,vs,rfl,h1.imp (λw=>⟨λz=>w.1 (by rw[pre];exact Bw _ z),w.2⟩) id,r1,by rw[r2];exact h3⟩
   ·cases e
def Ut (so:StoOk K th1 mu H)(pre:th1=th++more)(hl:(mu.take th.length).all (MT th.length)=true):StoOk K th (mu.take th.length) H:=by
 have len:th.length<=mu.length:=by rw[<- so.len,pre,Ar];ext
 refine⟨by rw[AA];ext,?_,λk a o e1 e2=>?_⟩
 ·have:=so.nd
  rw[pre] at this
  exact(BQ.mp this).1
 ·have hk:=(Ae.mp e1).1
  rw[A9 hk] at e2
  have q:=so.at' k a o (by rw[pre,As hk];exact e1) e2
  have lo:=AB.mp hl o (Ag (by rw[A9 hk];exact e2))
  cases o with
  |lst ds=>obtain⟨vs,q1,q2,z⟩:=q;exact⟨vs,q1,EH pre lo q2,z⟩
  |dct ks ds =>
   unfold MT at lo
   rw[Ac] at lo
   obtain⟨xs,q1,q2,q3,q4,z⟩:=q
   exact⟨xs,q1,q2,EH pre lo.1 q3,EH pre lo.2 q4,z⟩
end
def HV {P:Program}{w:World}{K:W.Frag}{mg:Str->Option Value}{base:Heap}{x qual:Str}{st:Stmt}{f:Addr}{fd:FuncData}{N ps:List Str}{k:Nat}{m:Sx}(n j:Nat)(F:Fun K x qual st f fd)(S:DG N ps (CO st))(hn:N.length=n)(hj:ps.length=j)
  (hbody:∀(cdv:Value) (A:Around) (outer:List Env) (s:Shared) (H:Hp) (E:XK),Room k (A.deeper (envOfC qual (CO st) s.heap.objs.size f cdv)) ->
   SVB (KJ CX0 P w K mg base N qual (CO st) f cdv A outer s H E).nox (EK st) m):E7 P w K mg base CX0 (k+1) f fd ps (spF ⟨K,P,w⟩ (fnG n m) j):=by
 subst hn hj
 refine F.ok S (λvs H Q E h=>?_) (λcdv A outer s H vs Q E hr h=>?_)
 ·obtain⟨th,mu,ds,_,r,hl,_⟩:=h
  rw[r.len]
  exact hl
 ·obtain⟨th,mu,ds,so,r,hl,t⟩:=h
  refine⟨_,(hbody cdv A outer s H E hr).r,?_⟩
  obtain⟨d0,mu0,e0,q0⟩:=id t
  obtain⟨p,m1,e1,e2⟩:=Fi e0
  refine⟨th,mu,_,so,Jg r,p,m1,e1,λth1 H1 x1 s1 st' en'=>?_⟩
  obtain⟨fl,ro'⟩:=p
  obtain⟨more,pre⟩:=x1.pre
  have done:∀(d:D) (v:V),KO mu m1 d=some (d0,mu0)->Rep ⟨K,P,w⟩ th1 H1 d v->Q v H1:=λd v ec rv=>by
   unfold KO at ec
   split at ec
   ·rename_i d' ef
    split at ec
    ·rename_i hl
     cases ec
     rw[<- so.len] at ef hl q0
     exact q0 th H1 ⟨⟨[],by simp⟩,λ_ _ n _=>n,x1.keep⟩ (Ut s1 pre hl) v (OQ s1 pre 3 d d0 v ef rv)
    ·cases ec
   ·cases ec
  cases fl with
  |rt d=>exactλv rv=>done d v e2 rv
  |nx=>exact done .non .non e2 (by unfold Rep;rfl)
  |bk=>cases e2
  |ct=>cases e2
def DAt (h:Heap)(d:Addr)(es:Array DictEntry)(ep:Nat):Prop:=∃o,h.get? d=some o/\o.data=.dict es ep
def DIt (T:String)(d I:Addr)(es:Array DictEntry)(ep i:Nat)(h:Heap):Prop:=DAt h d es ep/\∃o,h.get? I=some o/\o.cls=.type T/\o.data=.fields #[.ref d,.int i 0,.int es.size 0,.int ep 0]
section
variable {prog:Program}{w:World}{A:Around}{E:Value->Zaa}{s:Shared}
def DIt.ty {T:String}{d I:Addr}{es:Array DictEntry}{ep i:Nat}(g:DIt T d I es ep i s.heap):s.TypeIs (.ref I) T:=let ⟨_,o,a,b,_⟩:=g;⟨o,a,b⟩
def DIt.step {T:String}{d I:Addr}{es:Array DictEntry}{ep i:Nat}{h:Heap}(ne:d≠I)(g:DIt T d I es ep i h):DIt T d I es ep (i+1) (h.update I (Obj.mapFields (·.setIfInBounds 1 (rawInt ((i:Int)+1))))):=by
 obtain⟨⟨od,d1,d2⟩,o,a,b,c⟩:=g
 exact⟨⟨od,((Au ..).2 d ne).trans d1,d2⟩,_,AF _ a (Obj.isFreed_of_fields (Obj.data_mapFields c _)),(Obj.cls_mapFields ..).trans b,by rw[Obj.data_mapFields c];simp[rawInt]⟩
def MB {d I:Addr}{es:Array DictEntry}{ep i:Nat}{Q:Option Value->Zaa}(ne:d≠I)(g:DIt "dict_keyiterator" d I es ep i s.heap)(hi:i<es.size)
  (q:∀h',DIt "dict_keyiterator" d I es ep (i+1) h'->Heap.SameBut I s.heap h'->Q (some es[i].key) {s with heap:=h'}):wpAny (model prog w) A (pyNext (.ref I)) Q E s:=by
 obtain⟨⟨od,d1,d2⟩,o,a,b,c⟩:=id g
 unfold pyNext
 refine Aa (Cf (AV (name:=Str.ofString "__next__") g.ty Bv (AM Bv g.ty F.entry_dict_keyiterator_next ?_ (F.args_dict_keyiterator_next_1 _))))
 refine Aa (Ab (Aa (Aa ?_)))
 refine Aa (Ck g.ty (Ab (Aa (wpAny_fieldsOf a c ?_))))
 simp only[show Builtin.Dict_items.ownsTuple "dict_keyiterator"=false by decide,Ay,Bd]
 refine(?_:wpAny _ _ (if (Value.ref d==Value.none)=true then _ else _) _ _ s)
 rw[if_neg (show ¬ ((Value.ref d==Value.none)=true) from AS)]
 refine Aa (Ab (Aa (BG d1 d2 ?_)))
 rw[if_neg (by simp)]
 refine Aa (Ab (Aa (BD d1 d2 ?_)))
 rw[if_neg (by simp)]
 refine Ab ?_
 simp only[show ¬ ((i:Int)<0) by ext,Bd,Int.toNat_natCast,An hi]
 refine Aa (Aa (Ck g.ty (Ab ?_)))
 refine Aa (wpAny_isOneOf_keyiter g.ty ?_)
 refine(?_:wpAny _ _ (setField (.ref I) 1 (rawInt ((i:Int)+1))>>=_) _ _ s)
 have g':=g.step ne
 refine Aa (By a c (by simp) (Aa (AL ?_)))
 generalize hu:s.heap.update I (Obj.mapFields (·.setIfInBounds 1 (rawInt ((i:Int)+1))))=h2 at g' ⊢
 have sb:Heap.SameBut I s.heap h2:=by rw[<- hu];exact Au ..
 have t2:=DIt.ty (s:={s with heap:=h2}) g'
 refine Aa (wpAny_isOneOf_keyiter (s:={s with heap:=h2}) t2 ?_)
 refine(?_:wpAny _ _ (pure es[i].key) _ _ _)
 exact Ab (Ab ⟨_,rfl,Ab (q _ g' sb)⟩)
def M0 {d I:Addr}{es:Array DictEntry}{ep:Nat}{Q:Option Value->Zaa}(hh:A.handled=none)(g:DIt "dict_keyiterator" d I es ep es.size s.heap)
  (q:∀h',(∀c o,c≠I->s.heap.get? c=some o->h'.get? c=some o)->Q none {s with heap:=h'}):wpAny (model prog w) A (pyNext (.ref I)) Q E s:=by
 obtain⟨⟨od,d1,d2⟩,o,a,b,c⟩:=id g
 unfold pyNext
 refine Aa (Cf (AV (name:=Str.ofString "__next__") g.ty Bv (AM Bv g.ty F.entry_dict_keyiterator_next ?_ (F.args_dict_keyiterator_next_1 _))))
 refine Aa (Ab (Aa (Aa ?_)))
 refine Aa (Ck g.ty (Ab (Aa (wpAny_fieldsOf a c ?_))))
 simp only[show Builtin.Dict_items.ownsTuple "dict_keyiterator"=false by decide,Ay,Bd]
 refine(?_:wpAny _ _ (if (Value.ref d==Value.none)=true then _ else _) _ _ s)
 rw[if_neg (show ¬ ((Value.ref d==Value.none)=true) from AS)]
 refine Aa (Ab (Aa (BG d1 d2 ?_)))
 rw[if_neg (by simp)]
 refine Aa (Ab (Aa (BD d1 d2 ?_)))
 rw[if_neg (by simp)]
 refine Ab ?_
 simp only[show ¬ ((es.size:Int)<0) by ext,Bd,Int.toNat_natCast,Bg (Ai es.size)]
 refine Aa (Aa (Ck g.ty (Ab ?_)))
 refine(?_:wpAny _ _ (setField (.ref I) 0 .none>>=_) _ _ s)
 refine Aa (By a c (by simp) ?_)
 refine FW (I:=I) hh λh' e z1 z2=>?_
 obtain⟨oe,he,hc⟩:=z2
 exact Aa (BN (T:="StopIteration") (b:=true) ⟨oe,he,hc⟩ isSubtype_stop (Ab (q h' λc o hc z=>z1 c o (((Au ..).2 c hc).trans z))))
def Ho (hh:A.handled=none){d I:Addr}{es:Array DictEntry}{ep:Nat}(ne:d≠I):Walks prog w A I [I,d] [I] es.size (λi v=>∃e,es[i]?=some e/\e.key=v) (λi h=>DIt "dict_keyiterator" d I es ep i h) where
 sub:=λb hb=>by rw[Av.mp hb];simp
 frame:=λ_ h1 h2 st hk=>let ⟨⟨od,d1,d2⟩,o,a,b⟩:=st;⟨⟨od,hk d (by simp) _ d1,d2⟩,o,hk I (by simp) _ a,b⟩
 item:=λk s R E hi st hQ=>MB ne st hi λh' g' sb=>hQ _ h' s.toks ⟨_,An hi,rfl⟩ g' λb o hb z=>(sb.2 b (by simpa using hb)).trans z
 done:=λs R E st hQ=>M0 hh st λh' k=>hQ h' s.toks λb o hb z=>k b o (by simpa using hb) z
 self:=λ_ s R E st hQ=>by
  refine B6 st.ty Cs (AM Cs st.ty F.entry_dict_keyiterator_iter ?_ (F.args_dict_keyiterator_iter_1 _))
  refine(?_:wpAny _ _ (ret (.ref I)) _ _ s)
  exact Ab ⟨_,rfl,"dict_keyiterator",_,st.ty,Bv.lookup,hQ⟩
def M6 {d I:Addr}{es:Array DictEntry}{ep i:Nat}{Q:Option Value->Zaa}(ne:d≠I)(g:DIt "dict_valueiterator" d I es ep i s.heap)(hi:i<es.size)
  (q:∀h',DIt "dict_valueiterator" d I es ep (i+1) h'->Heap.SameBut I s.heap h'->Q (some es[i].val) {s with heap:=h'}):wpAny (model prog w) A (pyNext (.ref I)) Q E s:=by
 obtain⟨⟨od,d1,d2⟩,o,a,b,c⟩:=id g
 unfold pyNext
 refine Aa (Cf (AV (name:=Str.ofString "__next__") g.ty Bq (AM Bq g.ty F.entry_dict_valueiterator_next ?_ (F.args_dict_valueiterator_next_1 _))))
 refine Aa (Ab (Aa (Aa ?_)))
 refine Aa (Cm g.ty (Ab (Aa (wpAny_fieldsOf a c ?_))))
 simp only[show Builtin.Dict_items.ownsTuple "dict_valueiterator"=false by decide,Ay,Bd]
 refine(?_:wpAny _ _ (if (Value.ref d==Value.none)=true then _ else _) _ _ s)
 rw[if_neg (show ¬ ((Value.ref d==Value.none)=true) from AS)]
 refine Aa (Ab (Aa (BG d1 d2 ?_)))
 rw[if_neg (by simp)]
 refine Aa (Ab (Aa (BD d1 d2 ?_)))
 rw[if_neg (by simp)]
 refine Ab ?_
 simp only[show ¬ ((i:Int)<0) by ext,Bd,Int.toNat_natCast,An hi]
 refine Aa (Aa (Cm g.ty (Ab ?_)))
 refine Aa (wpAny_isOneOf_valiter g.ty ?_)
 refine(?_:wpAny _ _ (setField (.ref I) 1 (rawInt ((i:Int)+1))>>=_) _ _ s)
 have g':=g.step ne
 refine Aa (By a c (by simp) (Aa (AL ?_)))
 generalize hu:s.heap.update I (Obj.mapFields (·.setIfInBounds 1 (rawInt ((i:Int)+1))))=h2 at g' ⊢
 have sb:Heap.SameBut I s.heap h2:=by rw[<- hu];exact Au ..
 have t2:=DIt.ty (s:={s with heap:=h2}) g'
 refine Aa (wpAny_isOneOf_valiter (s:={s with heap:=h2}) t2 ?_)
 refine Aa (wpAny_isOneOf_valiter (s:={s with heap:=h2}) t2 ?_)
 refine(?_:wpAny _ _ (pure es[i].val) _ _ _)
 exact Ab (Ab ⟨_,rfl,Ab (q _ g' sb)⟩)
def MS {d I:Addr}{es:Array DictEntry}{ep:Nat}{Q:Option Value->Zaa}(hh:A.handled=none)(g:DIt "dict_valueiterator" d I es ep es.size s.heap)
  (q:∀h',(∀c o,c≠I->s.heap.get? c=some o->h'.get? c=some o)->Q none {s with heap:=h'}):wpAny (model prog w) A (pyNext (.ref I)) Q E s:=by
 obtain⟨⟨od,d1,d2⟩,o,a,b,c⟩:=id g
 unfold pyNext
 refine Aa (Cf (AV (name:=Str.ofString "__next__") g.ty Bq (AM Bq g.ty F.entry_dict_valueiterator_next ?_ (F.args_dict_valueiterator_next_1 _))))
 refine Aa (Ab (Aa (Aa ?_)))
 refine Aa (Cm g.ty (Ab (Aa (wpAny_fieldsOf a c ?_))))
 simp only[show Builtin.Dict_items.ownsTuple "dict_valueiterator"=false by decide,Ay,Bd]
 refine(?_:wpAny _ _ (if (Value.ref d==Value.none)=true then _ else _) _ _ s)
 rw[if_neg (show ¬ ((Value.ref d==Value.none)=true) from AS)]
 refine Aa (Ab (Aa (BG d1 d2 ?_)))
 rw[if_neg (by simp)]
 refine Aa (Ab (Aa (BD d1 d2 ?_)))
 rw[if_neg (by simp)]
 refine Ab ?_
 simp only[show ¬ ((es.size:Int)<0) by ext,Bd,Int.toNat_natCast,Bg (Ai es.size)]
 refine Aa (Aa (Cm g.ty (Ab ?_)))
 refine(?_:wpAny _ _ (setField (.ref I) 0 .none>>=_) _ _ s)
 refine Aa (By a c (by simp) ?_)
 refine FW (I:=I) hh λh' e z1 z2=>?_
 obtain⟨oe,he,hc⟩:=z2
 exact Aa (BN (T:="StopIteration") (b:=true) ⟨oe,he,hc⟩ isSubtype_stop (Ab (q h' λc o hc z=>z1 c o (((Au ..).2 c hc).trans z))))
def Lu (hh:A.handled=none){d I:Addr}{es:Array DictEntry}{ep:Nat}(ne:d≠I):Walks prog w A I [I,d] [I] es.size (λi v=>∃e,es[i]?=some e/\e.val=v) (λi h=>DIt "dict_valueiterator" d I es ep i h) where
 sub:=λb hb=>by rw[Av.mp hb];simp
 frame:=λ_ h1 h2 st hk=>let ⟨⟨od,d1,d2⟩,o,a,b⟩:=st;⟨⟨od,hk d (by simp) _ d1,d2⟩,o,hk I (by simp) _ a,b⟩
 item:=λk s R E hi st hQ=>M6 ne st hi λh' g' sb=>hQ _ h' s.toks ⟨_,An hi,rfl⟩ g' λb o hb z=>(sb.2 b (by simpa using hb)).trans z
 done:=λs R E st hQ=>MS hh st λh' k=>hQ h' s.toks λb o hb z=>k b o (by simpa using hb) z
 self:=λ_ s R E st hQ=>by
  refine B6 st.ty Cc (AM Cc st.ty entry_dict_valueiterator_iter ?_ (F.args_dict_valueiterator_iter_1 _))
  refine(?_:wpAny _ _ (ret (.ref I)) _ _ s)
  exact Ab ⟨_,rfl,"dict_valueiterator",_,st.ty,Bq.lookup,hQ⟩
def HR {d:Addr}{o:Obj}{es:Array DictEntry}{ep:Nat}{Q:Value->Zaa}(ns:(d==sysModules)=false)(d1:s.heap.get? d=some o)(dc:o.cls=.type "dict")(d2:o.data=.dict es ep)
  (q:∀h',h'.objs.size=s.heap.objs.size+1->(∀b o,s.heap.get? b=some o->h'.get? b=some o)->DIt "dict_keyiterator" d s.heap.objs.size es ep 0 h'->Q (.ref s.heap.objs.size) {s with heap:=h'}):wpAny (model prog w) A (pyIter (.ref d)) Q E s:=by
 have hT:s.TypeIs (.ref d) "dict":=⟨o,d1,dc⟩
 refine B6 hT F.slot_dict_iter (AM F.slot_dict_iter hT F.entry_dict_iter ?_ (F.args_dict_iter_1 _))
 unfold Builtin.«dict.__iter__» Builtin.Dict.dictSlotNone
 refine Aa (Aa (wpAny_notOrdered_dict hT ?_))
 refine(?_:wpAny _ _ (pure (Value.ref d)) _ _ s)
 refine Ab (?_:wpAny _ _ (Builtin.Dict.showsAll d>>=_) _ _ s)
 unfold Builtin.Dict.showsAll
 rw[if_neg (by rw[ns];exact AS)]
 refine Aa (Ab (Aa (BG d1 d2 (Aa (BD d1 d2 ?_)))))
 refine Aa (AZ (Ab ⟨_,rfl,"dict_keyiterator",_,⟨_,Ak _ rfl,rfl⟩,Bv.lookup,?_⟩))
 exact q _ (Ba ..) (λb o e=>Ad _ e) ⟨⟨o,Ad _ d1,d2⟩,_,Ak _ rfl,rfl,rfl⟩
def Kc {v d:Addr}{ov o:Obj}{es:Array DictEntry}{ep:Nat}{Q:Value->Zaa}(v1:s.heap.get? v=some ov)(vc:ov.cls=.type "dict_values")(v2:ov.data=.fields #[.ref d])(d1:s.heap.get? d=some o)(d2:o.data=.dict es ep)
  (q:∀h',h'.objs.size=s.heap.objs.size+1->(∀b o,s.heap.get? b=some o->h'.get? b=some o)->DIt "dict_valueiterator" d s.heap.objs.size es ep 0 h'->Q (.ref s.heap.objs.size) {s with heap:=h'}):wpAny (model prog w) A (pyIter (.ref v)) Q E s:=by
 have hT:s.TypeIs (.ref v) "dict_values":=⟨ov,v1,vc⟩
 refine B6 hT F.slot_dict_values_iter (AM F.slot_dict_values_iter hT F.entry_dict_values_iter ?_ (F.args_dict_values_iter_1 _))
 unfold Builtin.«dict_values.__iter__» Builtin.Dict_items.dictOf
 refine Aa (Ab (Aa (Aa (Bh v1 v2 (x:=.ref d) rfl (Ab ?_)))))
 (unfold Builtin.Dict_items.newIterator)
 refine Aa (Aa (BG d1 d2 (Aa (BD d1 d2 ?_))))
 simp only[show Builtin.Dict_items.ownsTuple "dict_valueiterator"=false by decide,Ay,Bd]
 refine AZ (Ab ⟨_,rfl,"dict_valueiterator",_,⟨_,Ak _ rfl,rfl⟩,Bq.lookup,?_⟩)
 exact q _ (Ba ..) (λb o e=>Ad _ e) ⟨⟨o,Ad _ d1,d2⟩,_,Ak _ rfl,rfl,rfl⟩
def Nv {S:Addr}{ob:Obj}{es:Array DictEntry}{ep:Nat}{Q:List Value->Zaa}(hh:A.handled=none)(hz:es.size<=sizeLine)(g1:s.heap.get? S=some ob)(gc:ob.cls=.type "dict")(ns:(S==sysModules)=false)(g2:DAt s.heap S es ep)
  (q:∀h' tk,(∀b o,s.heap.get? b=some o->h'.get? b=some o)->Q (es.toList.map (·.key)) {s with heap:=h',toks:=tk}):wpAny (model prog w) A (collect (.ref S)) Q E s:=by
 obtain⟨od,d1,d2⟩:=g2
 have lS:S<s.heap.objs.size:=Ao g1
 have ld:S<s.heap.objs.size:=Ao d1
 have nS:s.heap.objs.size≠S:=BP lS
 have nd:s.heap.objs.size≠S:=BP ld
 unfold collect
 refine Aa (wpAny_runValue (Bu F.entry_proto_collect ?_))
 rw[Bp F.plain_proto_collect _]
 refine(?_:wpAny _ A.in1 (newList []>>=λl=>again (.builtin "list.__iadd__" ⟨[l,.ref S],[]⟩)) _ _ s)
 refine Aa (AZ (Ab ⟨B1 F.plain_list_iadd _,Bu F.entry_list_iadd ?_⟩))
 rw[Bp F.plain_list_iadd _]
 refine(?_:wpAny _ A.in1 (Builtin.List.listExtendWith (.ref s.heap.objs.size) (.ref S) (.ref s.heap.objs.size)) _ _ _)
 (unfold Builtin.List.listExtendWith)
 have gS:(s.heap.push {cls:=.type "list",data:=.seq ([]:List Value).toArray}).get? S=some ob:=Ad _ g1
 have gd:(s.heap.push {cls:=.type "list",data:=.seq ([]:List Value).toArray}).get? S=some od:=Ad _ d1
 have gL:(s.heap.push {cls:=.type "list",data:=.seq ([]:List Value).toArray}).get? s.heap.objs.size=some {cls:=.type "list",data:=.seq ([]:List Value).toArray}:=Ak _ rfl
 generalize hP:s.heap.push {cls:=.type "list",data:=.seq ([]:List Value).toArray}=h1 at gS gL gd ⊢
 have k1:∀b o,s.heap.get? b=some o->h1.get? b=some o:=λb o e=>by rw[<- hP];exact Ad _ e
 have sz1:h1.objs.size=s.heap.objs.size+1:=by rw[<- hP];exact Ba ..
 have ty:Shared.TypeIs {s with heap:=h1} (.ref S) "dict":=⟨ob,gS,gc⟩
 refine Aa (BJ ty ?_)
 have e1:Builtin.List.listSameRef (.ref s.heap.objs.size) (.ref S)=false:=by simp[Builtin.List.listSameRef,nS]
 simp only[e1,show(Value.type "dict"==Value.type "list")=false by decide,show(Value.type "dict"==Value.type "tuple")=false by decide,Bool.or_false,Ay,Bd]
 have lt1:S<h1.objs.size:=by rw[sz1];exact Bs ld
 refine Aa (HR (s:={s with heap:=h1}) ns gd (by rw[g1] at d1;cases d1;exact gc) d2 λh2 e2 k2 st=>?_)
 have ty2:Shared.TypeIs {s with heap:=h2} (.ref S) "dict":=⟨ob,k2 _ _ gS,gc⟩
 have nLI:s.heap.objs.size≠h1.objs.size:=by rw[sz1];exact Ax (Bi _)
 have ndI:S≠h1.objs.size:=Ax lt1
 refine Aa (AL ?_)
 (unfold Builtin.List.listLengthHint)
 refine Aa (Cq ty2 F.slot_dict_len.lookup ?_)
 refine(?_:wpAny _ A.in1 (isInstance (Value.ref S) (.type "dict")>>=_) _ _ _)
 refine Aa (BN (b:=true) ty2 (by rw[B2];kernel_rfl) ?_)
 refine(?_:wpAny _ A.in1 (typeOf (Value.ref S)>>=_) _ _ _)
 refine Aa (BJ ty2 (Ab ?_))
 have gL2:=k2 _ _ gL
 refine(?_:wpAny _ A.in1 (rule "list.extend.makes-room">>=λ_=>Builtin.List.listTouch (.ref s.heap.objs.size)>>=λ_=>again (.builtin "list.extend.loop" ⟨[.ref s.heap.objs.size,.ref h1.objs.size,.ref s.heap.objs.size],[]⟩)) _ _ _)
 refine Aa (Bn (Aa ?_))
 refine(?_:wpAny _ A.in1 (updateSeq s.heap.objs.size (·.push .none)>>=λ_=>updateSeq s.heap.objs.size (·.pop)) _ _ _)
 refine Aa (BZ gL2 rfl ?_)
 have gL3:=AF (Obj.mapSeq (·.push Value.none)) gL2 rfl
 refine BZ gL3 rfl ?_
 have gL4:=AF (Obj.mapSeq (·.pop)) gL3 rfl
 have nL:s.heap.objs.size∉[h1.objs.size,S]:=by
  simp only[Ap,AR,BM,not_or]
  exact⟨nLI,nd⟩
 have oth:∀b o,b≠s.heap.objs.size->h2.get? b=some o->((h2.update s.heap.objs.size (Obj.mapSeq (·.push Value.none))).update s.heap.objs.size (Obj.mapSeq (·.pop))).get? b=some o:=
  λb o hb e=>(Bf _ _ hb.symm).trans ((Bf _ _ hb.symm).trans e)
 have W:=(Ho (prog:=prog) (A:=A.in1) (w:=w) (es:=es) (ep:=ep) hh ndI).toS
 refine Ab ⟨B1 F.plain_extend_loop _,codeAny_extend_loopS (A:=A) W hz _ nL _ es.size 0 _ _ _ rfl (AX _) ?_ gL4 (ItemsOf.nil _) λs' acc' c' hm hS' hacc=>?_⟩
 ·exact(Ho (prog:=prog) (A:=A.in1) (w:=w) (es:=es) (ep:=ep) hh ndI).frame 0 _ _ st λb hb o e=>oth b o (λz=>nL (z▸hb)) e
 refine(?_:wpAny _ A (load s.heap.objs.size>>=_) _ _ s')
 refine Aa (wpAny_load hS' ?_)
 obtain⟨zh,zg,zd,zt,zo⟩:=s'
 have e4:zg=s.gens:=hm.gens
 have e5:zd=s.drawn:=hm.drawn
 have e6:zo=s.os:=hm.os
 subst e4 e5 e6
 have ac:acc'.toList=es.toList.map (·.key):=by
  refine A8 λi=>?_
  rw[Am,Aq,Aq]
  by_cases hi:i<es.size
  ·have hi':i<acc'.size:=by rw[hacc.1];exact hi
   obtain⟨e,x1,x2⟩:=hacc.2 i _ (An hi')
   rw[An hi',x1,<- x2]
   rfl
  ·rw[Bg (by rw[hacc.1];ext),Bg (by ext)]
   rfl
 refine Ab ?_
 refine(?_:Q acc'.toList _)
 rw[ac]
 refine q zh zt λb o e=>?_
 have bl:=Ao e
 refine hm.heap b o ?_ (oth b o (Ax bl) (k2 _ _ (k1 _ _ e)))
 simp only[Ap,AR,BM,not_or]
 exact⟨Ax bl,Ax (show b<h1.objs.size by rw[sz1];exact Bs bl)⟩
def N1 {S:Addr}{ob:Obj}{d:Addr}{es:Array DictEntry}{ep:Nat}{Q:List Value->Zaa}(hh:A.handled=none)(hz:es.size<=sizeLine)(g1:s.heap.get? S=some ob)(gc:ob.cls=.type "dict_values")(gf:ob.data=.fields #[.ref d])(g2:DAt s.heap d es ep)
  (q:∀h' tk,(∀b o,s.heap.get? b=some o->h'.get? b=some o)->Q (es.toList.map (·.val)) {s with heap:=h',toks:=tk}):wpAny (model prog w) A (collect (.ref S)) Q E s:=by
 obtain⟨od,d1,d2⟩:=g2
 have lS:S<s.heap.objs.size:=Ao g1
 have ld:d<s.heap.objs.size:=Ao d1
 have nS:s.heap.objs.size≠S:=BP lS
 have nd:s.heap.objs.size≠d:=BP ld
 unfold collect
 refine Aa (wpAny_runValue (Bu F.entry_proto_collect ?_))
 rw[Bp F.plain_proto_collect _]
 refine(?_:wpAny _ A.in1 (newList []>>=λl=>again (.builtin "list.__iadd__" ⟨[l,.ref S],[]⟩)) _ _ s)
 refine Aa (AZ (Ab ⟨B1 F.plain_list_iadd _,Bu F.entry_list_iadd ?_⟩))
 rw[Bp F.plain_list_iadd _]
 refine(?_:wpAny _ A.in1 (Builtin.List.listExtendWith (.ref s.heap.objs.size) (.ref S) (.ref s.heap.objs.size)) _ _ _)
 (unfold Builtin.List.listExtendWith)
 have gS:(s.heap.push {cls:=.type "list",data:=.seq ([]:List Value).toArray}).get? S=some ob:=Ad _ g1
 have gd:(s.heap.push {cls:=.type "list",data:=.seq ([]:List Value).toArray}).get? d=some od:=Ad _ d1
 have gL:(s.heap.push {cls:=.type "list",data:=.seq ([]:List Value).toArray}).get? s.heap.objs.size=some {cls:=.type "list",data:=.seq ([]:List Value).toArray}:=Ak _ rfl
 generalize hP:s.heap.push {cls:=.type "list",data:=.seq ([]:List Value).toArray}=h1 at gS gL gd ⊢
 have k1:∀b o,s.heap.get? b=some o->h1.get? b=some o:=λb o e=>by rw[<- hP];exact Ad _ e
 have sz1:h1.objs.size=s.heap.objs.size+1:=by rw[<- hP];exact Ba ..
 have ty:Shared.TypeIs {s with heap:=h1} (.ref S) "dict_values":=⟨ob,gS,gc⟩
 refine Aa (BJ ty ?_)
 have e1:Builtin.List.listSameRef (.ref s.heap.objs.size) (.ref S)=false:=by simp[Builtin.List.listSameRef,nS]
 simp only[e1,show(Value.type "dict_values"==Value.type "list")=false by decide,show(Value.type "dict_values"==Value.type "tuple")=false by decide,Bool.or_false,Ay,Bd]
 have lt1:d<h1.objs.size:=by rw[sz1];exact Bs ld
 refine Aa (Kc (s:={s with heap:=h1}) gS gc gf gd d2 λh2 e2 k2 st=>?_)
 have ty2:Shared.TypeIs {s with heap:=h2} (.ref S) "dict_values":=⟨ob,k2 _ _ gS,gc⟩
 have nLI:s.heap.objs.size≠h1.objs.size:=by rw[sz1];exact Ax (Bi _)
 have ndI:d≠h1.objs.size:=Ax lt1
 refine Aa (AL ?_)
 (unfold Builtin.List.listLengthHint)
 refine Aa (Cq ty2 F.slot_dict_values_len.lookup ?_)
 refine(?_:wpAny _ A.in1 (isInstance (Value.ref S) (.type "dict_values")>>=_) _ _ _)
 refine Aa (BN (b:=true) ty2 (by rw[B2];kernel_rfl) ?_)
 refine(?_:wpAny _ A.in1 (typeOf (Value.ref S)>>=_) _ _ _)
 refine Aa (BJ ty2 (Ab ?_))
 have gL2:=k2 _ _ gL
 refine(?_:wpAny _ A.in1 (rule "list.extend.makes-room">>=λ_=>Builtin.List.listTouch (.ref s.heap.objs.size)>>=λ_=>again (.builtin "list.extend.loop" ⟨[.ref s.heap.objs.size,.ref h1.objs.size,.ref s.heap.objs.size],[]⟩)) _ _ _)
 refine Aa (Bn (Aa ?_))
 refine(?_:wpAny _ A.in1 (updateSeq s.heap.objs.size (·.push .none)>>=λ_=>updateSeq s.heap.objs.size (·.pop)) _ _ _)
 refine Aa (BZ gL2 rfl ?_)
 have gL3:=AF (Obj.mapSeq (·.push Value.none)) gL2 rfl
 refine BZ gL3 rfl ?_
 have gL4:=AF (Obj.mapSeq (·.pop)) gL3 rfl
 have nL:s.heap.objs.size∉[h1.objs.size,d]:=by
  simp only[Ap,AR,BM,not_or]
  exact⟨nLI,nd⟩
 have oth:∀b o,b≠s.heap.objs.size->h2.get? b=some o->((h2.update s.heap.objs.size (Obj.mapSeq (·.push Value.none))).update s.heap.objs.size (Obj.mapSeq (·.pop))).get? b=some o:=
  λb o hb e=>(Bf _ _ hb.symm).trans ((Bf _ _ hb.symm).trans e)
 have W:=(Lu (prog:=prog) (A:=A.in1) (w:=w) (es:=es) (ep:=ep) hh ndI).toS
 refine Ab ⟨B1 F.plain_extend_loop _,codeAny_extend_loopS (A:=A) W hz _ nL _ es.size 0 _ _ _ rfl (AX _) ?_ gL4 (ItemsOf.nil _) λs' acc' c' hm hS' hacc=>?_⟩
 ·exact(Lu (prog:=prog) (A:=A.in1) (w:=w) (es:=es) (ep:=ep) hh ndI).frame 0 _ _ st λb hb o e=>oth b o (λz=>nL (z▸hb)) e
 refine(?_:wpAny _ A (load s.heap.objs.size>>=_) _ _ s')
 refine Aa (wpAny_load hS' ?_)
 obtain⟨zh,zg,zd,zt,zo⟩:=s'
 have e4:zg=s.gens:=hm.gens
 have e5:zd=s.drawn:=hm.drawn
 have e6:zo=s.os:=hm.os
 subst e4 e5 e6
 have ac:acc'.toList=es.toList.map (·.val):=by
  refine A8 λi=>?_
  rw[Am,Aq,Aq]
  by_cases hi:i<es.size
  ·have hi':i<acc'.size:=by rw[hacc.1];exact hi
   obtain⟨e,x1,x2⟩:=hacc.2 i _ (An hi')
   rw[An hi',x1,<- x2]
   rfl
  ·rw[Bg (by rw[hacc.1];ext),Bg (by ext)]
   rfl
 refine Ab ?_
 refine(?_:Q acc'.toList _)
 rw[ac]
 refine q zh zt λb o e=>?_
 have bl:=Ao e
 refine hm.heap b o ?_ (oth b o (Ax bl) (k2 _ _ (k1 _ _ e)))
 simp only[Ap,AR,BM,not_or]
 exact⟨Ax bl,Ax (show b<h1.objs.size by rw[sz1];exact Bs bl)⟩
end
section
variable {X:Cx}{K:Zc}{th:List Addr}{mu:Sto}{H:Hp}{pj:Zab}{st:L2.St}{s:Shared}
def Ky (hu:X.A.units+64<cLine)(I:L2.Inv X pj st H s)(so:StoOk X.z th mu H){es:List D}(ok:DX es=true){u:Value}{Q:VK}(t:Tr X.z th H (some (D.lst (Dv es),mu)) (KV' X.z Q))
  (col:∀Q':List Value->Zaa,(∀vs zs h' tk,RepL X.z th H es vs->Vals vs zs->(∀b o,s.heap.get? b=some o->h'.get? b=some o)->Q' zs {s with heap:=h',toks:=tk})->wpAny (model X.prog X.w) X.A.in1 (collect u) Q' X.xe s) :
  wpAny (model X.prog X.w) X.A (call (.builtin "sorted") [u]) (EP X pj st Q) X.xe s:=by
 refine Ll (col _ λvs zs h1 tk h2 rv hk=>?_)
 have I1:L2.Inv X pj st H {s with heap:=h1,toks:=tk}:=I.kept (t':=tk) hk
 have l64:es.length<64:=by
  have:=ok
  unfold DX at this
  rw[Ac,Ac,Ac,Aj] at this
  exact this.1.1.1
 have lz:zs.length=es.length:=by rw[<- rv.length,h2.len]
 obtain⟨ws,out,w1,w2,w3⟩:=sorts hu I1 h2 rv ok
 have z64:64<=sizeLine:=by rw[AO];decide
 have wl:(Dv es).length<=sizeLine:=by rw[(Df es).length_eq];ext
 refine⟨by ext,out,w3,λh' e a hk' ha he=>?_⟩
 have hp:H a=none:=I1.hok.fresh ha
 refine⟨.ref a,_,I1.laid (t':=tk) (o:=.lst ws) hk' ha ⟨by rw[w1.len];exact wl,out,e,w2,he⟩,rfl,?_⟩
 exact t.retX (.new hp _) (so.new hp _) _ (Rep.newLst so hp w1 wl)
def L4 (I:L2.Inv X pj st H s){a:Addr}{ks ds:List D}(h:DcAt X.z th H a ks ds):∃o es ep,(a==sysModules)=false/\s.heap.get? a=some o/\o.ExactDict/\o.data=.dict es ep/\es.size<=sizeLine/\(∃vs,RepL X.z th H ks vs/\Vals vs (es.toList.map (·.key)))/\∃vs,RepL X.z th H ds vs/\Vals vs (es.toList.map (·.val)):=by
 obtain⟨xs0,h1',h2,h3,h4,h5⟩:=id h
 obtain⟨xs,o,es,ep,h1,g⟩:=Hs I h
 obtain⟨⟨z',o',es',ep',g1,g2,g3,g4,ge⟩,_⟩:=(show ObjOk X.prog X.w H s.heap a (Et a xs0) from I.hok a _ h1')
 have e1:=g.at'
 rw[g1] at e1
 cases e1
 have e2:=g.dt
 rw[g3] at e2
 cases e2
 have kv:∀{ys:List (Int×V×V)}{zs:List DictEntry},Paired (λ(x:Int×V×V) (e:DictEntry)=>e.hash=x.1/\RelV x.2.1 e.key/\RelV x.2.2 e.val) ys zs->Vals (ys.map (·.2.1)) (zs.map (·.key))/\Vals (ys.map (·.2.2)) (zs.map (·.val)):=λ{ys zs} p=>by
  induction p with
  |nil=>exact⟨.nil,.nil⟩
  |cons a b ih=>exact⟨.cons a.2.1 ih.1,.cons a.2.2 ih.2⟩
 have sz:es.size<=sizeLine:=by
  have e:=Dc g.en
  have e':es.size=ks.length:=by
   rw[<- Array.length_toList]
   exact e.symm
  rw[e']
  exact h5.len
 exact⟨o,es,ep,z',g1,g2,g3,sz,⟨_,h3,(kv g4).1⟩,⟨_,h4,(kv g4).2⟩⟩
def R9:Fn:=λds mu=>match FK ds with
 |some d=>match DF mu d with
  |some p=>if DX p.1=true then some (.lst (Dv p.1),mu) else none
  |none=>none
 |none=>none
def Rt {ds:List D}{r:D×Sto}(h:R9 ds mu=some r):∃d p,ds=[d]/\DF mu d=some p/\DX p.1=true/\r=(.lst (Dv p.1),mu):=by
 unfold R9 at h
 split at h
 ·rename_i d e
  split at h
  ·rename_i p e2
   split at h
   ·rename_i c;cases h;exact⟨d,p,FU e,e2,c,rfl⟩
   ·cases h
  ·cases h
 ·cases h
def Pa (hu:X.A.units+64<cLine)(hc:X.calm=true):CallV X (.builtin "sorted") R9:=by
 intro pj s st H xs us Q I r h
 obtain⟨th,mu,ds,so,rd,t⟩:=h
 obtain⟨a0,mu0,e0,_⟩:=id t
 obtain⟨d,p,rfl,eg,ok,er⟩:=Rt e0
 rw[e0] at t
 cases er
 obtain⟨x,rfl,rx⟩:=Eg rd
 obtain⟨u,rfl,ru⟩:=vals1 r
 obtain⟨a,rfl,dc⟩:=Eb so eg rx
 cases ru
 obtain⟨o,es,ep,ns,g1,g2,g3,sz,⟨vs,k1,k2⟩,_⟩:=L4 I dc
 exact Ky hu I so ok t λQ' q=>Nv (I.ok.hd hc) sz g1 g2.1 ns ⟨o,g1,g3⟩ λh' tk hk=>q _ _ h' tk k1 k2 hk
def GO:Fn:=λds mu=>match Jk ds mu with|some r=>some r|none=>R9 ds mu
def FN (hu:X.A.units+64<cLine)(hc:X.calm=true):CallV X (.builtin "sorted") GO:=CallV.or (P5 hu hc) (Pa hu hc)
def YF (a d:Addr)(h:Heap):Prop:=∃o,h.get? a=some o/\o.cls=.type "dict_values"/\o.data=.fields #[.ref d]
def J4 (a d:Addr):HO:=.ext (YF a d)
def Zw (r:V->List V->Hp->VK->Prop)(to:TE):TE:=fun σ H Q=>to σ H λx H1=>(∃a xs,x=.ref a/\H1 a=some (Et a xs))/\r x [] H1 Q
def Sa {o:Expr}{to:TE}{name:Str}{apos cpos:Pos}{id:String}{r:V->List V->Hp->VK->Prop}(slot:Slot "dict" name id)(hty:typeOf (.builtin id)=pure (.type "method_descriptor"))(hm:MtR X id r)(ho:PE X o to)
  (hbase:attributeBase o name X.env (eval o X.env)=eval o X.env) (hline:(apos.endLine==cpos.line)=true):PE X (.Call (.Attribute o name apos) [] [] cpos) (Zw r to):=by
 intro pj s st H Q I h
 refine wpAny_Call_method0_late hbase hline (thn (ho pj s st H _ I h) λv s1 ⟨x,H1,I1,r1,⟨a,xs,e,hd⟩,q1⟩=>?_)
 subst e
 cases r1
 obtain⟨⟨z,ob,es,ep,g1,g2,g3,g4,ge⟩,_⟩:=(show ObjOk X.prog X.w H1 s1.heap a (Et a xs) from I1.hok a _ hd)
 exact⟨"dict",id,F.plainAttrs_dict,slot,hty,⟨ob,g1,g2.1⟩,λb e=>by cases e;exact⟨ob,g1,g2.2.1⟩,Calls.callWith_builtin rfl (PySem.evalArgs_none (hm pj s1 st H1 (.ref a) [] _ [] Q I1 rfl .nil q1))⟩
def Lh:MtR X "dict.values" (λx vs H Q=>vs=[]/\∃a xs,x=.ref a/\H a=some (Et a xs)/\∀b,H b=none->Q (.ref b) (upd H b (J4 b a))):=by
 intro pj s st H x ys v us Q I rx rys ⟨e0,a,xs,e,hd,q⟩
 subst e e0
 cases rx
 cases rys
 obtain⟨⟨z,ob,es,ep,g1,g2,g3,g4,ge⟩,_⟩:=(show ObjOk X.prog X.w H s.heap a (Et a xs) from I.hok a _ hd)
 have ty:s.TypeIs (.ref a) "dict":=⟨ob,g1,g2.1⟩
 have hM:MeetsIn X.prog X.w (Builtin.«dict.values» ⟨[.ref a],[]⟩) (λ_ R s=>s.heap.get? a=some ob/\R (.ok (.ret (.ref s.heap.objs.size))) {s with heap:=s.heap.push {cls:=.type "dict_values",data:=.fields #[.ref a]}}):=.of_wp λA R s ⟨g0,h⟩=>by
  refine Aa ?_
  unfold Builtin.Dict.noArgs
  refine Aa (wpAny_notOrdered_dict ⟨ob,g0,g2.1⟩ ?_)
  refine(?_:wpAny _ _ (pure a) _ _ s)
  refine Ab (?_:wpAny _ _ (Builtin.Dict.showsAll a>>=_) _ _ s)
  unfold Builtin.Dict.showsAll
  rw[if_neg (by rw[z];exact AS)]
  exact Aa (Ab (Aa (AZ (Ab ⟨_,rfl,h⟩))))
 refine call_meetsIn F.slot_dict_values ty F.entry_dict_values (F.args_dict_values_1 _) hM ⟨g1,?_⟩
 have hp:H s.heap.objs.size=none:=I.hok.fresh (Ai _)
 refine⟨.ref s.heap.objs.size,_,I.laid (t':=s.toks) (o:=J4 s.heap.objs.size a) (λb o e=>Ad _ e) (Ai _) ⟨⟨_,Ak _ rfl,rfl,rfl⟩,⟨_,Ak _ rfl⟩,λh1 h2 ⟨o,x1,x2⟩ k=>⟨o,k o x1,x2⟩⟩,rfl,q _ hp⟩
def PK (hu:X.A.units+64<cLine)(hc:X.calm=true):HC X (.builtin "sorted") (λvs H Q=>∃th mu a d ks ds,vs=[.ref a]/\H a=some (J4 a d)/\StoOk X.z th mu H/\DcAt X.z th H d ks ds/\DX ds=true/\Tr X.z th H (some (D.lst (Dv ds),mu)) (KV' X.z Q)):=by
 intro pj s st H xs us Q I r ⟨th,mu,a,d,ks,ds,e,hv,so,dc,ok,t⟩
 subst e
 obtain⟨u,rfl,ru⟩:=vals1 r
 cases ru
 obtain⟨⟨ov,v1,v2,v3⟩,_⟩:=(show ObjOk X.prog X.w H s.heap a (J4 a d) from I.hok a _ hv)
 obtain⟨o,es,ep,ns,g1,g2,g3,sz,_,⟨vs,k1,k2⟩⟩:=L4 I dc
 exact Ky hu I so ok t λQ' q=>N1 (I.ok.hd hc) sz v1 v2 v3 ⟨o,g1,g3⟩ λh' tk hk=>q _ _ h' tk k1 k2 hk
def KW (a:Ex):Ex:=λro mu=>bM (a ro mu) λd m1=>match DF m1 d with
 |some p=>if DX p.2=true then some (.lst (Dv p.2),m1) else none
 |none=>none
theorem DcAt.new {a p:Addr}{ks ds:List D}(h:DcAt K th H a ks ds)(so:StoOk K th mu H)(hp:H p=none)(o:HO):DcAt K th (upd H p o) a ks ds:=by
 obtain⟨xs,h1,h2,h3,h4,h5⟩:=h
 exact⟨xs,by rw[Dp (Dm h1 hp)];exact h1,h2,h3.ext (.new hp o) so.out,h4.ext (.new hp o) so.out,h5⟩
def T8 (hu:X.A.units+64<cLine)(hc:X.calm=true){o:Expr}{m:Ex}{apos cpos p pos:Pos}(hm:X.mg "sorted"=none)(ho:SV X o m)(hg:Gl X "sorted":=by rfl)(hbase:attributeBase o "values" X.env (eval o X.env)=eval o X.env:=by rfl)(hline:(apos.endLine==cpos.line)=true:=by rfl)
  (hs1:starEach [.Call (.Attribute o "values" apos) [] [] cpos] X.env=(false,eval (.Call (.Attribute o "values" apos) [] [] cpos) X.env)::starEach [] X.env:=by rfl) (hs2:(backTo pos (starEach [] X.env)).any (·.1)=false:=by rfl) :
  SV X (.Call (.Name "sorted" p) [.Call (.Attribute o "values" apos) [] [] cpos] [] pos) (KW m):=
 ⟨PE.weak (Mv (PK hu hc) hg hm PyProof.Rows.boot_sorted (OY (Sa F.slot_dict_values F.type_dict_values Lh ho.r hbase hline) QT hs1) (by decide) (by decide) hs1 hs2) λst H Q h=>by
  obtain⟨th,mu,ro,so,en,t⟩:=h
  refine⟨th,mu,ro,so,en,t.bind.mono λd th1 mu1 H1 e1 s1 t1 v rv=>?_⟩
  cases q:DF mu1 d with
  |none=>rw[q] at t1;exact t1.no.elim
  |some pr =>
   rw[q] at t1
   dsimp only at t1
   by_cases c:DX pr.2=true
   ·rw[if_pos c] at t1
    obtain⟨a,rfl,dc⟩:=Eb s1 q rv
    obtain⟨xs,hx,_⟩:=id dc
    exact⟨⟨a,xs,rfl,hx⟩,rfl,a,xs,rfl,hx,λb hb=>⟨th1,mu1,b,a,pr.1,pr.2,rfl,DT,s1.new hb _,dc.new s1 hb _,c,t1.ahead (.new hb _)⟩⟩
   ·rw[if_neg c] at t1;exact t1.no.elim⟩
def Oe (d:PyData):Bool:=d.showable&&(!d.hasDict&&(decide (d.depth<=60)&&(decide (d.shown.length<=sizeLine)&&PyData.strOk d.shown)))
def Ec:Fn:=λds mu=>match FK ds with
 |some d=>if (DW (seen mu d)&&Oe (toPy (seen mu d)))=true then some (.str (toPy (seen mu d)).shown,mu) else none
 |none=>none
def Pm {ds:List D}{r:D×Sto}(h:Ec ds mu=some r):∃d,ds=[d]/\DW (seen mu d)=true/\Oe (toPy (seen mu d))=true/\r=(.str (toPy (seen mu d)).shown,mu):=by
 unfold Ec at h
 split at h
 ·rename_i d e
  split at h
  ·rename_i c
   rw[Ac] at c
   cases h
   exact⟨d,FU e,c.1,c.2,rfl⟩
  ·cases h
 ·cases h
theorem D7 (hu:X.A.units+64<cLine)(hg:X.A.guards=some []):CallV X (.builtin "repr") Ec:=by
 intro pj s st H xs us Q I r h
 obtain⟨th,mu,ds,so,rd,t⟩:=h
 obtain⟨a0,mu0,e0,_⟩:=id t
 obtain⟨d,rfl,pu,ok,er⟩:=Pm e0
 rw[e0] at t
 cases er
 obtain⟨x,rfl,rx⟩:=Eg rd
 obtain⟨u,rfl,ru⟩:=vals1 r
 have ok':=ok
 unfold Oe at ok'
 rw[Ac,Ac,Ac,Ac,Aj,Aj] at ok'
 obtain⟨o1,o2,o3,o4,o5⟩:=ok'
 have nd:(toPy (seen mu d)).hasDict=true->False:=λz=>by rw[z] at o2;cases o2
 obtain⟨as,r1,_⟩:=FZ I so pu rx ru
 have fin:∀h' v tk,(∀b o,s.heap.get? b=some o->h'.get? b=some o)->EP X pj st Q (.str (toPy (seen mu d)).shown v) {s with heap:=h',toks:=tk}:=λh' v tk hk =>
  ⟨.str (toPy (seen mu d)).shown,H,I.kept (t':=tk) hk,⟨v,rfl⟩,t.ret so _ ⟨rfl,o4,o5⟩⟩
 generalize toPy (seen mu d)=pd at *
 cases r1 with
 |none=>exact P.repr_of_none (fin s.heap _ _ λ_ _ e=>e)
 |bool b=>exact P.repr_of_bool (fin s.heap _ _ λ_ _ e=>e)
 |int i tt=>exact P.repr_of_int (by simpa[PyData.showable] using o1) (fin s.heap _ _ λ_ _ e=>e)
 |str x tt=>exact P.repr_of_str (fin s.heap _ _ λ_ _ e=>e) o4
 |list g1 g2 g3 g4=>exact repr_of_reads' (.list g1 g2 g3 g4) o1 (λz=>(nd z).elim) hg (by ext) (λ_ _ e=>e) (λh' v tk hk=>fin h' v tk hk) o4
 |tuple g1 g2 g3 g4=>exact repr_of_reads' (.tuple g1 g2 g3 g4) o1 (λz=>(nd z).elim) hg (by ext) (λ_ _ e=>e) (λh' v tk hk=>fin h' v tk hk) o4
 |dict=>exact(nd rfl).elim
def Oz (d:D)(xs:List D)(mu:Sto):Rs D:=match DF mu d,xs with
 |some p,[k]=>if DN k=true then some ((Di k p.1 p.2).getD .non,mu) else none
 |some p,[k,y]=>if DN k=true then some ((Di k p.1 p.2).getD y,mu) else none
 |_,_=>none
def Ox (hu:X.A.units+64<cLine)(I:L2.Inv X pj st H s){a:Addr}{ks ds:List D}(dc:DcAt X.z th H a ks ds){k:D}{u:Value}(hk:Hd s.heap k u){as:List Value}{yd:Value}(has:as=[]/\yd=.none\/as=[yd]){Q:Value->Zaa}
  (q1:∀d,Di k ks ds=some d->∀v r,Rep X.z th H d v->RelV v r->∀tk,Q r {s with toks:=tk}) (q2:Di k ks ds=none->∀tk,Q yd {s with toks:=tk}):wpAny (model X.prog X.w) X.A (call (.builtin "dict.get") (.ref a::u::as)) Q X.xe s:=by
 obtain⟨ty,ns,_⟩:=OR I dc
 have go:wpAny (model X.prog X.w) X.A.in1 (Builtin.«dict.get» ⟨.ref a::u::as,[]⟩) (λfin s'=>∃v,fin=.done (.ret v)/\Q v s') X.xe s:=by
  rcases has with⟨rfl,rfl⟩|rfl
  ·refine(?_:wpAny _ _ (dictGet a u>>=_) _ _ s)
   cases e:Di k ks ds with
   |some d =>
    obtain⟨v,r,x1,x2,x3⟩:=L5 I dc hk e
    exact Aa (x3 (by rw[Around.in1_units];ext) λtk=>Ab ⟨r,rfl,q1 d e v r x1 x2 tk⟩)
   |none =>
    refine Aa (LL (A:=X.A.in1) I dc hk e (by rw[Around.in1_units];ext) λtk=>?_)
    exact Aa (wpAny_missed_other ns (Ab ⟨_,rfl,q2 e tk⟩))
  ·refine(?_:wpAny _ _ (dictGet a u>>=_) _ _ s)
   cases e:Di k ks ds with
   |some d =>
    obtain⟨v,r,x1,x2,x3⟩:=L5 I dc hk e
    exact Aa (x3 (by rw[Around.in1_units];ext) λtk=>Ab ⟨r,rfl,q1 d e v r x1 x2 tk⟩)
   |none =>
    refine Aa (LL (A:=X.A.in1) I dc hk e (by rw[Around.in1_units];ext) λtk=>?_)
    exact Aa (wpAny_missed_other ns (Ab ⟨_,rfl,q2 e tk⟩))
 rcases has with⟨rfl,rfl⟩|rfl
 ·exact AM F.slot_dict_get ty F.entry_dict_get go (F.args_dict_get_2 _ _)
 ·exact AM F.slot_dict_get ty F.entry_dict_get go (F.args_dict_get_3 _ _ _)
theorem Wg (hu:X.A.units+64<cLine):MtR X "dict.get" (λx vs H Q=>∃th mu d ds,StoOk X.z th mu H/\Rep X.z th H d x/\RepL X.z th H ds vs/\Tr X.z th H (Oz d ds mu) (KV' X.z Q)):=by
 intro pj s st H x xs v us Q I rx rxs h
 obtain⟨th,mu,d,ds,so,r1,r2,t⟩:=h
 unfold Oz at t
 cases e:DF mu d with
 |none=>rw[e] at t;exact t.no.elim
 |some p =>
  rw[e] at t
  obtain⟨a,rfl,dc⟩:=Eb so e r1
  cases rx
  match ds,r2,t with
  |[],_,t=>exact t.no.elim
  |[k],r2,t =>
   dsimp only at t
   by_cases c:DN k=true
   ·rw[if_pos c] at t
    obtain⟨kv,rfl,rk⟩:=Eg r2
    obtain⟨u,rfl,ru⟩:=vals1 rxs
    refine Ox hu I dc (G4 I c rk ru) (.inl ⟨rfl,rfl⟩) (λd' e' v' r' z1 z2 tk=>?_) λe' tk=>?_
    ·rw[e'] at t
     exact⟨v',H,I.tok _,z2,t.ret so _ z1⟩
    ·rw[e'] at t
     exact⟨.non,H,I.tok _,rfl,t.ret so _ rfl⟩
   ·rw[if_neg c] at t;exact t.no.elim
  |[k,y],r2,t =>
   dsimp only at t
   by_cases c:DN k=true
   ·rw[if_pos c] at t
    obtain⟨kv,yv,rfl,rk,ry⟩:=GH r2
    obtain⟨u,w',rfl,ru,rw'⟩:=vals2 rxs
    refine Ox hu I dc (G4 I c rk ru) (.inr rfl) (λd' e' v' r' z1 z2 tk=>?_) λe' tk=>?_
    ·rw[e'] at t
     exact⟨v',H,I.tok _,z2,t.ret so _ z1⟩
    ·rw[e'] at t
     exact⟨yv,H,I.tok _,rw',t.ret so _ ry⟩
   ·rw[if_neg c] at t;exact t.no.elim
  |_::_::_::_,_,t=>exact t.no.elim
def tBD (r:V->List V->Hp->VK->Prop)(to:TE)(t:TA):TE:=fun σ H Q=>to σ H λx H1=>(∃a xs,x=.ref a/\H1 a=some (Et a xs))/\t σ H1 λvs H2=>r x vs H2 Q
def XW {o e:Expr}{es:List Expr}{to:TE}{t:TA}{name:Str}{apos cpos:Pos}{id:String}{r:V->List V->Hp->VK->Prop}(slot:Slot "dict" name id)(hty:typeOf (.builtin id)=pure (.type "method_descriptor"))(hm:MtR X id r)(ho:PE X o to)(ha:PA X (e::es) t)
  (hbase:attributeBase o name X.env (eval o X.env)=eval o X.env)
  (hfew:((backTo cpos (starEach (e::es) X.env)).all (λx=>!x.1)&&(backToKw cpos (keywordEach [] X.env)).all (λx=>x.1.isSome)
   && decide ((e::es).length+([]:List Keyword).length+(if ([]:List Keyword).isEmpty then 0 else 1)<30))=true)
  (hline:(apos.endLine==cpos.line)=true) (hs:starEach (e::es) X.env=(false,eval e X.env)::starEach es X.env) (hplain:(backTo cpos (starEach es X.env)).any (·.1)=false) :
  PE X (.Call (.Attribute o name apos) (e::es) [] cpos) (tBD r to t):=by
 intro pj s st H Q I h
 refine wpAny_Call_method_late hbase hfew hline rfl (thn (ho pj s st H _ I h) λv s1 ⟨x,H1,I1,r1,⟨a,xs,ex,hd⟩,q1⟩=>?_)
 subst ex
 cases r1
 obtain⟨⟨z,ob,es',ep,g1,g2,g3,g4,ge⟩,_⟩:=(show ObjOk X.prog X.w H1 s1.heap a (Et a xs) from I1.hok a _ hd)
 refine⟨"dict",id,F.plainAttrs_dict,slot,hty,⟨ob,g1,g2.1⟩,λb e=>by cases e;exact⟨ob,g1,g2.2.1⟩,?_⟩
 have hA:=ha cpos pj s1 st H1 _ I1 q1
 rw[hs] at hA ⊢
 refine Calls.callWith_builtin (by show(false||(backTo cpos (starEach es X.env)).any (·.1))=false;rw[hplain]<;>rfl) (Calls.evalArgs_plain ?_)
 exact thn hA λus s2 ⟨vs,H2,I2,r2,q2⟩=>hm pj s2 st H2 (.ref a) vs (.ref a) us Q I2 rfl r2 q2
def Fw (o:Ex)(a:Exs):Ex:=λro mu=>bM (o ro mu) λd m1=>if (DF m1 d).isSome=true then bM (a ro m1) λxs m2=>Oz d xs m2 else none
def Hi (hu:X.A.units+64<cLine){o e:Expr}{es:List Expr}{m:Ex}{n:Exs}{apos cpos:Pos}(ho:SV X o m)(ha:SVA X (e::es) n)(hbase:attributeBase o "get" X.env (eval o X.env)=eval o X.env:=by rfl)
  (hfew:((backTo cpos (starEach (e::es) X.env)).all (λx=>!x.1)&&(backToKw cpos (keywordEach [] X.env)).all (λx=>x.1.isSome)
   && decide ((e::es).length+([]:List Keyword).length+(if ([]:List Keyword).isEmpty then 0 else 1)<30))=true:=by rfl)
  (hline:(apos.endLine==cpos.line)=true:=by rfl) (hs:starEach (e::es) X.env=(false,eval e X.env)::starEach es X.env:=by rfl) (hplain:(backTo cpos (starEach es X.env)).any (·.1)=false:=by rfl) :
  SV X (.Call (.Attribute o "get" apos) (e::es) [] cpos) (Fw m n):=
 ⟨PE.weak (XW F.slot_dict_get F.type_dict_get (Wg hu) ho.r ha.1 hbase hfew hline hs hplain) λst H Q h=>by
  obtain⟨th,mu,ro,so,en,t⟩:=h
  refine⟨th,mu,ro,so,en,t.bind.mono λd th1 mu1 H1 e1 s1 t1 v rv=>?_⟩
  cases q:DF mu1 d with
  |none=>rw[q] at t1;exact t1.no.elim
  |some pr =>
   rw[q] at t1
   rw[if_pos (show(some pr).isSome=true from rfl)] at t1
   obtain⟨a,rfl,dc⟩:=Eb s1 q rv
   obtain⟨xs,hx,_⟩:=id dc
   refine⟨⟨a,xs,rfl,hx⟩,th1,mu1,ro,s1,en.ext e1 so.out,?_⟩
   exact Tr.mono (Tr.bind t1) λys th2 mu2 H2 e2 s2 t2 ws rws=>⟨th2,mu2,d,ys,s2,rv.ext e2 s1.out,rws,t2⟩⟩
end
end PV
namespace L2
open PySem PySem.Spec PyProof.Rows
inductive IsC:Expr->List Comprehension->Prop
 |l {elt gens sc pos}:IsC (.ListComp elt gens sc pos) gens
 |d {k v gens sc pos}:IsC (.DictComp k v gens sc pos) gens
def HQ (g:Comprehension)(it:Value)(env:Env)(step:Sem Unit)(c:Code):Sem Fin:=do
 standAt g.iter.pos
 match<-pyNext it with
 |none=>pure (.done .next)
 |some v =>
  letOwnedTupleGo g.target it v
  assign g.target env v
  let mut ok:=true
  for c in g.ifs do
   if ok then ok<-isTrue c env (eval c env)
  if ok then step
  again c
def Og (elt:Expr)(acc:Value)(env:Env):Sem Unit:=do let _<-call (.builtin "list.append") [acc,<- eval elt env]
def Ov (kx vx:Expr)(D:Addr)(env:Env):Sem Unit:=do
 let kv<-eval kx env
 let vv<-holding [kv] (eval vx env)
 standAt {kx.pos with endLine:=vx.pos.endLine,endCol:=vx.pos.endCol}
 holding [kv,vv] (dictSet D kv vv)
def deeper (e iter:Expr)(acc:Value)(env:Env):Sem Unit:=do
 let x<-eval iter env
 standAt iter.pos
 let x<-foldedSetIterable iter env x
 let _<-runOwn (.compStart e 1 (<- holding [x] (pyIter x)) acc env) env
theorem S3 {elt t i ifs sc pos it acc env}:compTurn (.ListComp elt [⟨t,i,ifs,0⟩] sc pos) 0 it acc env=HQ ⟨t,i,ifs,0⟩ it env (Og elt acc env) (.compLoop (.ListComp elt [⟨t,i,ifs,0⟩] sc pos) 0 it acc env):=rfl
theorem Tf {k v t i ifs sc pos it D env}:compTurn (.DictComp k v [⟨t,i,ifs,0⟩] sc pos) 0 it (.ref D) env=HQ ⟨t,i,ifs,0⟩ it env (Ov k v D env) (.compLoop (.DictComp k v [⟨t,i,ifs,0⟩] sc pos) 0 it (.ref D) env):=rfl
section
variable {prog:Program}{w:World}{A:Around}{R:Result->Zaa}{s:Shared}{e:Expr}{gens:List Comprehension}{g:Comprehension}{depth:Nat}{it acc:Value}{env:Env}{step:Sem Unit}
theorem Yj (hc:IsC e gens)(heq:compTurn e depth it acc env=HQ g it env step (.compLoop e depth it acc env))(J:Nat->Zaa)
  (turn:∀(n:Nat) (z:Shared),J n z->Go prog w A (pyNext it) (λr z1=>match r with
   |.none=>R (.ok .next) z1
   |.some v=>Go prog w A (letOwnedTupleGo g.target it v) (λ_ s1=>Go prog w A (assign g.target env v) (λ_ s2=>Go prog w A (tests env g.ifs) (λok s3 =>
     if ok=true then Go prog w A step (λ_ z2=>∃m,m<n/\J m z2) s3 else ∃m,m<n/\J m s3) s2) s1) z1) z) (n:Nat) (h:J n s) :
  codeAny (model prog w) A (Code.compLoop e depth it acc env) R s:=by
 have st:∀(n:Nat) (z:Shared),J n z->Go prog w A (compTurn e depth it acc env)
   (λfin z'=>match fin with
    |.done f=>R (.ok f) z'
    |.again c'=>c'=Code.compLoop e depth it acc env/\∃m,m<n/\J m z') z:=by
  intro n z hz
  rw[heq]
  unfold HQ
  refine Aa (wpAny_standAt (Aa (thn (turn n z hz) λr z1 h1=>?_)))
  cases r with
  |none=>exact Ab h1
  |some v =>
   refine Aa (thn h1 λ_ z2 h2=>Aa (thn h2 λ_ z3 h3=>Aa (thn h3 λok z4 h4=>?_)))
   cases ok with
   |false=>exact Ab (And.intro rfl h4)
   |true=>exact Aa (thn h4 λx z5 h5=>Ab (And.intro rfl h5))
 cases hc with
 |l=>exact codeAny_loop rfl J (λn z hz=>wpAny_noted (wpAny_mono (st n z hz) (λ_ _ q=>q) λ_ _ q=>q.elim)) n h
 |d=>exact codeAny_loop rfl J (λn z hz=>wpAny_noted (wpAny_mono (st n z hz) (λ_ _ q=>q) λ_ _ q=>q.elim)) n h
theorem WY (hc:IsC e gens)(hg:gens[depth]?=some g)(ha:g.is_async=0)
  (h0:codeAny (model prog w) A (.compLoop e depth it acc env) R s)
  (h:wpAny (model prog w) A (pyIter it) (λit' s'=>codeAny (model prog w) A (.compLoop e depth it' acc env) R s') (notedBy (model prog w) A env λx s'=>R (.error x) s') s) :
  codeAny (model prog w) A (.compStart e depth it acc env) R s:=by
 have st:wpAny (model prog w) A (compStart e depth it acc env) (λfin s'=>match fin with
    |.done f=>R (.ok f) s'
    |.again c'=>c'.quiet=true/\codeAny (model prog w) A c' R s') (notedBy (model prog w) A env λx s'=>R (.error x) s') s:=by
  have cl:clausesOf e=gens:=by cases hc<;>rfl
  have qt:(Code.compLoop e depth it acc env).quiet=true:=by cases hc<;>rfl
  have qt':∀it',(Code.compLoop e depth it' acc env).quiet=true:=λit'=>by cases hc<;>rfl
  unfold compStart
  rw[cl,hg]
  simp only[Option.elim,ha,bne_self_eq_false,Ay,Bd,pure_bind]
  refine Aa (Cz (wpAny_ite ?_))
  split
  ·first
    |exact Aa (Ab (Ab (And.intro qt h0)))
    |exact Ab (And.intro qt h0)
  ·exact Aa (Bn (Aa (wpAny_standAt (Aa (wpAny_mono h (λit' s' h'=>Ab (And.intro (qt' _) h')) λ_ _ x=>x)))))
 cases hc with
 |l =>
  refine codeAny_of_tree ?_
  exact wpAny_notedAt (wpAny_mono st (λfin _ q=>q) λ_ _ q=>q)
 |d =>
  refine codeAny_of_tree ?_
  exact wpAny_notedAt (wpAny_mono st (λfin _ q=>q) λ_ _ q=>q)
end
abbrev TM (α:Type):=α->St->Hp->(α->St->Hp->Prop)->Prop
structure Acc (α:Type) where
 ao:α->Obj->Prop
 nc:∀a o,ao a o->∀v,o.data≠.cell v
structure DOk (X:Cx) (D:Addr):Prop where
 up:X.s₀.heap.objs.size<=D
 nl:D≠X.env.locals
 nf:D∉X.fs
 cl:∀x c,X.env.cells.lookup x=some c->c≠D
 pn:∀p∈X.pn,p.1≠D
def PM (X:Cx){α:Type}(K:Acc α)(D:Addr)(m:Sem Unit)(t:TM α):Prop:=
 ∀(pj:Zab) (s:Shared) (σ:St) (H:Hp) (Q:α->St->Hp->Prop) (a:α) (o:Obj),K.ao a o->(∀p∈pj,p.1≠D)->Inv X (pj++[(D,o)]) σ H s->t a σ H Q ->
  wpAny (model X.prog X.w) X.A m (λ_ s'=>∃a' o' σ' H',K.ao a' o'/\Inv X (pj++[(D,o')]) σ' H' s'/\Q a' σ' H') X.xe s
def CGo {α:Type}(J:It)(g:TG)(tt:TT)(tm:TM α)(a:α)(σ:St)(H:Hp)(Q:α->St->Hp->Prop):Prop:=
 ∃W:Nat->Nat->α->St->Hp->Prop,(∃m,W 0 m a σ H)/\∀i m a σ' H',W i m a σ' H' ->
  ((J.stop i H'/\Q a σ' H') \/
   (J.go i H'/\∀x H2,J.yld i H' x H2->g x σ' H2 fun σ3 H3=>tt σ3 H3 λb H4 =>
    if b=true then tm a σ3 H4 λa' σ5 H5=>∃m',m'<m/\W (i+1) m' a' σ5 H5 else ∃m',m'<m/\W (i+1) m' a σ3 H4))
section
variable {X:Cx} {α:Type}{K:Acc α}{D:Addr}{R:Result->Zaa}{e:Expr}{gens:List Comprehension}{g:Comprehension}{depth:Nat}{step:Sem Unit}{tg:TG}{tt:TT}{tm:TM α}
def Inv.pins_sub {pj pins':Zab}{σ:St}{H:Hp}{s:Shared}(I:Inv X pj σ H s)(h:∀p∈pins',p∈pj):Inv X pins' σ H s:=I.pins_of λp hp=>I.pin p (AJ _ (h p hp))
def cgo (hc:IsC e gens)(hcalm:X.calm=true)(hx:X.xe=λ_ _=>False){it:Addr}(heq:compTurn e depth (.ref it) (.ref D) X.env=HQ g (.ref it) X.env step (.compLoop e depth (.ref it) (.ref D) X.env))
  (hg:PG X g.target tg) (ht:PF X g.ifs tt) (hm:PM X K D step tm){J:It}{fp:List Addr}{tn:Nat->Heap->Prop} (T:Turn X.prog X.w X.K g.target J fp it tn)
  {pj:Zab}{s:Shared} {σ:St}{H:Hp}{a:α}{o:Obj}{Q:α->St->Hp->Prop} (ao:K.ao a o) (I:Inv X (pj++[(D,o)]) σ H s) (st:tn 0 s.heap) (f:∀b∈fp,HJ X pj H b) (fD:∀b∈fp,D≠b) (pD:∀p∈pj,p.1≠D)
  (w:CGo J tg tt tm a σ H Q) (fin:∀s' a' o' σ' H',K.ao a' o'->Inv X (pj++[(D,o')]) σ' H' s'->Q a' σ' H'->R (.ok .next) s') :
  codeAny (model X.prog X.w) X.A (.compLoop e depth (.ref it) (.ref D) X.env) R s:=by
 obtain⟨W,⟨m0,w0⟩,turn⟩:=w
 have stat:∀{H':Hp} (o':Obj),(∀b∈fp,H' b=none)->∀b∈fp,HJ X (pj++[(D,o')]) H' b:=λ{H'} o' hn b hb=>by
  obtain⟨_,f1,f2,f3,f4,f5⟩:=f b hb
  refine⟨hn b hb,f1,f2,f3,f4,λp hp=>?_⟩
  rcases AQ.mp hp with z|z
  ·exact f5 p (Bw _ z)
  ·rcases AQ.mp z with z|z
   ·exact f5 p (AJ _ z)
   ·rw[Av.mp z];exact fD b hb
 refine Yj hc heq (λn s'=>∃i a o σ' H',K.ao a o/\Inv X (pj++[(D,o)]) σ' H' s'/\tn i s'.heap/\(∀b∈fp,H' b=none)/\W i n a σ' H') ?_ m0 ⟨0,a,o,σ,H,ao,I,st,λb hb=>(f b hb).1,w0⟩
 rintro n s3 ⟨i,a3,o3,σ3,H3,ao3,I3,st3,fr3,w3⟩
 rcases turn i n a3 σ3 H3 w3 with⟨stop,qn⟩|⟨go,stp⟩
 ·refine thn (T.done X rfl rfl rfl hcalm i _ s3 σ3 H3 (λ_ _=>False) I3 (stat o3 fr3) st3 stop) λr s4 ⟨hr,I4⟩=>?_
  subst hr
  exact fin s4 a3 o3 σ3 H3 ao3 I4 qn
 ·refine thn (T.item X rfl rfl rfl hcalm i _ s3 σ3 H3 (λ_ _=>False) I3 (stat o3 fr3) st3 go) λr s4 ⟨u,hr,h4⟩=>?_
  subst hr
  refine thn h4 λ_ s5 ⟨x,H5,I5,r5,y5,st5,fr5⟩=>?_
  have I5':=I5.pinned (stat o3 fr5) (T.obj _ _ st5)
  have a1:=hg _ s5 σ3 H5 x u _ I5' r5 (stp x H5 y5)
  rw[hx] at a1
  refine thn a1 λ_ s6 ⟨σ6,H6,I6,q6⟩=>?_
  have b1:=ht _ s6 σ6 H6 _ I6 q6
  rw[hx] at b1
  refine thn b1 λok s7 ⟨H7,I7,q7⟩=>?_
  have keep:∀{s':Shared}{pl:Zab} {σ':St}{H':Hp},Inv X pl σ' H' s'->(∀p∈HM fp s5.heap,p∈pl)->tn (i+1) s'.heap/\∀b∈fp,H' b=none:=λ{s' pl σ' H'} J' hs=>by
   refine⟨T.keep _ _ _ st5 λb hb o e=>(J'.pin (b,o) (AJ _ (hs _ (GS hb e)))).1,λb hb=>?_⟩
   obtain⟨o,e,_⟩:=T.obj _ _ st5 b hb
   exact(J'.pin (b,o) (AJ _ (hs _ (GS hb e)))).2.1
  cases ok with
  |false =>
   rw[if_neg AS] at q7 ⊢
   obtain⟨m',hm',w7⟩:=q7
   obtain⟨k1,k2⟩:=keep I7 λp hp=>AJ _ hp
   exact⟨m',hm',i+1,a3,o3,σ6,H7,ao3,I7.unpinned,k1,k2,w7⟩
  |true =>
   rw[if_pos rfl] at q7 ⊢
   have I8:Inv X ((pj++HM fp s5.heap)++[(D,o3)]) σ6 H7 s7:=I7.pins_sub λp hp=>by
    simp only[AQ] at hp ⊢
    rcases hp with(z|z)|z
    ·exact .inl (.inl z)
    ·exact .inr z
    ·exact .inl (.inr z)
   have c1:=hm (pj++HM fp s5.heap) s7 σ6 H7 _ a3 o3 ao3 (λp hp=>by
    rcases AQ.mp hp with z|z
    ·exact pD p z
    ·exact Ne.symm (fD p.1 (Lg z).1)) I8 q7
   rw[hx] at c1
   refine thn c1 λ_ s9 ⟨a9,o9,σ9,H9,ao9,I9,m',hm',w9⟩=>?_
   obtain⟨k1,k2⟩:=keep I9 λp hp=>Bw _ (AJ _ hp)
   exact⟨m',hm',i+1,a9,o9,σ9,H9,ao9,I9.pins_sub λp hp=>by
    simp only[AQ] at hp ⊢
    rcases hp with z|z
    ·exact .inl (.inl z)
    ·exact .inr z,k1,k2,w9⟩
end
section
variable {X:Cx} {α:Type}{scope:Scope}{fv:List (Nat×Str)}
def MQ {pj:Zab}{σ:St}{H:Hp}{s:Shared}{fp:List Addr}{cl:List (Str×Addr)}{h₁:Heap}{own:List Str}{o0:Obj}(I:Inv X pj σ H s)(L:MI X scope fv)(hf:∀b∈fp,HJ X pj H b)(hfo:∀b∈fp,∃o,s.heap.get? b=some o)
  (hsub:∀x c,cl.lookup x=some c->X.env.cells.lookup x=some c) (hhas:∀y∈scope.names,y.2=.free->∃c,cl.lookup y.1=some c)
  (hns:h₁.Ns (s.heap.objs.size+1) (λx=>([]:List (Str×Value)).reverse.lookup x)) (hold:∀b o,s.heap.get? b=some o->h₁.get? b=some o) (hD:h₁.get? s.heap.objs.size=some o0) (nc0:∀v,o0.data≠.cell v){tk:Nat} :
  Inv (DA X scope (own++fv.map (·.2)) cl (s.heap.objs.size+1) s H fp) [(s.heap.objs.size,o0)] (st0 own.length fv σ) H {s with heap:=h₁,toks:=tk}:=by
 have nst:∀b,s.heap.objs.size<=b->b∉frs X.stack:=λb hb hm=>by
  rcases Ap.mp (I.stkSub b hm) with e|e
  ·exact absurd I.lt (by rw[<- e];exact Nat.not_lt.mpr hb)
  ·exact I.nofs hb e
 have fpst:∀b∈fp,b∉frs X.stack:=λb hb hm=>by
  obtain⟨_,f1,f2,_⟩:=hf b hb
  rcases Ap.mp (I.stkSub b hm) with e|e
  ·exact f1 e
  ·exact f2 e
 have celllt:∀x c,cl.lookup x=some c->c<s.heap.objs.size:=λx c e=>by
  obtain⟨v,z⟩:=I.cell x c (hsub x c e)
  exact z.lt
 refine⟨⟨I.ok.mod,L.kind,I.ok.glob,I.ok.blt,Nat.le_succ _,λx y c h1 h2=>I.ok.inj x y c (hsub _ _ h1) (hsub _ _ h2),λx hx=>hhas (x,.free) (Jb L.cell hx) rfl,λ_ _ z=>Bool.noConfusion z,I.ok.hd,I.ok.frames,.inl rfl,
   λb hb=>⟨?_,λx c e z=>?_⟩,I.bs,AU I.ok.bsz I.sz,λb o e hb=>?_,fpst,I.stack,I.stkFree⟩,
  rfl,I.bare,Un.kept hold,⟨_,hns,λi x v e1 e2 e3=>?_⟩,λx c e=>?_,I.hok.fresh (Nat.le_succ _),λx c e=>I.freeC x c (hsub x c e),λp hp=>?_,I.hok.kept hold,?_⟩
 ·obtain⟨o,e⟩:=hfo b hb
  exact Ax (Bs (Ao e))
 ·exact(hf b hb).2.2.2.2.1 x c (hsub x c e) z
 ·obtain⟨_,_,_,f3,_⟩:=hf b hb
  rcases f3 with f3|f3
  ·exact I.ok.noex b o e f3
  ·exact absurd (AN (Ao e) (AU I.ok.bsz f3)) (Bz _)
 ·have e1':(own++fv.map (·.2))[i]?=some x:=e1
  unfold st0 at e2
  by_cases hi:i<own.length
  ·rw[As (by simpa using hi),Cn] at e2
   split at e2<;>cases e2
  ·rw[AY (by simpa using hi),List.length_replicate,Am] at e2
   rw[AY (by simpa using hi),Am] at e1'
   cases hp:fv[i-own.length]? with
   |none=>rw[hp] at e1';cases e1'
   |some p =>
    rw[hp] at e1' e2
    have ex:p.2=x:=AH e1'
    have ev:σ.getD p.1 none=some v:=AH e2
    obtain⟨q1,q2,q3⟩:=L.fv.get hp
    rw[ex] at q1 q2 q3
    have hσ:σ[p.1]?=some (some v):=by
     rw[AW] at ev
     cases q:σ[p.1]? with
     |none=>rw[q] at ev;cases ev
     |some w=>rw[q] at ev;exact congrArg some ev
    obtain⟨m,_,hl⟩:=I.loc
    obtain⟨u,r,l⟩:=hl p.1 x v q1 hσ (by rcases q2 with z|z;exact .inr (.inl z);exact .inr (.inr z))
    refine⟨u,r,.inr ⟨q3,?_⟩⟩
    rcases l with⟨k,_⟩|⟨_,c,ec,z⟩
    ·exfalso
     have k':X.env.scope.names.lookup x=some .local:=k
     rcases q2 with z|z<;>rw[k'] at z<;>cases z
    ·obtain⟨c',ec'⟩:=hhas (x,.free) (Jb L.cell q3) rfl
     have:c'=c:=AH ((hsub x c' ec').symm.trans ec)
     subst this
     obtain⟨o,ho,hd⟩:=z
     exact⟨c',ec',o,hold _ _ ho,hd⟩
 ·obtain⟨v,o,ho,hd⟩:=I.cell x c (hsub x c e)
  exact⟨v,o,hold _ _ ho,hd⟩
 ·have e:p=(s.heap.objs.size,o0):=by simpa[DA] using hp
  subst e
  exact⟨hD,I.hok.fresh (Ai _),Ax (Bi _),nst _ (Ai _),nc0⟩
 ·show(st0 own.length fv σ).length=(own++fv.map (·.2)).length
  unfold st0
  simp
structure LJ (α:Type) extends Acc α where
 cls:String
 d0:Data
 a0:α
 ao0:ao a0 {cls:=.type cls,dict:=none,data:=d0}
 fin:α->Prop
 ho:Addr->α->HO
 sz:sizeOk d0
 fr:({cls:=.type cls,dict:=none,data:=d0}:Obj).isFreed=false
 lay:∀(P:Program) (w:World) (H:Hp) (h:Heap) (D:Addr) (a:α) (o:Obj),ao a o->fin a->h.get? D=some o->sysModules<D->ObjOk P w (upd H D (ho D a)) h D (ho D a)
def tCo (wi:TI)(nc:Nat)(fv:List (Nat×Str))(B:LJ α)(g:TG)(tt:TT)(tm:TM α):TE:=fun σ H Q=>wi σ H λJ H1=>CGo J g tt tm B.a0 (st0 nc fv σ) H1 λa _ H'=>B.fin a/\∀p,H' p=none->Q (.ref p) (upd H' p (B.ho p a))
def JD {e:Expr}{gens:List Comprehension}{g:Comprehension}{rest:List Comprehension}{own:List Str}{wi:TI}{B:LJ α}{tg:TG}{tt:TT}{tm:TM α}{step:Addr->Addr->List (Str×Addr)->Sem Unit}{pos2:Pos}{newAcc:Sem Value}
  {pj:Zab}{s:Shared} {σ:St}{H:Hp}{Q:VK}{use:Option (Value->Sem Unit)}{Qc:Value->Zaa} (hc:IsC e gens) (hgens:gens=g::rest) (ha:g.is_async=0) (hnew:newAcc=newObj (.type B.cls) B.d0) (L:MI X scope fv) (hi:PI X g.target g.iter wi)
  (heq:∀it cl C D,compTurn e 0 (.ref it) (.ref D) (compEnvC scope cl C X.env)=HQ g (.ref it) (compEnvC scope cl C X.env) (step D C cl) (.compLoop e 0 (.ref it) (.ref D) (compEnvC scope cl C X.env)))
  (hg:∀cl C s₁ H₁ fp,PG (DA X scope (own++fv.map (·.2)) cl C s₁ H₁ fp) g.target tg)
  (ht:∀cl C s₁ H₁ fp,PF (DA X scope (own++fv.map (·.2)) cl C s₁ H₁ fp) g.ifs tt)
  (hm:∀cl C s₁ H₁ fp D,DOk (DA X scope (own++fv.map (·.2)) cl C s₁ H₁ fp) D->PM (DA X scope (own++fv.map (·.2)) cl C s₁ H₁ fp) B.toAcc D (step D C cl) tm)
  (hs:∀x,foldedSetIterable g.iter X.env x=pure x) (hb:∀{s2:Shared}{H2:Hp},Inv X pj σ H2 s2->sysModules<s2.heap.objs.size) (I:Inv X pj σ H s) (h:tCo wi own.length fv B tg tt tm σ H Q)
  (fin:∀(s6:Shared) (H':Hp) (D C:Addr) (m:Str->Option Value),Inv X pj σ H' s6->HJ X pj H' C->s6.heap.Ns C m->Q (.ref D) H'->compPost (model X.prog X.w) X.A X.xe use Qc (.ref D) C (.ok .next) s6) :
  wpAny (model X.prog X.w) X.A (comprehension e scope X.env pos2 newAcc false (eval g.iter X.env) use) Qc X.xe s:=by
 obtain⟨cl,hclos,hsub,hhas⟩:=NP (scope:=scope) (env:=X.env) λy hy hf=>I.ok.has y.1 (L.free y hy hf)
 have hcl:clausesOf e=g::rest:=by subst hgens;cases hc<;>rfl
 refine wpAny_comprehension_free (use:=use) hcl hs hclos L.kind L.names (thn (hi pj s σ H _ I h) λv s1 h1=>thn h1 λitv s2 h2=>?_)
 obtain⟨it,fp,tn,J,H2,e2,I2,T,st2,f2,w⟩:=h2
 subst e2
 have hfo:∀b∈fp,∃o,s2.heap.get? b=some o:=λb hb=>let ⟨o,e,_⟩:=T.obj _ _ st2 b hb;⟨o,e⟩
 rw[hnew]
 refine AZ (hd:=B.sz) (wpAny_newFunctionEnv L.cell (by intro y hy;simp at hy) (λh₁ hns₁ hsb₁=>?_) L.kind)
 dsimp only at hns₁ hsb₁ ⊢
 have hCe:(s2.heap.push {cls:=.type B.cls,dict:=none,data:=B.d0}).objs.size=s2.heap.objs.size+1:=Ba _ _
 rw[hCe] at hns₁ hsb₁ ⊢
 have old:∀b o,s2.heap.get? b=some o->h₁.get? b=some o:=λb o e=>hsb₁.extBut b o (Ax (Bs (Ao e))) (Ad _ (Ad _ e))
 have hD₁:h₁.get? s2.heap.objs.size=some {cls:=.type B.cls,dict:=none,data:=B.d0}:=hsb₁.extBut _ _ (Ax (Bi _)) (Ad _ (Ak _ B.fr))
 have I4:=MQ (own:=own) (tk:=s2.toks+([]:List (Str×Value)).length) I2 L f2 hfo hsub hhas hns₁ old hD₁ (B.nc _ _ B.ao0)
 have st4:tn 0 h₁:=T.keep _ _ _ st2 λb _ o e=>old b o e
 have celllt:∀x c,cl.lookup x=some c->c<s2.heap.objs.size:=λx c e=>by
  obtain⟨v,z⟩:=I2.cell x c (hsub x c e)
  exact z.lt
 have nst:s2.heap.objs.size∉frs X.stack:=λhm=>by
  rcases Ap.mp (I2.stkSub _ hm) with e|e
  ·exact absurd I2.lt (by rw[<- e];exact Bz _)
  ·exact I2.nofs (Ai _) e
 have dk:DOk (DA X scope (own++fv.map (·.2)) cl (s2.heap.objs.size+1) s2 H2 fp) s2.heap.objs.size:=⟨Ai _,Ax (Bi _),nst,λx c e=>Ax (celllt x c e),λp hp=>nomatch hp⟩
 have fpok:∀b∈fp,HJ (DA X scope (own++fv.map (·.2)) cl (s2.heap.objs.size+1) s2 H2 fp) [] H2 b:=λb hb=>by
  obtain⟨o,eo⟩:=hfo b hb
  have blt:=Ao eo
  refine⟨(f2 b hb).1,Ax (Bs blt),λhm=>?_,.inl hb,λx c e=>(f2 b hb).2.2.2.2.1 x c (hsub x c e),λp hp=>?_⟩
  ·obtain⟨_,f1,f3,_⟩:=f2 b hb
   rcases Ap.mp (I2.stkSub b hm) with e|e
   ·exact f1 e
   ·exact f3 e
  ·have hp':p∈([]:Zab):=by simpa[DA] using hp
   cases hp'
 have fD:∀b∈fp,s2.heap.objs.size≠b:=λb hb=>by
  obtain⟨o,eo⟩:=hfo b hb
  exact BP (Ao eo)
 have big:sysModules<s2.heap.objs.size:=hb I2
 have loop:=cgo (X:=DA X scope (own++fv.map (·.2)) cl (s2.heap.objs.size+1) s2 H2 fp) (R:=compPost (model X.prog X.w) X.A X.xe use Qc (.ref s2.heap.objs.size) (s2.heap.objs.size+1)) (pj:=[]) hc L.calm rfl (heq it cl (s2.heap.objs.size+1) s2.heap.objs.size) (hg cl (s2.heap.objs.size+1) s2 H2 fp) (ht cl (s2.heap.objs.size+1) s2 H2 fp) (hm cl (s2.heap.objs.size+1) s2 H2 fp _ dk) T B.ao0 I4 st4 fpok fD (λp hp=>nomatch hp) w
  λs6 a6 o6 σ6 H6 ao6 I6 q6=>by
   obtain⟨qf,qn⟩:=q6
   obtain⟨m,hn,_⟩:=I6.loc
   obtain⟨eD,nD,_⟩:=I6.pin (s2.heap.objs.size,o6) (AJ _ (Av.mpr rfl))
   have nC:H6 (s2.heap.objs.size+1)=none:=I6.free
   have U:Un (frs X.stack) fp H2 H6 s2.heap s6.heap:=I6.base
   have ok6:HOk X.prog X.w H6 s6.heap:=I6.hok
   have J6:Inv X pj σ (upd H6 s2.heap.objs.size (B.ho s2.heap.objs.size a6)) s6:=I2.call' (s':=s6) I6.os (U.lay (Ai _) nD) (ok6.lay nD (B.lay _ _ _ _ _ _ _ ao6 qf eD big)) I6.bare λb hb=>by
    obtain⟨_,f1,_,f3,f4,f5⟩:=f2 b hb
    exact⟨f3,f1,f4,f5⟩
   exact fin s6 _ _ _ m J6 (I2.fpOk (Nat.le_succ _) (by rw[Dp (BP (Bi _))];exact nC)) hn (qn _ nD)
 exact WY hc (by rw[hgens];rfl) ha loop (T.self _ 0 _ _ _ st4 loop)
end
def R3:LJ (List V) where
 ao:=λys o=>∃its k,o={cls:=.type "list",data:=.seq its k}/\Vals ys its.toList
 nc:=λa o h v z=>by obtain⟨its,k,rfl,_⟩:=h;cases z
 cls:="list"
 d0:=.seq ([]:List Value).toArray
 a0:=[]
 ao0:=⟨#[],0,rfl,.nil⟩
 fin:=λys=>ys.length<=sizeLine
 ho:=λ_ ys=>.lst ys
 sz:=by size_fits
 fr:=rfl
 lay:=λP w H h D a o ao hf hD _=>by
  obtain⟨its,k,rfl,r⟩:=ao
  exact⟨hf,its.toList,k,r,by simpa using hD⟩
section
variable {X:Cx}{D:Addr}
def SX {elt:Expr}{te:TE}(dk:DOk X D)(he:PE X elt te):PM X R3.toAcc D (Og elt (.ref D) X.env) (λa σ H Q=>te σ H λv H'=>a.length<=sizeLine/\Q (a++[v]) σ H'):=by
 intro pj s σ H Q a o ao pD I h
 unfold Og
 refine Aa (thn (he _ s σ H _ I h) λu s1 ⟨y,H1,I1,r1,hl,q1⟩=>?_)
 obtain⟨its,k,rfl,r⟩:=ao
 obtain⟨e1,n1,l1,f1,_⟩:=I1.pin (D,_) (AJ _ (AJ _ (Av.mpr rfl)))
 have hz:its.size<=sizeLine:=by
  have e:=r.length
  simp only[Array.length_toList] at e
  ext
 refine Aa (wpAny_list_append_plain (hsz:=hz) ⟨k,e1⟩ λh' hl' sb=>Ab ?_)
 obtain⟨k',hk'⟩:=hl'
 have I2:Inv X pj σ H1 {s1 with heap:=h'}:=(I1.pins_sub λp hp=>Bw _ hp).turned (t':=s1.toks) (it:=D) (λb o hb e=>(sb.2 b hb).trans e) n1 dk.nl (.inr dk.up) dk.cl λp hp=>by
  rcases AQ.mp hp with z|z
  ·exact dk.pn p z
  ·exact pD p z
 refine⟨a++[y],_,σ,H1,⟨its.push u,k',rfl,?_⟩,I2.pins_of λp hp=>?_,q1⟩
 ·rw[Array.toList_push]
  exact r.append (.cons r1 .nil)
 ·rcases AQ.mp hp with z|z
  ·exact I2.pin p (AJ _ z)
  ·rw[Av.mp z]
   exact⟨hk',n1,l1,f1,λv z=>by cases z⟩
end
end L2
namespace PV
open PySem L2 PySem.Spec PyProof.Rows
abbrev EnV (x:Int×V×V) (e:DictEntry):Prop:=e.hash=x.1/\RelV x.2.1 e.key/\RelV x.2.2 e.val
def P0:LJ (List (Int×V×V)) where
 ao:=λxs o=>∃es ep,o={cls:=.type "dict",data:=.dict es ep}/\Paired EnV xs es.toList/\ep=es.size
 nc:=λa o h v z=>by obtain⟨es,ep,rfl,_⟩:=h;cases z
 cls:="dict"
 d0:=.dict #[]
 a0:=[]
 ao0:=⟨#[],0,rfl,.nil,rfl⟩
 fin:=λ_=>True
 ho:=λD xs=>Et D xs
 sz:=by size_fits
 fr:=rfl
 lay:=λP w H h D a o ao hf hD hb=>by
  obtain⟨es,ep,rfl,r,ge⟩:=ao
  exact Ka ⟨by simpa using BP hb,_,es,ep,hD,⟨rfl,rfl,rfl⟩,rfl,r,ge⟩
def IJ (k:D)(h:Int)(kv vv:V):List D->List (Int×V×V)->List (Int×V×V)
 |k'::ks,x::xs=>if k'=k then (x.1,x.2.1,vv)::xs else x::IJ k h kv vv ks xs
 |_,xs=>xs++[(h,kv,vv)]
theorem Gk {k:D}{h:Int}{kv vv:V}:∀{ks:List D}{xs:List (Int×V×V)},k∉ks->ks.length=xs.length->IJ k h kv vv ks xs=xs++[(h,kv,vv)]
 |[],_,_,_=>by unfold IJ;rfl
 |_::_,[],_,e=>by simp at e
 |k'::ks,x::xs,n,e=>by
  rw[Ap,not_or] at n
  rw[IJ,if_neg (λz=>n.1 z.symm),Gk n.2 (by simpa using e)]
  rfl
theorem Hu {k:D}{h:Int}{kv vv:V}:∀{ks:List D}{xs:List (Int×V×V)}{j:Nat} (hj:j<xs.length),ks.Nodup->ks[j]?=some k->IJ k h kv vv ks xs=xs.set j (xs[j].1,xs[j].2.1,vv)
 |[],_,_,_,_,e=>by simp at e
 |_::_,[],_,hj,_,_=>by simp at hj
 |k'::ks,x::xs,0,hj,n,e=>by simp at e;subst e;simp[IJ]
 |k'::ks,x::xs,j+1,hj,n,e=>by
  rw[Br] at n
  simp at e
  have:k'≠k:=λz=>n.1 (by rw[z];exact Ag e)
  rw[IJ,if_neg this,Hu (by simpa using hj) n.2 e]
  rfl
section
variable {X:Cx}{D:Addr}{th:List Addr}{mu:Sto}{H:Hp}
def Ti (hu:X.A.units+64<cLine){kx vx:Expr}{tk tv:TE}(dk:DOk X D)(hk:PE X kx tk)(hv:PE X vx tv):PM X P0.toAcc D (Ov kx vx D X.env) (λa σ H Q=>tk σ H λkv H1=>tv σ H1 λvv H2 =>
  ∃th ks k,RepL X.z th H2 ks (a.map (·.2.1))/\a.map (·.1)=DM X.w ks/\KeysOk ks/\DN k=true/\Rep X.z th H2 k kv/\ks.length<sizeLine/\Q (IJ k (CS X.w k) kv vv ks a) σ H2):=by
 intro pj s σ H Q a o ao pD I h
 unfold Ov
 refine Aa (thn (hk _ s σ H _ I h) λu s1 ⟨kv,H1,I1,ru,q1⟩=>Aa (AL (thn (hv _ s1 σ H1 _ I1 q1) λr s2 ⟨vv,H2,I2,rr,q2⟩=>Aa (wpAny_standAt (AL ?_)))))
 obtain⟨th,ks,k,rk,ehs,kok,hasK',rkv,lt,q⟩:=q2
 obtain⟨es,ep,rfl,pr,ge⟩:=ao
 obtain⟨g1,n1,l1,f1,_⟩:=I2.pin (D,_) (AJ _ (AJ _ (Av.mpr rfl)))
 dsimp only at g1 n1 l1 f1
 have hd:=G4 I2 hasK' rkv ru
 have xl:a.length=ks.length:=by have:=rk.len;simpa using this
 have en:Paired (EnK X.w s2.heap) ks es.toList:=by
  refine Ii (by rw[<- Dc pr,xl]) λj k e e1 e2=>?_
  obtain⟨x,y1,y2,y3,y4⟩:=(Dq pr j).2 e e2
  have hh:(a.map (·.1))[j]?=(DM X.w ks)[j]?:=by rw[ehs]
  rw[DV,Am,Am,y1,e1] at hh
  obtain⟨v,v1,v2⟩:=rk.get e1
  rw[Am,y1] at v1
  have v1':x.2.1=v:=by simpa using v1
  exact⟨by rw[y2];simpa using hh,G4 I2 (kok.ok k (Ag e1)) v2 (by rw[<- v1'];exact y3)⟩
 have g3:({cls:=.type "dict",data:=.dict es ep}:Obj).data=.dict es ep:=rfl
 have fin:∀{h':Heap}{tk':Nat}{es':Array DictEntry}{ep':Nat},Heap.SameBut D s2.heap h'->h'.get? D=some {cls:=.type "dict",data:=.dict es' ep'}->Paired EnV (IJ k (CS X.w k) kv vv ks a) es'.toList->ep'=es'.size ->
   ∃a' o' σ' H',P0.ao a' o'/\L2.Inv X (pj++[(D,o')]) σ' H' {s2 with heap:=h',toks:=tk'}/\Q a' σ' H':=λ{h' tk' es' ep'} sb hD pr' ge'=>by
  have I3:L2.Inv X pj σ H2 {s2 with heap:=h',toks:=tk'}:=(I2.pins_sub λp hp=>Bw _ hp).turned (t':=tk') (it:=D) (λb o hb e=>(sb.2 b hb).trans e) n1 dk.nl (.inr dk.up) dk.cl λp hp=>by
   rcases AQ.mp hp with z|z
   ·exact dk.pn p z
   ·exact pD p z
  refine⟨_,_,σ,H2,⟨es',ep',rfl,pr',ge'⟩,I3.pins_of λp hp=>?_,q⟩
  rcases AQ.mp hp with z|z
  ·exact I3.pin p (AJ _ z)
  ·rw[Av.mp z]
   exact⟨hD,n1,l1,f1,λv z=>by cases z⟩
 unfold dictSet
 have hu8:X.A.units+8<cLine:=by ext
 refine AL (Aa (hd.hash hu8 λtk=>?_))
 unfold dictSetHashed
 refine AL (Aa (Kf (s:={s2 with toks:=tk}) hu8 hd g1 g3 en kok.nd (λz=>?_) λj ej=>?_))
 ·have hz0:es.size<=sizeLine:=by rw[<- Array.length_toList,<- Dc en];ext
  refine Aa (Bn (wpAny_updateDictKeys (s:={s2 with toks:=tk}) g1 g3 (hz:=hz0) ?_))
  have so1:=AF (Obj.mapDictKeys (·.push ⟨CS X.w k,u,r⟩)) g1 (Cu (Obj.data_mapDictKeys g3 _))
  refine fin (es':=es.push ⟨CS X.w k,u,r⟩) (ep':=ep+1) (Au ..) so1 ?_ (by rw[Array.size_push,ge])
  rw[Gk z xl.symm,Array.toList_push]
  exact Gi pr (.cons ⟨rfl,ru,rr⟩ .nil)
 ·have hj:j<a.length:=by
   have:=(Ae.mp ej).1
   ext
  have hje:j<es.size:=by rw[<- Array.length_toList,<- Dc pr];exact hj
  obtain⟨y,y1,y2,y3,y4⟩:=(Dq pr j).1 a[j] (Al hj)
  rw[Aq] at y1
  refine Aa (Bn (Aa (wpAny_updateDict (s:={s2 with toks:=tk}) g1 g3 (wpAny_point ?_))))
  have so1:=AF (Obj.mapDict (·.modify j λe=>{e with val:=r})) g1 (Cu (Obj.data_mapDict g3 _))
  refine fin (es':=es.modify j λe=>{e with val:=r}) (ep':=ep) (Au ..) so1 ?_ (by rw[Array.size_modify,ge])
  have em:(es.modify j λe=>{e with val:=r}).toList=es.toList.set j {y with val:=r}:=by
   have yl:es.toList[j]?=some y:=by rw[Aq];exact y1
   rw[Array.toList_modify]
   refine A8 λi=>?_
   rw[List.getElem?_modify]
   by_cases c:j=i
   ·subst c
    rw[yl,Bm (by simpa using hje)]
    simp
   ·rw[AD c]
    simp[c]
  rw[em,Hu hj kok.nd ej]
  exact G7 j pr ⟨y2,y3,rr⟩
end
abbrev Mx (β:Type):=β->Ro->Sto->Rs β
def cGo {β:Type}(g:Option Nat)(m0:Sto)(tg:Gx)(tt:Tx)(st:Mx β)(ro:Ro):List D->β->Sto->Rs β
 |[],b,mu=>some (b,mu)
 |d::ds,b,mu=>bM (tg d ro mu) λro1 m1=>bM (tt ro1 m1) λc m2 =>
  if c=true then bM (st b ro1 m2) λb' m3=>Em g m0 m3 (cGo g m0 tg tt st ro ds b' m3) else Em g m0 m2 (cGo g m0 tg tt st ro ds b m2)
def stL (el:Ex):Mx (List D):=λb ro mu=>bM (el ro mu) λy m=>if b.length<sizeLine then some (b++[y],m) else none
def stD (kx vx:Ex):Mx (List D×List D):=λp ro mu=>bM (kx ro mu) λk m1=>bM (vx ro m1) λv m2=>if DN k=true/\p.1.length<sizeLine then some (DC k v p.1 p.2,m2) else none
def eCo {β:Type}(i:Ix)(nc:Nat)(fvs:List Nat)(tg:Gx)(tt:Tx)(st:Mx β)(b0:β)(fin:β->Sto->D×Sto):Ex:=λro mu=>bM (i ro mu) λp m1=>bM (cGo p.2 m1 tg tt st (r0 nc fvs ro) p.1 b0 m1) λb m2=>some (fin b m2)
def Zo (b:List D)(mu:Sto):D×Sto:=(.lst b,mu)
def OO (b:List D×List D)(mu:Sto):D×Sto:=(.ref mu.length,mu++[.dct b.1 b.2])
def GOw (lo hi:Nat)(tg:Gx):Prop:=∀d ro mu ro' mu',tg d ro mu=some (ro',mu')->ro'.length=ro.length/\∀i,i<lo\/hi<=i->ro'[i]?=ro[i]?
def So {lo hi i:Nat}(h1:lo<=i:=by decide)(h:i<hi:=by decide):GOw lo hi (gNm i):=λd ro mu ro' mu' e=>by
 cases e
 exact⟨by simp,λj hj=>AD (by ext)⟩
def rdM (K:Zc){α β:Type}(rp:List Addr->Hp->β->α->Prop)(ok:Ro->Prop)(st:Mx β):TM α:=λa σ H Q=>∃th mu ro b,StoOk K th mu H/\EnvOk K th H ro σ/\ok ro/\rp th H b a /\
 Tr K th H (st b ro mu) λb' th' _ H'=>∀a' σ',EnvOk K th' H' ro σ'->rp th' H' b' a'->Q a' σ' H'
def RpX {α β:Type}(rp:List Addr->Hp->β->α->Prop):Prop:=∀{th:List Addr}{H:Hp}{th':List Addr}{H':Hp}{b:β}{a:α},Ext th H th' H'->HU th H->rp th H b a->rp th' H' b a
def rpL (K:Zc)(th:List Addr)(H:Hp)(zs:List D)(ys:List V):Prop:=RepL K th H zs ys/\zs.length<=sizeLine
def rpD (K:Zc)(th:List Addr)(H:Hp)(p:List D×List D)(xs:List (Int×V×V)):Prop:=xs.map (·.1)=DM K.w p.1/\RepL K th H p.1 (xs.map (·.2.1))/\RepL K th H p.2 (xs.map (·.2.2))/\KeysOk p.1
section
variable {X:Cx}{K:Zc}{th:List Addr}{mu:Sto}{H:Hp} {α β:Type}{rp:List Addr->Hp->β->α->Prop}{ok:Ro->Prop}{st:Mx β}{tg:Gx}{tt:Tx}
def UP:RpX (rpL K):=λe t ⟨h1,h2⟩=>⟨h1.ext e t,h2⟩
def Xz:RpX (rpD K):=λe t ⟨h1,h2,h3,h4⟩=>⟨h1,h2.ext e t,h3.ext e t,h4⟩
def Rc {lo hi:Nat}(ow:GOw lo hi tg)(rx:RpX rp){ro:Ro}(hro:∀i d,ro[i]?=some (some d)->i<lo\/hi<=i)(hok:∀d mu ro' mu',tg d ro mu=some (ro',mu')->ok ro'){J:It}{ds:List D}{gd:Option Nat}{a:α}{b:β}{σ:L2.St}{Q:α->L2.St->Hp->Prop}
  (io:N0 K J th mu H ds gd) (so:StoOk K th mu H) (en:EnvOk K th H ro σ) (r:rp th H b a) (t:Tr K th H (cGo gd mu tg tt st ro ds b mu) λb' th' _ H'=>∀a' σ',EnvOk K th' H' ro σ'->rp th' H' b' a'->Q a' σ' H') :
  CGo J (rdG K tg) (rdT K tt) (rdM K rp ok st) a σ H Q:=by
 refine⟨λk n a' σ' H'=>n=ds.length-k/\k<=ds.length/\∃th' mu' b',StoOk K th' mu' H'/\EnvOk K th' H' ro σ'/\Ext th H th' H'/\gOk gd mu mu'/\rp th' H' b' a' /\
  Tr K th' H' (cGo gd mu tg tt st ro (ds.drop k) b' mu') λb' th' _ H'=>∀a' σ',EnvOk K th' H' ro σ'->rp th' H' b' a'->Q a' σ' H',⟨_,rfl,AX _,th,mu,b,so,en,.refl _ _,?_,r,t⟩,?_⟩
 ·cases gd with
  |none=>exact True.intro
  |some k=>exact rfl
 rintro k n a2 st2 H2 ⟨rfl,hk,th2,mu2,b2,s2,en2,e2,g2,r2,t2⟩
 by_cases lt:k<ds.length
 ·refine .inr ?_
  have ek:ds[k]?=some ds[k]:=by simp
  obtain⟨a1,a3⟩:=io.go th2 mu2 H2 e2 s2 g2 k ds[k] ek
  refine⟨a1,λx H3 y=>?_⟩
  obtain⟨e3,s3,r3⟩:=a3 x H3 y
  rw[B8 lt] at t2
  unfold cGo at t2
  refine⟨th2,mu2,ro,ds[k],s3,en2.ext e3 s2.out,r3,?_⟩
  refine(t2.ahead e3).bindE.mono λro1 th4 mu4 H4 e4 s4 t4 st4 en4=>?_
  obtain⟨eq4,t4⟩:=t4
  obtain⟨ol,ow'⟩:=ow _ _ _ _ _ eq4
  have back:∀{th' H' σ'},EnvOk K th' H' ro1 σ'->EnvOk K th' H' ro σ':=λ{th' H' σ'} en'=>by
   refine⟨by rw[<- ol];exact en'.1,λi d e=>?_⟩
   exact en'.2 i d (by rw[ow' i (hro i d e)];exact e)
  refine⟨th4,mu4,ro1,s4,en4,t4.bind.mono λc th5 mu5 H5 e5 s5 t5=>?_⟩
  have e14:Ext th H th5 H5:=((e2.trans e3).trans e4).trans e5
  have r5:rp th5 H5 b2 a2:=rx ((e3.trans e4).trans e5) s2.out r2
  cases c with
  |false =>
   obtain⟨a,mu',q1,q2⟩:=t5
   obtain⟨go5,q1⟩:=FO q1
   exact⟨ds.length-(k+1),by ext,rfl,lt,th5,mu5,b2,s5,back (en4.ext e5 s4.out),e14,go5,r5,a,mu',q1,q2⟩
  |true =>
   refine⟨th5,mu5,ro1,b2,s5,en4.ext e5 s4.out,hok _ _ _ _ eq4,r5,Tr.mono (Tr.bind t5) λb6 th6 mu6 H6 e6 s6 t6 a6 σ6 en6 r6=>?_⟩
   obtain⟨a,mu',q1,q2⟩:=t6
   obtain⟨go6,q1⟩:=FO q1
   exact⟨ds.length-(k+1),by ext,rfl,lt,th6,mu6,b6,s6,back en6,e14.trans e6,go6,r6,a,mu',q1,q2⟩
 ·have e:k=ds.length:=by ext
  subst e
  rw[List.drop_length] at t2
  unfold cGo at t2
  exact .inl ⟨io.stop th2 mu2 H2 e2 s2 g2,t2.ret s2 a2 st2 en2 r2⟩
def WZ {el:Ex}{a:List V}{σ:L2.St}{Q:List V->L2.St->Hp->Prop}(h:rdM K (rpL K) ok (stL el) a σ H Q):rdE K el σ H λv H'=>a.length<=sizeLine/\Q (a++[v]) σ H':=by
 obtain⟨th,mu,ro,b,so,en,_,⟨r,hz⟩,t⟩:=h
 refine⟨th,mu,ro,so,en,t.bind.mono λy th1 mu1 H1 e1 s1 t1 v rv=>?_⟩
 by_cases c:b.length<sizeLine
 ·rw[if_pos c] at t1
  exact⟨by rw[r.len];exact hz,t1.ret s1 _ _ (en.ext e1 so.out) ⟨(r.ext e1 so.out).app (.cons rv .nil),by rw[Ar];exact c⟩⟩
 ·rw[if_neg c] at t1
  exact t1.no.elim
def Xc {kx vx:Ex}{a:List (Int×V×V)}{σ:L2.St}{Q:List (Int×V×V)->L2.St->Hp->Prop}(h:rdM X.z (rpD X.z) ok (stD kx vx) a σ H Q):rdE X.z kx σ H λkv H1=>rdE X.z vx σ H1 λvv H2 =>
  ∃th ks k,RepL X.z th H2 ks (a.map (·.2.1))/\a.map (·.1)=DM X.w ks/\KeysOk ks/\DN k=true/\Rep X.z th H2 k kv/\ks.length<sizeLine/\Q (IJ k (CS X.w k) kv vv ks a) σ H2:=by
 obtain⟨th,mu,ro,⟨ks,vs⟩,so,en,_,⟨r1,r2,r3,r4⟩,t⟩:=h
 dsimp only at r1 r2 r3 r4
 refine⟨th,mu,ro,so,en,t.bind.mono λk th1 mu1 H1 e1 s1 t1 kv rk=>?_⟩
 refine⟨th1,mu1,ro,s1,en.ext e1 so.out,t1.bind.mono λv th2 mu2 H2 e2 s2 t2 vv rv=>?_⟩
 by_cases c:DN k=true/\ks.length<sizeLine
 ·rw[if_pos c] at t2
  have e12:=e1.trans e2
  have k2:=r2.ext e12 so.out
  have v2:=r3.ext e12 so.out
  have xl:ks.length=a.length:=by have:=r2.len;simpa using this.symm
  have rk2:=rk.ext e2 s1.out
  refine⟨th2,ks,k,k2,r1,r4,c.1,rk2,c.2,t2.ret s2 _ _ (en.ext e12 so.out) ?_⟩
  by_cases z:k∈ks
  ·obtain⟨j,ej⟩:=Aw.mp z
   have hj:j<a.length:=by rw[<- xl];exact(Ae.mp ej).1
   rw[Hu hj r4.nd ej]
   unfold DC
   rw[if_pos z,Jy r4.nd ej]
   refine⟨?_,?_,?_,r4⟩
   ·show List.map _ _=DM X.w ks
    rw[<- r1,List.map_set]
    refine A8 λi=>?_
    by_cases ci:j=i
    ·subst ci;simp[hj]
    ·rw[AD ci]
   ·show RepL X.z th2 H2 ks _
    have:(List.map (λx=>x.2.1) (a.set j (a[j].1,a[j].2.1,vv)))=a.map (·.2.1):=by
     rw[List.map_set]
     refine A8 λi=>?_
     by_cases ci:j=i
     ·subst ci;simp[hj]
     ·rw[AD ci]
    rw[this]
    exact k2
   ·rw[List.map_set]
    exact v2.setAt j rv
  ·rw[Gk z xl]
   unfold DC
   rw[if_neg z]
   refine⟨?_,?_,?_,?_⟩
   ·rw[A4,r1,DV,DV,A4];rfl
   ·rw[A4];exact k2.app (.cons rk2 .nil)
   ·rw[A4];exact v2.app (.cons rv .nil)
   ·refine⟨by rw[Ar];exact c.2,?_,λk' hk'=>?_⟩
    ·refine BQ.mpr ⟨r4.nd,by simp,λx hx y hy=>?_⟩
     rw[Av.mp hy]
     exactλe=>z (e▸hx)
    ·rcases AQ.mp hk' with w'|w'
     ·exact r4.ok k' w'
     ·rw[Av.mp w'];exact c.1
 ·rw[if_neg c] at t2
  exact t2.no.elim
def Lo (K:Zc)(B:LJ α)(rp:List Addr->Hp->β->α->Prop)(fin:β->Sto->D×Sto):Prop:=∀{th:List Addr}{mu:Sto}{H:Hp}{b:β}{a:α},StoOk K th mu H->rp th H b a->B.fin a/\∀p,H p=none ->
 ∃th',Ext th H th' (upd H p (B.ho p a))/\StoOk K th' (fin b mu).2 (upd H p (B.ho p a))/\Rep K th' (upd H p (B.ho p a)) (fin b mu).1 (.ref p)
def Q0:Lo K R3 (rpL K) Zo:=λ{th mu H b a} so ⟨r,hz⟩=>⟨by show a.length<=sizeLine;rw[r.len];exact hz,λp hp=>⟨th,.new hp _,so.new hp _,Rep.newLst so hp r hz⟩⟩
def Xf:Lo K P0 (rpD K) OO:=λ{th mu H b a} so ⟨r1,r2,r3,r4⟩=>⟨True.intro,λp hp=>by
 have ex:Ext th H (th++[p]) (upd H p (P0.ho p a)):=.newM hp _
 refine⟨th++[p],ex,so.newG hp _ _ ⟨a,DT,r1,r2.ext ex so.out,r3.ext ex so.out,r4⟩,?_⟩
 unfold OO
 dsimp only
 unfold Rep
 exact⟨p,rfl,by rw[<- so.len];simp⟩⟩
def XM {i:Ix}{nc hi:Nat}{fv:List (Nat×Str)}{B:LJ α}{b0:β}{fin:β->Sto->D×Sto}{σ:L2.St}{Q:VK}(hn:hi<=nc)(ow:GOw 0 hi tg)(rx:RpX rp)(f:Lo K B rp fin)(r00:∀th H,rp th H b0 B.a0)
  (hok:∀ro d mu ro' mu',(∀i,i<nc->∀d,ro[i]?≠some (some d))->tg d ro mu=some (ro',mu')->ok ro')
  (h:rdE K (eCo i nc (fv.map (·.1)) tg tt st b0 fin) σ H Q):tCo (rdI K i) nc fv B (rdG K tg) (rdT K tt) (rdM K rp ok st) σ H Q:=by
 obtain⟨th,mu,ro,so,en,t⟩:=h
 refine⟨th,mu,ro,so,en,t.bind.mono λp th1 mu1 H1 e1 s1 t1 J io=>?_⟩
 have hno:∀i,i<nc->∀d,(r0 nc (fv.map (·.1)) ro)[i]?≠some (some d):=λi hi d e=>absurd (Kl e) (Nat.not_le.mpr hi)
 refine Rc (rp:=rp) ow rx (λi d e=>.inr (AU hn (Kl e))) (λd mu ro' mu' e=>hok _ d mu ro' mu' hno e) io s1 (MA (en.ext e1 so.out)) (r00 _ _) (t1.bind.mono λb th2 mu2 H2 e2 s2 t2 a2 σ2 en2 r2=>?_)
 obtain⟨f1,f2⟩:=f s2 r2
 refine⟨f1,λq hq=>?_⟩
 obtain⟨th3,x3,s3,r3⟩:=f2 q hq
 exact t2.retX x3 s3 _ r3
end
section
variable {X:Cx} {α β:Type}{scope:Scope}{e:Expr}{gens rest:List Comprehension}{g:Comprehension}{newAcc:Sem Value}{pos2:Pos}{B:LJ α}{rp:List Addr->Hp->β->α->Prop}{ok:Ro->Prop}{st:Mx β}{tg:Gx}{tt:Tx}{b0:β}{fin:β->Sto->D×Sto}{i:Ix}{step:Addr->Addr->List (Str×Addr)->Sem Unit}
def PM.weak {K:Acc α}{D:Addr}{m:Sem Unit}{t t':TM α}(h:PM X K D m t)(f:∀a σ H Q,t' a σ H Q->t a σ H Q):PM X K D m t':=λpj s σ H Q a o ao pD I q=>h pj s σ H Q a o ao pD I (f a σ H Q q)
structure Qy (X:Cx) (scope:Scope) (own:List Str) (fv:List (Nat×Str)) (e:Expr) (gens:List Comprehension) (g:Comprehension) (rest:List Comprehension) (newAcc:Sem Value) (B:LJ α) (rp:List Addr->Hp->β->α->Prop) (ok:Ro->Prop) (st:Mx β) (tg:Gx) (tt:Tx) (b0:β) (fin:β->Sto->D×Sto) (i:Ix)
  (step:Addr->Addr->List (Str×Addr)->Sem Unit):Prop where
 hc:IsC e gens
 hgens:gens=g::rest
 ha:g.is_async=0
 hnew:newAcc=newObj (.type B.cls) B.d0
 L:MI X scope fv
 hi:SVI X g.target g.iter i
 ow:GOw 0 own.length tg
 rx:RpX rp
 f:Lo X.z B rp fin
 r00:∀th H,rp th H b0 B.a0
 hok:∀ro d mu ro' mu',(∀i,i<own.length->∀d,ro[i]?≠some (some d))->tg d ro mu=some (ro',mu')->ok ro'
 heq:∀it cl C D,compTurn e 0 (.ref it) (.ref D) (compEnvC scope cl C X.env)=HQ g (.ref it) (compEnvC scope cl C X.env) (step D C cl) (.compLoop e 0 (.ref it) (.ref D) (compEnvC scope cl C X.env))
 hg:∀cl C s₁ H₁ fp,SVG (DA X scope (own++fv.map (·.2)) cl C s₁ H₁ fp) g.target tg
 ht:∀cl C s₁ H₁ fp,SVF (DA X scope (own++fv.map (·.2)) cl C s₁ H₁ fp) g.ifs tt
 hm:∀cl C s₁ H₁ fp D,DOk (DA X scope (own++fv.map (·.2)) cl C s₁ H₁ fp) D->PM (DA X scope (own++fv.map (·.2)) cl C s₁ H₁ fp) B.toAcc D (step D C cl) (rdM X.z rp ok st)
 hs:∀x,foldedSetIterable g.iter X.env x=pure x
def Aaw (own:List Str)(fv:List (Nat×Str))(c:Qy X scope own fv e gens g rest newAcc B rp ok st tg tt b0 fin i step)(hev:eval e X.env=comprehension e scope X.env pos2 newAcc false (eval g.iter X.env)):SV X e (eCo i own.length (fv.map (·.1)) tg tt st b0 fin):=⟨λpj s σ H Q I h=>by
 rw[hev]
 refine JD (own:=own) (fv:=fv) (B:=B) (tg:=rdG X.z tg) (tt:=rdT X.z tt) (tm:=rdM X.z rp ok st) (step:=step) (wi:=rdI X.z i) (Q:=Q) c.hc c.hgens c.ha c.hnew c.L c.hi.r c.heq (λcl C s₁ H₁ fp=>(c.hg cl C s₁ H₁ fp).r) (λcl C s₁ H₁ fp=>(c.ht cl C s₁ H₁ fp).r) c.hm c.hs (λI=>HH I) I
  (XM (rp:=rp) (Ai _) c.ow c.rx c.f c.r00 c.hok h) λs6 H' D C m J6 fC nsC q=>?_
 exact⟨m,nsC,λh' sb=>⟨.ref D,H',J6.turnedL (ch:=[C]) (t':=s6.toks) (IV sb) (λb hb=>by rw[Av.mp hb];exact fC),rfl,q⟩⟩⟩
end
section
variable {X:Cx}{scope:Scope}{t1 i1 t2 i2 kx vx elt:Expr}{f1 f2:List Expr}{pos:Pos}{i j:Ix}{g g2:Gx}{tt tt2:Tx}{el kk vv:Ex}{fin:List D×List D->Sto->D×Sto}
def Yr (hu:X.A.units+64<cLine)(hf:Lo X.z P0 (rpD X.z) fin)(own:List Str)(fv:List (Nat×Str))(L:MI X scope fv)(hi:SVI X t1 i1 i)(ow:GOw 0 own.length g)
  (hg:∀cl C s₁ H₁ fp,SVG (DA X scope (own++fv.map (·.2)) cl C s₁ H₁ fp) t1 g)
  (ht:∀cl C s₁ H₁ fp,SVF (DA X scope (own++fv.map (·.2)) cl C s₁ H₁ fp) f1 tt)
  (hk:∀cl C s₁ H₁ fp,SV (DA X scope (own++fv.map (·.2)) cl C s₁ H₁ fp) kx kk)
  (hv:∀cl C s₁ H₁ fp,SV (DA X scope (own++fv.map (·.2)) cl C s₁ H₁ fp) vx vv)
  (hs:∀x,foldedSetIterable i1 X.env x=pure x:=by intro _;rfl) :
  Qy X scope own fv (.DictComp kx vx [⟨t1,i1,f1,0⟩] scope pos) [⟨t1,i1,f1,0⟩] ⟨t1,i1,f1,0⟩ [] newDict P0 (rpD X.z) (λ_=>True) (stD kk vv) g tt ([],[]) fin i (λD C cl=>Ov kx vx D (compEnvC scope cl C X.env)) where
 hc:=.d
 hgens:=rfl
 ha:=rfl
 hnew:=rfl
 L:=L
 hi:=hi
 ow:=ow
 rx:=Xz
 f:=hf
 r00:=λ_ _=>⟨rfl,.nil,.nil,.nil⟩
 hok:=λ_ _ _ _ _ _ _=>True.intro
 heq:=λ_ _ _ _=>Tf
 hg:=hg
 ht:=ht
 hm:=λcl C s₁ H₁ fp D dk=>PM.weak (Ti (X:=DA X scope (own++fv.map (·.2)) cl C s₁ H₁ fp) hu dk (hk cl C s₁ H₁ fp).r (hv cl C s₁ H₁ fp).r) λa σ H Q h=>Xc (X:=DA X scope (own++fv.map (·.2)) cl C s₁ H₁ fp) h
 hs:=hs
end
def Lj:entryFor table "dict.update.loop"=some Builtin.«dict.update.loop»:=entryFor_of_tree (by kernel_rfl)
def Hw:plainId "dict.update.loop"=true:=by symm
theorem IK {α β:Type}{F G:α->β->Prop}:∀{xs:List α}{ys:List β},Paired F xs ys->(∀x y,F x y->G x y)->Paired G xs ys
 |_,_,.nil,_=>.nil
 |_,_,.cons r t,f=>.cons (f _ _ r) (IK t f)
def Hd.keep {h h':Heap}{d:D}{u:Value}(x:Hd h d u)(k:∀b o,h.get? b=some o->h'.get? b=some o):Hd h' d u:=by
 obtain⟨a,b,as,c⟩:=x
 exact⟨a,b,as,Reads.keeps k c⟩
def WR (w:World)(k:D)(u r:Value)(ks:List D)(es es':List DictEntry):Prop:=(k∉ks/\es'=es++[⟨CS w k,u,r⟩])\/∃(j:Nat) (e:DictEntry),ks[j]?=some k/\es[j]?=some e/\es'=es.set j {e with val:=r}
def Ts {w:World}{h:Heap}{k:D}{u r:Value}{ks:List D}{es es':List DictEntry}(x:Hd h k u)(en:Paired (EnK w h) ks es)(p:WR w k u r ks es es')(v:D)(ds:List D):Paired (EnK w h) (DC k v ks ds).1 es':=by
 unfold DC
 rcases p with⟨n,rfl⟩|⟨j,e,ej,ee,rfl⟩
 ·rw[if_neg n];exact Gi en (.cons ⟨rfl,x⟩ .nil)
 ·rw[if_pos (Ag ej)]
  obtain⟨e2,e3,e4⟩:=(Dq en j).1 k ej
  rw[ee] at e3
  cases e3
  have:=G7 j en (x:=k) (y:={e with val:=r}) ⟨e4.1,e4.2⟩
  have hs:ks.set j k=ks:=by
   refine A8 λi=>?_
   by_cases c:j=i
   ·subst c;rw[Bm (Ae.mp ej).1,ej]
   ·rw[AD c]
  rw[hs] at this
  exact this
def TV {w:World}{k:D}{u r:Value}{kv vv:V}{ks:List D}{xs:List (Int×V×V)}{es es':List DictEntry}(nd:ks.Nodup)(l:ks.length=xs.length)(pr:Paired EnV xs es)(ru:RelV kv u)(rr:RelV vv r)(p:WR w k u r ks es es'):Paired EnV (IJ k (CS w k) kv vv ks xs) es':=by
 rcases p with⟨n,rfl⟩|⟨j,e,ej,ee,rfl⟩
 ·rw[Gk n l];exact Gi pr (.cons ⟨rfl,ru,rr⟩ .nil)
 ·have hj:j<xs.length:=by rw[<- l];exact(Ae.mp ej).1
  rw[Hu hj nd ej]
  obtain⟨y,y1,y2,y3,y4⟩:=(Dq pr j).1 xs[j] (Al hj)
  rw[ee] at y1
  cases y1
  exact G7 j pr ⟨y2,y3,rr⟩
abbrev dOb (es:Array DictEntry) (ep:Nat):Obj:={cls:=.type "dict",data:=.dict es ep}
section
variable {prog:Program}{w:World}{A:Around}{E:Value->Zaa}{s:Shared}
def Zv {D':Addr}{es:Array DictEntry}{ep:Nat}{ks:List D}{k:D}{u r:Value}{Q:Unit->Zaa}(hu:A.units+8<cLine)(hd:Hd s.heap k u)(g1:s.heap.get? D'=some (dOb es ep))(en:Paired (EnK w s.heap) ks es.toList)(nd:ks.Nodup)(lt:ks.length<sizeLine)
  (q:∀h' tk es' ep',Heap.SameBut D' s.heap h'->h'.get? D'=some (dOb es' ep')->WR w k u r ks es.toList es'.toList/\(ep=es.size->ep'=es'.size)->Q () {s with heap:=h',toks:=tk}):wpAny (model prog w) A (dictSet D' u r) Q E s:=by
 have g3:(dOb es ep).data=.dict es ep:=rfl
 unfold dictSet
 refine AL (Aa (hd.hash hu λtk=>?_))
 unfold dictSetHashed
 refine AL (Aa (Kf (s:={s with toks:=tk}) hu hd g1 g3 en nd (λz=>?_) λj ej=>?_))
 ·have hz0:es.size<=sizeLine:=by rw[<- Array.length_toList,<- Dc en];ext
  refine Aa (Bn (wpAny_updateDictKeys (s:={s with toks:=tk}) g1 g3 (hz:=hz0) ?_))
  have so1:=AF (Obj.mapDictKeys (·.push ⟨CS w k,u,r⟩)) g1 (Cu (Obj.data_mapDictKeys g3 _))
  refine q _ _ (es.push ⟨CS w k,u,r⟩) (ep+1) (Au ..) so1 ⟨.inl ⟨z,by rw[Array.toList_push]⟩,λge=>by rw[Array.size_push,ge]⟩
 ·have hje:j<es.size:=by rw[<- Array.length_toList,<- Dc en];exact(Ae.mp ej).1
  refine Aa (Bn (Aa (wpAny_updateDict (s:={s with toks:=tk}) g1 g3 (wpAny_point ?_))))
  have so1:=AF (Obj.mapDict (·.modify j λe=>{e with val:=r})) g1 (Cu (Obj.data_mapDict g3 _))
  refine q _ _ (es.modify j λe=>{e with val:=r}) ep (Au ..) so1 ⟨.inr ⟨j,es[j],ej,by rw[Aq,An hje],?_⟩,λge=>by rw[Array.size_modify,ge]⟩
  rw[Array.toList_modify]
  refine A8 λi=>?_
  rw[List.getElem?_modify]
  by_cases c:j=i
  ·subst c
   rw[Bm (by simpa using hje)]
   simp[hje]
  ·rw[AD c]
   simp[c]
def PrV (h:Heap)(x:D×V×V)(u:Value):Prop:=∃p ku vu,u=.ref p/\h.IsTuple p #[ku,vu]/\Hd h x.1 ku/\RelV x.2.1 ku/\RelV x.2.2 vu
def HL (w:World)(a:List D×List (Int×V×V))(x:D×V×V):List D×List (Int×V×V):=((DC x.1 .non a.1 []).1,IJ x.1 (CS w x.1) x.2.1 x.2.2 a.1 a.2)
def LA {k v:D}{ks ds:List D}(n:ks.Nodup):(DC k v ks ds).1.Nodup/\(DC k v ks ds).1.length<=ks.length+1:=by
 unfold DC
 split
 ·exact⟨n,Nat.le_succ _⟩
 ·rename_i z
  refine⟨BQ.mpr ⟨n,by simp,λx hx y hy=>?_⟩,by rw[Ar];exact Ai _⟩
  rw[Av.mp hy]
  exactλe=>z (e▸hx)
def Sk {a:List D×List (Int×V×V)}{x:D×V×V}(l:a.1.length=a.2.length)(n:a.1.Nodup):(HL w a x).1.length=(HL w a x).2.length:=by
 unfold HL DC
 dsimp only
 by_cases z:x.1∈a.1
 ·obtain⟨j,ej⟩:=Aw.mp z
  have hj:j<a.2.length:=by rw[<- l];exact(Ae.mp ej).1
  rw[if_pos z,Hu hj n ej,Cp]
  exact l
 ·rw[if_neg z,Gk z l,Ar,Ar,l]
  rfl
def UJ (w:World)(h0 h:Heap)(d:Addr)(a:List D×List (Int×V×V)):Prop:=∃es ep,h.get? d=some (dOb es ep)/\Paired (EnK w h0) a.1 es.toList/\Paired EnV a.2 es.toList/\a.1.Nodup/\a.1.length=a.2.length/\ep=es.size
theorem Aai {R:Result->Zaa}(hu:A.in1.units+8<cLine){I d:Addr}{fp:List Addr}{P:Nat->Value->Prop}{St:Nat->Heap->Prop}{xs:List (D×V×V)}(W:Walks prog w A.in1 I fp [I] xs.length P St)(hdf:d∉fp){h0:Heap}(hI:h0.get? I=none)(hd:h0.get? d=none)(hval:∀i v,P i v->∃x,xs[i]?=some x/\PrV h0 x v){res:Value}(k:Nat) :
  ∀(i:Nat) (s:Shared) (a:List D×List (Int×V×V)),i+k=xs.length->a.1.length<=i->xs.length<=sizeLine->St i s.heap->(∀b o,h0.get? b=some o->s.heap.get? b=some o)->UJ w h0 s.heap d a ->
   (∀h' tk,(∀b o,b≠d->b≠I->s.heap.get? b=some o->h'.get? b=some o)->UJ w h0 h' d ((xs.drop i).foldl (HL w) a)->R (.ok (.ret res)) {s with heap:=h',toks:=tk}) ->
   codeAny (model prog w) A (Code.builtin "dict.update.loop" ⟨[.ref d,.ref I,rawInt i,res],[]⟩) R s:=by
 have nI:I∈fp:=W.sub _ (by simp)
 have ndI:d≠I:=λz=>hdf (z▸nI)
 induction k with
 |zero =>
  intro i s a e la hz st hk hD hR
  obtain rfl:i=xs.length:=by ext
  refine Bu Lj ?_
  rw[Bp Hw _]
  refine(?_:wpAny _ A.in1 (pyNext (.ref I)>>=_) _ _ s)
  refine Aa (W.done s _ _ st λh1 tk1 k1=>?_)
  refine(?_:wpAny _ A.in1 (Builtin.Dict.addKeywords d []>>=_) _ _ _)
  refine Aa (Ab (Ab (hR h1 tk1 (λb o _ n e=>k1 b o (by simpa using n) e) ?_)))
  rw[List.drop_eq_nil_of_le (Ai _)]
  obtain⟨es,ep,g,r⟩:=hD
  exact⟨es,ep,k1 _ _ (by simpa using ndI) g,r⟩
 |succ k ih =>
  intro i s a e la hz st hk hD hR
  have lt:i<xs.length:=by ext
  refine Bu Lj ?_
  rw[Bp Hw _]
  refine(?_:wpAny _ A.in1 (pyNext (.ref I)>>=_) _ _ s)
  refine Aa (W.item i s _ _ lt st λv h1 tk1 hP st1 k1=>?_)
  obtain⟨x,ex,p,ku,vu,ev,⟨op,p1,p2,np,p3⟩,hk1,rk,rv⟩:=hval i v hP
  subst ev
  have hk':∀b o,h0.get? b=some o->h1.get? b=some o:=λb o g=>k1 b o (by simpa using λz=>by rw[z,hI] at g;cases g) (hk b o g)
  refine(?_:wpAny _ A.in1 (holding [Value.ref p] _>>=_) _ _ _)
  have ty:(Shared.TypeIs {s with heap:=h1,toks:=tk1} (.ref p) "tuple"):=⟨op,hk' _ _ p1,p2⟩
  refine Aa (AL (Aa (wpAny_tryCatch ?_)))
  unfold Builtin.Dict.pairItems
  refine Aa (BJ ty ?_)
  rw[if_pos (by decide)]
  refine Aa (A6 (hk' _ _ p1) p3 (Ab ?_))
  refine(?_:wpAny _ A.in1 (holding [ku,vu] (dictSet d ku vu)) _ _ _)
  obtain⟨es,ep,g,en,pr,nd,l,ge⟩:=hD
  have g':=k1 _ _ (by simpa using ndI) g
  refine AL (Zv (s:={s with heap:=h1,toks:=tk1}) (ks:=a.1) hu (hk1.keep hk') g' (IK en λk e q=>⟨q.1,q.2.keep hk'⟩) nd (by ext) λh2 tk2 es2 ep2 sb hD2 ⟨pe,ge2⟩=>?_)
  have dr:xs.drop i=x::xs.drop (i+1):=by
   rw[B8 lt]
   rw[Al lt] at ex
   rw[AH ex]
  have hk2:∀b o,h0.get? b=some o->h2.get? b=some o:=λb o z=>(sb.2 b λq:b=d=>by rw[q,hd] at z;cases z).trans (hk' b o z)
  have cast:rawInt ((i:Int)+1)=rawInt ((i+1:Nat):Int):=rfl
  rw[cast]
  refine Ab (And.intro (B1 Hw _) (ih (i+1) _ (HL w a x) (by ext) ?_ hz (W.frame _ h1 _ st1 λb hb o z=>(sb.2 b λq:b=d=>hdf (q▸hb)).trans z) hk2 ⟨es2,ep2,hD2,Ts hk1 en pe .non [],TV nd l pr rk rv pe,(LA nd).1,Sk l nd,ge2 ge⟩ λh3 tk3 k3 hS3=>hR h3 tk3 (λb o b1 b2 z=>?_) ?_))
  ·have:=(LA (k:=x.1) (v:=.non) (ds:=[]) nd).2
   unfold HL
   dsimp only
   ext
  ·exact k3 b o b1 b2 ((sb.2 b b1).trans (k1 b o (by simpa using b2) z))
  ·rw[dr];exact hS3
end
def Sy:typeLookup (.type "tuple") "keys"=pure none:=by rw[typeLookup_type,builtinLookup_eq_fast];kernel_rfl
def UE:typeLookup (.type "list") "keys"=pure none:=by rw[typeLookup_type,builtinLookup_eq_fast];kernel_rfl
def gAL {prog:Program}{w:World}{A:Around}{E:Value->Zaa}{s:Shared}{a:Addr}{o:Obj}{xs:Array Value}{k:Nat}{Q:Option Value->Zaa}
  (g:s.heap.get? a=some o) (hc:o.cls=.type "list") (ht:o.data=.seq xs k) (hd:o.dict=none) (hA:A.handled=none)
  (q:∀h' tk,(∀b ob,s.heap.get? b=some ob->h'.get? b=some ob)->Q none {s with heap:=h',toks:=tk}):wpAny (model prog w) A (getAttr? (.ref a) "keys") Q E s:=by
 obtain⟨c,dct,dat,sl⟩:=o
 simp only at hc ht hd
 subst hc ht hd
 obtain⟨hp,gn,dr,tk,os⟩:=s
 have hT:∀tk',(⟨hp,gn,dr,tk',os⟩:Shared).TypeIs (.ref a) "list":=λ_=>⟨_,g,rfl⟩
 have f1:=sub_AttributeError
 have f3:=F.slot_list_getattribute.lookup
 have f4:=F.slot_list_getattribute.bind (.ref a)
 have f5:=am_list_getattr_none
 (unfold getAttr? getAttrBy? getAttrBy)
 repeat (any_goals (first|assumption|exact hT _|((with_reducible show wpAny _ _ (call (Value.builtin "list.__getattribute__") _ _) _ _ _);refine call_meets F.slot_list_getattribute (hT _) am_entry_list_getattribute (F.args_list_getattribute_2 _ _) (meets_getattribute_miss_list a xs k sl "keys" _ UE (by symm)) ⟨g,hA,λh' tk' e hx'=>?_⟩)|wp_step))
 obtain⟨t',u',he⟩:=hx'.there
 (show wpAny _ _ (getattributeRaised _ _ _ _ _ _ _) _ _ _)
 unfold getattributeRaised
 repeat (any_goals (first|assumption|wp_step))
 exact q _ _ hx'.keeps
def gAT {prog:Program}{w:World}{A:Around}{E:Value->Zaa}{s:Shared}{a:Addr}{o:Obj}{xs:Array Value}{k:Nat}{Q:Option Value->Zaa}
  (g:s.heap.get? a=some o) (hc:o.cls=.type "tuple") (ht:o.data=.seq xs k) (hd:o.dict=none) (hA:A.handled=none)
  (q:∀h' tk,(∀b ob,s.heap.get? b=some ob->h'.get? b=some ob)->Q none {s with heap:=h',toks:=tk}):wpAny (model prog w) A (getAttr? (.ref a) "keys") Q E s:=by
 obtain⟨c,dct,dat,sl⟩:=o
 simp only at hc ht hd
 subst hc ht hd
 obtain⟨hp,gn,dr,tk,os⟩:=s
 have hT:∀tk',(⟨hp,gn,dr,tk',os⟩:Shared).TypeIs (.ref a) "tuple":=λ_=>⟨_,g,rfl⟩
 have f1:=sub_AttributeError
 have f3:=F.slot_tuple_getattribute.lookup
 have f4:=F.slot_tuple_getattribute.bind (.ref a)
 have f5:=am_tuple_getattr_none
 (unfold getAttr? getAttrBy? getAttrBy)
 repeat (any_goals (first|assumption|exact hT _|((with_reducible show wpAny _ _ (call (Value.builtin "tuple.__getattribute__") _ _) _ _ _);refine call_meets F.slot_tuple_getattribute (hT _) am_entry_tuple_getattribute (F.args_tuple_getattribute_2 _ _) (meets_getattribute_miss_tuple a xs k sl "keys" _ Sy (by symm)) ⟨g,hA,λh' tk' e hx'=>?_⟩)|wp_step))
 obtain⟨t',u',he⟩:=hx'.there
 (show wpAny _ _ (getattributeRaised _ _ _ _ _ _ _) _ _ _)
 unfold getattributeRaised
 repeat (any_goals (first|assumption|wp_step))
 exact q _ _ hx'.keeps
def set_same {α:Type}{xs:List α}{j:Nat}(hj:j<xs.length):xs.set j xs[j]=xs:=by
 refine A8 λi=>?_
 by_cases c:j=i
 ·subst c;simp[hj]
 ·rw[AD c]
def UD {K:Zc}{th:List Addr}{H:Hp}{ks vs:List D}{xs:List (Int×V×V)}{k v:D}{kv vv:V}(h:rpD K th H (ks,vs) xs)(hk:DN k=true)(rk:Rep K th H k kv)(rv:Rep K th H v vv)(lt:ks.length<sizeLine):rpD K th H (DC k v ks vs) (IJ k (CS K.w k) kv vv ks xs):=by
 obtain⟨r1,r2,r3,r4⟩:=h
 dsimp only at r1 r2 r3 r4
 have xl:ks.length=xs.length:=by have:=r2.len;simpa using this.symm
 by_cases z:k∈ks
 ·obtain⟨j,ej⟩:=Aw.mp z
  have hj:j<xs.length:=by rw[<- xl];exact(Ae.mp ej).1
  rw[Hu hj r4.nd ej]
  unfold DC
  rw[if_pos z,Jy r4.nd ej]
  have m1:(xs.set j (xs[j].1,xs[j].2.1,vv)).map (·.1)=xs.map (·.1):=by
   rw[List.map_set]
   have:=set_same (xs:=xs.map (·.1)) (j:=j) (by simpa using hj)
   simpa using this
  have m2:(xs.set j (xs[j].1,xs[j].2.1,vv)).map (·.2.1)=xs.map (·.2.1):=by
   rw[List.map_set]
   have:=set_same (xs:=xs.map (·.2.1)) (j:=j) (by simpa using hj)
   simpa using this
  refine⟨m1.trans r1,by rw[m2];exact r2,by rw[List.map_set];exact r3.setAt j rv,r4⟩
 ·rw[Gk z xl]
  unfold DC
  rw[if_neg z]
  refine⟨?_,?_,?_,?_⟩
  ·rw[A4,r1,DV,DV,A4];rfl
  ·rw[A4];exact r2.app (.cons rk .nil)
  ·rw[A4];exact r3.app (.cons rv .nil)
  ·refine⟨by rw[Ar];exact lt,?_,λk' hk'=>?_⟩
   ·refine BQ.mpr ⟨r4.nd,by simp,λx hx y hy=>?_⟩
    rw[Av.mp hy]
    exactλe=>z (e▸hx)
   ·rcases AQ.mp hk' with w'|w'
    ·exact r4.ok k' w'
    ·rw[Av.mp w'];exact hk
def pairsOf:List D->Option (List (D×D))
 |[]=>some []
 |.tup [k,v]::ds=>if DN k=true then (pairsOf ds).map ((k,v)::·) else none
 |_=>none
def Ik {d:D}{ds:List D}{ps:List (D×D)}(h:pairsOf (d::ds)=some ps):∃k v r,d=.tup [k,v]/\DN k=true/\pairsOf ds=some r/\ps=(k,v)::r:=by
 unfold pairsOf at h
 split at h
 ·cases ‹_::_=[]›
 ·rename_i k v ds' e
  cases e
  by_cases c:DN k=true
  ·rw[if_pos c] at h
   cases e2:pairsOf ds with
   |none=>rw[e2] at h;cases h
   |some r=>rw[e2] at h;cases h;exact⟨k,v,r,rfl,c,rfl,rfl⟩
  ·rw[if_neg c] at h;cases h
 ·cases h
theorem Jf:∀{ds:List D}{ps:List (D×D)},pairsOf ds=some ps->ps.length=ds.length
 |[],_,h=>by cases h;rfl
 |d::ds,ps,h=>by
  obtain⟨k,v,r,rfl,_,h',rfl⟩:=Ik h
  rw[List.length_cons,List.length_cons,Jf h']
def putAll (p:List D×List D)(ps:List (D×D)):List D×List D:=ps.foldl (λp x=>DC x.1 x.2 p.1 p.2) p
def dctP:Fn:=λds mu=>match sq1 ds mu with
 |some es=>match pairsOf es with
  |some ps=>some (.dct (putAll ([],[]) ps).1 (putAll ([],[]) ps).2,mu)
  |none=>none
 |none=>none
section
variable {X:Cx}{K:Zc}{th:List Addr}{mu:Sto}{H:Hp}{pj:Zab}{st:L2.St}{s:Shared}
def Qt {ds:List D}{r:D×Sto}(h:dctP ds mu=some r):∃d es ps,ds=[d]/\Gg mu d=some es/\pairsOf es=some ps/\r=(.dct (putAll ([],[]) ps).1 (putAll ([],[]) ps).2,mu):=by
 unfold dctP at h
 split at h
 ·rename_i es e
  split at h
  ·rename_i ps e2
   cases h
   obtain⟨d,rfl,e3⟩:=LR e
   exact⟨d,es,ps,rfl,e3,e2,rfl⟩
  ·cases h
 ·cases h
def PrR (K:Zc)(th:List Addr)(H:Hp)(p:D×D)(x:D×V×V):Prop:=p.1=x.1/\DN p.1=true/\Rep K th H p.1 x.2.1/\Rep K th H p.2 x.2.2
theorem IX (I:L2.Inv X pj st H s):∀{es:List D}{ps:List (D×D)}{vs:List V}{us:List Value},pairsOf es=some ps->RepL X.z th H es vs->Vals vs us->∃xs:List (D×V×V),Paired (PrR X.z th H) ps xs/\Paired (PrV s.heap) xs us
 |[],ps,vs,us,h,r,q=>by
  cases h
  rw[r.inv0] at q
  cases q
  exact⟨[],.nil,.nil⟩
 |d::ds,ps,vs,us,h,r,q=>by
  obtain⟨k,v,ps',rfl,hk,h',rfl⟩:=Ik h
  obtain⟨x,rs,rfl,rx,rr⟩:=r.inv
  cases q with
  |cons q1 q2 =>
   obtain⟨xs,a,b⟩:=IX I h' rr q2
   unfold Rep at rx
   obtain⟨p,pv,rfl,hsq,hl,hz⟩:=rx
   obtain⟨kv,vv,rfl,rk,rv⟩:=GH hl
   cases q1
   obtain⟨its,rvs,pl,hz'⟩:=I.tuple hsq
   obtain⟨ku,vu,rfl,rku,rvu⟩:=vals2 rvs
   exact⟨(k,kv,vv)::xs,.cons ⟨rfl,hk,rk,rv⟩ a,.cons ⟨p,ku,vu,rfl,let ⟨o,ho,hcl,n,hdt⟩:=pl;⟨o,ho,hcl,n,hdt⟩,G4 I hk rk rku,rku,rvu⟩ b⟩
theorem NZ {ps:List (D×D)}{xs:List (D×V×V)}(hx:Paired (PrR K th H) ps xs):∀{p:List D×List D}{a:List D×List (Int×V×V)},p.1=a.1->rpD K th H p a.2->p.1.length+ps.length<=sizeLine ->
  (putAll p ps).1=(xs.foldl (HL K.w) a).1/\rpD K th H (putAll p ps) (xs.foldl (HL K.w) a).2:=by
 induction hx with
 |nil=>exactλe r _=>⟨e,r⟩
 |cons hx t ih =>
  rename_i q x ps xs
  intro p a e r l
  obtain⟨e1,e2,e3,e4⟩:=hx
  obtain⟨ks,vs⟩:=p
  obtain⟨as,ax⟩:=a
  dsimp only at e r
  subst e
  have l':ks.length+(ps.length+1)<=sizeLine:=l
  have r':=UD r e2 e3 e4 (by ext)
  unfold putAll
  rw[List.foldl_cons,List.foldl_cons]
  refine ih (p:=DC q.1 q.2 ks vs) (a:=HL K.w (ks,ax) x) ?_ ?_ ?_
  ·unfold HL DC;dsimp only;rw[e1];split<;>rfl
  ·unfold HL;dsimp only;rw[<- e1];exact r'
  ·have:=(LA (k:=q.1) (v:=q.2) (ds:=vs) r.2.2.2.nd).2
   have this':(DC q.1 q.2 ks vs).1.length<=ks.length+1:=this
   ext
end
section
variable {prog:Program}{w:World}{A:Around}{E:Value->Zaa}{s:Shared}
def U7 {l:Addr}{ol:Obj}{T:String}{us:List Value}{xs:List (D×V×V)}{Q:Value->Zaa}(hu:A.units+16<cLine)(hbig:sysModules<s.heap.objs.size)(hz:xs.length<=sizeLine)(hol:s.heap.get? l=some ol)(hcl:ol.cls=.type T)(hT:(Value.type T != Value.type "dict")=true)
  (hga:∀(A':Around) (s1:Shared) (Q:Option Value->Zaa) (E:Value->Zaa),A'.handled=A.handled->s1.heap.get? l=some ol->(∀h' tk,(∀b ob,s1.heap.get? b=some ob->h'.get? b=some ob)->Q none {s1 with heap:=h',toks:=tk})->wpAny (model prog w) A' (getAttr? (.ref l) "keys") Q E s1)
  (hit:∀E,YieldsV prog w A E s.heap l us) (pr:Paired (PrV s.heap) xs us)
  (q:∀h' tk d',(∀b o,s.heap.get? b=some o->h'.get? b=some o)->UJ w s.heap h' s.heap.objs.size (xs.foldl (HL w) ([],[]))->Q (.ref s.heap.objs.size) {s with heap:=h',toks:=tk,drawn:=d'}) :
  wpAny (model prog w) A (call (.type "dict") [.ref l]) Q E s:=by
 refine callType_codes (Q₁:=λobj s₁=>obj=.ref s.heap.objs.size/\s₁={s with heap:=s.heap.push {cls:=.type "dict",data:=.dict #[]}}) F.kt_called_dict (F.kt_typeCall_dict_1 _) F.entry_dict_init (kt_code_dict_new _ ⟨rfl,rfl⟩) ?_
 rintro obj s₁ ⟨rfl,rfl⟩
 have gl:(s.heap.push {cls:=.type "dict",data:=.dict #[]}).get? l=some ol:=Ad _ hol
 have gd:(s.heap.push {cls:=.type "dict",data:=.dict #[]}).get? s.heap.objs.size=some (dOb #[] 0):=Ak _ rfl
 have tyd:Shared.TypeIs {s with heap:=s.heap.push {cls:=.type "dict",data:=.dict #[]}} (.ref s.heap.objs.size) "dict":=⟨_,gd,rfl⟩
 have ty:Shared.TypeIs {s with heap:=s.heap.push {cls:=.type "dict",data:=.dict #[]}} (.ref l) T:=⟨ol,gl,hcl⟩
 refine⟨tyd,F.args_dict_init_2 _ _,?_⟩
 (unfold Builtin.«dict.__init__»)
 refine Aa ?_
 (unfold Builtin.Dict.selfAndRest)
 refine Aa (wpAny_notOrdered_dict tyd (?_:wpAny _ _ (pure (s.heap.objs.size,[Value.ref l])) _ _ _))
 refine Ab (?_:wpAny _ _ (Builtin.Dict.updateFrom "dict.__init__" s.heap.objs.size (.ref l) [] .none) _ _ _)
 (unfold Builtin.Dict.updateFrom)
 refine Aa (BJ ty ?_)
 rw[if_pos hT]
 refine Aa (hga _ {s with heap:=s.heap.push {cls:=.type "dict",data:=.dict #[]}} _ _ rfl gl λh1 tk1 k1=>?_)
 rw[if_pos (by rfl)]
 refine Aa (Bn ?_)
 have k0:∀b ob,s.heap.get? b=some ob->h1.get? b=some ob:=λb ob e=>k1 _ _ (Ad _ e)
 have hnd:h1.get? s.heap.objs.size=some (dOb #[] 0):=k1 _ _ gd
 have lt1:s.heap.objs.size<h1.objs.size:=Ao hnd
 refine Aa (hit _ {s with heap:=h1,toks:=tk1} _ _ rfl k0 λI fp h2 d2 P St hI fpl fpn W st0 k2 hval=>?_)
 have hI':h1.objs.size<=I:=hI
 have nf:s.heap.objs.size∉fp:=λz=>by
  rcases fpn _ z with q|⟨o,q⟩
  ·exact absurd (AN lt1 q) (Bz _)
  ·exact absurd (Ao q) (Bz _)
 have xl:xs.length=us.length:=Dc pr
 have W':Walks prog w A.in1.in1 I fp [I] xs.length P St:=by rw[xl];exact W _ rfl
 refine Ab ⟨B1 Hw _,?_⟩
 refine Aai (A:=A.in1) (by show A.units+1+1+8<cLine;ext) W' nf (h0:=s.heap) (Cj (AU (Nat.le_of_lt lt1) hI')) (Cj (Ai _)) (λi v hP=>?_) xs.length 0 {s with heap:=h2,toks:=tk1,drawn:=d2} ([],[]) (Bb _) (AX _) hz st0 (λb o e=>k2 _ _ (k0 b o e)) ⟨#[],0,k2 _ _ hnd,.nil,.nil,B5,rfl,rfl⟩ λh' tk k3 hD=>⟨rfl,q h' tk d2 (λb o e=>?_) hD⟩
 ·obtain⟨x,x1,x2⟩:=(Dq pr i).2 v (hval i v hP)
  exact⟨x,x1,x2⟩
 ·have bl:=Ao e
  exact k3 b o (Ax bl) (Ax (AN (Nat.lt_trans bl lt1) hI')) (k2 _ _ (k0 b o e))
end
def YieldsV.any {prog:Program}{w:World}{A:Around}{h:Heap}{l:Addr}{us:List Value}(y:YieldsV prog w A (λ_ _=>False) h l us)(E:Value->Zaa):YieldsV prog w A E h l us:=λs1 A' R hA hk hR=>wpAny_mono (y s1 A' R hA hk hR) (λ_ _ z=>z) λ_ _ z=>z.elim
section
variable {X:Cx}{K:Zc}{th:List Addr}{mu:Sto}{H:Hp}{pj:Zab}{st:L2.St}{s:Shared}
def IQ (hu:X.A.units+64<cLine)(hc:X.calm=true):CallV X (.type "dict") dctP:=by
 intro pj s st H xs us Q I r h
 obtain⟨th,mu,ds,so,rd,t⟩:=h
 obtain⟨a0,mu0,e0,_⟩:=id t
 obtain⟨d,es,ps,rfl,e2,e3,er⟩:=Qt e0
 rw[e0] at t
 cases er
 obtain⟨x,rfl,rx⟩:=Eg rd
 obtain⟨a,vs,rfl,h1,h2,h3⟩:=Hm so e2 rx
 obtain⟨u,rfl,ru⟩:=vals1 r
 cases ru
 have pl:ps.length=es.length:=Jf e3
 have fin:∀(xs:List (D×V×V)),Paired (PrR X.z th H) ps xs->∀h' tk d',(∀b o,s.heap.get? b=some o->h'.get? b=some o)->UJ X.w s.heap h' s.heap.objs.size (xs.foldl (HL X.w) ([],[]))->EP X pj st Q (.ref s.heap.objs.size) {s with heap:=h',toks:=tk,drawn:=d'}:=λxs pr h' tk d' hk hD=>by
  have hp:H s.heap.objs.size=none:=I.hok.fresh (Ai _)
  obtain⟨es',ep,g,en,pv,nd,l,ge⟩:=hD
  obtain⟨_,r1,r2,r3,r4⟩:=NZ (K:=X.z) (p:=([],[])) (a:=([],[])) pr rfl ⟨rfl,.nil,.nil,.nil⟩ (by rw[pl];simpa using h3)
  have I0:L2.Inv X pj st H {s with drawn:=d'}:=⟨I.ok,I.os,I.bare,I.base,I.loc,I.cell,I.free,I.freeC,I.pin,I.hok,I.len⟩
  refine⟨.ref s.heap.objs.size,_,I0.laid (h':=h') (t':=tk) (o:=Et s.heap.objs.size (xs.foldl (HL X.w) ([],[])).2) hk (Ai _) (Ka ⟨by simpa using BP (HH I),_,es',ep,g,⟨rfl,rfl,rfl⟩,rfl,pv,ge⟩),rfl,?_⟩
  refine t.retX (.new hp _) (so.new hp _) _ ?_
  unfold Rep
  have ex:Ext th H th (upd H s.heap.objs.size (Et s.heap.objs.size (xs.foldl (HL X.w) ([],[])).2)):=.new hp _
  exact⟨_,_,rfl,so.notin hp,DT,r1,r2.ext ex so.out,r3.ext ex so.out,r4⟩
 have zl:∀{xs:List (D×V×V)},Paired (PrR X.z th H) ps xs->xs.length<=sizeLine:=λq=>by rw[<- Dc q,pl];exact h3
 have hh:=I.ok.hd hc
 rcases h1 with h1|⟨h1,_⟩
 ·obtain⟨its,rv,pl',hz⟩:=I.list h1
  obtain⟨o,n,ho,hcl,hdd,hdt⟩:=id pl'
  obtain⟨us,q,y,_⟩:=Jh (E:=λ_ _=>False) I hc h1
  obtain⟨xs,p1,p2⟩:=IX I e3 h2 q
  refine U7 (us:=us) (xs:=xs) (by ext) (HH I) (zl p1) ho hcl (by decide) (λA' s1 Q' E' hA hg hq=>gAL hg hcl hdt hdd (hA.trans hh) hq) y.any p2 (fin xs p1)
 ·obtain⟨its,rv,pl',hz⟩:=I.tuple h1
  obtain⟨o,ho,hcl,n,hdt⟩:=id pl'
  obtain⟨o2,ho2,hdd,_⟩:=I.tupleD h1
  rw[ho] at ho2
  cases ho2
  obtain⟨us,q,y,_⟩:=Im (E:=λ_ _=>False) I hc h1
  obtain⟨xs,p1,p2⟩:=IX I e3 h2 q
  refine U7 (us:=us) (xs:=xs) (by ext) (HH I) (zl p1) ho hcl (by decide) (λA' s1 Q' E' hA hg hq=>gAT hg hcl hdt hdd (hA.trans hh) hq) y.any p2 (fin xs p1)
end
section
variable {prog:Program}{w:World}{A:Around}{E:Value->Zaa}{s:Shared}
mutual
theorem OK:∀(n:Nat) (d:D) (u:Value) (as:List Addr) (A:Around) (s:Shared) (Q:Bool->Zaa),hsh d=true->dpt d<=n->Reads s.heap u (toPy d) as->Q false s->wpAny (model prog w) A (ofAClassStatement n u) Q E s
 |n,.non,_,as,A,s,Q,_,_,x,h=>by cases x;unfold ofAClassStatement;exact Ab h
 |n,.int _,_,as,A,s,Q,_,_,x,h=>by cases x;unfold ofAClassStatement;exact Ab h
 |n,.str _,_,as,A,s,Q,_,_,x,h=>by cases x;unfold ofAClassStatement;exact Ab h
 |n,.tup ds,_,as,A,s,Q,hk,hn,x,h=>by
  unfold toPy at x
  cases x with
  |@tuple a o vs k _ _ g1 g2 g3 hw =>
   unfold dpt at hn
   obtain⟨m,rfl⟩:∃m,n=m+1:=⟨n-1,by ext⟩
   have hT:s.TypeIs (.ref a) "tuple":=⟨o,g1,g2⟩
   unfold ofAClassStatement
   refine Aa (BJ hT ?_)
   refine(?_:wpAny _ _ ((if (("tuple":String)=="tuple")=true then pure true else isSubtype (.type "tuple") (.type "tuple"))>>=_) _ _ s)
   refine Aa (Ab ?_)
   simp only[B0,Ay,Bd]
   refine Aa (A6 g1 g3 (?_:wpAny _ _ (_>>=_) _ _ s))
   refine Aa ?_
   refine(?_:wpAny _ _ (forIn vs _ _) _ _ s)
   rw[<- Array.forIn_toList]
   exact MP m ds vs.toList as A s _ (by unfold hsh at hk;exact hk) (by ext) hw (Ab h)
 |_,.bl _,_,_,_,_,_,h,_,_,_=>nomatch h
 |_,.lst _,_,_,_,_,_,h,_,_,_=>nomatch h
 |_,.dct _ _,_,_,_,_,_,h,_,_,_=>nomatch h
 |_,.set _,_,_,_,_,_,h,_,_,_=>nomatch h
 |_,.ref _,_,_,_,_,_,h,_,_,_=>nomatch h
theorem MP:∀(m:Nat) (ds:List D) (vs:List Value) (as:List Addr) (A:Around) (s:Shared) (Q:Option Bool×PUnit->Zaa),F0 ds=true->HX ds<=m->ReadsAll s.heap vs (Dg ds) as->Q (none,PUnit.unit) s ->
  wpAny (model prog w) A (forIn vs ((none,PUnit.unit):Option Bool×PUnit) λy r=>do
    let q<-ofAClassStatement m y
    if q=true then pure (ForInStep.done (some true,PUnit.unit)) else pure (ForInStep.yield (none,PUnit.unit))) Q E s
 |m,[],_,as,A,s,Q,_,_,x,h=>by unfold Dg at x;cases x;exact Ab h
 |m,d::ds,_,as,A,s,Q,hk,hn,x,h=>by
  unfold Dg at x
  cases x with
  |cons x1 x2 =>
   unfold F0 at hk
   rw[Ac] at hk
   unfold HX at hn
   rw[BK]
   refine Aa (Aa (OK m d _ _ A s _ hk.1 (by ext) x1 ?_))
   simp only[Ay,Bd]
   exact Ab (MP m ds _ _ A s Q hk.2 (by ext) x2 h)
end
def Hd.class {d:D}{u:Value}{Q:Bool->Zaa}(x:Hd s.heap d u)(h:Q false s):wpAny (model prog w) A (ofAClassStatement 8 u) Q E s:=by
 obtain⟨as,r⟩:=x.rd
 have k:=Ey x.k
 exact OK 8 d u as A s Q k.1 k.2 r h
def Vj {k:D}{u:Value}{stored:List Value}{Q:Bool->Zaa}(hk:Hd s.heap k u)(hst:∀v∈stored,∃k',Hd s.heap k' v)(h:Q false s):wpAny (model prog w) A (searchCouldBeSeen u stored) Q E s:=by
 unfold searchCouldBeSeen
 refine Aa (Cy _ (λrest b s'=>s'=s/\b=(none,PUnit.unit)/\∀v∈rest,v∈stored) _ ?_ ?_ _ _ ⟨rfl,rfl,λv hv=>hv⟩)
 ·rintro x rest b s' ⟨rfl,rfl,hr⟩
  obtain⟨k',hk'⟩:=hst x (hr x (.head _))
  dsimp only
  refine Eu (λ_=>Ab ⟨rfl,rfl,λv hv=>hr v (.tail _ hv)⟩) λ_=>?_
  refine Aa (hk.quiet ?_)
  simp only[B0,Ay,Bd]
  refine Aa (hk'.quiet ?_)
  simp only[B0,Ay,Bd]
  refine Aa (hk.class ?_)
  simp only[Ay,Bd]
  refine Aa (hk'.class ?_)
  simp only[Ay,Bd]
  exact Ab ⟨rfl,rfl,λv hv=>hr v (.tail _ hv)⟩
 ·rintro b s' ⟨rfl,rfl,_⟩
  exact Ab h
end
section
variable {prog:Program}{w:World}{A:Around}{E:Value->Zaa}{s:Shared}
def EnE (w:World)(h:Heap)(e:Int×Value)(k:D):Prop:=e.1=CS w k/\Hd h k e.2/\∃a,e.2=.ref a
def Qk {a:Addr}{o:Obj}{es:Array (Int×Value)}{ep:Nat}{t:SetTable}{ks:List D}{k:D}{u:Value}{Q:SetFound->Zaa}(hu:A.units+8<cLine)(hk:Hd s.heap k u)(ho:s.heap.get? a=some o)(hd:o.data=.set es ep t)(hf:t.fits es.size=true)
  (T:TW t.mask t.place.toList es.toList) (hdm:t.dummies=#[]) (he:Paired (EnE w s.heap) es.toList ks) (h0:k∈ks->Q (.there none) s)
  (h1:k∉ks->∀p,p<10*SetTable.turns t.mask->(pth t.mask (CS w k) p).j∉t.place.toList->(∀m,m<p->(pth t.mask (CS w k) m).j∈t.place.toList)->(pth t.mask (CS w k) p).j<=t.mask->Q (.free (pth t.mask (CS w k) p).j false) s) :
  wpAny (model prog w) A (setSearch a u (CS w k) true) Q E s:=by
 obtain⟨k0,z1,z2,z3,z4⟩:=T.first (CS w k)
 have gw:t.gaveWay=false:=by
  unfold SetTable.gaveWay
  rcases T.mo with q|q|q|q|q|q<;>rw[q]<;>rfl
 have key:∀(f n:Nat) (stand:Option SetTable.Probe),stand.getD (t.probeStart (CS w k))=pth t.mask (CS w k) n->n<=k0->k0-n<f->(∀(m i:Nat),m<n->t.place.toList[i]?=some (pth t.mask (CS w k) m).j->ks[i]?≠some k)->wpAny (model prog w) A (setSearchFrom a u (CS w k) true f stand) Q E s:=by
  intro f
  induction f with
  |zero=>intro n stand _ _ h;ext
  |succ f ih =>
   intro n stand hs hn hf' hno
   unfold setSearchFrom
   refine Aa (A1 ho hd hf ?_)
   dsimp only
   rw[gw]
   simp only[Ay,Bd]
   rw[hs]
   obtain⟨c,c1,c2,c3,c4⟩:=U1 hdm T.so (CS w k) (λi=>(es[i]?.map (·.1)).getD 0) z2 z3 (10*SetTable.turns t.mask) n hn (by ext)
   have pc:(t.probe (λi=>(es[i]?.map (·.1)).getD 0) (CS w k) (pth t.mask (CS w k) n))=SetTable.probe.go t (λi=>(es[i]?.map (·.1)).getD 0) (CS w k) (10*SetTable.turns t.mask) (pth t.mask (CS w k) n):=rfl
   split
   ·rename_i met hm
    have hm':t.probe (λi=>(es[i]?.map (·.1)).getD 0) (CS w k) (pth t.mask (CS w k) n)=some met:=hm
    rw[pc] at hm'
    rcases c4 with⟨rfl,c5⟩|⟨ck,i,i1,i2,c5⟩
    ·rw[c5] at hm'
     cases hm'
     dsimp only
     refine Ab (h1 (λhin=>?_) c z1 z2 z3 z4)
     obtain⟨i,ei⟩:=Aw.mp hin
     obtain⟨e,e1,e2,_⟩:=(Dq he i).2 k ei
     have hi:i<t.place.toList.length:=by rw[T.ln];exact(Ae.mp e1).1
     obtain⟨m,_,m2,m3⟩:=T.rc i _ e (Al hi) e1
     rw[e2] at m2 m3
     have mc:m<c:=by
      rcases Bx m c with q|q
      ·exact q
      ·exact absurd (m3 c q) z2
     rcases Bx m n with q|q
     ·exact hno m i q (by rw[m2];exact Al hi) ei
     ·refine c3 m i q mc (by rw[m2];exact Al hi) ?_
      rw[<- Aq,e1]
      exact e2
    ·rw[c5] at hm'
     cases hm'
     dsimp only
     have hi:i<es.toList.length:=by rw[<- T.ln];exact(Ae.mp i1).1
     obtain⟨k',k1,e2,e3,ra,e4⟩:=(Dq he i).1 _ (Al hi)
     have ee:es[i]?=some es.toList[i]:=by rw[<- Aq];exact Al hi
     generalize es.toList[i]=e at e2 e3 e4 ee
     obtain⟨eh,ev⟩:=e
     dsimp only at e2 e3 e4
     subst e4
     have hst:∀v∈(List.map (λx=>x.snd) (Array.filter (λx=>x.fst==CS w k) es).toList),∃k',Hd s.heap k' v:=λv hv=>by
      obtain⟨x,hx,rfl⟩:=Ah.mp hv
      rw[Array.toList_filter] at hx
      obtain⟨j,ej⟩:=Aw.mp (AI.mp hx).1
      obtain⟨k2,_,_,q,_⟩:=(Dq he j).1 x ej
      exact⟨k2,q⟩
     rw[ee]
     dsimp only
     have sl:=IF hdm T.so i1
     have sm:t.sameMemory t.moves t.mask=some true:=by unfold SetTable.sameMemory;simp
     have rest:wpAny (model prog w) A (do
       let equal<-holding [.ref ra] (eqBool (.ref ra) u)
       let __x<-setState a
       if (true&&equal)=true then pure (SetFound.there none)
        else
         match __x.2.snd.sameMemory t.moves t.mask with
         |some same =>
          match if same=true then __x.2.snd.slot (pth t.mask (CS w k) c).j else SetTable.Slot.empty with
          |SetTable.Slot.live i' =>
           match __x.fst[i']? with
           |some (fst,y')=>do
            let __do_lift<-isSame y' (.ref ra)
            let still<-pure (if __do_lift=true then some i' else none)
            match still with
             |none=>do
              rule "set.search.anew"
              setSearchFrom a u (CS w k) true f none
             |some i' =>
              if equal=true then pure (SetFound.there (some i'))
              else setSearchFrom a u (CS w k) true f (some (pth t.mask (CS w k) (c+1)))
           |none=>do
            let still<-pure none
            match still with
             |none=>do
              rule "set.search.anew"
              setSearchFrom a u (CS w k) true f none
             |some i' =>
              if equal=true then pure (SetFound.there (some i'))
              else setSearchFrom a u (CS w k) true f (some (pth t.mask (CS w k) (c+1)))
          |x=>do
           let still<-pure none
           match still with
            |none=>do
             rule "set.search.anew"
             setSearchFrom a u (CS w k) true f none
            |some i' =>
             if equal=true then pure (SetFound.there (some i'))
             else setSearchFrom a u (CS w k) true f (some (pth t.mask (CS w k) (c+1)))
         |_=>unsupported "set.changed-during-lookup:is-the-new-block-at-the-old-address") Q E s:=by
      refine Aa (AL (e3.eq hk hu ?_))
      refine Aa (A1 ho hd hf ?_)
      dsimp only
      by_cases ck':k'=k
      ·rw[A0 ck']
       simp only[Ci,if_true]
       exact Ab (h0 (ck'▸Ag k1))
      ·rw[A7 ck']
       simp only[Bool.and_false,Ay,Bd]
       rw[sm]
       dsimp only
       rw[if_pos rfl,sl]
       dsimp only
       rw[ee]
       dsimp only
       refine Aa (wpAny_isSame_ref_self (Aa (Ab ?_)))
       simp only[if_true]
       refine ih (c+1) _ rfl ck (by ext) λm i' hm hp=>?_
       rcases Bx m n with q|q
       ·exact hno m i' q hp
       ·rcases Bx m c with q2|q2
        ·intro hki
         refine c3 m i' q q2 hp ?_
         obtain⟨e',x1,x2,_⟩:=(Dq he i').2 k hki
         rw[<- Aq,x1]
         exact x2
        ·obtain rfl:m=c:=by ext
         have a1:=IF hdm T.so hp
         rw[sl] at a1
         cases a1
         intro hki
         rw[k1] at hki
         exact ck' (AH hki)
     refine Eu (λ_=>?_) λ_=>?_
     ·refine Aa (Vj hk hst ?_)
      simp only[Ay,Bd]
      exact rest
     ·exact rest
   ·rename_i hm
    exfalso
    rcases c4 with⟨_,c5⟩|⟨ck,i,i1,i2,c5⟩
    ·exact hm _ c5
    ·exact hm _ c5
 exact key 100000 0 none rfl (AX _) (by have:=T.mo;unfold SetTable.turns at z1;rcases this with q|q|q|q|q|q<;>rw[q] at z1<;>ext) (λm i h=>absurd h (Nat.not_lt_zero _))
def hd1:D->Bool
 |.tup (.str _::_)=>true
 |_=>false
def XS {k:D}{u:Value}{Q:Bool->Zaa}(x:Hd s.heap k u)(h1:hd1 k=true)(h:Q false s):wpAny (model prog w) A (hashByValue 8 u) Q E s:=by
 obtain⟨as,r⟩:=x.rd
 unfold hd1 at h1
 split at h1
 ·rename_i y ds
  unfold toPy at r
  cases r with
  |@tuple a o vs k _ _ g1 g2 g3 hw =>
   have hT:s.TypeIs (.ref a) "tuple":=⟨o,g1,g2⟩
   unfold hashByValue
   refine Aa (Cq hT F.slot_tuple_hash.lookup ?_)
   refine(?_:wpAny _ _ (seqItems? (.ref a)>>=_) _ _ s)
   refine Aa (A6 g1 g3 (Aa ?_))
   refine(?_:wpAny _ _ (forIn vs _ _) _ _ s)
   rw[<- Array.forIn_toList]
   unfold Dg toPy at hw
   generalize vs.toList=vl at hw
   cases hw with
   |cons x1 x2 =>
    cases x1
    rw[BK]
    refine Aa (Aa (m:=hashByValue 7 _) ?_)
    unfold hashByValue
    refine Ab ?_
    simp only[Bool.not_false,if_true]
    exact Ab (Ab (Ab h))
 ·cases h1
def HasD (w:World)(h0:Heap)(P:D->Value->Prop)(S:Addr)(ls:List D)(led:Bool)(h:Heap):Prop:=∃o es ep t,h.get? S=some o/\o.ExactSet/\o.data=.set es ep t/\t.dummies=#[]/\TW t.mask t.place.toList es.toList/\es.size*5<t.mask*3/\t.led=led/\(t.plain=false\/es.size=0)/\∃ks:List D,ks.Perm ls/\Paired (λe k=>EnE w h0 e k/\P k e.2) es.toList ks
def EZ {t:SetTable}{es:Array (Int×Value)}(hd:t.dummies=#[])(T:TW t.mask t.place.toList es.toList):t.fits es.size=true:=by
 unfold SetTable.fits SetTable.fill
 have a:=T.ln
 have b:=T.lt
 rw[Array.length_toList,Array.length_toList] at a
 rw[Array.length_toList] at b
 rw[hd]
 simp
 ext
def IS {h0:Heap}{P:D->Value->Prop}{S:Addr}{ls:List D}{led:Bool}{k:D}{u:Value}{Q:Bool->Zaa}(hu:A.units+8<cLine)(hS:HasD w h0 P S ls led s.heap)(hz:ls.length<64)(kp:∀b o,h0.get? b=some o->s.heap.get? b=some o)(hk:Hd h0 k u)(hr:∃a,u=.ref a)(h1:hd1 k=true)(hP:P k u)
  (q:∀h' b tk,Heap.SameBut S s.heap h'->HasD w h0 P S (Dx ls k) led h'->Q b {s with heap:=h',toks:=tk}):wpAny (model prog w) A (setAddHashed S u (CS w k)) Q E s:=by
 obtain⟨o,es,ep,t,ho,hex,hd,hdm,T,fl,hl,hp,ks,pm,pr⟩:=hS
 obtain⟨ra,rfl⟩:=hr
 have hk':=hk.keep kp
 have pr':Paired (EnE w s.heap) es.toList ks:=IK pr λe k ⟨⟨a,b,c⟩,_⟩=>⟨a,b.keep kp,c⟩
 have hf:=EZ hdm T
 have sz:es.size=ls.length:=by rw[<- pm.length_eq,<- Dc pr,Array.length_toList]
 (unfold setAddHashed setAddHashedIn)
 refine AL (Aa (A1 ho hd hf ?_))
 dsimp only
 have bs:byScan (.ref ra) es=false:=by unfold byScan;rfl
 rw[bs]
 simp only[Ay,Bd]
 refine Aa (Qk hu hk' ho hd hf T hdm pr' (λhin=>?_) λhnin p p1 p2 p3 p4=>?_)
 ·dsimp only
  refine Ab (q s.heap _ _ (Heap.SameBut.refl _ _) ?_)
  unfold Dx
  rw[if_pos (pm.mem_iff.mp hin)]
  exact⟨o,es,ep,t,ho,hex,hd,hdm,T,fl,hl,hp,ks,pm,pr⟩
 ·dsimp only
  refine Aa (A1 ho hd hf ?_)
  dsimp only
  have al:Dx ls k=ls++[k]:=by unfold Dx;rw[if_neg λz=>hnin (pm.mem_iff.mpr z)]
  have b0:=(JE T.so (pth t.mask (CS w k) p).j).1
  have ps:=NX T.so p2
  rw[SetTable.toList_insertAt] at ps
  have lt:es.size<t.mask:=by rcases T.mo with z|z|z|z|z|z<;>rw[z] at fl<;>ext
  have T1:=T.put (v:=Value.ref ra) p1 p2 p3 p4 (by rw[Array.length_toList];exact b0) (by rw[Array.length_toList];exact lt) ps
  have e1:(SetTable.insertAt es (SetTable.below t.place (pth t.mask (CS w k) p).j) (CS w k,Value.ref ra)).toList=es.toList.take (SetTable.below t.place (pth t.mask (CS w k) p).j)++(CS w k,Value.ref ra)::es.toList.drop (SetTable.below t.place (pth t.mask (CS w k) p).j):=SetTable.toList_insertAt _ _ _
  have e2:(t.put (pth t.mask (CS w k) p).j).1={t with place:=SetTable.insertAt t.place (SetTable.below t.place (pth t.mask (CS w k) p).j) (pth t.mask (CS w k) p).j,dummies:=#[]}:=by
   unfold SetTable.put
   dsimp only
   rw[hdm,has_none]
   rfl
  have e3:(t.put (pth t.mask (CS w k) p).j).2=SetTable.below t.place (pth t.mask (CS w k) p).j:=rfl
  rw[e2,e3]
  dsimp only
  rw[<- SetTable.toList_insertAt,<- e1] at T1
  have L1:=SetTable.insertAt_perm es (SetTable.below t.place (pth t.mask (CS w k) p).j) (CS w k,Value.ref ra)
  generalize SetTable.insertAt es (SetTable.below t.place (pth t.mask (CS w k) p).j) (CS w k,Value.ref ra)=es1 at T1 L1 ⊢
  generalize SetTable.insertAt t.place (SetTable.below t.place (pth t.mask (CS w k) p).j) (pth t.mask (CS w k) p).j=pl1 at T1 ⊢
  rw[Array.toList_push] at L1
  obtain⟨ks1,pm1,pr1⟩:=Gy L1 (Gi pr (.cons (show EnE w h0 (CS w k,Value.ref ra) k/\P k (Value.ref ra) from⟨⟨rfl,hk,ra,rfl⟩,hP⟩) .nil))
  have pm2:ks1.Perm (Dx ls k):=by rw[al];exact pm1.trans (pm.append (BX _))
  have sz1:es1.size=es.size+1:=by rw[<- Array.length_toList,L1.length_eq,Ar,Array.length_toList];rfl
  have hz1:es1.size<=sizeLine:=by rw[AO];ext
  have go:∀t2:SetTable,t2={t with place:=pl1,dummies:=#[],plain:=false}->wpAny (model prog w) A (do
    storeSet S es1 t2
    if (!false&&t2.tooFull)=true then do
      setRelay S (SetTable.grown (es.size+1))
      pure true
     else pure true) Q E s:=λt2 ht2=>by
   have T2:TW t2.mask t2.place.toList es1.toList:=by rw[ht2];exact T1
   have d2:t2.dummies=#[]:=by rw[ht2]
   have l2:t2.led=led:=by rw[ht2];exact hl
   have p2':t2.plain=false:=by rw[ht2]
   have m2:t2.mask=t.mask:=by rw[ht2]
   refine Aa (wpAny_storeSet_of ho hd ?_ hz1)
   have ho1:(s.heap.update S (Obj.putSet es1 t2)).get? S=some {o with data:=.set es1 (ep+1) t2}:=by
    have:=AF (Obj.putSet es1 t2) ho (by rw[putSet_of es1 t2 hd];rfl)
    rw[putSet_of es1 t2 hd] at this
    exact this
   have tf:t2.tooFull=decide ((es.size+1)*5 >= t.mask*3):=by
    unfold SetTable.tooFull SetTable.fill
    have:=T2.ln
    rw[Array.length_toList,Array.length_toList] at this
    rw[d2,this,sz1,m2]
    rfl
   refine Eu (λc=>?_) λc=>?_
   ·have c':(es.size+1)*5 >= t.mask*3:=by simpa[tf] using c
    refine Aa ?_
    have nm:∃mk,FC mk/\SetTable.sizeAbove (SetTable.grown (es.size+1))-1=mk/\es1.size<=mk/\es1.size*5<mk*3/\¬ SetTable.sizeAbove (SetTable.grown (es.size+1)) > sizeLine:=by
     rcases T.mo with z|z|z|z|z|z
     ·have:es.size=4:=by rw[z] at c' fl;ext
      rw[sz1,this,AO]
      exact⟨31,.inr (.inl rfl),by symm,by decide,by decide,by symm⟩
     ·have:es.size=18:=by rw[z] at c' fl;ext
      rw[sz1,this,AO]
      exact⟨127,.inr (.inr (.inl rfl)),by symm,by decide,by decide,by symm⟩
     ·rw[z] at c';ext
     ·have:es.size=8:=by rw[z] at c' fl;ext
      rw[sz1,this,AO]
      exact⟨63,.inr (.inr (.inr (.inr (.inl rfl)))),by symm,by decide,by decide,by symm⟩
     ·have:es.size=37:=by rw[z] at c' fl;ext
      rw[sz1,this,AO]
      exact⟨255,.inr (.inr (.inr (.inr (.inr rfl)))),by symm,by decide,by decide,by symm⟩
     ·rw[z] at c';ext
    obtain⟨mk,n1,n2,n3,n4,n5⟩:=nm
    unfold setRelay
    refine Aa (A1 ho1 rfl (EZ d2 T2) ?_)
    dsimp only
    rw[if_neg n5]
    obtain⟨t3,order,r1,r2,r3,r4,r5,r6,r7⟩:=LS n1 t2.finger (t2.movedTo mk) t2.led t2.plain es1 n3
    have rl:t2.relaid (es1.map (·.1)) (SetTable.grown (es.size+1))=some (t3,order):=by
     unfold SetTable.relaid
     rw[n2]
     exact r1
    rw[rl]
    have rsz:(order.filterMap (es1[·]?)).size=es1.size:=by rw[<- Array.length_toList,r6.length_eq,Array.length_toList]
    refine Aa (?_:wpAny _ _ (if ((order.filterMap (es1[·]?)).size != es1.size)=true then _ else pure (order.filterMap (es1[·]?),t3)) _ _ _)
    rw[rsz,bne_self_eq_false]
    simp only[Ay,Bd]
    refine Ab ?_
    dsimp only
    generalize order.filterMap (es1[·]?)=es2 at r6 r7 rsz ⊢
    refine wpAny_storeSet_of ho1 rfl (Ab ?_) (by rw[rsz];exact hz1)
    obtain⟨ks2,pm3,pr3⟩:=Gy r6 pr1
    have ho2:=AF (Obj.putSet es2 t3) ho1 (by rw[putSet_of es2 t3 rfl];rfl)
    rw[putSet_of es2 t3 rfl] at ho2
    refine q _ _ _ ((Au ..).trans (Au ..)) ?_
    exact⟨_,es2,_,t3,ho2,hex,rfl,r3,by rw[r2];exact r7,by rw[r2,rsz];exact n4,r4.trans l2,.inl (r5.trans p2'),ks2,pm3.trans pm2,pr3⟩
   ·have c':¬ (es.size+1)*5 >= t.mask*3:=by simpa[tf] using c
    refine Ab (q _ _ _ (Au ..) ?_)
    exact⟨_,es1,_,t2,ho1,hex,rfl,d2,T2,by rw[sz1,m2];ext,l2,.inl p2',ks1,pm2,pr1⟩
  refine Eu (λc=>?_) λc=>?_
  ·refine Aa (XS hk' h1 ?_)
   simp only[Ay,Bd]
   exact go _ rfl
  ·refine Aa (Ab ?_)
   have c':t.plain=false:=by simpa using c
   simp only[if_true]
   refine go _ ?_
   rw[<- c']
def Si {h0:Heap}{P:D->Value->Prop}{S:Addr}{ls:List D}{led:Bool}{k:D}{u:Value}{Q:Bool->Zaa}(hu:A.units+8<cLine)(hS:HasD w h0 P S ls led s.heap)(hz:ls.length<64)(kp:∀b o,h0.get? b=some o->s.heap.get? b=some o)(hk:Hd h0 k u)(hr:∃a,u=.ref a)(h1:hd1 k=true)(hP:P k u)
  (q:∀h' b tk,Heap.SameBut S s.heap h'->HasD w h0 P S (Dx ls k) led h'->Q b {s with heap:=h',toks:=tk}):wpAny (model prog w) A (setAdd S u) Q E s:=by
 unfold setAdd
 exact AL (Aa ((hk.keep kp).hash hu λtk=>IS (s:={s with toks:=tk}) hu hS hz kp hk hr h1 hP q))
theorem Py {h0:Heap}{Pv:D->Value->Prop}{I:Addr}{fp:List Addr}{n:Nat}{P:Nat->Value->Prop}{St:Nat->Heap->Prop}{R:Result->Zaa}(hu:A.in1.units+8<cLine)(W:Walks prog w A.in1 I fp [I] n P St)(S:Addr)(hSf:S∉fp)(hS0:h0.get? S=none)(hI0:h0.get? I=none){led:Bool}{ds:List D}(hl:ds.length=n)
  (hval:∀i v,P i v->∃k,ds[i]?=some k/\Hd h0 k v/\(∃a,v=.ref a)/\hd1 k=true/\Pv k v) (hb:n<64) (k:Nat) :
  ∀(i:Nat) (s:Shared) (ls:List D),i+k=n->ls.length<=i->St i s.heap->HasD w h0 Pv S ls led s.heap->(∀b o,h0.get? b=some o->s.heap.get? b=some o)->(∀h' tk,(∀b o,b≠S->b≠I->s.heap.get? b=some o->h'.get? b=some o)->HasD w h0 Pv S ((ds.drop i).foldl Dx ls) led h'->R (.ok (.ret .none)) {s with heap:=h',toks:=tk}) ->
   codeAny (model prog w) A (Code.builtin "set.update.loop" ⟨[.ref S,.ref I],[]⟩) R s:=by
 have nI:I∈fp:=W.sub _ (by simp)
 have nS:S≠I:=λz=>hSf (z▸nI)
 have keepS:∀{h h':Heap}{ls:List D},(∀b o,b∉[I]->h.get? b=some o->h'.get? b=some o)->HasD w h0 Pv S ls led h->HasD w h0 Pv S ls led h':=λk ⟨o,es,ep,t,ho,r⟩=>⟨o,es,ep,t,k S o (by simpa using nS) ho,r⟩
 have nb:∀b o,h0.get? b=some o->b≠S/\b≠I:=λb o e=>⟨λz=>(by rw[z,hS0] at e;cases e),λz=>(by rw[z,hI0] at e;cases e)⟩
 induction k with
 |zero =>
  intro i s ls e lsl st hS kp hR
  obtain rfl:i=n:=by ext
  refine Bu PyProof.Rows.F.entry_set_update_loop ?_
  rw[Bp Cv _]
  refine Aa (m:=pyNext (.ref I)) (W.done s _ _ st λh1 tk1 k1=>Ab (a:=Fin.done (.ret Value.none)) (hR h1 tk1 (λb o _ hb z=>k1 b o (by simpa using hb) z) ?_))
  rw[List.drop_eq_nil_of_le (by ext)]
  exact keepS k1 hS
 |succ k ih =>
  intro i s ls e lsl st hS kp hR
  have lt:i<n:=by ext
  refine Bu PyProof.Rows.F.entry_set_update_loop ?_
  rw[Bp Cv _]
  refine Aa (m:=pyNext (.ref I)) (W.item i s _ _ lt st λv h1 tk1 hP st1 k1=>?_)
  obtain⟨x,ex,hx,hr,h1',hpv⟩:=hval i v hP
  have kp1:∀b o,h0.get? b=some o->h1.get? b=some o:=λb o e=>k1 b o (by simpa using (nb b o e).2) (kp b o e)
  refine Aa (m:=holding [v] (setAdd S v)) (AL (Si (s:={s with heap:=h1,toks:=tk1}) hu (keepS k1 hS) (by ext) kp1 hx hr h1' hpv λh2 _ tk2 sb hS2=>?_))
  have dr:ds.drop i=x::ds.drop (i+1):=by
   have hi:i<ds.length:=by ext
   rw[B8 hi]
   rw[Al hi] at ex
   rw[AH ex]
  have al:(Dx ls x).length<=i+1:=by
   unfold Dx
   split
   ·ext
   ·rw[Ar,List.length_singleton];ext
  refine Ab (And.intro (B1 Cv _) (ih (i+1) _ (Dx ls x) (by ext) al (W.frame _ h1 _ st1 λb hb o z=>?_) hS2 (λb o e=>(sb.2 b (nb b o e).1).trans (kp1 b o e)) λh3 tk3 k3 hS3=>hR h3 tk3 (λb o b1 b2 z=>?_) ?_))
  ·exact(sb.2 b λq:b=S=>hSf (q▸hb)).trans z
  ·exact k3 b o b1 b2 ((sb.2 b b1).trans (k1 b o (by simpa using b2) z))
  ·rw[dr]
   exact hS3
set_option maxHeartbeats 4000000 in
def Oh {Pv:D->Value->Prop}{l:Addr}{ol:Obj}{T:String}{us:List Value}{ds:List D}{Q:Value->Zaa}(hu:A.units+16<cLine)
  (hol:s.heap.get? l=some ol) (hcl:ol.cls=.type T) (t1:isSubtype (.type T) (.type "set")=pure false) (t2:isSubtype (.type T) (.type "frozenset")=pure false) (t3:(Value.type T==Value.type "dict")=false)
  (hb:us.length<64) (hss:Paired (λ(u:Value) (k:D)=>Hd s.heap k u/\(∃a,u=.ref a)/\hd1 k=true/\Pv k u) us ds) (hit:YieldsV prog w A E s.heap l us)
  (h:∀(h':Heap) (tk:Nat) d',HasD w s.heap Pv s.heap.objs.size (ds.foldl Dx []) (!CW w) h'->(∀b o,s.heap.get? b=some o->h'.get? b=some o)->Q (.ref s.heap.objs.size) {s with heap:=h',toks:=tk,drawn:=d'}) :
  wpAny (model prog w) A (PySem.call (.type "set") [.ref l]) Q E s:=by
 refine call_cls (Q1:=λobj z=>obj=.ref s.heap.objs.size/\z={s with heap:=s.heap.push (Ew (!CW w))}) F.called_set (F.typeCall_set_1 _) (Nb (.ref l) ⟨rfl,rfl⟩) λobj z hz=>?_
 obtain⟨e1,e2⟩:=hz
 subst e1 e2
 have gS:(s.heap.push (Ew (!CW w))).get? s.heap.objs.size=some (Ew (!CW w)):=Ak _ rfl
 refine⟨⟨_,gS,rfl⟩,codeAny_call_builtin F.called_set.init.plain F.entry_set_init (check_set_init_1 ⟨_,gS,rfl⟩ ?_)⟩
 obtain⟨oc,od,oda,osl⟩:=ol
 simp only at hcl
 subst hcl
 have gl:(s.heap.push (Ew (!CW w))).get? l=some {cls:=.type T,dict:=od,data:=oda,slots:=osl}:=Ad _ hol
 unfold Builtin.«set.__init__»
 unfold noKeywords
 unfold Builtin.Frozenset.updateFrom
 generalize hPI:pyIter=PI
 wp_walk
 subst hPI
 have sz:(s.heap.push (Ew (!CW w))).objs.size=s.heap.objs.size+1:=Ba ..
 refine hit _ _ _ rfl (λb o e=>Ad _ e) λI fp h2 d2 P St hI fpl fpn W st0 k2 hval=>Aa (wpAny_runValue ?_)
 have hI':s.heap.objs.size+1<=I:=by rw[<- sz];exact hI
 have nf:s.heap.objs.size∉fp:=λz=>by
  rcases fpn _ z with q|⟨o,q⟩
  ·have q':(s.heap.push (Ew (!CW w))).objs.size<=s.heap.objs.size:=q
   rw[sz] at q'
   exact absurd q' (Nat.not_succ_le_self _)
  ·exact absurd (Ao q) (Bz _)
 have h0:HasD w s.heap Pv s.heap.objs.size [] (!CW w) h2:=⟨_,#[],0,_,k2 _ _ gS,⟨rfl,rfl,rfl⟩,rfl,rfl,⟨.nil,rfl,.inl rfl,AX _,(λ_ h=>nomatch h),λi j e h=>by simp[SetTable.fresh] at h⟩,(show 0*5<7*3 by decide),rfl,.inr rfl,[],.nil,.nil⟩
 have ssl:ds.length=us.length:=(Dc hss).symm
 refine Py (A:=A.in1.in1) (h0:=s.heap) (by show A.units+1+1+1+8<cLine;ext) (W A.in1.in1.in1 rfl) s.heap.objs.size nf (Cj (Ai _)) (Cj (by ext)) (ds:=ds) ssl (λi v hP=>?_) hb us.length 0 {s with heap:=h2,drawn:=d2} [] (Bb _) (Ai _) st0 h0 (λb o e=>k2 b o (Ad _ e)) λh3 tk3 k3 hS=>?_
 ·obtain⟨x,x1,x2,x3,x4⟩:=(Dq hss i).1 v (hval i v hP)
  exact⟨x,x1,x2,x3,x4⟩
 ·refine Ab (Ab (a:=Fin.done (.ret Value.none)) (And.intro rfl (h h3 tk3 d2 hS λb o e=>?_)))
  have blt:=Ao e
  exact k3 b o (Ax blt) (λz=>absurd (show I<s.heap.objs.size from z▸blt) (Nat.not_lt.mpr (Nat.le_of_succ_le hI'))) (k2 _ _ (Ad _ e))
end
def okE (d:D):Bool:=hd1 d&&DN d
def ND:Fn:=λds mu=>match sq1 ds mu with
 |some es=>if (es.all okE&&decide (es.length<64))=true then some (.set (Gu es),mu) else none
 |none=>none
def Qs {ds:List D}{mu:Sto}{r:D×Sto}(h:ND ds mu=some r):∃d es,ds=[d]/\Gg mu d=some es/\(∀e∈es,hd1 e=true/\DN e=true)/\es.length<64/\r=(.set (Gu es),mu):=by
 unfold ND at h
 split at h
 ·rename_i es e
  split at h
  ·rename_i c
   cases h
   obtain⟨d,rfl,e3⟩:=LR e
   rw[Ac,Aj,AB] at c
   exact⟨d,es,rfl,e3,λe he=>by have:=c.1 e he;unfold okE at this;rw[Ac] at this;exact this,c.2,rfl⟩
  ·cases h
 ·cases h
section
variable {X:Cx}{K:Zc}{th:List Addr}{mu:Sto}{H:Hp}{pj:Zab}{st:L2.St}{s:Shared}
def LV {k:D}{v:V}{u:Value}(hk:hd1 k=true)(rp:Rep K th H k v)(rl:RelV v u):∃b,v=.ref b/\u=.ref b:=by
 unfold hd1 at hk
 split at hk
 ·unfold Rep at rp
  obtain⟨b,_,rfl,_⟩:=rp
  cases rl
  exact⟨b,rfl,rfl⟩
 ·cases hk
theorem M9 (I:L2.Inv X pj st H s):∀{es:List D}{vs:List V}{us:List Value},(∀e∈es,hd1 e=true/\DN e=true)->RepL X.z th H es vs->Vals vs us->Paired (λ(u:Value) (k:D)=>Hd s.heap k u/\(∃a,u=.ref a)/\hd1 k=true/\∃b,u=.ref b/\Rep X.z th H k (.ref b)) us es
 |[],vs,us,_,h2,q=>by
  rw[h2.inv0] at q
  cases q
  exact .nil
 |k::es,vs,us,e3,h2,q=>by
  obtain⟨v,r',e,ra,rb⟩:=h2.inv
  subst e
  cases q with
  |cons q1 q2 =>
   obtain⟨k1,k2⟩:=e3 k (.head _)
   obtain⟨b,e1,e4⟩:=LV k1 ra q1
   subst e1
   exact .cons ⟨G4 I k2 ra q1,⟨b,e4⟩,k1,b,e4,ra⟩ (M9 I (λe he=>e3 e (.tail _ he)) rb q2)
theorem RepL.permZ {ds ds':List D}(p:ds'.Perm ds):∀{vs:List V},RepL K th H ds vs->∃vs',RepL K th H ds' vs'/\(ds'.zip vs').Perm (ds.zip vs):=by
 induction p with
 |nil=>exactλr=>⟨_,r,BX _⟩
 |cons x _ ih =>
  intro vs r
  obtain⟨v,r',rfl,h1,h2⟩:=r.inv
  obtain⟨vs',a,b⟩:=ih h2
  exact⟨v::vs',.cons h1 a,b.cons _⟩
 |swap x y l =>
  intro vs r
  obtain⟨v,r1,rfl,h1,h2⟩:=r.inv
  obtain⟨u,r2,rfl,h3,h4⟩:=h2.inv
  exact⟨u::v::r2,.cons h3 (.cons h1 h4),List.Perm.swap ..⟩
 |trans _ _ ih1 ih2 =>
  intro vs r
  obtain⟨v2,a2,b2⟩:=ih2 r
  obtain⟨v1,a1,b1⟩:=ih1 a2
  exact⟨v1,a1,b1.trans b2⟩
def J8 (w:World)(ds:List D)(vs:List V):(DM w ds).zip vs=(ds.zip vs).map λp=>(CS w p.1,p.2):=by
 rw[DV,List.zip_map_left]
 rfl
abbrev PrS (X:Cx) (th:List Addr) (H:Hp) (k:D) (u:Value):Prop:=∃b,u=.ref b/\Rep X.z th H k (.ref b)
def JS (I:L2.Inv X pj st H s)(so:StoOk X.z th mu H){ls:List D}{Q:VK}(t:Tr X.z th H (some (D.set ls,mu)) (KV' X.z Q)){h0 h':Heap}{tk:Nat}{d':Drawn}(hS:HasD X.w h0 (PrS X th H) s.heap.objs.size ls (!CW X.w) h')(hk:∀b o,s.heap.get? b=some o->h'.get? b=some o)(hl:ls.length<64)(nd:ls.Nodup):EP X pj st Q (.ref s.heap.objs.size) {s with heap:=h',toks:=tk,drawn:=d'}:=by
 obtain⟨o,tes,ep,tb,ho,hex,hd,hdm,T,fl,hled,hpl,ks,pm,pr⟩:=hS
 have hp:H s.heap.objs.size=none:=I.hok.fresh (Ai _)
 have tl:tes.size=ks.length:=by rw[<- Dc pr,Array.length_toList]
 have kl:ks.length=ls.length:=pm.length_eq
 have sb:tes.size<scanBound:=by
  rw[tl,kl]
  unfold scanBound
  ext
 obtain⟨zs,z1,z2,z3⟩:∃zs:List V,Vals zs (tes.toList.map (·.2))/\RepL X.z th H ks zs/\tes.toList.map (·.1)=DM X.w ks:=by
  clear fl T sb tl kl hd pm
  generalize tes.toList=tl at pr
  induction pr with
  |nil=>exact⟨[],.nil,.nil,rfl⟩
  |cons hx tx ih =>
   obtain⟨zs,a1,a2,a3⟩:=ih
   obtain⟨⟨eh,_⟩,b,eb,rb⟩:=hx
   rw[A3,A3,eb,a3,eh]
   exact⟨.ref b::zs,.cons rfl a1,.cons rb a2,rfl⟩
 have zl:zs.length=ks.length:=z2.len
 have hl':(DM X.w ks).length=ks.length:=by rw[DV,Af]
 have sp:Vq X.w s.heap.objs.size ((DM X.w ks).zip zs) h':=by
  refine⟨o,tes,ep,tb,ho,hex,hd,sb,EZ hdm T,?_,?_,.inr ⟨hdm,T,fl,hled,hpl⟩,?_⟩
  ·rw[List.map_snd_zip (by ext)];exact z1
  ·cases c:CW X.w with
   |true=>exact .inl c
   |false =>
    rw[c] at hled
    exact .inr ⟨hled,hpl.elim .inl λz=>.inr (by ext)⟩
  ·rw[List.map_fst_zip (by ext),z3]
 have I0:L2.Inv X pj st H {s with drawn:=d'}:=⟨I.ok,I.os,I.bare,I.base,I.loc,I.cell,I.free,I.freeC,I.pin,I.hok,I.len⟩
 refine⟨.ref s.heap.objs.size,_,I0.laid (h':=h') (t':=tk) (o:=Pc X.w s.heap.objs.size ((DM X.w ks).zip zs)) hk (Ai _) (Vi sp),rfl,?_⟩
 refine t.retX (.new hp _) (so.new hp _) _ ?_
 unfold Rep
 obtain⟨ws,q2,q1⟩:=RepL.permZ (show ls.Perm ks from pm.symm) z2
 have ex:Ext th H th (upd H s.heap.objs.size (Pc X.w s.heap.objs.size ((DM X.w ks).zip zs))):=.new hp _
 refine⟨_,(DM X.w ks).zip zs,ws,rfl,so.notin hp,DT,?_,q2.ext ex so.out,nd⟩
 show List.Perm _ ((DM X.w ls).zip ws)
 rw[J8,J8]
 exact(q1.map _).symm
def Pr (hu:X.A.units+64<cLine)(hc:X.calm=true):CallV X (.type "set") ND:=by
 intro pj s st H xs us Q I r h
 obtain⟨th,mu,ds,so,rd,t⟩:=h
 obtain⟨a0,mu0,e0,_⟩:=id t
 obtain⟨d,es,rfl,e2,e3,hl,er⟩:=Qs e0
 rw[e0] at t
 cases er
 obtain⟨x,rfl,rx⟩:=Eg rd
 obtain⟨a,vs,rfl,h1,h2,h3⟩:=Hm so e2 rx
 obtain⟨u,rfl,ru⟩:=vals1 r
 cases ru
 have ole:(Gu es).length<=es.length:=by have:=Gq es [];simpa[Gu] using this
 have fin:∀(h':Heap) (tk:Nat) d',HasD X.w s.heap (PrS X th H) s.heap.objs.size (es.foldl Dx []) (!CW X.w) h'->(∀b o,s.heap.get? b=some o->h'.get? b=some o)->EP X pj st Q (.ref s.heap.objs.size) {s with heap:=h',toks:=tk,drawn:=d'}:=λh' tk d' hS hk=>JS I so t hS hk (Nat.lt_of_le_of_lt ole hl) (E1 es [] B5)
 have pairs:=λus q=>M9 I e3 h2 (us:=us) q
 have ul:∀us:List Value,Vals vs us->us.length<64:=λus q=>by rw[<- q.length,h2.len];exact hl
 rcases h1 with h1|⟨h1,_⟩
 ·obtain⟨us,q,y,o,ho,hcl⟩:=Jh (E:=X.xe) I hc h1
  exact Oh (by ext) ho hcl F.sub_list_set F.sub_list_frozenset (by decide) (ul us q) (pairs us q) y fin
 ·obtain⟨us,q,y,o,ho,hcl⟩:=Im (E:=X.xe) I hc h1
  exact Oh (by ext) ho hcl Ud NQ (by decide) (ul us q) (pairs us q) y fin
end
def itN:Bool->String
 |true=>"dict_valueiterator"
 |false=>"dict_keyiterator"
def fE:Bool->DictEntry->Value
 |true,e=>e.val
 |false,e=>e.key
def fV:Bool->Int×V×V->V
 |true,x=>x.2.2
 |false,x=>x.2.1
def fD:Bool->List D×List D->List D
 |true,p=>p.2
 |false,p=>p.1
section
variable {prog:Program}{w:World}{A:Around}{E:Value->Zaa}{s:Shared}
def TQ {vl:Bool}{d I:Addr}{es:Array DictEntry}{ep i:Nat}{Q:Option Value->Zaa}(ne:d≠I)(g:DIt (itN vl) d I es ep i s.heap)(hi:i<es.size)
  (q:∀h',DIt (itN vl) d I es ep (i+1) h'->Heap.SameBut I s.heap h'->Q (some (fE vl es[i])) {s with heap:=h'}):wpAny (model prog w) A (pyNext (.ref I)) Q E s:=by
 cases vl
 ·exact MB ne g hi q
 ·exact M6 ne g hi q
def TL {vl:Bool}{d I:Addr}{es:Array DictEntry}{ep:Nat}{Q:Option Value->Zaa}(hh:A.handled=none)(g:DIt (itN vl) d I es ep es.size s.heap)
  (q:∀h',(∀c o,c≠I->s.heap.get? c=some o->h'.get? c=some o)->Q none {s with heap:=h'}):wpAny (model prog w) A (pyNext (.ref I)) Q E s:=by
 cases vl
 ·exact M0 hh g q
 ·exact MS hh g q
def TB {vl:Bool}{I:Addr}{Q:Value->Zaa}(st:s.TypeIs (.ref I) (itN vl))(q:Q (.ref I) s):wpAny (model prog w) A (pyIter (.ref I)) Q E s:=by
 cases vl
 ·refine B6 st Cs (AM Cs st F.entry_dict_keyiterator_iter ?_ (F.args_dict_keyiterator_iter_1 _))
  refine(?_:wpAny _ _ (ret (.ref I)) _ _ s)
  exact Ab ⟨_,rfl,"dict_keyiterator",_,st,Bv.lookup,q⟩
 ·refine B6 st Cc (AM Cc st entry_dict_valueiterator_iter ?_ (F.args_dict_valueiterator_iter_1 _))
  refine(?_:wpAny _ _ (ret (.ref I)) _ _ s)
  exact Ab ⟨_,rfl,"dict_valueiterator",_,st,Bq.lookup,q⟩
end
def ItD (vl:Bool)(d:Addr)(n:Nat):It:=
 ⟨λi H=>i<n/\∃xs,H d=some (Et d xs)/\xs.length=n,
  λi H v H'=>H'=H/\∀xs,H d=some (Et d xs)->∃x,xs[i]?=some x/\fV vl x=v,
  λi H=>i=n/\∃xs,H d=some (Et d xs)/\xs.length=n⟩
def tnD (vl:Bool)(d I:Addr)(n i:Nat)(h:Heap):Prop:=∃o,h.get? I=some o/\o.cls=.type (itN vl)/\o.data=.fields #[.ref d,.int i 0,.int n 0,.int n 0]
def NN {vl:Bool}{x:Int×V×V}{e:DictEntry}(a:RelV x.2.1 e.key)(b:RelV x.2.2 e.val):RelV (fV vl x) (fE vl e):=by cases vl;exact a;exact b
def Oc {P:Program}{w:World}{K:W.Frag}{tg:Expr}(vl:Bool)(d it:Addr)(n:Nat):Turn P w K tg (ItD vl d n) [it] it (tnD vl d it n) where
 mem:=by simp
 obj:=λi h st b hb=>by
  have e:b=it:=by simpa using hb
  subst e
  obtain⟨o,e,c,d⟩:=st
  exact⟨o,e,λv z=>by rw[d] at z;cases z⟩
 keep:=λi h h' ⟨o,a,b,c⟩ k=>⟨o,k it (by simp) o a,b,c⟩
 item:=by
  intro X hP hw hK hc i pj s σ H E I hf st hg
  subst hP hw hK
  obtain⟨hi,xs,hd,hl⟩:=hg
  obtain⟨⟨z,o,es,ep,g1,g2,g3,g4,ge⟩,_⟩:=(show ObjOk X.prog X.w H s.heap d (Et d xs) from I.hok d _ hd)
  have hsz:es.size=n:=by rw[<- Array.length_toList,<- Dc g4];exact hl
  obtain⟨f0,f1,f2,f3,f4,f5⟩:=hf it (by simp)
  have ne:d≠it:=λq=>by rw[q,f0] at hd;cases hd
  have di:DIt (itN vl) d it es ep i s.heap:=⟨⟨o,g1,g3⟩,by obtain⟨o',a,b,c⟩:=st;exact⟨o',a,b,by rw[c,ge,hsz]⟩⟩
  have hie:i<es.size:=by ext
  refine TQ ne di hie λh' g' sb=>?_
  have I1:Inv X pj σ H {s with heap:=h'}:=I.turned (t':=s.toks) (λb o hb e=>(sb.2 b hb).trans e) f0 f1 f3 f4 f5
  obtain⟨_,o2,a2,b2,c2⟩:=id g'
  have ex:es.toList[i]?=some es[i]:=by rw[Aq];exact An hie
  obtain⟨x,x1,_,x3,x4⟩:=(Dq g4 i).2 es[i] ex
  refine⟨_,rfl,Nd (s:={s with heap:=h'}) a2 b2 c2 (by cases vl<;>decide) ⟨fV vl x,H,I1,NN x3 x4,⟨rfl,λys hy=>?_⟩,⟨o2,a2,b2,by rw[c2,ge,hsz]⟩,λb hb=>(hf b hb).1⟩⟩
  obtain⟨⟨_,o',es',ep',q1,q2,q3,q4,_⟩,_⟩:=(show ObjOk X.prog X.w H s.heap d (Et d ys) from I.hok d _ hy)
  rw[g1] at q1
  cases q1
  rw[g3] at q3
  cases q3
  obtain⟨y,y1,_,y3,y4⟩:=(Dq q4 i).2 es[i] ex
  exact⟨y,y1,(NN (vl:=vl) y3 y4).inj (NN x3 x4)⟩
 done:=by
  intro X hP hw hK hc i pj s σ H E I hf st hg
  subst hP hw hK
  obtain⟨hi,xs,hd,hl⟩:=hg
  obtain⟨⟨z,o,es,ep,g1,g2,g3,g4,ge⟩,_⟩:=(show ObjOk X.prog X.w H s.heap d (Et d xs) from I.hok d _ hd)
  have hsz:es.size=n:=by rw[<- Array.length_toList,<- Dc g4];exact hl
  obtain⟨f0,f1,f2,f3,f4,f5⟩:=hf it (by simp)
  have di:DIt (itN vl) d it es ep es.size s.heap:=⟨⟨o,g1,g3⟩,by obtain⟨o',a,b,c⟩:=st;exact⟨o',a,b,by rw[c,ge,hsz,hi]⟩⟩
  exact TL (I.ok.hd hc) di λh' k=>⟨rfl,I.turned (t':=s.toks) (λb o hb e=>k b o hb e) f0 f1 f3 f4 f5⟩
 self:=λA i s Q E ⟨o,a,b,c⟩ h=>TB (vl:=vl) ⟨o,a,b⟩ h
section
variable {X:Cx}{K:Zc}{th:List Addr}{mu:Sto}{H:Hp}
def refOf:D->Option Nat
 |.ref k=>some k
 |_=>none
def iDx (vl:Bool)(m:Ex):Ix:=λro mu=>bM (m ro mu) λd m1=>match DF m1 d with
 |some p=>some ((fD vl p,refOf d),m1)
 |none=>none
theorem DcAt.len {a:Addr}{ks ds:List D}(h:DcAt K th H a ks ds):∃xs,H a=some (Et a xs)/\xs.length=ks.length/\RepL K th H ks (xs.map (fV false))/\RepL K th H ds (xs.map (fV true))/\ks.length<=sizeLine:=by
 obtain⟨xs,h1,h2,h3,h4,h5⟩:=h
 exact⟨xs,h1,by have:=h3.len;simpa using this,h3,h4,h5.len⟩
def Mn (so:StoOk K th mu H){d:D}{p:List D×List D}{a:Addr}(q:DF mu d=some p)(rv:Rep K th H d (.ref a)){th':List Addr}{mu':Sto}{H':Hp}(e:Ext th H th' H')(so':StoOk K th' mu' H')(g:gOk (refOf d) mu mu'):DcAt K th' H' a p.1 p.2:=by
 have rv':=rv.ext e so.out
 have q':DF mu' d=some p:=by
  cases d with
  |ref k =>
   unfold DF at q ⊢
   dsimp only at q ⊢
   rw[show mu'[k]?=mu[k]? from(show mu[k]?=mu'[k]? from g).symm]
   exact q
  |_=>exact q
 obtain⟨b,e1,dc⟩:=Eb so' q' rv'
 cases e1
 exact dc
def O8 {vl:Bool}{a:Addr}{p:List D×List D}{g:Option Nat}(h:∀th' mu' H',Ext th H th' H'->StoOk K th' mu' H'->gOk g mu mu'->DcAt K th' H' a p.1 p.2)(hl:p.1.length=p.2.length)(hz:p.1.length<=sizeLine):N0 K (ItD vl a p.1.length) th mu H (fD vl p) g where
 sz:=by cases vl;exact hz;exact hl▸hz
 go:=λth' mu' H' e s go i d ed=>by
  obtain⟨xs,h1,h2,h3,h4,_⟩:=(h th' mu' H' e s go).len
  have hr:RepL K th' H' (fD vl p) (xs.map (fV vl)):=by cases vl;exact h3;exact h4
  have hi:i<p.1.length:=by
   have:=(Ae.mp ed).1
   cases vl
   ·exact this
   ·exact hl▸this
  obtain⟨v,ev,rv⟩:=hr.get ed
  refine⟨⟨hi,xs,h1,h2⟩,λx H2 y=>?_⟩
  obtain⟨rfl,y⟩:=y
  obtain⟨z,z1,z2⟩:=y xs h1
  rw[Am,z1] at ev
  have ev':fV vl z=v:=by simpa using ev
  rw[z2] at ev'
  subst ev'
  exact⟨.refl _ _,s,rv⟩
 stop:=λth' mu' H' e s go=>by
  obtain⟨xs,h1,h2,_⟩:=(h th' mu' H' e s go).len
  exact⟨by cases vl;rfl;exact hl.symm,xs,h1,h2⟩
def ZQ (te:TE):TI:=fun σ H R=>te σ H λx H1=>∃a xs,x=.ref a/\H1 a=some (Et a xs)/\R (ItD false a xs.length) H1
def XX {tg e:Expr}{te:TE}(he:PE X e te):PI X tg e (ZQ te):=by
 intro pj s σ H R I h
 refine thn (he pj s σ H _ I h) λv s1 ⟨x,H1,I1,r1,q1⟩=>?_
 obtain⟨a,xs,e,hd,q⟩:=q1
 subst e
 cases r1
 obtain⟨⟨z,o,es,ep,g1,g2,g3,g4,ge⟩,_⟩:=(show ObjOk X.prog X.w H1 s1.heap a (Et a xs) from I1.hok a _ hd)
 have hsz:es.size=xs.length:=by rw[<- Array.length_toList,<- Dc g4]
 refine HR z g1 g2.1 g3 λh' hs hk di=>?_
 obtain⟨_,o2,a2,b2,c2⟩:=di
 refine⟨s1.heap.objs.size,[s1.heap.objs.size],_,_,H1,rfl,I1.kept (t':=s1.toks) λb o e=>hk b o e,Oc false a _ _,⟨o2,a2,b2,by rw[c2,ge,hsz]⟩,λb hb=>?_,q⟩
 have e:b=s1.heap.objs.size:=by simpa using hb
 subst e
 exact I1.fpOk (Ai _) (I1.hok.fresh (Ai _))
theorem Xl {tg e:Expr}{m:Ex}(h:SV X e m):SVI X tg e (iDx false m):=⟨PI.weak (XX h.r) λst H R q=>by
 obtain⟨th,mu,ro,so,en,t⟩:=q
 refine⟨th,mu,ro,so,en,t.bind.mono λd th1 mu1 H1 e1 s1 t1 v rv=>?_⟩
 cases q:DF mu1 d with
 |none=>rw[q] at t1;exact t1.no.elim
 |some p =>
  rw[q] at t1
  obtain⟨a,rfl,dc⟩:=Eb s1 q rv
  obtain⟨xs,h1,h2,h3,h4,h5⟩:=id dc.len
  have hl:p.1.length=p.2.length:=by have:=h3.len;have:=h4.len;simp at *;ext
  refine⟨a,xs,rfl,h1,t1.ret s1 _ ?_⟩
  rw[h2]
  exact O8 (λth' mu' H' e s' go=>Mn s1 q rv e s' go) hl h5⟩
def Z0 (te:TE):TI:=fun σ H R=>te σ H λx H1=>∃b a xs,x=.ref b/\H1 b=some (J4 b a)/\H1 a=some (Et a xs)/\R (ItD true a xs.length) H1
def Zr {tg e:Expr}{te:TE}(he:PE X e te):PI X tg e (Z0 te):=by
 intro pj s σ H R I h
 refine thn (he pj s σ H _ I h) λv s1 ⟨x,H1,I1,r1,q1⟩=>?_
 obtain⟨b,a,xs,e,hv,hd,q⟩:=q1
 subst e
 cases r1
 obtain⟨⟨z,o,es,ep,g1,g2,g3,g4,ge⟩,_⟩:=(show ObjOk X.prog X.w H1 s1.heap a (Et a xs) from I1.hok a _ hd)
 obtain⟨⟨ov,v1,v2,v3⟩,_⟩:=(show ObjOk X.prog X.w H1 s1.heap b (J4 b a) from I1.hok b _ hv)
 have hsz:es.size=xs.length:=by rw[<- Array.length_toList,<- Dc g4]
 refine Kc v1 v2 v3 g1 g3 λh' hs hk di=>?_
 obtain⟨_,o2,a2,b2,c2⟩:=di
 refine⟨s1.heap.objs.size,[s1.heap.objs.size],_,_,H1,rfl,I1.kept (t':=s1.toks) λb o e=>hk b o e,Oc true a _ _,⟨o2,a2,b2,by rw[c2,ge,hsz]⟩,λb hb=>?_,q⟩
 have e:b=s1.heap.objs.size:=by simpa using hb
 subst e
 exact I1.fpOk (Ai _) (I1.hok.fresh (Ai _))
theorem VG {tg o:Expr}{m:Ex}{apos cpos:Pos}(ho:SV X o m)(hbase:attributeBase o "values" X.env (eval o X.env)=eval o X.env:=by rfl)(hline:(apos.endLine==cpos.line)=true:=by rfl):SVI X tg (.Call (.Attribute o "values" apos) [] [] cpos) (iDx true m):=
 ⟨PI.weak (Zr (Sa F.slot_dict_values F.type_dict_values Lh ho.r hbase hline)) λst H R q=>by
 obtain⟨th,mu,ro,so,en,t⟩:=q
 refine⟨th,mu,ro,so,en,t.bind.mono λd th1 mu1 H1 e1 s1 t1 v rv=>?_⟩
 cases q:DF mu1 d with
 |none=>rw[q] at t1;exact t1.no.elim
 |some p =>
  rw[q] at t1
  obtain⟨a,rfl,dc⟩:=Eb s1 q rv
  obtain⟨xs,h1,h2,h3,h4,h5⟩:=id dc.len
  have hl:p.1.length=p.2.length:=by have:=h3.len;have:=h4.len;simp at *;ext
  refine⟨⟨a,xs,rfl,h1⟩,rfl,a,xs,rfl,h1,λb hb=>⟨b,a,xs,rfl,DT,by rw[Dp (Dm h1 hb)];exact h1,?_⟩⟩
  have ex:Ext th1 H1 th1 (upd H1 b (J4 b a)):=.new hb _
  refine(t1.ahead ex).ret (s1.new hb _) _ ?_
  rw[h2]
  exact O8 (λth' mu' H' e s' go=>Mn s1 q rv (ex.trans e) s' go) hl h5⟩
end
def TK (a b c:Value):checkTypeCall "zip" {pos:=[a,b,c]}=pure ():=by kernel_rfl
def Tt (a b c:Value):checkBuiltinCall "zip.__new__" {pos:=[Value.type "zip",a,b,c]}=pure ():=by kernel_rfl
def ZJ (a b c d:Value):argsOk "object.__init__" {pos:=[a,b,c,d]}:=by kernel_rfl
abbrev ER (h:Heap) (T:Addr) (a b c:Value):Prop:=h.get? T=some {cls:=.type "tuple",data:=.seq #[a,b,c]}
def nn {a b:Nat}(h:a<b\/b<a:=by ext):a≠b:=by ext
section
variable {prog:Program}{w:World}{A:Around}{E:Value->Zaa}{s:Shared}
def G9 {T:Addr}{a b c x:Value}{k:Nat}{Q:Unit->Zaa}(o:ER s.heap T a b c)
  (q:∀h',h'.get? T=some {cls:=.type "tuple",data:=.seq (#[a,b,c].setIfInBounds k x)}->Heap.SameBut T s.heap h'->Q () {s with heap:=h'}):wpAny (model prog w) A (updateSeq T λv=>v.setIfInBounds k x) Q E s:=
 BZ o rfl (q _ (by have e:=AF (Obj.mapSeq λv=>v.setIfInBounds k x) o rfl;simpa[Obj.mapSeq] using e) (Au ..)) (by show 3<=sizeLine;decide) (by rw[Array.size_setIfInBounds];show 3<=sizeLine+1;decide)
def zT3 (n l1 l2 l3:Nat)(k:Nat)(h:Heap):Prop:=
 IsZip h (n+5) (n+3) (n+4) .none/\ER h (n+3) (.ref n) (.ref (n+1)) (.ref (n+2))/\(∃a b c,ER h (n+4) a b c)/\h.IsTupleIter n l1 k/\h.IsTupleIter (n+1) l2 k/\h.IsTupleIter (n+2) l3 k
def Rp {n l1 l2 l3:Nat}{k:Nat}{xs ys zs:Array Value}{x y z:Value}{Q:Value->Zaa}(d1:l1<n)(d2:l2<n)(d3:l3<n)(g:zT3 n l1 l2 l3 k s.heap)
  (p1:s.heap.IsTuple l1 xs) (p2:s.heap.IsTuple l2 ys) (p3:s.heap.IsTuple l3 zs) (ex:xs[k]?=some x) (ey:ys[k]?=some y) (ez:zs[k]?=some z)
  (q:∀h',IsZip h' (n+5) (n+3) (n+4) (rawInt s.heap.objs.size)->ER h' (n+4) x y z->h'.IsTupleIter n l1 (k+1)->h'.IsTupleIter (n+1) l2 (k+1)->h'.IsTupleIter (n+2) l3 (k+1)->ER h' s.heap.objs.size x y z ->
   (∀c o,c≠n+5->c≠n+4->c≠n->c≠n+1->c≠n+2->s.heap.get? c=some o->h'.get? c=some o)->Q (.ref s.heap.objs.size) {s with heap:=h'}) :
  wpAny (model prog w) A (Builtin.«zip.__next__» ⟨[.ref (n+5)],[]⟩) (λfin s'=>∃v,fin=.done (.ret v)/\Q v s') E s:=by
 obtain⟨g1,g2,⟨a,b,c,g3⟩,g4,g5,g6⟩:=g
 refine(?_:wpAny _ _ (field (.ref (n+5)) 2>>=_) _ _ _)
 refine Aa (Bh g1 rfl (x:=.bool false) rfl (?_:wpAny _ _ (field (.ref (n+5)) 3>>=_) _ _ _))
 refine Aa (Bh g1 rfl (x:=.ref (n+3)) rfl (Aa (A6 g2 rfl (?_:wpAny _ _ (Builtin.SmallTypes.ownedTupleIsFree (.ref (n+5))>>=_) _ _ _))))
 refine Aa ?_
 (unfold Builtin.SmallTypes.ownedTupleIsFree)
 refine Aa (Bh g1 rfl (x:=.none) rfl (Ab ?_))
 simp only[if_true]
 refine Aa (Bn (Aa (Bh g1 rfl (x:=.ref (n+4)) rfl (Aa (Bk g1 (by simp) λq1 z1 b1=>?_)))))
 replace z1:IsZip q1 (n+5) (n+3) (n+4) .ellipsis:=z1
 refine Aa ?_
 simp only[List.zipIdx_cons,List.zipIdx_nil,BK,List.forIn_nil]
 refine Aa (Aa (Cg (?_:wpAny _ _ (Builtin.SmallTypes.nextOf (.ref n)>>=_) _ _ _)))
 refine Aa (Hb (g4.extBut b1.extBut nn) (p1.extBut b1.extBut nn) ex λq2 n1 b2=>Ab ?_)
 have o2:ER q2 (n+4) a b c:=b2.extBut _ _ nn (b1.extBut _ _ nn g3)
 refine Aa (A6 o2 rfl (Aa (G9 o2 λq3 o3 b3=>Aa (wpAny_letGo (Ab ?_)))))
 replace o3:ER q3 (n+4) x b c:=o3
 refine Aa (Aa (Cg (?_:wpAny _ _ (Builtin.SmallTypes.nextOf (.ref (n+1))>>=_) _ _ _)))
 refine Aa (Hb (((g5.extBut b1.extBut nn).extBut b2.extBut nn).extBut b3.extBut nn) (((p2.extBut b1.extBut nn).extBut b2.extBut nn).extBut b3.extBut nn) ey λq4 n2 b4=>Ab ?_)
 have o4:ER q4 (n+4) x b c:=b4.extBut _ _ nn o3
 refine Aa (A6 o4 rfl (Aa (G9 o4 λq5 o5 b5=>Aa (wpAny_letGo (Ab ?_)))))
 replace o5:ER q5 (n+4) x y c:=o5
 refine Aa (Aa (Cg (?_:wpAny _ _ (Builtin.SmallTypes.nextOf (.ref (n+2))>>=_) _ _ _)))
 refine Aa (Hb (((((g6.extBut b1.extBut nn).extBut b2.extBut nn).extBut b3.extBut nn).extBut b4.extBut nn).extBut b5.extBut nn) (((((p3.extBut b1.extBut nn).extBut b2.extBut nn).extBut b3.extBut nn).extBut b4.extBut nn).extBut b5.extBut nn) ez λq6 n3 b6=>Ab ?_)
 have o6:ER q6 (n+4) x y c:=b6.extBut _ _ nn o5
 refine Aa (A6 o6 rfl (Aa (G9 o6 λq7 o7 b7=>Aa (wpAny_letGo (Ab (Ab ?_))))))
 replace o7:ER q7 (n+4) x y z:=o7
 refine Aa (A6 o7 rfl (Aa (wpAny_newTuple ?_)))
 have sz:q7.objs.size=s.heap.objs.size:=by rw[b7.1,b6.1,b5.1,b4.1,b3.1,b2.1,b1.1]
 have k7:∀c o,c≠n+5->c≠n+4->c≠n->c≠n+1->c≠n+2->s.heap.get? c=some o->q7.get? c=some o:=λc o e1 e2 e3 e4 e5 e=>b7.extBut _ _ e2 (b6.extBut _ _ e5 (b5.extBut _ _ e2 (b4.extBut _ _ e4 (b3.extBut _ _ e2 (b2.extBut _ _ e3 (b1.extBut _ _ e1 e))))))
 have z7:IsZip q7 (n+5) (n+3) (n+4) .ellipsis:=b7.extBut _ _ nn (b6.extBut _ _ nn (b5.extBut _ _ nn (b4.extBut _ _ nn (b3.extBut _ _ nn (b2.extBut _ _ nn z1)))))
 have m1:q7.IsTupleIter n l1 (k+1):=((((n1.extBut b3.extBut nn).extBut b4.extBut nn).extBut b5.extBut nn).extBut b6.extBut nn).extBut b7.extBut nn
 have m2:q7.IsTupleIter (n+1) l2 (k+1):=((n2.extBut b5.extBut nn).extBut b6.extBut nn).extBut b7.extBut nn
 have m3:q7.IsTupleIter (n+2) l3 (k+1):=n3.extBut b7.extBut nn
 have zl:q7.objs.size≠n+5:=BP (Ao z7)
 refine(?_:wpAny _ _ (Builtin.SmallTypes.ownedTupleHandOut (.ref (n+5)) (.ref q7.objs.size)>>=_) _ _ _)
 refine Aa ?_
 (unfold Builtin.SmallTypes.ownedTupleHandOut)
 have z8:IsZip (q7.push {cls:=.type "tuple",data:=.seq #[x,y,z]}) (n+5) (n+3) (n+4) .ellipsis:=Ad _ z7
 refine Aa (Bk z8 (by simp) λq9 z9 b9=>?_)
 replace z9:IsZip q9 (n+5) (n+3) (n+4) (rawInt q7.objs.size):=z9
 refine Bk z9 (by simp) λq0 z0 b0=>?_
 replace z0:IsZip q0 (n+5) (n+3) (n+4) (rawInt q7.objs.size):=z0
 have up:∀c o,c≠n+5->q7.get? c=some o->q0.get? c=some o:=λc o d e=>b0.extBut _ _ d (b9.extBut _ _ d (Ad _ e))
 have nw:ER q0 q7.objs.size x y z:=b0.extBut _ _ zl (b9.extBut _ _ zl (Ak _ rfl))
 rw[sz] at z0 nw
 refine Ab ⟨_,rfl,?_⟩
 rw[sz]
 exact q q0 z0 (up _ _ nn o7) (m1.at λo e=>up _ o nn e) (m2.at λo e=>up _ o nn e) (m3.at λo e=>up _ o nn e) nw λc o e1 e2 e3 e4 e5 e=>up c o e1 (k7 c o e1 e2 e3 e4 e5 e)
theorem Qv {n l1 l2 l3:Nat}{k:Nat}{xs ys zs:Array Value}{Q:PySem.Fin->Zaa}(hh:A.handled=none)(d1:l1<n)(d2:l2<n)(d3:l3<n)(g:zT3 n l1 l2 l3 k s.heap)
  (p1:s.heap.IsTuple l1 xs) (p2:s.heap.IsTuple l2 ys) (p3:s.heap.IsTuple l3 zs) (en:xs[k]?=none\/ys[k]?=none\/zs[k]?=none)
  (q:∀h' e,(∀c o,c≠n+5->c≠n+4->c≠n->c≠n+1->c≠n+2->s.heap.get? c=some o->h'.get? c=some o)->(∃o,h'.get? e=some o/\o.cls=.type "StopIteration")->E (.ref e) {s with heap:=h'}) :
  wpAny (model prog w) A (Builtin.«zip.__next__» ⟨[.ref (n+5)],[]⟩) Q E s:=by
 obtain⟨g1,g2,⟨a,b,c,g3⟩,g4,g5,g6⟩:=g
 refine(?_:wpAny _ _ (field (.ref (n+5)) 2>>=_) _ _ _)
 refine Aa (Bh g1 rfl (x:=.bool false) rfl (?_:wpAny _ _ (field (.ref (n+5)) 3>>=_) _ _ _))
 refine Aa (Bh g1 rfl (x:=.ref (n+3)) rfl (Aa (A6 g2 rfl (?_:wpAny _ _ (Builtin.SmallTypes.ownedTupleIsFree (.ref (n+5))>>=_) _ _ _))))
 refine Aa ?_
 (unfold Builtin.SmallTypes.ownedTupleIsFree)
 refine Aa (Bh g1 rfl (x:=.none) rfl (Ab ?_))
 simp only[if_true]
 refine Aa (Bn (Aa (Bh g1 rfl (x:=.ref (n+4)) rfl (Aa (Bk g1 (by simp) λq1 z1 b1=>?_)))))
 replace z1:IsZip q1 (n+5) (n+3) (n+4) .ellipsis:=z1
 refine Aa ?_
 simp only[List.zipIdx_cons,List.zipIdx_nil,BK,List.forIn_nil]
 refine Aa (Aa (Cg (?_:wpAny _ _ (Builtin.SmallTypes.nextOf (.ref n)>>=_) _ _ _)))
 cases ex:xs[k]? with
 |none =>
  refine Aa (Kw hh (g4.extBut b1.extBut nn) (p1.extBut b1.extBut nn) ex λq2 e b2 he=>?_)
  obtain⟨oe,he1,he2⟩:=he
  have z2:IsZip q2 (n+5) (n+3) (n+4) .ellipsis:=b2 _ _ nn z1
  have ne:e≠n+5:=λu=>by subst u;rw[z2] at he1;cases he1;simp at he2
  exact Bk z2 (by simp) λq3 _ b3=>q q3 e (λc o e1 _ e3 _ _ u=>b3.extBut _ _ e1 (b2 _ _ e3 (b1.extBut _ _ e1 u))) ⟨oe,b3.extBut _ _ ne he1,he2⟩
 |some x =>
  refine Aa (Hb (g4.extBut b1.extBut nn) (p1.extBut b1.extBut nn) ex λq2 n1 b2=>Ab ?_)
  have o2:ER q2 (n+4) a b c:=b2.extBut _ _ nn (b1.extBut _ _ nn g3)
  refine Aa (A6 o2 rfl (Aa (G9 o2 λq3 o3 b3=>Aa (wpAny_letGo (Ab ?_)))))
  replace o3:ER q3 (n+4) x b c:=o3
  refine Aa (Aa (Cg (?_:wpAny _ _ (Builtin.SmallTypes.nextOf (.ref (n+1))>>=_) _ _ _)))
  cases ey:ys[k]? with
  |none =>
   refine Aa (Kw hh (((g5.extBut b1.extBut nn).extBut b2.extBut nn).extBut b3.extBut nn) (((p2.extBut b1.extBut nn).extBut b2.extBut nn).extBut b3.extBut nn) ey λq4 e b4 he=>?_)
   obtain⟨oe,he1,he2⟩:=he
   have z4:IsZip q4 (n+5) (n+3) (n+4) .ellipsis:=b4 _ _ nn (b3.extBut _ _ nn (b2.extBut _ _ nn z1))
   have ne:e≠n+5:=λu=>by subst u;rw[z4] at he1;cases he1;simp at he2
   exact Bk z4 (by simp) λq5 _ b5=>q q5 e (λc o e1 e2 e3 e4 _ u=>b5.extBut _ _ e1 (b4 _ _ e4 (b3.extBut _ _ e2 (b2.extBut _ _ e3 (b1.extBut _ _ e1 u))))) ⟨oe,b5.extBut _ _ ne he1,he2⟩
  |some y =>
   have ez:zs[k]?=none:=(en.resolve_left λu=>by rw[ex] at u;cases u).resolve_left λu=>by rw[ey] at u;cases u
   refine Aa (Hb (((g5.extBut b1.extBut nn).extBut b2.extBut nn).extBut b3.extBut nn) (((p2.extBut b1.extBut nn).extBut b2.extBut nn).extBut b3.extBut nn) ey λq4 n2 b4=>Ab ?_)
   have o4:ER q4 (n+4) x b c:=b4.extBut _ _ nn o3
   refine Aa (A6 o4 rfl (Aa (G9 o4 λq5 o5 b5=>Aa (wpAny_letGo (Ab ?_)))))
   refine Aa (Aa (Cg (?_:wpAny _ _ (Builtin.SmallTypes.nextOf (.ref (n+2))>>=_) _ _ _)))
   refine Aa (Kw hh (((((g6.extBut b1.extBut nn).extBut b2.extBut nn).extBut b3.extBut nn).extBut b4.extBut nn).extBut b5.extBut nn) (((((p3.extBut b1.extBut nn).extBut b2.extBut nn).extBut b3.extBut nn).extBut b4.extBut nn).extBut b5.extBut nn) ez λq6 e b6 he=>?_)
   obtain⟨oe,he1,he2⟩:=he
   have z6:IsZip q6 (n+5) (n+3) (n+4) .ellipsis:=b6 _ _ nn (b5.extBut _ _ nn (b4.extBut _ _ nn (b3.extBut _ _ nn (b2.extBut _ _ nn z1))))
   have ne:e≠n+5:=λu=>by subst u;rw[z6] at he1;cases he1;simp at he2
   exact Bk z6 (by simp) λq7 _ b7=>q q7 e (λc o e1 e2 e3 e4 e5 u=>b7.extBut _ _ e1 (b6 _ _ e5 (b5.extBut _ _ e2 (b4.extBut _ _ e4 (b3.extBut _ _ e2 (b2.extBut _ _ e3 (b1.extBut _ _ e1 u))))))) ⟨oe,b7.extBut _ _ ne he1,he2⟩
end
def YW (K:W.Frag)(a b c:Addr):It:=
 ⟨λi H=>∃xs ys zs x y z,SqT K H a xs/\SqT K H b ys/\SqT K H c zs/\xs[i]?=some x/\ys[i]?=some y/\zs[i]?=some z,
  λi H v H'=>∃T x y z,v=.ref T/\H T=none/\H'=upd H T (.tup [x,y,z])/\(∀xs,SqT K H a xs->xs[i]?=some x)/\(∀ys,SqT K H b ys->ys[i]?=some y)/\∀zs,SqT K H c zs->zs[i]?=some z,
  λi H=>∃xs ys zs,SqT K H a xs/\SqT K H b ys/\SqT K H c zs/\(xs.length<=i\/ys.length<=i\/zs.length<=i)⟩
def PZ {P:Program}{w:World}{K:W.Frag}{elts:List Expr}{k:Nat}{pos:Pos}(n l1 l2 l3:Nat)(d1:l1<n)(d2:l2<n)(d3:l3<n) :
  Turn P w K (.Tuple elts k pos) (YW K l1 l2 l3) [n+5,n+3,n+4,n,n+1,n+2] (n+5) (zT3 n l1 l2 l3) where
 mem:=by simp
 obj:=λi h st b hb=>by
  obtain⟨h1,h2,⟨_,_,_,h3⟩,⟨o4,h4,_,d4⟩,⟨o5,h5,_,d5⟩,⟨o6,h6,_,d6⟩⟩:=st
  simp only[Ap,AR,BM] at hb
  rcases hb with e|e|e|e|e|e<;>rw[e]
  ·exact⟨_,h1,λv e=>by cases e⟩
  ·exact⟨_,h2,λv e=>by cases e⟩
  ·exact⟨_,h3,λv e=>by cases e⟩
  ·exact⟨_,h4,λv e=>by rw[d4] at e;cases e⟩
  ·exact⟨_,h5,λv e=>by rw[d5] at e;cases e⟩
  ·exact⟨_,h6,λv e=>by rw[d6] at e;cases e⟩
 keep:=λi h h' st kk=>by
  obtain⟨h1,h2,⟨a,b,c,h3⟩,h4,h5,h6⟩:=st
  exact⟨kk _ (by simp) _ h1,kk _ (by simp) _ h2,⟨a,b,c,kk _ (by simp) _ h3⟩,h4.at λo e=>kk _ (by simp) o e,h5.at λo e=>kk _ (by simp) o e,h6.at λo e=>kk _ (by simp) o e⟩
 item:=by
  intro X hP hw hK hc i pj s σ H E I hf st hg
  subst hP hw hK
  obtain⟨xs,ys,zs,x,y,z,hq1,hq2,hq3,hx,hy,hz⟩:=hg
  obtain⟨its1,rv1,p1,hz1⟩:=I.tuple hq1
  obtain⟨its2,rv2,p2,hz2⟩:=I.tuple hq2
  obtain⟨its3,rv3,p3,hz3⟩:=I.tuple hq3
  obtain⟨u1,hu1,ru1⟩:=rv1.get hx
  obtain⟨u2,hu2,ru2⟩:=rv2.get hy
  obtain⟨u3,hu3,ru3⟩:=rv3.get hz
  have ty:s.TypeIs (.ref (n+5)) "zip":=⟨_,st.1,rfl⟩
  unfold pyNext
  refine Aa (Cf (AV (name:=Str.ofString "__next__") ty Cr (AM Cr ty F.entry_zip_next (Rp (A:=X.A.in1) d1 d2 d3 st (show s.heap.IsTuple l1 its1.toArray from p1) (show s.heap.IsTuple l2 its2.toArray from p2) (show s.heap.IsTuple l3 its3.toArray from p3) (x:=u1) (y:=u2) (z:=u3) (by simpa using hu1) (by simpa using hu2) (by simpa using hu3) λh' a1 a2 a3 a4 a5 a6 hk=>Ab ?_) (F.args_zip_next_1 _))))
  obtain⟨h1,h2,⟨a,b,c,h3⟩,h4,h5,h6⟩:=st
  have lt:∀{c:Addr}{o:Obj},s.heap.get? c=some o->c≠s.heap.objs.size:=λe=>Ax (Ao e)
  refine⟨_,rfl,wpAny_letOwnedTupleGo_zip a1 λh'' b1 sb=>?_⟩
  have nT:s.heap.objs.size≠n+5:=Ne.symm (lt h1)
  have kk:∀b o,b∉[n+5,n+3,n+4,n,n+1,n+2]->s.heap.get? b=some o->h''.get? b=some o:=λb o hb e=>by
   simp only[Ap,AR,BM,not_or] at hb
   exact(sb.2 b hb.1).trans (hk b o hb.1 hb.2.2.1 hb.2.2.2.1 hb.2.2.2.2.1 hb.2.2.2.2.2 e)
  have I1:Inv X pj σ H {s with heap:=h'',toks:=s.toks}:=I.turnedL kk hf
  have hn:H s.heap.objs.size=none:=I.hok.fresh (Ai _)
  have fT:HJ X pj H s.heap.objs.size:=I.fpOk (Ai _) hn
  have I2:Inv X pj σ (upd H s.heap.objs.size (.tup [x,y,z])) {s with heap:=h'',toks:=s.toks}:=I1.lay fT I.sz
   ⟨⟨by show 3<=sizeLine;decide,_,(sb.2 _ nT).trans a6,rfl⟩,[u1,u2,u3],.cons ru1 (.cons ru2 (.cons ru3 .nil)),⟨_,(sb.2 _ nT).trans a6,rfl,_,rfl⟩⟩
  refine⟨.ref s.heap.objs.size,_,I2,rfl,⟨_,x,y,z,rfl,hn,rfl,λxs' hx'=>by rw[I.tuple_inj hx' hq1];exact hx,λys' hy'=>by rw[I.tuple_inj hy' hq2];exact hy,λzs' hz'=>by rw[I.tuple_inj hz' hq3];exact hz⟩,?_,λb hb=>?_⟩
  ·exact⟨b1,(sb.2 _ nn).trans (hk _ _ nn nn nn nn nn h2),⟨_,_,_,(sb.2 _ nn).trans a2⟩,a3.at λo e=>(sb.2 _ nn).trans e,a4.at λo e=>(sb.2 _ nn).trans e,a5.at λo e=>(sb.2 _ nn).trans e⟩
  ·have ne:b≠s.heap.objs.size:=by
    have hb':=hb
    simp only[Ap,AR,BM] at hb'
    obtain⟨o4,e4,_⟩:=h4
    obtain⟨o5,e5,_⟩:=h5
    obtain⟨o6,e6,_⟩:=h6
    rcases hb' with e|e|e|e|e|e<;>rw[e]
    ·exact lt h1
    ·exact lt h2
    ·exact lt h3
    ·exact lt e4
    ·exact lt e5
    ·exact lt e6
   rw[Dp ne]
   exact(hf b hb).1
 done:=by
  intro X hP hw hK hc i pj s σ H E I hf st hg
  subst hP hw hK
  obtain⟨xs,ys,zs,hq1,hq2,hq3,hend⟩:=hg
  obtain⟨its1,rv1,p1,hz1⟩:=I.tuple hq1
  obtain⟨its2,rv2,p2,hz2⟩:=I.tuple hq2
  obtain⟨its3,rv3,p3,hz3⟩:=I.tuple hq3
  have n1:=rv1.length
  have n2:=rv2.length
  have n3:=rv3.length
  have ty:s.TypeIs (.ref (n+5)) "zip":=⟨_,st.1,rfl⟩
  unfold pyNext
  refine Aa (Cf (AV (name:=Str.ofString "__next__") ty Cr (AM Cr ty F.entry_zip_next (Qv (A:=X.A.in1) (I.ok.hd hc) d1 d2 d3 st (show s.heap.IsTuple l1 its1.toArray from p1) (show s.heap.IsTuple l2 its2.toArray from p2) (show s.heap.IsTuple l3 its3.toArray from p3) (by
   rcases hend with e|e|e
   ·exact .inl (by simp;ext)
   ·exact .inr (.inl (by simp;ext))
   ·exact .inr (.inr (by simp;ext))) λh' e hk he=>?_) (F.args_zip_next_1 _))))
  obtain⟨o,ho,hc⟩:=he
  refine Aa (BN (T:="StopIteration") (b:=true) ⟨o,ho,hc⟩ isSubtype_stop (Ab ⟨rfl,I.turnedL (t':=s.toks) (λb o hb e=>?_) hf⟩))
  simp only[Ap,AR,BM,not_or] at hb
  exact hk b o hb.1 hb.2.2.1 hb.2.2.2.1 hb.2.2.2.2.1 hb.2.2.2.2.2 e
 self:=λA i s Q E st h=>wpAny_pyIter_zip st.1 h
abbrev zt (l:Addr):Obj:={cls:=.type "tuple_iterator",data:=.fields #[.ref l,.int 0 0]}
abbrev zv3 (h:Heap) (l1 l2 l3:Addr):Heap:=((h.push (zt l1)).push (zt l2)).push (zt l3)
abbrev zv4 (h:Heap) (l1 l2 l3:Addr):Heap:=(zv3 h l1 l2 l3).push {cls:=.type "tuple",data:=.seq #[.ref h.objs.size,.ref (h.push (zt l1)).objs.size,.ref ((h.push (zt l1)).push (zt l2)).objs.size]}
abbrev zv5 (h:Heap) (l1 l2 l3:Addr):Heap:=(zv4 h l1 l2 l3).push {cls:=.type "tuple",data:=.seq #[.none,.none,.none]}
abbrev zv6 (h:Heap) (l1 l2 l3:Addr):Heap:=(zv5 h l1 l2 l3).push {cls:=.type "zip",data:=.fields #[.none,.bool false,.bool false,.ref (zv3 h l1 l2 l3).objs.size,.ref (zv4 h l1 l2 l3).objs.size]}
set_option maxHeartbeats 2000000 in
def Vp (l1 l2 l3:Addr)(xs ys zs:Array Value):Meets (Builtin.«zip.__new__» ⟨[.type "zip",.ref l1,.ref l2,.ref l3],[]⟩) (λ_ R s=>s.heap.IsTuple l1 xs/\s.heap.IsTuple l2 ys/\s.heap.IsTuple l3 zs/\R (.ok (.ret (.ref (zv5 s.heap l1 l2 l3).objs.size))) {s with heap:=zv6 s.heap l1 l2 l3}):=
 .of_wp λprog w A R s h=>by
  obtain⟨hp,gn,dr,tk,os⟩:=s
  obtain⟨t1,t2,t3,h⟩:=h
  have hsub:=sub_zip
  have u1:Heap.IsTuple (Shared.heap ⟨hp,gn,dr,tk,os⟩) l1 xs:=t1
  have u2:Heap.IsTuple (Shared.heap ⟨hp.push (zt l1),gn,dr,tk,os⟩) l2 ys:=Heap.IsTuple.push t2 _
  have u3:Heap.IsTuple (Shared.heap ⟨(hp.push (zt l1)).push (zt l2),gn,dr,tk,os⟩) l3 zs:=Heap.IsTuple.push (Heap.IsTuple.push t3 _) _
  wp_walk using B9 u1,B9 u2,B9 u3
  exact⟨_,rfl,h⟩
def Ub {prog:Program}{w:World}{A:Around}{E:Value->Zaa}{s:Shared}{l1 l2 l3:Addr}{xs ys zs:Array Value}{Q:Value->Zaa}(p1:s.heap.IsTuple l1 xs)(p2:s.heap.IsTuple l2 ys)(p3:s.heap.IsTuple l3 zs)
  (q:∀h',zT3 s.heap.objs.size l1 l2 l3 0 h'->(∀c o,s.heap.get? c=some o->h'.get? c=some o)->Q (.ref (s.heap.objs.size+5)) {s with heap:=h'}) :
  wpAny (model prog w) A (call (.type "zip") [.ref l1,.ref l2,.ref l3]) Q E s:=by
 refine callType_new F.called_zip (by decide) (TK _ _ _) (Tt _ _ _) (λobj=>ZJ obj _ _ _) F.entry_zip_new (Vp l1 l2 l3 xs ys zs) ⟨p1,p2,p3,?_⟩
 have n1:(s.heap.push (zt l1)).objs.size=s.heap.objs.size+1:=Ba ..
 have n2:((s.heap.push (zt l1)).push (zt l2)).objs.size=s.heap.objs.size+2:=by rw[Ba,n1]
 have n3:(zv3 s.heap l1 l2 l3).objs.size=s.heap.objs.size+3:=by rw[Ba,n2]
 have n4:(zv4 s.heap l1 l2 l3).objs.size=s.heap.objs.size+4:=by rw[Ba,n3]
 have n5:(zv5 s.heap l1 l2 l3).objs.size=s.heap.objs.size+5:=by rw[Ba,n4]
 have e6:(zv6 s.heap l1 l2 l3).get? (zv5 s.heap l1 l2 l3).objs.size=some _:=Ak _ rfl
 have e5:(zv5 s.heap l1 l2 l3).get? (zv4 s.heap l1 l2 l3).objs.size=some _:=Ak _ rfl
 have e4:(zv4 s.heap l1 l2 l3).get? (zv3 s.heap l1 l2 l3).objs.size=some _:=Ak _ rfl
 have e3:(zv3 s.heap l1 l2 l3).get? ((s.heap.push (zt l1)).push (zt l2)).objs.size=some _:=Ak _ rfl
 have e2:((s.heap.push (zt l1)).push (zt l2)).get? (s.heap.push (zt l1)).objs.size=some _:=Ak _ rfl
 have e1:(s.heap.push (zt l1)).get? s.heap.objs.size=some _:=Ak _ rfl
 have w5:∀c o,(zv5 s.heap l1 l2 l3).get? c=some o->(zv6 s.heap l1 l2 l3).get? c=some o:=λc o e=>Ad _ e
 have w4:∀c o,(zv4 s.heap l1 l2 l3).get? c=some o->(zv6 s.heap l1 l2 l3).get? c=some o:=λc o e=>w5 c o (Ad _ e)
 have w3:∀c o,(zv3 s.heap l1 l2 l3).get? c=some o->(zv6 s.heap l1 l2 l3).get? c=some o:=λc o e=>w4 c o (Ad _ e)
 have w2:∀c o,((s.heap.push (zt l1)).push (zt l2)).get? c=some o->(zv6 s.heap l1 l2 l3).get? c=some o:=λc o e=>w3 c o (Ad _ e)
 have w1:∀c o,(s.heap.push (zt l1)).get? c=some o->(zv6 s.heap l1 l2 l3).get? c=some o:=λc o e=>w2 c o (Ad _ e)
 have w0:∀c o,s.heap.get? c=some o->(zv6 s.heap l1 l2 l3).get? c=some o:=λc o e=>w1 c o (Ad _ e)
 have f5:=w5 _ _ e5
 have f4:=w4 _ _ e4
 have f3:=w3 _ _ e3
 have f2:=w2 _ _ e2
 have f1:=w1 _ _ e1
 refine(?_:_/\_)
 rw[n3,n4,n5] at e6
 rw[n1,n2,n3] at f4
 rw[n4] at f5
 rw[n2] at f3
 rw[n1] at f2
 rw[n5]
 exact⟨⟨_,e6,rfl⟩,q _ ⟨e6,f4,⟨_,_,_,f5⟩,⟨_,f1,rfl,rfl⟩,⟨_,f2,rfl,rfl⟩,⟨_,f3,rfl,rfl⟩⟩ w0⟩
def Vn (K:W.Frag)(ta:TA):TI:=fun σ H R=>ta σ H λvs H1=>∃a b c,vs=[.ref a,.ref b,.ref c]/\(∃xs,SqT K H1 a xs)/\(∃ys,SqT K H1 b ys)/\(∃zs,SqT K H1 c zs)/\R (YW K a b c) H1
theorem vals3 {x y z:V}{us:List Value}(h:Vals [x,y,z] us):∃a b c,us=[a,b,c]/\RelV x a/\RelV y b/\RelV z c:=by
 cases h with
 |cons h1 t=>obtain⟨b,c,rfl,h2,h3⟩:=vals2 t;exact⟨_,b,c,rfl,h1,h2,h3⟩
def S4 {X:Cx}{a b c:Expr}{ta:TA}{p pos:Pos}{elts:List Expr}{k:Nat}{tp:Pos}(hg:Gl X "zip")(hm:X.mg "zip"=none)(hz:bootBuiltins "zip"=some (.type "zip"))(ha:PA X [a,b,c] ta)(hs:starEach [a,b,c] X.env=[(false,eval a X.env),(false,eval b X.env),(false,eval c X.env)]:=by rfl)(hs2:starEach [b,c] X.env=[(false,eval b X.env),(false,eval c X.env)]:=by rfl) :
  PI X (.Tuple elts k tp) (.Call (.Name "zip" p) [a,b,c] [] pos) (Vn X.K ta):=by
 intro pj s σ H R I h
 refine Call_ (Kq I hg hm hz (Cw (thn (ha pos pj s σ H _ I h) λus s1 ⟨vs,H1,I1,r1,q1⟩=>?_) (by rw[hs,hs2]) (by rw[hs2];rfl)))
 obtain⟨a1,a2,a3,e,⟨xs,hx⟩,⟨ys,hy⟩,⟨zs,hz⟩,q⟩:=q1
 subst e
 obtain⟨u1,u2,u3,rfl,ra,rb,rc⟩:=vals3 r1
 cases ra
 cases rb
 cases rc
 obtain⟨its1,rv1,p1,_⟩:=I1.tuple hx
 obtain⟨its2,rv2,p2,_⟩:=I1.tuple hy
 obtain⟨its3,rv3,p3,_⟩:=I1.tuple hz
 have lt1:a1<s1.heap.objs.size:=by obtain⟨o,e,_⟩:=p1;exact Ao e
 have lt2:a2<s1.heap.objs.size:=by obtain⟨o,e,_⟩:=p2;exact Ao e
 have lt3:a3<s1.heap.objs.size:=by obtain⟨o,e,_⟩:=p3;exact Ao e
 refine Ub (show s1.heap.IsTuple a1 its1.toArray from p1) (show s1.heap.IsTuple a2 its2.toArray from p2) (show s1.heap.IsTuple a3 its3.toArray from p3) λh' zt hk=>?_
 refine wpAny_pyIter_zip zt.1 ?_
 refine⟨s1.heap.objs.size+5,_,_,_,H1,rfl,I1.kept (t':=s1.toks) λb o e=>hk b o e,PZ _ a1 a2 a3 lt1 lt2 lt3,zt,λb hb=>?_,q⟩
 have hle:s1.heap.objs.size<=b:=by
  simp only[Ap,AR,BM] at hb
  rcases hb with rfl|rfl|rfl|rfl|rfl|rfl<;>simp
 exact I1.fpOk hle (I1.hok.fresh hle)
section
variable {X:Cx}{K:Zc}{th:List Addr}{mu:Sto}{H:Hp}
def QV (ds:List D):Option (List D×List D×List D):=match ds with
 |[.tup xs,.tup ys,.tup zs]=>some (xs,ys,zs)
 |_=>none
def QR {ds:List D}{p:List D×List D×List D}(h:QV ds=some p):ds=[.tup p.1,.tup p.2.1,.tup p.2.2]:=by
 unfold QV at h
 split at h
 ·cases h;rfl
 ·cases h
def E8 (xs ys zs:List D):List D:=(xs.zip (ys.zip zs)).map λp=>.tup [p.1,p.2.1,p.2.2]
def Sm (a:Exs):Ix:=λro mu=>bM (a ro mu) λds m1=>(QV ds).map λp=>((E8 p.1 p.2.1 p.2.2,none),m1)
def P4 {x y z:D}{vs:List V}(h:RepL K th H [x,y,z] vs):∃u v w,vs=[u,v,w]/\Rep K th H x u/\Rep K th H y v/\Rep K th H z w:=by
 obtain⟨u,r,rfl,h1,t⟩:=h.inv
 obtain⟨v,w,rfl,h2,h3⟩:=GH t
 exact⟨u,v,w,rfl,h1,h2,h3⟩
theorem MF {a b c:Expr}{m:Exs}{p pos:Pos}{elts:List Expr}{k:Nat}{tp:Pos}(hm:X.mg "zip"=none)(ha:SVA X [a,b,c] m)(hg:Gl X "zip":=by rfl)(hs:starEach [a,b,c] X.env=[(false,eval a X.env),(false,eval b X.env),(false,eval c X.env)]:=by rfl)(hs2:starEach [b,c] X.env=[(false,eval b X.env),(false,eval c X.env)]:=by rfl) :
  SVI X (.Tuple elts k tp) (.Call (.Name "zip" p) [a,b,c] [] pos) (Sm m):=⟨PI.weak (S4 hg hm PyProof.Rows.boot_zip ha.1 hs hs2) λst H R h=>by
 obtain⟨th,mu,ro,so,en,t⟩:=h
 refine⟨th,mu,ro,so,en,t.bind.mono λds th1 mu1 H1 e1 s1 t1 vs rvs=>?_⟩
 cases q:QV ds with
 |none=>rw[q] at t1;exact t1.no.elim
 |some pr =>
  rw[q] at t1
  rw[QR q] at rvs
  obtain⟨xs,ys,zs⟩:=pr
  obtain⟨x,y,z,rfl,rx,ry,rz⟩:=P4 rvs
  unfold Rep at rx ry rz
  obtain⟨a1,us,rfl,h1,l1,z1⟩:=rx
  obtain⟨a2,ws,rfl,h2,l2,z2⟩:=ry
  obtain⟨a3,ts,rfl,h3,l3,z3⟩:=rz
  refine⟨a1,a2,a3,rfl,⟨us,h1⟩,⟨ws,h2⟩,⟨ts,h3⟩,t1.ret s1 _ ⟨?_,λth' mu' H' e s' go i d ed=>?_,λth' mu' H' e s' go=>?_⟩⟩
  ·show(E8 xs ys zs).length<=sizeLine
   unfold E8
   rw[Af,BS]
   exact AU (Nat.min_le_left _ _) z1
  ·have g1:=e.sqT s1.out h1
   have g2:=e.sqT s1.out h2
   have g3:=e.sqT s1.out h3
   have ed':(E8 xs ys zs)[i]?=some d:=ed
   unfold E8 at ed'
   rw[Am] at ed'
   cases q3:(xs.zip (ys.zip zs))[i]? with
   |none=>rw[q3] at ed';cases ed'
   |some pq =>
    rw[q3] at ed'
    have hd:D.tup [pq.1,pq.2.1,pq.2.2]=d:=by simpa using ed'
    subst hd
    obtain⟨hx,hyz⟩:=AE.mp q3
    obtain⟨hy,hz⟩:=AE.mp hyz
    obtain⟨v1,ev1,rv1⟩:=(l1.ext e s1.out).get hx
    obtain⟨v2,ev2,rv2⟩:=(l2.ext e s1.out).get hy
    obtain⟨v3,ev3,rv3⟩:=(l3.ext e s1.out).get hz
    refine⟨⟨us,ws,ts,v1,v2,v3,g1,g2,g3,ev1,ev2,ev3⟩,λv H2 y=>?_⟩
    obtain⟨T,x',y',z',rfl,hT,rfl,f1,f2,f3⟩:=y
    have ex:=f1 us g1
    have ey:=f2 ws g2
    have ez:=f3 ts g3
    rw[ev1] at ex
    rw[ev2] at ey
    rw[ev3] at ez
    cases ex
    cases ey
    cases ez
    exact⟨.new hT _,s'.new hT _,Rep.newTup s' hT (.cons rv1 (.cons rv2 (.cons rv3 .nil))) (by show 3<=sizeLine;decide)⟩
  ·have g1:=e.sqT s1.out h1
   have g2:=e.sqT s1.out h2
   have g3:=e.sqT s1.out h3
   refine⟨us,ws,ts,g1,g2,g3,?_⟩
   show us.length<=(E8 xs ys zs).length\/ws.length<=(E8 xs ys zs).length\/ts.length<=(E8 xs ys zs).length
   unfold E8
   rw[Af,BS,BS,l1.len,l2.len,l3.len]
   dsimp only
   ext⟩
end
def WG:isSubtype (.type "dict") (.type "set")=pure false:=by rw[B2];kernel_rfl
def VW:isSubtype (.type "dict") (.type "frozenset")=pure false:=by rw[B2];kernel_rfl
section
variable {prog:Program}{w:World}{A:Around}{E:Value->Zaa}{s:Shared}
def SQ {h0:Heap}{P:D->Value->Prop}{S:Addr}{ls:List D}{led:Bool}{wanted:Nat}{Q:Unit->Zaa}(hS:HasD w h0 P S ls led s.heap)(hm:FC (SetTable.sizeAbove wanted-1))(hz:ls.length*5<(SetTable.sizeAbove wanted-1)*3)(hs:¬ SetTable.sizeAbove wanted > sizeLine)(h64:ls.length<64)
  (q:∀h',Heap.SameBut S s.heap h'->HasD w h0 P S ls led h'->(∃o es ep t,h'.get? S=some o/\o.data=.set es ep t/\t.mask=SetTable.sizeAbove wanted-1)->Q () {s with heap:=h'}):wpAny (model prog w) A (setRelay S wanted) Q E s:=by
 obtain⟨o,es,ep,t,ho,hex,hd,hdm,T,fl,hl,hp,ks,pm,pr⟩:=hS
 have sz:es.size=ls.length:=by rw[<- pm.length_eq,<- Dc pr,Array.length_toList]
 have hz1:es.size<=sizeLine:=by rw[AO];ext
 unfold setRelay
 refine Aa (A1 ho hd (EZ hdm T) ?_)
 dsimp only
 rw[if_neg hs]
 obtain⟨t3,order,r1,r2,r3,r4,r5,r6,r7⟩:=LS hm t.finger (t.movedTo (SetTable.sizeAbove wanted-1)) t.led t.plain es (by ext)
 have rl:t.relaid (es.map (·.1)) wanted=some (t3,order):=by
  unfold SetTable.relaid
  exact r1
 rw[rl]
 have rsz:(order.filterMap (es[·]?)).size=es.size:=by rw[<- Array.length_toList,r6.length_eq,Array.length_toList]
 refine Aa (?_:wpAny _ _ (if ((order.filterMap (es[·]?)).size != es.size)=true then _ else pure (order.filterMap (es[·]?),t3)) _ _ _)
 rw[rsz,bne_self_eq_false]
 simp only[Ay,Bd]
 refine Ab ?_
 dsimp only
 generalize order.filterMap (es[·]?)=es2 at r6 r7 rsz ⊢
 refine wpAny_storeSet_of ho hd ?_ (by rw[rsz];exact hz1)
 obtain⟨ks2,pm3,pr3⟩:=Gy r6 pr
 have ho2:=AF (Obj.putSet es2 t3) ho (by rw[putSet_of es2 t3 hd];rfl)
 rw[putSet_of es2 t3 hd] at ho2
 refine q _ (Au ..) ?_ ⟨_,es2,_,t3,ho2,rfl,r2⟩
 exact⟨_,es2,_,t3,ho2,hex,rfl,r3,by rw[r2];exact r7,by rw[r2,rsz,sz];exact hz,r4.trans hl,hp.elim (λz=>.inl (r5.trans z)) λz=>.inr (rsz.trans z),ks2,pm3.trans pm,pr3⟩
def Vm:∀n,n<64->FC (SetTable.sizeAbove (n*2)-1)/\n*5<(SetTable.sizeAbove (n*2)-1)*3/\¬ SetTable.sizeAbove (n*2) > sizeLine:=by
 have key:(List.range 64).all (λn=>([7,31,127,15,63,255].contains (SetTable.sizeAbove (n*2)-1))&&decide (n*5<(SetTable.sizeAbove (n*2)-1)*3)&&decide (SetTable.sizeAbove (n*2)<=256))=true:=by symm
 intro n hn
 have:=AB.mp key n (Bc.mpr hn)
 simp only[Ac,Aj] at this
 obtain⟨⟨a,b⟩,c⟩:=this
 refine⟨?_,b,by rw[AO];ext⟩
 have a':=List.contains_iff_mem.mp a
 simpa[FC] using a'
def R8 {h0:Heap}{P:D->Value->Prop}{S:Addr}{ls:List D}{led:Bool}{more:Nat}{Q:Unit->Zaa}(hS:HasD w h0 P S ls led s.heap)(h64:ls.length+more<64)
  (q:∀h',Heap.SameBut S s.heap h'->HasD w h0 P S ls led h'->(∃o es ep t,h'.get? S=some o/\o.data=.set es ep t/\(ls.length+more)*5<t.mask*3)->Q () {s with heap:=h'}):wpAny (model prog w) A (setRoomFor S more) Q E s:=by
 obtain⟨o,es,ep,t,ho,hex,hd,hdm,T,fl,hl,hp,ks,pm,pr⟩:=id hS
 have sz:es.size=ls.length:=by rw[<- pm.length_eq,<- Dc pr,Array.length_toList]
 have ps:t.place.size=ls.length:=by have:=T.ln;rw[Array.length_toList,Array.length_toList] at this;ext
 unfold setRoomFor
 refine Aa (A1 ho hd (EZ hdm T) ?_)
 dsimp only
 unfold SetTable.roomFor
 by_cases c:(t.fill+more)*5 >= t.mask*3
 ·rw[if_pos c]
  dsimp only
  rw[ps]
  obtain⟨k1,k2,k3⟩:=Vm (ls.length+more) h64
  exact SQ hS k1 (by ext) k3 (by ext) λh' a b ⟨o,es,ep,t,c1,c2,c3⟩=>q h' a b ⟨o,es,ep,t,c1,c2,by rw[c3];exact k2⟩
 ·rw[if_neg c]
  have tf:t.fill=ls.length:=by
   unfold SetTable.fill
   rw[hdm,ps]
   rfl
  rw[tf] at c
  exact Ab (q _ (Heap.SameBut.refl _ _) hS ⟨o,es,ep,t,ho,hd,by ext⟩)
def Uu {Pv:D->Value->Prop}{d:Addr}{od:Obj}{es:Array DictEntry}{ep:Nat}{ks:List D}{Q:Value->Zaa}(hu:A.units+16<cLine)
  (hol:s.heap.get? d=some od) (hcl:od.cls=.type "dict") (hdt:od.data=.dict es ep) (ns:(d==sysModules)=false) (hb:es.size<64)
  (hss:Paired (λ(e:DictEntry) (k:D)=>e.hash=CS w k/\Hd s.heap k e.key/\(∃a,e.key=.ref a)/\hd1 k=true/\Pv k e.key) es.toList ks)
  (h:∀(h':Heap) (tk:Nat) d',HasD w s.heap Pv s.heap.objs.size (ks.foldl Dx []) (!CW w) h'->(∀b o,s.heap.get? b=some o->h'.get? b=some o)->Q (.ref s.heap.objs.size) {s with heap:=h',toks:=tk,drawn:=d'}) :
  wpAny (model prog w) A (PySem.call (.type "set") [.ref d]) Q E s:=by
 refine call_cls (Q1:=λobj z=>obj=.ref s.heap.objs.size/\z={s with heap:=s.heap.push (Ew (!CW w))}) F.called_set (F.typeCall_set_1 _) (Nb (.ref d) ⟨rfl,rfl⟩) λobj z hz=>?_
 obtain⟨e1,e2⟩:=hz
 subst e1 e2
 have gS:(s.heap.push (Ew (!CW w))).get? s.heap.objs.size=some (Ew (!CW w)):=Ak _ rfl
 refine⟨⟨_,gS,rfl⟩,codeAny_call_builtin F.called_set.init.plain F.entry_set_init (check_set_init_1 ⟨_,gS,rfl⟩ ?_)⟩
 obtain⟨oc,odd,oda,osl⟩:=od
 simp only at hcl hdt
 subst hcl hdt
 have gl:(s.heap.push (Ew (!CW w))).get? d=some {cls:=.type "dict",dict:=odd,data:=.dict es ep,slots:=osl}:=Ad _ hol
 have t1:=WG
 have t2:=VW
 unfold Builtin.«set.__init__»
 unfold noKeywords
 unfold Builtin.Frozenset.updateFrom
 generalize hSR:setRoomFor=SR
 wp_walk
 subst hSR
 have h0:HasD w s.heap Pv s.heap.objs.size [] (!CW w) (s.heap.push (Ew (!CW w))):=⟨_,#[],0,_,gS,⟨rfl,rfl,rfl⟩,rfl,rfl,⟨.nil,rfl,.inl rfl,AX _,(λ_ h=>nomatch h),λi j e h=>by simp[SetTable.fresh] at h⟩,(show 0*5<7*3 by decide),rfl,.inr rfl,[],.nil,.nil⟩
 refine R8 (s:={s with heap:=s.heap.push (Ew (!CW w))}) h0 (by simpa using hb) λh1 sb hS1 _=>?_
 have k1:∀b o,s.heap.get? b=some o->h1.get? b=some o:=λb o e=>(sb.2 b (Ax (Ao e))).trans (Ad _ e)
 refine Aa (BG (s:={s with heap:=h1}) (k1 d _ hol) rfl ?_)
 refine Aa ?_
 (rw[Std.Legacy.Range.forIn_eq_forIn_range'])
 simp only[Std.Legacy.Range.size,Nat.sub_zero,Nat.add_sub_cancel,Nat.div_one]
 have kl:ks.length=es.size:=by rw[<- Dc hss,Array.length_toList]
 refine Cy _
  (λrest _ s'=>∃i h' tk,rest=List.range' i (es.size-i)/\i<=es.size/\s'={s with heap:=h',toks:=tk}/\HasD w s.heap Pv s.heap.objs.size ((ks.take i).foldl Dx []) (!CW w) h'/\∀b o,s.heap.get? b=some o->h'.get? b=some o)
  _ ?_ ?_ _ _ ⟨0,h1,s.toks,by simp,AX _,rfl,hS1,k1⟩
 ·rintro x rest _ s' ⟨i,h',tk,hr,hi,rfl,hS,hk⟩
  have hlt:i<es.size:=by
   rcases Bx i es.size with h|h
   ·exact h
   ·rw[Nat.sub_eq_zero_of_le h] at hr;simp at hr
  obtain⟨rfl,hrest⟩:x=i/\rest=List.range' (i+1) (es.size-(i+1)):=by
   have e:es.size-i=(es.size-(i+1))+1:=by ext
   rw[e,List.range'_succ] at hr
   injection hr with h1 h2
   exact⟨h1,h2⟩
  refine Aa (BG (s:={s with heap:=h',toks:=tk}) (hk d _ hol) rfl ?_)
  rw[An hlt]
  have ee:es.toList[x]?=some es[x]:=by rw[Aq,An hlt]
  obtain⟨k,q1,q2,q3,q4,q5,q6⟩:=(Dq hss x).1 _ ee
  show wpAny _ _ (holding [es[x].key] (setAddHashed s.heap.objs.size es[x].key es[x].hash)>>=_) _ _ _
  rw[q2]
  have ll:=Gq (ks.take x) []
  have ll2:(ks.take x).length<=x:=by rw[AA];ext
  have ll3:((ks.take x).foldl Dx []).length<=x:=by simpa using AU ll (by simpa using ll2)
  refine Aa (AL (IS (s:={s with heap:=h',toks:=tk}) (by show A.units+1+1+8<cLine;ext) hS (by ext) hk q3 q4 q5 q6 λh2 _ tk2 sb2 hS2=>?_))
  have hk2:∀b o,s.heap.get? b=some o->h2.get? b=some o:=λb o e=>(sb2.2 b (Ax (Ao e))).trans (hk b o e)
  refine Aa (BD (s:={s with heap:=h2,toks:=tk2}) (hk2 d _ hol) rfl ?_)
  rw[if_neg (by simp)]
  refine Ab ⟨x+1,h2,tk2,hrest,hlt,rfl,?_,hk2⟩
  rw[BW,q1,List.foldl_append]
  exact hS2
 ·rintro _ s' ⟨i,h',tk,hr,hi,rfl,hS,hk⟩
  have hin:i=es.size:=by
   rcases Bx i es.size with h|h
   ·have e:es.size-i=(es.size-(i+1))+1:=by ext
    rw[e,List.range'_succ] at hr;exact nomatch hr
   ·exact Nat.le_antisymm hi h
  rw[hin,<- kl,Cd] at hS
  exact Ab (Ab (a:=Fin.done (.ret Value.none)) (And.intro rfl (h h' tk s.drawn hS hk)))
end
section
variable {prog:Program}{w:World}{A:Around}{E:Value->Zaa}{s:Shared}{h0:Heap}{P:D->Value->Prop}
def HasD.perm {S:Addr}{ls ls':List D}{led:Bool}{h:Heap}(x:HasD w h0 P S ls led h)(p:ls.Perm ls'):HasD w h0 P S ls' led h:=by
 obtain⟨o,es,ep,t,ho,hex,hd,hdm,T,fl,hl,hp,ks,pm,pr⟩:=x
 exact⟨o,es,ep,t,ho,hex,hd,hdm,T,fl,hl,hp,ks,pm.trans p,pr⟩
def HasD.at {S:Addr}{ls:List D}{led:Bool}{h h':Heap}(x:HasD w h0 P S ls led h)(k:∀o,h.get? S=some o->h'.get? S=some o):HasD w h0 P S ls led h':=by
 obtain⟨o,es,ep,t,ho,r⟩:=x
 exact⟨o,es,ep,t,k o ho,r⟩
abbrev EnP (w:World) (h0:Heap) (P:D->Value->Prop) (e:Int×Value) (k:D):Prop:=EnE w h0 e k/\P k e.2
theorem Q4 {S:Addr}{ls:List D}{Q:Array (Int×Value)->Zaa}(hS:HasD w h0 P S ls (!CW w) s.heap)
  (q:∀(es':Array (Int×Value)) (ks:List D) d',ks.Perm ls->Paired (EnP w h0 P) es'.toList ks->Q es' {s with drawn:=d'}):wpAny (model prog w) A (setWalk S) Q E s:=by
 obtain⟨o,es,ep,t,ho,hex,hd,hdm,T,fl,hl,hp,ks,pm,pr⟩:=hS
 have fin:∀(es':Array (Int×Value)) d',es'.toList.Perm es.toList->Q es' {s with drawn:=d'}:=λes' d' p=>by
  obtain⟨ks',p1,p2⟩:=Gy p pr
  exact q es' ks' d' (p1.trans pm) p2
 unfold setWalk
 refine Aa (A1 ho hd (EZ hdm T) ?_)
 dsimp only
 refine Aa (EE ?_)
 cases c:CW w with
 |true =>
  refine Eu (λ_=>?_) λz=>absurd rfl z
  exact Aa (Cz (Ab (fin _ s.drawn (E5 _ _))))
 |false =>
  refine Eu (λz=>absurd z (by simp)) λ_=>?_
  refine Eu (λz=>?_) λz=>?_
  ·exact Aa (Kj es.size es.toList (by simp) λys d' p=>Ab (fin _ d' (by simpa using p)))
  ·refine Aa (?_:wpAny _ _ (ite _ _ _) _ _ _)
   refine Eu (λy=>?_) λ_=>Ab (Ab (fin _ s.drawn (BX _)))
   rw[hl,c] at y
   simp at y
def QM:typeLookup (.type "tuple") (Str.ofString "__eq__")=pure (some (.builtin "tuple.__eq__")):=F.slot_tuple_eq.lookup
theorem Sh {S R:Addr}{ls:List D}{Q:Array (Int×Value)->Zaa}(hS:HasD w h0 P S ls (!CW w) s.heap)(hd1s:∀k∈ls,hd1 k=true)(kp:∀b o,h0.get? b=some o->s.heap.get? b=some o)
  (q:∀(es':Array (Int×Value)) (ks:List D) d',ks.Perm ls->Paired (EnP w h0 P) es'.toList ks->Q es' {s with drawn:=d'}):wpAny (model prog w) A (setWalkUnseen S [R] (some R)) Q E s:=by
 obtain⟨o,es,ep,t,ho,hex,hd,hdm,T,fl,hl,hp,ks,pm,pr⟩:=id hS
 have hf:=EZ hdm T
 unfold setWalkUnseen
 refine Aa (A1 ho hd hf ?_)
 dsimp only
 refine Aa (EE ?_)
 refine Eu (λ_=>Q4 hS q) λc=>?_
 have c2:¬ es.size<=1:=λz=>c (by simp[z])
 refine Aa ?_
 unfold setsQuiet
 refine Aa ?_
 rw[BK]
 refine Aa (Aa (wpAny_setEntries_of ho hd hf ?_))
 refine Aa ?_
 rw[<- Array.forIn_toList]
 have ne:es.toList≠[]:=λz=>c2 (by rw[<- Array.length_toList,z];decide)
 cases el:es.toList with
 |nil=>exact absurd el ne
 |cons e r =>
  rw[el] at pr
  obtain⟨k,kr,rfl,hk⟩:∃k kr,ks=k::kr/\EnP w h0 P e k:=by cases pr with|cons a b=>exact⟨_,_,rfl,a⟩
  obtain⟨⟨_,hd',a,ea⟩,_⟩:=hk
  have hk1:=hd1s k (pm.mem_iff.mp (by simp))
  have hT:s.TypeIs (.ref a) "tuple":=by
   obtain⟨as,rr⟩:=(hd'.keep kp).rd
   rw[ea] at rr
   unfold hd1 at hk1
   split at hk1
   ·unfold toPy at rr
    cases rr with
    |@tuple a o vs k _ _ g1 g2 g3 hw=>exact⟨o,g1,g2⟩
   ·cases hk1
  obtain⟨eh,ev⟩:=e
  dsimp only at ea
  subst ea
  rw[BK]
  refine Aa (?_:wpAny _ _ (specialOf (.ref a) (Str.ofString "__eq__")>>=_) _ _ _)
  refine Aa (Cq hT QM ?_)
  refine Eu (λ_=>?_) λz=>absurd (by decide) z
  refine Ab (Ab (Ab (Ab (Ab ?_))))
  exact Eu (λ_=>Q4 hS q) λz=>absurd rfl z
def Pp {l1 ks l2:List D}(n1:l1.Nodup)(p:ks.Perm l2):(ks.foldl Dx l1).Perm (l2.foldl Dx l1):=
 F6 (E1 ks l1 n1) (E1 l2 l1 n1) λx=>by rw[Fe,Fe,p.mem_iff]
def Ow {R S:Addr}{l1 l2:List D}{each:Sem Unit}{Q:Unit->Zaa}(hu:A.units+8<cLine)(ne:R≠S)(hR:HasD w h0 P R l1 (!CW w) s.heap)(hS:HasD w h0 P S l2 (!CW w) s.heap)(n1:l1.Nodup)(n2:l2.Nodup)(h64:l1.length+l2.length<64)(hd1s:∀k∈l2,hd1 k=true)(kp:∀b o,h0.get? b=some o->s.heap.get? b=some o)(hR0:h0.get? R=none)
  (he:∀(s':Shared) (Q:Unit->Zaa),s'.heap.get? S=s.heap.get? S->Q () s'->wpAny (model prog w) A each Q E s')
  (q:∀h' tk d',Heap.SameBut R s.heap h'->HasD w h0 P R (l2.foldl Dx l1) (!CW w) h'->Q () {s with heap:=h',toks:=tk,drawn:=d'}):wpAny (model prog w) A (setMerge R S each) Q E s:=by
 obtain⟨o,eo,ep,to,ho,hex,hd,hdm,T,fl,hl,hp,ks,pm,pr⟩:=id hS
 have sz2:eo.size=l2.length:=by rw[<- pm.length_eq,<- Dc pr,Array.length_toList]
 have hz2:eo.size<=sizeLine:=by rw[AO];ext
 unfold setMerge
 refine Eu (λz=>absurd (by simpa using z) ne) λ_=>?_
 refine Aa (A1 ho hd (EZ hdm T) ?_)
 dsimp only
 refine Eu (λz=>?_) λz=>?_
 ·have e0:eo.size=0:=by simpa using z
  have e1:l2=[]:=Co.mp (sz2▸e0)
  subst e1
  exact Ab (q s.heap s.toks s.drawn (Heap.SameBut.refl _ _) hR)
 refine Aa (R8 hR (by ext) λh1 sb hR1 hroom=>?_)
 obtain⟨o1,e1,ep1,t1,ho1,hex1,hd1',hdm1,T1,fl1,hl1,hp1,ks1,pm1,pr1⟩:=id hR1
 obtain⟨o1',e1',ep1',t1',ho1',hdt',room⟩:=hroom
 rw[ho1] at ho1'
 cases ho1'
 rw[hd1'] at hdt'
 cases hdt'
 have sz1:e1.size=l1.length:=by rw[<- pm1.length_eq,<- Dc pr1,Array.length_toList]
 have tf:t1.fill=l1.length:=by
  unfold SetTable.fill
  have:=T1.ln
  rw[Array.length_toList,Array.length_toList] at this
  rw[hdm1,this,sz1]
  rfl
 have kp1:∀{h':Heap},Heap.SameBut R s.heap h'->∀b o,h0.get? b=some o->h'.get? b=some o:=λ{h'} sb b o e=>(sb.2 b λz=>by rw[z,hR0] at e;cases e).trans (kp b o e)
 refine Aa (A1 (s:={s with heap:=h1}) ho1 hd1' (EZ hdm1 T1) ?_)
 dsimp only
 unfold SetTable.road
 by_cases c:l1=[]
 ·subst c
  have tf0:(t1.fill != 0)=false:=by rw[tf];rfl
  rw[tf0]
  simp only[Ay,Bd]
  have fp:l2.Perm (l2.foldl Dx []):=F6 n2 (E1 l2 [] B5) λx=>by rw[Fe];simp
  have pl:((t1.plain&&to.plain)=false\/eo.size=0):=hp.elim (λz=>.inl (by rw[z,Bool.and_false])) .inr
  have ll:(t1.led&&to.led) = !CW w:=by rw[hl1,hl,Ci]
  by_cases c2:(t1.mask==to.mask&&to.dummies.isEmpty)=true
  ·rw[if_pos c2]
   dsimp only
   refine wpAny_storeSet_of (s:={s with heap:=h1}) ho1 hd1' ?_ hz2
   have ho2:=AF (Obj.putSet eo {mask:=to.mask,place:=to.place,dummies:=to.dummies,finger:=t1.finger,led:=t1.led&&to.led,moves:=t1.moves,plain:=t1.plain&&to.plain}) ho1 (by rw[putSet_of _ _ hd1'];rfl)
   rw[putSet_of _ _ hd1'] at ho2
   refine q _ s.toks s.drawn (sb.trans (Au ..)) ?_
   exact⟨_,eo,_,_,ho2,hex1,rfl,hdm,T,fl,ll,pl,ks,pm.trans fp,pr⟩
  ·rw[if_neg c2]
   dsimp only
   have room':l2.length*5<t1.mask*3:=by simpa[sz2] using room
   obtain⟨t3,order,r1,r2,r3,r4,r5,r6,r7⟩:=LS T1.mo t1.finger t1.moves (t1.led&&to.led) (t1.plain&&to.plain) eo (by ext)
   rw[r1]
   have rsz:(order.filterMap (eo[·]?)).size=eo.size:=by rw[<- Array.length_toList,r6.length_eq,Array.length_toList]
   refine Aa (?_:wpAny _ _ (if ((order.filterMap (eo[·]?)).size != eo.size)=true then _ else pure (order.filterMap (eo[·]?),t3)) _ _ _)
   rw[rsz,bne_self_eq_false]
   simp only[Ay,Bd]
   refine Ab ?_
   dsimp only
   generalize order.filterMap (eo[·]?)=es2 at r6 r7 rsz ⊢
   refine wpAny_storeSet_of (s:={s with heap:=h1}) ho1 hd1' ?_ (by rw[rsz];exact hz2)
   obtain⟨ks2,pm3,pr3⟩:=Gy r6 pr
   have ho2:=AF (Obj.putSet es2 t3) ho1 (by rw[putSet_of _ _ hd1'];rfl)
   rw[putSet_of _ _ hd1'] at ho2
   refine q _ s.toks s.drawn (sb.trans (Au ..)) ?_
   exact⟨_,es2,_,t3,ho2,hex1,rfl,r3,by rw[r2];exact r7,by rw[r2,rsz,sz2];exact room',r4.trans ll,pl.elim (λz=>.inl (r5.trans z)) λz=>.inr (rsz.trans z),ks2,(pm3.trans pm).trans fp,pr3⟩
 ·have tf1:(t1.fill != 0)=true:=by
   rw[tf,bne_iff_ne]
   exactλz=>c (Co.mp z)
  rw[if_pos tf1]
  dsimp only
  have hS1:HasD w h0 P S l2 (!CW w) h1:=hS.at λo e=>(sb.2 S (Ne.symm ne)).trans e
  refine Aa (Sh (s:={s with heap:=h1}) hS1 hd1s (kp1 sb) λes' ks' d' p1 p2=>?_)
  refine Aa ?_
  rw[<- Array.forIn_toList]
  have ll:es'.toList.length=ks'.length:=Dc p2
  refine Cy _ (λrest _ s'=>∃i h' tk,rest=es'.toList.drop i/\s'={s with heap:=h',toks:=tk,drawn:=d'}/\HasD w h0 P R ((ks'.take i).foldl Dx l1) (!CW w) h'/\Heap.SameBut R s.heap h') _ ?_ ?_ _ _ ⟨0,h1,s.toks,rfl,rfl,hR1,sb⟩
  ·rintro x rest _ s' ⟨i,h',tk,hr,rfl,hD,sb'⟩
   have hi:i<es'.toList.length:=by
    rcases Bx i es'.toList.length with h|h
    ·exact h
    ·rw[List.drop_eq_nil_of_le h] at hr;cases hr
   rw[B8 hi] at hr
   injection hr with hx hrest
   have ee:es'.toList[i]?=some x:=by rw[Al hi,<- hx]
   obtain⟨k,k1,⟨k2,k3,k4⟩,k5⟩:=(Dq p2 i).1 x ee
   obtain⟨xh,xv⟩:=x
   dsimp only at k2 k3 k4 k5
   have km:k∈l2:=p1.mem_iff.mp (Ag k1)
   show wpAny _ _ (holding [xv] (setAddHashed R xv xh)>>=_) _ _ _
   rw[k2]
   have l3:=Gq (ks'.take i) l1
   have l4:(ks'.take i).length<=i:=by rw[AA];ext
   have l5:ks'.length=l2.length:=p1.length_eq
   refine Aa (AL (IS (s:={s with heap:=h',toks:=tk,drawn:=d'}) hu hD (by ext) (kp1 sb') k3 k4 (hd1s k km) k5 λh2 _ tk2 sb2 hD2=>?_))
   have sS:h2.get? S=s.heap.get? S:=(sb2.2 S (Ne.symm ne)).trans (sb'.2 S (Ne.symm ne))
   refine Aa (he _ _ sS ?_)
   refine Aa (A1 (s:={s with heap:=h2,toks:=tk2,drawn:=d'}) (sS.trans ho) hd (EZ hdm T) ?_)
   refine Eu (λz=>absurd z (by simp)) λ_=>?_
   refine Ab ⟨i+1,h2,tk2,hrest,rfl,?_,sb'.trans sb2⟩
   rw[BW,k1,List.foldl_append]
   exact hD2
  ·rintro _ s' ⟨i,h',tk,hr,rfl,hD,sb'⟩
   have hi:es'.toList.length<=i:=List.drop_eq_nil_iff.mp hr.symm
   rw[List.take_of_length_le (by ext)] at hD
   exact Ab (q h' tk d' sb' (hD.perm (Pp n1 p1)))
def Mc:entryFor table "set.__or__"=some Builtin.«frozenset.__or__»:=
 entryFor_alias (id':="frozenset.__or__") (by kernel_rfl) (by symm) (by symm) (by kernel_rfl)
def Aas {S1 S2:Addr}{l1 l2:List D}{Q:Value->Zaa}(hu:A.units+16<cLine)(hsame:S1=S2->l1.Perm l2)(g1:HasD w h0 P S1 l1 (!CW w) s.heap)(g2:HasD w h0 P S2 l2 (!CW w) s.heap)(n1:l1.Nodup)(n2:l2.Nodup)(h64:l1.length+l2.length<64)(d1:∀k∈l1,hd1 k=true)(d2:∀k∈l2,hd1 k=true)(kp:∀b o,h0.get? b=some o->s.heap.get? b=some o)
  (q:∀h' tk d',(∀b o,s.heap.get? b=some o->h'.get? b=some o)->HasD w h0 P s.heap.objs.size (l2.foldl Dx l1) (!CW w) h'->Q (.ref s.heap.objs.size) {s with heap:=h',toks:=tk,drawn:=d'}):wpAny (model prog w) A (call (.builtin "set.__or__") [.ref S1,.ref S2]) Q E s:=by
 obtain⟨⟨c1,dd1,dt1,sl1⟩,e1,ep1,t1,ho1,hex1,hdt1,r1⟩:=id g1
 obtain⟨⟨c2,dd2,dt2,sl2⟩,e2,ep2,t2,ho2,hex2,hdt2,r2⟩:=id g2
 have x1:=hex1.1
 have x2:=hex2.1
 simp only at x1 x2 hdt1 hdt2
 subst x1 x2 hdt1 hdt2
 have ty:s.TypeIs (.ref S1) "set":=⟨_,ho1,rfl⟩
 refine AM F.slot_set_or ty Mc ?_ (F.args_set_or_2 _ _)
 unfold Builtin.«frozenset.__or__»
 have hss:isSubtype (.type "set") (.type "set")=pure true:=by rw[B2];kernel_rfl
 wp_walk
 refine Cz (Ab ?_)
 refine(?_:wpAny _ _ (newObj (.type "set") (.set #[] 0 (.fresh 0 0 (!CW w)))) _ _ s)
 refine AZ ?_ (by size_fits)
 have hR0:h0.get? s.heap.objs.size=none:=by
  cases c:h0.get? s.heap.objs.size with
  |none=>rfl
  |some o=>exact absurd (Ao (kp _ _ c)) (Bz _)
 have gS:(s.heap.push (Ew (!CW w))).get? s.heap.objs.size=some (Ew (!CW w)):=Ak _ rfl
 have hN:HasD w h0 P s.heap.objs.size [] (!CW w) (s.heap.push (Ew (!CW w))):=⟨_,#[],0,_,gS,⟨rfl,rfl,rfl⟩,rfl,rfl,⟨.nil,rfl,.inl rfl,AX _,(λ_ h=>nomatch h),λi j e h=>by simp[SetTable.fresh] at h⟩,(show 0*5<7*3 by decide),rfl,.inr rfl,[],.nil,.nil⟩
 have pu:∀b o,s.heap.get? b=some o->(s.heap.push (Ew (!CW w))).get? b=some o:=λb o e=>Ad _ e
 have nR1:s.heap.objs.size≠S1:=BP (Ao ho1)
 have nR2:s.heap.objs.size≠S2:=BP (Ao ho2)
 refine Aa (Ab (Aa ?_))
 refine Ow (s:={s with heap:=s.heap.push (Ew (!CW w))}) (by show A.units+1+8<cLine;ext) nR1 hN (g1.at λo e=>pu _ o e) B5 n1 (by simp;ext) d1 (λb o e=>pu b o (kp b o e)) hR0 (λs' Q _ h=>Ab h) λh1 tk1 dr1 sb1 hR1=>Ab ?_
 have k1:∀b o,s.heap.get? b=some o->h1.get? b=some o:=λb o e=>(sb1.2 b (Ax (Ao e))).trans (pu b o e)
 have fp:(l1.foldl Dx []).Perm l1:=F6 (E1 l1 [] B5) n1 λx=>by rw[Fe];simp
 refine Eu (λ_=>?_) λz=>?_
 rotate_left
 ·have e12:S1=S2:=by
   have z':¬ (Value.ref S2 != Value.ref S1)=true:=z
   by_cases y:S2=S1
   ·exact y.symm
   ·exact absurd (by simpa using y) z'
  have pp:=hsame e12
  refine Ab (Ab ⟨_,rfl,q h1 tk1 dr1 k1 (hR1.perm (fp.trans (F6 n1 (E1 l2 l1 n1) λx=>?_)))⟩)
  rw[Fe,<- pp.mem_iff]
  exact⟨.inl,λy=>y.elim id id⟩
 refine Aa (Ab (Aa (AL ?_)))
 unfold Builtin.Frozenset.updateFrom
 have ty2:Shared.TypeIs {s with heap:=h1,toks:=tk1,drawn:=dr1} (.ref S2) "set":=⟨_,k1 _ _ ho2,rfl⟩
 refine Aa (Aa (BN (b:=true) ty2 hss (Ab ?_)))
 refine Eu (λ_=>?_) λz=>absurd rfl z
 refine Aa (Ab ?_)
 unfold Builtin.Frozenset.merge
 have hf2:t2.fits e2.size=true:=EZ r2.1 r2.2.1
 refine Aa (wpAny_setEpoch_of (s:={s with heap:=h1,toks:=tk1,drawn:=dr1}) (k1 _ _ ho2) rfl hf2 ?_)
 refine Ow (s:={s with heap:=h1,toks:=tk1,drawn:=dr1}) (by show A.units+1+8<cLine;ext) nR2 (hR1.perm fp) (g2.at λo e=>k1 _ o e) n1 n2 h64 d2 (λb o e=>k1 b o (kp b o e)) hR0 (λs' Q hs h=>?_) λh2 tk2 dr2 sb2 hR2=>Ab (Ab ⟨_,rfl,q h2 tk2 dr2 (λb o e=>(sb2.2 b (Ax (Ao e))).trans (k1 b o e)) hR2⟩)
 unfold Builtin.Frozenset.unchanged
 refine Aa (wpAny_setEpoch_of (s:=s') (hs.trans (k1 _ _ ho2)) rfl hf2 ?_)
 exact Eu (λz=>absurd z (by simp)) λ_=>Ab h
end
section
variable {prog:Program}{w:World}{A:Around}{E:Value->Zaa}{s:Shared}
def list_dict {S:Addr}{ob:Obj}{es:Array DictEntry}{ep:Nat}{Q:Value->Zaa}(hh:A.handled=none)(hz:es.size<=sizeLine)(g1:s.heap.get? S=some ob)(gc:ob.cls=.type "dict")(ns:(S==sysModules)=false)(gd:ob.data=.dict es ep)
  (q:∀h' tk c,h'.get? s.heap.objs.size=some {cls:=.type "list",data:=.seq (es.toList.map (·.key)).toArray c}->(∀b o,s.heap.get? b=some o->h'.get? b=some o)->Q (.ref s.heap.objs.size) {s with heap:=h',toks:=tk}) :
  wpAny (model prog w) A (call (.type "list") [.ref S]) Q E s:=by
 have lS:S<s.heap.objs.size:=Ao g1
 have nS:s.heap.objs.size≠S:=BP lS
 refine callType_codes (Q₁:=λobj s₁=>obj=.ref s.heap.objs.size/\s₁={s with heap:=s.heap.push {cls:=.type "list",data:=.seq #[]}}) F.called_list (F.typeCall_list_1 _) F.entry_list_init (code_list_new _ ⟨rfl,rfl⟩) λobj s₁ h₁=>?_
 obtain⟨rfl,rfl⟩:=h₁
 have hS:(s.heap.push {cls:=.type "list",data:=.seq #[]}).get? s.heap.objs.size=some {cls:=.type "list",data:=.seq #[]}:=Ak _ rfl
 have kp:∀c o,s.heap.get? c=some o->(s.heap.push {cls:=.type "list",data:=.seq #[]}).get? c=some o:=λc o e=>Ad _ e
 have sz1:(s.heap.push {cls:=.type "list",data:=.seq #[]}).objs.size=s.heap.objs.size+1:=Ba ..
 refine⟨⟨_,hS,rfl⟩,F.args_list_init_2 _ _,?_⟩
 generalize s.heap.push {cls:=.type "list",data:=.seq #[]}=h1 at hS kp sz1 ⊢
 refine(?_:wpAny _ A.in1.in1 (do let old<-Builtin.List.listItems (.ref s.heap.objs.size);Builtin.List.listUpdate (.ref s.heap.objs.size) (λ_=>#[]);letGo old.toList.reverse;Builtin.List.listExtendWith (.ref s.heap.objs.size) (.ref S) .none) _ _ _)
 refine Aa ?_
 unfold Builtin.List.listItems
 refine Aa (A6 hS rfl (Ab ?_))
 refine(?_:wpAny _ A.in1.in1 (updateSeq s.heap.objs.size (λ_=>#[])>>=λ_=>letGo (#[]:Array Value).toList.reverse>>=λ_=>Builtin.List.listExtendWith (.ref s.heap.objs.size) (.ref S) .none) _ _ _)
 refine Aa (BZ hS rfl ?_)
 have hS2:=AF (Obj.mapSeq (λ_=>(#[]:Array Value))) hS rfl
 have oth2:∀c o,c≠s.heap.objs.size->h1.get? c=some o->(h1.update s.heap.objs.size (Obj.mapSeq (λ_=>(#[]:Array Value)))).get? c=some o:=λc o hb e=>(Bf _ _ hb.symm).trans e
 have sz2:(h1.update s.heap.objs.size (Obj.mapSeq (λ_=>(#[]:Array Value)))).objs.size=s.heap.objs.size+1:=by rw[<- sz1];exact(Au (a:=s.heap.objs.size) ..).1
 refine Aa (wpAny_letGo ?_)
 dsimp only
 generalize h1.update s.heap.objs.size (Obj.mapSeq (λ_=>(#[]:Array Value)))=h2 at hS2 oth2 sz2 ⊢
 have k2:∀c o,s.heap.get? c=some o->h2.get? c=some o:=λc o e=>oth2 c o (Ax (Ao e)) (kp c o e)
 have gS:=k2 _ _ g1
 have ty:Shared.TypeIs {s with heap:=h2} (.ref S) "dict":=⟨ob,gS,gc⟩
 (unfold Builtin.List.listExtendWith)
 refine Aa (BJ ty ?_)
 have e1:Builtin.List.listSameRef (.ref s.heap.objs.size) (.ref S)=false:=by simp[Builtin.List.listSameRef,nS]
 simp only[e1,show(Value.type "dict"==Value.type "list")=false by decide,show(Value.type "dict"==Value.type "tuple")=false by decide,Bool.or_false,Ay,Bd]
 refine Aa (HR (s:={s with heap:=h2}) ns gS gc gd λh3 e3 k3 st=>?_)
 have ty3:Shared.TypeIs {s with heap:=h3} (.ref S) "dict":=⟨ob,k3 _ _ gS,gc⟩
 have nLI:s.heap.objs.size≠h2.objs.size:=by rw[sz2];exact Ax (Bi _)
 have ndI:S≠h2.objs.size:=Ax (Ao gS)
 refine Aa (AL ?_)
 (unfold Builtin.List.listLengthHint)
 refine Aa (Cq ty3 F.slot_dict_len.lookup ?_)
 refine(?_:wpAny _ A.in1.in1 (isInstance (Value.ref S) (.type "dict")>>=_) _ _ _)
 refine Aa (BN (b:=true) ty3 (by rw[B2];kernel_rfl) ?_)
 refine(?_:wpAny _ A.in1.in1 (typeOf (Value.ref S)>>=_) _ _ _)
 refine Aa (BJ ty3 (Ab ?_))
 have gL2:=k3 _ _ hS2
 refine(?_:wpAny _ A.in1.in1 (rule "list.extend.makes-room">>=λ_=>Builtin.List.listTouch (.ref s.heap.objs.size)>>=λ_=>again (.builtin "list.extend.loop" ⟨[.ref s.heap.objs.size,.ref h2.objs.size,.none],[]⟩)) _ _ _)
 refine Aa (Bn (Aa ?_))
 refine(?_:wpAny _ A.in1.in1 (updateSeq s.heap.objs.size (·.push .none)>>=λ_=>updateSeq s.heap.objs.size (·.pop)) _ _ _)
 refine Aa (BZ gL2 rfl ?_)
 have gL3:=AF (Obj.mapSeq (·.push Value.none)) gL2 rfl
 refine BZ gL3 rfl ?_ (by decide)
 have gL4:=AF (Obj.mapSeq (·.pop)) gL3 rfl
 have nL:s.heap.objs.size∉[h2.objs.size,S]:=by
  simp only[Ap,AR,BM,not_or]
  exact⟨nLI,nS⟩
 have oth:∀b o,b≠s.heap.objs.size->h3.get? b=some o->((h3.update s.heap.objs.size (Obj.mapSeq (·.push Value.none))).update s.heap.objs.size (Obj.mapSeq (·.pop))).get? b=some o:=
  λb o hb e=>(Bf _ _ hb.symm).trans ((Bf _ _ hb.symm).trans e)
 have W:=(Ho (prog:=prog) (A:=A.in1.in1) (w:=w) (es:=es) (ep:=ep) hh ndI).toS
 refine Ab ⟨B1 F.plain_extend_loop _,codeAny_extend_loopS (A:=A.in1) W hz _ nL _ es.size 0 _ _ _ rfl (AX _) ?_ gL4 (ItemsOf.nil _) λs' acc' c' hm hS' hacc=>?_⟩
 ·exact(Ho (prog:=prog) (A:=A.in1.in1) (w:=w) (es:=es) (ep:=ep) hh ndI).frame 0 _ _ st λb hb o e=>oth b o (λz=>nL (z▸hb)) e
 obtain⟨zh,zg,zd,zt,zo⟩:=s'
 have e4:zg=s.gens:=hm.gens
 have e5:zd=s.drawn:=hm.drawn
 have e6:zo=s.os:=hm.os
 subst e4 e5 e6
 have ac:acc'=(es.toList.map (·.key)).toArray:=by
  apply Array.toList_inj.mp
  refine A8 λi=>?_
  rw[Am,Aq,Aq]
  by_cases hi:i<es.size
  ·have hi':i<acc'.size:=by rw[hacc.1];exact hi
   obtain⟨e,x1,x2⟩:=hacc.2 i _ (An hi')
   rw[An hi',x1,<- x2]
   rfl
  ·rw[Bg (by rw[hacc.1];ext),Bg (by ext)]
   rfl
 rw[ac] at hS'
 refine⟨rfl,q zh zt c' hS' λb o e=>?_⟩
 have bl:=Ao e
 refine hm.heap b o ?_ (oth b o (Ax bl) (k3 _ _ (k2 _ _ e)))
 simp only[Ap,AR,BM,not_or]
 exact⟨Ax bl,Ax (show b<h2.objs.size by rw[sz2];exact Bs bl)⟩
end
section
variable {X:Cx}{K:Zc}{th:List Addr}{mu:Sto}{H:Hp}{pj:Zab}{st:L2.St}{s:Shared}
def lstK:Fn:=λds mu=>match FK ds with
 |some d=>match DF mu d with
  |some p=>some (.lst p.1,mu)
  |none=>none
 |none=>none
theorem Ld (hc:X.calm=true):CallV X (.type "list") lstK:=by
 intro pj s st H xs us Q I r h
 obtain⟨th,mu,ds,so,rd,t⟩:=h
 unfold lstK at t
 cases e:FK ds with
 |none=>rw[e] at t;exact t.no.elim
 |some d =>
  rw[e] at t
  dsimp only at t
  cases e2:DF mu d with
  |none=>rw[e2] at t;exact t.no.elim
  |some p =>
   rw[e2] at t
   have ed:=FU e
   subst ed
   obtain⟨x,rfl,rx⟩:=Eg rd
   obtain⟨a,rfl,dc⟩:=Eb so e2 rx
   obtain⟨u,rfl,ru⟩:=vals1 r
   cases ru
   obtain⟨o,es,ep,ns,g1,g2,g3,sz,⟨vs,k1,k2⟩,_⟩:=L4 I dc
   have hp:H s.heap.objs.size=none:=I.hok.fresh (Ai _)
   refine list_dict (I.ok.hd hc) sz g1 g2.1 ns g3 λh' tk c hL hk=>?_
   have vl:vs.length<=sizeLine:=by
    rw[k2.length,Af,Array.length_toList]
    exact sz
   refine⟨.ref s.heap.objs.size,_,I.laid (h':=h') (t':=tk) (o:=.lst vs) hk (Ai _) ⟨vl,_,c,k2,hL⟩,rfl,?_⟩
   exact t.retX (.new hp _) (so.new hp _) _ (Rep.newLst so hp k1 (by rw[<- k1.len];exact vl))
def Mo:Fn:=λds mu=>match FK ds with
 |some d=>match DF mu d with
  |some p=>if p.1.all okE=true/\p.1.length<64 then some (.set p.1,mu) else none
  |none=>none
 |none=>none
theorem KZ (hu:X.A.units+64<cLine):CallV X (.type "set") Mo:=by
 intro pj s st H xs us Q I r h
 obtain⟨th,mu,ds,so,rd,t⟩:=h
 unfold Mo at t
 cases e:FK ds with
 |none=>rw[e] at t;exact t.no.elim
 |some d =>
  rw[e] at t
  dsimp only at t
  cases e2:DF mu d with
  |none=>rw[e2] at t;exact t.no.elim
  |some p =>
   rw[e2] at t
   dsimp only at t
   by_cases c:p.1.all okE=true/\p.1.length<64
   ·rw[if_pos c] at t
    have ed:=FU e
    subst ed
    obtain⟨x,rfl,rx⟩:=Eg rd
    obtain⟨a,rfl,dc⟩:=Eb so e2 rx
    obtain⟨u,rfl,ru⟩:=vals1 r
    cases ru
    obtain⟨xs0,h1',h2,h3,h4,h5⟩:=id dc
    obtain⟨xs1,o,es,ep,h1,g⟩:=Hs I dc
    obtain⟨⟨z',o',es',ep',g1,g2,g3,g4,ge⟩,_⟩:=(show ObjOk X.prog X.w H s.heap a (Et a xs0) from I.hok a _ h1')
    have e1:=g.at'
    rw[g1] at e1
    cases e1
    have e2':=g.dt
    rw[g3] at e2'
    cases e2'
    have el:es.size=p.1.length:=by rw[<- Array.length_toList,<- Dc g.en]
    have fp:(p.1.foldl Dx []).Perm p.1:=F6 (E1 p.1 [] B5) h5.nd λx=>by rw[Fe];simp
    refine Uu (Pv:=PrS X th H) (by ext) g1 g2.1 g3 z' (by ext) (Ii (by rw[Array.length_toList,el]) λj e k ee ek=>?_) λh' tk d' hS hk=>JS I so t (hS.perm fp) hk c.2 h5.nd
    obtain⟨k',k1,k2,k3⟩:=(Dq g.en j).2 e ee
    rw[ek] at k1
    cases k1
    obtain⟨y,y1,y2,y3,y4⟩:=(Dq g4 j).2 e ee
    obtain⟨v,v1,v2⟩:=h3.get ek
    rw[Am,y1] at v1
    have v1':y.2.1=v:=by simpa using v1
    have ok:=AB.mp c.1 k (Ag ek)
    unfold okE at ok
    rw[Ac] at ok
    obtain⟨b,b1,b2⟩:=LV ok.1 v2 (by rw[<- v1'];exact y3)
    exact⟨k2,k3,⟨b,b2⟩,ok.1,b,b2,by rw[<- b1];exact v2⟩
   ·rw[if_neg c] at t;exact t.no.elim
def orS (d e:D)(mu:Sto):Rs D:=match d,e with
 |.set ds,.set es=>if ds.all okE=true/\es.all okE=true/\ds.length+es.length<64 then some (.set (es.foldl Dx ds),mu) else none
 |_,_=>none
theorem OL (I:L2.Inv X pj st H s){ds:List D}{v:V}(rv:Rep X.z th H (.set ds) v)(ok:ds.all okE=true):∃a,v=.ref a/\HasD X.w s.heap (PrS X th H) a ds (!CW X.w) s.heap/\ds.Nodup:=by
 unfold Rep at rv
 obtain⟨a,us,vs,rfl,_,h1,h2,h3,h4⟩:=rv
 refine⟨a,rfl,?_,h4⟩
 obtain⟨⟨o,es,ep,t,ho,hex,hd,sb,hf,hv,hw,dj,hh⟩,_⟩:=(show ObjOk X.prog X.w H s.heap a (Pc X.w a us) from I.hok a _ h1)
 have okm:∀k∈ds,hd1 k=true/\DN k=true:=λk hk=>by
  have:=AB.mp ok k hk
  unfold okE at this
  exact Bool.and_eq_true_iff.mp this
 have h2':us.Perm ((ds.zip vs).map λp=>(CS X.w p.1,p.2)):=by rw[<- J8];exact h2
 have atp:∀p∈us,∃k,k∈ds/\p.1=CS X.w k/\Rep X.z th H k p.2:=λp hp=>by
  obtain⟨⟨k,v⟩,kv,rfl⟩:=Ah.mp (h2'.mem_iff.mp hp)
  obtain⟨j,ej⟩:=Aw.mp kv
  obtain⟨x1,x2⟩:=AE.mp ej
  obtain⟨v',y1,y2⟩:=h3.get x1
  rw[x2] at y1
  cases y1
  exact⟨k,Ag x1,rfl,y2⟩
 rcases dj with⟨n,x,hx⟩|⟨hdm,T,fl,hled,hpl⟩
 ·obtain⟨k,k1,_,k3⟩:=atp _ hx
  have:=(okm k k1).1
  unfold hd1 at this
  split at this
  ·unfold Rep at k3
   obtain⟨_,_,e,_⟩:=k3
   cases e
  ·cases this
 obtain⟨ps,p1,p2⟩:∃ps:List (D×V),ps.Perm (ds.zip vs)/\us=ps.map λp=>(CS X.w p.1,p.2):=by
  have gen:∀{as bs:List (Int×V)},as.Perm bs->∀qs:List (D×V),bs=qs.map (λp=>(CS X.w p.1,p.2))->∃ps:List (D×V),ps.Perm qs/\as=ps.map λp=>(CS X.w p.1,p.2):=λ{as bs} p=>by
   induction p with
   |nil=>exactλqs e=>⟨qs,BX _,e⟩
   |cons x _ ih =>
    intro qs e
    cases qs with
    |nil=>cases e
    |cons q qs =>
     rw[A3] at e
     injection e with e1 e2
     obtain⟨ps,a1,a2⟩:=ih qs e2
     exact⟨q::ps,a1.cons _,by rw[A3,e1,a2]⟩
   |swap x y l =>
    intro qs e
    match qs with
    |[]=>cases e
    |[q]=>cases e
    |q::r::qs =>
     rw[A3,A3] at e
     injection e with e1 e2
     injection e2 with e3 e4
     exact⟨r::q::qs,List.Perm.swap ..,by rw[A3,A3,e1,e3,e4]⟩
   |trans _ _ ih1 ih2 =>
    intro qs e
    obtain⟨ps,a1,a2⟩:=ih2 qs e
    obtain⟨rs,b1,b2⟩:=ih1 ps a2
    exact⟨rs,b1.trans a1,b2⟩
  exact gen h2' _ rfl
 have ml:(ds.zip vs).map (·.1)=ds:=List.map_fst_zip (by rw[h3.len];exact Ai _)
 refine⟨o,es,ep,t,ho,hex,hd,hdm,T,fl,hled,hpl,ps.map (·.1),by have:=p1.map (·.1);rw[ml] at this;exact this,?_⟩
 have ul:us.length=es.toList.length:=by have:=congrArg List.length hh;simpa using this
 refine Ii (by rw[Af,<- ul,p2,Af]) λj e k ee ek=>?_
 rw[Am] at ek
 cases ep':ps[j]? with
 |none=>rw[ep'] at ek;cases ek
 |some pq =>
  rw[ep'] at ek
  have ek':pq.1=k:=by simpa using ek
  have uj:us[j]?=some (CS X.w pq.1,pq.2):=by rw[p2,Am,ep'];rfl
  have hj:(us.map (·.1))[j]?=(es.toList.map (·.1))[j]?:=by rw[hh]
  rw[Am,Am,uj,ee] at hj
  have e1:CS X.w pq.1=e.1:=by simpa using hj
  obtain⟨u,u1,u2⟩:=hv.get (show(us.map (·.2))[j]?=some pq.2 by rw[Am,uj];rfl)
  rw[Am,ee] at u1
  have u1':e.2=u:=by simpa using u1
  subst u1'
  have mem:pq∈ds.zip vs:=p1.mem_iff.mp (Ag ep')
  obtain⟨i,ei⟩:=Aw.mp mem
  obtain⟨x1,x2⟩:=AE.mp ei
  obtain⟨v',y1,y2⟩:=h3.get x1
  rw[x2] at y1
  cases y1
  obtain⟨o1,o2⟩:=okm pq.1 (Ag x1)
  obtain⟨b,b1,b2⟩:=LV o1 y2 u2
  subst ek'
  exact⟨⟨e1.symm,G4 I o2 y2 u2,b,b2⟩,b,b2,by rw[<- b1];exact y2⟩
def VT (hu:X.A.units+64<cLine):OpV X (binaryOp .BitOr) orS:=by
 intro pj s st H x y v u Q I rx ry h
 obtain⟨th,mu,d,e,so,r1,r2,t⟩:=h
 unfold orS at t
 split at t
 ·rename_i ds es
  by_cases c:ds.all okE=true/\es.all okE=true/\ds.length+es.length<64
  ·rw[if_pos c] at t
   obtain⟨c1,c2,c3⟩:=c
   obtain⟨a,rfl,g1,n1⟩:=OL I r1 c1
   obtain⟨b,rfl,g2,n2⟩:=OL I r2 c2
   cases rx
   cases ry
   have hd1m:∀{l:List D},l.all okE=true->∀k∈l,hd1 k=true:=λ{l} hl k hk=>by
    have:=AB.mp hl k hk
    unfold okE at this
    exact(Bool.and_eq_true_iff.mp this).1
   have ty:∀{S:Addr}{l:List D},HasD X.w s.heap (PrS X th H) S l (!CW X.w) s.heap->s.TypeIs (.ref S) "set":=λ{S l} g=>by
    obtain⟨o,_,_,_,ho,hex,_⟩:=g
    exact⟨o,ho,hex.1⟩
   have ll:=Gq es ds
   refine wpAny_binaryOp_same (ty g1) (ty g2) F.fills_set_or F.slot_set_or (Aas (by ext) (λab=>?_) g1 g2 n1 n2 c3 (hd1m c1) (hd1m c2) (λ_ _ e=>e) λh' tk d' hk hS=>⟨by simp,JS I so t hS hk (by ext) (E1 es ds n1)⟩)
   subst ab
   obtain⟨o,tes,ep,tb,ho,_,hd,_,_,_,_,_,ks1,pm1,pr1⟩:=g1
   obtain⟨o',tes',ep',tb',ho',_,hd',_,_,_,_,_,ks2,pm2,pr2⟩:=g2
   rw[ho] at ho'
   cases ho'
   rw[hd] at hd'
   cases hd'
   have ke:ks1=ks2:=by
    refine A8 λj=>?_
    cases ej:tes.toList[j]? with
    |none =>
     have hj:=List.getElem?_eq_none_iff.mp ej
     rw[BC (by rw[<- Dc pr1];exact hj),BC (by rw[<- Dc pr2];exact hj)]
    |some e =>
     obtain⟨k1,x1,⟨_,x2,_⟩,_⟩:=(Dq pr1 j).1 e ej
     obtain⟨k2,y1,⟨_,y2,_⟩,_⟩:=(Dq pr2 j).1 e ej
     rw[x1,y1,RP x2 y2]
   exact pm1.symm.trans (ke▸pm2)
  ·rw[if_neg c] at t;exact t.no.elim
 ·exact t.no.elim
end
section
variable {X:Cx}{scope:Scope}{t1 i1 elt:Expr}{f1:List Expr}{pos:Pos}{i:Ix}{g:Gx}{tt:Tx}{el:Ex}{fin:List D->Sto->D×Sto}
def UM (hf:Lo X.z R3 (rpL X.z) fin)(own:List Str)(fv:List (Nat×Str))(L:MI X scope fv)(hi:SVI X t1 i1 i)(ow:GOw 0 own.length g)
  (hg:∀cl C s₁ H₁ fp,SVG (DA X scope (own++fv.map (·.2)) cl C s₁ H₁ fp) t1 g)
  (ht:∀cl C s₁ H₁ fp,SVF (DA X scope (own++fv.map (·.2)) cl C s₁ H₁ fp) f1 tt)
  (he:∀cl C s₁ H₁ fp,SV (DA X scope (own++fv.map (·.2)) cl C s₁ H₁ fp) elt el)
  (hs:∀x,foldedSetIterable i1 X.env x=pure x:=by intro _;rfl) :
  Qy X scope own fv (.ListComp elt [⟨t1,i1,f1,0⟩] scope pos) [⟨t1,i1,f1,0⟩] ⟨t1,i1,f1,0⟩ [] (newList []) R3 (rpL X.z) (λ_=>True) (stL el) g tt [] fin i (λD C cl=>Og elt (.ref D) (compEnvC scope cl C X.env)) where
 hc:=.l
 hgens:=rfl
 ha:=rfl
 hnew:=rfl
 L:=L
 hi:=hi
 ow:=ow
 rx:=UP
 f:=hf
 r00:=λ_ _=>⟨.nil,AX _⟩
 hok:=λ_ _ _ _ _ _ _=>True.intro
 heq:=λ_ _ _ _=>S3
 hg:=hg
 ht:=ht
 hm:=λcl C s₁ H₁ fp D dk=>PM.weak (SX dk (he cl C s₁ H₁ fp).r) λa σ H Q h=>WZ h
 hs:=hs
end
section
variable {X:Cx} {α β:Type}{scope:Scope}{e:Expr}{gens rest:List Comprehension}{g:Comprehension}{newAcc:Sem Value}{pos2:Pos}{B:LJ α}{rp:List Addr->Hp->β->α->Prop}{ok:Ro->Prop}{st:Mx β}{tg:Gx}{tt:Tx}{b0:β}{fin:β->Sto->D×Sto}{i:Ix}{step:Addr->Addr->List (Str×Addr)->Sem Unit}
def Zl (own:List Str)(fv:List (Nat×Str))(c:Qy X scope own fv e gens g rest newAcc B rp ok st tg tt b0 fin i step)(hev:eval e X.env=comprehension e scope X.env pos2 newAcc false (eval g.iter X.env)){mm:Ex}(hrd:∀{σ:L2.St}{H:Hp}{Q:VK},rdE X.z mm σ H Q->tCo (rdI X.z i) own.length fv B (rdG X.z tg) (rdT X.z tt) (rdM X.z rp ok st) σ H Q):SV X e mm:=⟨λpj s σ H Q I h=>by
 rw[hev]
 refine JD (own:=own) (fv:=fv) (B:=B) (tg:=rdG X.z tg) (tt:=rdT X.z tt) (tm:=rdM X.z rp ok st) (step:=step) (wi:=rdI X.z i) (Q:=Q) c.hc c.hgens c.ha c.hnew c.L c.hi.r c.heq (λcl C s₁ H₁ fp=>(c.hg cl C s₁ H₁ fp).r) (λcl C s₁ H₁ fp=>(c.ht cl C s₁ H₁ fp).r) c.hm c.hs (λI=>HH I) I
  (hrd h) λs6 H' D C m J6 fC nsC q=>?_
 exact⟨m,nsC,λh' sb=>⟨.ref D,H',J6.turnedL (ch:=[C]) (t':=s6.toks) (IV sb) (λb hb=>by rw[Av.mp hb];exact fC),rfl,q⟩⟩⟩
def YS (own:List Str)(fv:List (Nat×Str))(j:Nat)(c:Qy X scope own fv e gens g rest newAcc B rp ok st tg tt b0 fin i step){x:Str}{px spos:Pos}
  (hN:X.N.Nodup) (hix:X.N[j]?=some x) (hx:Loc X.env.scope x) (hf:X.fn x=true\/X.env.scope.names.lookup x=some .local)
  (hsw:swapsWith e (some (.Name x px)) spos.line X.env=pure true)
  (hev:evalThenUse e X.env (assign (.Name x px) X.env)=(do let _<-comprehension e scope X.env pos2 newAcc false (eval g.iter X.env) (some (assign (.Name x px) X.env))))
  {mm:Ex} (hrd:∀{σ:L2.St}{H:Hp}{Q:VK},rdE X.z mm σ H Q->tCo (rdI X.z i) own.length fv B (rdG X.z tg) (rdT X.z tt) (rdM X.z rp ok st) σ H Q) :
  SVS X (.Assign [.Name x px] e spos) (Dh mm (gNm j)):=⟨λpj s σ H E I h=>by
 (rw[exec_Assign_Name_used _ _ _ _ hsw])
 refine Aa (wpAny_standAt (Aa ?_))
 rw[hev]
 have h':rdE X.z mm σ H λv H'=>E.nx (σ.set j (some v)) H':=by
  obtain⟨th,mu,ro,so,en,t⟩:=h
  refine⟨th,mu,ro,so,en,t.bind.mono λd th1 mu1 H1 e1 s1 t1 v rv=>?_⟩
  exact t1.ret s1 _ ((en.ext e1 so.out).set j rv)
 refine Aa (wpAny_mono (JD (use:=some (assign (.Name x px) X.env)) (Qc:=λ_ s'=>SP X pj E .next s') (own:=own) (fv:=fv) (B:=B) (tg:=rdG X.z tg) (tt:=rdT X.z tt) (tm:=rdM X.z rp ok st) (step:=step) (wi:=rdI X.z i) c.hc c.hgens c.ha c.hnew c.L c.hi.r c.heq (λcl C s₁ H₁ fp=>(c.hg cl C s₁ H₁ fp).r) (λcl C s₁ H₁ fp=>(c.ht cl C s₁ H₁ fp).r) c.hm c.hs (λI=>HH I) I
  (hrd h') λs6 H' D C m J6 fC nsC q=>?_) (λ_ s' hq=>Ab (Ab hq)) λ_ _ e=>e)
 obtain⟨oC,es,ep,hoC,hdC,rC⟩:=id nsC
 have J7:L2.Inv X (pj++[(C,oC)]) σ H' s6:=J6.pins_of λp hp=>(AQ.mp hp).elim (λz=>J6.pin p (AJ _ z)) λz=>by
  have e:p=(C,oC):=by simpa using z
  subst e
  obtain⟨f0,f1,f2,_⟩:=fC
  exact⟨hoC,f0,f1,f2,λv z=>by rw[hdC] at z;cases z⟩
 show wpAny _ X.A (assign (.Name x px) X.env (.ref D)) _ _ _
 refine wpAny_assign_Name (Fu J7 hN hix hx (show RelV (.ref D) (.ref D) from rfl) (λs8 I8=>?_) hf)
 have eC:=(I8.pin (C,oC) (AJ _ (AJ _ (Av.mpr rfl)))).1
 refine⟨m,⟨oC,es,ep,eC,hdC,rC⟩,λh' sb=>?_⟩
 exact⟨_,H',(I8.unpinned).turnedL (ch:=[C]) (t':=s8.toks) (IV sb) (λb hb=>by rw[Av.mp hb];exact fC),q⟩⟩
end
theorem R1 {g:Option Nat}{m0:Sto}{tg:Gx}{tt:Tx}{el:Ex}{ro:Ro}:∀(ds b:List D) (mu:Sto) (ys:List D) (m:Sto),b.length+ds.length<=sizeLine->F9 g m0 tg tt el ro ds mu=some (ys,m)->cGo g m0 tg tt (stL el) ro ds b mu=some (b++ys,m)
 |[],b,mu,ys,m,_,h=>by
  unfold F9 at h
  cases h
  rw[List.append_nil]
  rfl
 |d::ds,b,mu,ys,m,hl,h=>by
  rw[List.length_cons] at hl
  unfold F9 at h
  obtain⟨ro1,m1,e1,h⟩:=Fi h
  obtain⟨c,m2,e2,h⟩:=Fi h
  unfold cGo
  rw[e1,DD,e2,DD]
  cases c with
  |true =>
   rw[if_pos rfl] at h ⊢
   obtain⟨y,m3,e3,h⟩:=Fi h
   obtain⟨g3,h⟩:=FO h
   obtain⟨zs,m4,e4,h⟩:=Fi h
   cases h
   have e5:stL el b ro1 m2=some (b++[y],m3):=by
    unfold stL
    rw[e3,DD,if_pos (by ext)]
   rw[e5,DD,Em,if_pos g3,R1 ds (b++[y]) m3 zs m (by rw[Ar,List.length_singleton];ext) e4,B4]
   rfl
  |false =>
   rw[if_neg AS] at h ⊢
   obtain⟨g3,h⟩:=FO h
   rw[Em,if_pos g3]
   exact R1 ds b m2 ys m (by ext) h
section
variable {K:Zc}{H:Hp}{tg:Gx}{tt:Tx}{el:Ex}
def UR {i:Ix}{nc:Nat}{fv:List (Nat×Str)}{σ:L2.St}{Q:VK}(ow:GOw 0 nc tg)(h:rdE K (eLC i nc (fv.map (·.1)) tg tt el) σ H Q):tCo (rdI K i) nc fv R3 (rdG K tg) (rdT K tt) (rdM K (rpL K) (λ_=>True) (stL el)) σ H Q:=by
 obtain⟨th,mu,ro,so,en,t⟩:=h
 refine⟨th,mu,ro,so,en,t.bind.mono λp th1 mu1 H1 e1 s1 t1 J io=>?_⟩
 have t1':Tr K th1 H1 (bM (cGo p.2 mu1 tg tt (stL el) (r0 nc (fv.map (·.1)) ro) p.1 [] mu1) λb m2=>some (Zo b m2)) (KV' K Q):=by
  obtain⟨a,m',e,q⟩:=id t1
  obtain⟨ys,m2,e2,e3⟩:=Fi e
  have:=R1 p.1 [] mu1 ys m2 (by simpa using io.sz) e2
  rw[List.nil_append] at this
  rw[e2,DD] at t1
  rw[this,DD]
  exact t1
 refine Rc (rp:=rpL K) ow UP (λi d e=>.inr (Kl e)) (λ_ _ _ _ _=>True.intro) io s1 (MA (en.ext e1 so.out)) ⟨.nil,AX _⟩ (t1'.bind.mono λb th2 mu2 H2 e2 s2 t2 a2 σ2 en2 r2=>?_)
 obtain⟨f1,f2⟩:=Q0 s2 r2
 refine⟨f1,λq hq=>?_⟩
 obtain⟨th3,x3,s3,r3⟩:=f2 q hq
 exact t2.retX x3 s3 _ r3
end
section
variable {X:Cx}{tg iter elt:Expr}{ifs:List Expr}{scope:Scope}{pos:Pos}{i:Ix}{g:Gx}{tt:Tx}{el:Ex}
def GOwn.w {nc:Nat}(ow:GOwn nc g):GOw 0 nc g:=λd ro mu ro' mu' e=>⟨(ow d ro mu ro' mu' e).1,λi hi=>(ow d ro mu ro' mu' e).2 i (hi.elim (λz=>absurd z (Nat.not_lt_zero _)) id)⟩
def Fx (own:List Str)(fv:List (Nat×Str))(L:MI X scope fv)(hi:SVI X tg iter i)(ow:GOwn own.length g)
  (hg:∀cl C s₁ H₁ fp,SVG (DA X scope (own++fv.map (·.2)) cl C s₁ H₁ fp) tg g)
  (ht:∀cl C s₁ H₁ fp,SVF (DA X scope (own++fv.map (·.2)) cl C s₁ H₁ fp) ifs tt)
  (he:∀cl C s₁ H₁ fp,SV (DA X scope (own++fv.map (·.2)) cl C s₁ H₁ fp) elt el)
  (hs:∀x,foldedSetIterable iter X.env x=pure x:=by intro _;rfl):SV X (.ListComp elt [⟨tg,iter,ifs,0⟩] scope pos) (eLC i own.length (fv.map (·.1)) g tt el):=
 Zl own fv (UM Q0 own fv L hi ow.w hg ht he hs) rfl (UR ow.w)
def JJ (j:Nat){x:Str}{px spos:Pos}(own:List Str)(fv:List (Nat×Str))(L:MI X scope fv)(hi:SVI X tg iter i)(ow:GOwn own.length g)
  (hg:∀cl C s₁ H₁ fp,SVG (DA X scope (own++fv.map (·.2)) cl C s₁ H₁ fp) tg g)
  (ht:∀cl C s₁ H₁ fp,SVF (DA X scope (own++fv.map (·.2)) cl C s₁ H₁ fp) ifs tt)
  (he:∀cl C s₁ H₁ fp,SV (DA X scope (own++fv.map (·.2)) cl C s₁ H₁ fp) elt el)
  (hN:X.N.Nodup) (hix:X.N[j]?=some x:=by rfl) (hx:Loc X.env.scope x:=by first|exact Or.inl rfl|exact Or.inr rfl) (hf:X.fn x=true\/X.env.scope.names.lookup x=some .local:=by first|exact .inl rfl|exact .inr rfl)
  (hsw:swapsWith (.ListComp elt [⟨tg,iter,ifs,0⟩] scope pos) (some (.Name x px)) spos.line X.env=pure true:=by rfl) (hs:∀x,foldedSetIterable iter X.env x=pure x:=by intro _;rfl) :
  SVS X (.Assign [.Name x px] (.ListComp elt [⟨tg,iter,ifs,0⟩] scope pos) spos) (Dh (eLC i own.length (fv.map (·.1)) g tt el) (gNm j)):=
 YS own fv j (UM Q0 own fv L hi ow.w hg ht he hs) hN hix hx hf hsw rfl (UR ow.w)
end
end PV
namespace PG
open PySem L2 PV PyProof.Rows
def Ga:Sx:=
  sRt (eCo (Ff (CD 1)) 1 [0] (gNm 0) (tY) (stD (eSl (CD 0) (pNo) (DK (CJ ixG (CD 1) (eC (.int 2))))) (CD 0)) ([],[]) OO)
def Dy:Fn:=fnB 2 Ga
def FR:Sx:=
  CY (Dh (CI Dy (CC (CD 0) (CC (CD 1) CH))) (gNm 3)) (CY (Gw (Ff (CD 2)) (gTp 4 (CM (gNm 4) (CM (gNm 5) (CM (gNm 6) (CM (gNm 7) DJ))))) (sIf (tV (CJ eqD (CD 4) (CJ ixG (CD 0) (eC (.int 0))))) (Dh (CD 7) (gIx (CD 3) (CD 5))) (sNx))) (sRt (CI EW (CC (CI GO (CC (eLC (iDx true (CD 3)) 1 [] (gNm 0) (tV (CJ L3 (CD 0) (eC .non))) (CD 0)) CH)) CH))))
def DI:Fn:=fnG 8 FR
def IE:Sx:=
  sRt (CI EW (CC (eLC (Rn (CC (CD 0) (CC (CD 1) CH))) 2 [2] (gTp 2 (CM (gNm 0) (CM (gNm 1) DJ))) (tY) (CI DI (CC (CD 0) (CC (CD 1) (CC (CD 2) CH))))) CH))
def DS:Fn:=fnB 3 IE
def IH:Sx:=
  CY (Dh (F5 CH) (gNm 3)) (CY (Gw (Sm (CC (CD 0) (CC (CD 1) (CC (CD 2) CH)))) (gTp 3 (CM (gNm 4) (CM (gNm 5) (CM (gNm 6) DJ)))) (CY (Dh (CI Dy (CC (CD 4) (CC (CD 5) CH))) (gNm 7)) (CY (Dh (CI Dy (CC (CD 4) (CC (CD 6) CH))) (gNm 8)) (Gw (Ff (CI GO (CC (CJ orS (CI Mo (CC (CD 7) CH)) (CI Mo (CC (CD 8) CH))) CH))) (gNm 9) (sIf (tV (CJ neD (Fw (CD 7) (CC (CD 9) CH)) (Fw (CD 8) (CC (CD 9) CH)))) (sEx (HG (CD 3) (CC (Ep (CC (CJ ixG (CD 4) (eC (.int 0))) (CC (CD 9) (CC (Fw (CD 7) (CC (CD 9) CH)) (CC (Fw (CD 8) (CC (CD 9) CH)) CH))))) CH))) (sNx)))))) (sRt (CI EW (CC (CD 3) CH))))
def D1:Fn:=fnG 10 IH
def Iw:Sx:=
  sRt (CI EW (CC (eLC (Ff (CD 0)) 4 [] (gTp 4 (CM (gNm 0) (CM (gNm 1) (CM (gNm 2) (CM (gNm 3) DJ))))) (tY) (Ep (CC (CD 0) (CC (CD 1) (CC (CD 3) (CC (CD 2) CH)))))) CH))
def EV:Fn:=fnB 1 Iw
def GK:Sx:=
  CY (Dh (eC (.int 0)) (gNm 2)) (CY (sIf (tV (CJ ltG (CD 1) (CI GL (CC (CD 0) CH)))) (Dh (CJ ixG (CD 0) (CD 1)) (gNm 2)) (sNx)) (sRt (F5 (CC (CJ F8 (CD 2) (CI J9 (CC (CJ geD (CD 2) (CJ Qx (eC (.int 10)) (eC (.int 18)))) CH))) (CC (CJ Dw (CJ Dw (CJ Gr (CD 2) (eC (.int 2305843009213693951))) (CJ F8 (eC (.int 7919)) (CD 1))) (eC (.int 3))) (CC (eC (.int 0)) CH))))))
def EM:Fn:=fnB 3 GK
def GC:Sx:=
  CY (sIf (tV (CJ gtD (CJ ixG (CD 0) (eC (.int 0))) (eC (.int 0)))) (CY (Dh (CJ Gr (CJ ixG (CD 0) (eC (.int 0))) (CD 1)) (gNm 2)) (CY (Dh (CJ Ke (CJ ixG (CD 0) (eC (.int 0))) (CD 1)) (gIx (CD 0) (eC (.int 0)))) (sRt (CD 2)))) (sNx)) (CY (Dh (CJ Dw (CJ ixG (CD 0) (eC (.int 2))) (eC (.int 1))) (gIx (CD 0) (eC (.int 2)))) (CY (Dh (CJ ixG (CD 0) (eC (.int 2))) (gNm 3)) (CY (Dh (CJ Gr (CJ F8 (CJ ixG (CD 0) (eC (.int 1))) (CJ Dw (CJ Dw (eC (.int 48271)) (CJ F8 (CJ F8 (eC (.int 2)) (CD 3)) (CD 3))) (CJ F8 (eC (.int 65537)) (CD 3)))) (eC (.int 2305843009213693921))) (gNm 4)) (CY (Dh (CJ Dw (CJ Dw (CJ Gr (CD 4) (eC (.int 1000003))) (CJ F8 (CD 3) (eC (.int 99991)))) (eC (.int 11))) (gNm 5)) (CY (Dh (CJ Gr (CJ F8 (CD 4) (CD 5)) (eC (.int 2305843009213693907))) (gNm 4)) (sRt (CJ Gr (CJ Dw (CJ Ke (CD 4) (eC (.int 97))) (CJ Ke (CD 4) (eC (.int 1000033)))) (CD 1))))))))
def CN:Fn:=fnB 6 GC
def GG:Sx:=
  sRt (CJ ixG (CD 1) (CI CN (CC (CD 0) (CC (CI GL (CC (CD 1) CH)) CH))))
def Dl:Fn:=fnB 2 GG
def Ha:Sx:=
  CY (Dh (eC (.str "abcdefghijklmnopqrstuvwxyz0123456789")) (gNm 3)) (CY (Dh (Ep (CC (CI CN (CC (CD 0) (CC (eC (.int 36)) CH))) (CC (CI Dl (CC (CD 0) (CC (Jo (CC (eC (.int 1)) (CC (eC (.int 5)) (CC (eC (.int 7)) (CC (eC (.int 11)) (CC (eC (.int 13)) (CC (eC (.int 17)) CH))))))) CH))) CH))) (gTp 2 (CM (gNm 4) (CM (gNm 5) DJ)))) (CY (Dh (CJ F8 (CJ ixG (CD 3) (CI CN (CC (CD 0) (CC (eC (.int 36)) CH)))) (CI M1 (CC (CJ VM (CD 2) (eC (.int 1))) (CC (CI Dl (CC (CD 0) (CC (Jo (CC (eC (.int 0)) (CC (eC (.int 1)) (CC (eC (.int 0)) (CC (eC (.int 2)) (CC (eC (.int 7)) CH)))))) CH))) CH)))) (gNm 6)) (CY (Dh (CI CN (CC (CD 0) (CC (CJ Dw (CI GL (CC (CD 6) CH)) (eC (.int 1))) CH))) (gNm 7)) (sRt (eLC (iRg (CC (CD 1) CH)) 1 [6,7,3,4,5] (gNm 0) (tY) (CJ Dw (CJ Dw (eSl (CD 1) (pNo) (DK (CD 2))) (CJ ixG (CD 3) (CJ Gr (CJ Dw (CD 4) (CJ F8 (CD 5) (CD 0))) (eC (.int 36))))) (eSl (CD 1) (DK (CD 2)) (pNo))))))))
def Ez:Fn:=fnB 8 Ha
def GA:Sx:=
  CY (Dh (CI GO (CC (CI Ez (CC (CD 0) (CC (CJ Dw (eC (.int 1)) (CI CN (CC (CD 0) (CC (CD 1) CH)))) (CC (eC (.int 8)) CH)))) CH)) (gNm 4)) (CY (Dh (Ep (CC (CI Ez (CC (CD 0) (CC (CJ Dw (CD 2) (eC (.int 2))) (CC (eC (.int 8)) CH)))) (CC (CI Ez (CC (CD 0) (CC (CJ Dw (CD 3) (eC (.int 1))) (CC (eC (.int 8)) CH)))) CH))) (gTp 2 (CM (gNm 5) (CM (gNm 6) DJ)))) (CY (Dh (F5 CH) (gNm 7)) (CY (Gw (Ff (CD 4)) (gNm 8) (CY (Oj 9 10 11 (CC (CJ Dw (eC (.int 1)) (CI CN (CC (CD 0) (CC (CD 2) CH)))) (CC (CI CN (CC (CD 0) (CC (eC (.int 3)) CH))) (CC (F5 CH) CH)))) (CY (Gw (iRg (CC (CD 9) CH)) (gNm 12) (CY (Dh (Ep (CC (CJ Dw (eC (.int 1)) (CI CN (CC (CD 0) (CC (CD 3) CH)))) (CC (CI CN (CC (CD 0) (CC (eC (.int 2)) CH))) CH))) (gTp 2 (CM (gNm 13) (CM (gNm 14) DJ)))) (CY (Dh (CI EW (CC (eLC (iRg (CC (CD 13) CH)) 1 [6,14] (gNm 0) (tY) (CJ ixG (CD 1) (CJ Gr (CJ Dw (CD 0) (CD 2)) (CI GL (CC (CD 1) CH))))) CH)) (gNm 15)) (sEx (HG (CD 11) (CC (Ep (CC (CJ ixG (CD 5) (CJ Gr (CJ Dw (CD 12) (CD 10)) (CI GL (CC (CD 5) CH)))) (CC (CD 15) CH))) CH)))))) (sEx (HG (CD 7) (CC (Ep (CC (CD 8) (CC (CI EW (CC (CD 11) CH)) (CC (CJ Dw (eC (.int 1)) (CI CN (CC (CD 0) (CC (CD 9) CH)))) CH)))) CH)))))) (sRt (CI EW (CC (CD 7) CH))))))
def Ei:Fn:=fnG 16 GA
def Gd:Sx:=
  CY (Dh (F5 CH) (gNm 3)) (CY (Gw (Ff (CD 1)) (gTp 3 (CM (gNm 4) (CM (gNm 5) (CM (gNm 6) DJ)))) (CY (Dh Mm (gNm 7)) (CY (Gw (iRg (CC (CI CN (CC (CD 0) (CC (CJ Dw (CD 2) (eC (.int 1))) CH))) CH)) (gNm 8) (CY (Dh (CI EW (CC (eLC (Ff (CD 5)) 2 [0] (gTp 2 (CM (gNm 0) (CM (gNm 1) DJ))) (tY) (CI Dl (CC (CD 2) (CC (CD 1) CH)))) CH)) (gNm 9)) (Dh (CD 9) (gIx (CD 7) (eSl (CD 9) (pNo) (DK (CD 6))))))) (sEx (HG (CD 3) (CC (CI EW (CC (KW (CD 7)) CH)) CH)))))) (sRt (CI EW (CC (CD 3) CH))))
def DR:Fn:=fnG 10 Gd
def GF:Sx:=
  CY (Dh Mm (gNm 4)) (CY (Gw (iRg (CC (CI CN (CC (CD 0) (CC (CJ Dw (CD 3) (eC (.int 1))) CH))) CH)) (gNm 5) (CY (Dh (CI CN (CC (CD 0) (CC (CI GL (CC (CD 1) CH)) CH))) (gNm 6)) (CY (Dh (CJ ixG (CD 1) (CD 6)) (gTp 3 (CM (gNm 7) (CM (gNm 8) (CM (gNm 9) DJ))))) (CY (Dh (CI EW (CC (eLC (Ff (CD 8)) 2 [0] (gTp 2 (CM (gNm 0) (CM (gNm 1) DJ))) (tY) (CI Dl (CC (CD 2) (CC (CD 1) CH)))) CH)) (gNm 10)) (CY (sIf (tAn (tV (CJ neD (CJ ixG (CD 2) (CD 6)) (Ep CH))) (tV (CJ eqD (CI CN (CC (CD 0) (CC (eC (.int 2)) CH))) (eC (.int 0))))) (Dh (CJ Dw (eSl (CI Dl (CC (CD 0) (CC (CJ ixG (CD 2) (CD 6)) CH))) (pNo) (DK (CD 9))) (eSl (CD 10) (DK (CD 9)) (pNo))) (gNm 10)) (sNx)) (CY (Dh (CJ ixG (CJ Dw (eLC (Ff (CJ ixG (CD 2) (CD 6))) 1 [9,10] (gNm 0) (tV (CJ eqD (eSl (CD 0) (pNo) (DK (CD 1))) (eSl (CD 2) (pNo) (DK (CD 1))))) (CD 0)) (Jo (CC (eC .non) CH))) (eC (.int 0))) (gNm 11)) (CY (Dh (CJ ixG (Jo (CC (CD 10) (CC (CD 10) (CC (eC .non) CH)))) (CI CN (CC (CD 0) (CC (eC (.int 3)) CH)))) (gNm 12)) (sIf (tV (CJ neD (CD 12) (CD 11))) (Dh (Ep (CC (CD 7) (CC (eSl (CD 10) (pNo) (DK (CD 9))) (CC (CD 11) (CC (CD 12) CH))))) (gIx (CD 4) (Ep (CC (CD 7) (CC (eSl (CD 10) (pNo) (DK (CD 9))) CH))))) (sNx))))))))) (sRt (CI EW (CC (eLC (Ff (CI GO (CC (CD 4) CH))) 1 [4] (gNm 0) (tY) (CJ ixG (CD 1) (CD 0))) CH))))
def EF:Fn:=fnG 13 GF
def HF:Sx:=
  CY (Dh (F5 CH) (gNm 3)) (CY (Gw (Rn (CC (CD 0) (CC (CD 1) CH))) (gTp 2 (CM (gTp 3 (CM (gNm 4) (CM (gNm 5) (CM (gNm 6) DJ)))) (CM (gNm 7) DJ))) (CY (Dh (CI dctP (CC (eLC (Ff (CD 2)) 1 [4] (gNm 0) (tV (CJ eqD (CJ ixG (CD 0) (eC (.int 0))) (CD 1))) (Ep (CC (CJ ixG (CD 0) (eC (.int 1))) (CC (CJ ixG (CD 0) (eC (.int 3))) CH)))) CH)) (gNm 8)) (CY (Dh (eLC (Ff (CD 7)) 1 [6,8] (gNm 0) (tV (CJ (inC true) (eSl (CD 0) (pNo) (DK (CD 1))) (CD 2))) (CD 0)) (gNm 9)) (CY (Dh (eLC (iDx false (CD 8)) 1 [8] (gNm 0) (tV (CJ L3 (CJ ixG (CD 1) (CD 0)) (eC .non))) (CJ ixG (CD 1) (CD 0))) (gNm 10)) (sEx (HG (CD 3) (CC (CI EW (CC (CI GO (CC (CJ Dw (CD 9) (CD 10)) CH)) CH)) CH))))))) (sRt (CI EW (CC (CD 3) CH))))
def Fd:Fn:=fnG 11 HF
def Gb:Sx:=
  CY (Dh (F5 CH) (gNm 3)) (CY (Gw (Sm (CC (CD 0) (CC (CD 1) (CC (CD 2) CH)))) (gTp 3 (CM (gTp 3 (CM (gNm 4) (CM (gNm 5) (CM (gNm 6) DJ)))) (CM (gNm 7) (CM (gNm 8) DJ)))) (CY (Dh (CI dctP (CC (eLC (Ff (CD 7)) 1 [6] (gNm 0) (tY) (Ep (CC (eSl (CD 0) (pNo) (DK (CD 1))) (CC (CD 0) CH)))) CH)) (gNm 9)) (CY (Dh (CI dctP (CC (eLC (Ff (CD 8)) 1 [6] (gNm 0) (tY) (Ep (CC (eSl (CD 0) (pNo) (DK (CD 1))) (CC (CD 0) CH)))) CH)) (gNm 10)) (Gw (Ff (CI GO (CC (CI ND (CC (CJ Dw (CI lstK (CC (CD 9) CH)) (CI lstK (CC (CD 10) CH))) CH)) CH))) (gNm 11) (CY (PQ 12 13 (CC (Fw (CD 9) (CC (CD 11) CH)) (CC (Fw (CD 10) (CC (CD 11) CH)) CH))) (sIf (tV (CJ neD (CD 12) (CD 13))) (sEx (HG (CD 3) (CC (Ep (CC (CD 4) (CC (CD 11) (CC (CD 12) (CC (CD 13) CH))))) CH))) (sNx))))))) (sRt (CI EW (CC (CD 3) CH))))
def DQ:Fn:=fnG 14 Gb
def Sf:Sx:=
  CY (Gw (iRg (CC (CI QE (CC (eC (.int 2)) (CC (CI M1 (CC (eC (.int 6)) (CC (CI GL (CC (CD 0) CH)) CH))) CH))) CH)) (gNm 1) (CY (Dh (CI EM (CC (CD 0) (CC (CD 1) CH))) (gNm 2)) (CY (Dh (CI Ei (CC (CD 2) (CC (eC (.int 4)) (CC (eC (.int 4)) (CC (eC (.int 4)) CH))))) (gNm 3)) (CY (Dh (CJ ixG (Jo (CC (eC (.int 6)) (CC (eC (.int 16)) CH))) (CI J9 (CC (CJ eqD (CI CN (CC (CD 2) (CC (eC (.int 8)) CH))) (eC (.int 0))) CH))) (gNm 4)) (CY (PQ 5 6 (CC (CI DR (CC (CD 2) (CC (CD 3) (CC (CD 4) CH)))) (CC (CI DR (CC (CD 2) (CC (CD 3) (CC (CD 4) CH)))) CH))) (CY (Gw (iRg (CC (eC (.int 4)) CH)) (gNm 7) (CY (Dh (CI EF (CC (CD 2) (CC (CD 3) (CC (CD 5) (CC (eC (.int 8)) CH))))) (gNm 8)) (CY (Dh (CI Fd (CC (CD 3) (CC (CD 5) (CC (CD 8) CH)))) (gNm 9)) (CY (sIf (tV (CJ neD (CI Ec (CC (CI DS (CC (CD 3) (CC (CD 5) (CC (CD 8) CH)))) CH)) (CI Ec (CC (CD 9) CH)))) (sRt (eC (.bl false))) (sNx)) (CY (sIf (tV (CJ neD (CI Ec (CC (CI D1 (CC (CD 3) (CC (CD 5) (CC (CD 9) CH)))) CH)) (CI Ec (CC (CD 8) CH)))) (sRt (eC (.bl false))) (sNx)) (CY (sIf (tV (CJ neD (CI Ec (CC (CI DS (CC (CD 3) (CC (CD 9) (CC (CI EV (CC (CD 8) CH)) CH)))) CH)) (CI Ec (CC (CD 5) CH)))) (sRt (eC (.bl false))) (sNx)) (sIf (tV (CJ neD (CI Ec (CC (CI EV (CC (CD 8) CH)) CH)) (CI Ec (CC (CI DQ (CC (CD 3) (CC (CD 9) (CC (CD 5) CH)))) CH)))) (sRt (eC (.bl false))) (sNx)))))))) (CY (sIf (tV (CJ neD (CI Ec (CC (CI D1 (CC (CD 3) (CC (CD 5) (CC (CD 6) CH)))) CH)) (CI Ec (CC (CI DQ (CC (CD 3) (CC (CD 5) (CC (CD 6) CH)))) CH)))) (sRt (eC (.bl false))) (sNx)) (CY (sIf (tV (CJ neD (CI DS (CC (CD 3) (CC (CD 5) (CC (CI D1 (CC (CD 3) (CC (CD 5) (CC (CD 6) CH)))) CH)))) (CD 6))) (sRt (eC (.bl false))) (sNx)) (sIf (tV (CJ neD (CI D1 (CC (CD 3) (CC (CD 6) (CC (CD 6) CH)))) (Ep CH))) (sRt (eC (.bl false))) (sNx)))))))))) (sRt (eC (.bl true)))
def Lm:Fn:=fnB 10 Sf
def top (i:Nat):Stmt:=PySem.Challenge.pw_lookback_k10_changes_done.main.body.getD i (.Pass ⟨0,0,0,0⟩)
abbrev EI:Stmt:=top 3
abbrev EA:Stmt:=top 2
abbrev Gm:Stmt:=top 1
abbrev Hl:Stmt:=top 4
abbrev Ge:Stmt:=top 5
abbrev GD:Stmt:=top 7
abbrev GI:Stmt:=top 8
abbrev GP:Stmt:=top 9
abbrev Fq:Stmt:=top 10
abbrev E3:Stmt:=top 11
abbrev EJ:Stmt:=top 12
abbrev Eh:Stmt:=top 13
abbrev EO:Stmt:=top 14
abbrev En:Stmt:=top 15
abbrev KD:Stmt:=top 16
structure Tx (K:W.Frag) (mg:Str->Option Value):Prop where
 b_dict:mg "dict"=none
 b_int:mg "int"=none
 b_len:mg "len"=none
 b_list:mg "list"=none
 b_max:mg "max"=none
 b_min:mg "min"=none
 b_range:mg "range"=none
 b_repr:mg "repr"=none
 b_set:mg "set"=none
 b_sorted:mg "sorted"=none
 b_tuple:mg "tuple"=none
 b_zip:mg "zip"=none
def BO (P:Program)(w:World)(K:W.Frag)(mg:Str->Option Value)(base:Heap)(r:Nat)(x:Str)(st:Stmt)(f:Addr)(N:List Str)(m:Sx):Prop:=∀(cdv:Value) (A:Around) (outer:List Env) (s:Shared) (H:Hp) (E:XK),Room r (A.deeper (envOfC x (CO st) s.heap.objs.size f cdv))->SVB (KJ CX0 P w K mg base N x (CO st) f cdv A outer s H E).nox (EK st) m
section
variable {P:Program}{w:World}{K:W.Frag}{mg:Str->Option Value}{base:Heap}
def J2:DG ["table","rows"] ["table","rows"] (CO EI):=by rfl'
def Kk {f:Addr}{fd:FuncData}(F:Fun K "rows_by_key" "rows_by_key" EI f fd)(T:Tx K mg) :E7 P w K mg base CX0 1 f fd ["table","rows"] (spF ⟨K,P,w⟩ Dy 2):=by
 have b:BO P w K mg base 0 "rows_by_key" EI f ["table","rows"] Ga:=λcdv A outer s H E hr=>by
  exact CU (Dz (Aaw ["row"] [(0,"table")] (Yr hr.units Xf ["row"] [(0,"table")] (by exact HE (CO EI) rfl rfl ⟨rfl,by symm,by symm,by symm⟩ ⟨⟨rfl,.inl rfl,.inl rfl⟩,True.intro⟩) (Ek (CF 1)) So (λ_ _ _ _ _=>CL 0 (show(["row","table"]:List Str).Nodup by symm)) (λ_ _ _ _ _=>Fj) (λ_ _ _ _ _=>Ea (CF 0) Ee (Ef (D9 (E6 hr.units) (CF 1) CP))) (λ_ _ _ _ _=>CF 0)) rfl))
 have c:=Hg 2 2 F J2 rfl rfl b
 exact c
def D2:DG ["table","rows","change","by_key","name","key","before","after"] ["table","rows","change"] (CO EA):=by rfl'
def Jj {f:Addr}{fd:FuncData}(F:Fun K "changed_rows" "changed_rows" EA f fd)(T:Tx K mg)(Fo:Cal P w K mg base 1 "rows_by_key" Dy 2):E7 P w K mg base CX0 2 f fd ["table","rows","change"] (spF ⟨K,P,w⟩ DI 3):=by
 have b:BO P w K mg base 1 "changed_rows" EA f ["table","rows","change","by_key","name","key","before","after"] FR:=λcdv A outer s H E hr=>by
  have hr_rows_by_key:Room 1 _:=hr.mono (by decide)
  exact CK (CZ 3 D2.nd (CT Fo hr_rows_by_key (CB (CF 0) (CB (CF 1) CG)))) (CK (EG BE rfl (Ek (CF 2)) (El rfl (CQ (CL 4 D2.nd) (CQ (CL 5 D2.nd) (CQ (CL 6 D2.nd) (CQ (CL 7 D2.nd) DU))))) (CU (EX (DL (Kp hr.units) (CF 4) (D9 (E6 hr.units) (CF 0) CP)) (CU (FG (CF 7) (KG hr.units (CF 3) (CF 5)))) Es))) (CU (Dz (C0 DE T.b_tuple B7 (CB (De (FN hr.units rfl) T.b_sorted boot_sorted (CB (Fx ["row"] [] (by exact HE (CO EA) rfl rfl ⟨rfl,by symm,by symm,by symm⟩ True.intro) (VG (CF 3)) Dj (λ_ _ _ _ _=>CL 0 (show(["row"]:List Str).Nodup by symm)) (λ_ _ _ _ _=>Ic (DL OE (CF 0) LF)) (λ_ _ _ _ _=>CF 0)) CG)) CG)))))
 have c:=HV 8 3 F D2 rfl rfl b
 exact c
def NU:DG ["schema","filling","change"] ["schema","filling","change"] (CO Gm):=by rfl'
def Nh {f:Addr}{fd:FuncData}(F:Fun K "changed" "changed" Gm f fd)(T:Tx K mg)(JF:Cal P w K mg base 2 "changed_rows" DI 3):E7 P w K mg base CX0 3 f fd ["schema","filling","change"] (spF ⟨K,P,w⟩ DS 3):=by
 have b:BO P w K mg base 2 "changed" Gm f ["schema","filling","change"] IE:=λcdv A outer s H E hr=>by
  have hr_changed_rows:Room 2 _:=hr.mono (by decide)
  exact CU (Dz (C0 DE T.b_tuple B7 (CB (Fx ["table","rows"] [(2,"change")] (by exact HE (CO Gm) rfl rfl ⟨rfl,by symm,by symm,by symm⟩ ⟨⟨rfl,.inl rfl,.inl rfl⟩,True.intro⟩) (MG T.b_zip (CB (CF 0) (CB (CF 1) CG))) (Ie (D8 Dj (D8 Dj Hx))) (λ_ _ _ _ _=>El rfl (CQ (CL 0 (show(["table","rows","change"]:List Str).Nodup by symm)) (CQ (CL 1 (show(["table","rows","change"]:List Str).Nodup by symm)) DU))) (λ_ _ _ _ _=>Fj) (λ_ _ _ _ _=>CT JF hr_changed_rows (CB (CF 0) (CB (CF 1) (CB (CF 2) CG))))) CG)))
 have c:=Hg 3 3 F NU rfl rfl b
 exact c
def EB:DG ["schema","one","other","found","table","rows","others","befores","afters","key"] ["schema","one","other"] (CO Hl):=by rfl'
def Nq {f:Addr}{fd:FuncData}(F:Fun K "between" "between" Hl f fd)(T:Tx K mg)(Fo:Cal P w K mg base 1 "rows_by_key" Dy 2):E7 P w K mg base CX0 2 f fd ["schema","one","other"] (spF ⟨K,P,w⟩ D1 3):=by
 have b:BO P w K mg base 1 "between" Hl f ["schema","one","other","found","table","rows","others","befores","afters","key"] IH:=λcdv A outer s H E hr=>by
  have hr_rows_by_key:Room 1 _:=hr.mono (by decide)
  exact CK (CZ 3 EB.nd (GR CG)) (CK (EG BE rfl (MF T.b_zip (CB (CF 0) (CB (CF 1) (CB (CF 2) CG)))) (El rfl (CQ (CL 4 EB.nd) (CQ (CL 5 EB.nd) (CQ (CL 6 EB.nd) DU)))) (CK (CZ 7 EB.nd (CT Fo hr_rows_by_key (CB (CF 4) (CB (CF 5) CG)))) (CK (CZ 8 EB.nd (CT Fo hr_rows_by_key (CB (CF 4) (CB (CF 6) CG)))) (CU (EG BE rfl (Ek (De (FN hr.units rfl) T.b_sorted boot_sorted (CB (CV (VT hr.units) (C0 (KZ hr.units) T.b_set boot_set (CB (CF 7) CG)) (C0 (KZ hr.units) T.b_set boot_set (CB (CF 8) CG))) CG))) (CL 9 EB.nd) (CU (EX (DL (FP hr.units) (Hi hr.units (CF 7) (CB (CF 9) CG)) (Hi hr.units (CF 8) (CB (CF 9) CG))) (CU (Gp (FL (CF 3) (CB (EN (CB (D9 (E6 hr.units) (CF 4) CP) (CB (CF 9) (CB (Hi hr.units (CF 7) (CB (CF 9) CG)) (CB (Hi hr.units (CF 8) (CB (CF 9) CG)) CG))))) CG)))) Es))))))) (CU (Dz (C0 DE T.b_tuple B7 (CB (CF 3) CG)))))
 have c:=HV 10 3 F EB rfl rfl b
 exact c
def Ni:DG ["change"] ["change"] (CO Ge):=by rfl'
def Np {f:Addr}{fd:FuncData}(F:Fun K "back_of" "back_of" Ge f fd)(T:Tx K mg) :E7 P w K mg base CX0 1 f fd ["change"] (spF ⟨K,P,w⟩ EV 1):=by
 have b:BO P w K mg base 0 "back_of" Ge f ["change"] Iw:=λcdv A outer s H E hr=>by
  exact CU (Dz (C0 DE T.b_tuple B7 (CB (Fx ["name","key","before","after"] [] (by exact HE (CO Ge) rfl rfl ⟨rfl,by symm,by symm,by symm⟩ True.intro) (Ek (CF 0)) (Ie (D8 Dj (D8 Dj (D8 Dj (D8 Dj Hx))))) (λ_ _ _ _ _=>El rfl (CQ (CL 0 (show(["name","key","before","after"]:List Str).Nodup by symm)) (CQ (CL 1 (show(["name","key","before","after"]:List Str).Nodup by symm)) (CQ (CL 2 (show(["name","key","before","after"]:List Str).Nodup by symm)) (CQ (CL 3 (show(["name","key","before","after"]:List Str).Nodup by symm)) DU))))) (λ_ _ _ _ _=>Fj) (λ_ _ _ _ _=>EN (CB (CF 0) (CB (CF 1) (CB (CF 3) (CB (CF 2) CG)))))) CG)))
 have c:=Hg 1 1 F Ni rfl rfl b
 exact c
def He:DG ["_law_script","_law_k","_law_cell"] ["_law_script","_law_k"] (CO GD):=by rfl'
def ML {f:Addr}{fd:FuncData}(F:Fun K "_law_hand" "_law_hand" GD f fd)(T:Tx K mg) :E7 P w K mg base CX0 1 f fd ["_law_script","_law_k"] (spF ⟨K,P,w⟩ EM 2):=by
 have b:BO P w K mg base 0 "_law_hand" GD f ["_law_script","_law_k","_law_cell"] GK:=λcdv A outer s H E hr=>by
  exact CK (CZ 2 He.nd CP) (CK (EX (DL (Xd hr.units) (CF 1) (De Fg T.b_len boot_len (CB (CF 0) CG))) (CU (CZ 2 He.nd (D9 (E6 hr.units) (CF 0) (CF 1)))) Es) (CU (Dz (GR (CB (CV Fp (CF 2) (C0 KR T.b_int boot_int (CB (Rv VO (CF 2) (CV SF CP CP)) CG))) (CB (CV Dr (CV Dr (CV FJ (CF 2) CP) (CV Fp CP (CF 1))) CP) (CB CP CG)))))))
 have c:=Hg 3 2 F He rfl rfl b
 exact c
def ET:DG ["_law_hand_here","_law_many","_law_digit","_law_turn","_law_mixed","_law_other"] ["_law_hand_here","_law_many"] (CO GI):=by rfl'
def M4 {f:Addr}{fd:FuncData}(F:Fun K "_law_take" "_law_take" GI f fd)(T:Tx K mg) :E7 P w K mg base CX0 1 f fd ["_law_hand_here","_law_many"] (spF ⟨K,P,w⟩ CN 2):=by
 have b:BO P w K mg base 0 "_law_take" GI f ["_law_hand_here","_law_many","_law_digit","_law_turn","_law_mixed","_law_other"] GC:=λcdv A outer s H E hr=>by
  exact CK (EX (DL Vb (D9 (E6 hr.units) (CF 0) CP) CP) (CK (CZ 2 ET.nd (CV FJ (D9 (E6 hr.units) (CF 0) CP) (CF 1))) (CK (FG (CV Kr (D9 (E6 hr.units) (CF 0) CP) (CF 1)) (KG hr.units (CF 0) CP)) (CU (Dz (CF 2))))) Es) (CK (FG (CV Dr (D9 (E6 hr.units) (CF 0) CP) CP) (KG hr.units (CF 0) CP)) (CK (CZ 3 ET.nd (D9 (E6 hr.units) (CF 0) CP)) (CK (CZ 4 ET.nd (CV FJ (CV Fp (D9 (E6 hr.units) (CF 0) CP) (CV Dr (CV Dr CP (CV Fp (CV Fp CP (CF 3)) (CF 3))) (CV Fp CP (CF 3)))) CP)) (CK (CZ 5 ET.nd (CV Dr (CV Dr (CV FJ (CF 4) CP) (CV Fp (CF 3) CP)) CP)) (CK (CZ 4 ET.nd (CV FJ (CV Fp (CF 4) (CF 5)) CP)) (CU (Dz (CV FJ (CV Dr (CV Kr (CF 4) CP) (CV Kr (CF 4) CP)) (CF 1)))))))))
 have c:=Hg 6 2 F ET rfl rfl b
 exact c
def MV:DG ["_law_hand_here","_law_some"] ["_law_hand_here","_law_some"] (CO GP):=by rfl'
def Ms {f:Addr}{fd:FuncData}(F:Fun K "_law_pick" "_law_pick" GP f fd)(T:Tx K mg)(Dd:Cal P w K mg base 1 "_law_take" CN 2):E7 P w K mg base CX0 2 f fd ["_law_hand_here","_law_some"] (spF ⟨K,P,w⟩ Dl 2):=by
 have b:BO P w K mg base 1 "_law_pick" GP f ["_law_hand_here","_law_some"] GG:=λcdv A outer s H E hr=>by
  have hr_law_take:Room 1 _:=hr.mono (by decide)
  exact CU (Dz (D9 (E6 hr.units) (CF 1) (CT Dd hr_law_take (CB (CF 0) (CB (De Fg T.b_len boot_len (CB (CF 1) CG)) CG)))))
 have c:=Hg 2 2 F MV rfl rfl b
 exact c
def EC:DG ["_law_hand_here","_law_many","_law_most","_law_signs","_law_first","_law_step","_law_stem","_law_at"] ["_law_hand_here","_law_many","_law_most"] (CO Fq):=by rfl'
def L0 {f:Addr}{fd:FuncData}(F:Fun K "_law_words" "_law_words" Fq f fd)(T:Tx K mg)(Dd:Cal P w K mg base 1 "_law_take" CN 2)(EL:Cal P w K mg base 2 "_law_pick" Dl 2):E7 P w K mg base CX0 3 f fd ["_law_hand_here","_law_many","_law_most"] (spF ⟨K,P,w⟩ Ez 3):=by
 have b:BO P w K mg base 2 "_law_words" Fq f ["_law_hand_here","_law_many","_law_most","_law_signs","_law_first","_law_step","_law_stem","_law_at"] Ha:=λcdv A outer s H E hr=>by
  have hr_law_take:Room 1 _:=hr.mono (by decide)
  have hr_law_pick:Room 2 _:=hr.mono (by decide)
  exact CK (CZ 3 EC.nd VE) (CK (FG (EN (CB (CT Dd hr_law_take (CB (CF 0) (CB CP CG))) (CB (CT EL hr_law_pick (CB (CF 0) (CB (JR (CB CP (CB CP (CB CP (CB CP (CB CP (CB CP CG))))))) CG))) CG))) (El rfl (CQ (CL 4 EC.nd) (CQ (CL 5 EC.nd) DU)))) (CK (CZ 6 EC.nd (CV Fp (D9 (E6 hr.units) (CF 3) (CT Dd hr_law_take (CB (CF 0) (CB CP CG)))) (De (K0 rfl) T.b_min boot_min (CB (CV Um (CF 2) CP) (CB (CT EL hr_law_pick (CB (CF 0) (CB (JR (CB CP (CB CP (CB CP (CB CP (CB CP CG)))))) CG))) CG))))) (CK (CZ 7 EC.nd (CT Dd hr_law_take (CB (CF 0) (CB (CV Dr (De Fg T.b_len boot_len (CB (CF 6) CG)) CP) CG)))) (CU (Dz (Fx ["_law_k"] [(6,"_law_stem"),(7,"_law_at"),(3,"_law_signs"),(4,"_law_first"),(5,"_law_step")] (by exact HE (CO Fq) rfl rfl ⟨rfl,by symm,by symm,by symm⟩ ⟨⟨rfl,.inl rfl,.inl rfl⟩,⟨rfl,.inl rfl,.inl rfl⟩,⟨rfl,.inl rfl,.inl rfl⟩,⟨rfl,.inl rfl,.inl rfl⟩,⟨rfl,.inl rfl,.inl rfl⟩,True.intro⟩) (Fb T.b_range (CB (CF 1) CG)) Dj (λ_ _ _ _ _=>CL 0 (show(["_law_k","_law_stem","_law_at","_law_signs","_law_first","_law_step"]:List Str).Nodup by symm)) (λ_ _ _ _ _=>Fj) (λ_ _ _ _ _=>CV Dr (CV Dr (Ea (CF 1) Ee (Ef (CF 2))) (D9 (E6 hr.units) (CF 3) (CV FJ (CV Dr (CF 4) (CV Fp (CF 5) (CF 0))) CP))) (Ea (CF 1) (Ef (CF 2)) Ee))))))))
 have c:=Hg 8 3 F EC rfl rfl b
 exact c
def Dt:DG ["_law_hand_here","_law_tables","_law_columns","_law_values","_law_names","_law_words_here","_law_stock","_law_found","_law_name","_law_many","_law_shift","_law_row","_law_k","_law_some","_law_turn","_law_mine"] ["_law_hand_here","_law_tables","_law_columns","_law_values"] (CO E3):=by rfl'
def KN {f:Addr}{fd:FuncData}(F:Fun K "_law_schema" "_law_schema" E3 f fd)(T:Tx K mg)(G6:Cal P w K mg base 3 "_law_words" Ez 3)(Dd:Cal P w K mg base 1 "_law_take" CN 2):E7 P w K mg base CX0 4 f fd ["_law_hand_here","_law_tables","_law_columns","_law_values"] (spF ⟨K,P,w⟩ Ei 4):=by
 have b:BO P w K mg base 3 "_law_schema" E3 f ["_law_hand_here","_law_tables","_law_columns","_law_values","_law_names","_law_words_here","_law_stock","_law_found","_law_name","_law_many","_law_shift","_law_row","_law_k","_law_some","_law_turn","_law_mine"] GA:=λcdv A outer s H E hr=>by
  have hr_law_words:Room 3 _:=hr.mono (by decide)
  have hr_law_take:Room 1 _:=hr.mono (by decide)
  exact CK (CZ 4 Dt.nd (De (FN hr.units rfl) T.b_sorted boot_sorted (CB (CT G6 hr_law_words (CB (CF 0) (CB (CV Dr CP (CT Dd hr_law_take (CB (CF 0) (CB (CF 1) CG)))) (CB CP CG)))) CG))) (CK (FG (EN (CB (CT G6 hr_law_words (CB (CF 0) (CB (CV Dr (CF 2) CP) (CB CP CG)))) (CB (CT G6 hr_law_words (CB (CF 0) (CB (CV Dr (CF 3) CP) (CB CP CG)))) CG))) (El rfl (CQ (CL 5 Dt.nd) (CQ (CL 6 Dt.nd) DU)))) (CK (CZ 7 Dt.nd (GR CG)) (CK (EG BE rfl (Ek (CF 4)) (CL 8 Dt.nd) (CK (R0 9 10 11 rfl Dt.nd (CB (CV Dr CP (CT Dd hr_law_take (CB (CF 0) (CB (CF 2) CG)))) (CB (CT Dd hr_law_take (CB (CF 0) (CB CP CG))) (CB (GR CG) CG))) (by rfl)) (CK (EG BE rfl (Fb T.b_range (CB (CF 9) CG)) (CL 12 Dt.nd) (CK (FG (EN (CB (CV Dr CP (CT Dd hr_law_take (CB (CF 0) (CB (CF 3) CG)))) (CB (CT Dd hr_law_take (CB (CF 0) (CB CP CG))) CG))) (El rfl (CQ (CL 13 Dt.nd) (CQ (CL 14 Dt.nd) DU)))) (CK (CZ 15 Dt.nd (C0 DE T.b_tuple B7 (CB (Fx ["_law_j"] [(6,"_law_stock"),(14,"_law_turn")] (by exact HE (CO E3) rfl rfl ⟨rfl,by symm,by symm,by symm⟩ ⟨⟨rfl,.inl rfl,.inl rfl⟩,⟨rfl,.inl rfl,.inl rfl⟩,True.intro⟩) (Fb T.b_range (CB (CF 13) CG)) Dj (λ_ _ _ _ _=>CL 0 (show(["_law_j","_law_stock","_law_turn"]:List Str).Nodup by symm)) (λ_ _ _ _ _=>Fj) (λ_ _ _ _ _=>D9 (E6 hr.units) (CF 1) (CV FJ (CV Dr (CF 0) (CF 2)) (De Fg T.b_len boot_len (CB (CF 1) CG))))) CG))) (CU (Gp (FL (CF 11) (CB (EN (CB (D9 (E6 hr.units) (CF 5) (CV FJ (CV Dr (CF 12) (CF 10)) (De Fg T.b_len boot_len (CB (CF 5) CG)))) (CB (CF 15) CG))) CG))))))) (CU (Gp (FL (CF 7) (CB (EN (CB (CF 8) (CB (C0 DE T.b_tuple B7 (CB (CF 11) CG)) (CB (CV Dr CP (CT Dd hr_law_take (CB (CF 0) (CB (CF 9) CG)))) CG)))) CG))))))) (CU (Dz (C0 DE T.b_tuple B7 (CB (CF 7) CG)))))))
 have c:=HV 16 4 F Dt rfl rfl b
 exact c
def DH:DG ["_law_hand_here","_law_schema_here","_law_most","_law_found","_law_name","_law_columns","_law_keys","_law_rows","_law_k","_law_row"] ["_law_hand_here","_law_schema_here","_law_most"] (CO EJ):=by rfl'
def JP {f:Addr}{fd:FuncData}(F:Fun K "_law_filling" "_law_filling" EJ f fd)(T:Tx K mg)(Dd:Cal P w K mg base 1 "_law_take" CN 2)(EL:Cal P w K mg base 2 "_law_pick" Dl 2):E7 P w K mg base CX0 3 f fd ["_law_hand_here","_law_schema_here","_law_most"] (spF ⟨K,P,w⟩ DR 3):=by
 have b:BO P w K mg base 2 "_law_filling" EJ f ["_law_hand_here","_law_schema_here","_law_most","_law_found","_law_name","_law_columns","_law_keys","_law_rows","_law_k","_law_row"] Gd:=λcdv A outer s H E hr=>by
  have hr_law_take:Room 1 _:=hr.mono (by decide)
  have hr_law_pick:Room 2 _:=hr.mono (by decide)
  exact CK (CZ 3 DH.nd (GR CG)) (CK (EG BE rfl (Ek (CF 1)) (El rfl (CQ (CL 4 DH.nd) (CQ (CL 5 DH.nd) (CQ (CL 6 DH.nd) DU)))) (CK (CZ 7 DH.nd Od) (CK (EG BE rfl (Fb T.b_range (CB (CT Dd hr_law_take (CB (CF 0) (CB (CV Dr (CF 2) CP) CG))) CG)) (CL 8 DH.nd) (CK (CZ 9 DH.nd (C0 DE T.b_tuple B7 (CB (Fx ["_law_column","_law_values"] [(0,"_law_hand_here")] (by exact HE (CO EJ) rfl rfl ⟨rfl,by symm,by symm,by symm⟩ ⟨⟨rfl,.inl rfl,.inl rfl⟩,True.intro⟩) (Ek (CF 5)) (Ie (D8 Dj (D8 Dj Hx))) (λ_ _ _ _ _=>El rfl (CQ (CL 0 (show(["_law_column","_law_values","_law_hand_here"]:List Str).Nodup by symm)) (CQ (CL 1 (show(["_law_column","_law_values","_law_hand_here"]:List Str).Nodup by symm)) DU))) (λ_ _ _ _ _=>Fj) (λ_ _ _ _ _=>CT EL hr_law_pick (CB (CF 2) (CB (CF 1) CG)))) CG))) (CU (FG (CF 9) (KG hr.units (CF 7) (Ea (CF 9) Ee (Ef (CF 6)))))))) (CU (Gp (FL (CF 3) (CB (C0 DE T.b_tuple B7 (CB (T8 hr.units rfl T.b_sorted (CF 7)) CG)) CG))))))) (CU (Dz (C0 DE T.b_tuple B7 (CB (CF 3) CG)))))
 have c:=HV 10 3 F DH rfl rfl b
 exact c
def Du:DG ["_law_hand_here","_law_schema_here","_law_filling_here","_law_most","_law_found","_law_k","_law_place","_law_name","_law_columns","_law_keys","_law_row","_law_before","_law_after"] ["_law_hand_here","_law_schema_here","_law_filling_here","_law_most"] (CO Eh):=by rfl'
def KL {f:Addr}{fd:FuncData}(F:Fun K "_law_change" "_law_change" Eh f fd)(T:Tx K mg)(Dd:Cal P w K mg base 1 "_law_take" CN 2)(EL:Cal P w K mg base 2 "_law_pick" Dl 2):E7 P w K mg base CX0 3 f fd ["_law_hand_here","_law_schema_here","_law_filling_here","_law_most"] (spF ⟨K,P,w⟩ EF 4):=by
 have b:BO P w K mg base 2 "_law_change" Eh f ["_law_hand_here","_law_schema_here","_law_filling_here","_law_most","_law_found","_law_k","_law_place","_law_name","_law_columns","_law_keys","_law_row","_law_before","_law_after"] GF:=λcdv A outer s H E hr=>by
  have hr_law_take:Room 1 _:=hr.mono (by decide)
  have hr_law_pick:Room 2 _:=hr.mono (by decide)
  exact CK (CZ 4 Du.nd Od) (CK (EG BE rfl (Fb T.b_range (CB (CT Dd hr_law_take (CB (CF 0) (CB (CV Dr (CF 3) CP) CG))) CG)) (CL 5 Du.nd) (CK (CZ 6 Du.nd (CT Dd hr_law_take (CB (CF 0) (CB (De Fg T.b_len boot_len (CB (CF 1) CG)) CG)))) (CK (FG (D9 (E6 hr.units) (CF 1) (CF 6)) (El rfl (CQ (CL 7 Du.nd) (CQ (CL 8 Du.nd) (CQ (CL 9 Du.nd) DU))))) (CK (CZ 10 Du.nd (C0 DE T.b_tuple B7 (CB (Fx ["_law_column","_law_values"] [(0,"_law_hand_here")] (by exact HE (CO Eh) rfl rfl ⟨rfl,by symm,by symm,by symm⟩ ⟨⟨rfl,.inl rfl,.inl rfl⟩,True.intro⟩) (Ek (CF 8)) (Ie (D8 Dj (D8 Dj Hx))) (λ_ _ _ _ _=>El rfl (CQ (CL 0 (show(["_law_column","_law_values","_law_hand_here"]:List Str).Nodup by symm)) (CQ (CL 1 (show(["_law_column","_law_values","_law_hand_here"]:List Str).Nodup by symm)) DU))) (λ_ _ _ _ _=>Fj) (λ_ _ _ _ _=>CT EL hr_law_pick (CB (CF 2) (CB (CF 1) CG)))) CG))) (CK (EX (SVW.t (UI (DL (FP hr.units) (D9 (E6 hr.units) (CF 2) (CF 6)) (EN CG)) (QU (DL (Kp hr.units) (CT Dd hr_law_take (CB (CF 0) (CB CP CG))) CP)))) (CU (CZ 10 Du.nd (CV Dr (Ea (CT EL hr_law_pick (CB (CF 0) (CB (D9 (E6 hr.units) (CF 2) (CF 6)) CG))) Ee (Ef (CF 9))) (Ea (CF 10) (Ef (CF 9)) Ee)))) Es) (CK (CZ 11 Du.nd (D9 (E6 hr.units) (CV Dr (Fx ["_law_one"] [(9,"_law_keys"),(10,"_law_row")] (by exact HE (CO Eh) rfl rfl ⟨rfl,by symm,by symm,by symm⟩ ⟨⟨rfl,.inl rfl,.inl rfl⟩,⟨rfl,.inl rfl,.inl rfl⟩,True.intro⟩) (Ek (D9 (E6 hr.units) (CF 2) (CF 6))) Dj (λ_ _ _ _ _=>CL 0 (show(["_law_one","_law_keys","_law_row"]:List Str).Nodup by symm)) (λ_ _ _ _ _=>Ic (DL (Kp hr.units) (Ea (CF 0) Ee (Ef (CF 1))) (Ea (CF 2) Ee (Ef (CF 1))))) (λ_ _ _ _ _=>CF 0)) (JR (CB LF CG))) CP)) (CK (CZ 12 Du.nd (D9 (E6 hr.units) (JR (CB (CF 10) (CB (CF 10) (CB LF CG)))) (CT Dd hr_law_take (CB (CF 0) (CB CP CG))))) (CU (EX (DL (FP hr.units) (CF 12) (CF 11)) (CU (FG (EN (CB (CF 7) (CB (Ea (CF 10) Ee (Ef (CF 9))) (CB (CF 11) (CB (CF 12) CG))))) (KG hr.units (CF 4) (EN (CB (CF 7) (CB (Ea (CF 10) Ee (Ef (CF 9))) CG)))))) Es))))))))) (CU (Dz (C0 DE T.b_tuple B7 (CB (Fx ["_law_one"] [(4,"_law_found")] (by exact HE (CO Eh) rfl rfl ⟨rfl,by symm,by symm,by symm⟩ ⟨⟨rfl,.inl rfl,.inl rfl⟩,True.intro⟩) (Ek (De (FN hr.units rfl) T.b_sorted boot_sorted (CB (CF 4) CG))) Dj (λ_ _ _ _ _=>CL 0 (show(["_law_one","_law_found"]:List Str).Nodup by symm)) (λ_ _ _ _ _=>Fj) (λ_ _ _ _ _=>D9 (E6 hr.units) (CF 1) (CF 0))) CG)))))
 have c:=HV 13 4 F Du rfl rfl b
 exact c
def D3:DG ["_law_schema_here","_law_filling_here","_law_change_here","_law_found","_law_name","_law_columns","_law_keys","_law_rows","_law_spots","_law_kept","_law_comes"] ["_law_schema_here","_law_filling_here","_law_change_here"] (CO EO):=by rfl'
def MY {f:Addr}{fd:FuncData}(F:Fun K "_law_done" "_law_done" EO f fd)(T:Tx K mg) :E7 P w K mg base CX0 1 f fd ["_law_schema_here","_law_filling_here","_law_change_here"] (spF ⟨K,P,w⟩ Fd 3):=by
 have b:BO P w K mg base 0 "_law_done" EO f ["_law_schema_here","_law_filling_here","_law_change_here","_law_found","_law_name","_law_columns","_law_keys","_law_rows","_law_spots","_law_kept","_law_comes"] HF:=λcdv A outer s H E hr=>by
  exact CK (CZ 3 D3.nd (GR CG)) (CK (EG BE rfl (MG T.b_zip (CB (CF 0) (CB (CF 1) CG))) (El rfl (CQ (El rfl (CQ (CL 4 D3.nd) (CQ (CL 5 D3.nd) (CQ (CL 6 D3.nd) DU)))) (CQ (CL 7 D3.nd) DU))) (CK (CZ 8 D3.nd (C0 (IQ hr.units rfl) T.b_dict (by symm) (CB (Fx ["_law_part"] [(4,"_law_name")] (by exact HE (CO EO) rfl rfl ⟨rfl,by symm,by symm,by symm⟩ ⟨⟨rfl,.inl rfl,.inl rfl⟩,True.intro⟩) (Ek (CF 2)) Dj (λ_ _ _ _ _=>CL 0 (show(["_law_part","_law_name"]:List Str).Nodup by symm)) (λ_ _ _ _ _=>Ic (DL (Kp hr.units) (D9 (E6 hr.units) (CF 0) CP) (CF 1))) (λ_ _ _ _ _=>EN (CB (D9 (E6 hr.units) (CF 0) CP) (CB (D9 (E6 hr.units) (CF 0) CP) CG)))) CG))) (CK (JJ 9 ["_law_row"] [(6,"_law_keys"),(8,"_law_spots")] (by exact HE (CO EO) rfl rfl ⟨rfl,by symm,by symm,by symm⟩ ⟨⟨rfl,.inl rfl,.inl rfl⟩,⟨rfl,.inl rfl,.inl rfl⟩,True.intro⟩) (Ek (CF 7)) Dj (λ_ _ _ _ _=>CL 0 (show(["_law_row","_law_keys","_law_spots"]:List Str).Nodup by symm)) (λ_ _ _ _ _=>Ic (DL (Uq hr.units) (Ea (CF 0) Ee (Ef (CF 1))) (CF 2))) (λ_ _ _ _ _=>CF 0) D3.nd) (CK (JJ 10 ["_law_key"] [(8,"_law_spots")] (by exact HE (CO EO) rfl rfl ⟨rfl,by symm,by symm,by symm⟩ ⟨⟨rfl,.inl rfl,.inl rfl⟩,True.intro⟩) (Xl (CF 8)) Dj (λ_ _ _ _ _=>CL 0 (show(["_law_key","_law_spots"]:List Str).Nodup by symm)) (λ_ _ _ _ _=>Ic (DL OE (D9 (E6 hr.units) (CF 1) (CF 0)) LF)) (λ_ _ _ _ _=>D9 (E6 hr.units) (CF 1) (CF 0)) D3.nd) (CU (Gp (FL (CF 3) (CB (C0 DE T.b_tuple B7 (CB (De (FN hr.units rfl) T.b_sorted boot_sorted (CB (CV Dr (CF 9) (CF 10)) CG)) CG)) CG)))))))) (CU (Dz (C0 DE T.b_tuple B7 (CB (CF 3) CG)))))
 have c:=HV 11 3 F D3 rfl rfl b
 exact c
def Dn:DG ["_law_schema_here","_law_one","_law_other","_law_found","_law_name","_law_columns","_law_keys","_law_rows","_law_mine","_law_before","_law_after","_law_key","_law_one_row","_law_other_row"] ["_law_schema_here","_law_one","_law_other"] (CO En):=by rfl'
def JU {f:Addr}{fd:FuncData}(F:Fun K "_law_between" "_law_between" En f fd)(T:Tx K mg) :E7 P w K mg base CX0 1 f fd ["_law_schema_here","_law_one","_law_other"] (spF ⟨K,P,w⟩ DQ 3):=by
 have b:BO P w K mg base 0 "_law_between" En f ["_law_schema_here","_law_one","_law_other","_law_found","_law_name","_law_columns","_law_keys","_law_rows","_law_mine","_law_before","_law_after","_law_key","_law_one_row","_law_other_row"] Gb:=λcdv A outer s H E hr=>by
  exact CK (CZ 3 Dn.nd (GR CG)) (CK (EG BE rfl (MF T.b_zip (CB (CF 0) (CB (CF 1) (CB (CF 2) CG)))) (El rfl (CQ (El rfl (CQ (CL 4 Dn.nd) (CQ (CL 5 Dn.nd) (CQ (CL 6 Dn.nd) DU)))) (CQ (CL 7 Dn.nd) (CQ (CL 8 Dn.nd) DU)))) (CK (CZ 9 Dn.nd (C0 (IQ hr.units rfl) T.b_dict (by symm) (CB (Fx ["_law_row"] [(6,"_law_keys")] (by exact HE (CO En) rfl rfl ⟨rfl,by symm,by symm,by symm⟩ ⟨⟨rfl,.inl rfl,.inl rfl⟩,True.intro⟩) (Ek (CF 7)) Dj (λ_ _ _ _ _=>CL 0 (show(["_law_row","_law_keys"]:List Str).Nodup by symm)) (λ_ _ _ _ _=>Fj) (λ_ _ _ _ _=>EN (CB (Ea (CF 0) Ee (Ef (CF 1))) (CB (CF 0) CG)))) CG))) (CK (CZ 10 Dn.nd (C0 (IQ hr.units rfl) T.b_dict (by symm) (CB (Fx ["_law_row"] [(6,"_law_keys")] (by exact HE (CO En) rfl rfl ⟨rfl,by symm,by symm,by symm⟩ ⟨⟨rfl,.inl rfl,.inl rfl⟩,True.intro⟩) (Ek (CF 8)) Dj (λ_ _ _ _ _=>CL 0 (show(["_law_row","_law_keys"]:List Str).Nodup by symm)) (λ_ _ _ _ _=>Fj) (λ_ _ _ _ _=>EN (CB (Ea (CF 0) Ee (Ef (CF 1))) (CB (CF 0) CG)))) CG))) (CU (EG BE rfl (Ek (De (FN hr.units rfl) T.b_sorted boot_sorted (CB (C0 (Pr hr.units rfl) T.b_set boot_set (CB (CV Dr (C0 (Ld rfl) T.b_list boot_list (CB (CF 9) CG)) (C0 (Ld rfl) T.b_list boot_list (CB (CF 10) CG))) CG)) CG))) (CL 11 Dn.nd) (CK (OB 12 13 rfl Dn.nd (CB (Hi hr.units (CF 9) (CB (CF 11) CG)) (CB (Hi hr.units (CF 10) (CB (CF 11) CG)) CG)) (by rfl)) (CU (EX (DL (FP hr.units) (CF 12) (CF 13)) (CU (Gp (FL (CF 3) (CB (EN (CB (CF 4) (CB (CF 11) (CB (CF 12) (CB (CF 13) CG))))) CG)))) Es)))))))) (CU (Dz (C0 DE T.b_tuple B7 (CB (CF 3) CG)))))
 have c:=HV 14 3 F Dn rfl rfl b
 exact c
def GQ:DG ["_law_script","_law_k","_law_hand_here","_law_schema_here","_law_most","_law_filling_here","_law_other","_law_turn","_law_change_here","_law_due"] ["_law_script"] (CO KD):=by rfl'
def Xj {f:Addr}{fd:FuncData}(F:Fun K "law" "law" KD f fd)(T:Tx K mg)(Ny:Cal P w K mg base 1 "_law_hand" EM 2)(Ma:Cal P w K mg base 4 "_law_schema" Ei 4)(Dd:Cal P w K mg base 1 "_law_take" CN 2)(HB:Cal P w K mg base 3 "_law_filling" DR 3)(LD:Cal P w K mg base 3 "_law_change" EF 4)(NY:Cal P w K mg base 1 "_law_done" Fd 3)(ID:Cal P w K mg base 3 "changed" DS 3)(Hq:Cal P w K mg base 2 "between" D1 3)(Lc:Cal P w K mg base 1 "back_of" EV 1)(Hz:Cal P w K mg base 1 "_law_between" DQ 3):E7 P w K mg base CX0 5 f fd ["_law_script"] (spF ⟨K,P,w⟩ Lm 1):=by
 have b:BO P w K mg base 4 "law" KD f ["_law_script","_law_k","_law_hand_here","_law_schema_here","_law_most","_law_filling_here","_law_other","_law_turn","_law_change_here","_law_due"] Sf:=λcdv A outer s H E hr=>by
  have hr_law_hand:Room 1 _:=hr.mono (by decide)
  have hr_law_schema:Room 4 _:=hr.mono (by decide)
  have hr_law_take:Room 1 _:=hr.mono (by decide)
  have hr_law_filling:Room 3 _:=hr.mono (by decide)
  have hr_law_change:Room 3 _:=hr.mono (by decide)
  have hr_law_done:Room 1 _:=hr.mono (by decide)
  have hr_changed:Room 3 _:=hr.mono (by decide)
  have hr_between:Room 2 _:=hr.mono (by decide)
  have hr_back_of:Room 1 _:=hr.mono (by decide)
  have hr_law_between:Room 1 _:=hr.mono (by decide)
  exact CK (EG BE rfl (Fb T.b_range (CB (De (Pn rfl) T.b_max boot_max (CB CP (CB (De (K0 rfl) T.b_min boot_min (CB CP (CB (De Fg T.b_len boot_len (CB (CF 0) CG)) CG))) CG))) CG)) (CL 1 GQ.nd) (CK (CZ 2 GQ.nd (CT Ny hr_law_hand (CB (CF 0) (CB (CF 1) CG)))) (CK (CZ 3 GQ.nd (CT Ma hr_law_schema (CB (CF 2) (CB CP (CB CP (CB CP CG)))))) (CK (CZ 4 GQ.nd (D9 (E6 hr.units) (JR (CB CP (CB CP CG))) (C0 KR T.b_int boot_int (CB (Rv (Kp hr.units) (CT Dd hr_law_take (CB (CF 2) (CB CP CG))) CP) CG)))) (CK (OB 5 6 rfl GQ.nd (CB (CT HB hr_law_filling (CB (CF 2) (CB (CF 3) (CB (CF 4) CG)))) (CB (CT HB hr_law_filling (CB (CF 2) (CB (CF 3) (CB (CF 4) CG)))) CG)) (by rfl)) (CK (EG BE rfl (Fb T.b_range (CB CP CG)) (CL 7 GQ.nd) (CK (CZ 8 GQ.nd (CT LD hr_law_change (CB (CF 2) (CB (CF 3) (CB (CF 5) (CB CP CG)))))) (CK (CZ 9 GQ.nd (CT NY hr_law_done (CB (CF 3) (CB (CF 5) (CB (CF 8) CG))))) (CK (EX (DL (FP hr.units) (De (D7 hr.units hr.gd) T.b_repr (by symm) (CB (CT ID hr_changed (CB (CF 3) (CB (CF 5) (CB (CF 8) CG)))) CG)) (De (D7 hr.units hr.gd) T.b_repr (by symm) (CB (CF 9) CG))) (CU (Dz Jc)) Es) (CK (EX (DL (FP hr.units) (De (D7 hr.units hr.gd) T.b_repr (by symm) (CB (CT Hq hr_between (CB (CF 3) (CB (CF 5) (CB (CF 9) CG)))) CG)) (De (D7 hr.units hr.gd) T.b_repr (by symm) (CB (CF 8) CG))) (CU (Dz Jc)) Es) (CK (EX (DL (FP hr.units) (De (D7 hr.units hr.gd) T.b_repr (by symm) (CB (CT ID hr_changed (CB (CF 3) (CB (CF 9) (CB (CT Lc hr_back_of (CB (CF 8) CG)) CG)))) CG)) (De (D7 hr.units hr.gd) T.b_repr (by symm) (CB (CF 5) CG))) (CU (Dz Jc)) Es) (CU (EX (DL (FP hr.units) (De (D7 hr.units hr.gd) T.b_repr (by symm) (CB (CT Lc hr_back_of (CB (CF 8) CG)) CG)) (De (D7 hr.units hr.gd) T.b_repr (by symm) (CB (CT Hz hr_law_between (CB (CF 3) (CB (CF 9) (CB (CF 5) CG)))) CG))) (CU (Dz Jc)) Es)))))))) (CK (EX (DL (FP hr.units) (De (D7 hr.units hr.gd) T.b_repr (by symm) (CB (CT Hq hr_between (CB (CF 3) (CB (CF 5) (CB (CF 6) CG)))) CG)) (De (D7 hr.units hr.gd) T.b_repr (by symm) (CB (CT Hz hr_law_between (CB (CF 3) (CB (CF 5) (CB (CF 6) CG)))) CG))) (CU (Dz Jc)) Es) (CK (EX (DL (FP hr.units) (CT ID hr_changed (CB (CF 3) (CB (CF 5) (CB (CT Hq hr_between (CB (CF 3) (CB (CF 5) (CB (CF 6) CG)))) CG)))) (CF 6)) (CU (Dz Jc)) Es) (CU (EX (DL (FP hr.units) (CT Hq hr_between (CB (CF 3) (CB (CF 6) (CB (CF 6) CG)))) (EN CG)) (CU (Dz Jc)) Es)))))))))) (CU (Dz Jc))
 have c:=Hg 10 1 F GQ rfl rfl b
 exact c
end
end PG
namespace PV
open PySem L2 PyProof.Rows
section
variable {α β:Type}{ro:Ro}{mu:Sto}{d e:D}{a b c:Ex}{i:Nat}{o:Option D}
@[simp] theorem Mz {x:α}{m:Sto}{f:α->Sto->Rs β}:bM (some (x,m)) f=f x m:=rfl
@[simp] theorem ZA:CD 0 (some d::ro) mu=some (d,mu):=rfl
@[simp] theorem ZP {x1}:CD 1 (x1::some d::ro) mu=some (d,mu):=rfl
@[simp] theorem ZE {x1 x2}:CD 2 (x1::x2::some d::ro) mu=some (d,mu):=rfl
@[simp] theorem ZM {x1 x2 x3}:CD 3 (x1::x2::x3::some d::ro) mu=some (d,mu):=rfl
@[simp] theorem ZF {x1 x2 x3 x4}:CD 4 (x1::x2::x3::x4::some d::ro) mu=some (d,mu):=rfl
@[simp] theorem ZG {x1 x2 x3 x4 x5}:CD 5 (x1::x2::x3::x4::x5::some d::ro) mu=some (d,mu):=rfl
@[simp] theorem ZR {x1 x2 x3 x4 x5 x6}:CD 6 (x1::x2::x3::x4::x5::x6::some d::ro) mu=some (d,mu):=rfl
@[simp] theorem Aaa {x1 x2 x3 x4 x5 x6 x7}:CD 7 (x1::x2::x3::x4::x5::x6::x7::some d::ro) mu=some (d,mu):=rfl
@[simp] theorem Aam {x1 x2 x3 x4 x5 x6 x7 x8}:CD 8 (x1::x2::x3::x4::x5::x6::x7::x8::some d::ro) mu=some (d,mu):=rfl
@[simp] theorem Z8 {x1 x2 x3 x4 x5 x6 x7 x8 x9}:CD 9 (x1::x2::x3::x4::x5::x6::x7::x8::x9::some d::ro) mu=some (d,mu):=rfl
@[simp] theorem Zp {x1 x2 x3 x4 x5 x6 x7 x8 x9 x10}:CD 10 (x1::x2::x3::x4::x5::x6::x7::x8::x9::x10::some d::ro) mu=some (d,mu):=rfl
@[simp] theorem YL {x1 x2 x3 x4 x5 x6 x7 x8 x9 x10 x11}:CD 11 (x1::x2::x3::x4::x5::x6::x7::x8::x9::x10::x11::some d::ro) mu=some (d,mu):=rfl
@[simp] theorem YC {x1 x2 x3 x4 x5 x6 x7 x8 x9 x10 x11 x12}:CD 12 (x1::x2::x3::x4::x5::x6::x7::x8::x9::x10::x11::x12::some d::ro) mu=some (d,mu):=rfl
@[simp] theorem Zh {x1 x2 x3 x4 x5 x6 x7 x8 x9 x10 x11 x12 x13}:CD 13 (x1::x2::x3::x4::x5::x6::x7::x8::x9::x10::x11::x12::x13::some d::ro) mu=some (d,mu):=rfl
@[simp] theorem YQ {x1 x2 x3 x4 x5 x6 x7 x8 x9 x10 x11 x12 x13 x14}:CD 14 (x1::x2::x3::x4::x5::x6::x7::x8::x9::x10::x11::x12::x13::x14::some d::ro) mu=some (d,mu):=rfl
@[simp] theorem XB {x1 x2 x3 x4 x5 x6 x7 x8 x9 x10 x11 x12 x13 x14 x15}:CD 15 (x1::x2::x3::x4::x5::x6::x7::x8::x9::x10::x11::x12::x13::x14::x15::some d::ro) mu=some (d,mu):=rfl
@[simp] theorem z_C:eC d ro mu=some (d,mu):=rfl
@[simp] theorem Zk {g:D->D->Sto->Rs D}:CJ g a b ro mu=bM (a ro mu) λx m1=>bM (b ro m1) λy m2=>g x y m2:=rfl
@[simp] theorem Zx {g:D->Sto->Rs D}:e1 g a ro mu=bM (a ro mu) λx m1=>g x m1:=rfl
@[simp] theorem Z1:tV a ro mu=bM (a ro mu) λx m1=>(asB x).map λb=>(b,m1):=rfl
@[simp] theorem Yt {x:Bool}:asB (.bl x)=some x:=rfl
@[simp] theorem Yz {t:Tx}:tNt t ro mu=bM (t ro mu) λb m1=>some (!b,m1):=rfl
@[simp] theorem YG {t u:Tx}:tAn t u ro mu=bM (t ro mu) λx m1=>if x=true then u ro m1 else some (false,m1):=rfl
@[simp] theorem Aad {t u:Tx}:tO t u ro mu=bM (t ro mu) λx m1=>if x=true then some (true,m1) else u ro m1:=rfl
@[simp] theorem VC:tY ro mu=some (true,mu):=rfl
def anB (b:Ex)(ro:Ro):D->Sto->Rs D
 |.bl c,m1=>if c=true then b ro m1 else some (.bl false,m1)
 |_,_=>none
def oB (b:Ex)(ro:Ro):D->Sto->Rs D
 |.bl c,m1=>if c=true then some (.bl true,m1) else b ro m1
 |_,_=>none
def ZI:eAn a b ro mu=bM (a ro mu) (anB b ro):=by
 unfold eAn
 congr 1
 funext x m
 cases x<;>rfl
def z_o:eO a b ro mu=bM (a ro mu) (oB b ro):=by
 unfold eO
 congr 1
 funext x m
 cases x<;>rfl
@[simp] theorem Zf:eAn a b ro mu=bM (a ro mu) (anB b ro):=ZI
@[simp] theorem Z6:eO a b ro mu=bM (a ro mu) (oB b ro):=z_o
@[simp] theorem Zn {x:Bool}:anB b ro (.bl x) mu=if x=true then b ro mu else some (.bl false,mu):=rfl
@[simp] theorem ZV {x:Bool}:oB b ro (.bl x) mu=if x=true then some (.bl true,mu) else b ro mu:=rfl
def ntB:D->Sto->Rs D
 |.bl c,m1=>some (.bl (!c),m1)
 |_,_=>none
@[simp] theorem Aar:eNt a ro mu=bM (a ro mu) ntB:=by
 unfold eNt
 congr 1
 funext x m
 cases x<;>rfl
@[simp] theorem YT {x:Bool}:ntB (.bl x) mu=some (.bl (!x),mu):=rfl
@[simp] theorem ZK {t:Tx}:eIf t a b ro mu=bM (t ro mu) λx m1=>if x=true then a ro m1 else b ro m1:=rfl
@[simp] theorem Xb:CH ro mu=some ([],mu):=rfl
@[simp] theorem Wx {r:Exs}:CC a r ro mu=bM (a ro mu) λx m1=>bM (r ro m1) λxs m2=>some (x::xs,m2):=rfl
@[simp] theorem Za {r:Exs}:Ep r ro mu=bM (r ro mu) λxs m1=>some (.tup xs,m1):=rfl
@[simp] theorem Y6 {r:Exs}:Jo r ro mu=bM (r ro mu) λxs m1=>some (.lst xs,m1):=rfl
@[simp] theorem Wu {r:Exs}:F5 r ro mu=bM (r ro mu) λxs m1=>some (.ref m1.length,m1++[.lst xs]):=rfl
@[simp] theorem Xu:Ye ro mu=some (.dct [] [],mu):=rfl
@[simp] theorem W6:Mm ro mu=some (.ref mu.length,mu++[.dct [] []]):=rfl
@[simp] theorem Xn {f:Fn}{r:Exs}:CI f r ro mu=bM (r ro mu) λxs m1=>f xs m1:=rfl
@[simp] theorem Y0:sNx ro mu=some ((.nx,ro),mu):=rfl
def Wb (b:Sx):Fl×Ro->Sto->Rs (Fl×Ro)
 |(.nx,ro),m1=>b ro m1
 |p,m1=>some (p,m1)
@[simp] theorem Yl {s t:Sx}:CY s t ro mu=bM (s ro mu) (Wb t):=by
 unfold CY
 congr 1
 funext p m
 obtain⟨f,r⟩:=p
 cases f<;>rfl
@[simp] theorem WO {t:Sx}:Wb t (.nx,ro) mu=t ro mu:=rfl
@[simp] theorem Wt {t:Sx}:Wb t (.rt d,ro) mu=some ((.rt d,ro),mu):=rfl
@[simp] theorem ZL:sRt a ro mu=bM (a ro mu) λd m1=>some ((.rt d,ro),m1):=rfl
@[simp] theorem Z7:sEx a ro mu=bM (a ro mu) λ_ m1=>some ((.nx,ro),m1):=rfl
@[simp] theorem Ym {t:Tx}{s u:Sx}:sIf t s u ro mu=bM (t ro mu) λx m1=>if x=true then s ro m1 else u ro m1:=rfl
@[simp] theorem Y2 {i:Nat}:gNm i d ro mu=some (ro.set i (some d),mu):=rfl
@[simp] theorem Xw:DJ [] ro mu=some (ro,mu):=rfl
@[simp] theorem Y3 {g:Gx}{r:Gxs}{ds:List D}:CM g r (d::ds) ro mu=bM (g d ro mu) λro' m1=>r ds ro' m1:=rfl
@[simp] theorem Xa {r:Gxs}{x y:D}:gTp 2 r (.tup [x,y]) ro mu=r [x,y] ro mu:=rfl
@[simp] theorem Vs {r:Gxs}{x y z:D}:gTp 3 r (.tup [x,y,z]) ro mu=r [x,y,z] ro mu:=rfl
@[simp] theorem WD {r:Gxs}{x y z u:D}:gTp 4 r (.tup [x,y,z,u]) ro mu=r [x,y,z,u] ro mu:=rfl
@[simp] theorem Yd {g:Gx}:Dh a g ro mu=bM (a ro mu) λd m1=>bM (g d ro m1) λro' m2=>some ((.nx,ro'),m2):=rfl
@[simp] theorem Vd {i j:Nat}{r:Exs}:PQ i j r ro mu=bM (r ro mu) λds m1=>match ds with|[x,y]=>some ((.nx,(ro.set i (some x)).set j (some y)),m1)|_=>none:=rfl
@[simp] theorem WM {i j k:Nat}{r:Exs}:Oj i j k r ro mu=bM (r ro mu) λds m1=>match ds with|[x,y,z]=>some ((.nx,((ro.set i (some x)).set j (some y)).set k (some z)),m1)|_=>none:=rfl
def V0:Fl×Ro->Sto->Rs D
 |(.rt d,_),m1=>some (d,m1)
 |(.nx,_),m1=>some (.non,m1)
 |_,_=>none
def Yx {n:Nat}{m:Sx}{ds:List D}:fnB n m ds mu=bM (m (ds.map some++List.replicate (n-ds.length) none) mu) V0:=by
 unfold fnB
 congr 1
 funext p q
 obtain⟨f,r⟩:=p
 cases f<;>rfl
@[simp] theorem Wa:V0 (.rt d,ro) mu=some (d,mu):=rfl
@[simp] theorem WW:V0 (.nx,ro) mu=some (.non,mu):=rfl
def Y5 (m0:Sto):Fl×Ro->Sto->Rs D
 |(.rt d,_),m1=>KO m0 m1 d
 |(.nx,_),m1=>KO m0 m1 .non
 |_,_=>none
def XA {n:Nat}{m:Sx}{ds:List D}:fnG n m ds mu=bM (m (ds.map some++List.replicate (n-ds.length) none) mu) (Y5 mu):=by
 unfold fnG
 congr 1
 funext p q
 obtain⟨f,r⟩:=p
 cases f<;>rfl
@[simp] theorem Tv {m0:Sto}:Y5 m0 (.rt d,ro) mu=KO m0 mu d:=rfl
@[simp] theorem YN {x:Ix}{g:Gx}{s:Sx}:Gw x g s ro mu=bM (x ro mu) λp m1=>FQ p.2 m1 g s p.1 ro m1:=rfl
def OW (m1:Sto):D->Rs (List D×Option Nat)
 |.tup ds=>some ((ds,none),m1)
 |.lst ds=>some ((ds,none),m1)
 |.str x=>some ((chars x,none),m1)
 |.ref k=>match m1[k]? with
  |some (.lst ds)=>some ((ds,some k),m1)
  |_=>none
 |_=>none
@[simp] theorem Aao:Ff a ro mu=bM (a ro mu) λd m1=>OW m1 d:=by
 unfold Ff
 congr 1
@[simp] theorem ZT {ds:List D}:OW mu (.tup ds)=some ((ds,none),mu):=rfl
@[simp] theorem ZO {ds:List D}:OW mu (.lst ds)=some ((ds,none),mu):=rfl
@[simp] theorem Z2 {x:Str}:OW mu (.str x)=some ((chars x,none),mu):=rfl
def N6 {r:Exs}{n:Int}{m:Sto}(h:r ro mu=some ([.int n],m))(h0:-(2 ^ 62)<=n)(h1:n<=(sizeLine:Int)):iRg r ro mu=some ((E4 0 n.toNat,none),m):=by
 unfold iRg
 rw[h]
 simp only[bM,RQ]
 rw[if_pos ⟨h0,h1⟩]
@[simp] theorem Z5 {x:Ix}{nc:Nat}{fv:List Nat}{g:Gx}{t:Tx}:eLC x nc fv g t a ro mu=bM (x ro mu) λp m1=>bM (F9 p.2 m1 g t a (r0 nc fv ro) p.1 m1) λys m2=>some (.lst ys,m2):=rfl
@[simp] theorem Aae {nc:Nat}{fv:List Nat}:r0 nc fv ro=List.replicate nc none++fv.map λk=>ro.getD k none:=rfl
@[simp] theorem SY {g g':D->D->Sto->Rs D}{c:Ex}:Wc g g' a b c ro mu=bM (a ro mu) λx m1=>bM (b ro m1) λy m2=>bM (g x y m2) λz m3=>match asB z with|none=>none|some k=>if k=true then bM (c ro m3) λw' m4=>g' y w' m4 else some (.bl false,m3):=rfl
@[simp] theorem Zq {i j:Int}:leD (.int i) (.int j) mu=some (.bl (decide (i<=j)),mu):=rfl
@[simp] theorem Zg {i j:Str}:leD (.str i) (.str j) mu=some (.bl (!decide (j.cps.toList<i.cps.toList)),mu):=rfl
@[simp] theorem YB {i j:Int}:geD (.int i) (.int j) mu=some (.bl (decide (j<=i)),mu):=rfl
@[simp] theorem XU {i j:Int}:gtD (.int i) (.int j) mu=some (.bl (decide (j<i)),mu):=rfl
@[simp] theorem Yq {i j:Int}:ltG (.int i) (.int j) mu=some (.bl (decide (i<j)),mu):=by
 unfold ltG
 rw[if_pos (by simp[toPy,PyData.depth])]
 rfl
@[simp] theorem Y8 {i j:Str}:ltG (.str i) (.str j) mu=some (.bl (decide (i.cps.toList<j.cps.toList)),mu):=by
 unfold ltG
 rw[if_pos (by simp[toPy,PyData.depth])]
 rfl
@[simp] theorem VZ {i j:Int}:Dw (.int i) (.int j) mu=some (.int (i+j),mu):=rfl
@[simp] theorem Wz {i j:Int}:VM (.int i) (.int j) mu=some (.int (i-j),mu):=rfl
def IZ {i j:Int}(h:0<j):Gr (.int i) (.int j) mu=some (.int (i % j),mu):=by unfold Gr;dsimp only;rw[if_pos h]
@[simp] theorem YZ {ds:List D}:GL [.tup ds] mu=some (.int ds.length,mu):=rfl
@[simp] theorem XC {ds:List D}:GL [.lst ds] mu=some (.int ds.length,mu):=rfl
@[simp] theorem Yi {x:Str}:GL [.str x] mu=some (.int x.length,mu):=rfl
@[simp] theorem WX {ds:List D}:SS [.tup ds] mu=some (.int ds.length,mu):=rfl
@[simp] theorem V4 {ds:List D}:SS [.lst ds] mu=some (.int ds.length,mu):=rfl
@[simp] theorem WC {x:Str}:SS [.str x] mu=some (.int x.length,mu):=rfl
@[simp] theorem Ve {ds:List D}:SS [.set ds] mu=some (.int ds.length,mu):=rfl
@[simp] theorem Vl {ds:List D}:EW [.lst ds] mu=some (.tup ds,mu):=rfl
@[simp] theorem W3 {ds:List D}:EW [.tup ds] mu=some (.tup ds,mu):=rfl
@[simp] theorem WI {ds:List D}:Aav [.tup ds] mu=some (.lst ds,mu):=rfl
def U4 (h:eqB mu d e=some r):eqD d e mu=some (.bl r,mu):=by unfold eqD;rw[h];rfl
@[simp] theorem UN {i j:Int}:eqD (.int i) (.int j) mu=some (.bl (decide (i=j)),mu):=by
 refine U4 ?_
 unfold eqB
 rw[if_pos (by simp[seen,DW,toPy,PyData.depth])]
 simp only[seen,toPy,PyData.eqv]
 rfl
@[simp] theorem Yp {i j:Int}:neD (.int i) (.int j) mu=some (.bl (!decide (i=j)),mu):=by
 have:=@UN mu i j
 unfold eqD at this
 unfold neD
 cases e:eqB mu (.int i) (.int j) with
 |none=>rw[e] at this;cases this
 |some r=>rw[e] at this;cases this;rfl
@[simp] theorem XF {i j:Bool}:neD (.bl i) (.bl j) mu=some (.bl (i != j),mu):=by
 unfold neD eqB
 rw[if_pos (by simp[seen,DW,toPy,PyData.depth])]
 simp only[seen,toPy,PyData.eqv]
 cases i<;>cases j<;>rfl
@[simp] theorem XE {i j:Str}:eqD (.str i) (.str j) mu=some (.bl (decide (i=j)),mu):=by
 refine U4 ?_
 unfold eqB
 rw[if_pos (by simp[seen,DW,toPy,PyData.depth])]
 simp only[seen,toPy,PyData.eqv]
 rfl
@[simp] theorem V7 {ds:List D}:ixG (.tup (d::ds)) (.int 0) mu=some (d,mu):=by
 have:ixD (.tup (d::ds)) (.int 0) mu=some (d,mu):=by simp[ixD,atI,ixN]
 unfold ixG
 rw[this]
@[simp] theorem Vg {ds:List D}{x:D}:ixG (.tup (x::d::ds)) (.int 1) mu=some (d,mu):=by
 have:ixD (.tup (x::d::ds)) (.int 1) mu=some (d,mu):=by
  have h:(1:Int)<((x::d::ds).length:Int):=by simp;ext
  simp only[ixD,atI,ixN,h,if_true]
  rfl
 unfold ixG
 rw[this]
@[simp] theorem V6 {ds:List D}{x y:D}:ixG (.tup (x::y::d::ds)) (.int 2) mu=some (d,mu):=by
 have:ixD (.tup (x::y::d::ds)) (.int 2) mu=some (d,mu):=by
  have h:(2:Int)<((x::y::d::ds).length:Int):=by simp;ext
  simp only[ixD,atI,ixN,h,if_true]
  rfl
 unfold ixG
 rw[this]
@[simp] theorem Nw {ds:List D}:ixG (.lst (d::ds)) (.int 0) mu=some (d,mu):=by
 have:ixD (.lst (d::ds)) (.int 0) mu=some (d,mu):=by simp[ixD,atI,ixN,D5]
 unfold ixG
 rw[this]
def RY {ds:List D}{j:Nat}(s:D)(hs:s=.lst ds\/s=.tup ds)(h:ds[j]?=some d):ixG s (.int j) mu=some (d,mu):=by
 obtain⟨hl,e⟩:=Ae.mp h
 have a:atI ds (j:Int)=some d:=by
  unfold atI ixN
  rw[if_pos (by ext),if_pos (by ext)]
  simpa using h
 unfold ixG
 rcases hs with rfl|rfl<;>simp[ixD,D5,a]
def Zm {bs:List Bool}:Wq [.lst (bs.map D.bl)] mu=some (.bl (bs.all id),mu):=by
 have:N9 (bs.map D.bl)=some bs:=by
  induction bs with
  |nil=>rfl
  |cons b bs ih=>simp[N9,ih]
 simp[Wq,quF,D5,this]
end
theorem Ig {m0:Sto}{tg:Gx}{tt:Tx}{el:Ex}{ro:Ro}{mu:Sto}(p:D->Bool)(g:D->D):∀ds:List D,(∀d∈ds,∃ro1,tg d ro mu=some (ro1,mu)/\tt ro1 mu=some (p d,mu)/\(p d=true->el ro1 mu=some (g d,mu)))->F9 none m0 tg tt el ro ds mu=some ((ds.filter p).map g,mu)
 |[],_=>rfl
 |d::ds,h=>by
  obtain⟨ro1,e1,e2,e3⟩:=h d (.head _)
  have ih:=Ig (m0:=m0) p g ds λd' hd=>h d' (.tail _ hd)
  unfold F9
  rw[e1,DD,e2,DD]
  cases c:p d with
  |true=>rw[if_pos rfl,e3 c,DD,Em,if_pos (show gOk none m0 mu from True.intro),ih,DD,List.filter_cons_of_pos c,A3]
  |false=>rw[if_neg AS,Em,if_pos (show gOk none m0 mu from True.intro),ih,List.filter_cons_of_neg (by simp[c])]
def Kh {m0:Sto}{tg:Gx}{el:Ex}{ro:Ro}{mu:Sto}(g:D->D)(ds:List D)(h:∀d∈ds,∃ro1,tg d ro mu=some (ro1,mu)/\el ro1 mu=some (g d,mu)):F9 none m0 tg tY el ro ds mu=some (ds.map g,mu):=by
 have:=Ig (m0:=m0) (tg:=tg) (tt:=tY) (el:=el) (ro:=ro) (mu:=mu) (λ_=>true) g ds λd hd=>by
  obtain⟨ro1,e1,e2⟩:=h d hd
  exact⟨ro1,e1,rfl,λ_=>e2⟩
 rw[this,List.filter_eq_self.mpr (λ_ _=>rfl)]
@[simp] theorem WN {mu:Sto}{ds:List D}{g:D->Bool}:Wq [.lst ((ds.map g).map D.bl)] mu=some (.bl (ds.all g),mu):=by
 rw[Zm,List.all_map]
 rfl
end PV
namespace K1
open PySem L2 PyProof.Rows
abbrev DY:Str:="abcdefghijklmnopqrstuvwxyz0123456789"
structure IsW (x:Str):Prop where
 lo:1<=x.length
 hi:x.length<=8
 al:∀c∈x.cps.toList,c∈DY.cps.toList
def Gz:DY.cps.toList.length=36:=by symm
def RG:DY.cps.toList.Nodup:=by symm
def XN (c:Nat)(n:Int)(h0:0<=n)(h7:n<=7):MulOk ⟨#[c]⟩ n:=by
 have e:n=0\/n=1\/n=2\/n=3\/n=4\/n=5\/n=6\/n=7:=by ext
 have l:(⟨#[c]⟩:Str).length=1:=rfl
 unfold MulOk
 rw[l]
 rcases e with rfl|rfl|rfl|rfl|rfl|rfl|rfl|rfl<;>decide
def mul_list (c:Nat)(n:Int)(h0:0<=n)(h7:n<=7):(Txt.mul ⟨#[c]⟩ n).cps.toList=List.replicate n.toNat c:=by
 have e:n=0\/n=1\/n=2\/n=3\/n=4\/n=5\/n=6\/n=7:=by ext
 rcases e with rfl|rfl|rfl|rfl|rfl|rfl|rfl|rfl<;>rfl
def Qj {x:Str}{j:Int}(h0:0<=j)(h1:j<=x.length):(Txt.slice x none (some j)).cps.toList=x.cps.toList.take j.toNat:=by
 have h:=slice_closes_to (x:=x) (j:=j) ⟨h0,by simpa[Str.length] using h1⟩
 rw[eq_of_beq h]
 simp
def Nx {x:Str}{j:Int}(h0:0<=j)(h1:j<=x.length):(Txt.slice x (some j) none).cps.toList=x.cps.toList.drop j.toNat:=by
 rw[slice_from_eq h0 h1 rfl]
 apply List.take_of_length_le
 simp[Str.length]
 ext
def wrd (A B:Str)(fi st:Int)(k:Nat):Str:=A++⟨#[DY.cps.toList.getD ((fi+st*k) % 36).toNat 0]⟩++B
def Na (A B:Str)(fi st:Int)(k:Nat):(wrd A B fi st k).cps.toList=A.cps.toList++[DY.cps.toList.getD ((fi+st*k) % 36).toNat 0]++B.cps.toList:=by
 unfold wrd
 rw[Str.cps_append,Str.cps_append,Array.toList_append,Array.toList_append]
def G2 {j:Int}(h0:0<=j)(h1:j<36):DY.cps.toList[j.toNat]?=some (DY.cps.toList.getD j.toNat 0):=by
 have h:j.toNat<DY.cps.toList.length:=by rw[Gz];ext
 rw[AW,Al h]
 rfl
def JY (st:Int):Prop:=st=1\/st=5\/st=7\/st=11\/st=13\/st=17
def Sg {fi st:Int}{j k:Nat}(hs:JY st)(hj:j<6)(hk:k<6)(e:(fi+st*j) % 36=(fi+st*k) % 36):j=k:=by
 rcases hs with rfl|rfl|rfl|rfl|rfl|rfl<;>ext
def Te {A B:Str}{fi st:Int}{j k:Nat}(hs:JY st)(hj:j<6)(hk:k<6)(e:wrd A B fi st j=wrd A B fi st k):j=k:=by
 have h:=congrArg (λs:Str=>s.cps.toList) e
 simp only[Na,List.append_cancel_right_eq,List.append_cancel_left_eq,List.cons.injEq,and_true] at h
 refine Sg (fi:=fi) hs hj hk ?_
 have a0:=BL (fi+st*j) (show(36:Int)≠0 by decide)
 have a1:=BA (fi+st*j) (show(0:Int)<36 by decide)
 have b0:=BL (fi+st*k) (show(36:Int)≠0 by decide)
 have b1:=BA (fi+st*k) (show(0:Int)<36 by decide)
 have e1:=G2 a0 a1
 have e2:=G2 b0 b1
 rw[h,<- e2] at e1
 have l1:((fi+st*j) % 36).toNat<DY.cps.toList.length:=by rw[Gz];ext
 have l2:((fi+st*k) % 36).toNat<DY.cps.toList.length:=by rw[Gz];ext
 rw[Al l1,Al l2] at e1
 have:=(List.getElem_inj RG).mp (AH e1)
 ext
def Tq {A B:Str}{fi st:Int}{k:Nat}{c:Nat}(hc:c∈DY.cps.toList)(hA:∀x∈A.cps.toList,x=c)(hB:∀x∈B.cps.toList,x=c)(hl:A.length+B.length<=7):IsW (wrd A B fi st k):=by
 have h:=Na A B fi st k
 have hl':(wrd A B fi st k).length=A.length+1+B.length:=by
  unfold wrd
  rw[PySem.Str.length_append,PySem.Str.length_append]
  rfl
 refine⟨by ext,by ext,λx hx=>?_⟩
 rw[h] at hx
 rcases AQ.mp hx with hy|hy
 ·rcases AQ.mp hy with hz|hz
  ·rw[hA x hz];exact hc
  ·rw[Av.mp hz]
   exact Ag (G2 (BL (fi+st*k) (show(36:Int)≠0 by decide)) (BA (fi+st*k) (show(0:Int)<36 by decide)))
 ·rw[hB x hy];exact hc
def Ml (A B:Str)(fi st:Int)(n:Nat):List Str:=(List.range n).map (wrd A B fi st)
def Ue {A B:Str}{fi st:Int}{n:Nat}(hs:JY st)(hn:n<=6):(Ml A B fi st n).Nodup:=by
 unfold Ml
 rw[AG,A5]
 refine BY (λ{a b} ha hb hne e=>hne ?_) (AG.mp List.nodup_range)
 exact Te hs (AN (Bc.mp ha) hn) (AN (Bc.mp hb) hn) e
end K1
namespace PV
open PySem L2 PyProof.Rows K1
def Rr {j:Int}{mu:Sto}(h0:0<=j)(h1:j<36):ixD (.str DY) (.int j) mu=some (.str ⟨#[DY.cps.toList.getD j.toNat 0]⟩,mu):=by
 unfold ixD
 dsimp only
 have h:j.toNat<DY.cps.toList.length:=by rw[Gz];ext
 have e:ixN DY.cps.toList.length j=some j.toNat:=by unfold ixN;rw[if_pos h0,if_pos (by rw[Gz];exact h1)]
 unfold atI
 rw[e,Option.bind_some,G2 h0 h1]
 rfl
def M8 {j:Int}{mu:Sto}(h0:0<=j)(h1:j<36):ixG (.str DY) (.int j) mu=some (.str ⟨#[DY.cps.toList.getD j.toNat 0]⟩,mu):=by
 unfold ixG
 rw[Rr h0 h1]
section
variable {ro:Ro}{mu:Sto}{d e:D}{a b c:Ex}
def G5 (T:String)(d:D)(m1:Sto):Rs D:=if FD m1 d=true then some (.bl (isi T d),m1) else none
@[simp] theorem XD {T:String}:Aay T a ro mu=bM (a ro mu) (G5 T):=rfl
@[simp] theorem YH {T:String}:G5 T .non mu=some (.bl ("NoneType"==T),mu):=by simp[G5,FD,isi,tyN]
@[simp] theorem YI {T:String}{x:Bool}:G5 T (.bl x) mu=some (.bl ("bool"==T||T=="int"),mu):=by simp[G5,FD,isi,tyN]
@[simp] theorem Y9 {T:String}{x:Int}:G5 T (.int x) mu=some (.bl ("int"==T),mu):=by simp[G5,FD,isi,tyN]
@[simp] theorem Ya {T:String}{x:Str}:G5 T (.str x) mu=some (.bl ("str"==T),mu):=by simp[G5,FD,isi,tyN]
@[simp] theorem X1 {T:String}{x:List D}:G5 T (.tup x) mu=some (.bl ("tuple"==T),mu):=by simp[G5,FD,isi,tyN]
@[simp] theorem YM {T:String}{x:List D}:G5 T (.lst x) mu=some (.bl ("list"==T),mu):=by simp[G5,FD,isi,tyN]
@[simp] theorem X3 {T:String}{x y:List D}:G5 T (.dct x y) mu=some (.bl ("dict"==T),mu):=by simp[G5,FD,isi,tyN]
@[simp] theorem Yy {T:String}{x:List D}:G5 T (.set x) mu=some (.bl ("set"==T),mu):=by simp[G5,FD,isi,tyN]
@[simp] theorem Y7 {x y:Bool}:isD (.bl x) (.bl y) mu=some (.bl (decide (x=y)),mu):=by cases x<;>cases y<;>rfl
@[simp] theorem W5 {x y:Bool}:L3 (.bl x) (.bl y) mu=some (.bl (!decide (x=y)),mu):=by cases x<;>cases y<;>rfl
@[simp] theorem ZW {P:Prop} [Decidable P]{q:Bool}:(if P then some (D.bl q,mu) else some (D.bl false,mu))=some (D.bl (decide P&&q),mu):=by
 by_cases c:P<;>simp[c]
@[simp] theorem ZY {P:Prop} [Decidable P]{q:Bool}:(if P then some (D.bl true,mu) else some (D.bl q,mu))=some (D.bl (decide P||q),mu):=by
 by_cases c:P<;>simp[c]
@[simp] theorem Ys {P:Prop} [Decidable P]{q:Bool}:(if P then some (q,mu) else some (false,mu))=some (decide P&&q,mu):=by
 by_cases c:P<;>simp[c]
@[simp] theorem Zd {P:Prop} [Decidable P]{q:Bool}:(if P then some (true,mu) else some (q,mu))=some (decide P||q,mu):=by
 by_cases c:P<;>simp[c]
@[simp] theorem Aat {p q:Px}:eSl a p q ro mu=bM (a ro mu) λd m1=>bM (p ro m1) λlo m2=>bM (q ro m2) λhi m3=>slD d lo hi m3:=rfl
@[simp] theorem YA:pNo ro mu=some (none,mu):=rfl
def pB:D->Sto->Rs (Option Int)
 |.int i,m1=>some (some i,m1)
 |_,_=>none
@[simp] theorem ZZ:DK a ro mu=bM (a ro mu) pB:=by
 unfold DK
 congr 1
 funext x m
 cases x<;>rfl
@[simp] theorem ZC {i:Int}:pB (.int i) mu=some (some i,mu):=rfl
@[simp] theorem U9 {ds:List D}{lo hi:Option Int}:slD (.tup ds) lo hi mu=some (.tup (cutD ds lo hi),mu):=rfl
@[simp] theorem X9 {ds:List D}{lo hi:Option Int}:slD (.lst ds) lo hi mu=some (.lst (cutD ds lo hi),mu):=rfl
@[simp] theorem Wh {α:Type}{xs:List α}:cutD xs (some 1) none=xs.drop 1:=by
 unfold cutD
 have:=HT.LC xs.length 0 1
 rw[show(some (1:Int))=some ((1:Nat):Int) from rfl,this,HT.Kb]
 cases xs with
 |nil=>rfl
 |cons a r=>simp
theorem Fm {n:Nat}{ds:List D}:Fy n ds=true↔∀d∈ds,DZ n d=true:=by
 induction ds with
 |nil=>simp[Fy]
 |cons d ds ih=>simp[Fy,ih]
mutual
theorem QY {n m:Nat}(h:n<=m):∀{d:D},DZ n d=true->DZ m d=true
 |.non,_=>rfl
 |.bl _,_=>rfl
 |.int _,_=>rfl
 |.str _,_=>rfl
 |.ref k,e=>by
  simp only[DZ,Aj] at e ⊢
  ext
 |.tup ds,e=>by
  simp only[DZ] at e ⊢
  exact FE h e
 |.lst ds,e=>by
  simp only[DZ] at e ⊢
  exact FE h e
 |.set ds,e=>by
  simp only[DZ] at e ⊢
  exact FE h e
 |.dct ks ds,e=>by
  simp only[DZ,Ac] at e ⊢
  exact⟨FE h e.1,FE h e.2⟩
theorem FE {n m:Nat}(h:n<=m):∀{ds:List D},Fy n ds=true->Fy m ds=true
 |[],_=>rfl
 |d::ds,e=>by
  simp only[Fy,Ac] at e ⊢
  exact⟨QY h e.1,FE h e.2⟩
end
end
end PV
namespace PV
open PySem L2 PyProof.Rows K1
variable {mu:Sto}
def ndB (ds:List D):Bool:=decide (ds.Nodup)
theorem Sq (ds:List D):∀r:List D,(ds.foldl Dx r).length<=r.length+ds.length/\((ds.foldl Dx r).length=r.length+ds.length->(∀d∈ds,d∉r)/\ds.Nodup):=by
 induction ds with
 |nil=>intro r;simp
 |cons d ds ih =>
  intro r
  rw[List.foldl_cons]
  by_cases c:d∈r
  ·rw[show Dx r d=r by unfold Dx;rw[if_pos c]]
   have:=(ih r).1
   refine⟨by simp;ext,λh=>?_⟩
   simp at h
   ext
  ·rw[show Dx r d=r++[d] by unfold Dx;rw[if_neg c]]
   obtain⟨h1,h2⟩:=ih (r++[d])
   simp only[Ar,List.length_cons,List.length_nil] at h1 h2 ⊢
   refine⟨by ext,λh=>?_⟩
   obtain⟨h3,h4⟩:=h2 (by ext)
   refine⟨λe he=>?_,Br.mpr ⟨λhd=>h3 d hd (by simp),h4⟩⟩
   rcases Ap.mp he with rfl|he
   ·exact c
   ·exactλhr=>h3 e he (by simp[hr])
theorem PH (ds:List D):∀r:List D,(∀d∈ds,d∉r)->ds.Nodup->ds.foldl Dx r=r++ds:=by
 induction ds with
 |nil=>intro r _ _;simp
 |cons d ds ih =>
  intro r h1 h2
  rw[List.foldl_cons,show Dx r d=r++[d] by unfold Dx;rw[if_neg (h1 d (.head _))]]
  rw[Br] at h2
  rw[ih (r++[d]) (λe he hr=>?_) h2.2]
  ·simp
  ·rcases AQ.mp hr with hr|hr
   ·exact h1 e (.tail _ he) hr
   ·rw[Av.mp hr] at he
    exact h2.1 he
def Jq {ds:List D}(h:ds.Nodup):Gu ds=ds:=by
 unfold Gu
 rw[PH ds [] (λ_ _ h=>nomatch h) h]
 rfl
def QD {ds:List D}:(Gu ds).length=ds.length↔ds.Nodup:=by
 constructor
 ·intro h
  refine((Sq ds []).2 ?_).2
  rw[List.length_nil,Bb]
  exact h
 ·intro h
  rw[Jq h]
end PV
local macro_rules(kind:=Lean.Parser.Tactic.simpAutoUnfold)|s=>do
 let l:=s[4]
 let n:=@Lean.mkNullNode
 let f:=λb (s:String)=>#[.node .none `Lean.Parser.Tactic.simpLemma #[n b,n #[],Lean.mkIdent s.toName],.atom .none ","]
 return .node .none `Lean.Parser.Tactic.simp #[.atom .none "simp",s[1],s[2],n #[.atom .none "only"],l.setArg 1 (n (("Mz ZA ZP ZE ZM ZF ZG ZR Aaa Aam Z8 Zp YL YC Zh YQ XB z_C Zk Zx Z1 Yt Yz YG Aad VC Zf Z6 Zn ZV Aar YT ZK Xb Wx Za Y6 Wu Xu W6 Xn Y0 Yl WO Wt ZL Z7 Ym Y2 Xw Y3 Xa Vs WD Yd Vd WM Wa WW Tv YN Aao ZT ZO Z2 Z5 Aae SY Zq Zg YB XU Yq Y8 VZ Wz YZ XC Yi WX V4 WC Ve Vl W3 WI UN Yp XF XE V7 Vg V6 Nw WN XD YH YI Y9 Ya X1 YM X3 Yy Y7 W5 ZW ZY Ys Zd Aat YA ZZ ZC U9 X9 Wh Yx XA if_true Bd reduceIte Ay Bool.true_eq_false List.set_cons_zero List.set_cons_succ A3 List.map_nil List.length_cons List.length_nil Nat.reduceAdd Nat.reduceSub List.replicate_succ List.replicate_zero List.reduceReplicate List.cons_append List.nil_append Option.map_some B0 Bool.not_false List.getD_cons_zero List.getD_cons_succ Bb decide_true decide_false Bool.decide_eq_true Bool.true_and Bool.false_and Bool.true_or Bool.false_or Bool.or_false Bool.and_true String.reduceBEq".splitOn).foldr (λs a=>f #[] s++a) (f #[.node .none `Lean.Parser.Tactic.simpPre #[.atom .none "↓"]] "reduceIte"++l[1].getArgs))),s[5]]
namespace PG
open PySem L2 PV PyProof.Rows K1
variable {mu:Sto}
def sgB (c:Nat):Bool:=decide (c∈DY.cps.toList)
def sgs (x:Str):Bool:=x.cps.toList.all sgB
def wB (x:Str):Bool:=(decide (1<=(x.length:Int))&&decide ((x.length:Int)<=8))&&sgs x
def HA:D->Bool
 |.str x=>wB x
 |_=>false
def Iz {x:Str}:wB x=true↔IsW x:=by
 unfold wB sgs
 simp only[Ac,Aj,AB,sgB]
 constructor
 ·exactλ⟨⟨h1,h2⟩,h3⟩=>⟨by ext,by ext,h3⟩
 ·exactλh=>⟨⟨by have:=h.lo;ext,by have:=h.hi;ext⟩,h.al⟩
def Fz (lo hi:Int):D->Bool
 |.tup ds=>decide (lo<=(ds.length:Int))&&decide ((ds.length:Int)<=hi)
 |_=>false
def Aak:D->Bool
 |.tup ds=>ds.all HA
 |_=>false
theorem PC {ds:List D}(h:ds.all HA=true):∃ss:List Str,ds=ss.map D.str/\∀x∈ss,IsW x:=by
 induction ds with
 |nil=>exact⟨[],rfl,λ_ h=>nomatch h⟩
 |cons d ds ih =>
  rw[List.all_cons,Ac] at h
  obtain⟨ss,rfl,hs⟩:=ih h.2
  cases d with
  |str x =>
   refine⟨x::ss,rfl,λy hy=>?_⟩
   rcases Ap.mp hy with rfl|hy
   ·exact Iz.mp h.1
   ·exact hs y hy
  |_=>simp[HA] at h
def GX (d:D):Bool:=Fz 1 4 d&&(Aak d&&match d with|.tup ds=>ndB ds|_=>false)
def Ko:D->Bool
 |.tup [a,b]=>HA a&&GX b
 |_=>false
theorem PY {d:D}(h:Fz 2 2 d=true):∃a b,d=.tup [a,b]:=by
 cases d with
 |tup ds =>
  simp only[Fz,Ac,Aj] at h
  match ds,h with
  |[a,b],_=>exact⟨a,b,rfl⟩
  |[],h=>simp at h
  |[a],h=>simp at h
  |a::b::c::ds,h=>simp at h;ext
 |_=>simp[Fz] at h
theorem QV {d:D}(h:Fz 3 3 d=true):∃a b c,d=.tup [a,b,c]:=by
 cases d with
 |tup ds =>
  simp only[Fz,Ac,Aj] at h
  match ds,h with
  |[a,b,c],_=>exact⟨a,b,c,rfl⟩
  |[],h=>simp at h
  |[a],h=>simp at h
  |[a,b],h=>simp at h
  |a::b::c::d::ds,h=>simp at h;ext
 |_=>simp[Fz] at h
def HS:D->D
 |.tup (a::_)=>a
 |_=>.non
def UW:D->Bool
 |.tup ds=>(Fz 1 4 (.tup ds)&&ds.all Ko)&&ndB (ds.map HS)
 |_=>false
def Yu:D->Int
 |.tup ds=>ds.length
 |_=>0
def VN (k c:D):Bool:=match k with
 |.int i=>decide (1<=i)&&decide (i<=Yu c)
 |_=>false
def H0:D->Bool
 |.tup [n,c,k]=>(HA n&&UW c)&&VN k c
 |_=>false
def ltS:D->D->Bool
 |.str x,.str y=>decide (x.cps.toList<y.cps.toList)
 |_,_=>false
def IY (ds:List D):Bool:=(ds.zip ds.tail).all λp=>ltS p.1 p.2
def LM:D->Bool
 |.tup ds=>(Fz 1 4 (.tup ds)&&ds.all H0)&&IY (ds.map HS)
 |_=>false
end PG
namespace PV
open PySem L2 PyProof.Rows K1
theorem Iv (ss:List Str):F1 (ss.map D.str)=true:=by
 induction ss with
 |nil=>rfl
 |cons x xs ih=>simp[F1,DW,ih]
def Il {ss:List Str}:(ss.map D.str).Nodup↔ss.Nodup:=by
 rw[AG,AG,A5]
 constructor
 ·exactλh=>h.imp λn e=>n (by rw[e])
 ·exactλh=>h.imp λn e=>n (by injection e)
end PV
namespace PG
open PySem L2 PV PyProof.Rows K1
variable {mu:Sto}
end PG
namespace PV
open PySem L2 PyProof.Rows K1
theorem Mq (ss:List Str):F0 (ss.map D.str)=true:=by
 induction ss with
 |nil=>rfl
 |cons x xs ih=>simp[F0,hsh,ih]
theorem JN (ss:List Str):PyData.depthAll (Dg (ss.map D.str))<=1:=by
 induction ss with
 |nil=>simp[Dg,PyData.depthAll]
 |cons x xs ih=>simp[Dg,toPy,PyData.depthAll,PyData.depth];ext
def OG (x y:Str):ltT (.str x) (.str y)=decide (x.cps.toList<y.cps.toList):=by
 unfold ltT
 rw[show Ds (.str x) (.str y)=GW x y from rfl,Bool.eq_iff_iff,beq_iff_eq,FI,Aj]
def S5 {ss:List Str}(h:ss.length<64):DX (ss.map D.str)=true:=by
 unfold DX
 simp only[Ac,Aj,Af,AB,Bool.or_eq_true,JC]
 refine⟨⟨⟨h,λd hd=>?_⟩,λd hd e he=>?_⟩,.inl λd hd=>?_⟩
 ·obtain⟨x,_,rfl⟩:=Ah.mp hd
  rfl
 ·obtain⟨x,_,rfl⟩:=Ah.mp hd
  obtain⟨y,_,rfl⟩:=Ah.mp he
  rfl
 ·obtain⟨x,_,rfl⟩:=Ah.mp hd
  rfl
def Wm {ss:List Str}{mu:Sto}(h:ss.length<64):Jk [.lst (ss.map D.str)] mu=some (.lst (Dv (ss.map D.str)),mu):=by
 simp only[Jk,FK,Nz,Gg,D5,S5 h,if_true]
def SM {ss:List Str}{mu:Sto}(h:ss.length<64):GO [.lst (ss.map D.str)] mu=some (.lst (Dv (ss.map D.str)),mu):=by
 unfold GO
 rw[Wm h]
def PN {es:List D}{ss:List Str}(h:es.Perm (ss.map D.str)):∃ts:List Str,es=ts.map D.str/\ts.Perm ss:=by
 have al:∀d∈es,∃x,d=D.str x:=λd hd=>by
  obtain⟨x,_,e⟩:=Ah.mp (h.mem_iff.mp hd)
  exact⟨x,e.symm⟩
 have:∃ts:List Str,es=ts.map D.str:=by
  clear h
  induction es with
  |nil=>exact⟨[],rfl⟩
  |cons d es ih =>
   obtain⟨x,rfl⟩:=al d (.head _)
   obtain⟨ts,rfl⟩:=ih λd hd=>al d (.tail _ hd)
   exact⟨x::ts,rfl⟩
 obtain⟨ts,rfl⟩:=this
 refine⟨ts,rfl,?_⟩
 have:=h.map (λd=>match d with|.str x=>x|_=>(⟨#[]⟩:Str))
 simpa[AK,Function.comp_def] using this
end PV
namespace PG
open PySem L2 PV PyProof.Rows K1
variable {mu:Sto}
theorem LU:∀(ss:List Str),IY (ss.map D.str)=true↔ss.Pairwise λx y=>x.cps.toList<y.cps.toList
 |[]=>by simp[IY]
 |[x]=>by simp[IY]
 |x::y::ss=>by
  have ih:=LU (y::ss)
  have e:IY ((x::y::ss).map D.str)=(decide (x.cps.toList<y.cps.toList)&&IY ((y::ss).map D.str)):=rfl
  rw[e,Ac,ih,Aj]
  constructor
  ·intro ⟨h1,h2⟩
   refine Be.mpr ⟨λz hz=>?_,h2⟩
   rcases Ap.mp hz with rfl|hz
   ·exact h1
   ·exact List.lt_trans h1 ((Be.mp h2).1 z hz)
  ·exactλh=>⟨(Be.mp h).1 y (by simp),(Be.mp h).2⟩
def Q8 {ss:List Str}(h:ss.Pairwise λx y=>x.cps.toList<y.cps.toList):ss.Nodup:=by
 rw[AG]
 exact h.imp λl e=>by subst e;exact List.lt_irrefl _ l
def Uj (ss:List Str):decide (ss.map D.str=Dv (Gu (ss.map D.str)))=IY (ss.map D.str):=by
 have ord:∀(ts:List Str),∀d∈ts.map D.str,FA d=true:=λts d hd=>by
  obtain⟨x,_,rfl⟩:=Ah.mp hd
  rfl
 rw[Bool.eq_iff_iff,Aj,LU]
 constructor
 ·intro h
  have p:=Df (Gu (ss.map D.str))
  rw[<- h] at p
  have nd:=QD.mp p.length_eq.symm
  have up:=Jw (Gu (ss.map D.str))
  rw[<- h,A5] at up
  have ne:=AG.mp (Il.mp nd)
  refine(up.and ne).imp λ{x y} ⟨l,n⟩=>?_
  have l':¬ y.cps.toList<x.cps.toList:=by
   unfold leT at l
   rw[OG] at l
   simpa using l
  have c:=IM x y
  cases q:GW x y with
  |lt=>exact FI.mp q
  |eq=>exact(n (Hk.mp q)).elim
  |gt=>exact(l' (Jr.mp q)).elim
 ·intro h
  rw[Jq (Il.mpr (Q8 h))]
  refine HZ (ord ss) (BX _) ?_
  rw[A5]
  refine h.imp λ{x y} l=>?_
  unfold leT
  rw[OG]
  have:=List.lt_asymm l
  simp[this]
end PG
namespace PV
open PySem L2 PyProof.Rows K1
variable {mu:Sto}
def Rw {i j:Int}(h:CMul i j):F8 (.int i) (.int j) mu=some (.int (i*j),mu):=by
 unfold F8
 dsimp only
 rw[if_pos h]
def Q6 {i j:Int}(h:L7 i j):Ke (.int i) (.int j) mu=some (.int (i / j),mu):=by
 unfold Ke
 dsimp only
 rw[if_pos h]
theorem MN {o i:Ex}{d:D}{ro:Ro}:gIx o i d ro mu=bM (o ro mu) λx m1=>bM (i ro m1) λe m2=>bM (putG x e d m2) λ_ m3=>some (ro,m3):=rfl
def U2 {k:Nat}{ds:List D}{v:D}{j:Nat}(h:mu[k]?=some (.lst ds))(hj:j<ds.length):putG (.ref k) (.int j) v mu=some ((),mu.set k (.lst (ds.set j v))):=by
 have e:ixN ds.length (j:Int)=some j:=by
  unfold ixN
  rw[if_pos (by ext),if_pos (by ext),Int.toNat_natCast]
 simp only[putG,h,Uc,e]
def O6 {k:Nat}{ds:List D}{d:D}{j:Nat}(h:mu[k]?=some (.lst ds))(hd:ds[j]?=some d):ixG (.ref k) (.int j) mu=some (d,mu):=by
 have:=(Ae.mp hd).1
 have e:ixN ds.length (j:Int)=some j:=by
  unfold ixN
  rw[if_pos (by ext),if_pos (by ext),Int.toNat_natCast]
 have:ixD (.ref k) (.int j) mu=some (d,mu):=by
  simp only[ixD,D5,h,atI,e,Option.bind_some,hd,Option.map_some]
 unfold ixG
 rw[this]
def FT {k:Nat}{o o':MO}(h:mu[k]?=some o):(mu.set k o')[k]?=some o':=by
 have:=(Ae.mp h).1
 simp[this]
def HandOk (mu:Sto)(k n:Nat):Prop:=∃a b c:Int,mu[k]?=some (.lst [.int a,.int b,.int c])/\(-(2 ^ 63)<b/\b<2 ^ 63)/\0<=c/\c+n<2 ^ 40
def HandOk.mono {mu:Sto}{k n n':Nat}(h:HandOk mu k n)(l:n'<=n):HandOk mu k n':=by
 obtain⟨a,b,c,h1,h2,h3,h4⟩:=h
 exact⟨a,b,c,h1,h2,h3,by ext⟩
def HandOk.lt {k n:Nat}(h:HandOk mu k n):k<mu.length:=by
 obtain⟨a,b,c,h1,_⟩:=h
 exact(Ae.mp h1).1
def Flat (mu:Sto):Prop:=∀(j:Nat) (o:MO),mu[j]?=some o->MT 0 o=true
structure Fr (k n:Nat) (mu mu':Sto):Prop where
 hand:HandOk mu' k n
 keep:∀j,j≠k->mu'[j]?=mu[j]?
 len:mu'.length=mu.length
def Fr.refl {k n:Nat}{mu:Sto}(h:HandOk mu k n):Fr k n mu mu:=⟨h,λ_ _=>rfl,rfl⟩
theorem Fr.trans {k n n':Nat}{a b c:Sto}(x:Fr k n a b)(y:Fr k n' b c):Fr k n' a c:=⟨y.hand,λj hk=>(y.keep j hk).trans (x.keep j hk),y.len.trans x.len⟩
theorem Fr.mono {k n n':Nat}{a b:Sto}(x:Fr k n a b)(l:n'<=n):Fr k n' a b:=⟨x.hand.mono l,x.keep,x.len⟩
def Fr.flat {k n:Nat}{a b:Sto}(x:Fr k n a b)(h:Flat a):Flat b:=by
 intro j o e
 by_cases c:j=k
 ·subst c
  obtain⟨_,_,_,h1,_⟩:=x.hand
  rw[h1] at e
  cases e
  rfl
 ·rw[x.keep j c] at e
  exact h j o e
def Run (r:Rs D)(k n:Nat)(mu:Sto)(P:D->Prop):Prop:=∃d mu',r=some (d,mu')/\Fr k n mu mu'/\P d
def Qm {ds:List D}{t:Int}(h0:0<=t)(h1:t<ds.length):∃d,d∈ds/\ds[t.toNat]?=some d:=by
 have h:t.toNat<ds.length:=by ext
 exact⟨ds[t.toNat],Cb h,Al h⟩
def Ry {ds:List D}{d:D}{t:Int}(s:D)(hs:s=.lst ds\/s=.tup ds)(h0:0<=t)(h:ds[t.toNat]?=some d):ixG s (.int t) mu=some (d,mu):=by
 have:=RY (mu:=mu) s hs h
 rwa[Int.toNat_of_nonneg h0] at this
end PV
namespace PG
open PySem L2 PV PyProof.Rows K1
variable {mu:Sto}
def DO {k n:Nat}{m:Int}(h:HandOk mu k (n+1))(m0:0<m)(m1:m<1073741824):Run (CN [.ref k,.int m] mu) k n mu λd=>∃t:Int,d=.int t/\0<=t/\t<m:=by
 obtain⟨a,b,c,h1,h2,h3,h4⟩:=h
 have hk:k<mu.length:=(Ae.mp h1).1
 have fr:∀a' c':Int,0<=c'->c'<=c+1->Fr k n mu (mu.set k (.lst [.int a',.int b,.int c'])):=λa' c' z1 z2=>⟨⟨a',b,c',FT h1,h2,z1,by ext⟩,λj hj=>by rw[AD (Ne.symm hj)],by simp⟩
 have i0:ixG (.ref k) (.int 0) mu=some (.int a,mu):=O6 (j:=0) h1 rfl
 by_cases ha:0<a
 ·refine⟨.int (a % m),_,?_,fr (a / m) c h3 (by ext),a % m,rfl,BL _ (by ext),BA _ m0⟩
  have cd:L7 a m:=⟨m0,m1⟩
  have p0:∀v,putG (.ref k) (.int 0) v mu=some ((),mu.set k (.lst [v,.int b,.int c])):=λv=>U2 (j:=0) h1 (by simp)
  have ha':decide (0<a)=true:=by simp[ha]
  simp![CN,GC,i0,ha',IZ m0,Q6 cd,MN,p0]
 ·refine⟨.int (((b*(48271+2*(c+1)*(c+1)+65537*(c+1)) % 2305843009213693921*(b*(48271+2*(c+1)*(c+1)+65537*(c+1)) % 2305843009213693921 % 1000003+(c+1)*99991+11) % 2305843009213693907) / 97+(b*(48271+2*(c+1)*(c+1)+65537*(c+1)) % 2305843009213693921*(b*(48271+2*(c+1)*(c+1)+65537*(c+1)) % 2305843009213693921 % 1000003+(c+1)*99991+11) % 2305843009213693907) / 1000033) % m),_,?_,fr a (c+1) (by ext) (by ext),_,rfl,BL _ (by ext),BA _ m0⟩
  have hs:∀o,(mu.set k o)[k]?=some o:=λo=>FT h1
  have c1:CMul 2 (c+1):=.inl ⟨by decide,by decide⟩
  have c2:CMul (2*(c+1)) (c+1):=.inl ⟨by ext,by ext⟩
  have c3:CMul 65537 (c+1):=.inl ⟨by decide,by decide⟩
  have c4:∀z,CMul b z:=λz=>.inl ⟨by ext,by ext⟩
  have c5:CMul (c+1) 99991:=.inr ⟨by decide,by decide⟩
  have c6:∀y z:Int,CMul (y % 2305843009213693921) z:=λy z=>.inl ⟨by ext,by ext⟩
  have c7:∀y:Int,L7 y 97:=λy=>⟨by decide,by decide⟩
  have c8:∀y:Int,L7 y 1000033:=λy=>⟨by decide,by decide⟩
  have i2:ixG (.ref k) (.int 2) mu=some (.int c,mu):=O6 (j:=2) h1 rfl
  have p2:∀v,putG (.ref k) (.int 2) v mu=some ((),mu.set k (.lst [.int a,.int b,v])):=λv=>U2 (j:=2) h1 (by simp)
  have j1:∀v,ixG (.ref k) (.int 1) (mu.set k (.lst [.int a,.int b,v]))=some (.int b,mu.set k (.lst [.int a,.int b,v])):=λv=>O6 (j:=1) (hs _) rfl
  have j2:∀v,ixG (.ref k) (.int 2) (mu.set k (.lst [.int a,.int b,v]))=some (v,mu.set k (.lst [.int a,.int b,v])):=λv=>O6 (j:=2) (hs _) rfl
  have ha':decide (0<a)=false:=by simp[ha]
  simp![CN,GC,i0,ha',IZ,IZ m0,Q6,Rw,MN,i2,p2,j1,j2,c1,c2,c3,c4,c5,c6,c7,c8,Int.reduceLT]
def pick_run {k n:Nat}{s:D}{ds:List D}(hs:s=.lst ds\/s=.tup ds)(hn:ds≠[])(hl:ds.length<1073741824)(h:HandOk mu k (n+1)):Run (Dl [.ref k,s] mu) k n mu λd=>d∈ds:=by
 have pos:0<ds.length:=List.length_pos_iff.mpr hn
 obtain⟨_,mu',e,fr,t,rfl,t0,t1⟩:=DO (m:=ds.length) h (by ext) (by ext)
 obtain⟨d,hd,ed⟩:=Qm t0 t1
 refine⟨d,mu',?_,fr,hd⟩
 have ix:=Ry (mu:=mu') s hs t0 ed
 rcases hs with rfl|rfl
 ·simp![Dl,GG,e,ix]
 ·simp![Dl,GG,e,ix]
def Rm:∀c∈DY.cps.toList,decide (c<0x110000)=true:=by symm
def Ki {x:Str}(h:∀c∈x.cps.toList,c∈DY.cps.toList):PyData.strOk x=true:=by
 unfold PyData.strOk
 rw[<- Array.all_toList,AB]
 exactλc hc=>Rm c (h c hc)
def Rh {x y:Str}(h:x.length+y.length<=sizeLine):Dw (.str x) (.str y) mu=some (.str (x++y),mu):=by
 simp only[Dw,h,if_true]
def U0 {x:Str}{lo hi:Option Int}(h:PyData.strOk (Txt.slice x lo hi)=true):slD (.str x) lo hi mu=some (.str (Txt.slice x lo hi),mu):=by
 simp only[slD,h,if_true]
def II {k n:Nat}{many:Int}(m0:0<=many)(m6:many<=6)(h:HandOk mu k (n+5)):Run (Ez [.ref k,.int many,.int 8] mu) k n mu λd=>∃ws:List Str,d=.lst (ws.map D.str)/\(ws.length:Int)=many/\ws.Nodup/\∀x∈ws,IsW x:=by
 obtain⟨_,mu1,e1,f1,fi,rfl,a0,a1⟩:=DO (m:=36) (n:=n+4) h (by decide) (by decide)
 obtain⟨st,mu2,e2,f2,hst⟩:=pick_run (s:=.lst [.int 1,.int 5,.int 7,.int 11,.int 13,.int 17]) (n:=n+3) (.inl rfl) (by simp) (by decide) f1.hand
 obtain⟨_,mu3,e3,f3,si,rfl,b0,b1⟩:=DO (m:=36) (n:=n+2) f2.hand (by decide) (by decide)
 obtain⟨mv,mu4,e4,f4,hmv⟩:=pick_run (s:=.lst [.int 0,.int 1,.int 0,.int 2,.int 7]) (n:=n+1) (.inl rfl) (by simp) (by decide) f3.hand
 obtain⟨s',rfl,hs⟩:∃s':Int,st=.int s'/\JY s':=by
  simp only[Ap,AR,BM] at hst
  unfold JY
  rcases hst with rfl|rfl|rfl|rfl|rfl|rfl<;>exact⟨_,rfl,by decide⟩
 obtain⟨v,rfl,v0,v7⟩:∃v:Int,mv=.int v/\0<=v/\v<=7:=by
  simp only[Ap,AR,BM] at hmv
  rcases hmv with rfl|rfl|rfl|rfl|rfl<;>exact⟨_,rfl,by decide,by decide⟩
 have hmin:M1 [.int 7,.int v] mu4=some (.int v,mu4):=by
  have:(if v<7 then v else 7)=v:=by split<;>ext
  simp only[M1,PV.ints2,Option.map_some,this]
 obtain⟨ch,hc,ix3⟩:∃ch,ch∈DY.cps.toList/\ixG (.str (Str.ofString "abcdefghijklmnopqrstuvwxyz0123456789")) (.int si) mu3=some (.str ⟨#[ch]⟩,mu3):=⟨_,Ag (G2 b0 b1),M8 b0 b1⟩
 have len:(Txt.mul ⟨#[ch]⟩ v).length=v.toNat:=by
  have:=congrArg List.length (mul_list (ch) v v0 v7)
  simpa[Str.length] using this
 generalize hst:Txt.mul ⟨#[ch]⟩ v=stem at len
 have stl:stem.cps.toList=List.replicate v.toNat (ch):=by rw[<- hst];exact mul_list _ v v0 v7
 have stAll:∀x∈stem.cps.toList,x=ch:=λx hx=>by rw[stl] at hx;exact(List.mem_replicate.mp hx).2
 obtain⟨_,mu5,e5,f5,at',rfl,c0,c1⟩:=DO (m:=(stem.length:Int)+1) (n:=n) f4.hand (by ext) (by ext)
 have at2:at'<=stem.length:=by ext
 have sl1:=Qj (x:=stem) c0 at2
 have sl2:=Nx (x:=stem) c0 at2
 have allA:∀x∈(Txt.slice stem none (some at')).cps.toList,x=ch:=λx hx=>stAll x (by rw[sl1] at hx;exact List.mem_of_mem_take hx)
 have allB:∀x∈(Txt.slice stem (some at') none).cps.toList,x=ch:=λx hx=>stAll x (by rw[sl2] at hx;exact List.mem_of_mem_drop hx)
 have lens:(Txt.slice stem none (some at')).length+(Txt.slice stem (some at') none).length<=7:=by
  have l1:=congrArg List.length sl1
  have l2:=congrArg List.length sl2
  simp only[Array.length_toList,AA,List.length_drop] at l1 l2
  have ls:stem.cps.size=v.toNat:=len
  unfold Str.length
  ext
 refine⟨.lst ((Ml (Txt.slice stem none (some at')) (Txt.slice stem (some at') none) fi s' many.toNat).map D.str),mu5,?_,(((f1.trans f2).trans f3).trans f4).trans f5,_,rfl,by simp[Ml];ext,Ue hs (by ext),λx hx=>?_⟩
 ·have mo:MulOk ⟨#[ch]⟩ v:=XN _ v v0 v7
  have okm:PyData.strOk stem=true:=Ki λc h=>by rw[stAll c h];exact hc
  have okA:PyData.strOk (Txt.slice stem none (some at'))=true:=Ki λc h=>by rw[allA c h];exact hc
  have okB:PyData.strOk (Txt.slice stem (some at') none)=true:=Ki λc h=>by rw[allB c h];exact hc
  have zl:stem.length<=sizeLine:=by rw[AO];ext
  have lc:F9 none mu5 (gNm 0) tY (CJ Dw (CJ Dw (eSl (CD 1) pNo (DK (CD 2))) (CJ ixG (CD 3) (CJ Gr (CJ Dw (CD 4) (CJ F8 (CD 5) (CD 0))) (eC (.int 36))))) (eSl (CD 1) (DK (CD 2)) pNo)) [none,some (.str stem),some (.int at'),some (.str DY),some (.int fi),some (.int s')] (E4 0 many.toNat) mu5=some ((Ml (Txt.slice stem none (some at')) (Txt.slice stem (some at') none) fi s' many.toNat).map D.str,mu5):=by
   have ew:(Ml (Txt.slice stem none (some at')) (Txt.slice stem (some at') none) fi s' many.toNat).map D.str=(E4 0 many.toNat).map λd=>match d with|.int i=>.str (wrd (Txt.slice stem none (some at')) (Txt.slice stem (some at') none) fi s' i.toNat)|_=>.non:=by
    unfold Ml E4
    rw[AK,AK]
    refine Bl λj _=>?_
    simp
   rw[ew]
   refine Kh _ _ λd hd=>⟨_,rfl,?_⟩
   unfold E4 at hd
   obtain⟨j,hj,rfl⟩:=Ah.mp hd
   have i0:=BL (fi+s'*(j:Int)) (show(36:Int)≠0 by decide)
   have i1:=BA (fi+s'*(j:Int)) (show(0:Int)<36 by decide)
   have ix:=M8 (mu:=mu5) i0 i1
   have cm:CMul s' (j:Int):=.inl (by rcases hs with rfl|rfl|rfl|rfl|rfl|rfl<;>exact⟨by decide,by decide⟩)
   have z1:(Txt.slice stem none (some at')).length+(⟨#[DY.cps.toList.getD ((fi+s'*(j:Int)) % 36).toNat 0]⟩:Str).length<=sizeLine:=by
    rw[AO,show(⟨#[DY.cps.toList.getD ((fi+s'*(j:Int)) % 36).toNat 0]⟩:Str).length=1 from rfl]
    ext
   have z2:(Txt.slice stem none (some at')++(⟨#[DY.cps.toList.getD ((fi+s'*(j:Int)) % 36).toNat 0]⟩:Str)).length+(Txt.slice stem (some at') none).length<=sizeLine:=by
    rw[AO,PySem.Str.length_append,show(⟨#[DY.cps.toList.getD ((fi+s'*(j:Int)) % 36).toNat 0]⟩:Str).length=1 from rfl]
    ext
   simp![U0 okA,U0 okB,Rw cm,IZ,Int.reduceLT,Int.zero_add,ix,Rh z1,Rh z2,Int.toNat_natCast]
   rfl
  have mm:F8 (.str ⟨#[ch]⟩) (.int v) mu4=some (.str stem,mu4):=by
   unfold F8
   dsimp only
   rw[hst,if_pos ⟨mo,zl,okm⟩]
  have rg:=N6 (mu:=mu5) (ro:=[some (.ref k),some (.int many),some (.int 8),some (.str DY),some (.int fi),some (.int s'),some (.str stem),some (.int at')]) (r:=CC (CD 1) CH) (n:=many) (m:=mu5) rfl (by ext) (by rw[AO];ext)
  have rg':iRg (CC (CD 1) CH) [some (.ref k),some (.int many),some (.int 8),some (.str (Str.ofString "abcdefghijklmnopqrstuvwxyz0123456789")),some (.int fi),some (.int s'),some (.str stem),some (.int at')] mu5=some ((E4 0 many.toNat,none),mu5):=rg
  simp![Ez,Ha,e1,e2,e3,ix3,Int.reduceSub,e4,hmin,mm,e5,rg',lc]
 ·unfold Ml at hx
  obtain⟨j,_,rfl⟩:=Ah.mp hx
  exact Tq hc allA allB lens
def Qq {k n:Nat}{ns:List Int}(hk:k<64)(hn:n<2 ^ 39):∃o,EM [.lst (ns.map D.int),.int k] mu=some (.ref mu.length,mu++[o])/\HandOk (mu++[o]) mu.length n:=by
 have fin:∀c:Int,∃a b:Int,sRt (F5 (CC (CJ F8 (CD 2) (CI J9 (CC (CJ geD (CD 2) (CJ Qx (eC (.int 10)) (eC (.int 18)))) CH))) (CC (CJ Dw (CJ Dw (CJ Gr (CD 2) (eC (.int 2305843009213693951))) (CJ F8 (eC (.int 7919)) (CD 1))) (eC (.int 3))) (CC (eC (.int 0)) CH)))) [some (.lst (ns.map D.int)),some (.int k),some (.int c)] mu=some ((.rt (.ref mu.length),[some (.lst (ns.map D.int)),some (.int k),some (.int c)]),mu++[.lst [.int a,.int b,.int 0]])/\(-(2 ^ 63)<b/\b<2 ^ 63):=by
  intro c
  refine⟨c*(if (1000000000000000000:Int)<=c then 1 else 0),c % 2305843009213693951+7919*(k:Int)+3,?_,?_⟩
  ·have p1:O9 10 18:=⟨by decide,by decide,by decide⟩
   have p3:CMul 7919 (k:Int):=.inl ⟨by decide,by decide⟩
   have p4:CMul c (if (1000000000000000000:Int)<=c then 1 else 0):=.inr (by split<;>exact⟨by decide,by decide⟩)
   simp[sRt,F5,CC,CH,CJ,CD,CI,eC,bM,geD,RA,Qx,p1,J9,intOf,F8,p3,Dw,Gr,p4]
  ·have:=BL c (show(2305843009213693951:Int)≠0 by decide)
   have:=BA c (show(0:Int)<2305843009213693951 by decide)
   ext
 have done:∀(a b:Int),(-(2 ^ 63)<b/\b<2 ^ 63)->HandOk (mu++[.lst [.int a,.int b,.int 0]]) mu.length n:=λa b hb=>⟨a,b,0,by simp,hb,Int.le_refl _,by ext⟩
 by_cases c:k<ns.length
 ·have e:ixG (.lst (ns.map D.int)) (.int k) mu=some (.int ns[k],mu):=RY _ (.inl rfl) (by simp[c])
  obtain⟨a,b,e2,hb⟩:=fin ns[k]
  refine⟨_,?_,done a b hb⟩
  have c':decide ((k:Int)<((ns.map D.int).length:Int))=true:=by simp[c]
  generalize hR:sRt (F5 _)=R at e2
  simp only[EM,GK,hR]
  simp![c',e,e2]
 ·obtain⟨a,b,e2,hb⟩:=fin 0
  refine⟨_,?_,done a b hb⟩
  have c':decide ((k:Int)<((ns.map D.int).length:Int))=false:=by simp[c]
  generalize hR:sRt (F5 _)=R at e2
  simp only[EM,GK,hR]
  simp![c',e2]
end PG
namespace PV
open PySem L2 PyProof.Rows K1
variable {mu:Sto}
theorem Er {m0:Sto}{tg:Gx}{body:Sx}(Inv:Nat->Ro->Sto->Prop):∀(ds:List D) (i:Nat) (ro:Ro) (mu:Sto),Inv i ro mu->(∀j d ro mu,ds[j]?=some d->Inv (i+j) ro mu->∃ro1 m1 ro2 m2,tg d ro mu=some (ro1,m1)/\body ro1 m1=some ((.nx,ro2),m2)/\Inv (i+j+1) ro2 m2) ->
  ∃ro' mu',FQ none m0 tg body ds ro mu=some ((.nx,ro'),mu')/\Inv (i+ds.length) ro' mu'
 |[],i,ro,mu,h,_=>⟨ro,mu,rfl,h⟩
 |d::ds,i,ro,mu,h,st=>by
  obtain⟨ro1,m1,ro2,m2,e1,e2,h2⟩:=st 0 d ro mu rfl h
  obtain⟨ro',mu',e3,h3⟩:=Er (m0:=m0) (tg:=tg) (body:=body) Inv ds (i+1) ro2 m2 h2 λj d' ro mu ed hi=>by
   have:=st (j+1) d' ro mu (by simpa using ed) (by rw[show i+(j+1)=i+1+j by ext];exact hi)
   rw[show i+(j+1)+1=i+1+j+1 by ext] at this
   exact this
  refine⟨ro',mu',?_,by rw[List.length_cons,show i+(ds.length+1)=i+1+ds.length by ext];exact h3⟩
  unfold FQ
  rw[e1,DD,e2,DD]
  dsimp only
  rw[Em,if_pos (show gOk none m0 m2 from True.intro),e3]
theorem Kd {n j:Nat}{d:D}(h:(E4 0 n)[j]?=some d):d=.int j/\j<n:=by
 unfold E4 at h
 rw[Am] at h
 cases q:(List.range n)[j]? with
 |none=>rw[q] at h;cases h
 |some k =>
  rw[q] at h
  obtain⟨hj,e⟩:=Ae.mp q
  rw[BF] at hj
  rw[List.getElem_range] at e
  subst e
  exact⟨by simpa using h.symm,hj⟩
def Jt (n:Nat):(E4 0 n).length=n:=by simp[E4]
def append_at {mu':Sto}{r:Nat}{ds ds0:List D}{y:D}(h0:mu[r]?=some (.lst ds0))(h:mu'[r]?=some (.lst ds))(hl:ds.length<sizeLine){ro:Ro}{i:Nat}{e:Ex}(h1:CD i ro mu=some (.ref r,mu))(h2:e ro mu=some (y,mu')):HG (CD i) (CC e CH) ro mu=some (.non,mu'.set r (.lst (ds++[y]))):=by
 have ok:FD mu (.ref r)=true:=by simp[FD,h0]
 have a1:FK [y]=some y:=rfl
 simp only[HG,h1,Mz,ok,if_true,Wx,Xb,h2,a1,h,hl]
def S7 {n x y:Int}(hn:0<n)(h:x % n=y % n)(h1:x-y<n)(h2:y-x<n):x=y:=by
 have e1:=Int.mul_ediv_add_emod x n
 have e2:=Int.mul_ediv_add_emod y n
 have e:n*(x / n-y / n)=x-y:=by rw[Int.mul_sub];ext
 rcases Int.lt_trichotomy (x / n-y / n) 0 with c|c|c
 ·have:n*(x / n-y / n)<=n*(-1):=Int.mul_le_mul_of_nonneg_left (by ext) (by ext)
  ext
 ·rw[c] at e
  ext
 ·have:n*1<=n*(x / n-y / n):=Int.mul_le_mul_of_nonneg_left (by ext) (by ext)
  ext
def rot (ws:List Str)(t:Int)(s:Nat):List Str:=(List.range s).map λj:Nat=>ws.getD (((j:Int)+t) % (ws.length:Int)).toNat ⟨#[]⟩
def JX {ws:List Str}(hw:0<ws.length)(x:Int):ws[(x % (ws.length:Int)).toNat]?=some (ws.getD (x % (ws.length:Int)).toNat ⟨#[]⟩):=by
 have h0:=BL x (show(ws.length:Int)≠0 by ext)
 have h1:=BA x (show(0:Int)<ws.length by ext)
 have h:(x % (ws.length:Int)).toNat<ws.length:=by ext
 rw[AW,Al h]
 rfl
def TC {ws:List Str}{t:Int}{s:Nat}(hw:0<ws.length):∀x∈rot ws t s,x∈ws:=by
 intro x hx
 unfold rot at hx
 obtain⟨j,_,rfl⟩:=Ah.mp hx
 exact Ag (JX hw _)
def QA {ws:List Str}{t:Int}{s:Nat}(hw:0<ws.length)(hd:ws.Nodup)(hs:s<=ws.length):(rot ws t s).Nodup:=by
 unfold rot
 rw[AG,A5]
 refine BY (λ{a b} ha hb hne e=>hne ?_) (AG.mp List.nodup_range)
 rw[Bc] at ha hb
 have a0:=BL ((a:Int)+t) (show(ws.length:Int)≠0 by ext)
 have a1:=BA ((a:Int)+t) (show(0:Int)<ws.length by ext)
 have b0:=BL ((b:Int)+t) (show(ws.length:Int)≠0 by ext)
 have b1:=BA ((b:Int)+t) (show(0:Int)<ws.length by ext)
 have e1:=JX hw ((a:Int)+t)
 have e2:=JX hw ((b:Int)+t)
 rw[e,<- e2] at e1
 have l1:(((a:Int)+t) % (ws.length:Int)).toNat<ws.length:=by ext
 have l2:(((b:Int)+t) % (ws.length:Int)).toNat<ws.length:=by ext
 rw[Al l1,Al l2] at e1
 have h:=(List.getElem_inj hd).mp (AH e1)
 have:=S7 (n:=ws.length) (x:=(a:Int)+t) (y:=(b:Int)+t) (by ext) (by ext) (by ext) (by ext)
 ext
def LH (ws:List Str)(t:Int)(s:Nat):(rot ws t s).length=s:=by simp[rot]
def Qf {ws:List Str}(hw:0<ws.length)(x:Int):ixG (.lst (ws.map D.str)) (.int (x % (ws.length:Int))) mu=some (.str (ws.getD (x % (ws.length:Int)).toNat ⟨#[]⟩),mu):=by
 have h0:=BL x (show(ws.length:Int)≠0 by ext)
 refine Ry (ds:=ws.map D.str) _ (.inl rfl) h0 ?_
 rw[Am,JX hw]
 rfl
mutual
def okD:D->Bool
 |.ref _=>false
 |.tup ds=>decide (ds.length<=1000)&&okL ds
 |.lst ds=>okL ds
 |.dct ks ds=>okL ks&&okL ds
 |.set ds=>okL ds
 |_=>true
def okL:List D->Bool
 |[]=>true
 |d::ds=>okD d&&okL ds
end
mutual
theorem QZ:∀{d:D},okD d=true->DZ 0 d=true
 |.non,_=>rfl
 |.bl _,_=>rfl
 |.int _,_=>rfl
 |.str _,_=>rfl
 |.ref k,e=>by simp[okD] at e
 |.tup ds,e=>by
  simp only[okD,Ac] at e
  simp only[DZ]
  exact Hr e.2
 |.lst ds,e=>by
  simp only[okD] at e
  simp only[DZ]
  exact Hr e
 |.set ds,e=>by
  simp only[okD] at e
  simp only[DZ]
  exact Hr e
 |.dct ks ds,e=>by
  simp only[okD,Ac] at e
  simp only[DZ,Ac]
  exact⟨Hr e.1,Hr e.2⟩
theorem Hr:∀{ds:List D},okL ds=true->Fy 0 ds=true
 |[],_=>rfl
 |d::ds,e=>by
  simp only[okL,Ac] at e
  simp only[Fy,Ac]
  exact⟨QZ e.1,Hr e.2⟩
end
theorem LW {ds:List D}:okL ds=true↔∀d∈ds,okD d=true:=by
 induction ds with
 |nil=>simp[okL]
 |cons d ds ih=>simp[okL,ih]
def Uy (ss:List Str):okL (ss.map D.str)=true:=by
 rw[LW]
 intro d hd
 obtain⟨x,_,rfl⟩:=Ah.mp hd
 rfl
end PV
namespace PG
open PySem L2 PV PyProof.Rows K1
variable {mu:Sto}
def Pl {ss:List Str}(h0:0<ss.length)(h4:ss.length<=4)(hd:ss.Nodup)(hw:∀x∈ss,IsW x):GX (.tup (ss.map D.str))=true:=by
 have W:GX (.tup (ss.map D.str))=(Fz 1 4 (.tup (ss.map D.str))&&((ss.map D.str).all HA&&ndB (ss.map D.str))):=rfl
 rw[W]
 simp only[Ac,Fz,Af,Aj,AB,ndB]
 refine⟨⟨by ext,by ext⟩,λd hd=>?_,Il.mpr hd⟩
 obtain⟨x,hx,rfl⟩:=Ah.mp hd
 exact Iz.mpr (hw x hx)
def Le:Sx:=(CY (Dh (Ep (CC (CJ Dw (eC (.int 1)) (CI CN (CC (CD 0) (CC (CD 3) CH)))) (CC (CI CN (CC (CD 0) (CC (eC (.int 2)) CH))) CH))) (gTp 2 (CM (gNm 13) (CM (gNm 14) DJ)))) (CY (Dh (CI EW (CC (eLC (iRg (CC (CD 13) CH)) 1 [6,14] (gNm 0) (tY) (CJ ixG (CD 1) (CJ Gr (CJ Dw (CD 0) (CD 2)) (CI GL (CC (CD 1) CH))))) CH)) (gNm 15)) (sEx (HG (CD 11) (CC (Ep (CC (CJ ixG (CD 5) (CJ Gr (CJ Dw (CD 12) (CD 10)) (CI GL (CC (CD 5) CH)))) (CC (CD 15) CH))) CH)))))
def Qi {k n R b c j:Nat}{sh:Int}{a nms fnd nm1 x9:D}{ws st:List Str}{cs:List D}{x13 x14 x15:Option D}(hc:1<=c)(hc4:c<=4)(hw:0<ws.length)(hs:st.length=c+1)(sd:st.Nodup)(sW:∀x∈st,IsW x)(hR:mu[R]?=some (.lst cs))(hcs:cs.length<100)(hkR:R≠k)(h:HandOk mu k (n+2)) :
  ∃y13 y14 y15 m' vs,Le [some (.ref k),some a,some (.int b),some (.int c),some nms,some (.lst (ws.map D.str)),some (.lst (st.map D.str)),some fnd,some nm1,some x9,some (.int sh),some (.ref R),some (.int j),x13,x14,x15] mu=some ((.nx,[some (.ref k),some a,some (.int b),some (.int c),some nms,some (.lst (ws.map D.str)),some (.lst (st.map D.str)),some fnd,some nm1,some x9,some (.int sh),some (.ref R),some (.int j),y13,y14,y15]),m') /\
   m'[R]?=some (.lst (cs++[.tup [.str (ws.getD (((j:Int)+sh) % (ws.length:Int)).toNat ⟨#[]⟩),.tup vs]]))/\GX (.tup vs)=true/\okD (.tup vs)=true/\HandOk m' k n/\(∀i,i≠k->i≠R->m'[i]?=mu[i]?)/\m'.length=mu.length:=by
 obtain⟨_,m1,e1,f1,t1,rfl,a0,a1⟩:=DO (m:=c) (n:=n+1) h (by ext) (by ext)
 obtain⟨_,m2,e2,f2,t2,rfl,b0,b1⟩:=DO (m:=2) (n:=n) f1.hand (by decide) (by decide)
 have fr:=f1.trans f2
 have hR2:m2[R]?=some (.lst cs):=(fr.keep R hkR).trans hR
 have st0:0<st.length:=by ext
 obtain⟨s,hs1⟩:∃s:Nat,1+t1=(s:Int):=⟨(1+t1).toNat,by ext⟩
 have lc:F9 none m2 (gNm 0) tY (CJ ixG (CD 1) (CJ Gr (CJ Dw (CD 0) (CD 2)) (CI GL (CC (CD 1) CH)))) [none,some (.lst (st.map D.str)),some (.int t2)] (E4 0 s) m2=some ((rot st t2 s).map D.str,m2):=by
  have e:(rot st t2 s).map D.str=(E4 0 s).map λd=>match d with|.int i=>.str (st.getD ((i+t2) % (st.length:Int)).toNat ⟨#[]⟩)|_=>.non:=by
   unfold rot E4
   rw[AK,AK]
   refine Bl λj _=>?_
   simp
  rw[e]
  refine Kh _ _ λd hd=>⟨_,rfl,?_⟩
  unfold E4 at hd
  obtain⟨i,_,rfl⟩:=Ah.mp hd
  have l0:(0:Int)<(st.length:Int):=by ext
  simp![Af,IZ l0,Qf st0,Int.zero_add]
 have rg:=N6 (mu:=m2) (ro:=[some (.ref k),some a,some (.int b),some (.int c),some nms,some (.lst (ws.map D.str)),some (.lst (st.map D.str)),some fnd,some nm1,some x9,some (.int sh),some (.ref R),some (.int j),some (.int s),some (.int t2),x15]) (r:=CC (CD 13) CH) (n:=s) (m:=m2) rfl (by ext) (by rw[AO];ext)
 rw[Int.toNat_natCast] at rg
 have l6:(0:Int)<(ws.length:Int):=by ext
 have ap:=append_at (ro:=[some (.ref k),some a,some (.int b),some (.int c),some nms,some (.lst (ws.map D.str)),some (.lst (st.map D.str)),some fnd,some nm1,some x9,some (.int sh),some (.ref R),some (.int j),some (.int s),some (.int t2),some (.tup ((rot st t2 s).map D.str))]) (i:=11) hR2 hR2 (y:=.tup [.str (ws.getD (((j:Int)+sh) % (ws.length:Int)).toNat ⟨#[]⟩),.tup ((rot st t2 s).map D.str)]) (by rw[AO];ext) rfl (e:=(Ep (CC (CJ ixG (CD 5) (CJ Gr (CJ Dw (CD 12) (CD 10)) (CI GL (CC (CD 5) CH)))) (CC (CD 15) CH)))) (by
  simp![Af,IZ l6,Qf hw])
 refine⟨some (.int s),some (.int t2),some (.tup ((rot st t2 s).map D.str)),_,(rot st t2 s).map D.str,?_,FT hR2,Pl (by rw[LH];ext) (by rw[LH];ext) (QA st0 sd (by ext)) (λx hx=>sW x (TC st0 x hx)),?_,?_,?_,?_⟩
 ·unfold Le
  simp![e1,e2,hs1,rg,lc,ap]
 ·simp only[okD,Uy,Af,LH,Bool.and_true,Aj]
  ext
 ·obtain⟨a,b,c',h1,h2⟩:=f2.hand
  exact⟨a,b,c',by rw[AD hkR];exact h1,h2⟩
 ·intro i hik hiR
  rw[AD (Ne.symm hiR),fr.keep i hik]
 ·rw[Cp,fr.len]
end PG
namespace PV
open PySem L2 PyProof.Rows K1
variable {mu:Sto}
def R7 (ws:List Str)(t:Int)(s:Nat):rot ws t (s+1)=rot ws t s++[ws.getD (((s:Int)+t) % (ws.length:Int)).toNat ⟨#[]⟩]:=by
 unfold rot
 rw[List.range_succ,A4]
 rfl
def HandOk.app {k n:Nat}{os:Sto}(h:HandOk mu k n):HandOk (mu++os) k n:=by
 have hk:=h.lt
 obtain⟨a,b,c',q,r⟩:=h
 exact⟨a,b,c',by rw[As hk];exact q,r⟩
theorem HandOk.set {k n j:Nat}{o:MO}(h:HandOk mu k n)(hj:j≠k):HandOk (mu.set j o) k n:=by
 obtain⟨a,b,c',q,r⟩:=h
 exact⟨a,b,c',by rw[AD hj];exact q,r⟩
theorem TN {o:MO}{n:Nat}(h:MT 0 o=true):MT n o=true:=by
 cases o with
 |lst ds=>exact FE (AX _) h
 |dct ks ds =>
  simp only[MT,Ac] at h ⊢
  exact⟨FE (AX _) h.1,FE (AX _) h.2⟩
def Ir {m:Sto}{d:D}(hd:DZ 0 d=true)(hf:Flat (m.take mu.length)):KO mu m d=some (d,m.take mu.length):=by
 have e:frz mu.length m 3 d=some d:=by
  unfold frz
  rw[if_pos (QY (AX _) hd)]
 have al:(m.take mu.length).all (MT mu.length)=true:=by
  rw[AB]
  intro o ho
  obtain⟨j,hj⟩:=Aw.mp ho
  exact TN (hf j o hj)
 unfold KO
 rw[e]
 dsimp only
 rw[if_pos al]
end PV
namespace PG
open PySem L2 PV PyProof.Rows K1
variable {mu:Sto}
def Qo {k n R b c:Nat}{many:Nat}{sh:Int}{a nms fnd nm1:D}{ws st:List Str}(hc:1<=c)(hc4:c<=4)(hw:0<ws.length)(wW:∀x∈ws,IsW x)(hs:st.length=c+1)(sd:st.Nodup)(sW:∀x∈st,IsW x)(hm:many<=4)(hR:mu[R]?=some (.lst []))(hkR:R≠k)(h:HandOk mu k (n+2*many)){m0:Sto}{x12 x13 x14 x15:Option D} :
  ∃(y12 y13 y14 y15:Option D) (mu':Sto) (cs:List D),FQ none m0 (gNm 12) Le (E4 0 many) [some (.ref k),some a,some (.int b),some (.int c),some nms,some (.lst (ws.map D.str)),some (.lst (st.map D.str)),some fnd,some nm1,some (.int many),some (.int sh),some (.ref R),x12,x13,x14,x15] mu=some ((.nx,[some (.ref k),some a,some (.int b),some (.int c),some nms,some (.lst (ws.map D.str)),some (.lst (st.map D.str)),some fnd,some nm1,some (.int many),some (.int sh),some (.ref R),y12,y13,y14,y15]),mu') /\
   mu'[R]?=some (.lst cs)/\cs.length=many/\cs.all Ko=true/\okL cs=true/\cs.map HS=(rot ws sh many).map D.str/\HandOk mu' k n/\(∀j,j≠k->j≠R->mu'[j]?=mu[j]?)/\mu'.length=mu.length:=by
 have key:=Er (m0:=m0) (tg:=gNm 12) (body:=Le) (λi ro m=>(∃y12 y13 y14 y15,ro=[some (.ref k),some a,some (.int b),some (.int c),some nms,some (.lst (ws.map D.str)),some (.lst (st.map D.str)),some fnd,some nm1,some (.int many),some (.int sh),some (.ref R),y12,y13,y14,y15])/\(∃cs:List D,m[R]?=some (.lst cs)/\cs.length=i/\cs.all Ko=true/\okL cs=true/\cs.map HS=(rot ws sh i).map D.str)/\i<=many/\HandOk m k (n+2*(many-i))/\(∀j,j≠k->j≠R->m[j]?=mu[j]?)/\m.length=mu.length) (E4 0 many) 0 [some (.ref k),some a,some (.int b),some (.int c),some nms,some (.lst (ws.map D.str)),some (.lst (st.map D.str)),some fnd,some nm1,some (.int many),some (.int sh),some (.ref R),x12,x13,x14,x15] mu
  ⟨⟨x12,x13,x14,x15,rfl⟩,⟨[],hR,rfl,rfl,rfl,rfl⟩,AX _,h,λ_ _ _=>rfl,rfl⟩ λj d ro m ed hi=>by
   obtain⟨⟨y12,y13,y14,y15,rfl⟩,⟨cs,hR',hl,ha,ho,hf⟩,hle,hh,hkeep,hlen⟩:=hi
   obtain⟨rfl,hj⟩:=Kd ed
   obtain⟨z13,z14,z15,m',vs,e,g1,g2,g3,g4,g5,g6⟩:=Qi (n:=n+2*(many-(0+j+1))) (b:=b) (c:=c) (j:=j) (sh:=sh) (a:=a) (nms:=nms) (fnd:=fnd) (nm1:=nm1) (x9:=.int many) (x13:=y13) (x14:=y14) (x15:=y15) (ws:=ws) hc hc4 hw hs sd sW hR' (by ext) hkR (hh.mono (by ext))
   have wm:=wW _ (Ag (JX hw ((j:Int)+sh)))
   refine⟨_,m,_,m',rfl,e,⟨_,_,_,_,rfl⟩,⟨_,g1,by simp[hl],?_,?_,?_⟩,by ext,g4,λi hik hiR=>(g5 i hik hiR).trans (hkeep i hik hiR),g6.trans hlen⟩
   ·rw[List.all_append,ha]
    have:Ko (.tup [.str (ws.getD (((j:Int)+sh) % (ws.length:Int)).toNat ⟨#[]⟩),.tup vs])=(wB (ws.getD (((j:Int)+sh) % (ws.length:Int)).toNat ⟨#[]⟩)&&GX (.tup vs)):=rfl
    rw[List.all_cons,this,Iz.mpr wm,g2]
    rfl
   ·rw[LW] at ho ⊢
    intro d hd
    rcases AQ.mp hd with hd|hd
    ·exact ho d hd
    ·rw[Av.mp hd]
     simp only[okD,okL,g3,List.length_cons,List.length_nil]
     simp only[okD] at g3
     rw[g3]
     rfl
   ·rw[A4,hf,Bb,R7,A4]
    rfl
 obtain⟨ro',mu',e,⟨y12,y13,y14,y15,rfl⟩,⟨cs,a2,a3,a4,a5,a6⟩,_,a7,a8,a9⟩:=key
 rw[Jt] at a3 a6 a7
 refine⟨y12,y13,y14,y15,mu',cs,e,a2,by ext,a4,a5,by rw[a6,Bb],a7.mono (by ext),a8,a9⟩
def OT:Sx:=(CY (Oj 9 10 11 (CC (CJ Dw (eC (.int 1)) (CI CN (CC (CD 0) (CC (CD 2) CH)))) (CC (CI CN (CC (CD 0) (CC (eC (.int 3)) CH))) (CC (F5 CH) CH)))) (CY (Gw (iRg (CC (CD 9) CH)) (gNm 12) Le) (sEx (HG (CD 7) (CC (Ep (CC (CD 8) (CC (CI EW (CC (CD 11) CH)) (CC (CJ Dw (eC (.int 1)) (CI CN (CC (CD 0) (CC (CD 9) CH)))) CH)))) CH)))))
def IC {R:Nat}{cs:List D}(h:mu[R]?=some (.lst cs)):EW [.ref R] mu=some (.tup cs,mu):=by
 simp only[EW,sq1,FK,Gg,D5,h,Option.map_some]
def QS {k n F b c:Nat}{nm:Str}{ws st:List Str}{a nms:D}{ts:List D}{x9 x10 x11 x12 x13 x14 x15:Option D}(hb:1<=b)(hb4:b<=4)(hc:1<=c)(hc4:c<=4)(hw:ws.length=b+2)(wd:ws.Nodup)(wW:∀x∈ws,IsW x)(hs:st.length=c+1)(sd:st.Nodup)(sW:∀x∈st,IsW x)(hW:IsW nm)(hF:mu[F]?=some (.lst ts))(hts:ts.length<=100)(hkF:F≠k)(h:HandOk mu k (n+11)) :
  ∃y9 y10 y11 y12 y13 y14 y15 m2 cs,∃q:Nat,OT [some (.ref k),some a,some (.int b),some (.int c),some nms,some (.lst (ws.map D.str)),some (.lst (st.map D.str)),some (.ref F),some (.str nm),x9,x10,x11,x12,x13,x14,x15] mu=some ((.nx,[some (.ref k),some a,some (.int b),some (.int c),some nms,some (.lst (ws.map D.str)),some (.lst (st.map D.str)),some (.ref F),some (.str nm),y9,y10,y11,y12,y13,y14,y15]),m2) /\
   m2[F]?=some (.lst (ts++[.tup [.str nm,.tup cs,.int q]]))/\H0 (.tup [.str nm,.tup cs,.int q])=true/\okD (.tup [.str nm,.tup cs,.int q])=true/\HandOk m2 k n/\(∀j,j<mu.length->j≠k->j≠F->m2[j]?=mu[j]?)/\mu.length<=m2.length:=by
 obtain⟨_,m1,e1,f1,t1,rfl,a0,a1⟩:=DO (m:=b) (n:=n+10) h (by ext) (by ext)
 obtain⟨_,m2,e2,f2,t2,rfl,b0,b1⟩:=DO (m:=3) (n:=n+9) f1.hand (by decide) (by decide)
 have fr:=f1.trans f2
 have hkl:=h.lt
 have hFl:F<mu.length:=(Ae.mp hF).1
 obtain⟨q,hq⟩:∃q:Nat,1+t1=(q:Int):=⟨(1+t1).toNat,by ext⟩
 have hR:(m2++[MO.lst []])[m2.length]?=some (.lst []):=by simp
 have l2:=fr.len
 obtain⟨y12,y13,y14,y15,m3,cs,e3,g1,g2,g3,g4,g5,g6,g7,g8⟩:=Qo (mu:=m2++[MO.lst []]) (k:=k) (n:=n+1) (R:=m2.length) (b:=b) (c:=c) (many:=q) (sh:=t2) (a:=a) (nms:=nms) (fnd:=.ref F) (nm1:=.str nm) (ws:=ws) (st:=st) hc hc4 (by ext) wW hs sd sW (by ext) hR (by ext) (f2.hand.app.mono (by ext)) (m0:=m2++[MO.lst []]) (x12:=x12) (x13:=x13) (x14:=x14) (x15:=x15)
 have F3:m3[F]?=some (.lst ts):=by
  rw[g7 F hkF (by ext),As (by ext),fr.keep F hkF,hF]
 obtain⟨_,m4,e4,f4,t4,rfl,c0,c1⟩:=DO (m:=q) (n:=n) g6 (by ext) (by ext)
 have F4:m4[F]?=some (.lst ts):=(f4.keep F hkF).trans F3
 obtain⟨p,hp⟩:∃p:Nat,1+t4=(p:Int):=⟨(1+t4).toNat,by ext⟩
 have ap:=append_at (ro:=[some (.ref k),some a,some (.int b),some (.int c),some nms,some (.lst (ws.map D.str)),some (.lst (st.map D.str)),some (.ref F),some (.str nm),some (.int q),some (.int t2),some (.ref m2.length),y12,y13,y14,y15]) (i:=7) F3 F4 (y:=.tup [.str nm,.tup cs,.int p]) (by rw[AO];ext) rfl (e:=(Ep (CC (CD 8) (CC (CI EW (CC (CD 11) CH)) (CC (CJ Dw (eC (.int 1)) (CI CN (CC (CD 0) (CC (CD 9) CH)))) CH))))) (by
  simp![IC g1,e4,hp])
 have rg:=N6 (mu:=m2++[MO.lst []]) (ro:=[some (.ref k),some a,some (.int b),some (.int c),some nms,some (.lst (ws.map D.str)),some (.lst (st.map D.str)),some (.ref F),some (.str nm),some (.int q),some (.int t2),some (.ref m2.length),x12,x13,x14,x15]) (r:=CC (CD 9) CH) (n:=q) (m:=m2++[MO.lst []]) rfl (by ext) (by rw[AO];ext)
 rw[Int.toNat_natCast] at rg
 refine⟨some (.int q),some (.int t2),some (.ref m2.length),y12,y13,y14,y15,_,cs,p,?_,FT F4,?_,?_,f4.hand.set hkF,?_,?_⟩
 ·unfold OT
  simp![e1,e2,hq,rg,e3,ap]
 ·have T:H0 (.tup [.str nm,.tup cs,.int p])=((wB nm&&((Fz 1 4 (.tup cs)&&cs.all Ko)&&ndB (cs.map HS)))&&(decide ((1:Int)<=p)&&decide ((p:Int)<=cs.length))):=rfl
  rw[T,Iz.mpr hW,g3,g5]
  have nd:ndB ((rot ws t2 q).map D.str)=true:=by
   unfold ndB
   rw[Aj]
   exact Il.mpr (QA (by ext) wd (by ext))
  rw[nd]
  simp only[Fz,Bool.and_true,Bool.true_and,Ac,Aj]
  ext
 ·simp only[okD,okL,g4,List.length_cons,List.length_nil,Bool.and_true,Bool.true_and,Ac,Aj]
  ext
 ·intro i hi hik hiF
  rw[AD (Ne.symm hiF),f4.keep i hik,g7 i hik (by ext),As (by ext),fr.keep i hik]
 ·rw[Cp]
  have:=f4.len
  simp only[Ar,List.length_cons,List.length_nil] at g8
  ext
def NF {k n a b c:Nat}(ha:1<=a)(ha4:a<=4)(hb:1<=b)(hb4:b<=4)(hc:1<=c)(hc4:c<=4)(hfl:Flat mu)(h:HandOk mu k (n+60)):Run (Ei [.ref k,.int a,.int b,.int c] mu) k n mu λd=>∃ds,d=.tup ds/\LM d=true/\okD d=true:=by
 obtain⟨_,m1,e1,f1,t1,rfl,a0,a1⟩:=DO (m:=a) (n:=n+59) h (by ext) (by ext)
 obtain⟨_,m2,e2,f2,nm,rfl,nl,nd,nW⟩:=II (many:=1+t1) (n:=n+54) (by ext) (by ext) f1.hand
 obtain⟨_,m3,e3,f3,ws,rfl,wl,wd,wW⟩:=II (many:=(b:Int)+2) (n:=n+49) (by ext) (by ext) f2.hand
 obtain⟨_,m4,e4,f4,st,rfl,sl,sd,sW⟩:=II (many:=(c:Int)+1) (n:=n+44) (by ext) (by ext) f3.hand
 have fr:=((f1.trans f2).trans f3).trans f4
 have l4:=fr.len
 obtain⟨us,ue,up⟩:=PN (Df (nm.map D.str))
 have ul:=up.length_eq
 have ud:us.Nodup:=up.nodup_iff.mpr nd
 have hkl:=f4.hand.lt
 have key:=Er (m0:=m4++[MO.lst []]) (tg:=gNm 8) (body:=OT) (λi ro m=>(∃y8 y9 y10 y11 y12 y13 y14 y15,ro=[some (.ref k),some (.int a),some (.int b),some (.int c),some (.lst (us.map D.str)),some (.lst (ws.map D.str)),some (.lst (st.map D.str)),some (.ref m4.length),y8,y9,y10,y11,y12,y13,y14,y15]) /\
   (∃ts:List D,m[m4.length]?=some (.lst ts)/\ts.length=i/\ts.all H0=true/\okL ts=true/\ts.map HS=(us.take i).map D.str)/\i<=us.length/\HandOk m k (n+11*(us.length-i))/\(∀j,j<m4.length->j≠k->m[j]?=m4[j]?)/\m4.length<m.length) (us.map D.str) 0
   [some (.ref k),some (.int a),some (.int b),some (.int c),some (.lst (us.map D.str)),some (.lst (ws.map D.str)),some (.lst (st.map D.str)),some (.ref m4.length),none,none,none,none,none,none,none,none] (m4++[MO.lst []])
   ⟨⟨_,_,_,_,_,_,_,_,rfl⟩,⟨[],by simp,rfl,rfl,rfl,by simp⟩,AX _,f4.hand.app.mono (by ext),λj hj _=>As hj,by simp⟩ λj d ro m ed hi=>by
  obtain⟨⟨y8,y9,y10,y11,y12,y13,y14,y15,rfl⟩,⟨ts,hF,tl,ta,to,tn⟩,hle,hh,hkeep,hlen⟩:=hi
  rw[Am] at ed
  cases q:us[j]? with
  |none=>rw[q] at ed;cases ed
  |some x =>
   rw[q] at ed
   have ed':D.str x=d:=by simpa using ed
   subst ed'
   obtain⟨hj,ex⟩:=Ae.mp q
   have hxm:x∈nm:=up.mem_iff.mp (by rw[<- ex];exact Cb hj)
   obtain⟨z9,z10,z11,z12,z13,z14,z15,m',cs,p,g1,g2,g3,g4,g5,g6,g7⟩:=QS (n:=n+11*(us.length-(0+j+1))) (a:=.int a) (b:=b) (c:=c) (nms:=.lst (us.map D.str)) (nm:=x) (x9:=y9) (x10:=y10) (x11:=y11) (x12:=y12) (x13:=y13) (x14:=y14) (x15:=y15) (ws:=ws) (st:=st) hb hb4 hc hc4 (by ext) wd wW (by ext) sd sW (nW x hxm) hF (by ext) (by ext) (hh.mono (by ext))
   refine⟨_,m,_,m',rfl,g1,⟨_,_,_,_,_,_,_,_,rfl⟩,⟨_,g2,by simp[tl],?_,?_,?_⟩,by ext,g5,λi hi hik=>?_,by ext⟩
   ·rw[List.all_append,ta,List.all_cons,g3]
    rfl
   ·rw[LW] at to ⊢
    intro d hd
    rcases AQ.mp hd with hd|hd
    ·exact to d hd
    ·rw[Av.mp hd]
     exact g4
   ·rw[A4,tn]
    have:=BW (l:=us) (i:=0+j)
    rw[this,Bb,q,A4]
    rfl
   ·rw[g6 i (by ext) hik (by ext),hkeep i hi hik]
 obtain⟨ro',m5,e5,⟨_,_,_,_,_,_,_,_,rfl⟩,⟨ts,b1,b2,b3,b4,b5⟩,_,b6,b7,b8⟩:=key
 rw[Af,Bb] at b2 b5 b6
 rw[Cd] at b5
 have okT:okD (.tup ts)=true:=by
  simp only[okD,b4,Bool.and_true,Aj]
  ext
 have f5:Fr k n mu (m5.take mu.length):=by
  refine⟨?_,λj hj=>?_,by rw[AA];ext⟩
  ·obtain⟨x,y,z,q,r1,r2,r3⟩:=b6
   exact⟨x,y,z,by rw[A9 (by ext)];exact q,r1,r2,by ext⟩
  ·by_cases hj':j<mu.length
   ·rw[A9 hj',b7 j (by ext) hj,fr.keep j hj]
   ·rw[BC (by rw[AA];ext),BC (by ext)]
 refine⟨.tup ts,m5.take mu.length,?_,f5,ts,rfl,?_,okT⟩
 ·have s64:nm.length<64:=by ext
  unfold OT Le at e5
  simp![Ei,GA,e1,e2,SM s64,ue,e3,e4,e5,IC b1]
  exact Ir (QZ okT) (f5.flat hfl)
 ·have W:LM (.tup ts)=((Fz 1 4 (.tup ts)&&ts.all H0)&&IY (ts.map HS)):=rfl
  have rs:IY (us.map D.str)=true:=by
   have r:=Uj us
   rw[Jq (Il.mpr ud)] at r
   rw[<- r,Aj]
   rw[<- ue]
   exact(Lw (λd hd=>by
    obtain⟨x,_,rfl⟩:=Ah.mp hd
    rfl) (Df (nm.map D.str))).symm
  rw[W,b3,b5,rs]
  simp only[Fz,Bool.and_true,Ac,Aj]
  ext
end PG
namespace PV
open PySem L2 PyProof.Rows K1
variable {mu:Sto}
theorem Rl {m0:Sto}{tg:Gx}{el:Ex}{ro:Ro}(Inv:Nat->Sto->Prop)(P:Nat->D->Prop):∀(ds:List D) (i:Nat) (mu:Sto),Inv i mu->(∀j d mu,ds[j]?=some d->Inv (i+j) mu->∃ro1 y m1,tg d ro mu=some (ro1,mu)/\el ro1 mu=some (y,m1)/\P (i+j) y/\Inv (i+j+1) m1) ->
  ∃ys mu',F9 none m0 tg tY el ro ds mu=some (ys,mu')/\Inv (i+ds.length) mu'/\ys.length=ds.length/\∀j y,ys[j]?=some y->P (i+j) y
 |[],i,mu,h,_=>⟨[],mu,rfl,h,rfl,λj y e=>by simp at e⟩
 |d::ds,i,mu,h,st=>by
  obtain⟨ro1,y,m1,e1,e2,p,h2⟩:=st 0 d mu rfl h
  obtain⟨ys,mu',e3,h3,h4,h5⟩:=Rl (m0:=m0) (tg:=tg) (el:=el) (ro:=ro) Inv P ds (i+1) m1 h2 λj d' mu ed hi=>by
   have:=st (j+1) d' mu (by simpa using ed) (by rw[show i+(j+1)=i+1+j by ext];exact hi)
   rw[show i+(j+1)+1=i+1+j+1 by ext,show i+(j+1)=i+1+j by ext] at this
   exact this
  refine⟨y::ys,mu',?_,by rw[List.length_cons,show i+(ds.length+1)=i+1+ds.length by ext];exact h3,by simp[h4],λj z e=>?_⟩
  ·unfold F9
   rw[e1,DD]
   simp only[VC,Mz,if_true]
   rw[e2,DD,Em,if_pos (show gOk none m0 m1 from True.intro),e3]
   rfl
  ·cases j with
   |zero=>cases e;exact p
   |succ j=>have:=h5 j z (by simpa using e);rw[show i+(j+1)=i+1+j by ext];exact this
def XY {d e:D}(hd:DN d=true)(he:DN e=true):eqB mu d e=some (decide (d=e)):=by
 have a:=Ey hd
 have b:=Ey he
 have sd:seen mu d=d:=by cases d<;>first|rfl|(simp[DN,hsh] at hd)
 have se:seen mu e=e:=by cases e<;>first|rfl|(simp[DN,hsh] at he)
 unfold eqB
 rw[sd,se,Ib a.1,Ib b.1,if_pos,Hj a.1 b.1]
 rw[IG a.1,IG b.1]
 simp only[Bool.true_and,Aj]
 ext
def XT {d e:D}(hd:DN d=true)(he:DN e=true):eqD d e mu=some (.bl (decide (d=e)),mu):=by unfold eqD;rw[XY hd he];rfl
def JW {d e:D}(hd:DN d=true)(he:DN e=true):neD d e mu=some (.bl (!decide (d=e)),mu):=by unfold neD;rw[XY hd he];rfl
def P1 (ss:List Str):HX (ss.map D.str)<=1:=by
 rw[<- LK (Mq ss)]
 exact JN ss
def Pw (ss:List Str):DN (.tup (ss.map D.str))=true:=by
 unfold DN
 rw[Ac,Aj]
 refine⟨by unfold hsh;exact Mq ss,?_⟩
 have:=P1 ss
 unfold dpt
 ext
end PV
namespace PG
open PySem L2 PV PyProof.Rows K1
variable {mu:Sto}
structure Tb where
 nm:Str
 cs:List (Str×List Str)
 ks:Nat
def clD (p:Str×List Str):D:=.tup [.str p.1,.tup (p.2.map D.str)]
def tbD (t:Tb):D:=.tup [.str t.nm,.tup (t.cs.map clD),.int t.ks]
structure ED (t:Tb):Prop where
 c1:1<=t.cs.length
 c4:t.cs.length<=4
 k1:1<=t.ks
 k4:t.ks<=t.cs.length
 vs:∀p∈t.cs,p.2≠[]/\p.2.length<=4
theorem Po {d:D}(h:GX d=true):∃ss:List Str,d=.tup (ss.map D.str)/\ss≠[]/\ss.length<=4:=by
 unfold GX at h
 rw[Ac,Ac] at h
 cases d with
 |tup ds =>
  obtain⟨ss,rfl,_⟩:=PC (show ds.all HA=true from h.2.1)
  have:=h.1
  simp only[Fz,Af,Ac,Aj] at this
  exact⟨ss,rfl,λe=>by rw[e] at this;simp at this,by ext⟩
 |_=>simp[Fz] at h
def Sw {d:D}(h:Ko d=true):∃p:Str×List Str,d=clD p/\p.2≠[]/\p.2.length<=4:=by
 unfold Ko at h
 split at h
 ·rename_i a b
  rw[Ac] at h
  obtain⟨ss,rfl,h1,h2⟩:=Po h.2
  cases a with
  |str x=>exact⟨(x,ss),rfl,h1,h2⟩
  |_=>simp[HA] at h
 ·cases h
theorem RF {ds:List D}(h:ds.all Ko=true):∃cs:List (Str×List Str),ds=cs.map clD/\∀p∈cs,p.2≠[]/\p.2.length<=4:=by
 induction ds with
 |nil=>exact⟨[],rfl,λ_ h=>nomatch h⟩
 |cons d ds ih =>
  rw[List.all_cons,Ac] at h
  obtain⟨cs,rfl,hc⟩:=ih h.2
  obtain⟨p,rfl,h1⟩:=Sw h.1
  refine⟨p::cs,rfl,λq hq=>?_⟩
  rcases Ap.mp hq with rfl|hq
  ·exact h1
  ·exact hc q hq
def Uo {d:D}(h:H0 d=true):∃t,d=tbD t/\ED t:=by
 unfold H0 at h
 split at h
 ·rename_i n c k
  rw[Ac,Ac] at h
  obtain⟨⟨h1,h2⟩,h3⟩:=h
  cases n with
  |str x =>
   cases c with
   |tup ds =>
    have h2':((Fz 1 4 (.tup ds)&&ds.all Ko)&&ndB (ds.map HS))=true:=h2
    rw[Ac,Ac] at h2'
    obtain⟨cs,rfl,hv⟩:=RF h2'.1.2
    have hl:=h2'.1.1
    simp only[Fz,Af,Ac,Aj] at hl
    cases k with
    |int i =>
     simp only[VN,Yu,Af,Ac,Aj] at h3
     refine⟨⟨x,cs,i.toNat⟩,?_,⟨by show 1<=cs.length;ext,by show cs.length<=4;ext,by show 1<=i.toNat;ext,by show i.toNat<=cs.length;ext,hv⟩⟩
     unfold tbD
     rw[Int.toNat_of_nonneg (by ext)]
    |_=>simp[VN] at h3
   |_=>simp[UW] at h2
  |_=>simp[HA] at h1
 ·cases h
theorem Qr {ds:List D}(h:ds.all H0=true):∃ts:List Tb,ds=ts.map tbD/\∀t∈ts,ED t:=by
 induction ds with
 |nil=>exact⟨[],rfl,λ_ h=>nomatch h⟩
 |cons d ds ih =>
  rw[List.all_cons,Ac] at h
  obtain⟨ts,rfl,hc⟩:=ih h.2
  obtain⟨t,rfl,h1⟩:=Uo h.1
  refine⟨t::ts,rfl,λq hq=>?_⟩
  rcases Ap.mp hq with rfl|hq
  ·exact h1
  ·exact hc q hq
structure SOk (ts:List Tb):Prop where
 l1:1<=ts.length
 l4:ts.length<=4
 ok:∀t∈ts,ED t
 nd:(ts.map Tb.nm).Nodup
theorem T9 {d:D}(h:LM d=true):∃ts,d=.tup (ts.map tbD)/\SOk ts:=by
 cases d with
 |tup ds =>
  have h':((Fz 1 4 (.tup ds)&&ds.all H0)&&IY (ds.map HS))=true:=h
  rw[Ac,Ac] at h'
  obtain⟨ts,rfl,ho⟩:=Qr h'.1.2
  have hl:=h'.1.1
  simp only[Fz,Af,Ac,Aj] at hl
  refine⟨ts,rfl,by ext,by ext,ho,?_⟩
  have e:(ts.map tbD).map HS=(ts.map Tb.nm).map D.str:=by
   rw[AK,AK]
   rfl
  have r:=h'.2
  rw[e,LU] at r
  exact Q8 r
 |_=>simp[LM] at h
structure RwOk (t:Tb) (r:List Str):Prop where
 len:r.length=t.cs.length
 at':∀(i:Nat) x p,r[i]?=some x->t.cs[i]?=some p->x∈p.2
def rwD (r:List Str):D:=.tup (r.map D.str)
theorem UQ {ds:List D}(h:∀(j:Nat) (d:D),ds[j]?=some d->∃x,d=D.str x):∃ss:List Str,ds=ss.map D.str:=by
 induction ds with
 |nil=>exact⟨[],rfl⟩
 |cons d ds ih =>
  obtain⟨x,rfl⟩:=h 0 d rfl
  obtain⟨ss,rfl⟩:=ih λj d e=>h (j+1) d (by simpa using e)
  exact⟨x::ss,rfl⟩
def Oi {k n:Nat}{t:Tb}(ht:ED t){m0:Sto}(h:HandOk mu k (n+4)):∃r mu',F9 none m0 (gTp 2 (CM (gNm 0) (CM (gNm 1) DJ))) tY (CI Dl (CC (CD 2) (CC (CD 1) CH))) [none,none,some (.ref k)] (t.cs.map clD) mu=some (r.map D.str,mu')/\Fr k n mu mu'/\RwOk t r:=by
 obtain⟨ys,mu',e,fr,hl,hp⟩:=Rl (m0:=m0) (tg:=gTp 2 (CM (gNm 0) (CM (gNm 1) DJ))) (el:=CI Dl (CC (CD 2) (CC (CD 1) CH))) (ro:=[none,none,some (.ref k)]) (λi m=>Fr k (n+4-i) mu m) (λi d=>∃x,d=D.str x/\∀p,t.cs[i]?=some p->x∈p.2) (t.cs.map clD) 0 mu (.refl h) λj d m ed fr=>by
  rw[Am] at ed
  cases q:t.cs[j]? with
  |none=>rw[q] at ed;cases ed
  |some p =>
   rw[q] at ed
   have ed':clD p=d:=AH ed
   subst ed'
   have hj:=(Ae.mp q).1
   have hm:p∈t.cs:=Ag q
   have c4:=ht.c4
   obtain⟨y,m1,e1,f1,hy⟩:=pick_run (s:=.tup (p.2.map D.str)) (n:=n+4-(0+j+1)) (.inr rfl) (by simpa using (ht.vs p hm).1) (by rw[Af];have:=(ht.vs p hm).2;ext) (fr.hand.mono (by ext))
   obtain⟨x,hx,rfl⟩:=Ah.mp hy
   refine⟨_,.str x,m1,rfl,?_,⟨x,rfl,λp' hp'=>?_⟩,fr.trans f1⟩
   ·simp![clD,e1]
   ·rw[Bb,q] at hp'
    cases hp'
    exact hx
 obtain⟨r,rfl⟩:=UQ λj d ed=>by
  obtain⟨x,hx,_⟩:=hp j d ed
  exact⟨x,hx⟩
 refine⟨r,mu',e,fr.mono ?_,⟨by simpa using hl,λi x p hx hpp=>?_⟩⟩
 ·rw[Af]
  have:=ht.c4
  ext
 ·obtain⟨y,ey,h2⟩:=hp i (.str x) (by rw[Am,hx];rfl)
  cases ey
  exact h2 p (by rw[Bb];exact hpp)
def IL {α:Type}{xs:List α}{j:Nat}(h:j<=xs.length):PV.cutD xs none (some (j:Int))=xs.take j:=by
 unfold PV.cutD
 rw[HT.Kb,HT.LC]
 simp[Nat.min_eq_left h]
def QC {α:Type}{xs:List α}{j:Nat}(h:j<=xs.length):PV.cutD xs (some (j:Int)) none=xs.drop j:=by
 unfold PV.cutD
 rw[HT.Kb,HT.LC]
 rw[Nat.min_eq_left h]
 apply List.take_of_length_le
 simp
end PG
namespace PV
open PySem L2 PyProof.Rows K1
variable {mu:Sto}
theorem Mr (k v:D):∀ks ds:List D,(Gv k v ks ds).length=ds.length
 |[],_=>rfl
 |_::_,[]=>rfl
 |_::ks,_::ds=>by rw[Gv,List.length_cons,List.length_cons,Mr k v ks ds]
theorem MD (k v:D):∀ks ds:List D,∀d∈Gv k v ks ds,d∈ds\/d=v
 |[],_,d,h=>.inl h
 |_::_,[],d,h=>.inl h
 |k'::ks,e::ds,d,h=>by
  rw[Gv] at h
  rcases Ap.mp h with h|h
  ·split at h
   ·exact .inr h
   ·exact .inl (by rw[h];exact .head _)
  ·rcases MD k v ks ds d h with h|h
   ·exact .inl (.tail _ h)
   ·exact .inr h
structure DictOk (ks ds:List D) (n:Nat):Prop where
 len:ks.length<=n
 eq:ds.length=ks.length
 nd:ks.Nodup
def DictOk.put {ks ds:List D}{n:Nat}(h:DictOk ks ds n)(k v:D):DictOk (DC k v ks ds).1 (DC k v ks ds).2 (n+1)/\(∀d∈(DC k v ks ds).2,d∈ds\/d=v)/\∀d∈(DC k v ks ds).1,d∈ks\/d=k:=by
 unfold DC
 by_cases c:k∈ks
 ·rw[if_pos c]
  exact⟨⟨by have:=h.len;show ks.length<=n+1;ext,by rw[Mr];exact h.eq,h.nd⟩,MD k v ks ds,λd hd=>.inl hd⟩
 ·rw[if_neg c]
  refine⟨⟨by have:=h.len;simp;ext,by simp[h.eq],?_⟩,λd hd=>?_,λd hd=>?_⟩
  ·rw[BQ]
   exact⟨h.nd,by simp,λa ha b hb e=>by rw[Av.mp hb] at e;rw[e] at ha;exact c ha⟩
  ·rcases AQ.mp hd with hd|hd
   ·exact .inl hd
   ·exact .inr (Av.mp hd)
  ·rcases AQ.mp hd with hd|hd
   ·exact .inl hd
   ·exact .inr (Av.mp hd)
def Ng {k:Nat}{ks ds:List D}{e v:D}(h:mu[k]?=some (.dct ks ds))(he:DN e=true)(hl:ks.length<sizeLine):putG (.ref k) e v mu=some ((),mu.set k (.dct (DC e v ks ds).1 (DC e v ks ds).2)):=by
 simp only[putG,h,he,hl,and_self,if_true]
theorem KA:∀xs ys:List Str,(Gf (xs.map D.str) (ys.map D.str)).isSome=true
 |[],[]=>rfl
 |[],_::_=>rfl
 |_::_,[]=>rfl
 |x::xs,y::ys=>by
  have ih:=KA xs ys
  rw[A3,A3,Gf]
  simp only[DW,Ci,if_true]
  split
  ·exact ih
  ·rfl
theorem Ij (ss:List Str):FV (ss.map D.str)=true:=by
 induction ss with
 |nil=>rfl
 |cons x xs ih=>simp[FV,FA,ih]
end PV
namespace PG
open PySem L2 PV PyProof.Rows K1
variable {mu:Sto}
def Jz {rs:List (List Str)}(h64:rs.length<64)(hne:∀r∈rs,r≠[]):DX (rs.map rwD)=true:=by
 unfold DX
 simp only[Ac,Aj,Af,AB,Bool.or_eq_true,JC]
 refine⟨⟨⟨h64,λd hd=>?_⟩,λd hd e he=>?_⟩,.inr λd hd=>?_⟩
 ·obtain⟨r,_,rfl⟩:=Ah.mp hd
  unfold rwD FA
  exact Ij r
 ·obtain⟨r,_,rfl⟩:=Ah.mp hd
  obtain⟨q,_,rfl⟩:=Ah.mp he
  unfold rwD ltB
  exact KA r q
 ·obtain⟨r,hr,rfl⟩:=Ah.mp hd
  cases r with
  |nil=>exact(hne _ hr rfl).elim
  |cons x xs =>
   have d1:=JN xs
   simp only[rwD,A3,tupS,Iv,Bool.true_and,Aj]
   ext
theorem Iq {t:Tb}{ds:List D}(h:∀d∈ds,∃r,d=rwD r/\RwOk t r):∃rs:List (List Str),ds=rs.map rwD/\∀r∈rs,RwOk t r:=by
 induction ds with
 |nil=>exact⟨[],rfl,λ_ h=>nomatch h⟩
 |cons d ds ih =>
  obtain⟨r,rfl,hr⟩:=h d (.head _)
  obtain⟨rs,rfl,hs⟩:=ih λd hd=>h d (.tail _ hd)
  refine⟨r::rs,rfl,λq hq=>?_⟩
  rcases Ap.mp hq with rfl|hq
  ·exact hr
  ·exact hs q hq
def RwOk.ne {t:Tb}{r:List Str}(ht:ED t)(h:RwOk t r):r≠[]:=λe=>by
 have:=h.len
 rw[e] at this
 have:=ht.c1
 simp at *
 ext
def tkD (n:Nat):D->D
 |.tup ds=>.tup (ds.take n)
 |d=>d
theorem MX (n:Nat)(v:D):∀ds:List D,(Gv (tkD n v) v (ds.map (tkD n)) ds).map (tkD n)=ds.map (tkD n)
 |[]=>rfl
 |d::ds=>by
  rw[A3,Gv,A3,MX n v ds]
  split
  ·rename_i h
   rw[h]
  ·rfl
def Su {n:Nat}{v:D}{ks ds:List D}(h:ks=ds.map (tkD n)):(DC (tkD n v) v ks ds).1=(DC (tkD n v) v ks ds).2.map (tkD n):=by
 subst h
 unfold DC
 split
 ·exact(MX n v ds).symm
 ·simp
structure XG (t:Tb) (rs:List (List Str)):Prop where
 len:rs.length<=16
 ok:∀r∈rs,RwOk t r
 nd:((rs.map rwD).map (tkD t.ks)).Nodup
structure FlOk (t:Tb) (rs:List (List Str)):Prop extends XG t rs where
 up:(rs.map rwD).Pairwise λa b=>ltT a b=true
def flD (rs:List (List Str)):D:=.tup (rs.map rwD)
def MC:Sx:=(CY (Dh (CI EW (CC (eLC (Ff (CD 5)) 2 [0] (gTp 2 (CM (gNm 0) (CM (gNm 1) DJ))) (tY) (CI Dl (CC (CD 2) (CC (CD 1) CH)))) CH)) (gNm 9)) (Dh (CD 9) (gIx (CD 7) (eSl (CD 9) (pNo) (DK (CD 6))))))
def Ri {k n Dk c w:Nat}{t:Tb}(ht:ED t){sc fnd:D}{x4 x8 x9:Option D}(hc:c<=16)(hD:mu[Dk]?=some (.dct [] []))(hkD:Dk≠k)(h:HandOk mu k (n+4*c)){m0:Sto} :
  ∃y8 y9 m' ks rs,FQ none m0 (gNm 8) MC (E4 0 c) [some (.ref k),some sc,some (.int w),some fnd,x4,some (.tup (t.cs.map clD)),some (.int t.ks),some (.ref Dk),x8,x9] mu=some ((.nx,[some (.ref k),some sc,some (.int w),some fnd,x4,some (.tup (t.cs.map clD)),some (.int t.ks),some (.ref Dk),y8,y9]),m') /\
   m'[Dk]?=some (.dct ks (rs.map rwD))/\XG t rs/\HandOk m' k n/\(∀j,j≠k->j≠Dk->m'[j]?=mu[j]?)/\m'.length=mu.length:=by
 obtain⟨ro',m',e,⟨y8,y9,rfl⟩,⟨ks,ds,a1,a2,a3,ak⟩,a4,a5,a6⟩:=Er (m0:=m0) (tg:=gNm 8) (body:=MC) (λi ro m=>(∃y8 y9,ro=[some (.ref k),some sc,some (.int w),some fnd,x4,some (.tup (t.cs.map clD)),some (.int t.ks),some (.ref Dk),y8,y9])/\(∃ks ds,m[Dk]?=some (.dct ks ds)/\DictOk ks ds i/\(∀d∈ds,∃r,d=rwD r/\RwOk t r)/\ks=ds.map (tkD t.ks))/\HandOk m k (n+4*(c-i))/\(∀j,j≠k->j≠Dk->m[j]?=mu[j]?)/\m.length=mu.length) (E4 0 c) 0 _ mu ⟨⟨x8,x9,rfl⟩,⟨[],[],hD,⟨Ai _,rfl,B5⟩,λ_ h=>(nomatch h),rfl⟩,h,λ_ _ _=>rfl,rfl⟩ λj d ro m ed hi=>by
   obtain⟨⟨y8,y9,rfl⟩,⟨ks,ds,a1,a2,a3,ak⟩,hh,hk,hl⟩:=hi
   obtain⟨rfl,hj⟩:=Kd ed
   obtain⟨r,m1,e1,f1,hr⟩:=Oi (n:=n+4*(c-(0+j+1))) ht (m0:=m) (hh.mono (by ext))
   have a1':m1[Dk]?=some (.dct ks ds):=(f1.keep Dk hkD).trans a1
   have kl:t.ks<=(r.map D.str).length:=by rw[Af,hr.len];exact ht.k4
   have ct:=IL kl
   have hK:DN (.tup ((r.map D.str).take t.ks))=true:=by rw[<- BH];exact Pw _
   obtain⟨p1,p2,_⟩:=a2.put (.tup ((r.map D.str).take t.ks)) (rwD r)
   have z:=Ng (v:=rwD r) a1' hK (by have:=a2.len;rw[AO];ext)
   refine⟨_,m,_,_,rfl,?_,⟨some (.int j),some (rwD r),rfl⟩,⟨_,_,FT a1',by rw[show 0+j+1=0+j+1 from rfl];exact p1,λd hd=>?_,Su (v:=rwD r) ak⟩,(f1.hand.mono (by ext)).set hkD,λi hik hiD=>?_,?_⟩
   ·unfold MC
    have rw':rwD r=.tup (r.map D.str):=rfl
    rw[rw'] at z
    simp![e1,MN,ct,z]
    rfl
   ·rcases p2 d hd with hd|rfl
    ·exact a3 d hd
    ·exact⟨r,rfl,hr⟩
   ·rw[AD hiD.symm,f1.keep i hik,hk i hik hiD]
   ·rw[Cp,f1.len,hl]
 rw[Jt] at a2 a4
 obtain⟨rs,rfl,hr⟩:=Iq a3
 refine⟨y8,y9,m',ks,rs,e,a1,⟨?_,hr,ak▸a2.nd⟩,a4.mono (by ext),a5,a6⟩
 have:=a2.eq
 have:=a2.len
 simp at *
 ext
end PG
namespace PV
open PySem L2 PyProof.Rows K1
variable {mu:Sto}
theorem YR (a b c:D)(h1:ltT a b=true)(h2:ltT b c=true):ltT a c=true:=by
 cases e:ltT a c with
 |true=>rfl
 |false =>
  have:=N7 b c a (GN b c h2) e
  rw[this] at h1
  cases h1
def Pd (ds:List D):Bool:=(ds.zip ds.tail).all λp=>ltT p.1 p.2
theorem LG:∀(ds:List D),Pd ds=true↔ds.Pairwise λa b=>ltT a b=true
 |[]=>by simp[Pd]
 |[x]=>by simp[Pd]
 |x::y::ds=>by
  have ih:=LG (y::ds)
  have e:Pd (x::y::ds)=(ltT x y&&Pd (y::ds)):=rfl
  rw[e,Ac,ih]
  constructor
  ·intro ⟨h1,h2⟩
   refine Be.mpr ⟨λz hz=>?_,h2⟩
   rcases Ap.mp hz with rfl|hz
   ·exact h1
   ·exact YR _ _ _ h1 ((Be.mp h2).1 z hz)
  ·exactλh=>⟨(Be.mp h).1 y (by simp),(Be.mp h).2⟩
def X4 {ds:List D}(h:ds.Pairwise λa b=>ltT a b=true):ds.Nodup:=by
 rw[AG]
 exact h.imp λ{a b} l e=>by subst e;have:=GN a a l;rw[l] at this;cases this
theorem L9 {ds:List D}(ho:∀d∈ds,FA d=true)(nd:ds.Nodup):(Dv ds).Pairwise λa b=>ltT a b=true:=by
 have p:=Df ds
 have up:=Jw ds
 have ne:=AG.mp (p.nodup_iff.mpr nd)
 refine BY (λ{a b} ha hb ⟨l,n⟩=>?_) (up.and ne)
 cases c:ltT a b with
 |true=>rfl
 |false =>
  unfold leT at l
  exact(n (lt_eq a b (ho a (p.mem_iff.mp ha)) (ho b (p.mem_iff.mp hb)) c (by simpa using l))).elim
def Gs {α β:Type}{f:α->β}{l:List α}(h:(l.map f).Nodup):l.Nodup:=by
 rw[AG] at h ⊢
 exact(A5.mp h).imp λh e=>h (congrArg f e)
end PV
namespace PG
open PySem L2 PV PyProof.Rows K1
variable {mu:Sto}
def fBody:Sx:=(CY (Dh Mm (gNm 7)) (CY (Gw (iRg (CC (CI CN (CC (CD 0) (CC (CJ Dw (CD 2) (eC (.int 1))) CH))) CH)) (gNm 8) MC) (sEx (HG (CD 3) (CC (CI EW (CC (KW (CD 7)) CH)) CH)))))
def Wn {k:Nat}{ks ds:List D}{e:Ex}{ro:Ro}{m1:Sto}(he:e ro mu=some (.ref k,m1))(h:m1[k]?=some (.dct ks ds))(ok:DX ds=true):KW e ro mu=some (.lst (Dv ds),m1):=by
 unfold KW
 rw[he]
 simp only[Mz,DF,h,ok,if_true]
def Tj {k n F w:Nat}(hw:w<=16){t:Tb}(ht:ED t){sc:D}{fs:List D}{x7 x8 x9:Option D}(hF:mu[F]?=some (.lst fs))(hfs:fs.length<=100)(hkF:F≠k)(h:HandOk mu k (n+70)) :
  ∃y7 y8 y9 m' rs,fBody [some (.ref k),some sc,some (.int w),some (.ref F),some (.str t.nm),some (.tup (t.cs.map clD)),some (.int t.ks),x7,x8,x9] mu=some ((.nx,[some (.ref k),some sc,some (.int w),some (.ref F),some (.str t.nm),some (.tup (t.cs.map clD)),some (.int t.ks),y7,y8,y9]),m') /\
   m'[F]?=some (.lst (fs++[flD rs]))/\FlOk t rs/\HandOk m' k n/\(∀j,j<mu.length->j≠k->j≠F->m'[j]?=mu[j]?)/\mu.length<=m'.length:=by
 have hFl:F<mu.length:=(Ae.mp hF).1
 have hkl:=h.lt
 have h0:HandOk (mu++[MO.dct [] []]) k (n+70):=h.app
 obtain⟨_,m1,e1,f1,t1,rfl,a0,a1⟩:=DO (m:=w+1) (n:=n+69) h0 (by ext) (by ext)
 obtain⟨c,rfl⟩:∃c:Nat,t1=(c:Int):=⟨t1.toNat,by ext⟩
 have w1:(w:Int)+1=((w+1:Nat):Int):=by ext
 have l1:=f1.len
 simp only[Ar,List.length_cons,List.length_nil] at l1
 have hD:m1[mu.length]?=some (.dct [] []):=by
  rw[f1.keep _ (by ext)]
  simp
 obtain⟨y8,y9,m2,ks,rs,e2,g1,g2,g3,g4,g5⟩:=Ri (mu:=m1) (k:=k) (n:=n) (Dk:=mu.length) (c:=c) (w:=w) (t:=t) ht (sc:=sc) (fnd:=.ref F) (x4:=some (.str t.nm)) (x8:=x8) (x9:=x9) (by ext) hD (by ext) (f1.hand.mono (by ext)) (m0:=m1)
 have F2:m2[F]?=some (.lst fs):=by
  rw[g4 F hkF (by ext),f1.keep F hkF,As hFl,hF]
 have ok:=Jz (rs:=rs) (by have:=g2.len;ext) λr hr=>(g2.ok r hr).ne ht
 obtain⟨rs',er,hr'⟩:=Iq (t:=t) (ds:=Dv (rs.map rwD)) λd hd=>by
  obtain⟨r,hr,rfl⟩:=Ah.mp ((Df _).mem_iff.mp hd)
  exact⟨r,rfl,g2.ok r hr⟩
 have ll:rs'.length<=16:=by
  have:=congrArg List.length er
  rw[(Df _).length_eq,Af,Af] at this
  have:=g2.len
  ext
 have nd':((rs'.map rwD).map (tkD t.ks)).Nodup:=by
  rw[<- er]
  exact((Df _).map _).nodup_iff.mpr g2.nd
 have up':(rs'.map rwD).Pairwise λa b=>ltT a b=true:=by
  rw[<- er]
  exact L9 (Hh ok) (Gs g2.nd)
 have ap:=append_at (ro:=[some (.ref k),some sc,some (.int w),some (.ref F),some (.str t.nm),some (.tup (t.cs.map clD)),some (.int t.ks),some (.ref mu.length),y8,y9]) (i:=3) F2 F2 (y:=flD rs') (by rw[AO];ext) rfl (e:=(CI EW (CC (KW (CD 7)) CH))) (by
  have z:=Wn (mu:=m2) (e:=CD 7) (ro:=[some (.ref k),some sc,some (.int w),some (.ref F),some (.str t.nm),some (.tup (t.cs.map clD)),some (.int t.ks),some (.ref mu.length),y8,y9]) rfl g1 ok
  rw[er] at z
  simp![z]
  rfl)
 have rg:=N6 (mu:=mu++[MO.dct [] []]) (ro:=[some (.ref k),some sc,some (.int w),some (.ref F),some (.str t.nm),some (.tup (t.cs.map clD)),some (.int t.ks),some (.ref mu.length),x8,x9]) (r:=(CC (CI CN (CC (CD 0) (CC (CJ Dw (CD 2) (eC (.int 1))) CH))) CH)) (n:=c) (m:=m1) (by simp![e1]) (by ext) (by rw[AO];ext)
 rw[Int.toNat_natCast] at rg
 refine⟨some (.ref mu.length),y8,y9,_,rs',?_,FT F2,⟨⟨ll,hr',nd'⟩,up'⟩,g3.set hkF,λi hi hik hiF=>?_,?_⟩
 ·unfold fBody
  simp![rg,e2,ap]
 ·rw[AD hiF.symm,g4 i hik (by ext),f1.keep i hik,As hi]
 ·rw[Cp]
  ext
structure IT (ts:List Tb) (gs:List (List (List Str))):Prop where
 len:gs.length=ts.length
 ok:∀(j:Nat) rs t,gs[j]?=some rs->ts[j]?=some t->FlOk t rs
def MM (gs:List (List (List Str))):DZ 0 (.tup (gs.map flD))=true:=by
 have hs:∀ss:List Str,Fy 0 (ss.map D.str)=true:=λss=>by
  rw[Fm]
  intro d hd
  obtain⟨x,_,rfl⟩:=Ah.mp hd
  rfl
 have hr:∀rs:List (List Str),Fy 0 (rs.map rwD)=true:=λrs=>by
  rw[Fm]
  intro d hd
  obtain⟨x,_,rfl⟩:=Ah.mp hd
  simpa[rwD,DZ] using hs x
 simp only[DZ]
 rw[Fm]
 intro d hd
 obtain⟨x,_,rfl⟩:=Ah.mp hd
 simpa[flD,DZ] using hr x
def Ji {k n w:Nat}(hw:w<=16){ts:List Tb}(hS:SOk ts)(hfl:Flat mu)(h:HandOk mu k (n+280)):Run (DR [.ref k,.tup (ts.map tbD),.int w] mu) k n mu λd=>∃gs,d=.tup (gs.map flD)/\IT ts gs:=by
 have hkl:=h.lt
 have s4:=hS.l4
 obtain⟨ro',m5,e5,⟨_,_,_,_,_,_,rfl⟩,⟨gs,b1,b2,b3⟩,b6,b7,b8⟩:=Er (m0:=mu++[MO.lst []]) (tg:=(gTp 3 (CM (gNm 4) (CM (gNm 5) (CM (gNm 6) DJ))))) (body:=fBody) (λi ro m=>(∃y4 y5 y6 y7 y8 y9,ro=[some (.ref k),some (.tup (ts.map tbD)),some (.int w),some (.ref mu.length),y4,y5,y6,y7,y8,y9]) /\
   (∃gs:List (List (List Str)),m[mu.length]?=some (.lst (gs.map flD))/\gs.length=i/\∀(j:Nat) rs t,gs[j]?=some rs->ts[j]?=some t->FlOk t rs)/\HandOk m k (n+70*(ts.length-i))/\(∀j,j<mu.length->j≠k->m[j]?=mu[j]?)/\mu.length<m.length) (ts.map tbD) 0
   [some (.ref k),some (.tup (ts.map tbD)),some (.int w),some (.ref mu.length),none,none,none,none,none,none] (mu++[MO.lst []])
   ⟨⟨_,_,_,_,_,_,rfl⟩,⟨[],by simp,rfl,λj rs t e=>by simp at e⟩,(h.app).mono (by ext),λj hj _=>As hj,by simp⟩ λj d ro m ed hi=>by
  obtain⟨⟨y4,y5,y6,y7,y8,y9,rfl⟩,⟨gs,hF,gl,gk⟩,hh,hkeep,hlen⟩:=hi
  rw[Am] at ed
  cases q:ts[j]? with
  |none=>rw[q] at ed;cases ed
  |some t =>
   rw[q] at ed
   have ed':tbD t=d:=AH ed
   subst ed'
   have hj:=(Ae.mp q).1
   obtain⟨z7,z8,z9,m',rs,g1,g2,g3,g4,g5,g6⟩:=Tj hw (n:=n+70*(ts.length-(0+j+1))) (hS.ok t (Ag q)) (sc:=.tup (ts.map tbD)) (x7:=y7) (x8:=y8) (x9:=y9) hF (by rw[Af];ext) (by ext) (hh.mono (by ext))
   refine⟨[some (.ref k),some (.tup (ts.map tbD)),some (.int w),some (.ref mu.length),some (.str t.nm),some (.tup (t.cs.map clD)),some (.int t.ks),y7,y8,y9],m,_,m',rfl,g1,⟨_,_,_,_,_,_,rfl⟩,⟨gs++[rs],by rw[g2,A4];rfl,by simp[gl],λi r t' hr ht'=>?_⟩,g4,λi hi hik=>?_,by ext⟩
   ·by_cases c:i<gs.length
    ·rw[As c] at hr
     exact gk i r t' hr ht'
    ·have hil:=(Ae.mp hr).1
     simp only[Ar,List.length_cons,List.length_nil] at hil
     have:i=gs.length:=by ext
     subst this
     rw[AY (Ai _),Nat.sub_self] at hr
     cases hr
     rw[gl,Bb,q] at ht'
     cases ht'
     exact g3
   ·rw[g5 i (by ext) hik (by ext),hkeep i hi hik]
 rw[Af,Bb] at b2 b6
 have f5:Fr k n mu (m5.take mu.length):=by
  refine⟨?_,λj hj=>?_,by rw[AA];ext⟩
  ·obtain⟨x,y,z,q,r1,r2,r3⟩:=b6
   exact⟨x,y,z,by rw[A9 (by ext)];exact q,r1,r2,by ext⟩
  ·by_cases hj':j<mu.length
   ·rw[A9 hj',b7 j hj' hj]
   ·rw[BC (by rw[AA];ext),BC (by ext)]
 refine⟨.tup (gs.map flD),m5.take mu.length,?_,f5,gs,rfl,⟨b2,b3⟩⟩
 unfold fBody MC at e5
 simp![DR,Gd,e5,IC b1]
 exact Ir (MM gs) (f5.flat hfl)
end PG
namespace PV
open PySem L2 PyProof.Rows K1
variable {mu:Sto}
def NT {xs ys:List D}(h:xs.length+ys.length<=sizeLine):Dw (.lst xs) (.lst ys) mu=some (.lst (xs++ys),mu):=by
 simp only[Dw,D5,h,if_true]
def V1 {xs ys:List D}(h:xs.length+ys.length<=sizeLine):Dw (.tup xs) (.tup ys) mu=some (.tup (xs++ys),mu):=by
 simp only[Dw,h,if_true]
theorem Se {ds:List D}:F0 ds=true↔∀d∈ds,hsh d=true:=by
 induction ds with
 |nil=>simp[F0]
 |cons d ds ih=>simp[F0,ih]
theorem Qn {n:Nat}{ds:List D}(h:∀d∈ds,dpt d<=n):HX ds<=n:=by
 induction ds with
 |nil=>simp[HX]
 |cons d ds ih =>
  have a:=h d (.head _)
  have b:=ih λd hd=>h d (.tail _ hd)
  simp only[HX]
  ext
def Hn (n:Nat)(d:D):Prop:=hsh d=true/\dpt d<=n
theorem Hn.tup {n:Nat}{ds:List D}(h:∀d∈ds,Hn n d):Hn (n+1) (.tup ds):=by
 refine⟨by unfold hsh;exact Se.mpr λd hd=>(h d hd).1,?_⟩
 have:=Qn λd hd=>(h d hd).2
 unfold dpt
 ext
def Hn.up {n m:Nat}{d:D}(h:Hn n d)(l:n<=m):Hn m d:=⟨h.1,AU h.2 l⟩
def Hn.K {n:Nat}{d:D}(h:Hn n d)(l:n<=8):DN d=true:=by
 unfold DN
 rw[h.1,Bool.true_and,Aj]
 exact AU h.2 l
theorem Hn.str (x:Str):Hn 1 (.str x):=⟨rfl,by simp[dpt]⟩
theorem Hn.non:Hn 1 .non:=⟨rfl,by simp[dpt]⟩
def Hn.strs (ss:List Str):Hn 2 (.tup (ss.map D.str)):=Hn.tup λd hd=>by
 obtain⟨x,_,rfl⟩:=Ah.mp hd
 exact .str x
end PV
namespace PG
open PySem L2 PV PyProof.Rows K1
variable {mu:Sto}
def Hn.row (r:List Str):Hn 2 (rwD r):=Hn.strs r
def Hn.fl (rs:List (List Str)):Hn 3 (flD rs):=Hn.tup λd hd=>by
 obtain⟨x,_,rfl⟩:=Ah.mp hd
 exact Hn.row x
def RN (t:Tb)(d:D):Prop:=d=.non\/∃r,d=rwD r/\RwOk t r
def RN.hn {t:Tb}{d:D}(h:RN t d):Hn 2 d:=by
 rcases h with rfl|⟨r,rfl,_⟩
 ·exact Hn.non.up (by decide)
 ·exact Hn.row r
structure Pt where
 nm:Str
 key:List Str
 be:D
 af:D
def ptD (p:Pt):D:=.tup [.str p.nm,.tup (p.key.map D.str),p.be,p.af]
structure N5 (ts:List Tb) (p:Pt):Prop where
 ex:∃t∈ts,t.nm=p.nm/\RN t p.be/\RN t p.af
 ne:p.be≠p.af
def kyD (p:Str×List Str):D:=.tup [.str p.1,.tup (p.2.map D.str)]
def sBd:Sx:=(sIf (tAn (tV (CJ neD (CJ ixG (CD 2) (CD 6)) (Ep CH))) (tV (CJ eqD (CI CN (CC (CD 0) (CC (eC (.int 2)) CH))) (eC (.int 0))))) (Dh (CJ Dw (eSl (CI Dl (CC (CD 0) (CC (CJ ixG (CD 2) (CD 6)) CH))) (pNo) (DK (CD 9))) (eSl (CD 10) (DK (CD 9)) (pNo))) (gNm 10)) (sNx))
def Xm {t:Tb}(ht:ED t){r q:List Str}(hr:RwOk t r)(hq:RwOk t q):RwOk t (q.take t.ks++r.drop t.ks):=by
 have l1:=hr.len
 have l2:=hq.len
 have k4:=ht.k4
 refine⟨by simp;ext,λi x p hx hp=>?_⟩
 by_cases c:i<t.ks
 ·rw[As (by simp;ext),A9 c] at hx
  exact hq.at' i x p hx hp
 ·rw[AY (by simp;ext),List.getElem?_drop] at hx
  refine hr.at' i x p ?_ hp
  rw[<- hx]
  congr 1
  simp
  ext
theorem Rf {k n pl:Nat}{t:Tb}(ht:ED t){rs:List (List Str)}(hrs:FlOk t rs){gs:List (List (List Str))}(hg:gs[pl]?=some rs){r:List Str}(hr:RwOk t r){sc fd x5:D}{x11 x12:Option D}(h:HandOk mu k (n+2)) :
  ∃q m',sBd [some (.ref k),some sc,some (.tup (gs.map flD)),some (.int 8),some fd,some x5,some (.int pl),some (.str t.nm),some (.tup (t.cs.map clD)),some (.int t.ks),some (rwD r),x11,x12] mu=some ((.nx,[some (.ref k),some sc,some (.tup (gs.map flD)),some (.int 8),some fd,some x5,some (.int pl),some (.str t.nm),some (.tup (t.cs.map clD)),some (.int t.ks),some (rwD q),x11,x12]),m')/\Fr k n mu m'/\RwOk t q:=by
 have ix:∀m,ixG (.tup (gs.map flD)) (.int pl) m=some (flD rs,m):=λm=>RY _ (.inr rfl) (by rw[Am,hg];rfl)
 have ne:∀m,neD (flD rs) (.tup []) m=some (.bl (!decide (flD rs=.tup [])),m):=λm=>JW ((Hn.fl rs).K (by decide)) (by decide)
 cases rs with
 |nil =>
  refine⟨r,mu,?_,(Fr.refl h).mono (by ext),hr⟩
  have e:decide (flD []=.tup [])=true:=by rw[Aj];rfl
  unfold sBd
  simp![ix,ne,e]
 |cons r0 rs =>
  have e:decide (flD (r0::rs)=.tup [])=false:=by simp[flD]
  obtain⟨_,m1,e1,f1,t1,rfl,a0,a1⟩:=DO (m:=2) (n:=n+1) h (by decide) (by decide)
  by_cases c:t1=0
  ·obtain⟨y,m2,e2,f2,hy⟩:=pick_run (s:=flD (r0::rs)) (ds:=(r0::rs).map rwD) (n:=n) (.inr rfl) (by simp) (by rw[Af];have:=hrs.len;ext) f1.hand
   obtain⟨q,hq,rfl⟩:=Ah.mp hy
   have hq':=hrs.ok q hq
   have l1:=hr.len
   have l2:=hq'.len
   have k4:=ht.k4
   have c1:PV.cutD (q.map D.str) none (some (t.ks:Int))=(q.map D.str).take t.ks:=IL (by rw[Af];ext)
   have c2:PV.cutD (r.map D.str) (some (t.ks:Int)) none=(r.map D.str).drop t.ks:=QC (by rw[Af];ext)
   have ad:Dw (.tup ((q.map D.str).take t.ks)) (.tup ((r.map D.str).drop t.ks)) m2=some (rwD (q.take t.ks++r.drop t.ks),m2):=by
    rw[V1]
    ·simp[rwD]
    ·rw[AO]
     have:=ht.c4
     simp
     ext
   refine⟨q.take t.ks++r.drop t.ks,m2,?_,f1.trans f2,Xm ht hr hq'⟩
   unfold sBd
   have rq:rwD q=.tup (q.map D.str):=rfl
   have rr:rwD r=.tup (r.map D.str):=rfl
   rw[rr]
   rw[rq] at e2
   simp![ix,ne,e,e1,c,e2,c1,c2,ad]
  ·refine⟨r,m1,?_,f1.mono (by ext),hr⟩
   have c':decide (t1=0)=false:=by simp[c]
   unfold sBd
   simp![ix,ne,e,e1,c']
def gBd:Sx:=(CY (Dh (CI CN (CC (CD 0) (CC (CI GL (CC (CD 1) CH)) CH))) (gNm 6)) (CY (Dh (CJ ixG (CD 1) (CD 6)) (gTp 3 (CM (gNm 7) (CM (gNm 8) (CM (gNm 9) DJ))))) (CY (Dh (CI EW (CC (eLC (Ff (CD 8)) 2 [0] (gTp 2 (CM (gNm 0) (CM (gNm 1) DJ))) (tY) (CI Dl (CC (CD 2) (CC (CD 1) CH)))) CH)) (gNm 10)) (CY sBd (CY (Dh (CJ ixG (CJ Dw (eLC (Ff (CJ ixG (CD 2) (CD 6))) 1 [9,10] (gNm 0) (tV (CJ eqD (eSl (CD 0) (pNo) (DK (CD 1))) (eSl (CD 2) (pNo) (DK (CD 1))))) (CD 0)) (Jo (CC (eC .non) CH))) (eC (.int 0))) (gNm 11)) (CY (Dh (CJ ixG (Jo (CC (CD 10) (CC (CD 10) (CC (eC .non) CH)))) (CI CN (CC (CD 0) (CC (eC (.int 3)) CH)))) (gNm 12)) (sIf (tV (CJ neD (CD 12) (CD 11))) (Dh (Ep (CC (CD 7) (CC (eSl (CD 10) (pNo) (DK (CD 9))) (CC (CD 11) (CC (CD 12) CH))))) (gIx (CD 4) (Ep (CC (CD 7) (CC (eSl (CD 10) (pNo) (DK (CD 9))) CH))))) (sNx))))))))
def Hn.ky (p:Str×List Str):Hn 3 (kyD p):=Hn.tup λd hd=>by
 simp only[Ap,AR,BM] at hd
 rcases hd with rfl|rfl
 ·exact(Hn.str _).up (by decide)
 ·exact Hn.strs _
end PG
namespace PV
open PySem L2 PyProof.Rows K1
variable {mu:Sto}
def X2 {k:Nat}{ks ds es:List D}{v:D}(h:mu[k]?=some (.dct ks ds))(he:DN (.tup es)=true)(hv:Di (.tup es) ks ds=some v):ixG (.ref k) (.tup es) mu=some (v,mu):=by
 have e1:ixD (.ref k) (.tup es) mu=none:=rfl
 unfold ixG
 rw[e1]
 simp only[ixC,DF,h,he,hv,if_true,Option.map_some]
def Vy {k:Nat}{ks ds:List D}(h:mu[k]?=some (.dct ks ds))(ok:DX ks=true):GO [.ref k] mu=some (.lst (Dv ks),mu):=by
 have e1:Jk [.ref k] mu=none:=by simp only[Jk,FK,Nz,Gg,D5,h]
 unfold GO
 rw[e1]
 simp only[R9,FK,DF,h,ok,if_true]
end PV
namespace PG
open PySem L2 PV PyProof.Rows K1
variable {mu:Sto}
def TX {ks:List D}(h64:ks.length<64)(hk:∀d∈ks,∃p,d=kyD p):DX ks=true:=by
 unfold DX
 simp only[Ac,Aj,AB,Bool.or_eq_true,JC]
 refine⟨⟨⟨h64,λd hd=>?_⟩,λd hd e he=>?_⟩,.inr λd hd=>?_⟩
 ·obtain⟨p,rfl⟩:=hk d hd
  simp only[kyD,FA,FV,Ij,Ci]
 ·obtain⟨p,rfl⟩:=hk d hd
  obtain⟨q,rfl⟩:=hk e he
  have lx:=KA p.2 q.2
  simp only[kyD,ltB,Gf,DW,Iv,Ci,if_true]
  split
  ·split
   ·rfl
   ·exact lx
  ·rfl
 ·obtain⟨p,rfl⟩:=hk d hd
  have:=JN p.2
  simp only[kyD,tupS,F1,DW,Iv,Ci,Bool.true_and,Aj,Dg,toPy,PyData.depthAll,PyData.depth]
  ext
def RN.low {t:Tb}{d:D}(h:RN t d):DZ 0 d=true:=by
 rcases h with rfl|⟨r,rfl,_⟩
 ·rfl
 ·simp only[rwD,DZ]
  rw[Fm]
  intro d hd
  obtain⟨x,_,rfl⟩:=Ah.mp hd
  rfl
theorem VD {ts:List Tb}{ds:List D}(h:∀d∈ds,∃p,d=ptD p/\N5 ts p):∃ps:List Pt,ds=ps.map ptD/\∀p∈ps,N5 ts p:=by
 induction ds with
 |nil=>exact⟨[],rfl,λ_ h=>nomatch h⟩
 |cons d ds ih =>
  obtain⟨r,rfl,hr⟩:=h d (.head _)
  obtain⟨rs,rfl,hs⟩:=ih λd hd=>h d (.tail _ hd)
  refine⟨r::rs,rfl,λq hq=>?_⟩
  rcases Ap.mp hq with rfl|hq
  ·exact hr
  ·exact hs q hq
def SA {ts:List Tb}{ps:List Pt}(h:∀p∈ps,N5 ts p):DZ 0 (.tup (ps.map ptD))=true:=by
 simp only[DZ]
 rw[Fm]
 intro d hd
 obtain⟨p,hp,rfl⟩:=Ah.mp hd
 obtain⟨t,_,_,h1,h2⟩:=(h p hp).ex
 have hs:Fy 0 (p.key.map D.str)=true:=by
  rw[Fm]
  intro d hd
  obtain⟨x,_,rfl⟩:=Ah.mp hd
  rfl
 simp only[ptD,DZ,Fy,hs,h1.low,h2.low,Ci]
end PG
namespace PV
open PySem L2 PyProof.Rows K1
variable {mu:Sto}
def US {m:Exs}{ro:Ro}{xs ys:List D}{m1:Sto}(h:m ro mu=some ([.tup xs,.tup ys],m1)):Rn m ro mu=some ((HN xs ys,none),m1):=by
 simp only[Rn,h,Mz,PY,Option.map_some]
mutual
def okB (n:Nat):D->Bool
 |.ref _=>false
 |.set _=>false
 |.tup ds=>decide (ds.length<=n)&&RK n ds
 |.lst ds=>RK n ds
 |.dct ks ds=>RK n ks&&RK n ds
 |_=>true
def RK (n:Nat):List D->Bool
 |[]=>true
 |d::ds=>okB n d&&RK n ds
end
end PV
namespace PG
open PySem L2 PV PyProof.Rows K1
variable {mu:Sto}
def OX (x:D)(vs:List Str):Bool:=match x with
 |.str y=>decide (y∈vs)
 |_=>false
def Je (cs:List (Str×List Str))(d:D):Bool:=match d with
 |.tup ds=>decide (ds.length=cs.length)&&(ds.zip cs).all (λp=>OX p.1 p.2.2)
 |_=>false
structure RwC (cs:List (Str×List Str)) (r:List Str):Prop where
 len:r.length=cs.length
 at':∀(i:Nat) x p,r[i]?=some x->cs[i]?=some p->x∈p.2
theorem P7 {cs:List (Str×List Str)}{d:D}(h:Je cs d=true):∃r,d=rwD r/\RwC cs r:=by
 cases d with
 |tup ds =>
  simp only[Je,Ac,Aj,AB] at h
  obtain⟨hl,ha⟩:=h
  have at_:∀(i:Nat) (d:D) (p:Str×List Str),ds[i]?=some d->cs[i]?=some p->OX d p.2=true:=λi d p h1 h2=>ha (d,p) (Ag (i:=i) (by rw[AE];exact⟨h1,h2⟩))
  obtain⟨r,rfl⟩:=UQ (ds:=ds) λj d hj=>by
   have jl:j<cs.length:=by rw[<- hl];exact(Ae.mp hj).1
   have:=at_ j d _ hj (Al jl)
   cases d with
   |str x=>exact⟨x,rfl⟩
   |_=>cases this
  refine⟨r,rfl,by simpa using hl,λi x p hx hp=>?_⟩
  have:=at_ i (.str x) p (by rw[Am,hx];rfl) hp
  simpa[OX] using this
 |_=>simp[Je] at h
theorem Kx {cs:List (Str×List Str)}{r:List Str}(h:RwC cs r):Je cs (rwD r)=true:=by
 simp only[Je,rwD,Af,h.len,decide_true,Bool.true_and,AB]
 intro p hp
 obtain⟨i,hi⟩:=Aw.mp hp
 rw[AE,Am] at hi
 cases q:r[i]? with
 |none=>rw[q] at hi;cases hi.1
 |some x =>
  rw[q] at hi
  have e1:D.str x=p.1:=AH hi.1
  rw[<- e1]
  simp only[OX,Aj]
  exact h.at' i x p.2 q hi.2
theorem RwC.take {cs:List (Str×List Str)}{r:List Str}(h:RwC cs r)(n:Nat):RwC (cs.take n) (r.take n):=by
 refine⟨by rw[AA,AA,h.len],λi x p hx hp=>?_⟩
 rw[List.getElem?_take] at hx hp
 split at hx
 ·rename_i c
  rw[if_pos c] at hp
  exact h.at' i x p hx hp
 ·cases hx
def RwOk.c {t:Tb}{r:List Str}(h:RwOk t r):RwC t.cs r:=⟨h.len,h.at'⟩
theorem RwC.r {t:Tb}{r:List Str}(h:RwC t.cs r):RwOk t r:=⟨h.len,h.at'⟩
def D0 {a b:List Str}:rwD a=rwD b↔a=b:=by
 constructor
 ·intro h
  have h':a.map D.str=b.map D.str:=by unfold rwD at h;injection h
  exact(List.map_inj_right (λx y e=>by injection e)).mp h'
 ·rintro rfl;rfl
structure SW (ts:List Tb):Prop where
 ok:SOk ts
 w:∀t∈ts,IsW t.nm
def Sd (ts:List Tb)(a:D):Option Tb:=match a with
 |.str x=>ts.find? (λt=>decide (t.nm=x))
 |_=>none
def IP (ks:Nat)(rs:List (List Str))(k:List Str):D:=match rs.find? (λr=>decide (r.take ks=k)) with
 |some r=>rwD r
 |none=>.non
def LY {r:List Str}{j:Nat}(h:j<=r.length):slD (rwD r) none (some (j:Int)) mu=some (rwD (r.take j),mu):=by
 unfold rwD
 rw[U9,IL (by rw[Af];exact h),BH]
def Nu:List Tb->List (List (List Str))->Str->List (List Str)
 |t::ts,rs::gs,x=>if t.nm=x then rs else Nu ts gs x
 |_,_,_=>[]
def isN:D->Bool
 |.non=>true
 |_=>false
def rnB (t:Tb)(k:List Str)(x:D):Bool:=isN x||(Je t.cs x&&decide (tkD t.ks x=rwD k))
def Ln:D->List Str
 |.tup ds=>ds.filterMap λd=>match d with|.str x=>some x|_=>none
 |_=>[]
def Lx (k:List Str):Ln (rwD k)=k:=by
 unfold rwD Ln
 dsimp only
 rw[List.filterMap_map]
 exact List.filterMap_some
def pB (ts:List Tb)(gs:List (List (List Str)))(d:D):Bool:=match d with
 |.tup [a,b,c,e]=>(match Sd ts a with
  |none=>false
  |some t=>Je (t.cs.take t.ks) b&&(rnB t (Ln b) c&&(rnB t (Ln b) e&&(decide (c=IP t.ks (Nu ts gs t.nm) (Ln b))&&!decide (e=c)))))
 |_=>false
def Ua {t:Tb}{k:List Str}{x:D}(h:rnB t k x=true):RN t x/\(x=.non\/∃r,x=rwD r/\r.take t.ks=k):=by
 unfold rnB at h
 rw[Bool.or_eq_true,Ac] at h
 rcases h with h|⟨h1,h2⟩
 ·have:x=.non:=by cases x<;>first|rfl|cases h
  exact⟨.inl this,.inl this⟩
 ·obtain⟨r,rfl,hr⟩:=P7 h1
  refine⟨.inr ⟨r,rfl,hr.r⟩,.inr ⟨r,rfl,?_⟩⟩
  rw[Aj] at h2
  rw[<- D0,<- h2]
  simp only[tkD,rwD,BH]
def QB {ts:List Tb}{a:D}{t:Tb}(h:Sd ts a=some t):a=.str t.nm/\t∈ts/\ts.find? (λu=>decide (u.nm=t.nm))=some t:=by
 unfold Sd at h
 split at h
 ·rename_i x
  have e:t.nm=x:=by simpa using List.find?_some h
  subst e
  exact⟨rfl,BI h,h⟩
 ·cases h
def chB (ts:List Tb)(gs:List (List (List Str)))(d:D):Bool:=match d with
 |.tup ps=>ps.all (pB ts gs)&&Pd (ps.map (tkD 2))
 |_=>false
theorem LX:∀{ts:List Tb}{gs:List (List (List Str))},(ts.map Tb.nm).Nodup->∀{i:Nat}{t:Tb}{rs:List (List Str)},ts[i]?=some t->gs[i]?=some rs->Nu ts gs t.nm=rs
 |[],_,_,i,t,rs,h,_=>by simp at h
 |u::ts,[],_,i,t,rs,_,h=>by simp at h
 |u::ts,q::gs,nd,0,t,rs,h1,h2=>by
  cases h1;cases h2
  simp[Nu]
 |u::ts,q::gs,nd,i+1,t,rs,h1,h2=>by
  rw[A3,Br] at nd
  have h1':ts[i]?=some t:=h1
  have h2':gs[i]?=some rs:=h2
  have ne:u.nm≠t.nm:=λe=>nd.1 (e▸Ah.mpr ⟨t,Ag h1',rfl⟩)
  rw[Nu,if_neg ne]
  exact LX nd.2 h1' h2'
def Qp {ts:List Tb}(hS:SOk ts){t u:Tb}(h1:t∈ts)(h2:u∈ts)(e:u.nm=t.nm):u=t:=by
 obtain⟨i,hi,rfl⟩:=List.getElem_of_mem h1
 obtain⟨j,hj,rfl⟩:=List.getElem_of_mem h2
 have:=(List.getElem_inj (i:=j) (j:=i) (h₀:=by simpa using hj) (h₁:=by simpa using hi) hS.nd).mp (by simpa using e)
 subst this
 rfl
theorem Lr (k v e:D):∀(ks ds:List D){w:D},Di e ks (Gv k v ks ds)=some w->(e=k/\w=v)\/Di e ks ds=some w
 |[],ds,w,h=>.inr h
 |_::_,[],w,h=>.inr h
 |x::ks,d::ds,w,h=>by
  rw[Gv,Di] at h
  rw[Di]
  by_cases c:x=e
  ·rw[if_pos c] at h
   rw[if_pos c]
   by_cases c2:x=k
   ·rw[if_pos c2] at h
    exact .inl ⟨c.symm.trans c2,(AH h).symm⟩
   ·rw[if_neg c2] at h
    exact .inr h
  ·rw[if_neg c] at h
   rw[if_neg c]
   exact Lr k v e ks ds h
theorem KY (k v e:D):∀(ks ds:List D){w:D},ds.length=ks.length->Di e (ks++[k]) (ds++[v])=some w->(e=k/\w=v)\/Di e ks ds=some w
 |[],[],w,_,h=>by
  rw[List.nil_append,List.nil_append,Di] at h
  by_cases c:k=e
  ·rw[if_pos c] at h
   exact .inl ⟨c.symm,(AH h).symm⟩
  ·rw[if_neg c] at h
   cases h
 |[],_::_,w,l,_=>by simp at l
 |_::_,[],w,l,_=>by simp at l
 |x::ks,d::ds,w,l,h=>by
  rw[List.cons_append,List.cons_append,Di] at h
  rw[Di]
  by_cases c:x=e
  ·rw[if_pos c] at h
   rw[if_pos c]
   exact .inr h
  ·rw[if_neg c] at h
   rw[if_neg c]
   exact KY k v e ks ds (by simpa using l) h
def Sb {k v e w:D}{ks ds:List D}(l:ds.length=ks.length)(h:Di e (DC k v ks ds).1 (DC k v ks ds).2=some w):(e=k/\w=v)\/Di e ks ds=some w:=by
 unfold DC at h
 split at h
 ·exact Lr k v e ks ds h
 ·exact KY k v e ks ds l h
structure FdK (ts:List Tb) (gs:List (List (List Str))) (ks ds:List D) (i:Nat):Prop where
 dk:DictOk ks ds i
 ky:∀d∈ks,∃p,d=kyD p
 gt:∀d v,Di d ks ds=some v->∃p,v=ptD p/\d=kyD (p.nm,p.key)/\pB ts gs v=true/\N5 ts p
def Up {k n Dk i:Nat}{ts:List Tb}{gs:List (List (List Str))}(HW:SW ts)(hG:IT ts gs){ks ds:List D}(hD:mu[Dk]?=some (.dct ks ds))(fd:FdK ts gs ks ds i)(hi:i<=8)(hkD:Dk≠k)(h:HandOk mu k (n+8)){j:Nat}{x6 x7 x8 x9 x10 x11 x12:Option D} :
  ∃y6 y7 y8 y9 y10 y11 y12 m' ks' ds',gBd [some (.ref k),some (.tup (ts.map tbD)),some (.tup (gs.map flD)),some (.int 8),some (.ref Dk),some (.int j),x6,x7,x8,x9,x10,x11,x12] mu=some ((.nx,[some (.ref k),some (.tup (ts.map tbD)),some (.tup (gs.map flD)),some (.int 8),some (.ref Dk),some (.int j),y6,y7,y8,y9,y10,y11,y12]),m') /\
   m'[Dk]?=some (.dct ks' ds')/\FdK ts gs ks' ds' (i+1)/\HandOk m' k n/\(∀j,j≠k->j≠Dk->m'[j]?=mu[j]?)/\m'.length=mu.length:=by
 have hS:=HW.ok
 have s1:=hS.l1
 have s4:=hS.l4
 obtain⟨_,m1,e1,f1,pl,rfl,a0,a1⟩:=DO (m:=ts.length) (n:=n+7) h (by ext) (by ext)
 obtain⟨p,rfl⟩:∃p:Nat,pl=(p:Int):=⟨pl.toNat,by ext⟩
 have hp:p<ts.length:=by ext
 obtain⟨t,et⟩:∃t,ts[p]?=some t:=⟨_,Al hp⟩
 obtain⟨rs,er⟩:∃rs,gs[p]?=some rs:=⟨_,Al (by rw[hG.len];exact hp)⟩
 have tm:=Ag et
 have ht:=hS.ok t tm
 have hrs:=hG.ok p rs t er et
 have ix1:ixG (.tup (ts.map tbD)) (.int p) m1=some (tbD t,m1):=RY _ (.inr rfl) (by rw[Am,et];rfl)
 obtain⟨r,m2,e2,f2,hr⟩:=Oi (n:=n+3) ht (m0:=m1) f1.hand
 obtain⟨q,m3,e3,f3,hq⟩:=Rf (n:=n+1) ht hrs er hr (sc:=.tup (ts.map tbD)) (fd:=.ref Dk) (x5:=.int j) (x11:=x11) (x12:=x12) f2.hand
 have ix2:ixG (.tup (gs.map flD)) (.int p) m3=some (flD rs,m3):=RY _ (.inr rfl) (by rw[Am,er];rfl)
 have k4:=ht.k4
 have ql:=hq.len
 have cq:PV.cutD (q.map D.str) none (some (t.ks:Int))=(q.take t.ks).map D.str:=by rw[IL (by rw[Af];ext),BH]
 have lc:=Ig (m0:=m3) (tg:=gNm 0) (tt:=(tV (CJ eqD (eSl (CD 0) (pNo) (DK (CD 1))) (eSl (CD 2) (pNo) (DK (CD 1)))))) (el:=CD 0) (ro:=[none,some (.int t.ks),some (rwD q)]) (mu:=m3) (λd=>match d with|.tup es=>decide (D.tup (es.take t.ks)=.tup ((q.map D.str).take t.ks))|_=>false) id (rs.map rwD) (λd hd=>by
  obtain⟨r',hr',rfl⟩:=Ah.mp hd
  have rl:=(hrs.ok r' hr').len
  have cr:PV.cutD (r'.map D.str) none (some (t.ks:Int))=(r'.map D.str).take t.ks:=IL (by rw[Af];ext)
  have cq0:PV.cutD (q.map D.str) none (some (t.ks:Int))=(q.map D.str).take t.ks:=IL (by rw[Af];ext)
  have ek:=XT (mu:=m3) ((Hn.strs (r'.take t.ks)).K (by decide)) ((Hn.strs (q.take t.ks)).K (by decide))
  rw[BH,BH] at ek
  refine⟨[some (rwD r'),some (.int t.ks),some (rwD q)],rfl,?_,λ_=>rfl⟩
  unfold rwD
  simp![cr,cq0,ek])
 rw[List.map_id] at lc
 generalize hfl:(rs.map rwD).filter _=fl at lc
 have flm:∀d∈fl,RN t d:=λd hd=>by
  rw[<- hfl] at hd
  obtain⟨r',hr',rfl⟩:=Ah.mp (AI.mp hd).1
  exact .inr ⟨r',rfl,hrs.ok r' hr'⟩
 have fll:fl.length<=16:=by
  rw[<- hfl]
  have:=Bj (λd=>match d with|D.tup es=>decide (D.tup (es.take t.ks)=.tup ((q.map D.str).take t.ks))|_=>false) (rs.map rwD)
  rw[Af] at this
  have:=hrs.len
  ext
 have ad:Dw (.lst fl) (.lst [.non]) m3=some (.lst (fl++[.non]),m3):=NT (by rw[AO];simp;ext)
 obtain⟨be,hbe,ebe,eb⟩:∃be,RN t be/\be=fl.headD .non/\∀m,ixG (.lst (fl++[.non])) (.int 0) m=some (be,m):=by
  cases fl with
  |nil=>exact⟨.non,.inl rfl,rfl,λm=>by simp only[List.nil_append,Nw]⟩
  |cons d fl=>exact⟨d,flm d (.head _),rfl,λm=>by simp only[List.cons_append,Nw]⟩
 have flr:fl=(rs.filter λr=>decide (r.take t.ks=q.take t.ks)).map rwD:=by
  rw[<- hfl,List.filter_map]
  congr 1
  refine List.filter_congr λr _=>?_
  simp only[Function.comp,rwD]
  rw[<- BH,<- BH]
  exact decide_eq_decide.mpr D0
 have bek:be=IP t.ks (Nu ts gs t.nm) (q.take t.ks):=by
  rw[ebe,flr,LX hS.nd et er]
  unfold IP
  have e1:rs.find? (λr=>decide (r.take t.ks=q.take t.ks))=(rs.filter λr=>decide (r.take t.ks=q.take t.ks)).head?:=by rw[List.head?_filter]
  rw[e1]
  cases rs.filter λr=>decide (r.take t.ks=q.take t.ks) with
  |nil=>rfl
  |cons r l=>rfl
 have rbe:rnB t (q.take t.ks) be=true:=by
  rw[ebe,flr]
  have mem:∀r∈rs.filter (λr=>decide (r.take t.ks=q.take t.ks)),rnB t (q.take t.ks) (rwD r)=true:=λr hr=>by
   have h1:=AI.mp hr
   have h2:r.take t.ks=q.take t.ks:=by simpa using h1.2
   have h3:tkD t.ks (rwD r)=rwD (q.take t.ks):=by rw[<- h2];simp only[tkD,rwD,BH]
   unfold rnB
   rw[Kx (hrs.ok r h1.1).c,h3]
   simp
  cases e:rs.filter λr=>decide (r.take t.ks=q.take t.ks) with
  |nil=>rfl
  |cons r l=>exact mem r (by rw[e];exact .head _)
 obtain⟨_,m4,e4,f4,w,rfl,b0,b1⟩:=DO (m:=3) (n:=n) f3.hand (by decide) (by decide)
 obtain⟨af,haf,ea⟩:=Qm (ds:=[rwD q,rwD q,.non]) b0 (by simpa using b1)
 have ix4:=Ry (mu:=m4) (.lst [rwD q,rwD q,.non]) (.inl rfl) b0 ea
 have raf:RN t af:=by
  simp only[Ap,AR,BM] at haf
  rcases haf with rfl|rfl|rfl
  ·exact .inr ⟨q,rfl,hq⟩
  ·exact .inr ⟨q,rfl,hq⟩
  ·exact .inl rfl
 have rnaf:rnB t (q.take t.ks) af=true:=by
  have h3:tkD t.ks (rwD q)=rwD (q.take t.ks):=by simp only[tkD,rwD,BH]
  have rq0:rnB t (q.take t.ks) (rwD q)=true:=by
   unfold rnB
   rw[Kx hq.c,h3]
   simp
  simp only[Ap,AR,BM] at haf
  rcases haf with rfl|rfl|rfl
  ·exact rq0
  ·exact rq0
  ·rfl
 have tbf:Sd ts (.str t.nm)=some t:=by
  show ts.find? (λu=>decide (u.nm=t.nm))=some t
  cases e:ts.find? (λu=>decide (u.nm=t.nm)) with
  |none=>exact absurd (List.find?_eq_none.mp e t tm) (by simp)
  |some u =>
   have h1:u.nm=t.nm:=by simpa using List.find?_some e
   rw[Qp hS tm (BI e) h1]
 have ne:=JW (mu:=m4) (raf.hn.K (by decide)) (hbe.hn.K (by decide))
 have fr:=((f1.trans f2).trans f3).trans f4
 have D4:m4[Dk]?=some (.dct ks ds):=(fr.keep Dk hkD).trans hD
 have rq:rwD q=.tup (q.map D.str):=rfl
 have tt:tbD t=.tup [.str t.nm,.tup (t.cs.map clD),.int t.ks]:=rfl
 have fe:flD rs=.tup (rs.map rwD):=rfl
 have rr:rwD r=.tup (r.map D.str):=rfl
 rw[fe] at ix2
 rw[tt] at ix1
 by_cases c:af=be
 ·refine⟨some (.int p),some (.str t.nm),some (.tup (t.cs.map clD)),some (.int t.ks),some (rwD q),some be,some af,m4,ks,ds,?_,D4,⟨⟨by have:=fd.dk.len;ext,fd.dk.eq,fd.dk.nd⟩,fd.ky,fd.gt⟩,fr.hand,λj hj _=>fr.keep j hj,fr.len⟩
  have c':decide (af=be)=true:=by simp[c]
  rw[rr] at e3
  unfold gBd
  simp![Af,e1,ix1,e2,e3,ix2,lc,ad,eb,e4,ix4,ne,c']
 ·have c':decide (af=be)=false:=by simp[c]
  have z:=Ng (v:=.tup [.str t.nm,.tup ((q.take t.ks).map D.str),be,af]) D4 ((Hn.ky (t.nm,q.take t.ks)).K (by decide)) (by have:=fd.dk.len;rw[AO];ext)
  obtain⟨p1,p2,p3⟩:=fd.dk.put (kyD (t.nm,q.take t.ks)) (.tup [.str t.nm,.tup ((q.take t.ks).map D.str),be,af])
  refine⟨some (.int p),some (.str t.nm),some (.tup (t.cs.map clD)),some (.int t.ks),some (rwD q),some be,some af,_,_,_,?_,FT D4,⟨p1,λd hd=>?_,λd v hv=>?_⟩,fr.hand.set hkD,λj hj hjD=>?_,?_⟩
  ·rw[rr] at e3
   have kk:kyD (t.nm,q.take t.ks)=.tup [.str t.nm,.tup ((q.take t.ks).map D.str)]:=rfl
   rw[kk] at z
   unfold gBd
   simp![Af,e1,ix1,e2,e3,ix2,lc,ad,eb,e4,ix4,ne,c']
   rw[rq]
   simp![cq,MN,z]
   rfl
  ·rcases p3 d hd with hd|rfl
   ·exact fd.ky d hd
   ·exact⟨_,rfl⟩
  ·rcases Sb fd.dk.eq hv with⟨rfl,rfl⟩|hv
   ·refine⟨⟨t.nm,q.take t.ks,be,af⟩,rfl,rfl,?_,⟨t,tm,rfl,hbe,raf⟩,λe=>c e.symm⟩
    unfold pB
    dsimp only
    have sr:Ln (.tup ((q.take t.ks).map D.str))=q.take t.ks:=Lx _
    have ro:Je (t.cs.take t.ks) (.tup ((q.take t.ks).map D.str))=true:=Kx (hq.c.take t.ks)
    rw[tbf]
    dsimp only
    rw[sr,ro,rbe,rnaf,<- bek,A0 rfl,c']
    rfl
   ·exact fd.gt d v hv
  ·rw[AD hjD.symm,fr.keep j hj]
  ·rw[Cp,fr.len]
def Mi {k n:Nat}{ts:List Tb}{gs:List (List (List Str))}(HW:SW ts)(hG:IT ts gs)(hfl:Flat mu)(h:HandOk mu k (n+100)):Run (EF [.ref k,.tup (ts.map tbD),.tup (gs.map flD),.int 8] mu) k n mu λd=>∃ps:List Pt,d=.tup (ps.map ptD)/\ps.length<=8/\(∀p∈ps,N5 ts p)/\chB ts gs (.tup (ps.map ptD))=true:=by
 have hS:=HW.ok
 have hkl:=h.lt
 have h0:HandOk (mu++[MO.dct [] []]) k (n+100):=h.app
 obtain⟨_,m1,e1,f1,t1,rfl,a0,a1⟩:=DO (m:=9) (n:=n+99) h0 (by decide) (by decide)
 obtain⟨c,rfl⟩:∃c:Nat,t1=(c:Int):=⟨t1.toNat,by ext⟩
 have l1:=f1.len
 simp only[Ar,List.length_cons,List.length_nil] at l1
 have hD:m1[mu.length]?=some (.dct [] []):=by
  rw[f1.keep _ (by ext)]
  simp
 obtain⟨ro',m5,e5,⟨y5,y6,y7,y8,y9,y10,y11,y12,rfl⟩,⟨ks,ds,b1,b2⟩,b6,b7,b8⟩:=Er (m0:=m1) (tg:=gNm 5) (body:=gBd) (λi ro m=>(∃y5 y6 y7 y8 y9 y10 y11 y12,ro=[some (.ref k),some (.tup (ts.map tbD)),some (.tup (gs.map flD)),some (.int 8),some (.ref mu.length),y5,y6,y7,y8,y9,y10,y11,y12]) /\
   (∃ks ds,m[mu.length]?=some (.dct ks ds)/\FdK ts gs ks ds i)/\HandOk m k (n+8*(c-i))/\(∀j,j≠k->j≠mu.length->m[j]?=m1[j]?)/\m.length=m1.length) (E4 0 c) 0
   [some (.ref k),some (.tup (ts.map tbD)),some (.tup (gs.map flD)),some (.int 8),some (.ref mu.length),none,none,none,none,none,none,none,none] m1
   ⟨⟨_,_,_,_,_,_,_,_,rfl⟩,⟨[],[],hD,⟨⟨Ai _,rfl,B5⟩,λ_ h=>(nomatch h),λ_ _ h=>(by cases h)⟩⟩,f1.hand.mono (by ext),λ_ _ _=>rfl,rfl⟩ λj d ro m ed hi=>by
  obtain⟨⟨y5,y6,y7,y8,y9,y10,y11,y12,rfl⟩,⟨ks,ds,b1,b2⟩,hh,hkeep,hlen⟩:=hi
  obtain⟨rfl,hj⟩:=Kd ed
  obtain⟨z6,z7,z8,z9,z10,z11,z12,m',ks',ds',g1,g2,g3,g4,g5,g6⟩:=Up (n:=n+8*(c-(0+j+1))) HW hG b1 b2 (by ext) (by ext) (hh.mono (by ext)) (j:=j) (x6:=y6) (x7:=y7) (x8:=y8) (x9:=y9) (x10:=y10) (x11:=y11) (x12:=y12)
  exact⟨_,m,_,m',rfl,g1,⟨_,_,_,_,_,_,_,_,rfl⟩,⟨ks',ds',g2,g3⟩,g4,λi hi hiD=>(g5 i hi hiD).trans (hkeep i hi hiD),g6.trans hlen⟩
 rw[Jt] at b2 b6
 have kl:=b2.dk.len
 have sok:=TX (ks:=ks) (by ext) b2.ky
 have lc:=Kh (m0:=m5) (tg:=gNm 0) (el:=(CJ ixG (CD 1) (CD 0))) (ro:=[none,some (.ref mu.length)]) (mu:=m5) (λd=>(Di d ks ds).getD .non) (Dv ks) (λd hd=>by
  have hm:=(Df ks).mem_iff.mp hd
  obtain⟨p,rfl⟩:=b2.ky d hm
  have sm:=GZ (k:=kyD p) b2.dk.nd b2.dk.eq
  rw[A0 hm] at sm
  obtain⟨v,hv⟩:=Ce.mp sm
  refine⟨_,rfl,?_⟩
  have z:=X2 (mu:=m5) b1 ((Hn.ky p).K (by decide)) hv
  have kk:kyD p=.tup [.str p.1,.tup (p.2.map D.str)]:=rfl
  rw[hv,kk]
  simp![z,Option.getD_some])
 have allK:∀e∈Dv ks,∃p,(Di e ks ds).getD .non=ptD p/\e=kyD (p.nm,p.key)/\pB ts gs (ptD p)=true/\N5 ts p:=λe he=>by
  have hm:=(Df ks).mem_iff.mp he
  have sm:=GZ (k:=e) b2.dk.nd b2.dk.eq
  rw[A0 hm] at sm
  obtain⟨v,hv⟩:=Ce.mp sm
  obtain⟨p,rfl,h2,h3,h4⟩:=b2.gt e v hv
  exact⟨p,by rw[hv];rfl,h2,h3,h4⟩
 have all:∀d∈(Dv ks).map λd=>(Di d ks ds).getD .non,∃p,d=ptD p/\N5 ts p:=λd hd=>by
  obtain⟨e,he,rfl⟩:=Ah.mp hd
  obtain⟨p,h1,_,_,h4⟩:=allK e he
  exact⟨p,h1,h4⟩
 have chk:chB ts gs (.tup ((Dv ks).map λd=>(Di d ks ds).getD .non))=true:=by
  unfold chB
  dsimp only
  rw[Ac]
  refine⟨AB.mpr λd hd=>?_,?_⟩
  ·obtain⟨e,he,rfl⟩:=Ah.mp hd
   obtain⟨p,h1,_,h3,_⟩:=allK e he
   rw[h1]
   exact h3
  ·have e1:((Dv ks).map λd=>(Di d ks ds).getD .non).map (tkD 2)=Dv ks:=by
    rw[AK]
    refine Eq.trans (Bl (g:=id) λe he=>?_) (List.map_id _)
    obtain⟨p,h1,h2,_,_⟩:=allK e he
    simp only[Function.comp,h1,id]
    rw[h2]
    rfl
   rw[e1]
   exact(LG _).mpr (L9 (Hh sok) b2.dk.nd)
 obtain⟨ps,ep,hps⟩:=VD all
 rw[ep] at lc chk
 have pl:ps.length<=8:=by
  have:=congrArg List.length ep
  rw[Af,Af,(Df ks).length_eq] at this
  ext
 have f5:Fr k n mu (m5.take mu.length):=by
  refine⟨?_,λj hj=>?_,by rw[AA];ext⟩
  ·obtain⟨x,y,z,q,r1,r2,r3⟩:=b6
   exact⟨x,y,z,by rw[A9 (by ext)];exact q,r1,r2,by ext⟩
  ·by_cases hj':j<mu.length
   ·rw[A9 hj',b7 j hj (by ext),f1.keep j hj,As hj']
   ·rw[BC (by rw[AA];ext),BC (by ext)]
 refine⟨.tup (ps.map ptD),m5.take mu.length,?_,f5,ps,rfl,pl,hps,chk⟩
 have rg:=N6 (mu:=mu++[MO.dct [] []]) (ro:=[some (.ref k),some (.tup (ts.map tbD)),some (.tup (gs.map flD)),some (.int 8),some (.ref mu.length),none,none,none,none,none,none,none,none]) (r:=(CC (CI CN (CC (CD 0) (CC (CJ Dw (CD 3) (eC (.int 1))) CH))) CH)) (n:=c) (m:=m1) (by simp![Int.reduceAdd,e1]) (by ext) (by rw[AO];ext)
 rw[Int.toNat_natCast] at rg
 unfold gBd sBd at e5
 simp![EF,GF,rg,e5,Vy b1 sok,lc]
 exact Ir (SA hps) (f5.flat hfl)
def QI {ts:List Tb}(hS:SOk ts)(h:LM (.tup (ts.map tbD))=true):SW ts:=by
 refine⟨hS,λt ht=>?_⟩
 have h':((Fz 1 4 (.tup (ts.map tbD))&&(ts.map tbD).all H0)&&IY ((ts.map tbD).map HS))=true:=h
 rw[Ac,Ac,AB] at h'
 have:=h'.1.2 (tbD t) (Ah.mpr ⟨t,ht,rfl⟩)
 unfold H0 tbD at this
 dsimp only at this
 rw[Ac,Ac] at this
 exact Iz.mp this.1.1
end PG
namespace PV
open PySem L2 PySem.Spec PyProof.Rows K1 Builtin.Str
def HD:∀c∈DY.cps.toList,reprChar 39 c=[c]/\c≠39/\c<1114112:=by
 have:DY.cps.toList.all (λc=>decide (reprChar 39 c=[c])&&(decide (c≠39)&&decide (c<1114112)))=true:=by symm
 intro c hc
 have h:=AB.mp this c hc
 simp only[Ac,Aj] at h
 exact h
theorem J5:∀(l:List Nat) (acc:Array Nat),(∀c∈l,c∈DY.cps.toList)->l.foldl (λout c=>out++(reprChar 39 c).toArray) acc=acc++l.toArray
 |[],acc,_=>by simp
 |c::l,acc,h=>by
  rw[List.foldl_cons,J5 l _ λc hc=>h c (.tail _ hc),(HD c (h c (.head _))).1]
  apply Array.ext'
  simp
def Nl {x:Str}(h:IsW x):reprText x=⟨(#[39]++x.cps).push 39⟩:=by
 have q:reprQuote x=39:=by
  unfold reprQuote
  have:x.cps.contains 39=false:=by
   rw[Bool.eq_false_iff]
   intro e
   have:=Array.contains_iff_mem.mp e
   exact(HD 39 (h.al 39 (by simpa using this))).2.1 rfl
  rw[this]
  rfl
 unfold reprText
 rw[q,<- Array.foldl_toList,J5 _ _ h.al]
def NV {x:Str}(h:IsW x):(reprText x).length<=10/\PyData.strOk (reprText x)=true:=by
 rw[Nl h]
 have h8:=h.hi
 constructor
 ·unfold Str.length at h8 ⊢
  simp
  ext
 ·unfold PyData.strOk
  rw[Array.all_eq_true']
  intro c hc
  simp only[Array.mem_push,Array.mem_append] at hc
  rcases hc with(hc|hc)|hc
  ·simp at hc
   subst hc
   decide
  ·have:=(HD c (h.al c (by simpa using hc))).2.2
   simpa using this
  ·subst hc
   decide
mutual
def rsz:D->Nat
 |.tup ds=>5+MZ ds
 |.lst ds=>5+MZ ds
 |_=>10
def MZ:List D->Nat
 |[]=>0
 |d::ds=>rsz d+2+MZ ds
end
mutual
def rok:D->Prop
 |.tup ds=>Iy ds
 |.str x=>IsW x
 |.non=>True
 |_=>False
def Iy:List D->Prop
 |[]=>True
 |d::ds=>rok d/\Iy ds
end
def FF {a b:Str}(ha:PyData.strOk a=true)(hb:PyData.strOk b=true):PyData.strOk (a++b)=true:=by
 unfold PyData.strOk at ha hb ⊢
 rw[Str.cps_append,Array.all_append,ha,hb]
 rfl
theorem JK (sep:Str)(hs:PyData.strOk sep=true):∀ts:List Str,(∀t∈ts,PyData.strOk t=true)->PyData.strOk (Str.join sep ts)=true
 |[],_=>(show PyData.strOk (Str.ofString "")=true by symm)
 |[x],h=>h x (.head _)
 |x::y::r,h=>by
  show PyData.strOk (x++sep++Str.join sep (y::r))=true
  exact FF (FF (h x (.head _)) hs) (JK sep hs (y::r) λt ht=>h t (.tail _ ht))
mutual
theorem Mg:∀(d:D),rok d->(toPy d).showable=true/\(toPy d).hasDict=false/\(toPy d).shown.length<=rsz d/\PyData.strOk (toPy d).shown=true/\DW d=true
 |.tup ds,h=>by
  obtain⟨a,b,c,e,f⟩:=La ds (by simpa only[rok] using h)
  have hc:PyData.strOk (Str.ofString ", ")=true:=by symm
  have h0:PyData.strOk (Str.ofString "(")=true:=by symm
  have h1:PyData.strOk (Str.ofString ",)")=true:=by symm
  have h2:PyData.strOk (Str.ofString ")")=true:=by symm
  have l0:(Str.ofString "(").length=1:=by symm
  have l1:(Str.ofString ",)").length=2:=by symm
  have l2:(Str.ofString ")").length=1:=by symm
  have l3:(Str.ofString ", ").length=2:=by symm
  refine⟨by simp only[toPy,PyData.showable,a],by simp only[toPy,PyData.hasDict,b],?_,?_,by simp only[DW,f]⟩
  ·simp only[toPy,PyData.shown,rsz]
   unfold tupleText
   rw[Str.length_append,Str.length_append,l0]
   have j:=StrLaws.join_length_le (Str.ofString ", ") (PyData.shownAll (Dg ds))
   rw[l3] at j
   split
   ·rw[l1];ext
   ·rw[l2];ext
  ·simp only[toPy,PyData.shown]
   unfold tupleText
   refine FF (FF h0 (JK _ hc _ e)) ?_
   split
   ·exact h1
   ·exact h2
 |.str x,h=>by
  obtain⟨a,b⟩:=NV (by simpa only[rok] using h)
  exact⟨rfl,rfl,by simpa only[toPy,PyData.shown,rsz] using a,by simpa only[toPy,PyData.shown] using b,rfl⟩
 |.non,_=>⟨rfl,rfl,by symm,by symm,rfl⟩
 |.lst _,h=>by simp only[rok] at h
 |.dct _ _,h=>by simp only[rok] at h
 |.set _,h=>by simp only[rok] at h
 |.ref _,h=>by simp only[rok] at h
 |.bl _,h=>by simp only[rok] at h
 |.int _,h=>by simp only[rok] at h
theorem La:∀(ds:List D),Iy ds->PyData.showableAll (Dg ds)=true/\PyData.hasDictAll (Dg ds)=false/\((PyData.shownAll (Dg ds)).map (·.length)).sum+(PyData.shownAll (Dg ds)).length*2<=MZ ds/\(∀t∈PyData.shownAll (Dg ds),PyData.strOk t=true)/\F1 ds=true
 |[],_=>⟨rfl,rfl,Ai _,(λ_ h=>nomatch h),rfl⟩
 |d::ds,h=>by
  have h':rok d/\Iy ds:=by simpa only[Iy] using h
  obtain⟨a,b,c,e,f⟩:=Mg d h'.1
  obtain⟨a',b',c',e',f'⟩:=La ds h'.2
  refine⟨by simp only[Dg,PyData.showableAll,a,a',Ci],by simp only[Dg,PyData.hasDictAll,b,b',Bool.or_self],?_,λt ht=>?_,by simp only[F1,f,f',Ci]⟩
  ·simp only[Dg,PyData.shownAll,A3,List.sum_cons,List.length_cons,MZ]
   ext
  ·simp only[Dg,PyData.shownAll,Ap] at ht
   rcases ht with rfl|ht
   ·exact e
   ·exact e' t ht
end
def Oy {mu:Sto}{d:D}(h:rok d)(hd:(toPy d).depth<=60)(hz:rsz d<=16777216):Ec [d] mu=some (.str (toPy d).shown,mu):=by
 obtain⟨a,b,c,e,f⟩:=Mg d h
 have sd:seen mu d=d:=by cases d<;>first|rfl|(simp[rok] at h)
 unfold Ec
 simp only[FK,sd,f,Oe,a,b,e,Bool.not_false,Bool.true_and,Bool.and_true]
 rw[if_pos]
 rw[Ac,Aj,Aj,AO]
 ext
theorem Ip {ds:List D}:Iy ds↔∀d∈ds,rok d:=by
 induction ds with
 |nil=>simp[Iy]
 |cons d ds ih=>simp[Iy,ih]
theorem Io {n:Nat}:∀{ds:List D},(∀d∈ds,rsz d<=n)->MZ ds<=ds.length*(n+2)
 |[],_=>AX _
 |d::ds,h=>by
  have:=Io λd hd=>h d (.tail _ hd)
  have:=h d (.head _)
  simp only[MZ,List.length_cons,Nat.succ_mul]
  ext
end PV
namespace PV
open PySem L2 PyProof.Rows K1
variable {mu:Sto}
theorem Aaj {β:Type}{i:Ix}{nc:Nat}{fvs:List Nat}{tg:Gx}{tt:Tx}{st:Mx β}{b0:β}{fin:β->Sto->D×Sto}{ro:Ro}:eCo i nc fvs tg tt st b0 fin ro mu=bM (i ro mu) λp m1=>bM (cGo p.2 m1 tg tt st (r0 nc fvs ro) p.1 b0 m1) λb m2=>some (fin b m2):=rfl
def QH (k v:D)(ks ds:List D):(DC k v ks ds).1.length<=ks.length+1:=by
 unfold DC
 split
 ·exact Nat.le_succ _
 ·rw[Ar];exact Ai _
theorem MR {m0:Sto}{tg:Gx}{kk vv:Ex}{ro:Ro}(g:D->D×D):∀(ds:List D) (p:List D×List D),(∀d∈ds,∃ro1,tg d ro mu=some (ro1,mu)/\kk ro1 mu=some ((g d).1,mu)/\vv ro1 mu=some ((g d).2,mu)/\DN (g d).1=true)->p.1.length+ds.length<=sizeLine->cGo none m0 tg tY (stD kk vv) ro ds p mu=some (putAll p (ds.map g),mu)
 |[],p,_,_=>rfl
 |d::ds,p,h,l=>by
  obtain⟨ro1,e1,e2,e3,e4⟩:=h d (.head _)
  rw[List.length_cons] at l
  have ih:=MR (m0:=m0) (tg:=tg) (kk:=kk) (vv:=vv) (ro:=ro) g ds (DC (g d).1 (g d).2 p.1 p.2) (λd' hd=>h d' (.tail _ hd)) (by have:=QH (g d).1 (g d).2 p.1 p.2;ext)
  unfold cGo
  rw[e1,DD]
  simp only[VC,Mz,if_true,stD,e2,e3]
  rw[if_pos ⟨e4,by ext⟩,DD,Em,if_pos (show gOk none m0 mu from True.intro),ih]
  rfl
theorem Hv:∀(ps:List (D×D)) (ks vs:List D),ks.length=vs.length->(ks++ps.map (·.1)).Nodup->putAll (ks,vs) ps=(ks++ps.map (·.1),vs++ps.map (·.2))
 |[],ks,vs,_,_=>by simp[putAll]
 |p::ps,ks,vs,l,n=>by
  have h1:p.1∉ks:=λh=>by
   rw[A3,BQ] at n
   exact n.2.2 p.1 h p.1 (.head _) rfl
  have:putAll (ks,vs) (p::ps)=putAll (ks++[p.1],vs++[p.2]) ps:=by
   unfold putAll
   rw[List.foldl_cons]
   congr 1
   unfold DC
   rw[if_neg h1]
  rw[this,Hv ps (ks++[p.1]) (vs++[p.2]) (by simp[l]) (by simpa using n)]
  simp
def J1 {A:Type}{g:Option Nat}{m:Sto}{r:Rs A}:Em g m m r=r:=by
 unfold Em
 rw[if_pos (by cases g with|none=>exact True.intro|some k=>exact rfl)]
theorem JL {go:Option Nat}{tg:Gx}{tt:Tx}{el:Ex}{ro:Ro}{mu:Sto}(p:D->Bool)(g:D->D):∀ds:List D,(∀d∈ds,∃ro1,tg d ro mu=some (ro1,mu)/\tt ro1 mu=some (p d,mu)/\(p d=true->el ro1 mu=some (g d,mu)))->F9 go mu tg tt el ro ds mu=some ((ds.filter p).map g,mu)
 |[],_=>rfl
 |d::ds,h=>by
  obtain⟨ro1,a,b,c⟩:=h d (.head _)
  have ih:=JL (go:=go) p g ds λd' hd=>h d' (.tail _ hd)
  unfold F9
  rw[a,DD,b,DD]
  cases hp:p d with
  |true =>
   rw[if_pos rfl,c hp,DD,J1,ih,List.filter_cons,if_pos hp]
   rfl
  |false =>
   rw[if_neg (by simp),J1,ih,List.filter_cons,if_neg (by rw[hp];simp)]
end PV
namespace PG
open PySem L2 PV PyProof.Rows K1
variable {mu:Sto}
structure RL (t:Tb) (n:Nat) (rs:List (List Str)):Prop where
 len:rs.length<=n
 ok:∀r∈rs,RwOk t r
 nd:(rs.map λr=>r.take t.ks).Nodup
 up:(rs.map rwD).Pairwise λa b=>ltT a b=true
def FlOk.rl {t:Tb}{rs:List (List Str)}(h:FlOk t rs):RL t 16 rs:=by
 refine⟨h.len,h.ok,?_,h.up⟩
 have e:(rs.map rwD).map (tkD t.ks)=(rs.map λr=>r.take t.ks).map rwD:=by
  rw[AK,AK]
  refine Bl λr _=>?_
  show D.tup ((r.map D.str).take t.ks)=D.tup ((r.take t.ks).map D.str)
  rw[BH]
 have nd:=h.nd
 rw[e] at nd
 exact Gs nd
def kyR (t:Tb)(r:List Str):D:=rwD (r.take t.ks)
def Jx {t:Tb}{r:List Str}(ht:ED t)(h:RwOk t r):t.ks<=r.length:=by rw[h.len];exact ht.k4
def RL.keys {t:Tb}{n:Nat}{rs:List (List Str)}(h:RL t n rs):(rs.map (kyR t)).Nodup:=by
 have e:rs.map (kyR t)=(rs.map λr=>r.take t.ks).map rwD:=by rw[AK];rfl
 rw[e,AG,A5]
 exact(AG.mp h.nd).imp λhn hr=>hn (D0.mp hr)
def HI {t:Tb}(ht:ED t){n:Nat}(hn:n<=64){rs:List (List Str)}(h:RL t n rs):Dy [tbD t,flD rs] mu=some (.ref mu.length,mu++[.dct (rs.map (kyR t)) (rs.map rwD)]):=by
 have ln:=h.len
 have cg:=MR (m0:=mu) (mu:=mu) (tg:=gNm 0) (kk:=eSl (CD 0) (pNo) (DK (CJ ixG (CD 1) (eC (.int 2))))) (vv:=CD 0) (ro:=[none,some (tbD t)]) (λd=>(tkD t.ks d,d)) (rs.map rwD) ([],[]) (λd hd=>by
  obtain⟨r,hr,rfl⟩:=Ah.mp hd
  have hl:=Jx ht (h.ok r hr)
  have e:tkD t.ks (rwD r)=rwD (r.take t.ks):=by
   show D.tup ((r.map D.str).take t.ks)=D.tup ((r.take t.ks).map D.str)
   rw[BH]
  refine⟨_,rfl,?_,rfl,?_⟩
  ·have c:=LY (mu:=mu) hl
   simp![tbD,c,e]
  ·rw[e];exact(Hn.row _).K (by decide)) (by rw[Af,AO];simp;ext)
 have pn:=Hv ((rs.map rwD).map λd=>(tkD t.ks d,d)) [] [] rfl (by
  rw[List.nil_append,AK,AK]
  refine(?_:(rs.map _)=rs.map (kyR t))▸h.keys
  refine Bl λr _=>?_
  show D.tup ((r.map D.str).take t.ks)=D.tup ((r.take t.ks).map D.str)
  rw[BH])
 rw[pn] at cg
 have e1:([]:List D)++((rs.map rwD).map λd=>(tkD t.ks d,d)).map (·.1)=rs.map (kyR t):=by
  rw[List.nil_append,AK,AK]
  refine Bl λr _=>?_
  show D.tup ((r.map D.str).take t.ks)=D.tup ((r.take t.ks).map D.str)
  rw[BH]
 have e2:([]:List D)++((rs.map rwD).map λd=>(tkD t.ks d,d)).map (·.2)=rs.map rwD:=by
  rw[List.nil_append,AK,AK]
  rfl
 rw[e1,e2] at cg
 simp![Dy,Ga,Aaj,flD,cg,OO]
def upP (t:Tb)(a:List D×List D)(p:Pt):List D×List D:=if p.nm=t.nm then DC (rwD p.key) p.af a.1 a.2 else a
def PtR (t:Tb)(p:Pt):Prop:=p.nm=t.nm->RN t p.af
def OF (x:D):L3 x .non mu=some (.bl (!isN x),mu):=by cases x<;>rfl
def JI (hfl:Flat mu){x:MO}{d:D}(hd:DZ 0 d=true):KO mu (mu++[x]) d=some (d,mu):=by
 have e:(mu++[x]).take mu.length=mu:=List.take_left
 have:=Ir (mu:=mu) (m:=mu++[x]) hd (by rw[e];exact hfl)
 rw[e] at this
 exact this
theorem LP {t:Tb}{a:List D×List D}{n:Nat}(h:DictOk a.1 a.2 n)(hv:∀d∈a.2,RN t d):∀ps:List Pt,(∀p∈ps,PtR t p)->DictOk (ps.foldl (upP t) a).1 (ps.foldl (upP t) a).2 (n+(ps.filter λp=>decide (p.nm=t.nm)).length)/\∀d∈(ps.foldl (upP t) a).2,RN t d:=by
 intro ps
 induction ps generalizing a n with
 |nil=>exactλ_=>⟨h,hv⟩
 |cons p ps ih =>
  intro hp
  rw[List.foldl_cons,List.filter_cons]
  have hp1:=hp p (.head _)
  have hps:∀q∈ps,PtR t q:=λq hq=>hp q (.tail _ hq)
  by_cases c:p.nm=t.nm
  ·have hq:=h.put (rwD p.key) p.af
   have e:upP t a p=DC (rwD p.key) p.af a.1 a.2:=by unfold upP;rw[if_pos c]
   rw[e]
   obtain⟨x,y⟩:=ih (a:=DC (rwD p.key) p.af a.1 a.2) (n:=n+1) hq.1 (λd hd=>(hq.2.1 d hd).elim (hv d) λz=>z▸hp1 c) hps
   rw[if_pos (A0 c),List.length_cons]
   exact⟨⟨by have:=x.len;ext,x.eq,x.nd⟩,y⟩
  ·have e:upP t a p=a:=by unfold upP;rw[if_neg c]
   rw[e]
   obtain⟨x,y⟩:=ih h hv hps
   rw[if_neg (by simpa using c)]
   exact⟨x,y⟩
def O1 {ds:List D}(ok:DX ds=true):GO [.lst ds] mu=some (.lst (Dv ds),mu):=by
 have e:Jk [.lst ds] mu=some (.lst (Dv ds),mu):=by simp only[Jk,FK,Nz,Gg,D5,ok,if_true]
 unfold GO
 rw[e]
def RB {t:Tb}{ds:List D}(h:∀d∈ds,∃r,d=rwD r/\RwOk t r):DZ 0 (.tup ds)=true:=by
 simp only[DZ]
 rw[Fm]
 intro d hd
 obtain⟨r,rfl,_⟩:=h d hd
 simp only[rwD,DZ]
 rw[Fm]
 intro d hd
 obtain⟨x,_,rfl⟩:=Ah.mp hd
 rfl
def cBd:Sx:=(sIf (tV (CJ eqD (CD 4) (CJ ixG (CD 0) (eC (.int 0))))) (Dh (CD 7) (gIx (CD 3) (CD 5))) (sNx))
def RN.row {t:Tb}{d:D}(h:RN t d)(n:isN d=false):∃r,d=rwD r/\RwOk t r:=by
 rcases h with rfl|h
 ·cases n
 ·exact h
def N3 {t:Tb}(ht:ED t)(hfl:Flat mu){n:Nat}{rs:List (List Str)}(h:RL t n rs){ps:List Pt}(hp:∀p∈ps,PtR t p)(hl:ps.length<=1000)(hn:n+(ps.filter λp=>decide (p.nm=t.nm)).length<64) :
  DI [tbD t,flD rs,.tup (ps.map ptD)] mu=some (.tup (Dv (((ps.foldl (upP t) (rs.map (kyR t),rs.map rwD)).2).filter λd=>!isN d)),mu):=by
 have ln:=h.len
 have d0:DictOk (rs.map (kyR t)) (rs.map rwD) n:=⟨by rw[Af];exact ln,by rw[Af,Af],h.keys⟩
 have v0:∀d∈rs.map rwD,RN t d:=λd hd=>by
  obtain⟨r,hr,rfl⟩:=Ah.mp hd
  exact .inr ⟨r,rfl,h.ok r hr⟩
 have bk:=HI (mu:=mu) ht (by ext) h
 obtain⟨ro',m5,e5,⟨y4,y5,y6,y7,rfl⟩,rfl⟩:=Er (m0:=mu++[MO.dct (rs.map (kyR t)) (rs.map rwD)]) (tg:=(gTp 4 (CM (gNm 4) (CM (gNm 5) (CM (gNm 6) (CM (gNm 7) DJ)))))) (body:=cBd) (λi ro m=>(∃y4 y5 y6 y7,ro=[some (tbD t),some (flD rs),some (.tup (ps.map ptD)),some (.ref mu.length),y4,y5,y6,y7]) /\
   m=mu++[MO.dct ((ps.take i).foldl (upP t) (rs.map (kyR t),rs.map rwD)).1 ((ps.take i).foldl (upP t) (rs.map (kyR t),rs.map rwD)).2]) (ps.map ptD) 0
   [some (tbD t),some (flD rs),some (.tup (ps.map ptD)),some (.ref mu.length),none,none,none,none] (mu++[MO.dct (rs.map (kyR t)) (rs.map rwD)]) ⟨⟨_,_,_,_,rfl⟩,rfl⟩ λj d ro m ed hi=>by
  obtain⟨⟨y4,y5,y6,y7,rfl⟩,rfl⟩:=hi
  rw[Am] at ed
  cases ep:ps[j]? with
  |none=>rw[ep] at ed;cases ed
  |some p =>
   rw[ep] at ed
   have ed':ptD p=d:=by simpa using ed
   subst ed'
   have hpp:=hp p (Ag ep)
   rw[Bb]
   have fo:=(LP (a:=(rs.map (kyR t),rs.map rwD)) d0 v0 (ps.take j) λq hq=>hp q (List.mem_of_mem_take hq)).1
   have fl:((ps.take j).filter λp=>decide (p.nm=t.nm)).length<=1000:=by
    have a1:=Bj (λp=>decide (p.nm=t.nm)) (ps.take j)
    have a2:(ps.take j).length<=ps.length:=by rw[AA];ext
    ext
   have fln:=fo.len
   have st:(ps.take (j+1)).foldl (upP t) (rs.map (kyR t),rs.map rwD)=upP t ((ps.take j).foldl (upP t) (rs.map (kyR t),rs.map rwD)) p:=by rw[BW,ep,List.foldl_append];rfl
   rw[st]
   generalize (ps.take j).foldl (upP t) (rs.map (kyR t),rs.map rwD)=a at fo fln ⊢
   have hk:DN (rwD p.key)=true:=(Hn.row _).K (by decide)
   have pt:=Ng (mu:=mu++[MO.dct a.1 a.2]) (k:=mu.length) (ks:=a.1) (ds:=a.2) (e:=rwD p.key) (v:=p.af) (by simp) hk (by rw[AO];ext)
   have ms:(mu++[MO.dct a.1 a.2]).set mu.length (.dct (DC (rwD p.key) p.af a.1 a.2).1 (DC (rwD p.key) p.af a.1 a.2).2)=mu++[MO.dct (DC (rwD p.key) p.af a.1 a.2).1 (DC (rwD p.key) p.af a.1 a.2).2]:=by
    rw[List.set_append_right _ _ (Ai _),Nat.sub_self]
    rfl
   rw[ms] at pt
   have kr:rwD p.key=.tup (p.key.map D.str):=rfl
   rw[kr] at pt
   by_cases c:p.nm=t.nm
   ·have eu:upP t a p=DC (rwD p.key) p.af a.1 a.2:=by unfold upP;rw[if_pos c]
    rw[eu,kr]
    refine⟨_,mu++[MO.dct a.1 a.2],_,_,rfl,?_,⟨some (.str p.nm),some (.tup (p.key.map D.str)),some p.be,some p.af,rfl⟩,rfl⟩
    unfold cBd
    simp![tbD,c,MN,pt]
   ·have eu:upP t a p=a:=by unfold upP;rw[if_neg c]
    rw[eu]
    refine⟨_,mu++[MO.dct a.1 a.2],_,_,rfl,?_,⟨some (.str p.nm),some (.tup (p.key.map D.str)),some p.be,some p.af,rfl⟩,rfl⟩
    unfold cBd
    simp![tbD,c]
 have tk:ps.take (0+(ps.map ptD).length)=ps:=by rw[Bb,Af,Cd]
 rw[tk] at e5
 obtain⟨fo,fv⟩:=LP (a:=(rs.map (kyR t),rs.map rwD)) d0 v0 ps hp
 have fln:=fo.len
 have feq:=fo.eq
 generalize ps.foldl (upP t) (rs.map (kyR t),rs.map rwD)=a at fo fv fln feq e5 ⊢
 have lc:=JL (go:=some mu.length) (mu:=mu++[MO.dct a.1 a.2]) (tg:=gNm 0) (tt:=tV (CJ L3 (CD 0) (eC .non))) (el:=CD 0) (ro:=[none]) (λd=>!isN d) id a.2 (λd hd=>⟨_,rfl,by simp![OF],λ_=>rfl⟩)
 rw[List.map_id] at lc
 have rw':∀d∈a.2.filter (λd=>!isN d),∃r,d=rwD r/\RwOk t r:=λd hd=>by
  obtain⟨h1,h2⟩:=AI.mp hd
  exact(fv d h1).row (by simpa using h2)
 obtain⟨qs,q1,q2⟩:=Iq rw'
 have ql:qs.length<64:=by
  have a1:(qs.map rwD).length<=a.2.length:=by rw[<- q1];exact Bj _ _
  rw[Af] at a1
  ext
 have sok:DX (a.2.filter λd=>!isN d)=true:=by
  rw[q1]
  exact Jz ql λr hr=>(q2 r hr).ne ht
 have sr:=O1 (mu:=mu++[MO.dct a.1 a.2]) sok
 have low:DZ 0 (.tup (Dv (a.2.filter λd=>!isN d)))=true:=RB (t:=t) λd hd=>rw' d ((Df _).mem_iff.mp hd)
 have ix:iDx true (CD 3) [some (tbD t),some (flD rs),some (.tup (ps.map ptD)),some (.ref mu.length),y4,y5,y6,y7] (mu++[MO.dct a.1 a.2])=some ((a.2,some mu.length),mu++[MO.dct a.1 a.2]):=by
  have at0:(mu++[MO.dct a.1 a.2])[mu.length]?=some (.dct a.1 a.2):=by simp
  simp![iDx,DF,fD,refOf,at0]
 unfold cBd at e5
 simp![DI,FR,bk,e5,ix,lc,sr]
 exact JI hfl low
structure PtV (t:Tb) (p:Pt):Prop where
 af:p.nm=t.nm->p.af=.non\/∃r,p.af=rwD r/\RwOk t r/\r.take t.ks=p.key
theorem PtV.r {t:Tb}{p:Pt}(h:PtV t p):PtR t p:=λe=>(h.af e).elim .inl λ⟨r,a,b,_⟩=>.inr ⟨r,a,b⟩
def Apart (ps:List Pt):Prop:=ps.Pairwise λp q=>p.nm=q.nm->p.key≠q.key
def aft (t:Tb)(rs:List (List Str))(ps:List Pt)(r:List Str):Prop:=(r∈rs/\∀p∈ps,p.nm=t.nm->p.key≠r.take t.ks)\/∃p∈ps,p.nm=t.nm/\p.af=rwD r
def Eo (e k:D)(ks:List D)(v:D)(ds:List D):Di e (k::ks) (v::ds)=if k=e then some v else Di e ks ds:=by
 rw[Di]
theorem Lq {e k v:D}:∀(ks ds:List D),Di e ks (Gv k v ks ds)=if e=k then (Di e ks ds).map (λ_=>v) else Di e ks ds
 |[],_=>by by_cases c:e=k<;>simp[Di,Gv,c]
 |_::_,[]=>by by_cases c:e=k<;>simp[Di,Gv,c]
 |k'::ks,d::ds=>by
  rw[Gv,Eo,Eo,Lq ks ds]
  by_cases c2:k'=e
  ·subst c2
   rw[if_pos rfl,if_pos rfl]
   by_cases c:k'=k
   ·rw[if_pos c,if_pos c];rfl
   ·rw[if_neg c,if_neg c]
  ·rw[if_neg c2,if_neg c2]
theorem My {e k v:D}:∀{ks ds:List D},k∉ks->ds.length=ks.length->Di e (ks++[k]) (ds++[v])=if e=k then some v else Di e ks ds
 |[],[],_,_=>by
  rw[List.nil_append,List.nil_append,Eo]
  by_cases c:k=e
  ·subst c;rw[if_pos rfl]
  ·rw[if_neg c,if_neg λz=>c z.symm]
 |[],_::_,_,l=>by simp at l
 |_::_,[],_,l=>by simp at l
 |k'::ks,d::ds,h,l=>by
  rw[Ap,not_or] at h
  rw[List.cons_append,List.cons_append,Eo,Eo,My h.2 (by simpa using l)]
  by_cases c2:k'=e
  ·subst c2;rw[if_pos rfl,if_pos rfl,if_neg λz=>h.1 z.symm]
  ·rw[if_neg c2,if_neg c2]
def PD {e k v:D}{ks ds:List D}(nd:ks.Nodup)(l:ds.length=ks.length):Di e (DC k v ks ds).1 (DC k v ks ds).2=if e=k then some v else Di e ks ds:=by
 unfold DC
 by_cases c:k∈ks
 ·rw[if_pos c]
  dsimp only
  rw[Lq]
  by_cases c2:e=k
  ·subst c2
   rw[if_pos rfl,if_pos rfl]
   have:=GZ (k:=e) nd l
   rw[A0 c] at this
   obtain⟨x,hx⟩:=Ce.mp this
   rw[hx];rfl
  ·rw[if_neg c2,if_neg c2]
 ·rw[if_neg c];exact My c l
theorem HY {t:Tb}{e:D}:∀{ps:List Pt}{a:List D×List D}{n:Nat},DictOk a.1 a.2 n->Apart ps->Di e (ps.foldl (upP t) a).1 (ps.foldl (upP t) a).2=match ps.find? (λp=>decide (p.nm=t.nm/\rwD p.key=e)) with
  |some p=>some p.af
  |none=>Di e a.1 a.2
 |[],a,n,_,_=>rfl
 |p::ps,a,n,h,ap=>by
  obtain⟨ap1,ap2⟩:=Be.mp ap
  rw[List.foldl_cons,List.find?_cons]
  by_cases c:p.nm=t.nm
  ·have eu:upP t a p=DC (rwD p.key) p.af a.1 a.2:=by unfold upP;rw[if_pos c]
   rw[eu,HY (h.put (rwD p.key) p.af).1 ap2,PD h.nd h.eq]
   by_cases c2:rwD p.key=e
   ·subst c2
    rw[A0 ⟨c,rfl⟩,if_pos rfl]
    cases f:ps.find? (λq=>decide (q.nm=t.nm/\rwD q.key=rwD p.key)) with
    |none=>rfl
    |some q =>
     have m:=BI f
     have:=List.find?_some f
     simp only[Aj] at this
     exact absurd (D0.mp this.2).symm (ap1 q m (c.trans this.1.symm))
   ·rw[A7 λz=>c2 z.2,if_neg λz=>c2 z.symm]
  ·have eu:upP t a p=a:=by unfold upP;rw[if_neg c]
   rw[eu,HY h ap2,A7 λz=>c z.1]
theorem ES {t:Tb}{e:D}:∀(rs:List (List Str)),Di e (rs.map (kyR t)) (rs.map rwD)=(rs.find? λr=>decide (kyR t r=e)).map rwD
 |[]=>rfl
 |r::rs=>by
  rw[A3,A3,Eo,List.find?_cons]
  by_cases c:kyR t r=e
  ·rw[if_pos c,A0 c];rfl
  ·rw[if_neg c,A7 c];exact ES rs
theorem Qh {ks ds:List D}{d:D}(l:ds.length=ks.length)(nd:ks.Nodup):d∈ds↔∃e,Di e ks ds=some d:=by
 induction ks generalizing ds with
 |nil =>
  cases ds with
  |nil=>exact⟨λh=>(nomatch h),λ⟨e,h⟩=>by simp[Di] at h⟩
  |cons _ _=>simp at l
 |cons k ks ih =>
  cases ds with
  |nil=>simp at l
  |cons v ds =>
   obtain⟨n1,n2⟩:=Br.mp nd
   have ih':=ih (ds:=ds) (by simpa using l) n2
   rw[Ap]
   constructor
   ·rintro(rfl|h)
    ·exact⟨k,by rw[Eo,if_pos rfl]⟩
    ·obtain⟨e,he⟩:=ih'.mp h
     refine⟨e,?_⟩
     rw[Eo,if_neg λz=>?_,he]
     subst z
     have:=GZ (k:=k) n2 (by simpa using l:ds.length=ks.length)
     rw[he] at this
     exact n1 (by simpa using this.symm)
   ·rintro⟨e,he⟩
    rw[Eo] at he
    by_cases c:k=e
    ·rw[if_pos c] at he;exact .inl (AH he).symm
    ·rw[if_neg c] at he;exact .inr (ih'.mpr ⟨e,he⟩)
theorem JT {e d:D}:∀{ks ds:List D},ks.Nodup->(e,d)∈ks.zip ds->Di e ks ds=some d
 |[],_,_,h=>by simp at h
 |_::_,[],_,h=>by simp at h
 |k::ks,v::ds,nd,h=>by
  obtain⟨n1,n2⟩:=Br.mp nd
  rw[List.zip_cons_cons,Ap] at h
  rw[Eo]
  rcases h with h|h
  ·cases h;rw[if_pos rfl]
  ·rw[if_neg λz:k=e=>n1 (z▸(List.of_mem_zip h).1)]
   exact JT n2 h
def TY {f:D->D}{p:D->Bool}{ks ds:List D}(l:ds.length=ks.length)(nd:ks.Nodup)(h:∀e d,Di e ks ds=some d->p d=true->f d=e):(ds.filter p).Nodup:=by
 have e1:ds=(ks.zip ds).map (·.2):=(List.map_snd_zip (by ext)).symm
 have e2:ks=(ks.zip ds).map (·.1):=(List.map_fst_zip (by ext)).symm
 have hz:∀q∈ks.zip ds,p q.2=true->f q.2=q.1:=λq hq hp=>h q.1 q.2 (JT nd hq) hp
 have nz:((ks.zip ds).map (·.1)).Nodup:=e2▸nd
 have key:∀zs:List (D×D),(∀q∈zs,p q.2=true->f q.2=q.1)->(zs.map (·.1)).Nodup->((zs.map (·.2)).filter p).Nodup:=λzs hz nz=>by
  refine Gs (f:=f) ?_
  have:((zs.map (·.2)).filter p).map f=((zs.filter λq=>p q.2).map (·.1)):=by
   rw[List.filter_map,AK]
   refine Bl λq hq=>?_
   obtain⟨a,b⟩:=AI.mp hq
   exact hz q a b
  rw[this]
  exact nz.sublist ((List.filter_sublist (l:=zs)).map _)
 rw[e1]
 exact key _ hz nz
def G0 (t:Tb)(r:List Str):tkD t.ks (rwD r)=kyR t r:=by
 show D.tup ((r.map D.str).take t.ks)=D.tup ((r.take t.ks).map D.str)
 rw[BH]
theorem RL.find {t:Tb}{n:Nat}{rs:List (List Str)}(h:RL t n rs){r:List Str}(hr:r∈rs):(rs.find? λq=>decide (kyR t q=kyR t r))=some r:=by
 cases f:rs.find? λq=>decide (kyR t q=kyR t r) with
 |none=>exact absurd (List.find?_eq_none.mp f r hr) (by simp)
 |some q =>
  have m:=BI f
  have e:=List.find?_some f
  simp only[Aj] at e
  have e':=D0.mp e
  have nd:=h.nd
  clear f
  congr 1
  obtain⟨i,hi⟩:=Aw.mp m
  obtain⟨j,hj⟩:=Aw.mp hr
  have a1:(rs.map λr=>r.take t.ks)[i]?=some (q.take t.ks):=by rw[Am,hi];rfl
  have a2:(rs.map λr=>r.take t.ks)[j]?=some (q.take t.ks):=by rw[Am,hj,e'];rfl
  have ij:=(List.getElem?_inj (Ae.mp a1).1 nd).mp (a1.trans a2.symm)
  rw[ij,hj] at hi
  exact(AH hi).symm
theorem IW {t:Tb}{ps:List Pt}(ap:Apart ps){p:Pt}(hp:p∈ps)(hn:p.nm=t.nm):(ps.find? λq=>decide (q.nm=t.nm/\rwD q.key=rwD p.key))=some p:=by
 induction ps with
 |nil=>cases hp
 |cons x ps ih =>
  obtain⟨a1,a2⟩:=Be.mp ap
  rw[List.find?_cons]
  rcases Ap.mp hp with rfl|hp
  ·rw[A0 ⟨hn,rfl⟩]
  ·rw[A7 λz=>a1 p hp (z.1.trans hn.symm) (D0.mp z.2)]
   exact ih a2 hp
def SI {t:Tb}{n:Nat}{A:List (List Str)}(hA:RL t n A){ps:List Pt}(hv:∀p∈ps,PtV t p)(ap:Apart ps) :
  (∀e d,Di e (ps.foldl (upP t) (A.map (kyR t),A.map rwD)).1 (ps.foldl (upP t) (A.map (kyR t),A.map rwD)).2=some d->(!isN d)=true->∃r,d=rwD r/\RwOk t r/\e=kyR t r/\aft t A ps r) /\
  ∀r,aft t A ps r->Di (kyR t r) (ps.foldl (upP t) (A.map (kyR t),A.map rwD)).1 (ps.foldl (upP t) (A.map (kyR t),A.map rwD)).2=some (rwD r):=by
 have d0:DictOk (A.map (kyR t),A.map rwD).1 (A.map (kyR t),A.map rwD).2 n:=⟨by dsimp only;rw[Af];exact hA.len,by dsimp only;rw[Af,Af],hA.keys⟩
 refine⟨λe d he hn=>?_,λr hr=>?_⟩
 ·rw[HY d0 ap] at he
  cases f:ps.find? (λp=>decide (p.nm=t.nm/\rwD p.key=e)) with
  |some p =>
   rw[f] at he
   have m:=BI f
   have c:=List.find?_some f
   simp only[Aj] at c
   have ed:p.af=d:=AH he
   rcases (hv p m).af c.1 with z|⟨r,z1,z2,z3⟩
   ·rw[<- ed,z] at hn;cases hn
   ·refine⟨r,ed▸z1,z2,?_,.inr ⟨p,m,c.1,z1⟩⟩
    rw[<- c.2,<- z3];rfl
  |none =>
   rw[f] at he
   dsimp only at he
   rw[ES] at he
   cases g:A.find? (λr=>decide (kyR t r=e)) with
   |none=>rw[g] at he;cases he
   |some r =>
    rw[g] at he
    have m:=BI g
    have c:=List.find?_some g
    simp only[Aj] at c
    refine⟨r,(AH he).symm,hA.ok r m,c.symm,.inl ⟨m,λp hp hn hk=>?_⟩⟩
    refine List.find?_eq_none.mp f p hp ?_
    rw[Aj]
    exact⟨hn,by rw[hk,<- c];rfl⟩
 ·rw[HY d0 ap]
  rcases hr with⟨m,hno⟩|⟨p,m,hn,haf⟩
  ·have f:ps.find? (λp=>decide (p.nm=t.nm/\rwD p.key=kyR t r))=none:=List.find?_eq_none.mpr λp hp z=>by
    rw[Aj] at z
    exact hno p hp z.1 (D0.mp z.2)
   rw[f]
   dsimp only
   rw[ES,hA.find m]
   rfl
  ·rcases (hv p m).af hn with z|⟨r',z1,z2,z3⟩
   ·rw[z] at haf;cases haf
   ·have er:r'=r:=D0.mp (z1.symm.trans haf)
    subst er
    have e:kyR t r'=rwD p.key:=by unfold kyR;rw[z3]
    rw[e,IW ap m hn]
    exact congrArg some haf
def VU {t:Tb}{n:Nat}{B:List (List Str)}(ht:ED t)(hB:RL t n B){L:List D}(nd:L.Nodup)(iff:∀d,d∈L↔∃r∈B,d=rwD r):Dv L=B.map rwD:=by
 have pm:(B.map rwD).Perm L:=F6 (X4 hB.up) nd λd=>by
  rw[iff,Ah]
  exact⟨λ⟨r,a,b⟩=>⟨r,a,b.symm⟩,λ⟨r,a,b⟩=>⟨r,a,b.symm⟩⟩
 refine(HZ (λd hd=>?_) pm ?_).symm
 ·obtain⟨r,hr,rfl⟩:=(iff d).mp hd
  show FA (.tup (r.map D.str))=true
  have:=(hB.ok r hr).ne ht
  cases r with
  |nil=>exact absurd rfl this
  |cons x xs=>simp[FA,FV,Ij]
 ·exact hB.up.imp λ{a b} h=>by
   unfold leT
   rw[GN a b h]
   rfl
def Zb {t:Tb}(ht:ED t){n m:Nat}{A B:List (List Str)}(hA:RL t n A)(hB:RL t m B){ps:List Pt}(hv:∀p∈ps,PtV t p)(ap:Apart ps)(iff:∀r,r∈B↔aft t A ps r):Dv (((ps.foldl (upP t) (A.map (kyR t),A.map rwD)).2).filter λd=>!isN d)=B.map rwD:=by
 obtain⟨g1,g2⟩:=SI hA hv ap
 have d0:DictOk (A.map (kyR t),A.map rwD).1 (A.map (kyR t),A.map rwD).2 n:=⟨by dsimp only;rw[Af];exact hA.len,by dsimp only;rw[Af,Af],hA.keys⟩
 have v0:∀d∈(A.map (kyR t),A.map rwD).2,RN t d:=λd hd=>by
  obtain⟨r,hr,rfl⟩:=Ah.mp hd
  exact .inr ⟨r,rfl,hA.ok r hr⟩
 obtain⟨fo,fv⟩:=LP d0 v0 ps λp hp=>(hv p hp).r
 refine VU ht hB (TY (f:=tkD t.ks) fo.eq fo.nd λe d he hn=>?_) λd=>?_
 ·obtain⟨r,rfl,_,h3,_⟩:=g1 e d he hn
  rw[G0,h3]
 ·rw[AI,Qh fo.eq fo.nd]
  constructor
  ·rintro⟨⟨e,he⟩,hn⟩
   obtain⟨r,rfl,_,_,h4⟩:=g1 e d he hn
   exact⟨r,(iff r).mpr h4,rfl⟩
  ·rintro⟨r,hr,rfl⟩
   exact⟨⟨_,g2 r ((iff r).mp hr)⟩,rfl⟩
def Hf {ts:List Tb}{gs hs:List (List (List Str))}{ps:List Pt}(hfl:Flat mu)(l0:ts.length<=100)(l1:gs.length=ts.length)(l2:hs.length=ts.length)(ap:Apart ps)(pl:ps.length<=1000)
  (ok:∀(j:Nat) t A B,ts[j]?=some t->gs[j]?=some A->hs[j]?=some B->ED t/\(∃n,n+(ps.filter λp=>decide (p.nm=t.nm)).length<64/\RL t n A)/\(∃n,RL t n B)/\(∀p∈ps,PtV t p)/\∀r,r∈B↔aft t A ps r) :
  DS [.tup (ts.map tbD),.tup (gs.map flD),.tup (ps.map ptD)] mu=some (.tup (hs.map flD),mu):=by
 have zp:=US (mu:=mu) (m:=(CC (CD 0) (CC (CD 1) CH))) (ro:=[some (.tup (ts.map tbD)),some (.tup (gs.map flD)),some (.tup (ps.map ptD))]) (xs:=ts.map tbD) (ys:=gs.map flD) (m1:=mu) rfl
 have key:∀(us:List Tb) (as bs:List (List (List Str))),as.length=us.length->bs.length=us.length->(∀(j:Nat) t A B,us[j]?=some t->as[j]?=some A->bs[j]?=some B->DI [tbD t,flD A,.tup (ps.map ptD)] mu=some (flD B,mu)) ->
   F9 none mu (gTp 2 (CM (gNm 0) (CM (gNm 1) DJ))) tY (CI DI (CC (CD 0) (CC (CD 1) (CC (CD 2) CH)))) [none,none,some (.tup (ps.map ptD))] (HN (us.map tbD) (as.map flD)) mu=some (bs.map flD,mu):=by
  intro us
  induction us with
  |nil =>
   intro as bs h1 h2 _
   have e1:as=[]:=Co.mp h1
   have e2:bs=[]:=Co.mp h2
   subst e1 e2
   rfl
  |cons t us ih =>
   intro as bs h1 h2 h
   cases as with
   |nil=>simp at h1
   |cons A as =>
    cases bs with
    |nil=>simp at h2
    |cons B bs =>
     have e0:=h 0 t A B rfl rfl rfl
     have ih':=ih as bs (by simpa using h1) (by simpa using h2) λj t A B x y z=>h (j+1) t A B (by simpa using x) (by simpa using y) (by simpa using z)
     show F9 none mu _ tY _ _ (D.tup [tbD t,flD A]::HN (us.map tbD) (as.map flD)) mu=_
     unfold F9
     have tg:gTp 2 (CM (gNm 0) (CM (gNm 1) DJ)) (D.tup [tbD t,flD A]) [none,none,some (.tup (ps.map ptD))] mu=some ([some (tbD t),some (flD A),some (.tup (ps.map ptD))],mu):=rfl
     have el:CI DI (CC (CD 0) (CC (CD 1) (CC (CD 2) CH))) [some (tbD t),some (flD A),some (.tup (ps.map ptD))] mu=some (flD B,mu):=by
      simp![e0]
     rw[tg,DD,show tY [some (tbD t),some (flD A),some (.tup (ps.map ptD))] mu=some (true,mu) from rfl,DD,if_pos rfl,el,DD,NS,ih']
     rfl
 have lc:=key ts gs hs l1 l2 λj t A B x y z=>by
  obtain⟨ht,⟨n,hn,hA⟩,⟨m,hB⟩,hv,iff⟩:=ok j t A B x y z
  rw[N3 ht hfl hA (λp hp=>(hv p hp).r) pl hn,Zb ht hA hB hv ap iff]
  rfl
 simp![DS,IE,zp,lc]
def dBd:Sx:=(CY (Dh (CI dctP (CC (eLC (Ff (CD 2)) 1 [4] (gNm 0) (tV (CJ eqD (CJ ixG (CD 0) (eC (.int 0))) (CD 1))) (Ep (CC (CJ ixG (CD 0) (eC (.int 1))) (CC (CJ ixG (CD 0) (eC (.int 3))) CH)))) CH)) (gNm 8)) (CY (Dh (eLC (Ff (CD 7)) 1 [6,8] (gNm 0) (tV (CJ (inC true) (eSl (CD 0) (pNo) (DK (CD 1))) (CD 2))) (CD 0)) (gNm 9)) (CY (Dh (eLC (iDx false (CD 8)) 1 [8] (gNm 0) (tV (CJ L3 (CJ ixG (CD 1) (CD 0)) (eC .non))) (CJ ixG (CD 1) (CD 0))) (gNm 10)) (sEx (HG (CD 3) (CC (CI EW (CC (CI GO (CC (CJ Dw (CD 9) (CD 10)) CH)) CH)) CH))))))
def ofT (t:Tb)(ps:List Pt):List Pt:=ps.filter λp=>decide (p.nm=t.nm)
def Fc (t:Tb)(A:List (List Str))(ps:List Pt):List D:=(A.filter λr=>!decide (kyR t r∈(ofT t ps).map λp=>rwD p.key)).map rwD++((ofT t ps).filter λp=>!isN p.af).map (·.af)
theorem M7:∀qs:List Pt,PV.pairsOf (qs.map λp=>.tup [rwD p.key,p.af])=some (qs.map λp=>(rwD p.key,p.af))
 |[]=>rfl
 |p::qs=>by
  rw[A3,PV.pairsOf,if_pos ((Hn.row _).K (by decide)),M7 qs]
  rfl
theorem ZN {a b c d:D}:ixG (.tup [a,b,c,d]) (.int 3) mu=some (d,mu):=rfl
def S8 {k:List Str}{ks ds:List D}:(inC true) (rwD k) (.dct ks ds) mu=some (.bl (!decide (rwD k∈ks)),mu):=by
 simp only[inC,DF,(Hn.row k).K (by decide:2<=8),if_true]
 cases decide (rwD k∈ks)<;>rfl
def VI {e v:D}{ks ds:List D}(hk:DN e=true)(h:Di e ks ds=some v):ixG (.dct ks ds) e mu=some (v,mu):=by
 have e0:ixD (.dct ks ds) e mu=none:=by cases e<;>rfl
 unfold ixG
 rw[e0]
 simp only[ixC,DF,hk,h,if_true,Option.map_some]
def Km {t:Tb}{ps:List Pt}(ap:Apart ps):((ofT t ps).map λp=>rwD p.key).Nodup:=by
 rw[AG,A5]
 refine(ap.sublist List.filter_sublist).imp_of_mem λ{p q} hp hq h e=>?_
 have a:=(AI.mp hp).2
 have b:=(AI.mp hq).2
 rw[Aj] at a b
 exact h (a.trans b.symm) (D0.mp e)
def VA {t:Tb}(ht:ED t){n:Nat}{A:List (List Str)}(hA:RL t n A){ps:List Pt}(hv:∀p∈ps,PtV t p)(ap:Apart ps)(hl:ps.length<=1000)(h64:n+(ofT t ps).length<64){F:Nat}{fs:List D}(hF:mu[F]?=some (.lst fs))(hfs:fs.length<=1000){a b:D}{x8 x9 x10:Option D} :
  ∃y8 y9 y10,dBd [some a,some b,some (.tup (ps.map ptD)),some (.ref F),some (.str t.nm),some (.tup (t.cs.map clD)),some (.int t.ks),some (flD A),x8,x9,x10] mu =
   some ((.nx,[some a,some b,some (.tup (ps.map ptD)),some (.ref F),some (.str t.nm),some (.tup (t.cs.map clD)),some (.int t.ks),some (flD A),y8,y9,y10]),mu.set F (.lst (fs++[.tup (Dv (Fc t A ps))]))):=by
 have lc1:=Ig (m0:=mu) (tg:=gNm 0) (tt:=(tV (CJ eqD (CJ ixG (CD 0) (eC (.int 0))) (CD 1)))) (el:=(Ep (CC (CJ ixG (CD 0) (eC (.int 1))) (CC (CJ ixG (CD 0) (eC (.int 3))) CH)))) (ro:=[none,some (.str t.nm)]) (mu:=mu) (λd=>match d with|.tup (.str x::_)=>decide (x=t.nm)|_=>false) (λd=>match d with|.tup [_,k,_,v]=>.tup [k,v]|_=>.non) (ps.map ptD) (λd hd=>by
  obtain⟨p,_,rfl⟩:=Ah.mp hd
  exact⟨_,rfl,by simp![ptD],λ_=>by simp![ptD,ZN]⟩)
 have e1:((ps.map ptD).filter (λd=>match d with|.tup (.str x::_)=>decide (x=t.nm)|_=>false)).map (λd=>match d with|.tup [_,k,_,v]=>.tup [k,v]|_=>.non)=(ofT t ps).map λp=>D.tup [rwD p.key,p.af]:=by
  rw[List.filter_map,AK]
  rfl
 rw[e1] at lc1
 have nk:=Km (t:=t) ap
 have pn:=Hv ((ofT t ps).map λp=>(rwD p.key,p.af)) [] [] rfl (by rw[List.nil_append,AK];exact nk)
 have e2:([]:List D)++((ofT t ps).map λp=>(rwD p.key,p.af)).map (·.1)=(ofT t ps).map λp=>rwD p.key:=by rw[List.nil_append,AK];rfl
 have e3:([]:List D)++((ofT t ps).map λp=>(rwD p.key,p.af)).map (·.2)=(ofT t ps).map (·.af):=by rw[List.nil_append,AK];rfl
 rw[e2,e3] at pn
 have dp:dctP [.lst ((ofT t ps).map λp=>D.tup [rwD p.key,p.af])] mu=some (.dct ((ofT t ps).map λp=>rwD p.key) ((ofT t ps).map (·.af)),mu):=by
  simp only[dctP,sq1,FK,Gg,D5,M7,pn]
 have gt:∀p∈ofT t ps,Di (rwD p.key) ((ofT t ps).map λp=>rwD p.key) ((ofT t ps).map (·.af))=some p.af:=λp hp=>by
  refine JT nk ?_
  rw[List.zip_map']
  exact Ah.mpr ⟨p,hp,rfl⟩
 have lc2:=Ig (m0:=mu) (tg:=gNm 0) (tt:=(tV (CJ (inC true) (eSl (CD 0) (pNo) (DK (CD 1))) (CD 2)))) (el:=CD 0) (ro:=[none,some (.int t.ks),some (.dct ((ofT t ps).map λp=>rwD p.key) ((ofT t ps).map (·.af)))]) (mu:=mu) (λd=>!decide (tkD t.ks d∈(ofT t ps).map λp=>rwD p.key)) id (A.map rwD) (λd hd=>by
  obtain⟨r,hr,rfl⟩:=Ah.mp hd
  have c:=LY (mu:=mu) (Jx ht (hA.ok r hr))
  have ni:(inC true) (rwD (r.take t.ks)) (.dct ((ofT t ps).map λp=>rwD p.key) ((ofT t ps).map (·.af))) mu=some (.bl (!decide (kyR t r∈(ofT t ps).map λp=>rwD p.key)),mu):=S8
  refine⟨_,rfl,?_,λ_=>rfl⟩
  rw[G0]
  simp![c,ni])
 rw[List.map_id,List.filter_map] at lc2
 have e4:(A.filter ((λd=>!decide (tkD t.ks d∈(ofT t ps).map λp=>rwD p.key))∘rwD))=A.filter λr=>!decide (kyR t r∈(ofT t ps).map λp=>rwD p.key):=List.filter_congr λr _=>by simp only[Function.comp,G0]
 rw[e4] at lc2
 have lc3:=JL (go:=none) (tg:=gNm 0) (tt:=(tV (CJ L3 (CJ ixG (CD 1) (CD 0)) (eC .non)))) (el:=(CJ ixG (CD 1) (CD 0))) (ro:=[none,some (.dct ((ofT t ps).map λp=>rwD p.key) ((ofT t ps).map (·.af)))]) (mu:=mu) (λd=>!isN ((Di d ((ofT t ps).map λp=>rwD p.key) ((ofT t ps).map (·.af))).getD .non)) (λd=>(Di d ((ofT t ps).map λp=>rwD p.key) ((ofT t ps).map (·.af))).getD .non) ((ofT t ps).map λp=>rwD p.key) (λd hd=>by
  obtain⟨p,hp,rfl⟩:=Ah.mp hd
  have g:=gt p hp
  have ix:=VI (mu:=mu) ((Hn.row p.key).K (by decide)) g
  refine⟨_,rfl,?_,λ_=>?_⟩
  ·simp![ix,g,OF,Option.getD_some]
  ·simp![ix,g,Option.getD_some])
 have e5:(((ofT t ps).map λp=>rwD p.key).filter λd=>!isN ((Di d ((ofT t ps).map λp=>rwD p.key) ((ofT t ps).map (·.af))).getD .non)).map (λd=>(Di d ((ofT t ps).map λp=>rwD p.key) ((ofT t ps).map (·.af))).getD .non)=((ofT t ps).filter λp=>!isN p.af).map (·.af):=by
  rw[List.filter_map,AK]
  have e6:(ofT t ps).filter ((λd=>!isN ((Di d ((ofT t ps).map λp=>rwD p.key) ((ofT t ps).map (·.af))).getD .non))∘λp=>rwD p.key)=(ofT t ps).filter λp=>!isN p.af:=List.filter_congr λp hp=>by simp only[Function.comp,gt p hp,Option.getD_some]
  rw[e6]
  exact Bl λp hp=>by simp only[Function.comp,gt p (AI.mp hp).1,Option.getD_some]
 rw[e5] at lc3
 have rw':∀d∈Fc t A ps,∃r,d=rwD r/\RwOk t r:=λd hd=>by
  rcases AQ.mp hd with h|h
  ·obtain⟨r,hr,rfl⟩:=Ah.mp h
   exact⟨r,rfl,hA.ok r (AI.mp hr).1⟩
  ·obtain⟨p,hp,rfl⟩:=Ah.mp h
   obtain⟨h1,h2⟩:=AI.mp hp
   obtain⟨h3,h4⟩:=AI.mp h1
   exact((hv p h3).r (by simpa using h4)).row (by simpa using h2)
 obtain⟨qs,q1,q2⟩:=Iq rw'
 have dl:(Fc t A ps).length<=n+(ofT t ps).length:=by
  unfold Fc
  rw[Ar,Af,Af]
  have a1:=Bj (λr=>!decide (kyR t r∈(ofT t ps).map λp=>rwD p.key)) A
  have a2:=Bj (λp:Pt=>!isN p.af) (ofT t ps)
  have a3:=hA.len
  ext
 have sok:DX (Fc t A ps)=true:=by
  have ql:qs.length<64:=by
   have:(qs.map rwD).length=(Fc t A ps).length:=by rw[q1]
   rw[Af] at this
   ext
  rw[q1]
  exact Jz ql λr hr=>(q2 r hr).ne ht
 have sr:=O1 (mu:=mu) sok
 have ad:Dw (.lst ((A.filter λr=>!decide (kyR t r∈(ofT t ps).map λp=>rwD p.key)).map rwD)) (.lst (((ofT t ps).filter λp=>!isN p.af).map (·.af))) mu=some (.lst (Fc t A ps),mu):=NT (by
  have:=dl
  unfold Fc at this
  rw[Ar] at this
  rw[AO]
  ext)
 have ix:∀y9 y10:Option D,iDx false (CD 8) [some a,some b,some (.tup (ps.map ptD)),some (.ref F),some (.str t.nm),some (.tup (t.cs.map clD)),some (.int t.ks),some (flD A),some (.dct ((ofT t ps).map λp=>rwD p.key) ((ofT t ps).map (·.af))),y9,y10] mu=some (((ofT t ps).map λp=>rwD p.key,none),mu):=λy9 y10=>by
  simp![iDx,DF,fD,refOf]
 have app:=append_at (mu:=mu) (mu':=mu) (y:=.tup (Dv (Fc t A ps))) hF hF (by rw[AO];ext) (ro:=[some a,some b,some (.tup (ps.map ptD)),some (.ref F),some (.str t.nm),some (.tup (t.cs.map clD)),some (.int t.ks),some (flD A),some (.dct ((ofT t ps).map λp=>rwD p.key) ((ofT t ps).map (·.af))),some (.lst ((A.filter λr=>!decide (kyR t r∈(ofT t ps).map λp=>rwD p.key)).map rwD)),some (.lst (((ofT t ps).filter λp=>!isN p.af).map (·.af)))]) (i:=3) (e:=(CI EW (CC (CI GO (CC (CJ Dw (CD 9) (CD 10)) CH)) CH))) rfl (by simp![ad,sr])
 refine⟨some (.dct ((ofT t ps).map λp=>rwD p.key) ((ofT t ps).map (·.af))),some (.lst ((A.filter λr=>!decide (kyR t r∈(ofT t ps).map λp=>rwD p.key)).map rwD)),some (.lst (((ofT t ps).filter λp=>!isN p.af).map (·.af))),?_⟩
 have fe:flD A=.tup (A.map rwD):=rfl
 rw[fe] at app ix ⊢
 unfold dBd
 simp![lc1,dp,lc2,ix,lc3,app]
def Qg {t:Tb}{n:Nat}{A:List (List Str)}(hA:RL t n A){ps:List Pt}(hv:∀p∈ps,PtV t p)(ap:Apart ps):((Fc t A ps).map (tkD t.ks)).Nodup:=by
 have af:∀p∈(ofT t ps).filter (λp=>!isN p.af),tkD t.ks p.af=rwD p.key:=λp hp=>by
  obtain⟨h1,h2⟩:=AI.mp hp
  obtain⟨h3,h4⟩:=AI.mp h1
  rcases (hv p h3).af (by simpa using h4) with z|⟨r,z1,z2,z3⟩
  ·rw[z] at h2;cases h2
  ·rw[z1,G0,<- z3];rfl
 have e:(Fc t A ps).map (tkD t.ks)=(A.filter λr=>!decide (kyR t r∈(ofT t ps).map λp=>rwD p.key)).map (kyR t)++((ofT t ps).filter λp=>!isN p.af).map λp=>rwD p.key:=by
  unfold Fc
  rw[A4,AK,AK]
  congr 1
  ·exact Bl λr _=>G0 t r
  ·exact Bl λp hp=>af p hp
 rw[e]
 refine BQ.mpr ⟨hA.keys.sublist (List.filter_sublist.map _),(Km ap).sublist (List.filter_sublist.map _),λx hx y hy=>?_⟩
 obtain⟨r,hr,rfl⟩:=Ah.mp hx
 obtain⟨p,hp,rfl⟩:=Ah.mp hy
 intro z
 have:=(AI.mp hr).2
 rw[z] at this
 simp only[Bool.not_eq_true',decide_eq_false_iff_not] at this
 exact this (Ah.mpr ⟨p,(AI.mp hp).1,rfl⟩)
def RH {t:Tb}(ht:ED t){n:Nat}{A:List (List Str)}(hA:RL t n A){ps:List Pt}(hv:∀p∈ps,PtV t p)(ap:Apart ps):∃B,Dv (Fc t A ps)=B.map rwD/\RL t (n+(ofT t ps).length) B/\∀r,r∈B↔aft t A ps r:=by
 have rw':∀d∈Fc t A ps,∃r,d=rwD r/\RwOk t r:=λd hd=>by
  rcases AQ.mp hd with h|h
  ·obtain⟨r,hr,rfl⟩:=Ah.mp h
   exact⟨r,rfl,hA.ok r (AI.mp hr).1⟩
  ·obtain⟨p,hp,rfl⟩:=Ah.mp h
   obtain⟨h1,h2⟩:=AI.mp hp
   obtain⟨h3,h4⟩:=AI.mp h1
   exact((hv p h3).r (by simpa using h4)).row (by simpa using h2)
 have pm:=Df (Fc t A ps)
 obtain⟨B,b1,b2⟩:=Iq (λd hd=>rw' d (pm.mem_iff.mp hd))
 have kn:=Qg hA hv ap
 have nd:(Fc t A ps).Nodup:=Gs kn
 have dl:(Fc t A ps).length<=n+(ofT t ps).length:=by
  unfold Fc
  rw[Ar,Af,Af]
  have a1:=Bj (λr=>!decide (kyR t r∈(ofT t ps).map λp=>rwD p.key)) A
  have a2:=Bj (λp:Pt=>!isN p.af) (ofT t ps)
  have a3:=hA.len
  ext
 rw[b1] at pm
 refine⟨B,b1,⟨?_,b2,?_,?_⟩,λr=>?_⟩
 ·have:=pm.length_eq
  rw[Af] at this
  ext
 ·have k2:=((pm.map (tkD t.ks)).nodup_iff).mpr kn
  have e:(B.map rwD).map (tkD t.ks)=(B.map λr=>r.take t.ks).map rwD:=by
   rw[AK,AK]
   exact Bl λr _=>G0 t r
  rw[e] at k2
  exact Gs k2
 ·rw[<- b1]
  refine L9 (λd hd=>?_) nd
  obtain⟨r,rfl,hr⟩:=rw' d hd
  have:=hr.ne ht
  cases r with
  |nil=>exact absurd rfl this
  |cons x xs=>simp[rwD,FA,FV,Ij]
 ·have m1:r∈B↔rwD r∈Fc t A ps:=by
   rw[<- pm.mem_iff,Ah]
   exact⟨λh=>⟨r,h,rfl⟩,λ⟨q,h1,h2⟩=>(D0.mp h2)▸h1⟩
  rw[m1]
  unfold Fc aft
  rw[AQ,Ah,Ah]
  constructor
  ·rintro(⟨q,h1,h2⟩|⟨p,h1,h2⟩)
   ·have:=D0.mp h2
    subst this
    obtain⟨h3,h4⟩:=AI.mp h1
    simp only[Bool.not_eq_true',decide_eq_false_iff_not] at h4
    exact .inl ⟨h3,λp hp hn hk=>h4 (Ah.mpr ⟨p,AI.mpr ⟨hp,A0 hn⟩,by rw[hk];rfl⟩)⟩
   ·obtain⟨h3,_⟩:=AI.mp h1
    obtain⟨h5,h6⟩:=AI.mp h3
    exact .inr ⟨p,h5,by simpa using h6,h2⟩
  ·rintro(⟨h1,h2⟩|⟨p,h1,h2,h3⟩)
   ·refine .inl ⟨r,AI.mpr ⟨h1,?_⟩,rfl⟩
    simp only[Bool.not_eq_true',decide_eq_false_iff_not]
    intro z
    obtain⟨p,hp,e⟩:=Ah.mp z
    obtain⟨h5,h6⟩:=AI.mp hp
    exact h2 p h5 (by simpa using h6) (D0.mp e)
   ·exact .inr ⟨p,AI.mpr ⟨AI.mpr ⟨h1,A0 h2⟩,by rw[h3];rfl⟩,h3⟩
def Sj {ts:List Tb}{gs:List (List (List Str))}{ps:List Pt}(hfl:Flat mu)(l0:ts.length<=100)(l1:gs.length=ts.length)(ap:Apart ps)(pl:ps.length<=1000){n:Nat}
  (ok:∀(j:Nat) t A,ts[j]?=some t->gs[j]?=some A->ED t/\RL t n A/\(∀p∈ps,PtV t p)/\n+(ofT t ps).length<64) :
  ∃hs:List (List (List Str)),hs.length=ts.length/\Fd [.tup (ts.map tbD),.tup (gs.map flD),.tup (ps.map ptD)] mu=some (.tup (hs.map flD),mu)/\∀(j:Nat) t A B,ts[j]?=some t->gs[j]?=some A->hs[j]?=some B->RL t (n+(ofT t ps).length) B/\∀r,r∈B↔aft t A ps r:=by
 have zl:(ts.zip gs).length=ts.length:=by rw[BS,l1,Nat.min_self]
 have okz:∀q∈ts.zip gs,ED q.1/\RL q.1 n q.2/\(∀p∈ps,PtV q.1 p)/\n+(ofT q.1 ps).length<64:=λq hq=>by
  obtain⟨j,hj⟩:=Aw.mp hq
  obtain⟨a,b⟩:=AE.mp hj
  exact ok j _ _ a b
 have zd:HN (ts.map tbD) (gs.map flD)=(ts.zip gs).map λq=>.tup [tbD q.1,flD q.2]:=by
  unfold HN
  rw[List.zip_map,AK]
  rfl
 obtain⟨W,hW⟩:∃W:Nat->List D,∀i,W i=((ts.zip gs).take i).map λq=>D.tup (Dv (Fc q.1 q.2 ps)):=⟨_,λ_=>rfl⟩
 have W0:W 0=[]:=by rw[hW];rfl
 have WS:∀j q,(ts.zip gs)[j]?=some q->W (j+1)=W j++[D.tup (Dv (Fc q.1 q.2 ps))]:=λj q h=>by rw[hW,hW,BW,h,A4];rfl
 have WL:∀j,(W j).length<=1000:=λj=>by rw[hW,Af,AA];ext
 obtain⟨ro',m5,e5,⟨y4,y5,y6,y7,y8,y9,y10,rfl⟩,rfl⟩:=Er (m0:=mu++[MO.lst []]) (tg:=(gTp 2 (CM (gTp 3 (CM (gNm 4) (CM (gNm 5) (CM (gNm 6) DJ)))) (CM (gNm 7) DJ)))) (body:=dBd) (λi ro m=>(∃y4 y5 y6 y7 y8 y9 y10,ro=[some (.tup (ts.map tbD)),some (.tup (gs.map flD)),some (.tup (ps.map ptD)),some (.ref mu.length),y4,y5,y6,y7,y8,y9,y10]) /\
   m=mu++[MO.lst (W i)]) (HN (ts.map tbD) (gs.map flD)) 0
   [some (.tup (ts.map tbD)),some (.tup (gs.map flD)),some (.tup (ps.map ptD)),some (.ref mu.length),none,none,none,none,none,none,none] (mu++[MO.lst []]) ⟨⟨_,_,_,_,_,_,_,rfl⟩,by rw[W0]⟩ λj d ro m ed hi=>by
  obtain⟨⟨y4,y5,y6,y7,y8,y9,y10,rfl⟩,rfl⟩:=hi
  rw[zd,Am] at ed
  cases eq:(ts.zip gs)[j]? with
  |none=>rw[eq] at ed;cases ed
  |some q =>
   rw[eq] at ed
   have ed':D.tup [tbD q.1,flD q.2]=d:=by simpa using ed
   subst ed'
   rw[Bb]
   obtain⟨o1,o2,o3,o4⟩:=okz q (Ag eq)
   have at0:(mu++[MO.lst (W j)])[mu.length]?=some (.lst (W j)):=by simp
   obtain⟨w8,w9,w10,g⟩:=VA (mu:=mu++[MO.lst (W j)]) o1 o2 o3 ap pl o4 at0 (WL j) (a:=.tup (ts.map tbD)) (b:=.tup (gs.map flD)) (x8:=y8) (x9:=y9) (x10:=y10)
   have ms:(mu++[MO.lst (W j)]).set mu.length (.lst (W j++[D.tup (Dv (Fc q.1 q.2 ps))]))=mu++[MO.lst (W (j+1))]:=by
    rw[List.set_append_right _ _ (Ai _),Nat.sub_self,WS j q eq]
    rfl
   rw[ms] at g
   exact⟨_,_,_,_,rfl,g,⟨_,_,_,_,_,_,_,rfl⟩,rfl⟩
 have tk:W (0+(HN (ts.map tbD) (gs.map flD)).length)=(ts.zip gs).map λq=>D.tup (Dv (Fc q.1 q.2 ps)):=by rw[hW,zd,Af,Bb,Cd]
 rw[tk] at e5
 have ex:∀zs:List (Tb×List (List Str)),(∀q∈zs,ED q.1/\RL q.1 n q.2/\(∀p∈ps,PtV q.1 p)/\n+(ofT q.1 ps).length<64)->∃hs:List (List (List Str)),hs.length=zs.length/\(zs.map λq=>D.tup (Dv (Fc q.1 q.2 ps)))=hs.map flD/\∀(j:Nat) q B,zs[j]?=some q->hs[j]?=some B->RL q.1 (n+(ofT q.1 ps).length) B/\∀r,r∈B↔aft q.1 q.2 ps r:=λzs=>by
  induction zs with
  |nil=>exactλ_=>⟨[],rfl,rfl,λj q B h=>by simp at h⟩
  |cons q zs ih =>
   intro h
   obtain⟨o1,o2,o3,o4⟩:=h q (.head _)
   obtain⟨B,b1,b2,b3⟩:=RH o1 o2 o3 ap
   obtain⟨hs,s1,s2,s3⟩:=ih λq hq=>h q (.tail _ hq)
   refine⟨B::hs,by simp[s1],by rw[A3,A3,b1,s2];rfl,λj q' B' x y=>?_⟩
   cases j with
   |zero=>cases x;cases y;exact⟨b2,b3⟩
   |succ j=>exact s3 j q' B' (by simpa using x) (by simpa using y)
 obtain⟨hs,s1,s2,s3⟩:=ex (ts.zip gs) okz
 refine⟨hs,by rw[s1,zl],?_,λj t A B x y z=>s3 j (t,A) B (AE.mpr ⟨x,y⟩) z⟩
 have zp:=US (mu:=mu++[MO.lst []]) (m:=(CC (CD 0) (CC (CD 1) CH))) (ro:=[some (.tup (ts.map tbD)),some (.tup (gs.map flD)),some (.tup (ps.map ptD)),some (.ref mu.length),none,none,none,none,none,none,none]) (xs:=ts.map tbD) (ys:=gs.map flD) (m1:=mu++[MO.lst []]) rfl
 have tr:=IC (mu:=mu++[MO.lst ((ts.zip gs).map λq=>.tup (Dv (Fc q.1 q.2 ps)))]) (R:=mu.length) (cs:=(ts.zip gs).map λq=>.tup (Dv (Fc q.1 q.2 ps))) (by simp)
 unfold dBd at e5
 simp![Fd,HF,zp,e5,tr]
 rw[s2]
 exact JI hfl (MM hs)
def rk (t:Tb)(A:List (List Str))(e:D):D:=(Di e (A.map (kyR t)) (A.map rwD)).getD .non
def uk (t:Tb)(A B:List (List Str)):List D:=(B.map (kyR t)).foldl Dx (A.map (kyR t))
def dlt (t:Tb)(A B:List (List Str)):List D:=((Dv (uk t A B)).filter λe=>!decide (rk t A e=rk t B e)).map λe=>.tup [.str t.nm,e,rk t A e,rk t B e]
theorem Li {t:Tb}{A:List (List Str)}{e:D}:Hn 2 (rk t A e):=by
 unfold rk
 rw[ES]
 cases A.find? λr=>decide (kyR t r=e) with
 |none=>exact Hn.non.up (by decide)
 |some r=>exact Hn.row r
def NG {t:Tb}{A B:List (List Str)}{e:D}:e∈uk t A B↔(∃r∈A,kyR t r=e)\/∃r∈B,kyR t r=e:=by
 unfold uk
 rw[Fe,Ah,Ah]
def Me {t:Tb}{A B:List (List Str)}{e:D}(h:e∈Dv (uk t A B)):∃k,e=rwD k:=by
 rcases NG.mp ((Df _).mem_iff.mp h) with⟨r,_,rfl⟩|⟨r,_,rfl⟩<;>exact⟨_,rfl⟩
def JZ {t:Tb}{A B:List (List Str)}:(uk t A B).length<=A.length+B.length:=by
 have:=Gq (B.map (kyR t)) (A.map (kyR t))
 unfold uk
 simpa using this
def key_ne {t:Tb}(ht:ED t){r:List Str}(hr:RwOk t r):r.take t.ks≠[]:=λe=>by
 have:=congrArg List.length e
 rw[AA,List.length_nil] at this
 have a:=Jx ht hr
 have b:=ht.k1
 ext
def Ra {t:Tb}(ht:ED t){n m:Nat}{A B:List (List Str)}(hA:RL t n A)(hB:RL t m B)(h64:n+m<64):DX (uk t A B)=true:=by
 have h1:=hA.len
 have h2:=hB.len
 have h3:=JZ (t:=t) (A:=A) (B:=B)
 have all:∀e∈uk t A B,∃k,e=rwD k/\k≠[]:=λe he=>by
  rcases NG.mp he with⟨r,hr,rfl⟩|⟨r,hr,rfl⟩
  ·exact⟨_,rfl,key_ne ht (hA.ok r hr)⟩
  ·exact⟨_,rfl,key_ne ht (hB.ok r hr)⟩
 obtain⟨ks,k1,k2⟩:∃ks:List (List Str),uk t A B=ks.map rwD/\∀k∈ks,k≠[]:=by
  generalize uk t A B=L at all
  clear h3
  induction L with
  |nil=>exact⟨[],rfl,λ_ h=>nomatch h⟩
  |cons d L ih =>
   obtain⟨k,rfl,hk⟩:=all d (.head _)
   obtain⟨ks,e,h⟩:=ih λe he=>all e (.tail _ he)
   refine⟨k::ks,by rw[e];rfl,λq hq=>?_⟩
   rcases Ap.mp hq with rfl|hq
   ·exact hk
   ·exact h q hq
 rw[k1]
 refine Jz ?_ k2
 have:=congrArg List.length k1
 rw[Af] at this
 ext
theorem Gj {t:Tb}(ht:ED t){n:Nat}{A:List (List Str)}(hA:RL t n A):(A.map (kyR t)).all okE=true:=by
 rw[AB]
 intro d hd
 obtain⟨r,hr,rfl⟩:=Ah.mp hd
 unfold okE kyR
 rw[(Hn.row _).K (by decide)]
 have:=key_ne ht (hA.ok r hr)
 cases c:r.take t.ks with
 |nil=>exact absurd c this
 |cons x xs=>rfl
def LZ {d e:D}{o x:Ex}{ro:Ro}{p:List D×List D}(ho:o ro mu=some (d,mu))(hd:DF mu d=some p)(hx:x ro mu=some (e,mu))(hk:DN e=true):Fw o (CC x CH) ro mu=some ((Di e p.1 p.2).getD .non,mu):=by
 simp only[Fw,ho,Mz,hd,Option.isSome_some,if_true,Wx,Xb,hx,Oz,hk]
def M3 {es:List D}(ok:DX es=true):GO [.set es] mu=some (.lst (Dv es),mu):=by
 have e1:Jk [.set es] mu=some (.lst (Dv es),mu):=by simp only[Jk,FK,Nz,ok,if_true]
 unfold GO
 rw[e1]
def Xh {ds:List D}(h64:ds.length<64)(h:ds.all okE=true):ND [.lst ds] mu=some (.set (Gu ds),mu):=by
 have sq:sq1 [.lst ds] mu=some ds:=rfl
 unfold ND
 rw[sq]
 dsimp only
 rw[if_pos]
 rw[Ac,Aj]
 exact⟨h,h64⟩
def Of (r:List Str):DZ 0 (rwD r)=true:=by
 simp only[rwD,DZ]
 rw[Fm]
 intro d hd
 obtain⟨x,_,rfl⟩:=Ah.mp hd
 rfl
theorem Xt {t:Tb}{A:List (List Str)}{e:D}:DZ 0 (rk t A e)=true:=by
 unfold rk
 rw[ES]
 cases A.find? λr=>decide (kyR t r=e) with
 |none=>rfl
 |some r=>exact Of r
def S9 {t:Tb}{A B:List (List Str)}:∀d∈dlt t A B,DZ 0 d=true:=λd hd=>by
 obtain⟨e,he,rfl⟩:=Ah.mp hd
 obtain⟨k,rfl⟩:=Me (AI.mp he).1
 simp only[DZ,Fy,Of,Xt,Ci]
def iBd:Sx:=(CY (PQ 12 13 (CC (Fw (CD 9) (CC (CD 11) CH)) (CC (Fw (CD 10) (CC (CD 11) CH)) CH))) (sIf (tV (CJ neD (CD 12) (CD 13))) (sEx (HG (CD 3) (CC (Ep (CC (CD 4) (CC (CD 11) (CC (CD 12) (CC (CD 13) CH))))) CH))) (sNx)))
def oBd:Sx:=(CY (Dh (CI dctP (CC (eLC (Ff (CD 7)) 1 [6] (gNm 0) (tY) (Ep (CC (eSl (CD 0) (pNo) (DK (CD 1))) (CC (CD 0) CH)))) CH)) (gNm 9)) (CY (Dh (CI dctP (CC (eLC (Ff (CD 8)) 1 [6] (gNm 0) (tY) (Ep (CC (eSl (CD 0) (pNo) (DK (CD 1))) (CC (CD 0) CH)))) CH)) (gNm 10)) (Gw (Ff (CI GO (CC (CI ND (CC (CJ Dw (CI lstK (CC (CD 9) CH)) (CI lstK (CC (CD 10) CH))) CH)) CH))) (gNm 11) iBd)))
def Wo {t:Tb}{A B:List (List Str)}{F:Nat}{fs:List D}(hF:mu[F]?=some (.lst fs))(hfs:fs.length<=1000)(hl:(Dv (uk t A B)).length<=1000){a b c rA rB:D}{x11 x12 x13:Option D} :
  ∃y11 y12 y13,FQ none mu (gNm 11) iBd (Dv (uk t A B)) [some a,some b,some c,some (.ref F),some (.str t.nm),some (.tup (t.cs.map clD)),some (.int t.ks),some rA,some rB,some (.dct (A.map (kyR t)) (A.map rwD)),some (.dct (B.map (kyR t)) (B.map rwD)),x11,x12,x13] mu =
   some ((.nx,[some a,some b,some c,some (.ref F),some (.str t.nm),some (.tup (t.cs.map clD)),some (.int t.ks),some rA,some rB,some (.dct (A.map (kyR t)) (A.map rwD)),some (.dct (B.map (kyR t)) (B.map rwD)),y11,y12,y13]),mu.set F (.lst (fs++dlt t A B))):=by
 have hFl:F<mu.length:=(Ae.mp hF).1
 obtain⟨W,hW⟩:∃W:Nat->List D,∀i,W i=(((Dv (uk t A B)).take i).filter λe=>!decide (rk t A e=rk t B e)).map λe=>.tup [.str t.nm,e,rk t A e,rk t B e]:=⟨_,λ_=>rfl⟩
 have W0:W 0=[]:=by rw[hW];rfl
 have WS:∀j e,(Dv (uk t A B))[j]?=some e->W (j+1)=if rk t A e=rk t B e then W j else W j++[.tup [.str t.nm,e,rk t A e,rk t B e]]:=λj e h=>by
  rw[hW,hW,BW,h,List.filter_append,A4]
  by_cases q:rk t A e=rk t B e
  ·rw[if_pos q]
   simp[q]
  ·rw[if_neg q]
   simp[q]
 have WL:∀j,(W j).length<=1000:=λj=>by
  rw[hW,Af]
  have a1:=Bj (λe=>!decide (rk t A e=rk t B e)) ((Dv (uk t A B)).take j)
  rw[AA] at a1
  ext
 have s0:mu=mu.set F (.lst (fs++W 0)):=by
  rw[W0,List.append_nil]
  refine A8 λi=>?_
  by_cases c:F=i
  ·subst c;rw[Bm hFl,hF]
  ·rw[AD c]
 obtain⟨ro',m5,e5,⟨y11,y12,y13,rfl⟩,rfl⟩:=Er (m0:=mu) (tg:=gNm 11) (body:=iBd) (λi ro m=>(∃y11 y12 y13,ro=[some a,some b,some c,some (.ref F),some (.str t.nm),some (.tup (t.cs.map clD)),some (.int t.ks),some rA,some rB,some (.dct (A.map (kyR t)) (A.map rwD)),some (.dct (B.map (kyR t)) (B.map rwD)),y11,y12,y13]) /\
   m=mu.set F (.lst (fs++W i))) (Dv (uk t A B)) 0
   [some a,some b,some c,some (.ref F),some (.str t.nm),some (.tup (t.cs.map clD)),some (.int t.ks),some rA,some rB,some (.dct (A.map (kyR t)) (A.map rwD)),some (.dct (B.map (kyR t)) (B.map rwD)),x11,x12,x13] mu ⟨⟨_,_,_,rfl⟩,s0⟩ λj e ro m ed hi=>by
  obtain⟨⟨y11,y12,y13,rfl⟩,rfl⟩:=hi
  rw[Bb]
  obtain⟨k,rfl⟩:=Me (Ag ed)
  have hk:DN (rwD k)=true:=(Hn.row k).K (by decide)
  have nk:=JW (mu:=mu.set F (.lst (fs++W j))) (d:=rk t A (rwD k)) (e:=rk t B (rwD k)) (Li.K (by decide)) (Li.K (by decide))
  have g1:=LZ (mu:=mu.set F (.lst (fs++W j))) (o:=CD 9) (x:=CD 11) (ro:=[some a,some b,some c,some (.ref F),some (.str t.nm),some (.tup (t.cs.map clD)),some (.int t.ks),some rA,some rB,some (.dct (A.map (kyR t)) (A.map rwD)),some (.dct (B.map (kyR t)) (B.map rwD)),some (rwD k),y12,y13]) (p:=(A.map (kyR t),A.map rwD)) rfl rfl rfl hk
  have g2:=LZ (mu:=mu.set F (.lst (fs++W j))) (o:=CD 10) (x:=CD 11) (ro:=[some a,some b,some c,some (.ref F),some (.str t.nm),some (.tup (t.cs.map clD)),some (.int t.ks),some rA,some rB,some (.dct (A.map (kyR t)) (A.map rwD)),some (.dct (B.map (kyR t)) (B.map rwD)),some (rwD k),y12,y13]) (p:=(B.map (kyR t),B.map rwD)) rfl rfl rfl hk
  have r1:(Di (rwD k) (A.map (kyR t)) (A.map rwD)).getD .non=rk t A (rwD k):=rfl
  have r2:(Di (rwD k) (B.map (kyR t)) (B.map rwD)).getD .non=rk t B (rwD k):=rfl
  dsimp only at g1 g2
  rw[r1] at g1
  rw[r2] at g2
  have at0:(mu.set F (.lst (fs++W j)))[F]?=some (.lst (fs++W j)):=Bm hFl
  have ws:=WS j _ ed
  have wl:=WL j
  by_cases q:rk t A (rwD k)=rk t B (rwD k)
  ·rw[if_pos q] at ws
   rw[A0 q,B0] at nk
   rw[ws]
   refine⟨_,_,_,_,rfl,?_,⟨some (rwD k),some (rk t A (rwD k)),some (rk t B (rwD k)),rfl⟩,rfl⟩
   unfold iBd
   simp![g1,g2,nk]
  ·rw[if_neg q] at ws
   rw[A7 q,Bool.not_false] at nk
   have app:=append_at (mu:=mu.set F (.lst (fs++W j))) (mu':=mu.set F (.lst (fs++W j))) (y:=.tup [.str t.nm,rwD k,rk t A (rwD k),rk t B (rwD k)]) at0 at0 (by rw[AO,Ar];ext) (ro:=[some a,some b,some c,some (.ref F),some (.str t.nm),some (.tup (t.cs.map clD)),some (.int t.ks),some rA,some rB,some (.dct (A.map (kyR t)) (A.map rwD)),some (.dct (B.map (kyR t)) (B.map rwD)),some (rwD k),some (rk t A (rwD k)),some (rk t B (rwD k))]) (i:=3) (e:=(Ep (CC (CD 4) (CC (CD 11) (CC (CD 12) (CC (CD 13) CH)))))) rfl (by simp![])
   rw[List.set_set,B4,<- ws] at app
   refine⟨_,_,_,_,rfl,?_,⟨some (rwD k),some (rk t A (rwD k)),some (rk t B (rwD k)),rfl⟩,rfl⟩
   unfold iBd
   simp![g1,g2,nk,app]
 have tk:W (0+(Dv (uk t A B)).length)=dlt t A B:=by rw[hW,Bb,Cd];rfl
 rw[tk] at e5
 exact⟨_,_,_,e5⟩
theorem Kg (t:Tb):∀rs:List (List Str),PV.pairsOf (rs.map λr=>.tup [kyR t r,rwD r])=some (rs.map λr=>(kyR t r,rwD r))
 |[]=>rfl
 |r::rs=>by
  rw[A3,PV.pairsOf,if_pos (show DN (kyR t r)=true from(Hn.row _).K (by decide)),Kg t rs]
  rfl
def MU {t:Tb}{n:Nat}{A:List (List Str)}(hA:RL t n A):dctP [.lst (A.map λr=>.tup [kyR t r,rwD r])] mu=some (.dct (A.map (kyR t)) (A.map rwD),mu):=by
 have pn:=Hv (A.map λr=>(kyR t r,rwD r)) [] [] rfl (by rw[List.nil_append,AK];exact hA.keys)
 have e1:([]:List D)++(A.map λr=>(kyR t r,rwD r)).map (·.1)=A.map (kyR t):=by rw[List.nil_append,AK];rfl
 have e2:([]:List D)++(A.map λr=>(kyR t r,rwD r)).map (·.2)=A.map rwD:=by rw[List.nil_append,AK];rfl
 rw[e1,e2] at pn
 simp only[dctP,sq1,FK,Gg,D5,Kg,pn]
def Ol {t:Tb}(ht:ED t){n:Nat}{A:List (List Str)}(hA:RL t n A):F9 none mu (gNm 0) tY (Ep (CC (eSl (CD 0) (pNo) (DK (CD 1))) (CC (CD 0) CH))) [none,some (.int t.ks)] (A.map rwD) mu=some (A.map λr=>.tup [kyR t r,rwD r],mu):=by
 have lc:=Kh (m0:=mu) (tg:=gNm 0) (el:=(Ep (CC (eSl (CD 0) (pNo) (DK (CD 1))) (CC (CD 0) CH)))) (ro:=[none,some (.int t.ks)]) (mu:=mu) (λd=>.tup [tkD t.ks d,d]) (A.map rwD) (λd hd=>by
  obtain⟨r,hr,rfl⟩:=Ah.mp hd
  have c:=LY (mu:=mu) (Jx ht (hA.ok r hr))
  refine⟨_,rfl,?_⟩
  rw[G0]
  simp![c]
  rfl)
 rw[lc,AK]
 exact congrArg some (Prod.ext (Bl λr _=>by simp only[Function.comp,G0]) rfl)
def UL {t:Tb}{n:Nat}{A B:List (List Str)}(hA:RL t n A):Gu (A.map (kyR t)++B.map (kyR t))=uk t A B:=by
 have:=Jq hA.keys
 unfold Gu at this ⊢
 rw[List.foldl_append,this]
 rfl
def To {t:Tb}(ht:ED t){n m:Nat}{A B:List (List Str)}(hA:RL t n A)(hB:RL t m B)(h64:n+m<64){F:Nat}{fs:List D}(hF:mu[F]?=some (.lst fs))(hfs:fs.length<=1000){a b c:D}{x9 x10 x11 x12 x13:Option D} :
  ∃y9 y10 y11 y12 y13,oBd [some a,some b,some c,some (.ref F),some (.str t.nm),some (.tup (t.cs.map clD)),some (.int t.ks),some (flD A),some (flD B),x9,x10,x11,x12,x13] mu =
   some ((.nx,[some a,some b,some c,some (.ref F),some (.str t.nm),some (.tup (t.cs.map clD)),some (.int t.ks),some (flD A),some (flD B),y9,y10,y11,y12,y13]),mu.set F (.lst (fs++dlt t A B))):=by
 have l1:=hA.len
 have l2:=hB.len
 have l3:=JZ (t:=t) (A:=A) (B:=B)
 have sl:=(Df (uk t A B)).length_eq
 obtain⟨y11,y12,y13,li⟩:=Wo (t:=t) (A:=A) (B:=B) hF hfs (by ext) (a:=a) (b:=b) (c:=c) (rA:=flD A) (rB:=flD B) (x11:=x11) (x12:=x12) (x13:=x13)
 refine⟨some (.dct (A.map (kyR t)) (A.map rwD)),some (.dct (B.map (kyR t)) (B.map rwD)),y11,y12,y13,?_⟩
 have lA:=Ol (mu:=mu) ht hA
 have lB:=Ol (mu:=mu) ht hB
 have dA:=MU (mu:=mu) hA
 have dB:=MU (mu:=mu) hB
 have kA:lstK [.dct (A.map (kyR t)) (A.map rwD)] mu=some (.lst (A.map (kyR t)),mu):=rfl
 have kB:lstK [.dct (B.map (kyR t)) (B.map rwD)] mu=some (.lst (B.map (kyR t)),mu):=rfl
 have ad:Dw (.lst (A.map (kyR t))) (.lst (B.map (kyR t))) mu=some (.lst (A.map (kyR t)++B.map (kyR t)),mu):=NT (by rw[AO,Af,Af];ext)
 have st:=Xh (mu:=mu) (ds:=A.map (kyR t)++B.map (kyR t)) (by rw[Ar,Af,Af];ext) (by rw[List.all_append,Gj ht hA,Gj ht hB];rfl)
 rw[UL hA] at st
 have sr:=M3 (mu:=mu) (Ra ht hA hB h64)
 have fA:flD A=.tup (A.map rwD):=rfl
 have fB:flD B=.tup (B.map rwD):=rfl
 rw[fA,fB] at li ⊢
 unfold oBd
 simp![lA,dA,lB,dB,kA,kB,ad,st,sr,li]
def Fv (ts:List Tb)(as bs:List (List (List Str))):List D:=(ts.zip (as.zip bs)).flatMap λq=>dlt q.1 q.2.1 q.2.2
def OP {ts:List Tb}{as bs:List (List (List Str))}:DZ 0 (.tup (Fv ts as bs))=true:=by
 simp only[DZ]
 rw[Fm]
 intro d hd
 obtain⟨q,_,hq⟩:=List.mem_flatMap.mp hd
 exact S9 d hq
def UX {ro:Ro}{m:Exs}{xs ys zs:List D}(h:m ro mu=some ([.tup xs,.tup ys,.tup zs],mu)):Sm m ro mu=some ((E8 xs ys zs,none),mu):=by
 simp only[Sm,h,Mz]
 rfl
def Ui {t:Tb}{A B:List (List Str)}:(dlt t A B).length<=A.length+B.length:=by
 unfold dlt
 rw[Af]
 have a1:=Bj (λe=>!decide (rk t A e=rk t B e)) (Dv (uk t A B))
 have a2:=(Df (uk t A B)).length_eq
 have a3:=JZ (t:=t) (A:=A) (B:=B)
 ext
theorem Js:∀{zs:List (Tb×List (List Str)×List (List Str))},(∀q∈zs,q.2.1.length+q.2.2.length<=64)->(zs.flatMap λq=>dlt q.1 q.2.1 q.2.2).length<=64*zs.length
 |[],_=>by simp
 |q::zs,h=>by
  have:=Js λq hq=>h q (BR _ hq)
  have a:=Ui (t:=q.1) (A:=q.2.1) (B:=q.2.2)
  have b:=h q List.mem_cons_self
  rw[List.flatMap_cons,Ar,List.length_cons]
  ext
def GU {ts:List Tb}{as bs:List (List (List Str))}(hfl:Flat mu)(l0:ts.length<=10)(l1:as.length=ts.length)(l2:bs.length=ts.length)
  (ok:∀(j:Nat) t A B,ts[j]?=some t->as[j]?=some A->bs[j]?=some B->ED t/\∃n m,n+m<64/\RL t n A/\RL t m B) :
  DQ [.tup (ts.map tbD),.tup (as.map flD),.tup (bs.map flD)] mu=some (.tup (Fv ts as bs),mu):=by
 have zl:(ts.zip (as.zip bs)).length=ts.length:=by rw[BS,BS,l1,l2,Nat.min_self,Nat.min_self]
 have okz:∀q∈ts.zip (as.zip bs),ED q.1/\∃n m,n+m<64/\RL q.1 n q.2.1/\RL q.1 m q.2.2:=λq hq=>by
  obtain⟨j,hj⟩:=Aw.mp hq
  obtain⟨a,b⟩:=AE.mp hj
  obtain⟨b,c⟩:=AE.mp b
  exact ok j _ _ _ a b c
 have zd:E8 (ts.map tbD) (as.map flD) (bs.map flD)=(ts.zip (as.zip bs)).map λq=>.tup [tbD q.1,flD q.2.1,flD q.2.2]:=by
  unfold E8
  rw[List.zip_map,List.zip_map,AK]
  rfl
 obtain⟨W,hW⟩:∃W:Nat->List D,∀i,W i=((ts.zip (as.zip bs)).take i).flatMap λq=>dlt q.1 q.2.1 q.2.2:=⟨_,λ_=>rfl⟩
 have W0:W 0=[]:=by rw[hW];rfl
 have WS:∀j q,(ts.zip (as.zip bs))[j]?=some q->W (j+1)=W j++dlt q.1 q.2.1 q.2.2:=λj q h=>by rw[hW,hW,BW,h,List.flatMap_append];simp
 have WL:∀j,(W j).length<=1000:=λj=>by
  have:=Js (zs:=(ts.zip (as.zip bs)).take j) λq hq=>by
   obtain⟨_,n,m,h1,h2,h3⟩:=okz q (List.mem_of_mem_take hq)
   have:=h2.len
   have:=h3.len
   ext
  rw[hW]
  rw[AA] at this
  ext
 obtain⟨ro',m5,e5,⟨y4,y5,y6,y7,y8,y9,y10,y11,y12,y13,rfl⟩,rfl⟩:=Er (m0:=mu++[MO.lst []]) (tg:=(gTp 3 (CM (gTp 3 (CM (gNm 4) (CM (gNm 5) (CM (gNm 6) DJ)))) (CM (gNm 7) (CM (gNm 8) DJ))))) (body:=oBd) (λi ro m=>(∃y4 y5 y6 y7 y8 y9 y10 y11 y12 y13,ro=[some (.tup (ts.map tbD)),some (.tup (as.map flD)),some (.tup (bs.map flD)),some (.ref mu.length),y4,y5,y6,y7,y8,y9,y10,y11,y12,y13]) /\
   m=mu++[MO.lst (W i)]) (E8 (ts.map tbD) (as.map flD) (bs.map flD)) 0
   [some (.tup (ts.map tbD)),some (.tup (as.map flD)),some (.tup (bs.map flD)),some (.ref mu.length),none,none,none,none,none,none,none,none,none,none] (mu++[MO.lst []]) ⟨⟨_,_,_,_,_,_,_,_,_,_,rfl⟩,by rw[W0]⟩ λj d ro m ed hi=>by
  obtain⟨⟨y4,y5,y6,y7,y8,y9,y10,y11,y12,y13,rfl⟩,rfl⟩:=hi
  rw[zd,Am] at ed
  cases eq:(ts.zip (as.zip bs))[j]? with
  |none=>rw[eq] at ed;cases ed
  |some q =>
   rw[eq] at ed
   have ed':D.tup [tbD q.1,flD q.2.1,flD q.2.2]=d:=by simpa using ed
   subst ed'
   rw[Bb]
   obtain⟨o1,n,m,o2,o3,o4⟩:=okz q (Ag eq)
   have at0:(mu++[MO.lst (W j)])[mu.length]?=some (.lst (W j)):=by simp
   obtain⟨w9,w10,w11,w12,w13,g⟩:=To (mu:=mu++[MO.lst (W j)]) o1 o3 o4 o2 at0 (WL j) (a:=.tup (ts.map tbD)) (b:=.tup (as.map flD)) (c:=.tup (bs.map flD)) (x9:=y9) (x10:=y10) (x11:=y11) (x12:=y12) (x13:=y13)
   have ms:(mu++[MO.lst (W j)]).set mu.length (.lst (W j++dlt q.1 q.2.1 q.2.2))=mu++[MO.lst (W (j+1))]:=by
    rw[List.set_append_right _ _ (Ai _),Nat.sub_self,WS j q eq]
    rfl
   rw[ms] at g
   exact⟨_,_,_,_,rfl,g,⟨_,_,_,_,_,_,_,_,_,_,rfl⟩,rfl⟩
 have tk:W (0+(E8 (ts.map tbD) (as.map flD) (bs.map flD)).length)=Fv ts as bs:=by rw[hW,zd,Af,Bb,Cd];rfl
 rw[tk] at e5
 have zp:=UX (mu:=mu++[MO.lst []]) (m:=(CC (CD 0) (CC (CD 1) (CC (CD 2) CH)))) (ro:=[some (.tup (ts.map tbD)),some (.tup (as.map flD)),some (.tup (bs.map flD)),some (.ref mu.length),none,none,none,none,none,none,none,none,none,none]) (xs:=ts.map tbD) (ys:=as.map flD) (zs:=bs.map flD) rfl
 have tr:=IC (mu:=mu++[MO.lst (Fv ts as bs)]) (R:=mu.length) (cs:=Fv ts as bs) (by simp)
 unfold oBd iBd at e5
 simp![DQ,Gb,zp,e5,tr]
 exact JI hfl OP
def jBd:Sx:=(sIf (tV (CJ neD (Fw (CD 7) (CC (CD 9) CH)) (Fw (CD 8) (CC (CD 9) CH)))) (sEx (HG (CD 3) (CC (Ep (CC (CJ ixG (CD 4) (eC (.int 0))) (CC (CD 9) (CC (Fw (CD 7) (CC (CD 9) CH)) (CC (Fw (CD 8) (CC (CD 9) CH)) CH))))) CH))) (sNx))
def pBd:Sx:=(CY (Dh (CI Dy (CC (CD 4) (CC (CD 5) CH))) (gNm 7)) (CY (Dh (CI Dy (CC (CD 4) (CC (CD 6) CH))) (gNm 8)) (Gw (Ff (CI GO (CC (CJ orS (CI Mo (CC (CD 7) CH)) (CI Mo (CC (CD 8) CH))) CH))) (gNm 9) jBd)))
def Xg {t:Tb}{A B:List (List Str)}{F k1 k2:Nat}{fs:List D}(hF:mu[F]?=some (.lst fs))(h1:mu[k1]?=some (.dct (A.map (kyR t)) (A.map rwD)))(h2:mu[k2]?=some (.dct (B.map (kyR t)) (B.map rwD)))(hfs:fs.length<=1000)(hl:(Dv (uk t A B)).length<=1000){a b c rA rB:D}{x9:Option D} :
  ∃y9,FQ none mu (gNm 9) jBd (Dv (uk t A B)) [some a,some b,some c,some (.ref F),some (tbD t),some rA,some rB,some (.ref k1),some (.ref k2),x9] mu =
   some ((.nx,[some a,some b,some c,some (.ref F),some (tbD t),some rA,some rB,some (.ref k1),some (.ref k2),y9]),mu.set F (.lst (fs++dlt t A B))):=by
 have hFl:F<mu.length:=(Ae.mp hF).1
 have n1:F≠k1:=λz=>by rw[z,h1] at hF;cases hF
 have n2:F≠k2:=λz=>by rw[z,h2] at hF;cases hF
 obtain⟨W,hW⟩:∃W:Nat->List D,∀i,W i=(((Dv (uk t A B)).take i).filter λe=>!decide (rk t A e=rk t B e)).map λe=>.tup [.str t.nm,e,rk t A e,rk t B e]:=⟨_,λ_=>rfl⟩
 have W0:W 0=[]:=by rw[hW];rfl
 have WS:∀j e,(Dv (uk t A B))[j]?=some e->W (j+1)=if rk t A e=rk t B e then W j else W j++[.tup [.str t.nm,e,rk t A e,rk t B e]]:=λj e h=>by
  rw[hW,hW,BW,h,List.filter_append,A4]
  by_cases q:rk t A e=rk t B e
  ·rw[if_pos q]
   simp[q]
  ·rw[if_neg q]
   simp[q]
 have WL:∀j,(W j).length<=1000:=λj=>by
  rw[hW,Af]
  have a1:=Bj (λe=>!decide (rk t A e=rk t B e)) ((Dv (uk t A B)).take j)
  rw[AA] at a1
  ext
 have s0:mu=mu.set F (.lst (fs++W 0)):=by
  rw[W0,List.append_nil]
  refine A8 λi=>?_
  by_cases c:F=i
  ·subst c;rw[Bm hFl,hF]
  ·rw[AD c]
 obtain⟨ro',m5,e5,⟨y9,rfl⟩,rfl⟩:=Er (m0:=mu) (tg:=gNm 9) (body:=jBd) (λi ro m=>(∃y9,ro=[some a,some b,some c,some (.ref F),some (tbD t),some rA,some rB,some (.ref k1),some (.ref k2),y9]) /\
   m=mu.set F (.lst (fs++W i))) (Dv (uk t A B)) 0
   [some a,some b,some c,some (.ref F),some (tbD t),some rA,some rB,some (.ref k1),some (.ref k2),x9] mu ⟨⟨_,rfl⟩,s0⟩ λj e ro m ed hi=>by
  obtain⟨⟨y9,rfl⟩,rfl⟩:=hi
  rw[Bb]
  obtain⟨k,rfl⟩:=Me (Ag ed)
  have hk:DN (rwD k)=true:=(Hn.row k).K (by decide)
  have nk:=JW (mu:=mu.set F (.lst (fs++W j))) (d:=rk t A (rwD k)) (e:=rk t B (rwD k)) (Li.K (by decide)) (Li.K (by decide))
  have q1:(mu.set F (.lst (fs++W j)))[k1]?=some (.dct (A.map (kyR t)) (A.map rwD)):=by rw[AD n1];exact h1
  have q2:(mu.set F (.lst (fs++W j)))[k2]?=some (.dct (B.map (kyR t)) (B.map rwD)):=by rw[AD n2];exact h2
  have g1:=LZ (mu:=mu.set F (.lst (fs++W j))) (o:=CD 7) (x:=CD 9) (ro:=[some a,some b,some c,some (.ref F),some (tbD t),some rA,some rB,some (.ref k1),some (.ref k2),some (rwD k)]) (p:=(A.map (kyR t),A.map rwD)) rfl (by simp only[DF,q1]) rfl hk
  have g2:=LZ (mu:=mu.set F (.lst (fs++W j))) (o:=CD 8) (x:=CD 9) (ro:=[some a,some b,some c,some (.ref F),some (tbD t),some rA,some rB,some (.ref k1),some (.ref k2),some (rwD k)]) (p:=(B.map (kyR t),B.map rwD)) rfl (by simp only[DF,q2]) rfl hk
  have r1:(Di (rwD k) (A.map (kyR t)) (A.map rwD)).getD .non=rk t A (rwD k):=rfl
  have r2:(Di (rwD k) (B.map (kyR t)) (B.map rwD)).getD .non=rk t B (rwD k):=rfl
  dsimp only at g1 g2
  rw[r1] at g1
  rw[r2] at g2
  have at0:(mu.set F (.lst (fs++W j)))[F]?=some (.lst (fs++W j)):=Bm hFl
  have ws:=WS j _ ed
  have wl:=WL j
  by_cases q:rk t A (rwD k)=rk t B (rwD k)
  ·rw[if_pos q] at ws
   rw[A0 q,B0] at nk
   rw[ws]
   refine⟨_,_,_,_,rfl,?_,⟨some (rwD k),rfl⟩,rfl⟩
   unfold jBd
   simp![g1,g2,nk]
  ·rw[if_neg q] at ws
   rw[A7 q,Bool.not_false] at nk
   have app:=append_at (mu:=mu.set F (.lst (fs++W j))) (mu':=mu.set F (.lst (fs++W j))) (y:=.tup [.str t.nm,rwD k,rk t A (rwD k),rk t B (rwD k)]) at0 at0 (by rw[AO,Ar];ext) (ro:=[some a,some b,some c,some (.ref F),some (tbD t),some rA,some rB,some (.ref k1),some (.ref k2),some (rwD k)]) (i:=3) (e:=(Ep (CC (CJ ixG (CD 4) (eC (.int 0))) (CC (CD 9) (CC (Fw (CD 7) (CC (CD 9) CH)) (CC (Fw (CD 8) (CC (CD 9) CH)) CH)))))) rfl (by
    have tb:tbD t=.tup [.str t.nm,.tup (t.cs.map clD),.int t.ks]:=rfl
    rw[tb] at g1 g2 ⊢
    simp![g1,g2])
   rw[List.set_set,B4,<- ws] at app
   refine⟨_,_,_,_,rfl,?_,⟨some (rwD k),rfl⟩,rfl⟩
   unfold jBd
   simp![g1,g2,nk,app]
 have tk:W (0+(Dv (uk t A B)).length)=dlt t A B:=by rw[hW,Bb,Cd];rfl
 rw[tk] at e5
 exact⟨_,e5⟩
def O7 {k:Nat}{ks ds:List D}(h:mu[k]?=some (.dct ks ds))(ok:ks.all okE=true)(h64:ks.length<64):Mo [.ref k] mu=some (.set ks,mu):=by
 simp only[Mo,FK,DF,h]
 rw[if_pos ⟨ok,h64⟩]
def TR {t:Tb}(ht:ED t){n m:Nat}{A B:List (List Str)}(hA:RL t n A)(hB:RL t m B)(h64:n+m<64){F:Nat}{fs:List D}(hF:mu[F]?=some (.lst fs))(hfs:fs.length<=1000){a b c:D}{x7 x8 x9:Option D} :
  ∃y7 y8 y9 jk,pBd [some a,some b,some c,some (.ref F),some (tbD t),some (flD A),some (flD B),x7,x8,x9] mu =
   some ((.nx,[some a,some b,some c,some (.ref F),some (tbD t),some (flD A),some (flD B),y7,y8,y9]),mu.set F (.lst (fs++dlt t A B))++jk):=by
 have hFl:F<mu.length:=(Ae.mp hF).1
 have l1:=hA.len
 have l2:=hB.len
 have l3:=JZ (t:=t) (A:=A) (B:=B)
 have sl:=(Df (uk t A B)).length_eq
 have b1:=HI (mu:=mu) ht (by ext) hA
 have b2:=HI (mu:=mu++[.dct (A.map (kyR t)) (A.map rwD)]) ht (by ext) hB
 have ml:(mu++[MO.dct (A.map (kyR t)) (A.map rwD)]).length=mu.length+1:=by simp
 rw[ml,B4,List.singleton_append] at b2
 have p1:(mu++[MO.dct (A.map (kyR t)) (A.map rwD),MO.dct (B.map (kyR t)) (B.map rwD)])[mu.length]?=some (.dct (A.map (kyR t)) (A.map rwD)):=by simp
 have p2:(mu++[MO.dct (A.map (kyR t)) (A.map rwD),MO.dct (B.map (kyR t)) (B.map rwD)])[mu.length+1]?=some (.dct (B.map (kyR t)) (B.map rwD)):=by
  rw[AY (by ext)]
  simp
 have pF:(mu++[MO.dct (A.map (kyR t)) (A.map rwD),MO.dct (B.map (kyR t)) (B.map rwD)])[F]?=some (.lst fs):=by
  rw[As hFl];exact hF
 obtain⟨y9,bi⟩:=Xg pF p1 p2 hfs (by ext) (a:=a) (b:=b) (c:=c) (rA:=flD A) (rB:=flD B) (x9:=x9)
 have s1:=O7 p1 (Gj ht hA) (by rw[Af];ext)
 have s2:=O7 p2 (Gj ht hB) (by rw[Af];ext)
 have os:orS (.set (A.map (kyR t))) (.set (B.map (kyR t))) (mu++[MO.dct (A.map (kyR t)) (A.map rwD),MO.dct (B.map (kyR t)) (B.map rwD)])=some (.set (uk t A B),mu++[MO.dct (A.map (kyR t)) (A.map rwD),MO.dct (B.map (kyR t)) (B.map rwD)]):=by
  unfold orS
  dsimp only
  rw[if_pos ⟨Gj ht hA,Gj ht hB,by rw[Af,Af];ext⟩]
  rfl
 have sr:=M3 (mu:=mu++[MO.dct (A.map (kyR t)) (A.map rwD),MO.dct (B.map (kyR t)) (B.map rwD)]) (Ra ht hA hB h64)
 rw[List.set_append_left _ _ hFl] at bi
 refine⟨some (.ref mu.length),some (.ref (mu.length+1)),y9,[MO.dct (A.map (kyR t)) (A.map rwD),MO.dct (B.map (kyR t)) (B.map rwD)],?_⟩
 unfold pBd
 simp![b1,b2,s1,s2,os,sr,bi]
def Hc {ts:List Tb}{as bs:List (List (List Str))}(hfl:Flat mu)(l0:ts.length<=10)(l1:as.length=ts.length)(l2:bs.length=ts.length)
  (ok:∀(j:Nat) t A B,ts[j]?=some t->as[j]?=some A->bs[j]?=some B->ED t/\∃n m,n+m<64/\RL t n A/\RL t m B) :
  D1 [.tup (ts.map tbD),.tup (as.map flD),.tup (bs.map flD)] mu=some (.tup (Fv ts as bs),mu):=by
 have okz:∀q∈ts.zip (as.zip bs),ED q.1/\∃n m,n+m<64/\RL q.1 n q.2.1/\RL q.1 m q.2.2:=λq hq=>by
  obtain⟨j,hj⟩:=Aw.mp hq
  obtain⟨a,b⟩:=AE.mp hj
  obtain⟨b,c⟩:=AE.mp b
  exact ok j _ _ _ a b c
 have zl:(ts.zip (as.zip bs)).length=ts.length:=by rw[BS,BS,l1,l2,Nat.min_self,Nat.min_self]
 have zd:E8 (ts.map tbD) (as.map flD) (bs.map flD)=(ts.zip (as.zip bs)).map λq=>.tup [tbD q.1,flD q.2.1,flD q.2.2]:=by
  unfold E8
  rw[List.zip_map,List.zip_map,AK]
  rfl
 obtain⟨W,hW⟩:∃W:Nat->List D,∀i,W i=((ts.zip (as.zip bs)).take i).flatMap λq=>dlt q.1 q.2.1 q.2.2:=⟨_,λ_=>rfl⟩
 have W0:W 0=[]:=by rw[hW];rfl
 have WS:∀j q,(ts.zip (as.zip bs))[j]?=some q->W (j+1)=W j++dlt q.1 q.2.1 q.2.2:=λj q h=>by rw[hW,hW,BW,h,List.flatMap_append];simp
 have WL:∀j,(W j).length<=1000:=λj=>by
  have:=Js (zs:=(ts.zip (as.zip bs)).take j) λq hq=>by
   obtain⟨_,n,m,h1,h2,h3⟩:=okz q (List.mem_of_mem_take hq)
   have:=h2.len
   have:=h3.len
   ext
  rw[hW]
  rw[AA] at this
  ext
 obtain⟨ro',m5,e5,⟨y4,y5,y6,y7,y8,y9,rfl⟩,jk,rfl⟩:=Er (m0:=mu++[MO.lst []]) (tg:=(gTp 3 (CM (gNm 4) (CM (gNm 5) (CM (gNm 6) DJ))))) (body:=pBd) (λi ro m=>(∃y4 y5 y6 y7 y8 y9,ro=[some (.tup (ts.map tbD)),some (.tup (as.map flD)),some (.tup (bs.map flD)),some (.ref mu.length),y4,y5,y6,y7,y8,y9]) /\
   ∃jk,m=mu++MO.lst (W i)::jk) (E8 (ts.map tbD) (as.map flD) (bs.map flD)) 0
   [some (.tup (ts.map tbD)),some (.tup (as.map flD)),some (.tup (bs.map flD)),some (.ref mu.length),none,none,none,none,none,none] (mu++[MO.lst []]) ⟨⟨_,_,_,_,_,_,rfl⟩,[],by rw[W0]⟩ λj d ro m ed hi=>by
  obtain⟨⟨y4,y5,y6,y7,y8,y9,rfl⟩,jk,rfl⟩:=hi
  rw[zd,Am] at ed
  cases eq:(ts.zip (as.zip bs))[j]? with
  |none=>rw[eq] at ed;cases ed
  |some q =>
   rw[eq] at ed
   have ed':D.tup [tbD q.1,flD q.2.1,flD q.2.2]=d:=by simpa using ed
   subst ed'
   rw[Bb]
   obtain⟨o1,n,m,o2,o3,o4⟩:=okz q (Ag eq)
   have at0:(mu++MO.lst (W j)::jk)[mu.length]?=some (.lst (W j)):=by simp
   obtain⟨w7,w8,w9,jk',g⟩:=TR (mu:=mu++MO.lst (W j)::jk) o1 o3 o4 o2 at0 (WL j) (a:=.tup (ts.map tbD)) (b:=.tup (as.map flD)) (c:=.tup (bs.map flD)) (x7:=y7) (x8:=y8) (x9:=y9)
   have ms:(mu++MO.lst (W j)::jk).set mu.length (.lst (W j++dlt q.1 q.2.1 q.2.2))++jk'=mu++MO.lst (W (j+1))::(jk++jk'):=by
    rw[List.set_append_right _ _ (Ai _),Nat.sub_self,WS j q eq,B4]
    rfl
   rw[ms] at g
   exact⟨_,_,_,_,rfl,g,⟨_,_,_,_,_,_,rfl⟩,_,rfl⟩
 have tk:W (0+(E8 (ts.map tbD) (as.map flD) (bs.map flD)).length)=Fv ts as bs:=by rw[hW,zd,Af,Bb,Cd];rfl
 rw[tk] at e5
 have zp:=UX (mu:=mu++[MO.lst []]) (m:=(CC (CD 0) (CC (CD 1) (CC (CD 2) CH)))) (ro:=[some (.tup (ts.map tbD)),some (.tup (as.map flD)),some (.tup (bs.map flD)),some (.ref mu.length),none,none,none,none,none,none]) (xs:=ts.map tbD) (ys:=as.map flD) (zs:=bs.map flD) rfl
 have tr:=IC (mu:=mu++MO.lst (Fv ts as bs)::jk) (R:=mu.length) (cs:=Fv ts as bs) (by simp)
 unfold pBd jBd at e5
 simp![D1,IH,zp,e5,tr]
 have te:(mu++MO.lst (Fv ts as bs)::jk).take mu.length=mu:=List.take_left
 have:=Ir (mu:=mu) (m:=mu++MO.lst (Fv ts as bs)::jk) (d:=.tup (Fv ts as bs)) OP (by rw[te];exact hfl)
 rw[te] at this
 exact this
theorem Kv {α:Type}{R:α->α->Prop}(as:∀x y,R x y->¬ R y x):∀{l1 l2:List α},l1.Pairwise R->l2.Pairwise R->(∀x,x∈l1↔x∈l2)->l1=l2
 |[],[],_,_,_=>rfl
 |[],y::ys,_,_,h=>absurd ((h y).mpr (.head _)) (by simp)
 |x::xs,[],_,_,h=>absurd ((h x).mp (.head _)) (by simp)
 |x::xs,y::ys,p,q,h=>by
  obtain⟨p1,p2⟩:=Be.mp p
  obtain⟨q1,q2⟩:=Be.mp q
  have irr:∀z,¬ R z z:=λz r=>as z z r r
  have e:x=y:=by
   rcases Ap.mp ((h x).mp (.head _)) with z|z
   ·exact z
   ·rcases Ap.mp ((h y).mpr (.head _)) with w|w
    ·exact w.symm
    ·exact absurd (p1 y w) (as _ _ (q1 x z))
  subst e
  congr 1
  refine Kv as p2 q2 λz=>⟨λhz=>?_,λhz=>?_⟩
  ·rcases Ap.mp ((h z).mp (.tail _ hz)) with w|w
   ·subst w;exact absurd (p1 z hz) (irr z)
   ·exact w
  ·rcases Ap.mp ((h z).mpr (.tail _ hz)) with w|w
   ·subst w;exact absurd (q1 z hz) (irr z)
   ·exact w
def Rk (x y:D):Prop:=ltT (tkD 2 x) (tkD 2 y)=true
def Rk.as (x y:D)(h:Rk x y):¬ Rk y x:=λg=>by
 have:=GN _ _ h
 unfold Rk at g
 rw[this] at g
 cases g
def Sz {a b:Str}{x y:D}(h:a.cps.toList<b.cps.toList):ltT (.tup [.str a,x]) (.tup [.str b,y])=true:=by
 simp only[ltT,Ds,FY,FI.mpr h,oTh]
 rfl
def VV {a:Str}{x y:D}(h:ltT x y=true):ltT (.tup [.str a,x]) (.tup [.str a,y])=true:=by
 have e:Ds x y=.lt:=by simpa[ltT] using h
 simp only[ltT,Ds,FY,Hk.mpr rfl,oTh,e]
 rfl
def Ej {t:Tb}{n:Nat}{A:List (List Str)}(hA:RL t n A){e:D}{r:List Str}:rk t A e=rwD r↔r∈A/\kyR t r=e:=by
 unfold rk
 rw[ES]
 constructor
 ·intro h
  cases f:A.find? λr=>decide (kyR t r=e) with
  |none=>rw[f] at h;cases h
  |some q =>
   rw[f] at h
   have:=D0.mp (show rwD q=rwD r from h)
   subst this
   have c:=List.find?_some f
   simp only[Aj] at c
   exact⟨BI f,c⟩
 ·rintro⟨h1,rfl⟩
  rw[hA.find h1]
  rfl
theorem Ft (t:Tb)(A:List (List Str))(e:D):rk t A e=.non\/∃r,rk t A e=rwD r:=by
 unfold rk
 rw[ES]
 cases A.find? λr=>decide (kyR t r=e) with
 |none=>exact .inl rfl
 |some r=>exact .inr ⟨r,rfl⟩
def J3 (r:List Str):rwD r≠.non:=λh=>by cases h
def Wf {t:Tb}{n m:Nat}{A B:List (List Str)}(hA:RL t n A)(hB:RL t m B){ps:List Pt}(hv:∀p∈ps,PtV t p)(ap:Apart ps)(iff:∀r,r∈B↔aft t A ps r) :
  (∀p∈ps,p.nm=t.nm->rk t B (rwD p.key)=p.af)/\∀k,(∀p∈ps,p.nm=t.nm->p.key≠k)->rk t B (rwD k)=rk t A (rwD k):=by
 have keyOf:∀q∈ps,q.nm=t.nm->∀r,q.af=rwD r->r.take t.ks=q.key:=λq hq hn r e=>by
  rcases (hv q hq).af hn with z|⟨r',z1,_,z3⟩
  ·rw[z] at e;cases e
  ·rw[<- D0.mp (z1.symm.trans e)];exact z3
 have one:∀p∈ps,∀q∈ps,p.nm=t.nm->q.nm=t.nm->p.key=q.key->p=q:=λp hp q hq h1 h2 e=>by
  have a:=IW ap hp h1
  have b:=IW ap hq h2
  rw[e,b] at a
  exact(AH a).symm
 constructor
 ·intro p hp hn
  rcases (hv p hp).af hn with z|⟨r,z1,z2,z3⟩
  ·rw[z]
   rcases Ft t B (rwD p.key) with c|⟨r,c⟩
   ·exact c
   ·obtain⟨c1,c2⟩:=(Ej hB).mp c
    have ck:r.take t.ks=p.key:=D0.mp c2
    rcases (iff r).mp c1 with⟨_,h2⟩|⟨q,q1,q2,q3⟩
    ·exact absurd ck.symm (h2 p hp hn)
    ·have:=one q q1 p hp q2 hn ((keyOf q q1 q2 r q3).symm.trans ck)
     subst this
     rw[z] at q3;cases q3
  ·rw[z1]
   refine(Ej hB).mpr ⟨(iff r).mpr (.inr ⟨p,hp,hn,z1⟩),?_⟩
   unfold kyR
   rw[z3]
 ·intro k hk
  rcases Ft t A (rwD k) with c|⟨r,c⟩
  ·rw[c]
   rcases Ft t B (rwD k) with d|⟨r,d⟩
   ·exact d
   ·obtain⟨d1,d2⟩:=(Ej hB).mp d
    have dk:r.take t.ks=k:=D0.mp d2
    rcases (iff r).mp d1 with⟨h1,_⟩|⟨q,q1,q2,q3⟩
    ·rw[(Ej hA).mpr ⟨h1,d2⟩] at c
     exact absurd c (J3 r)
    ·exact absurd ((keyOf q q1 q2 r q3).symm.trans dk) (hk q q1 q2)
  ·rw[c]
   obtain⟨c1,c2⟩:=(Ej hA).mp c
   have ck:r.take t.ks=k:=D0.mp c2
   exact(Ej hB).mpr ⟨(iff r).mpr (.inl ⟨c1,λp hp hn e=>hk p hp hn (e.trans ck)⟩),c2⟩
def RI {t:Tb}{n m:Nat}{A B:List (List Str)}(hA:RL t n A)(hB:RL t m B){e:D}:e∈uk t A B↔rk t A e≠.non\/rk t B e≠.non:=by
 have one:∀{n:Nat}{A:List (List Str)},RL t n A->((∃r∈A,kyR t r=e)↔rk t A e≠.non):=λ{n A} hA=>by
  constructor
  ·rintro⟨r,h1,h2⟩
   rw[(Ej hA).mpr ⟨h1,h2⟩]
   exact J3 r
  ·intro h
   rcases Ft t A e with c|⟨r,c⟩
   ·exact absurd c h
   ·exact⟨r,(Ej hA).mp c⟩
 rw[NG,one hA,one hB]
def JB {t:Tb}{n m:Nat}{A B:List (List Str)}(hA:RL t n A)(hB:RL t m B){d:D}:d∈dlt t A B↔∃k,d=.tup [.str t.nm,rwD k,rk t A (rwD k),rk t B (rwD k)]/\rk t A (rwD k)≠rk t B (rwD k):=by
 unfold dlt
 rw[Ah]
 constructor
 ·rintro⟨e,he,rfl⟩
  obtain⟨h1,h2⟩:=AI.mp he
  obtain⟨k,rfl⟩:=Me h1
  exact⟨k,rfl,by simpa using h2⟩
 ·rintro⟨k,rfl,h⟩
  refine⟨rwD k,AI.mpr ⟨(Df _).mem_iff.mpr ((RI hA hB).mpr ?_),by simpa using h⟩,rfl⟩
  by_cases c:rk t A (rwD k)=.non
  ·exact .inr λz=>h (c.trans z.symm)
  ·exact .inl c
def WU {t:Tb}(ht:ED t){n m:Nat}{A B:List (List Str)}(hA:RL t n A)(hB:RL t m B)(h64:n+m<64):(dlt t A B).Pairwise Rk:=by
 have p:=L9 (Hh (Ra ht hA hB h64)) (E1 (B.map (kyR t)) (A.map (kyR t)) hA.keys)
 unfold dlt
 rw[A5]
 exact(List.Pairwise.sublist List.filter_sublist p).imp λ{x y} h=>VV h
structure Lk (t:Tb) (A B:List (List Str)) (qs:List Pt):Prop where
 at':∀p∈qs,p.nm=t.nm->p.be=rk t A (rwD p.key)/\p.af=rk t B (rwD p.key)/\p.be≠p.af
 all:∀k,rk t A (rwD k)≠rk t B (rwD k)->∃p∈qs,p.nm=t.nm/\p.key=k
def bk (p:Pt):Pt:=⟨p.nm,p.key,p.af,p.be⟩
def Lk.back {t:Tb}{A B:List (List Str)}{qs:List Pt}(h:Lk t A B qs):Lk t B A (qs.map bk):=by
 refine⟨λp hp hn=>?_,λk hk=>?_⟩
 ·obtain⟨q,hq,rfl⟩:=Ah.mp hp
  obtain⟨a,b,c⟩:=h.at' q hq hn
  exact⟨b,a,λz=>c z.symm⟩
 ·obtain⟨p,h1,h2,h3⟩:=h.all k λz=>hk z.symm
  exact⟨bk p,Ah.mpr ⟨p,h1,rfl⟩,h2,h3⟩
def Lk.ptv {t:Tb}{m:Nat}{A B:List (List Str)}(hB:RL t m B){qs:List Pt}(h:Lk t A B qs):∀p∈qs,PtV t p:=λp hp=>⟨λhn=>by
 obtain⟨_,b,_⟩:=h.at' p hp hn
 rw[b]
 rcases Ft t B (rwD p.key) with c|⟨r,c⟩
 ·exact .inl c
 ·obtain⟨c1,c2⟩:=(Ej hB).mp c
  exact .inr ⟨r,c,hB.ok r c1,D0.mp c2⟩⟩
theorem Lk.aft {t:Tb}{n m:Nat}{A B:List (List Str)}(hA:RL t n A)(hB:RL t m B){qs:List Pt}(h:Lk t A B qs):∀r,r∈B↔aft t A qs r:=λr=>by
 constructor
 ·intro hr
  have kb:rk t B (kyR t r)=rwD r:=(Ej hB).mpr ⟨hr,rfl⟩
  by_cases c:rk t A (kyR t r)=rk t B (kyR t r)
  ·refine .inl ⟨((Ej hA).mp (c.trans kb)).1,λp hp hn hk=>?_⟩
   obtain⟨a,b,d⟩:=h.at' p hp hn
   rw[hk] at a b
   exact d (a.trans (c.trans b.symm))
  ·obtain⟨p,h1,h2,h3⟩:=h.all (r.take t.ks) c
   refine .inr ⟨p,h1,h2,?_⟩
   rw[(h.at' p h1 h2).2.1,h3]
   exact kb
 ·rintro(⟨h1,h2⟩|⟨p,h1,h2,h3⟩)
  ·have ka:rk t A (kyR t r)=rwD r:=(Ej hA).mpr ⟨h1,rfl⟩
   by_cases c:rk t A (kyR t r)=rk t B (kyR t r)
   ·exact((Ej hB).mp (c.symm.trans ka)).1
   ·obtain⟨p,q1,q2,q3⟩:=h.all (r.take t.ks) c
    exact absurd q3 (h2 p q1 q2)
  ·exact((Ej hB).mp ((h.at' p h1 h2).2.1.symm.trans h3)).1
def Xv {t:Tb}{n m:Nat}{A B:List (List Str)}(hA:RL t n A)(hB:RL t m B){ps:List Pt}(hv:∀p∈ps,PtV t p)(ap:Apart ps)(iff:∀r,r∈B↔PG.aft t A ps r)(hb:∀p∈ps,p.nm=t.nm->p.be=rk t A (rwD p.key)/\p.be≠p.af):Lk t A B ps:=by
 obtain⟨a1,a2⟩:=Wf hA hB hv ap iff
 refine⟨λp hp hn=>⟨(hb p hp hn).1,(a1 p hp hn).symm,(hb p hp hn).2⟩,λk hk=>?_⟩
 by_cases c:∃p∈ps,p.nm=t.nm/\p.key=k
 ·exact c
 ·exact absurd (a2 k λp hp hn he=>c ⟨p,hp,hn,he⟩).symm hk
def Gh {ps:List Pt}(h:(ps.map ptD).Pairwise Rk):Apart ps:=by
 rw[A5] at h
 refine h.imp λ{p q} r hn hk=>?_
 have e:tkD 2 (ptD p)=tkD 2 (ptD q):=by
  show D.tup [.str p.nm,.tup (p.key.map D.str)]=D.tup [.str q.nm,.tup (q.key.map D.str)]
  rw[hn,hk]
 unfold Rk at r
 rw[e] at r
 have:=GN _ _ r
 rw[r] at this
 cases this
def OU {ps:List Pt}(h:(ps.map ptD).Pairwise Rk):((ps.map bk).map ptD).Pairwise Rk:=by
 rw[AK,A5]
 rw[A5] at h
 exact h.imp λ{p q} r=>r
structure Fs (ts:List Tb) (n:Nat) (as:List (List (List Str))):Prop where
 len:as.length=ts.length
 ok:∀(j:Nat) t A,ts[j]?=some t->as[j]?=some A->RL t n A
structure Sc (ts:List Tb):Prop where
 ok:∀t∈ts,ED t
 up:(ts.map Tb.nm).Pairwise λx y=>x.cps.toList<y.cps.toList
 l4:ts.length<=4
def Sc.inj {ts:List Tb}(h:Sc ts){i j:Nat}{t u:Tb}(h1:ts[i]?=some t)(h2:ts[j]?=some u)(e:t.nm=u.nm):i=j:=by
 have nd:(ts.map Tb.nm).Nodup:=AG.mpr (h.up.imp λ{x y} l e=>by rw[e] at l;exact List.lt_irrefl _ l)
 have a1:(ts.map Tb.nm)[i]?=some t.nm:=by rw[Am,h1];rfl
 have a2:(ts.map Tb.nm)[j]?=some t.nm:=by rw[Am,h2,e];rfl
 exact(List.getElem?_inj (Ae.mp a1).1 nd).mp (a1.trans a2.symm)
def H8 {ts:List Tb}{n m:Nat}{as bs:List (List (List Str))}(ha:Fs ts n as)(hb:Fs ts m bs){d:D}:d∈Fv ts as bs↔∃(j:Nat) (t:Tb) (A B:List (List Str)) (k:List Str),ts[j]?=some t/\as[j]?=some A/\bs[j]?=some B/\d=.tup [.str t.nm,rwD k,rk t A (rwD k),rk t B (rwD k)]/\rk t A (rwD k)≠rk t B (rwD k):=by
 unfold Fv
 rw[List.mem_flatMap]
 constructor
 ·rintro⟨⟨t,A,B⟩,hq,hd⟩
  obtain⟨j,hj⟩:=Aw.mp hq
  obtain⟨x,y⟩:=AE.mp hj
  obtain⟨y,z⟩:=AE.mp y
  obtain⟨k,k1,k2⟩:=(JB (ha.ok j t A x y) (hb.ok j t B x z)).mp hd
  exact⟨j,t,A,B,k,x,y,z,k1,k2⟩
 ·rintro⟨j,t,A,B,k,x,y,z,k1,k2⟩
  refine⟨(t,A,B),Ag (i:=j) (AE.mpr ⟨x,AE.mpr ⟨y,z⟩⟩),(JB (ha.ok j t A x y) (hb.ok j t B x z)).mpr ⟨k,k1,k2⟩⟩
def Rg {ts:List Tb}(hS:Sc ts){n m:Nat}(h64:n+m<64){as bs:List (List (List Str))}(ha:Fs ts n as)(hb:Fs ts m bs):(Fv ts as bs).Pairwise Rk:=by
 have key:∀(us:List Tb) (as bs:List (List (List Str))),(∀t∈us,ED t)->(us.map Tb.nm).Pairwise (λx y=>x.cps.toList<y.cps.toList)->(∀(j:Nat) t A,us[j]?=some t->as[j]?=some A->RL t n A)->(∀(j:Nat) t A,us[j]?=some t->bs[j]?=some A->RL t m A)->((us.zip (as.zip bs)).flatMap λq=>dlt q.1 q.2.1 q.2.2).Pairwise Rk:=by
  intro us
  induction us with
  |nil=>intro _ _ _ _ _ _;exact .nil
  |cons t us ih =>
   intro as bs hok hup h1 h2
   cases as with
   |nil=>simp
   |cons A as =>
    cases bs with
    |nil=>simp
    |cons B bs =>
     rw[A3] at hup
     obtain⟨u1,u2⟩:=Be.mp hup
     have rA:=h1 0 t A rfl rfl
     have rB:=h2 0 t B rfl rfl
     have ih':=ih as bs (λt ht=>hok t (.tail _ ht)) u2 (λj t A x y=>h1 (j+1) t A (by simpa using x) (by simpa using y)) (λj t A x y=>h2 (j+1) t A (by simpa using x) (by simpa using y))
     rw[List.zip_cons_cons,List.zip_cons_cons,List.flatMap_cons]
     refine List.pairwise_append.mpr ⟨WU (hok t (.head _)) rA rB h64,ih',λx hx y hy=>?_⟩
     obtain⟨k,rfl,_⟩:=(JB rA rB).mp hx
     obtain⟨⟨t',A',B'⟩,hq,hd⟩:=List.mem_flatMap.mp hy
     obtain⟨j,hj⟩:=Aw.mp hq
     obtain⟨x',y'⟩:=AE.mp hj
     obtain⟨y',z'⟩:=AE.mp y'
     obtain⟨k',rfl,_⟩:=(JB (h1 (j+1) t' A' (by simpa using x') (by simpa using y')) (h2 (j+1) t' B' (by simpa using x') (by simpa using z'))).mp hd
     exact Sz (u1 _ (Ah.mpr ⟨t',Ag x',rfl⟩))
 exact key ts as bs hS.ok hS.up ha.ok hb.ok
def N8 {ts:List Tb}(hS:Sc ts){n m:Nat}(h64:n+m<64){as bs:List (List (List Str))}(ha:Fs ts n as)(hb:Fs ts m bs){qs:List Pt}(up:(qs.map ptD).Pairwise Rk)(ex:∀p∈qs,∃t∈ts,t.nm=p.nm)
  (lk:∀(j:Nat) t A B,ts[j]?=some t->as[j]?=some A->bs[j]?=some B->Lk t A B qs):Fv ts as bs=qs.map ptD:=by
 refine Kv Rk.as (Rg hS h64 ha hb) up λd=>?_
 rw[H8 ha hb,Ah]
 constructor
 ·rintro⟨j,t,A,B,k,x,y,z,rfl,h⟩
  have L:=lk j t A B x y z
  obtain⟨p,p1,p2,p3⟩:=L.all k h
  obtain⟨a,b,_⟩:=L.at' p p1 p2
  refine⟨p,p1,?_⟩
  show D.tup [.str p.nm,rwD p.key,p.be,p.af]=_
  rw[p2,a,b,p3]
 ·rintro⟨p,hp,rfl⟩
  obtain⟨t,ht,hn⟩:=ex p hp
  obtain⟨j,hj⟩:=Aw.mp ht
  have jl:=(Ae.mp hj).1
  have e1:as[j]?=some (as[j]'(by rw[ha.len];exact jl)):=Al _
  have e2:bs[j]?=some (bs[j]'(by rw[hb.len];exact jl)):=Al _
  obtain⟨a,b,c⟩:=(lk j t _ _ hj e1 e2).at' p hp hn.symm
  refine⟨j,t,_,_,p.key,hj,e1,e2,?_,a▸b▸c⟩
  show D.tup [.str p.nm,rwD p.key,p.be,p.af]=_
  rw[hn,<- a,<- b]
def Uz {ts:List Tb}(hS:Sc ts){n m:Nat}(h64:n+m<64){as bs:List (List (List Str))}(ha:Fs ts n as)(hb:Fs ts m bs):∃qs:List Pt,Fv ts as bs=qs.map ptD/\(qs.map ptD).Pairwise Rk/\(∀(j:Nat) t A B,ts[j]?=some t->as[j]?=some A->bs[j]?=some B->Lk t A B qs):=by
 have up:=Rg hS h64 ha hb
 have all:∀d∈Fv ts as bs,∃p,d=ptD p:=λd hd=>by
  obtain⟨j,t,A,B,k,_,_,_,rfl,_⟩:=(H8 ha hb).mp hd
  exact⟨⟨t.nm,k,rk t A (rwD k),rk t B (rwD k)⟩,rfl⟩
 obtain⟨qs,hq⟩:∃qs:List Pt,Fv ts as bs=qs.map ptD:=by
  generalize Fv ts as bs=L at all
  induction L with
  |nil=>exact⟨[],rfl⟩
  |cons d L ih =>
   obtain⟨p,rfl⟩:=all d (.head _)
   obtain⟨qs,e⟩:=ih λd hd=>all d (.tail _ hd)
   exact⟨p::qs,by rw[e];rfl⟩
 have pt_inj:∀{p q:Pt},ptD p=ptD q->p=q:=λ{p q} h=>by
  have h':D.tup [.str p.nm,rwD p.key,p.be,p.af]=D.tup [.str q.nm,rwD q.key,q.be,q.af]:=h
  injection h' with h'
  injection h' with e1 h'
  injection h' with e2 h'
  injection h' with e3 h'
  injection h' with e4 h'
  injection e1 with e1
  have e5:=D0.mp e2
  clear e2 h'
  cases p;cases q
  simp only at e1 e5 e3 e4
  subst e1 e5 e3 e4
  rfl
 refine⟨qs,hq,hq▸up,λj t A B x y z=>⟨λp hp hn=>?_,λk hk=>?_⟩⟩
 ·have m:ptD p∈Fv ts as bs:=by rw[hq];exact Ah.mpr ⟨p,hp,rfl⟩
  obtain⟨j',t',A',B',k,x',y',z',e,h⟩:=(H8 ha hb).mp m
  have ep:p=⟨t'.nm,k,rk t' A' (rwD k),rk t' B' (rwD k)⟩:=pt_inj e
  have en:t'.nm=t.nm:=by rw[ep] at hn;exact hn
  have ij:=hS.inj x' x en
  subst ij
  rw[x] at x'
  rw[y] at y'
  rw[z] at z'
  cases x';cases y';cases z'
  rw[ep]
  exact⟨rfl,rfl,h⟩
 ·have m:D.tup [.str t.nm,rwD k,rk t A (rwD k),rk t B (rwD k)]∈Fv ts as bs:=(H8 ha hb).mpr ⟨j,t,A,B,k,x,y,z,rfl,hk⟩
  rw[hq] at m
  obtain⟨p,hp,e⟩:=Ah.mp m
  have ep:p=⟨t.nm,k,rk t A (rwD k),rk t B (rwD k)⟩:=pt_inj e
  exact⟨p,hp,by rw[ep],by rw[ep]⟩
def RM {ps:List Pt}:EV [.tup (ps.map ptD)] mu=some (.tup ((ps.map bk).map ptD),mu):=by
 have lc:=Kh (m0:=mu) (tg:=(gTp 4 (CM (gNm 0) (CM (gNm 1) (CM (gNm 2) (CM (gNm 3) DJ)))))) (el:=(Ep (CC (CD 0) (CC (CD 1) (CC (CD 3) (CC (CD 2) CH)))))) (ro:=[none,none,none,none]) (mu:=mu) (λd=>match d with|.tup [a,b,c,e]=>.tup [a,b,e,c]|_=>.non) (ps.map ptD) (λd hd=>by
  obtain⟨p,_,rfl⟩:=Ah.mp hd
  exact⟨_,rfl,rfl⟩)
 have e:(ps.map ptD).map (λd=>match d with|.tup [a,b,c,e]=>.tup [a,b,e,c]|_=>D.non)=(ps.map bk).map ptD:=by
  rw[AK,AK]
  rfl
 rw[e] at lc
 simp![EV,Iw,lc]
def Ux {t:Tb}{A:List (List Str)}{k:List Str}:IP t.ks A k=rk t A (rwD k):=by
 unfold IP rk
 rw[ES]
 have e:(λr:List Str=>decide (r.take t.ks=k))=λr=>decide (kyR t r=rwD k):=by
  funext r
  exact decide_eq_decide.mpr (D0 (a:=r.take t.ks) (b:=k)).symm
 rw[e]
 cases A.find? λr=>decide (kyR t r=rwD k)<;>rfl
def R5 {ts:List Tb}{gs:List (List (List Str))}(hS:SOk ts)(hl:gs.length=ts.length){ps:List Pt}(h:chB ts gs (.tup (ps.map ptD))=true):(ps.map ptD).Pairwise Rk/\(∀p∈ps,∃t∈ts,t.nm=p.nm)/\∀(j:Nat) t A,ts[j]?=some t->gs[j]?=some A->(∀p∈ps,PtV t p)/\∀p∈ps,p.nm=t.nm->p.be=rk t A (rwD p.key)/\p.be≠p.af:=by
 unfold chB at h
 dsimp only at h
 rw[Ac,AB] at h
 have ab:∀p∈ps,∃t∈ts,t.nm=p.nm/\(p.af=.non\/∃r,p.af=rwD r/\RwOk t r/\r.take t.ks=p.key)/\p.be=IP t.ks (Nu ts gs t.nm) p.key/\p.be≠p.af:=λp hp=>by
  have hb:=h.1 (ptD p) (Ah.mpr ⟨p,hp,rfl⟩)
  have hb':pB ts gs (.tup [.str p.nm,rwD p.key,p.be,p.af])=true:=hb
  unfold pB at hb'
  dsimp only at hb'
  cases q:Sd ts (.str p.nm) with
  |none=>rw[q] at hb';cases hb'
  |some t =>
   rw[q] at hb'
   dsimp only at hb'
   obtain⟨e1,e2,_⟩:=QB q
   injection e1 with e1
   rw[Lx] at hb'
   simp only[Ac,Aj,Bool.not_eq_true',decide_eq_false_iff_not] at hb'
   obtain⟨_,_,h3,h4,h5⟩:=hb'
   obtain⟨i1,i2⟩:=Ua h3
   refine⟨t,e2,e1.symm,?_,h4,λz=>h5 z.symm⟩
   rcases i2 with z|⟨r,z1,z2⟩
   ·exact .inl z
   ·rcases i1 with y|⟨r',y1,y2⟩
    ·exact .inl y
    ·rw[z1] at y1
     have:=D0.mp y1
     subst this
     exact .inr ⟨r,z1,y2,z2⟩
 refine⟨?_,λp hp=>?_,λj t A hj hA=>?_⟩
 ·have:=(LG _).mp h.2
  rw[A5] at this
  exact this
 ·obtain⟨t,h1,h2,_⟩:=ab p hp
  exact⟨t,h1,h2⟩
 ·have nmi:∀u∈ts,u.nm=t.nm->u=t:=λu hu e=>Qp hS (Ag hj) hu e
  refine⟨λp hp=>⟨λhn=>?_⟩,λp hp hn=>?_⟩
  ·obtain⟨u,h1,h2,h3,_⟩:=ab p hp
   have:=nmi u h1 (h2.trans hn)
   subst this
   exact h3
  ·obtain⟨u,h1,h2,_,h4,h5⟩:=ab p hp
   have:=nmi u h1 (h2.trans hn)
   subst this
   rw[LX hS.nd hj hA,Ux] at h4
   exact⟨h4,h5⟩
def K7:Sx:=(CY (Dh (CI EF (CC (CD 2) (CC (CD 3) (CC (CD 5) (CC (eC (.int 8)) CH))))) (gNm 8)) (CY (Dh (CI Fd (CC (CD 3) (CC (CD 5) (CC (CD 8) CH)))) (gNm 9)) (CY (sIf (tV (CJ neD (CI Ec (CC (CI DS (CC (CD 3) (CC (CD 5) (CC (CD 8) CH)))) CH)) (CI Ec (CC (CD 9) CH)))) (sRt (eC (.bl false))) (sNx)) (CY (sIf (tV (CJ neD (CI Ec (CC (CI D1 (CC (CD 3) (CC (CD 5) (CC (CD 9) CH)))) CH)) (CI Ec (CC (CD 8) CH)))) (sRt (eC (.bl false))) (sNx)) (CY (sIf (tV (CJ neD (CI Ec (CC (CI DS (CC (CD 3) (CC (CD 9) (CC (CI EV (CC (CD 8) CH)) CH)))) CH)) (CI Ec (CC (CD 5) CH)))) (sRt (eC (.bl false))) (sNx)) (sIf (tV (CJ neD (CI Ec (CC (CI EV (CC (CD 8) CH)) CH)) (CI Ec (CC (CI DQ (CC (CD 3) (CC (CD 9) (CC (CD 5) CH)))) CH)))) (sRt (eC (.bl false))) (sNx)))))))
def Oo:Sx:=(CY (Dh (CI EM (CC (CD 0) (CC (CD 1) CH))) (gNm 2)) (CY (Dh (CI Ei (CC (CD 2) (CC (eC (.int 4)) (CC (eC (.int 4)) (CC (eC (.int 4)) CH))))) (gNm 3)) (CY (Dh (CJ ixG (Jo (CC (eC (.int 6)) (CC (eC (.int 16)) CH))) (CI J9 (CC (CJ eqD (CI CN (CC (CD 2) (CC (eC (.int 8)) CH))) (eC (.int 0))) CH))) (gNm 4)) (CY (PQ 5 6 (CC (CI DR (CC (CD 2) (CC (CD 3) (CC (CD 4) CH)))) (CC (CI DR (CC (CD 2) (CC (CD 3) (CC (CD 4) CH)))) CH))) (CY (Gw (iRg (CC (eC (.int 4)) CH)) (gNm 7) K7) (CY (sIf (tV (CJ neD (CI Ec (CC (CI D1 (CC (CD 3) (CC (CD 5) (CC (CD 6) CH)))) CH)) (CI Ec (CC (CI DQ (CC (CD 3) (CC (CD 5) (CC (CD 6) CH)))) CH)))) (sRt (eC (.bl false))) (sNx)) (CY (sIf (tV (CJ neD (CI DS (CC (CD 3) (CC (CD 5) (CC (CI D1 (CC (CD 3) (CC (CD 5) (CC (CD 6) CH)))) CH)))) (CD 6))) (sRt (eC (.bl false))) (sNx)) (sIf (tV (CJ neD (CI D1 (CC (CD 3) (CC (CD 6) (CC (CD 6) CH)))) (Ep CH))) (sRt (eC (.bl false))) (sNx)))))))))
def UU {ts:List Tb}(h:LM (.tup (ts.map tbD))=true):∀t∈ts,∀p∈t.cs,∀x∈p.2,IsW x:=by
 intro t ht p hp x hx
 have h':((Fz 1 4 (.tup (ts.map tbD))&&(ts.map tbD).all H0)&&IY ((ts.map tbD).map HS))=true:=h
 rw[Ac,Ac,AB] at h'
 have:=h'.1.2 (tbD t) (Ah.mpr ⟨t,ht,rfl⟩)
 unfold H0 tbD at this
 dsimp only at this
 rw[Ac,Ac] at this
 have h2:((Fz 1 4 (.tup (t.cs.map clD))&&(t.cs.map clD).all Ko)&&ndB ((t.cs.map clD).map HS))=true:=this.1.2
 rw[Ac,Ac,AB] at h2
 have h3:=h2.1.2 (clD p) (Ah.mpr ⟨p,hp,rfl⟩)
 unfold Ko clD at h3
 dsimp only at h3
 rw[Ac] at h3
 have h4:=h3.2
 unfold GX at h4
 rw[Ac,Ac] at h4
 have h5:(p.2.map D.str).all HA=true:=h4.2.1
 rw[AB] at h5
 exact Iz.mp (h5 (.str x) (Ah.mpr ⟨x,hx,rfl⟩))
abbrev Wd (ts:List Tb):Prop:=∀t∈ts,∀p∈t.cs,∀x∈p.2,IsW x
def Q7 {ts:List Tb}(hv:Wd ts){t:Tb}(ht:t∈ts){r:List Str}(ok:RwOk t r):∀x∈r,IsW x:=λx hx=>by
 obtain⟨i,hi⟩:=Aw.mp hx
 have il:i<t.cs.length:=by rw[<- ok.len];exact(Ae.mp hi).1
 exact hv t ht _ (Cb il) x (ok.at' i x _ hi (Al il))
def Kz {r:List Str}(h:∀x∈r,IsW x):rok (rwD r):=by
 unfold rwD rok
 rw[Ip]
 intro d hd
 obtain⟨x,hx,rfl⟩:=Ah.mp hd
 exact h x hx
def JM {r:List Str}(h:r.length<=4):rsz (rwD r)<=60:=by
 have:=Io (n:=10) (ds:=r.map D.str) λd hd=>by
  obtain⟨x,hx,rfl⟩:=Ah.mp hd
  exact Ai _
 rw[Af] at this
 unfold rwD rsz
 ext
def RZ {n:Nat}{d:D}(h:Hn n d)(l:n<=60):(toPy d).depth<=60:=by rw[IG h.1];exact AU h.2 l
def Lf {ts:List Tb}(hS:Sc ts)(hv:Wd ts){n:Nat}(hn:n<=64){gs:List (List (List Str))}(hG:Fs ts n gs):∃s,∀m,Ec [.tup (gs.map flD)] m=some (.str s,m):=by
 have at':∀A∈gs,∃t∈ts,RL t n A:=λA hA=>by
  obtain⟨j,hj⟩:=Aw.mp hA
  have jl:j<ts.length:=by rw[<- hG.len];exact(Ae.mp hj).1
  exact⟨ts[j],Cb jl,hG.ok j _ A (Al jl) hj⟩
 refine⟨_,λm=>Oy ?_ (RZ (n:=4) (Hn.tup λd hd=>?_) (by decide)) ?_⟩
 ·unfold rok
  rw[Ip]
  intro d hd
  obtain⟨A,hA,rfl⟩:=Ah.mp hd
  obtain⟨t,ht,rl⟩:=at' A hA
  unfold flD rok
  rw[Ip]
  intro d hd
  obtain⟨r,hr,rfl⟩:=Ah.mp hd
  exact Kz (Q7 hv ht (rl.ok r hr))
 ·obtain⟨A,_,rfl⟩:=Ah.mp hd
  exact Hn.fl A
 ·have a1:=Io (n:=5000) (ds:=gs.map flD) λd hd=>by
   obtain⟨A,hA,rfl⟩:=Ah.mp hd
   obtain⟨t,ht,rl⟩:=at' A hA
   have a2:=Io (n:=60) (ds:=A.map rwD) λd hd=>by
    obtain⟨r,hr,rfl⟩:=Ah.mp hd
    exact JM (by rw[(rl.ok r hr).len];exact(hS.ok t ht).c4)
   rw[Af] at a2
   have:=rl.len
   unfold flD rsz
   ext
  rw[Af,hG.len] at a1
  have:=hS.l4
  unfold rsz
  ext
def YD {ts:List Tb}(hv:Wd ts){t:Tb}(ht:t∈ts)(hT:ED t){n:Nat}{A:List (List Str)}(hA:RL t n A)(e:D):rok (rk t A e)/\rsz (rk t A e)<=60:=by
 rcases Ft t A e with c|⟨r,c⟩
 ·rw[c];exact⟨by unfold rok;trivial,by unfold rsz;ext⟩
 ·rw[c]
  have ok:=hA.ok r ((Ej hA).mp c).1
  exact⟨Kz (Q7 hv ht ok),JM (by rw[ok.len];exact hT.c4)⟩
def Ks {ts:List Tb}(hS:Sc ts)(hv:Wd ts)(hw:∀t∈ts,IsW t.nm){n m:Nat}{as bs:List (List (List Str))}(ha:Fs ts n as)(hb:Fs ts m bs){qs:List Pt}(ex:∀p∈qs,∃t∈ts,t.nm=p.nm)(ql:qs.length<=1000)
  (lk:∀(j:Nat) t A B,ts[j]?=some t->as[j]?=some A->bs[j]?=some B->Lk t A B qs):∃s,∀m,Ec [.tup (qs.map ptD)] m=some (.str s,m):=by
 have one:∀p∈qs,rok (ptD p)/\rsz (ptD p)<=300/\Hn 3 (ptD p):=λp hp=>by
  obtain⟨t,ht,hn⟩:=ex p hp
  obtain⟨j,hj⟩:=Aw.mp ht
  have jl:=(Ae.mp hj).1
  have e1:as[j]?=some (as[j]'(by rw[ha.len];exact jl)):=Al _
  have e2:bs[j]?=some (bs[j]'(by rw[hb.len];exact jl)):=Al _
  have rA:=ha.ok j t _ hj e1
  have rB:=hb.ok j t _ hj e2
  obtain⟨b1,b2,b3⟩:=(lk j t _ _ hj e1 e2).at' p hp hn.symm
  have wA:=YD hv ht (hS.ok t ht) rA (rwD p.key)
  have wB:=YD hv ht (hS.ok t ht) rB (rwD p.key)
  have hk:(∀x∈p.key,IsW x)/\p.key.length<=4:=by
   have ofr:∀r,RwOk t r->kyR t r=rwD p.key->(∀x∈p.key,IsW x)/\p.key.length<=4:=λr ok e=>by
    have e':r.take t.ks=p.key:=D0.mp e
    rw[<- e']
    refine⟨λx hx=>Q7 hv ht ok x (List.mem_of_mem_take hx),?_⟩
    rw[AA]
    have:=ok.len
    have:=(hS.ok t ht).c4
    ext
   rcases Ft t _ (rwD p.key) with c|⟨r,c⟩
   ·rcases Ft t _ (rwD p.key) with d|⟨r,d⟩
    ·exact absurd ((b1.trans c).trans (b2.trans d).symm) b3
    ·exact ofr r (rB.ok r ((Ej rB).mp d).1) ((Ej rB).mp d).2
   ·exact ofr r (rA.ok r ((Ej rA).mp c).1) ((Ej rA).mp c).2
  have ep:ptD p=.tup [.str p.nm,rwD p.key,p.be,p.af]:=rfl
  rw[<- b1] at wA
  rw[<- b2] at wB
  have sk:=JM hk.2
  have h2a:Hn 2 p.be:=by rw[b1];exact Li
  have h2b:Hn 2 p.af:=by rw[b2];exact Li
  rw[ep]
  refine⟨?_,?_,Hn.tup λd hd=>?_⟩
  ·unfold rok Iy Iy Iy Iy Iy
   exact⟨by unfold rok;exact hn▸hw t ht,Kz hk.1,wA.1,wB.1,trivial⟩
  ·have w1:=wA.2
   have w2:=wB.2
   simp only[rsz,MZ]
   simp only[rwD,rsz] at sk ⊢
   ext
  ·simp only[Ap,AR,BM] at hd
   rcases hd with rfl|rfl|rfl|rfl
   ·exact(Hn.str _).up (by decide)
   ·exact Hn.row _
   ·exact h2a
   ·exact h2b
 refine⟨_,λm=>Oy ?_ (RZ (n:=4) (Hn.tup λd hd=>?_) (by decide)) ?_⟩
 ·unfold rok
  rw[Ip]
  intro d hd
  obtain⟨p,hp,rfl⟩:=Ah.mp hd
  exact(one p hp).1
 ·obtain⟨p,hp,rfl⟩:=Ah.mp hd
  exact(one p hp).2.2
 ·have a1:=Io (n:=300) (ds:=qs.map ptD) λd hd=>by
   obtain⟨p,hp,rfl⟩:=Ah.mp hd
   exact(one p hp).2.1
  rw[Af] at a1
  unfold rsz
  ext
def RL.mono {t:Tb}{n m:Nat}{rs:List (List Str)}(h:RL t n rs)(l:n<=m):RL t m rs:=⟨AU h.len l,h.ok,h.nd,h.up⟩
def QX {ts:List Tb}{gs:List (List (List Str))}(h:IT ts gs):Fs ts 16 gs:=⟨h.len,λj t A x y=>(h.ok j A t y x).rl⟩
def UT {ts:List Tb}(hS:SOk ts)(h:LM (.tup (ts.map tbD))=true):Sc ts:=by
 refine⟨hS.ok,?_,hS.l4⟩
 have h':((Fz 1 4 (.tup (ts.map tbD))&&(ts.map tbD).all H0)&&IY ((ts.map tbD).map HS))=true:=h
 rw[Ac] at h'
 have e:(ts.map tbD).map HS=(ts.map Tb.nm).map D.str:=by
  rw[AK,AK]
  rfl
 rw[e] at h'
 exact(LU _).mp h'.2
def M5 {s:Str}:neD (.str s) (.str s) mu=some (.bl false,mu):=by
 have:=JW (mu:=mu) (d:=.str s) (e:=.str s) ((Hn.str s).K (by decide)) ((Hn.str s).K (by decide))
 rw[A0 rfl] at this
 exact this
def Mb (t:Tb)(ps:List Pt):(ofT t ps).length<=ps.length:=Bj _ _
def Vr {t:Tb}{n m:Nat}{A B:List (List Str)}(hA:RL t n A)(hB:RL t m B){qs:List Pt}(h:Lk t A B qs)(ap:Apart qs):(ofT t qs).length<=n+m:=by
 have a1:=Lv (Km (t:=t) ap) (b:=uk t A B) λx hx=>by
  obtain⟨p,hp,rfl⟩:=Ah.mp hx
  obtain⟨h1,h2⟩:=AI.mp hp
  obtain⟨b1,b2,b3⟩:=h.at' p h1 (by simpa using h2)
  refine(RI hA hB).mpr ?_
  by_cases c:rk t A (rwD p.key)=.non
  ·exact .inr λz=>b3 (b1.trans (c.trans (b2.trans z).symm))
  ·exact .inl c
 rw[Af] at a1
 have a2:=JZ (t:=t) (A:=A) (B:=B)
 have a3:=hA.len
 have a4:=hB.len
 ext
def Sn {ts:List Tb}(hS:Sc ts)(hfl:Flat mu){n m:Nat}(h64:n+(n+m)<64){as bs:List (List (List Str))}(ha:Fs ts n as)(hb:Fs ts m bs){qs:List Pt}(up:(qs.map ptD).Pairwise Rk)(ql:qs.length<=1000)
  (lk:∀(j:Nat) t A B,ts[j]?=some t->as[j]?=some A->bs[j]?=some B->Lk t A B qs):DS [.tup (ts.map tbD),.tup (as.map flD),.tup (qs.map ptD)] mu=some (.tup (bs.map flD),mu):=by
 have l4:=hS.l4
 refine Hf hfl (by ext) ha.len hb.len (Gh up) ql λj t A B x y z=>?_
 have rA:=ha.ok j t A x y
 have rB:=hb.ok j t B x z
 have L:=lk j t A B x y z
 have ct:=Vr rA rB L (Gh up)
 exact⟨hS.ok t (Ag x),⟨n,by unfold ofT at ct;ext,rA⟩,⟨m,rB⟩,L.ptv rB,L.aft rA rB⟩
def QF {ts:List Tb}{gs:List (List (List Str))}(hS:SOk ts)(hsb:LM (.tup (ts.map tbD))=true)(hG:IT ts gs){k n:Nat}{x0 x1 x4 x6 x7 x8 x9:Option D}(hf:Flat mu)(h:HandOk mu k (n+100)) :
  ∃y8 y9 m',K7 [x0,x1,some (.ref k),some (.tup (ts.map tbD)),x4,some (.tup (gs.map flD)),x6,x7,x8,x9] mu=some ((.nx,[x0,x1,some (.ref k),some (.tup (ts.map tbD)),x4,some (.tup (gs.map flD)),x6,x7,y8,y9]),m')/\Fr k n mu m':=by
 have hC:=UT hS hsb
 have hv:Wd ts:=UU hsb
 have hw:=(QI hS hsb).w
 have fG:=QX hG
 have l4:=hC.l4
 obtain⟨_,m2,e2,f2,ps,rfl,pl,_,cb⟩:=Mi (QI hS hsb) hG hf h
 have fl2:=f2.flat hf
 obtain⟨up,ex,fa⟩:=R5 hS hG.len cb
 have ap:=Gh up
 obtain⟨hs,hl,e3,hh⟩:=Sj (mu:=m2) fl2 (by ext) fG.len ap (by ext) (n:=16) λj t A x y=>⟨hC.ok t (Ag x),fG.ok j t A x y,(fa j t A x y).1,by have:=Mb t ps;ext⟩
 have fH:Fs ts 24 hs:=⟨hl,λj t B x z=>by
  have jl:=(Ae.mp x).1
  have e1:gs[j]?=some (gs[j]'(by rw[hG.len];exact jl)):=Al _
  exact(hh j t _ B x e1 z).1.mono (by have:=Mb t ps;ext)⟩
 have lk:∀(j:Nat) t A B,ts[j]?=some t->gs[j]?=some A->hs[j]?=some B->Lk t A B ps:=λj t A B x y z=>Xv (fG.ok j t A x y) (fH.ok j t B x z) (fa j t A x y).1 ap (hh j t A B x y z).2 (fa j t A x y).2
 have lkb:∀(j:Nat) t A B,ts[j]?=some t->hs[j]?=some A->gs[j]?=some B->Lk t A B (ps.map bk):=λj t A B x y z=>(lk j t B A x z y).back
 have exb:∀p∈ps.map bk,∃t∈ts,t.nm=p.nm:=λp hp=>by
  obtain⟨q,hq,rfl⟩:=Ah.mp hp
  exact ex q hq
 have c1:DS [.tup (ts.map tbD),.tup (gs.map flD),.tup (ps.map ptD)] m2=some (.tup (hs.map flD),m2):=Hf fl2 (by ext) fG.len hl ap (by ext) λj t A B x y z=>⟨hC.ok t (Ag x),⟨16,by have:=Mb t ps;unfold ofT at this;ext,fG.ok j t A x y⟩,⟨24,fH.ok j t B x z⟩,(fa j t A x y).1,(hh j t A B x y z).2⟩
 have c2:=Hc (mu:=m2) fl2 (by ext) fG.len hl λj t A B x y z=>⟨hC.ok t (Ag x),16,24,by decide,fG.ok j t A x y,fH.ok j t B x z⟩
 rw[N8 hC (by decide) fG fH up ex lk] at c2
 have c3:DS [.tup (ts.map tbD),.tup (hs.map flD),.tup ((ps.map bk).map ptD)] m2=some (.tup (gs.map flD),m2):=Hf fl2 (by ext) hl fG.len (Gh (OU up)) (by rw[Af];ext) λj t A B x y z=>by
  have L:=lkb j t A B x y z
  have rA:=fH.ok j t A x y
  have rB:=fG.ok j t B x z
  have ct:=Mb t (ps.map bk)
  rw[Af] at ct
  exact⟨hC.ok t (Ag x),⟨24,by unfold ofT at ct;ext,rA⟩,⟨16,rB⟩,L.ptv rB,L.aft rA rB⟩
 have c4:=GU (mu:=m2) fl2 (by ext) hl fG.len λj t A B x y z=>⟨hC.ok t (Ag x),24,16,by decide,fH.ok j t A x y,fG.ok j t B x z⟩
 rw[N8 hC (by decide) fH fG (OU up) exb lkb] at c4
 have bo:=RM (mu:=m2) (ps:=ps)
 obtain⟨s1,r1⟩:=Lf hC hv (by decide) fH
 obtain⟨s2,r2⟩:=Lf hC hv (by decide) fG
 obtain⟨s3,r3⟩:=Ks hC hv hw fG fH ex (by ext) lk
 obtain⟨s4,r4⟩:=Ks hC hv hw fH fG exb (by rw[Af];ext) lkb
 have n1:=M5 (mu:=m2) (s:=s1)
 have n2:=M5 (mu:=m2) (s:=s2)
 have n3:=M5 (mu:=m2) (s:=s3)
 have n4:=M5 (mu:=m2) (s:=s4)
 refine⟨some (.tup (ps.map ptD)),some (.tup (hs.map flD)),m2,?_,f2⟩
 unfold K7
 simp![e2,e3,c1,c2,bo,c3,c4,r1,r2,r3,r4,n1,n2,n3,n4]
def PX {ts:List Tb}{gs:List (List (List Str))}(hS:SOk ts)(hsb:LM (.tup (ts.map tbD))=true)(hG:IT ts gs){k n:Nat}{x0 x1 x4 x6 x7 x8 x9:Option D}(hf:Flat mu)(h:HandOk mu k (n+400)){m0:Sto} :
  ∃y7 y8 y9 m',FQ none m0 (gNm 7) K7 (E4 0 4) [x0,x1,some (.ref k),some (.tup (ts.map tbD)),x4,some (.tup (gs.map flD)),x6,x7,x8,x9] mu=some ((.nx,[x0,x1,some (.ref k),some (.tup (ts.map tbD)),x4,some (.tup (gs.map flD)),x6,y7,y8,y9]),m')/\Fr k n mu m':=by
 obtain⟨ro',mu',e,⟨y7,y8,y9,rfl⟩,fr⟩:=Er (m0:=m0) (tg:=gNm 7) (body:=K7) (λi ro m=>(∃y7 y8 y9,ro=[x0,x1,some (.ref k),some (.tup (ts.map tbD)),x4,some (.tup (gs.map flD)),x6,y7,y8,y9])/\Fr k (n+400-100*i) mu m) (E4 0 4) 0 _ mu ⟨⟨x7,x8,x9,rfl⟩,Fr.refl (h.mono (by ext))⟩ λj d ro m ed ⟨⟨y7,y8,y9,er⟩,fr⟩=>by
   subst er
   obtain⟨rfl,hj⟩:=Kd ed
   obtain⟨z8,z9,m1,e1,f1⟩:=QF (mu:=m) hS hsb hG (n:=n+400-100*(0+j+1)) (x0:=x0) (x1:=x1) (x4:=x4) (x6:=x6) (x7:=some (.int j)) (x8:=y8) (x9:=y9) (fr.flat hf) (fr.hand.mono (by ext))
   exact⟨_,m,_,m1,rfl,e1,⟨_,_,_,rfl⟩,fr.trans f1⟩
 exact⟨y7,y8,y9,mu',e,fr.mono (by rw[Jt];ext)⟩
def Wr {i:Nat}{ns:List Int}{x2 x3 x4 x5 x6 x7 x8 x9:Option D}(hi:i<64)(hfl:Flat mu) :
  ∃y2 y3 y4 y5 y6 y7 y8 y9 m',Oo [some (.lst (ns.map D.int)),some (.int i),x2,x3,x4,x5,x6,x7,x8,x9] mu=some ((.nx,[some (.lst (ns.map D.int)),some (.int i),y2,y3,y4,y5,y6,y7,y8,y9]),m')/\Flat m':=by
 obtain⟨o,e1,h1⟩:=Qq (mu:=mu) (k:=i) (n:=2000) (ns:=ns) hi (by decide)
 have fl1:Flat (mu++[o]):=by
  intro j q hq
  by_cases c:j=mu.length
  ·subst c
   obtain⟨_,_,_,h,_⟩:=h1
   rw[h] at hq
   cases hq
   rfl
  ·have:j<(mu++[o]).length:=(Ae.mp hq).1
   simp at this
   rw[As (by ext)] at hq
   exact hfl j q hq
 obtain⟨_,m2,e2,f2,ds,rfl,sb,ok⟩:=NF (n:=1900) (a:=4) (b:=4) (c:=4) (by decide) (by decide) (by decide) (by decide) (by decide) (by decide) fl1 (h1.mono (by decide))
 obtain⟨ts,et,hS⟩:=T9 sb
 have ed:ds=ts.map tbD:=by injection et
 subst ed
 have e2':Ei [.ref mu.length,.int 4,.int 4,.int 4] (mu++[o])=some (.tup (ts.map tbD),m2):=e2
 have fl2:=f2.flat fl1
 obtain⟨_,mt,et,ft,t1,rfl,a0,a1⟩:=DO (m:=8) (n:=1899) f2.hand (by decide) (by decide)
 have flt:=ft.flat fl2
 obtain⟨w,hw,ew⟩:∃w:Nat,w<=16/\CJ ixG (Jo (CC (eC (.int 6)) (CC (eC (.int 16)) CH))) (CI J9 (CC (CJ eqD (CI CN (CC (CD 2) (CC (eC (.int 8)) CH))) (eC (.int 0))) CH)) [some (.lst (ns.map D.int)),some (.int i),some (.ref mu.length),some (.tup (ts.map tbD)),x4,x5,x6,x7,x8,x9] m2=some (.int w,mt):=by
  by_cases c:t1=0
  ·refine⟨16,Ai _,?_⟩
   have iF:J9 [.bl true] mt=some (.int 1,mt):=rfl
   have ix:ixG (.lst [.int 6,.int 16]) (.int 1) mt=some (.int (16:Nat),mt):=rfl
   simp![et,c,iF,ix]
  ·refine⟨6,by decide,?_⟩
   have iF:J9 [.bl false] mt=some (.int 0,mt):=rfl
   have ix:ixG (.lst [.int 6,.int 16]) (.int 0) mt=some (.int (6:Nat),mt):=rfl
   have c1:decide (t1=0)=false:=by simp[c]
   simp![et,c1,iF,ix]
 obtain⟨_,m3,e3,f3,gs,rfl,hG⟩:=Ji (n:=1500) hw hS flt (ft.hand.mono (by decide))
 have fl3:=f3.flat flt
 obtain⟨_,m4,e4,f4,os,rfl,hO⟩:=Ji (n:=1200) hw hS fl3 (f3.hand.mono (by decide))
 have fl4:=f4.flat fl3
 obtain⟨y7,y8,y9,m5,e5,f5⟩:=PX (mu:=m4) hS sb hG (k:=mu.length) (n:=100) (x0:=some (.lst (ns.map D.int))) (x1:=some (.int i)) (x4:=some (.int w)) (x6:=some (.tup (os.map flD))) (x7:=x7) (x8:=x8) (x9:=x9) fl4 (f4.hand.mono (by decide)) (m0:=m4)
 have fl5:=f5.flat fl4
 have hC:=UT hS sb
 have hv:Wd ts:=UU sb
 have hw':=(QI hS sb).w
 have fG:=QX hG
 have fO:=QX hO
 have l4:=hC.l4
 have b1:=Hc (mu:=m5) fl5 (by ext) fG.len fO.len λj t A B x y z=>⟨hC.ok t (Ag x),16,16,by decide,fG.ok j t A x y,fO.ok j t B x z⟩
 have b2:=GU (mu:=m5) fl5 (by ext) fG.len fO.len λj t A B x y z=>⟨hC.ok t (Ag x),16,16,by decide,fG.ok j t A x y,fO.ok j t B x z⟩
 have b3:=Hc (mu:=m5) fl5 (by ext) fO.len fO.len λj t A B x y z=>⟨hC.ok t (Ag x),16,16,by decide,fO.ok j t A x y,fO.ok j t B x z⟩
 obtain⟨qs,q1,q2,q3⟩:=Uz hC (by decide) fG fO
 have ql:qs.length<=1000:=by
  have a1:=Js (zs:=ts.zip (gs.zip os)) λq hq=>by
   obtain⟨j,hj⟩:=Aw.mp hq
   obtain⟨x,y⟩:=AE.mp hj
   obtain⟨y,z⟩:=AE.mp y
   have:=(fG.ok j _ _ x y).len
   have:=(fO.ok j _ _ x z).len
   ext
  have a2:(Fv ts gs os).length=qs.length:=by rw[q1,Af]
  unfold Fv at a2
  rw[a2,BS] at a1
  ext
 have qex:∀p∈qs,∃t∈ts,t.nm=p.nm:=λp hp=>by
  have m:ptD p∈Fv ts gs os:=by rw[q1];exact Ah.mpr ⟨p,hp,rfl⟩
  obtain⟨j,t,A,B,k,x,_,_,e,_⟩:=(H8 fG fO).mp m
  have e':D.tup [.str p.nm,rwD p.key,p.be,p.af]=.tup [.str t.nm,rwD k,rk t A (rwD k),rk t B (rwD k)]:=e
  injection e' with e'
  injection e' with e' _
  injection e' with e'
  exact⟨t,Ag x,e'.symm⟩
 have emp:Fv ts os os=[]:=N8 hC (by decide) fO fO (qs:=[]) .nil (λ_ h=>nomatch h) λj t A B x y z=>⟨λ_ h=>(nomatch h),λk hk=>by rw[y] at z;cases z;exact absurd rfl hk⟩
 rw[emp] at b3
 rw[q1] at b1 b2
 obtain⟨s1,r1⟩:=Ks hC hv hw' fG fO qex ql q3
 have n1:=M5 (mu:=m5) (s:=s1)
 have c1:=Sn (mu:=m5) hC fl5 (by decide) fG fO q2 ql q3
 have hn:Hn 4 (.tup (os.map flD)):=Hn.tup λd hd=>by
  obtain⟨A,_,rfl⟩:=Ah.mp hd
  exact Hn.fl A
 have n2:=JW (mu:=m5) (hn.K (by decide)) (hn.K (by decide))
 rw[A0 rfl,B0] at n2
 have n3:neD (.tup []) (.tup []) m5=some (.bl false,m5):=by
  have h0:Hn 1 (.tup []):=Hn.tup (n:=0) λ_ h=>nomatch h
  have:=JW (mu:=m5) (h0.K (by decide)) (h0.K (by decide))
  rw[A0 rfl] at this
  exact this
 have rg1:∀(ro:Ro) (m:Sto),iRg (CC (eC (.int 4)) CH) ro m=some ((E4 0 4,none),m):=λro m=>N6 (n:=4) rfl (by decide) (by rw[AO];decide)
 refine⟨some (.ref mu.length),some (.tup (ts.map tbD)),some (.int w),some (.tup (gs.map flD)),some (.tup (os.map flD)),y7,y8,y9,m5,?_,fl5⟩
 unfold Oo
 generalize hE:CJ ixG (Jo (CC (eC (.int 6)) (CC (eC (.int 16)) CH))) (CI J9 (CC (CJ eqD (CI CN (CC (CD 2) (CC (eC (.int 8)) CH))) (eC (.int 0))) CH))=E at ew
 simp![e1,e2',ew,e3,e4,rg1,e5,b1,b2,r1,n1,c1,n2,b3,n3]
def UK (ns:List Int):∃mu',Lm [.lst (ns.map .int)] []=some (.bl true,mu'):=by
 obtain⟨N,hN,h2,h5⟩:∃N:Nat,(if (if (ns.length:Int)<6 then (ns.length:Int) else 6) > 2 then (if (ns.length:Int)<6 then (ns.length:Int) else 6) else 2)=(N:Int)/\2<=N/\N<=6:=by
  refine⟨(if (if (ns.length:Int)<6 then (ns.length:Int) else 6) > 2 then (if (ns.length:Int)<6 then (ns.length:Int) else 6) else 2).toNat,?_,?_,?_⟩<;>split<;>split<;>ext
 obtain⟨ro',mu',e,⟨y1,y2,y3,y4,y5,y6,y7,y8,y9,rfl⟩,_⟩:=Er (m0:=[]) (tg:=gNm 1) (body:=Oo) (λi ro m=>(∃y1 y2 y3 y4 y5 y6 y7 y8 y9,ro=[some (.lst (ns.map D.int)),y1,y2,y3,y4,y5,y6,y7,y8,y9])/\Flat m) (E4 0 N) 0 [some (.lst (ns.map D.int)),none,none,none,none,none,none,none,none,none] [] ⟨⟨_,_,_,_,_,_,_,_,_,rfl⟩,λj o h=>by simp at h⟩ λj d ro m ed ⟨⟨y1,y2,y3,y4,y5,y6,y7,y8,y9,er⟩,fl⟩=>by
   subst er
   obtain⟨rfl,hj⟩:=Kd ed
   obtain⟨z2,z3,z4,z5,z6,z7,z8,z9,m',e,fl'⟩:=Wr (mu:=m) (i:=j) (ns:=ns) (x2:=y2) (x3:=y3) (x4:=y4) (x5:=y5) (x6:=y6) (x7:=y7) (x8:=y8) (x9:=y9) (by ext) fl
   exact⟨_,m,_,m',rfl,e,⟨_,_,_,_,_,_,_,_,_,rfl⟩,fl'⟩
 refine⟨mu',?_⟩
 have mn:M1 [.int 6,.int (ns.length:Int)] []=some (.int (if (ns.length:Int)<6 then (ns.length:Int) else 6),[]):=rfl
 have mx:QE [.int 2,.int (if (ns.length:Int)<6 then (ns.length:Int) else 6)] []=some (.int N,[]):=by
  rw[<- hN]
  rfl
 have rg:=N6 (mu:=[]) (ro:=[some (.lst (ns.map D.int)),none,none,none,none,none,none,none,none,none]) (r:=(CC (CI QE (CC (eC (.int 2)) (CC (CI M1 (CC (eC (.int 6)) (CC (CI GL (CC (CD 0) CH)) CH))) CH))) CH)) (n:=N) (m:=[]) (by simp![Af,mn,mx]) (by ext) (by rw[AO];ext)
 rw[Int.toNat_natCast] at rg
 unfold Oo K7 at e
 simp![Lm,Sf,rg,e]
end PG
namespace PG
open PySem L2 PV PyProof.Rows
@[elab_as_elim] theorem Zz {P:List Value->Prop}(us:List Value)(hl:us.length=1)(h:∀a0,P [a0]):P us:=by
 match us,hl with
 |[_],_=>exact h _
@[elab_as_elim] theorem T5 {P:List Value->Prop}(us:List Value)(hl:us.length=2)(h:∀a0 a1,P [a0,a1]):P us:=by
 match us,hl with
 |[_,_],_=>exact h _ _
@[elab_as_elim] theorem NL {P:List Value->Prop}(us:List Value)(hl:us.length=3)(h:∀a0 a1 a2,P [a0,a1,a2]):P us:=by
 match us,hl with
 |[_,_,_],_=>exact h _ _ _
@[elab_as_elim] theorem YV {P:List Value->Prop}(us:List Value)(hl:us.length=4)(h:∀a0 a1 a2 a3,P [a0,a1,a2,a3]):P us:=by
 match us,hl with
 |[_,_,_,_],_=>exact h _ _ _ _
def FH (K:W.Frag)(x:Str)(st:Stmt):Prop:=∃(f:Addr) (oc kV dc pm cd ct:Value) (od an:Option Addr) (sl:Array (Option Value)),W.nsIn K mainGlobals x=some (some (.ref f))/\K.lookup f=some ⟨oc,od,.func (W.fnOf x x (GJ st) (EK st) (CO st) .none kV dc pm an cd ct),sl⟩/\W.codeIn K cd x=true/\W.keepIn K (.ref f)=true
def fh {K:W.Frag}{x:Str}{st:Stmt}{f:Addr}{oc kV dc pm cd ct:Value}{od an:Option Addr}{sl:Array (Option Value)}(a:W.nsIn K mainGlobals x=some (some (.ref f)))(l:K.lookup f=some ⟨oc,od,.func (W.fnOf x x (GJ st) (EK st) (CO st) .none kV dc pm an cd ct),sl⟩)(c:W.codeIn K cd x=true)(k:W.keepIn K (.ref f)=true):FH K x st:=⟨f,oc,kV,dc,pm,cd,ct,od,an,sl,a,l,c,k⟩
def FH.go {K:W.Frag}{x:Str}{st:Stmt}{h:Heap}{mg:Str->Option Value}(H:FH K x st)(X:K.In h)(G:h.Ns mainGlobals mg):∃f fd,Fun K x x st f fd/\mg x=some (.ref f):=by
 obtain⟨_,_,_,_,_,_,_,_,_,_,a,l,c,k⟩:=H
 exact⟨_,_,Sl l c k,W.mg_of X G a⟩
set_option maxHeartbeats 0 in
def all_mk {l:W.OpenLaw}{w:World}{K:W.Frag}{h:Heap}{mg:Str->Option Value}{fa:Addr}(X:K.In h)(G:h.Ns mainGlobals mg)(hfa:mg "law"=some (.ref fa))
  (h1:FH K "rows_by_key" EI) (h2:FH K "changed_rows" EA) (h3:FH K "changed" Gm) (h4:FH K "between" Hl) (h5:FH K "back_of" Ge) (h6:FH K "_law_hand" GD) (h7:FH K "_law_take" GI) (h8:FH K "_law_pick" GP) (h9:FH K "_law_words" Fq) (h10:FH K "_law_schema" E3) (h11:FH K "_law_filling" EJ) (h12:FH K "_law_change" Eh) (h13:FH K "_law_done" EO) (h14:FH K "_law_between" En) (h15:FH K "law" KD)
  (z1:W.nsIn K mainGlobals "dict"=some none) (z2:W.nsIn K mainGlobals "int"=some none) (z3:W.nsIn K mainGlobals "len"=some none) (z4:W.nsIn K mainGlobals "list"=some none) (z5:W.nsIn K mainGlobals "max"=some none) (z6:W.nsIn K mainGlobals "min"=some none) (z7:W.nsIn K mainGlobals "range"=some none) (z8:W.nsIn K mainGlobals "repr"=some none) (z9:W.nsIn K mainGlobals "set"=some none) (z10:W.nsIn K mainGlobals "sorted"=some none) (z11:W.nsIn K mainGlobals "tuple"=some none) (z12:W.nsIn K mainGlobals "zip"=some none)
   :
  ∃fd:FuncData,(∀(s:Shared) (v:Value),BindsTo s fd ⟨[v],[]⟩ [("_law_script",v)])/\∀base:Heap,K.In base->base.Ns mainGlobals mg->E7 l.prog w K mg base CX0 5 fa fd ["_law_script"] (spF ⟨K,l.prog,w⟩ Lm 1):=by
 have T:Tx K mg:=⟨Bt X G z1,Bt X G z2,Bt X G z3,Bt X G z4,Bt X G z5,Bt X G z6,Bt X G z7,Bt X G z8,Bt X G z9,Bt X G z10,Bt X G z11,Bt X G z12⟩
 obtain⟨_,_,kV,dc,pm,cd,ct,_,an,_,a,lk,c,k⟩:=h15
 cases hfa.symm.trans (W.mg_of X G a)
 refine⟨W.fnOf "law" "law" (GJ KD) (EK KD) (CO KD) .none kV dc pm an cd ct,λs v=>.of_eq rfl,λbase _ _=>?_⟩
 obtain⟨_,_,F,m⟩:=h1.go X G
 have C1:=EY (P:=l.prog) (w:=w) (base:=base) F m (Kk F T ) (F.binds λ_ _ _ _ _ _ us hl=>T5 us hl λ_ _=>rfl)
 obtain⟨_,_,F,m⟩:=h2.go X G
 have C2:=EY (P:=l.prog) (w:=w) (base:=base) F m (Jj F T C1) (F.binds λ_ _ _ _ _ _ us hl=>NL us hl λ_ _ _=>rfl)
 obtain⟨_,_,F,m⟩:=h3.go X G
 have C3:=EY (P:=l.prog) (w:=w) (base:=base) F m (Nh F T C2) (F.binds λ_ _ _ _ _ _ us hl=>NL us hl λ_ _ _=>rfl)
 obtain⟨_,_,F,m⟩:=h4.go X G
 have C4:=EY (P:=l.prog) (w:=w) (base:=base) F m (Nq F T C1) (F.binds λ_ _ _ _ _ _ us hl=>NL us hl λ_ _ _=>rfl)
 obtain⟨_,_,F,m⟩:=h5.go X G
 have C5:=EY (P:=l.prog) (w:=w) (base:=base) F m (Np F T ) (F.binds λ_ _ _ _ _ _ us hl=>Zz us hl λ_=>rfl)
 obtain⟨_,_,F,m⟩:=h6.go X G
 have C6:=EY (P:=l.prog) (w:=w) (base:=base) F m (ML F T ) (F.binds λ_ _ _ _ _ _ us hl=>T5 us hl λ_ _=>rfl)
 obtain⟨_,_,F,m⟩:=h7.go X G
 have C7:=EY (P:=l.prog) (w:=w) (base:=base) F m (M4 F T ) (F.binds λ_ _ _ _ _ _ us hl=>T5 us hl λ_ _=>rfl)
 obtain⟨_,_,F,m⟩:=h8.go X G
 have C8:=EY (P:=l.prog) (w:=w) (base:=base) F m (Ms F T C7) (F.binds λ_ _ _ _ _ _ us hl=>T5 us hl λ_ _=>rfl)
 obtain⟨_,_,F,m⟩:=h9.go X G
 have C9:=EY (P:=l.prog) (w:=w) (base:=base) F m (L0 F T C7 C8) (F.binds λ_ _ _ _ _ _ us hl=>NL us hl λ_ _ _=>rfl)
 obtain⟨_,_,F,m⟩:=h10.go X G
 have C10:=EY (P:=l.prog) (w:=w) (base:=base) F m (KN F T C9 C7) (F.binds λ_ _ _ _ _ _ us hl=>YV us hl λ_ _ _ _=>rfl)
 obtain⟨_,_,F,m⟩:=h11.go X G
 have C11:=EY (P:=l.prog) (w:=w) (base:=base) F m (JP F T C7 C8) (F.binds λ_ _ _ _ _ _ us hl=>NL us hl λ_ _ _=>rfl)
 obtain⟨_,_,F,m⟩:=h12.go X G
 have C12:=EY (P:=l.prog) (w:=w) (base:=base) F m (KL F T C7 C8) (F.binds λ_ _ _ _ _ _ us hl=>YV us hl λ_ _ _ _=>rfl)
 obtain⟨_,_,F,m⟩:=h13.go X G
 have C13:=EY (P:=l.prog) (w:=w) (base:=base) F m (MY F T ) (F.binds λ_ _ _ _ _ _ us hl=>NL us hl λ_ _ _=>rfl)
 obtain⟨_,_,F,m⟩:=h14.go X G
 have C14:=EY (P:=l.prog) (w:=w) (base:=base) F m (JU F T ) (F.binds λ_ _ _ _ _ _ us hl=>NL us hl λ_ _ _=>rfl)
 exact Xj (Sl lk c k) T C6 C10 C7 C11 C12 C13 C3 C4 C5 C14
theorem MJ {K:Zc}{th:List Addr}{H:Hp}:∀ns:List Int,RepL K th H (ns.map D.int) (ns.map V.int)
 |[]=>.nil
 |i::ns=>.cons rfl (MJ ns)
def walk {l:W.OpenLaw}{q:Program}{loose:List Str}{XP:(Str->Option Value)->Heap->Prop}{YP:World->Heap->Prop}{d:DefRec}{K:Params->W.Frag}(hn:l.most=some 63)(hdf:d.params.defaults=[])
  (hY:∀(w:World) (h:Heap),YP w h->(K w.params).In h)
  (F:∀(w:World) (mg:Str->Option Value) (fa:Addr) (h:Heap),(K w.params).In h->h.Ns mainGlobals mg->mg d.name=some (.ref fa) ->
   ∃fd:FuncData,(∀(s:Shared) (u:Value),BindsTo s fd ⟨[u],[]⟩ [("_law_script",u)])/\∀base:Heap,(K w.params).In base->base.Ns mainGlobals mg->E7 l.prog w (K w.params) mg base CX0 5 fa fd ["_law_script"] (spF ⟨K w.params,l.prog,w⟩ Lm 1)) :
  W.WalkO q loose XP YP l.row.toRowW d [] (λf vs=>PySem.call f vs):=
 L2.UC (n:=63) (k:=5) (x:="_law_script") (CX:=λ_=>CX0) (sp:=λw=>spF ⟨K w.params,l.prog,w⟩ Lm 1) hn (by decide) hdf ⟨rfl,by decide,by decide,rfl⟩ hY F (λw H a ns hl _ hS=>by
  obtain⟨mu',e⟩:=UK ns
  refine⟨[],[],[.lst (ns.map D.int)],⟨rfl,B5,λk a o e=>by simp at e⟩,.cons ?_ .nil,rfl,.bl true,mu',e,λth' H' _ _ v rv=>rv⟩
  unfold Rep
  refine⟨a,ns.map V.int,rfl,?_,MJ ns,by rw[Af];exact AU hl (by decide)⟩
  rcases hS with hS|hS
  ·exact .inl ⟨by simp,hS⟩
  ·exact .inr hS) λ_ _ _ _ _ z=>z
end PG
local macro_rules(kind:=Lean.Parser.Term.structInst)|s=>do
 let g:=s[2][0]
 let x:=g[10]
 let y:=x[1]
 if x[0][0].getId.eraseMacroScopes != `frame||y[2][2].getNumArgs<1 then Lean.Macro.throwUnsupported
 return s.setArg 2 (s[2].setArg 0 (g.setArg 10 (x.setArg 1 (y.setArg 2 (y[2].setArg 2 (Lean.mkIdent `none))))))
open PySem PySem.W PyProof.Rows
set_option maxRecDepth 100000 in
set_option maxHeartbeats 0 in
theorem PySem.Challenge.cw_lookback_k10_changes_done_holds : PySem.Challenge.rw_lookback_k10_changes_done.Holds := by
 w_on;o_law;k_head;(case hw=>w_witness2)
 k_fill
 refine PG.walk (l:=PySem.Challenge.rw_lookback_k10_changes_done) rfl rfl (λw h Y=>W.kIn_of Y) ?F
 case F =>
  intro w mg fa h KX G hmg
  refine' PG.all_mk KX G hmg ?h1 ?h2 ?h3 ?h4 ?h5 ?h6 ?h7 ?h8 ?h9 ?h10 ?h11 ?h12 ?h13 ?h14 ?h15 ?z1 ?z2 ?z3 ?z4 ?z5 ?z6 ?z7 ?z8 ?z9 ?z10 ?z11 ?z12
  case h1|h2|h3|h4|h5|h6|h7|h8|h9|h10|h11|h12|h13|h14|h15=>(refine' PG.fh ?a ?l ?c ?k;(case a=>k_is);(case l=>k_is);(case c=>k_is);(case k=>k_is))
  (case z1=>k_is);(case z2=>k_is);(case z3=>k_is);(case z4=>k_is);(case z5=>k_is);(case z6=>k_is)
  (case z7=>k_is);(case z8=>k_is);(case z9=>k_is);(case z10=>k_is);(case z11=>k_is);(case z12=>k_is)
