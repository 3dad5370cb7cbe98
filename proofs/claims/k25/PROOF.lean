import PyProof.Rows.All
import Wide.All
import OpenK.AllK
import Wide.FinOn
import Lean
import PyProof.EqAt
import PyProof.EqKinds
import PyProof.TupleCall
import PySem.Challenge.RW_lookback_k25_whole_references_kept
set_option Elab.async false
set_option linter.all false
set_option compiler.extract_closed false
set_option maxRecDepth 100000
local macro_rules(kind:=Lean.Elab.Tactic.Ext.ext)|s=>return .node .none `Lean.Parser.Tactic.omega #[.atom .none "omega",.node .none `Lean.Parser.Tactic.optConfig #[.node .none `null #[]]]
local macro_rules|`(tactic|symm)=>`(tactic|decide +kernel)
local macro_rules|`(tactic|rfl')=>`(tactic|exact⟨rfl,rfl,rfl,by decide +kernel,rfl,by decide +kernel,by decide +kernel⟩)
noncomputable section
abbrev Zaa:=PySem.Shared->Prop
abbrev Zab:=List (PySem.Addr×PySem.Obj)
def Aa:=@PySem.wpAny_bind
def Ab:=@PySem.wpAny_pure
def Ac:=@PySem.Heap.get?_push_of_some
def Ad:=@List.getElem?_eq_some_iff
def Ae:=@Nat.le_refl
def Af:=@Array.getElem?_toList
def Ag:=@PySem.Heap.get?_push_size
def Ah:=@List.mem_singleton
def Ai:=@Bool.and_eq_true
def Aj:=@List.mem_of_getElem?
def Ak:=@List.length_map
def Al:=@List.getElem?_eq_getElem
def Am:=@List.getElem?_map
def An:=@PySem.Heap.lt_size
def Ao:=@List.mem_cons
def Ap:=@List.getElem?_append_left
def Aq:=@List.mem_append_right
def Ar:=@List.size_toArray
def As:=@List.length_append
def Au:=@PyProof.Rows.wpS_bind
def Av:=@Array.getElem?_eq_getElem
def Aw:=@List.getElem?_set_ne
def Ax:=@List.not_mem_nil
def Ay:=@List.map_cons
def Az:=@Nat.ne_of_lt
def AA:=@decide_eq_true_eq
def AB:=@PyProof.Rows.wpS_pure
def AD:=@PySem.Heap.SameBut.update
def AE:=@PySem.wpAny_call_entry
def AF:=@List.mem_append
def AG:=@PySem.wpAny_holding
def AH:=@PySem.sizeLine_eq
def AI:=@Nat.lt_of_lt_of_le
def AJ:=@PySem.Heap.get?_update_self
def AK:=@List.mem_map
def AL:=@List.mem_iff_getElem?
def AM:=@PySem.wpAny_callSpecial?_slot
def AN:=@Bool.false_ne_true
def AO:=@Nat.le_trans
def AQ:=@List.getD_eq_getElem?_getD
def AR:=@Option.some.inj
def AS:=@List.map_append
def AU:=@List.length_take
def AV:=@Bool.false_eq_true
def AW:=@List.all_eq_true
def AX:=@PySem.wpAny_newObj_type
def AY:=@Array.toList_append
def AZ:=@Array.getElem?_eq_none
def A0:=@List.mem_append_left
def A1:=@List.getElem?_append_right
def A3:=@List.nodup_iff_pairwise_ne
def A4:=@PyProof.Rows.slot_tuple_getitem
def A5:=@Nat.zero_le
def A6:=@List.ext_getElem?
def A7:=@PySem.wpAny_rule
def A8:=@List.map_map
def A9:=@PySem.Heap.get?_update_other
def Ba:=@or_false
def Bb:=@List.nodup_append
def Bc:=@PySem.wpAny_dictEntries
def Bd:=@List.mem_filter
def Be:=@PySem.wpAny_field
def Bf:=@Array.getD_eq_getD_getElem?
def Bg:=@List.getElem?_take_of_lt
def Bh:=@Nat.lt_succ_self
def Bi:=@decide_eq_false
def Bj:=@List.append_assoc
def Bk:=@PySem.wpAny_dictEpoch
def Bl:=@Nat.lt_succ_of_lt
def Bm:=@PySem.wpAny_setField
def Bn:=@PySem.Heap.size_push
def Bo:=@PySem.W.mg_none_of
def Bp:=@List.length_filter_le
def Bq:=@Array.size_push
def Br:=@Nat.zero_add
def Bs:=@PySem.wpAny_setField_rec
def Bt:=@if_false
def Bu:=@PySem.F.slot_dict_valueiterator_next
def Bv:=@Nat.lt_irrefl
def Bw:=@PySem.F.slot_dict_itemiterator_next
def Bx:=@List.drop_eq_getElem_cons
def By:=@PySem.wpAny_typeOf
def Bz:=@PySem.wpAny_seqItems
def BA:=@PySem.F.slot_dict_keyiterator_next
def BB:=@PySem.PassesOwn.never
def BC:=@List.mem_cons_of_mem
def BD:=@List.Perm.refl
def BE:=@PySem.Around.under_plainId
def BF:=@List.length_set
def BG:=@List.getElem_mem
def BH:=@PySem.wpAny_isInstance
def BI:=@Array.toList_push
def BJ:=@List.getElem?_eq_none
def BK:=@decide_eq_true
def BL:=@Nat.ne_of_gt
def BM:=@PySem.codeAny_builtin
def BN:=@PySem.wpAny_attempt
def BP:=@List.getElem?_set_self
def BQ:=@PySem.wpAny_truthy_bool
def BR:=@PySem.wpAny_setState_of
def BS:=@PySem.wpAny_pyIter_slot
def BU:=@Bool.not_eq_true'
def BV:=@PySem.Obj.isFreed_of_dict
def BW:=@PyProof.Rows.getElem?_mirror_all
def BX:=@List.nodup_cons
def BY:=@PySem.wpAny_updateSeq
def BZ:=@List.pairwise_iff_getElem
def B0:=@PySem.wpAny_notOrdered_dict
def B1:=@PySem.wpAny_mono
def B2:=@PySem.wpAny_typeNameOfWhole_itemiter
def B3:=@PyProof.Rows.boot_tuple
def B4:=@Nat.lt_or_ge
def B5:=@PySem.Obj.data_mapDictKeys
def B6:=@PySem.wpAny_typeNameOfWhole_keyiter
def B7:=@PySem.wpAny_typeNameOfWhole_valiter
def B8:=@List.getElem?_replicate
def B9:=@List.pairwise_map
def Ca:=@decide_eq_false_iff_not
def Cb:=@PyProof.Rows.wpS_modify
def Cc:=@beq_eq_false_iff_ne
def Cd:=@PySem.mem_of_lookup
def Ce:=@List.length_reverse
def Cf:=@List.map_congr_left
def Cg:=@PyProof.Rows.callWith_type1
def Ci:=@List.take_of_length_le
def Cj:=@List.length_drop
def Ck:=@PySem.F.slot_tuple_iterator_next
namespace L2
open PySem PySem.Spec PyProof.Rows
abbrev Key:=Sum Int Str
def Wa:Key->Value->Bool
 |.inl k,v=>Value.isInt k v
 |.inr x,v=>Value.isStrOf x v
def AbS (w:World):Key->Int
 |.inl k=>hashInt k
 |.inr x=>hashStr w x
theorem Ea:∀{k:Key}{v:Value},Wa k v=true->(∃i t,k=Sum.inl i/\v=Value.int i t)\/(∃x t,k=Sum.inr x/\v=Value.str x t)
 |.inl i,v,h=>by
  obtain⟨t,e⟩:=Value.isInt_shape (k:=i) (v:=v) h
  exact .inl ⟨i,t,rfl,e⟩
 |.inr x,v,h=>by
  obtain⟨t,e⟩:=Value.isStrOf_shape (x:=x) (v:=v) h
  exact .inr ⟨x,t,rfl,e⟩
def XQ (a b:Int):decide ((Sum.inl a:Key)=Sum.inl b)=(a==b):=by
 by_cases e:a=b
 ·subst e;simp
 ·have h:¬ (Sum.inl a:Key)=Sum.inl b:=λq=>e (Sum.inl.inj q)
  rw[Bi h]
  exact(Cc.mpr e).symm
def YD (a b:Str):decide ((Sum.inr a:Key)=Sum.inr b)=decide (a=b):=by
 by_cases e:a=b
 ·subst e;simp
 ·have h:¬ (Sum.inr a:Key)=Sum.inr b:=λq=>e (Sum.inr.inj q)
  rw[Bi h,Bi e]
def X0 (a:Int)(b:Str):decide ((Sum.inl a:Key)=Sum.inr b)=false:=Bi (λq=>nomatch q)
def X9 (a:Str)(b:Int):decide ((Sum.inr a:Key)=Sum.inl b)=false:=Bi (λq=>nomatch q)
def MH (prog:Program)(w:World):PySem.KeyKind prog w Key where
 is:=Wa
 hash:=AbS w
 inj:=λv a b ha hb=>by
  rcases Ea ha with⟨i,t,rfl,rfl⟩|⟨x,t,rfl,rfl⟩
  ·rcases Ea hb with⟨j,u,rfl,e⟩|⟨y,u,rfl,e⟩
   ·injection e with e1 _;rw[e1]
   ·exact nomatch e
  ·rcases Ea hb with⟨j,u,rfl,e⟩|⟨y,u,rfl,e⟩
   ·exact nomatch e
   ·injection e with e1 _;rw[e1]
 byValue:=λk v h=>by
  rcases Ea h with⟨i,t,rfl,rfl⟩|⟨x,t,rfl,rfl⟩<;>rfl
 pyHash:=λhv h=>by
  rcases Ea hv with⟨i,t,rfl,rfl⟩|⟨x,t,rfl,rfl⟩
  ·exact wpAny_pyHash_int h
  ·exact wpAny_pyHash_str h
 eqBool:=λhu hv h=>by
  rcases Ea hu with⟨i,t,rfl,rfl⟩|⟨x,t,rfl,rfl⟩
  ·rcases Ea hv with⟨j,u,rfl,rfl⟩|⟨y,u,rfl,rfl⟩
   ·rw[XQ] at h;exact wpAny_eqBool_int h
   ·rw[X0] at h;exact SeqAt.EqAt.int_str i t y u _ _ _ _ h
  ·rcases Ea hv with⟨j,u,rfl,rfl⟩|⟨y,u,rfl,rfl⟩
   ·rw[X9] at h;exact SeqAt.EqAt.str_int x t j u _ _ _ _ h
   ·rw[YD] at h;exact wpAny_eqBool_str h
 «strs»:=λk x t v h=>by
  rcases Ea h with⟨i,u,rfl,e⟩|⟨y,u,rfl,e⟩
  ·exact nomatch e
  ·injection e with e1 _
   subst e1
   cases v<;>rfl
inductive V where
 |non|bl (b:Bool)|int (i:Int)|str (x:Str)|byt (b:Array UInt8)|flt (b:UInt64)|ref (a:Addr)|ty (n:String)
 deriving DecidableEq
def RelV:V->Value->Prop
 |.non,u=>u=Value.none
 |.bl b,u=>u=Value.bool b
 |.int i,u=>∃t,u=Value.int i t
 |.str x,u=>∃t,u=Value.str x t
 |.byt b,u=>∃t,u=Value.bytes b t
 |.flt b,u=>∃t,u=Value.float b t
 |.ref a,u=>u=Value.ref a
 |.ty n,u=>u=Value.type n
abbrev Vals:List V->List Value->Prop:=Paired RelV
theorem Vals.length {xs:List V}{us:List Value}(r:Vals xs us):xs.length=us.length:=Paired.length r
theorem Vals.get:∀{xs:List V}{us:List Value}{i:Nat}{x:V},Vals xs us->xs[i]?=some x->∃u,us[i]?=some u/\RelV x u
 |_,_,_,_,.nil,e=>by simp at e
 |_,_,0,_,.cons r _,e=>by simp at e;subst e;exact⟨_,rfl,r⟩
 |_,_,i+1,x,.cons _ t,e=>by
  obtain⟨u,h1,h2⟩:=Vals.get (i:=i) (x:=x) t (by simpa using e)
  exact⟨u,by simpa using h1,h2⟩
theorem Vals.set {x:V}{u:Value}(r:RelV x u):∀{xs:List V}{us:List Value} (i:Nat),Vals xs us->Vals (xs.set i x) (us.set i u)
 |_,_,_,.nil=>.nil
 |_,_,0,.cons _ t=>.cons r t
 |_,_,i+1,.cons q t=>.cons q (Vals.set r i t)
theorem Vals.append:∀{xs ys:List V}{us ws:List Value},Vals xs us->Vals ys ws->Vals (xs++ys) (us++ws)
 |_,_,_,_,.nil,s=>s
 |_,_,_,_,.cons r t,s=>.cons r (Vals.append t s)
theorem Vals.take:∀{xs:List V}{us:List Value} (n:Nat),Vals xs us->Vals (xs.take n) (us.take n)
 |_,_,0,_=>.nil
 |_,_,_+1,.nil=>.nil
 |_,_,n+1,.cons r t=>.cons r (Vals.take n t)
theorem Vals.drop:∀{xs:List V}{us:List Value} (n:Nat),Vals xs us->Vals (xs.drop n) (us.drop n)
 |_,_,0,r=>r
 |_,_,_+1,.nil=>.nil
 |_,_,n+1,.cons _ t=>Vals.drop n t
def Aae:Option V->Option Value->Prop
 |some v,some u=>RelV v u
 |none,none=>True
 |_,_=>False
def KV {κ:Type}:List (κ×V)->List (κ×Value)->Prop:=Paired λ(p:κ×V) (q:κ×Value)=>p.1=q.1/\RelV p.2 q.2
def kV:Key->V
 |.inl i=>.int i
 |.inr x=>.str x
inductive HO where
  |lst (xs:List V)
  |tup (xs:List V)
  |dK (kvs:List (Key×V))|dT (kvs:List (List Key×V))
  |set (S:Int->Bool) (n:Nat)
  |ins (C dx:Addr) (fs:List (Str×V))
  |own (x:Addr)
  |xd (fs:List (Str×V))
  |met (f x:Addr)
  |rng (lo hi:Int)
  |frz (o:Obj) (u:HO)
  |tbl (ps:Array Value)
  |ext (φ:Heap->Prop)
abbrev Hp:=Addr->Option HO
def upd (H:Hp)(a:Addr)(o:HO):Hp:=λb=>if b=a then some o else H b
def DX {H:Hp}{a:Addr}{o:HO}:upd H a o a=some o:=by unfold upd;rw[if_pos rfl]
def Df {H:Hp}{a b:Addr}{o:HO}(h:b≠a):upd H a o b=H b:=by unfold upd;rw[if_neg h]
def Di {H:Hp}{a b:Addr}{o:HO}(h:H a=some o)(h':H b=none):a≠b:=by
 intro e;subst e;rw[h] at h';cases h'
section
variable (P:Program) (w:World)
def ObjOk (H:Hp)(h:Heap)(a:Addr):HO->Prop
 |.lst xs=>xs.length<=sizeLine/\∃(its:List Value) (n:Nat),Vals xs its/\h.get? a=some {cls:=.type "list",data:=.seq its.toArray n}
 |.tup xs=>(xs.length<=sizeLine/\∃o,h.get? a=some o/\o.dict=none)/\∃its:List Value,Vals xs its/\IsTup h a its.toArray
 |.dK kvs=>kvs.length<=sizeLine/\(a==sysModules)=false/\∃vs,KV kvs vs/\h.DictOf (MH P w) a vs
 |.dT kvs=>kvs.length<=sizeLine/\(a==sysModules)=false/\∃xs:List (List Key×Addr×Value),
   Paired (λ(p:List Key×V) (q:List Key×Addr×Value)=>p.1=q.1/\H q.2.1=some (.tup (p.1.map kV))/\RelV p.2 q.2.2) kvs xs /\
   ∃o es ep,h.get? a=some o/\o.ExactDict/\o.data=.dict es ep/\es.toList=xs.map (entryOfKey (tupleKind (MH P w)))/\(xs.map (·.1)).Nodup
 |.set S n=>h.SetOf (intKind P w) a S n
 |.ins C dx fs=>H dx=some (.own a)/\fs.length<=1000/\dx≠a/\h.get? a=some (W.instObj C dx) /\
   ∃mA,h.Ns1 dx mA/\(∀f,Aae (fs.lookup f) (mA f))/\PySem.Within mA (fs.map (·.1))
 |.own _=>∃o,h.get? a=some o
 |.xd fs=>∃mA,h.Ns1 a mA/\∀f,Aae (fs.lookup f) (mA f)
 |.rng lo hi=>∃t u v,h.get? a=some {cls:=.type "range",data:=.fields #[.int lo t,.int hi u,.int 1 v]}
 |.frz o u=>h.get? a=some o/\ObjOk H h a u
 |.tbl ps=>h.get? a=some {cls:=.none,data:=.fields ps}
 |.met f x=>h.get? a=some (W.methodObj (.ref f) (.ref x))
 |.ext φ=>φ h/\(∃o,h.get? a=some o)/\∀h1 h2:Heap,φ h1->(∀o,h1.get? a=some o->h2.get? a=some o)->φ h2
def HOk (H:Hp)(h:Heap):Prop:=∀a o,H a=some o->ObjOk P w H h a o
end
section
variable {P:Program}{w:World}{H H':Hp}{h h':Heap}{a:Addr}{o:HO}
theorem ObjOk.lt (x:ObjOk P w H h a o):a<h.objs.size:=by
 cases o with
 |lst xs=>obtain⟨_,_,_,_,e⟩:=x;exact An e
 |tup xs=>obtain⟨_,_,_,p⟩:=x;exact p.lt
 |dK kvs=>obtain⟨_,_,_,_,o,_,_,e,_⟩:=x;exact An e
 |dT kvs=>obtain⟨_,_,_,_,o,_,_,e,_⟩:=x;exact An e
 |set S n=>obtain⟨o,_,_,_,e,_⟩:=x;exact An e
 |ins C dx fs=>obtain⟨_,_,_,e,_⟩:=x;exact An e
 |own y=>obtain⟨_,e⟩:=x;exact An e
 |xd fs=>obtain⟨_,⟨_,_,_,e,_⟩,_⟩:=x;exact An e
 |rng lo hi=>obtain⟨_,_,_,e⟩:=x;exact An e
 |frz ob u=>obtain⟨e,_⟩:=x;exact An e
 |tbl ps=>exact An (show h.get? a=some _ from x)
 |met f y=>exact An (show h.get? a=some _ from x)
 |ext φ=>obtain⟨_,⟨_,e⟩,_⟩:=x;exact An e
theorem Paired.mapP {α β:Type}{F G:α->β->Prop}:∀{l₁:List α} {l₂:List β},Paired F l₁ l₂->(∀a b,F a b->G a b)->Paired G l₁ l₂
 |_,_,.nil,_=>.nil
 |_,_,.cons r t,f=>.cons (f _ _ r) (Paired.mapP t f)
theorem ObjOk.stay (x:ObjOk P w H h a o)(k:∀b u,(b=a\/H b=some (.own a))->h.get? b=some u->h'.get? b=some u)
  (ho:∀b,H b=some (.own a)->H' b=some (.own a)) (ht:∀b xs,H b=some (.tup xs)->H' b=some (.tup xs)):ObjOk P w H' h' a o:=by
 induction o with
 |lst xs=>obtain⟨z,its,n,r,e⟩:=x;exact⟨z,its,n,r,k _ _ (.inl rfl) e⟩
 |tup xs=>obtain⟨⟨z,o1,z1,z2⟩,its,r,ob,e,c⟩:=x;exact⟨⟨z,o1,k _ _ (.inl rfl) z1,z2⟩,its,r,ob,k _ _ (.inl rfl) e,c⟩
 |dK kvs=>obtain⟨z,y,vs,r,ob,es,ep,e,c⟩:=x;exact⟨z,y,vs,r,ob,es,ep,k _ _ (.inl rfl) e,c⟩
 |dT kvs =>
  obtain⟨z,y,xs,r,ob,es,ep,e,c⟩:=x
  exact⟨z,y,xs,Paired.mapP r λp q z=>⟨z.1,ht _ _ z.2.1,z.2.2⟩,ob,es,ep,k _ _ (.inl rfl) e,c⟩
 |set S n=>obtain⟨ob,es,ep,t,e,c⟩:=x;exact⟨ob,es,ep,t,k _ _ (.inl rfl) e,c⟩
 |ins C dx fs =>
  obtain⟨d,z,ne,e,mA,⟨od,es,ep,e2,c⟩,r⟩:=x
  exact⟨ho _ d,z,ne,k _ _ (.inl rfl) e,mA,⟨od,es,ep,k _ _ (.inr d) e2,c⟩,r⟩
 |own y=>obtain⟨ob,e⟩:=x;exact⟨ob,k _ _ (.inl rfl) e⟩
 |xd fs=>obtain⟨mA,⟨od,es,ep,e,c⟩,r⟩:=x;exact⟨mA,⟨od,es,ep,k _ _ (.inl rfl) e,c⟩,r⟩
 |rng lo hi=>obtain⟨t,u,v,e⟩:=x;exact⟨t,u,v,k _ _ (.inl rfl) e⟩
 |frz ob u ih=>obtain⟨e,q⟩:=x;exact⟨k _ _ (.inl rfl) e,ih q⟩
 |tbl ps =>
  have e:h.get? a=some {cls:=.none,data:=.fields ps}:=x
  show h'.get? a=some {cls:=.none,data:=.fields ps}
  exact k a _ (.inl rfl) e
 |met f y =>
  have e:h.get? a=some (W.methodObj (.ref f) (.ref y)):=x
  show h'.get? a=some (W.methodObj (.ref f) (.ref y))
  exact k a _ (.inl rfl) e
 |ext φ=>obtain⟨p,⟨o,e⟩,st⟩:=x;exact⟨st _ _ p λo q=>k _ _ (.inl rfl) q,⟨o,k _ _ (.inl rfl) e⟩,st⟩
theorem HOk.lt (x:HOk P w H h)(e:H a=some o):a<h.objs.size:=(x a o e).lt
theorem HOk.fresh (x:HOk P w H h)(e:h.objs.size<=a):H a=none:=by
 cases q:H a with
 |none=>rfl
 |some u=>exact absurd (AI (x.lt q) e) (Bv _)
def HOk.kept (x:HOk P w H h)(k:∀b u,h.get? b=some u->h'.get? b=some u):HOk P w H h':=λa o e =>
 (x a o e).stay (λb u _ q=>k b u q) (λ_ q=>q) λ_ _ q=>q
def HOk.laid (x:HOk P w H h)(k:∀b u,h.get? b=some u->h'.get? b=some u)(hp:h.objs.size<=a)(new:ObjOk P w (upd H a o) h' a o):HOk P w (upd H a o) h':=λb u e=>by
 have hn:=x.fresh hp
 by_cases hb:b=a
 ·subst hb;rw[DX] at e;cases e;exact new
 ·rw[Df hb] at e
  exact(x b u e).stay (λc v _ q=>k c v q) (λc q=>by rw[Df (Di q hn)];exact q) λc xs q=>by rw[Df (Di q hn)];exact q
end
def Rd (H:Hp)(a:Addr)(u:HO):Prop:=H a=some u\/∃o,H a=some (.frz o u)
def Rd.ok {P:Program}{w:World}{H:Hp}{h:Heap}{a:Addr}{u:HO}(r:Rd H a u)(x:HOk P w H h):ObjOk P w H h a u:=by
 rcases r with r|⟨o,r⟩
 ·exact x a u r
 ·obtain⟨_,q⟩:=x a _ r
  exact q
def Mut:Option HO->Prop
 |some (.lst _)=>True
 |some (.dK _)=>True
 |some (.dT _)=>True
 |some (.set _ _)=>True
 |some (.ins _ _ _)=>True
 |some (.ext _)=>True
 |_=>False
section
variable {P:Program}{w:World}{H:Hp}{h h':Heap}{x e:Addr}{o':HO}
def HOk.write (ok:HOk P w H h)(mu:Mut (H x))(he:e=x\/H e=some (.own x))(k:∀b u,b≠e->h.get? b=some u->h'.get? b=some u)(heo:∃u,h'.get? e=some u)
  (new:ObjOk P w (upd H x o') h' x o'):HOk P w (upd H x o') h':=λb u q=>by
 have nown:∀c y,H c=some (.own y)->c≠x:=λc y r z=>by subst z;rw[r] at mu;exact mu
 have ntup:∀c xs,H c=some (.tup xs)->c≠x:=λc xs r z=>by subst z;rw[r] at mu;exact mu
 by_cases hb:b=x
 ·subst hb;rw[DX] at q;cases q;exact new
 ·rw[Df hb] at q
  by_cases hbe:b=e
  ·have q':H b=some (.own x):=by
    rcases he with z|z
    ·exact absurd (hbe.trans z) hb
    ·rw[hbe];exact z
   rw[q] at q';cases q'
   obtain⟨v,hv⟩:=heo
   exact⟨v,by rw[hbe];exact hv⟩
  ·refine(ok b u q).stay (λc v hc r=>k c v ?_ r) (λc r=>by rw[Df (nown c b r)];exact r) λc xs r=>by rw[Df (ntup c xs r)];exact r
   rcases hc with rfl|hc
   ·exact hbe
   ·rintro rfl
    rcases he with z|z
    ·exact nown c b hc z
    ·rw[hc] at z;cases z;exact hb rfl
end
structure Un (fs ex:List Addr) (H H':Hp) (h h':Heap):Prop where
 keep:∀b o,h.get? b=some o->H b=none->b∉fs->b∉ex->h'.get? b=some o
 slot:∀b o,h.get? b=some o->H b=none->b∈fs->b∉ex->∃sl,h'.get? b=some {o with slots:=sl}
 free:∀b o,h.get? b=some o->H b=none->b∉ex->H' b=none
 there:∀b o,h.get? b=some o->b∉ex->∃o',h'.get? b=some o'
 tups:∀b xs,H b=some (.tup xs)->H' b=some (.tup xs)
 frzs:∀b o u,H b=some (.frz o u)->H' b=some (.frz o u)
 tbls:∀b ps,H b=some (.tbl ps)->∃more,H' b=some (.tbl (ps++more))
section
variable {fs fs' ex ex':List Addr}{H H1 H2:Hp}{h h1 h2 h':Heap}{a x e:Addr}{o:HO}
def Un.any (u:Un fs ex H H1 h h1){b:Addr}{ob:Obj}(q:h.get? b=some ob)(n:H b=none)(hx:b∉ex):∃sl,h1.get? b=some {ob with slots:=sl}:=by
 by_cases hb:b∈fs
 ·exact u.slot b ob q n hb hx
 ·exact⟨ob.slots,u.keep b ob q n hb hx⟩
def Un.kept (k:∀b u,h.get? b=some u->h'.get? b=some u):Un fs ex H H h h':=
 ⟨λb ob q _ _ _=>k b ob q,λb ob q _ _ _=>⟨ob.slots,k b ob q⟩,λ_ _ _ n _=>n,λb ob q _=>⟨ob,k b ob q⟩,λ_ _ q=>q,λ_ _ _ q=>q,λ_ ps q=>⟨#[],by rw[q];simp⟩⟩
def Un.refl:Un fs ex H H h h:=Un.kept λ_ _ q=>q
def Un.laid (k:∀b u,h.get? b=some u->h'.get? b=some u)(hp:h.objs.size<=a)(hn:H a=none):Un fs ex H (upd H a o) h h' where
 keep:=λb u q _ _ _=>k b u q
 slot:=λb u q _ _ _=>⟨u.slots,k b u q⟩
 free:=λb u q n _=>by rw[Df (Az (AI (An q) hp))];exact n
 there:=λb u q _=>⟨u,k b u q⟩
 tups:=λb xs q=>by rw[Df (Di q hn)];exact q
 frzs:=λb u xs q=>by rw[Df (Di q hn)];exact q
 tbls:=λb ps q=>⟨#[],by rw[Df (Di q hn),q];simp⟩
def Un.write (mu:Mut (H x))(he:e=x\/H e=some (.own x))(k:∀b u,b≠e->h.get? b=some u->h'.get? b=some u)(heo:∃u,h'.get? e=some u):Un fs ex H (upd H x o) h h':=by
 have hx:∀b,H b=none->b≠x:=λb n z=>by subst z;rw[n] at mu;exact mu
 have hb:∀b,H b=none->b≠e:=λb n z=>by
  subst z
  rcases he with r|r
  ·exact hx b n r
  ·rw[n] at r;cases r
 have hm:∀b u,H b=some u->¬ Mut (some u)->b≠x:=λb u q nm z=>by subst z;rw[q] at mu;exact nm mu
 refine⟨λb u q n _ _=>k b u (hb b n) q,λb u q n _ _=>⟨u.slots,k b u (hb b n) q⟩,λb u q n _=>by rw[Df (hx b n)];exact n,λb u q _=>?_,
  λb xs q=>by rw[Df (hm b _ q λz=>z)];exact q,λb u xs q=>by rw[Df (hm b _ q λz=>z)];exact q,λb ps q=>⟨#[],by rw[Df (hm b _ q λz=>z),q];simp⟩⟩
 by_cases hbe:b=e
 ·subst hbe;exact heo
 ·exact⟨u,k b u hbe q⟩
end
def trk (h:Heap)(H:Hp):List Addr:=(List.range h.objs.size).filter λa=>(H a).isSome
def M8 (h:Heap)(H:Hp):Heap:=W.hideAll h (trk h H)
def QJ (h:Heap)(H:Hp):(M8 h H).objs.size=h.objs.size:=W.hideAll_size _ _
def SO {h:Heap}{H:Hp}{b:Addr}{o:Obj}(e:h.get? b=some o)(n:H b=none):(M8 h H).get? b=some o:=
 W.hideAll_get _ e λhm=>by
  have q:(H b).isSome=true:=(Bd.mp hm).2
  rw[n] at q;simp at q
theorem Ud {h:Heap}{H:Hp}{b:Addr}{o:Obj}(e:(M8 h H).get? b=some o):h.get? b=some o/\H b=none:=by
 have e':h.get? b=some o:=W.of_hideAll (trk h H) e
 refine⟨e',?_⟩
 cases q:H b with
 |none=>rfl
 |some x =>
  have hm:b∈trk h H:=Bd.mpr ⟨List.mem_range.mpr (An e'),by simp[q]⟩
  have z:(M8 h H).get? b=none:=W.hideAll_none (trk h H) hm
  rw[z] at e;cases e
def Vf (g h:Heap)(L:Addr):Zab:=(List.range h.objs.size).filterMap λa=>if a=L\/(g.get? a).isSome=true then none else (h.get? a).map λo=>(a,o)
def rest (g h:Heap)(L d:Addr):Zab:=(Vf g h L).filter λp=>decide (p.1≠d)
structure Mod (K:W.Frag) (mg:Str->Option Value) (base:Heap):Prop where
 kin:K.In base
 glob:base.Ns mainGlobals mg
 blt:∃mb,base.Ns builtinsNs mb/\∀x:Str,x≠"__name__"->mb x=bootBuiltins x
 nolimit:base.NoLimit
structure Cx where
 prog:Program
 w:World
 K:W.Frag
 mg:Str->Option Value
 base:Heap
 A:Around
 N:List Str
 s₀:Shared
 H₀:Hp
 env:Env
 outer:List Env
 stack:List Env
 ex:List Addr
 fn:Str->Bool
 calm:Bool
 pn:Zab
 xe:Value->Zaa
def frs (l:List Env):List Addr:=l.filterMap (·.frame)
abbrev Cx.fs (X:Cx):List Addr:=frs X.outer
def Vis (sc:Scope)(x:Str):Prop:=sc.names.lookup x=some .local ∨sc.names.lookup x=some .cell\/sc.names.lookup x=some .free
def Loc (sc:Scope)(x:Str):Prop:=sc.names.lookup x=some .local ∨sc.names.lookup x=some .cell
def Look (env:Env)(h:Heap)(m:Str->Option Value)(x:Str)(u:Value):Prop:=
 (env.kindOf x=some .local/\m x=some u)\/((env.kindOf x=some .cell\/env.kindOf x=some .free)/\∃c,env.cells.lookup x=some c/\h.IsCell c (some u))
structure Cx.Ok (X:Cx):Prop where
 mod:Mod X.K X.mg X.base
 kind:X.env.scope.kind=.function
 glob:X.env.globals=mainGlobals
 blt:X.env.builtins=builtinsNs
 above:X.s₀.heap.objs.size<=X.env.locals
 inj:∀x y c,X.env.cells.lookup x=some c->X.env.cells.lookup y=some c->x=y
 has:∀x,(X.env.kindOf x=some .cell\/X.env.kindOf x=some .free)->∃c,X.env.cells.lookup x=some c
 cab:∀x c,X.fn x=true->X.env.cells.lookup x=some c->X.s₀.heap.objs.size<=c
 hd:X.calm=true->X.A.handled=none
 frames:X.A.frames=some X.stack
 stk:X.stack=X.outer\/(X.stack=X.env::X.outer/\X.env.frame=some X.env.locals)
 exf:∀b∈X.ex,b≠X.env.locals/\∀x c,X.env.cells.lookup x=some c->c≠b
 bs:∀b o,X.base.get? b=some o->X.s₀.heap.get? b=some o/\X.H₀ b=none
 bsz:X.base.objs.size<=X.s₀.heap.objs.size
 noex:∀b o,X.base.get? b=some o->b∉X.ex
 exfs:∀b∈X.ex,b∉X.fs
 funs:X.s₀.heap.FunFrames X.base X.outer
 frf:∀b∈X.fs,X.H₀ b=none
structure Inv (X:Cx) (pj:Zab) (σ:List (Option V)) (H:Hp) (s:Shared):Prop where
 ok:X.Ok
 os:s.os=X.s₀.os
 bare:AllBare s.gens
 base:Un X.fs X.ex X.H₀ H X.s₀.heap s.heap
 loc:∃m,s.heap.Ns X.env.locals m/\∀(i:Nat) (x:Str) (v:V),X.N[i]?=some x->σ[i]?=some (some v)->Vis X.env.scope x->∃u,RelV v u/\Look X.env s.heap m x u
 cell:∀x c,X.env.cells.lookup x=some c->∃v,s.heap.IsCell c v
 free:H X.env.locals=none
 freeC:∀x c,X.env.cells.lookup x=some c->H c=none
 pin:∀p∈X.pn++pj,s.heap.get? p.1=some p.2/\H p.1=none/\p.1≠X.env.locals/\p.1∉X.fs/\∀v,p.2.data≠.cell v
 hok:HOk X.prog X.w H s.heap
 len:σ.length=X.N.length
section
variable {X:Cx}{pj:Zab} {σ:List (Option V)}{H H':Hp}{s:Shared}{h':Heap}
def Cx.Ok.nofr (ok:X.Ok){b:Addr}{o:Obj}(e:X.base.get? b=some o):b∉X.fs:=λhb=>by
 have:=(ok.funs.mem hb).1
 rw[e] at this;cases this
theorem Inv.bs (I:Inv X pj σ H s):∀b o,X.base.get? b=some o->s.heap.get? b=some o/\H b=none:=λb o e =>
 ⟨I.base.keep b o (I.ok.bs b o e).1 (I.ok.bs b o e).2 (I.ok.nofr e) (I.ok.noex b o e),I.base.free b o (I.ok.bs b o e).1 (I.ok.bs b o e).2 (I.ok.noex b o e)⟩
def Inv.bk (I:Inv X pj σ H s):∀b o,X.base.get? b=some o->s.heap.get? b=some o:=λb o e=>(I.bs b o e).1
theorem Inv.mod (I:Inv X pj σ H s):Mod X.K X.mg X.base:=I.ok.mod
def Inv.kIn (I:Inv X pj σ H s):X.K.In s.heap:=I.ok.mod.kin.keeps I.bk
def Inv.fr (I:Inv X pj σ H s):∃m,Fr X.base X.env.locals s.heap m:=
 let ⟨m,hn,_⟩:=I.loc
 ⟨m,hn,I.bk,AO I.ok.bsz I.ok.above⟩
theorem Inv.lt (I:Inv X pj σ H s):X.env.locals<s.heap.objs.size:=let ⟨_,hn,_⟩:=I.loc;hn.lt
def Inv.sz (I:Inv X pj σ H s):X.s₀.heap.objs.size<=s.heap.objs.size:=AO I.ok.above (Nat.le_of_lt I.lt)
def Inv.nofs (I:Inv X pj σ H s){a:Addr}(h:s.heap.objs.size<=a):a∉X.fs:=λhb=>by
 obtain⟨_,o,ho,_⟩:=I.ok.funs.mem hb
 exact absurd (AI (An ho) (AO I.sz h)) (Bv _)
def Inv.cne (I:Inv X pj σ H s):∀x c,X.env.cells.lookup x=some c->c≠X.env.locals:=λx c e z=>by
 obtain⟨v,o,ho,hd⟩:=I.cell x c e
 obtain⟨m,⟨o',es,ep,ho',hd',_⟩,_⟩:=I.loc
 rw[z,ho'] at ho;cases ho;rw[hd'] at hd;cases hd
theorem Inv.funs (I:Inv X pj σ H s):s.heap.FunFrames X.base X.outer:=by
 have all:∀(l:List Env),(∀b∈frs l,b∈X.fs)->X.s₀.heap.FunFrames X.base l->s.heap.FunFrames X.base l:=by
  intro l
  induction l with
  |nil=>intro _ _;trivial
  |cons env r ih =>
   intro hs hl
   obtain⟨hk,⟨L,o,hf,hn,ho,hd⟩,hr⟩:=hl
   have hL:L∈X.fs:=hs L (by unfold frs;rw[List.filterMap_cons,hf];exact List.mem_cons_self)
   obtain⟨sl,e⟩:=I.base.slot L o ho (I.ok.frf L hL) hL λz=>I.ok.exfs L z hL
   exact⟨hk,⟨L,_,hf,hn,e,hd⟩,ih (λb hb=>hs b (by unfold frs;rw[List.filterMap_cons,hf];exact BC _ hb)) hr⟩
 exact all X.outer (λ_ hb=>hb) I.ok.funs
theorem Inv.stack (I:Inv X pj σ H s):s.heap.FunFrames X.base X.stack:=by
 rcases I.ok.stk with e|⟨e,hf⟩
 ·rw[e];exact I.funs
 ·rw[e]
  obtain⟨m,hn,_⟩:=I.loc
  refine .cons (by rw[I.ok.kind];decide) hf hn ?_ I.funs
  exact Heap.get?_none_of_le (AO I.ok.bsz I.ok.above)
def Inv.stkSub (I:Inv X pj σ H s):∀b∈frs X.stack,b∈X.env.locals::X.fs:=λb hb=>by
 rcases I.ok.stk with e|⟨e,hf⟩
 ·rw[e] at hb;exact BC _ hb
 ·rw[e] at hb
  unfold frs at hb
  rw[List.filterMap_cons,hf] at hb
  exact hb
def Inv.stkFree (I:Inv X pj σ H s):∀b∈frs X.stack,H b=none:=λb hb=>by
 rcases Ao.mp (I.stkSub b hb) with e|hb
 ·rw[e];exact I.free
 ·obtain⟨_,o,ho,_⟩:=I.ok.funs.mem hb
  exact I.base.free b o ho (I.ok.frf b hb) λz=>I.ok.exfs b z hb
def Inv.step {g':Array GenState}{t':Nat}{d':Drawn}{ch:List Addr}(I:Inv X pj σ H s)
  (hch:∀b∈ch,(b∈X.ex\/X.s₀.heap.objs.size<=b)/\b≠X.env.locals/\(∀x c,X.env.cells.lookup x=some c->c≠b)/\∀p∈X.pn++pj,p.1≠b)
  (keep:∀b o,b≠X.env.locals->b∉X.fs->b∉ch->s.heap.get? b=some o->H b=none->h'.get? b=some o)
  (slot:∀b o,b≠X.env.locals->b∈X.fs->b∉ch->s.heap.get? b=some o->H b=none->∃sl,h'.get? b=some {o with slots:=sl}) (free:∀b o,b∉ch->s.heap.get? b=some o->H b=none->H' b=none)
  (there:∀b o,b∉ch->s.heap.get? b=some o->∃o',h'.get? b=some o')
  (tups:∀b xs,H b=some (.tup xs)->H' b=some (.tup xs)) (frzs:∀b o u,H b=some (.frz o u)->H' b=some (.frz o u)) (tbls:∀b ps,H b=some (.tbl ps)->∃more,H' b=some (.tbl (ps++more)))
  (ns:∀m,s.heap.Ns X.env.locals m->h'.Ns X.env.locals m) (hok:HOk X.prog X.w H' h') (hg:AllBare g') :
  Inv X pj σ H' {s with heap:=h',gens:=g',drawn:=d',toks:=t'}:=by
 have neL:∀b o,X.s₀.heap.get? b=some o->b≠X.env.locals:=λb o e=>Az (AI (An e) I.ok.above)
 have neC:∀b o,X.s₀.heap.get? b=some o->b∉X.ex->b∉ch:=λb o e hx hb=>by
  rcases (hch b hb).1 with z|z
  ·exact hx z
  ·exact absurd (AI (An e) z) (Bv _)
 have cellK:∀x c,X.env.cells.lookup x=some c->∀v,s.heap.IsCell c v->h'.IsCell c v:=λx c e v ⟨o,ho,hd⟩=>by
  have nch:c∉ch:=λz=>(hch c z).2.2.1 x c e rfl
  by_cases hc:c∈X.fs
  ·obtain⟨sl,q⟩:=slot c o (I.cne x c e) hc nch ho (I.freeC x c e)
   exact⟨_,q,hd⟩
  ·exact⟨o,keep c o (I.cne x c e) hc nch ho (I.freeC x c e),hd⟩
 refine⟨I.ok,I.os,hg,⟨λb o e n hb hx=>?_,λb o e n hb hx=>?_,λb o e n hx=>?_,λb o e hx=>?_,λb xs e=>tups b xs (I.base.tups b xs e),λb o xs e=>frzs b o xs (I.base.frzs b o xs e),λb ps e=>?_⟩,?_,λx c e=>?_,?_,λx c e=>?_,λp hp=>?_,hok,I.len⟩
 ·exact keep b o (neL b o e) hb (neC b o e hx) (I.base.keep b o e n hb hx) (I.base.free b o e n hx)
 ·obtain⟨sl,e1⟩:=I.base.slot b o e n hb hx
  obtain⟨sl',e2⟩:=slot b _ (neL b o e) hb (neC b o e hx) e1 (I.base.free b o e n hx)
  exact⟨sl',e2⟩
 ·obtain⟨o',e1⟩:=I.base.there b o e hx
  exact free b o' (neC b o e hx) e1 (I.base.free b o e n hx)
 ·obtain⟨o',e1⟩:=I.base.there b o e hx
  exact there b o' (neC b o e hx) e1
 ·obtain⟨m1,e1⟩:=I.base.tbls b ps e
  obtain⟨m2,e2⟩:=tbls b _ e1
  exact⟨m1++m2,by rw[e2,Array.append_assoc]⟩
 ·obtain⟨m,hn,hl⟩:=I.loc
  refine⟨m,ns m hn,λi x v e1 e2 e3=>?_⟩
  obtain⟨u,r,l⟩:=hl i x v e1 e2 e3
  refine⟨u,r,?_⟩
  rcases l with l|⟨k,c,e,z⟩
  ·exact .inl l
  ·exact .inr ⟨k,c,e,cellK x c e _ z⟩
 ·obtain⟨v,z⟩:=I.cell x c e
  exact⟨v,cellK x c e v z⟩
 ·obtain⟨m,⟨o,_,_,ho,_⟩,_⟩:=I.loc
  exact free _ o (λz=>(hch _ z).2.1 rfl) ho I.free
 ·obtain⟨v,o,ho,hd⟩:=I.cell x c e
  exact free c o (λz=>(hch c z).2.2.1 x c e rfl) ho (I.freeC x c e)
 ·obtain⟨e,n,ne,nf,d⟩:=I.pin p hp
  have nch:p.1∉ch:=λz=>(hch p.1 z).2.2.2 p hp rfl
  exact⟨keep p.1 p.2 ne nf nch e n,free p.1 p.2 nch e n,ne,nf,d⟩
def Inv.un {t':Nat}(I:Inv X pj σ H s)(u:Un X.fs [] H H' s.heap h')(hok:HOk X.prog X.w H' h'):Inv X pj σ H' {s with heap:=h',toks:=t'}:=by
 obtain⟨m,⟨o,es,ep,ho,r⟩,_⟩:=id I.loc
 obtain⟨sl,hL⟩:=u.any ho I.free (by simp)
 exact I.step (g':=s.gens) (d':=s.drawn) (ch:=[]) (λ_ z=>nomatch z) (λb o _ hb _ e n=>u.keep b o e n hb (by simp)) (λb o _ hb _ e n=>u.slot b o e n hb (by simp)) (λb o _ e n=>u.free b o e n (by simp)) (λb o _ e=>u.there b o e (by simp)) u.tups u.frzs u.tbls (λm' hm=>by
  obtain⟨o',es',ep',ho',r'⟩:=hm
  rw[ho] at ho';cases ho'
  exact⟨_,es',ep',hL,r'⟩) hok I.bare
def Inv.call {g':Array GenState}{t':Nat}{d':Drawn}{ch:List Addr}(I:Inv X pj σ H s)(u:Un (frs X.stack) ch H H' s.heap h')(hok:HOk X.prog X.w H' h')(hg:AllBare g')
  (hch:∀b∈ch,(b∈X.ex\/X.s₀.heap.objs.size<=b)/\b≠X.env.locals/\(∀x c,X.env.cells.lookup x=some c->c≠b)/\∀p∈X.pn++pj,p.1≠b) :
  Inv X pj σ H' {s with heap:=h',gens:=g',drawn:=d',toks:=t'}:=by
 obtain⟨m,⟨o,es,ep,ho,r⟩,_⟩:=id I.loc
 obtain⟨sl,hL⟩:=u.any ho I.free λz=>(hch _ z).2.1 rfl
 exact I.step (ch:=ch) hch (λb o hL hb hc e n=>u.keep b o e n (λz=>(Ao.mp (I.stkSub b z)).elim hL hb) hc) (λb o _ _ hc e n=>u.any e n hc) (λb o hc e n=>u.free b o e n hc) (λb o hc e=>u.there b o e hc) u.tups u.frzs u.tbls (λm' hm=>by
  obtain⟨o',es',ep',ho',r'⟩:=hm
  rw[ho] at ho';cases ho'
  exact⟨_,es',ep',hL,r'⟩) hok hg
def Inv.turned {t':Nat}{it:Addr}(I:Inv X pj σ H s)(k:∀b o,b≠it->s.heap.get? b=some o->h'.get? b=some o)(hn:H it=none)(hL:it≠X.env.locals)
  (h1:it∈X.ex\/X.s₀.heap.objs.size<=it) (h2:∀x c,X.env.cells.lookup x=some c->c≠it) (h3:∀p∈X.pn++pj,p.1≠it):Inv X pj σ H {s with heap:=h',toks:=t'}:=by
 have nit:∀b u,H b=some u->b≠it:=λb u e z=>by rw[z,hn] at e;cases e
 refine I.step (g':=s.gens) (d':=s.drawn) (ch:=[it]) (λb hb=>?_) (λb o _ _ hc e _=>k b o (λz=>hc (by simp[z])) e) (λb o _ _ hc e _=>⟨o.slots,k b o (λz=>hc (by simp[z])) e⟩) (λ_ _ _ _ n=>n)
  (λb o hc e=>⟨o,k b o (λz=>hc (by simp[z])) e⟩) (λ_ _ e=>e) (λ_ _ _ e=>e) (λb ps e=>⟨#[],by rw[e];simp⟩) (λm hm=>?_) (λb u e=>?_) I.bare
 ·have e:b=it:=by simpa using hb
  subst e
  exact⟨h1,hL,h2,h3⟩
 ·obtain⟨o,es,ep,ho,r⟩:=hm
  exact⟨o,es,ep,k _ o (Ne.symm hL) ho,r⟩
 ·refine(I.hok b u e).stay (λc v hc q=>k c v ?_ q) (λ_ q=>q) λ_ _ q=>q
  rcases hc with z|z
  ·rw[z];exact nit b u e
  ·exact nit c _ z
def Inv.tok (I:Inv X pj σ H s)(t:Nat):Inv X pj σ H {s with toks:=t}:=I.un (h':=s.heap) (t':=t) Un.refl I.hok
theorem Inv.kept {t':Nat}(I:Inv X pj σ H s)(k:∀b u,s.heap.get? b=some u->h'.get? b=some u):Inv X pj σ H {s with heap:=h',toks:=t'}:=I.un (Un.kept k) (I.hok.kept k)
theorem Inv.laid {a:Addr}{o:HO}{t':Nat}(I:Inv X pj σ H s)(k:∀b u,s.heap.get? b=some u->h'.get? b=some u)(hp:s.heap.objs.size<=a)(new:ObjOk X.prog X.w (upd H a o) h' a o) :
  Inv X pj σ (upd H a o) {s with heap:=h',toks:=t'}:=I.un (Un.laid k hp (I.hok.fresh hp)) (I.hok.laid k hp new)
theorem Inv.write {x e:Addr}{o:HO}{t':Nat}(I:Inv X pj σ H s)(mu:Mut (H x))(he:e=x\/H e=some (.own x))(k:∀b u,b≠e->s.heap.get? b=some u->h'.get? b=some u)(heo:∃u,h'.get? e=some u)
  (new:ObjOk X.prog X.w (upd H x o) h' x o):Inv X pj σ (upd H x o) {s with heap:=h',toks:=t'}:=I.un (Un.write mu he k heo) (I.hok.write mu he k heo new)
def Inv.pins_of {pins':Zab}(I:Inv X pj σ H s)(h:∀p∈pins',s.heap.get? p.1=some p.2/\H p.1=none/\p.1≠X.env.locals/\p.1∉X.fs/\∀v,p.2.data≠.cell v):Inv X pins' σ H s:=
 ⟨I.ok,I.os,I.bare,I.base,I.loc,I.cell,I.free,I.freeC,λp hp=>(AF.mp hp).elim (λz=>I.pin p (A0 _ z)) (h p),I.hok,I.len⟩
def Nu {N:List Str}(hN:N.Nodup){i j:Nat}{x:Str}(a:N[i]?=some x)(b:N[j]?=some x):i=j:=by
 obtain⟨h1,e1⟩:=Ad.mp a
 obtain⟨h2,e2⟩:=Ad.mp b
 exact(List.getElem_inj hN).mp (e1.trans e2.symm)
def QL {M:Model}{A:Around}{E:Value->Zaa}{i:Nat}{x:Str}{v:V}{u:Value}{Q:Unit->Zaa}(I:Inv X pj σ H s)(hN:X.N.Nodup)(hi:X.N[i]?=some x)(hx:Loc X.env.scope x)(r:RelV v u)
  (h:∀s',Inv X pj (σ.set i (some v)) H s'->(∃a,Heap.SameBut a s.heap s'.heap/\(a=X.env.locals\/X.env.cells.lookup x=some a))->Q () s') (hf:X.fn x=true\/X.env.scope.names.lookup x=some .local:=by first|exact .inl rfl|exact .inr rfl|assumption):wpAny M A (storeName X.env x u) Q E s:=by
 obtain⟨m,hn,hl⟩:=id I.loc
 have hcls:(X.env.scope.kind==.class||(X.env.scope.kind==.module&&X.env.locals != X.env.globals))=false:=by rw[I.ok.kind];rfl
 have hiσ:i<σ.length:=by rw[I.len];exact(Ad.mp hi).1
 have cne:=I.cne
 have tracked:∀{a:Addr}{h':Heap},(∃o,s.heap.get? a=some o/\H a=none)->Heap.SameBut a s.heap h'->HOk X.prog X.w H h':=λ{a h'} ha hs b ob e=>by
  obtain⟨_,_,hfree⟩:=ha
  refine(I.hok b ob e).stay (λc w' hc q=>(hs.2 c ?_).trans q) (λ_ q=>q) λ_ _ q=>q
  rintro rfl
  rcases hc with rfl|hc
  ·rw[hfree] at e;cases e
  ·rw[hfree] at hc;cases hc
 rcases hx with hk|hk
 ·refine wpAny_storeName_local hk hn (λh' hn' hs=>?_) hcls
  obtain⟨oL,_,_,hoL,_⟩:=id hn
  refine h _ ⟨I.ok,I.os,I.bare,⟨λb o e n hb hx=>?_,λb o e n hb hx=>?_,I.base.free,λb o e hx=>?_,I.base.tups,I.base.frzs,I.base.tbls⟩,⟨_,hn',λj y v' e1 e2 e3=>?_⟩,λy c e=>?_,I.free,I.freeC,λp hp=>?_,tracked ⟨oL,hoL,I.free⟩ hs,by simpa using I.len⟩ ⟨_,hs,.inl rfl⟩
  ·exact(hs.2 b (Az (AI (An e) I.ok.above))).trans (I.base.keep b o e n hb hx)
  ·obtain⟨sl,e1⟩:=I.base.slot b o e n hb hx
   exact⟨sl,(hs.2 b (Az (AI (An e) I.ok.above))).trans e1⟩
  ·obtain⟨o',e1⟩:=I.base.there b o e hx
   exact⟨o',(hs.2 b (Az (AI (An e) I.ok.above))).trans e1⟩
  ·by_cases hj:j=i
   ·subst hj
    rw[hi] at e1;cases e1
    rw[BP hiσ] at e2
    cases e2
    exact⟨u,r,.inl ⟨hk,by simp⟩⟩
   ·rw[Aw (Ne.symm hj)] at e2
    obtain⟨u',r',q⟩:=hl j y v' e1 e2 e3
    refine⟨u',r',?_⟩
    rcases q with⟨k,e⟩|⟨k,c,e,z⟩
    ·refine .inl ⟨k,?_⟩
     have:y≠x:=λe=>hj (Nu hN e1 (e▸hi))
     simp[this,e]
    ·exact .inr ⟨k,c,e,z.sameBut hs (cne y c e)⟩
  ·obtain⟨w',z⟩:=I.cell y c e
   exact⟨w',z.sameBut hs (cne y c e)⟩
  ·obtain⟨e,n,ne,nf,d⟩:=I.pin p hp
   exact⟨(hs.2 p.1 ne).trans e,n,ne,nf,d⟩
 ·have hfn:X.fn x=true:=by
   rcases hf with z|z
   ·exact z
   ·rw[z] at hk;cases hk
  obtain⟨c,hc⟩:=I.ok.has x (.inl hk)
  obtain⟨w',z⟩:=I.cell x c hc
  refine wpAny_storeName_cell I.ok.kind hk hc z (λh' hc' hs=>?_)
  obtain⟨oc,hoc,hocd⟩:=id z
  refine h {s with heap:=h'} ⟨I.ok,I.os,I.bare,⟨λb o e n hb hx=>?_,λb o e n hb hx=>?_,I.base.free,λb o e hx=>?_,I.base.tups,I.base.frzs,I.base.tbls⟩,⟨m,hn.sameBut hs (Ne.symm (cne x c hc)),λj y v' e1 e2 e3=>?_⟩,λy c' e=>?_,I.free,I.freeC,λp hp=>?_,tracked ⟨oc,hoc,I.freeC x c hc⟩ hs,by simpa using I.len⟩ ⟨c,hs,.inr hc⟩
  ·exact(hs.2 b (Az (AI (An e) (I.ok.cab x c hfn hc)))).trans (I.base.keep b o e n hb hx)
  ·obtain⟨sl,e1⟩:=I.base.slot b o e n hb hx
   exact⟨sl,(hs.2 b (Az (AI (An e) (I.ok.cab x c hfn hc)))).trans e1⟩
  ·obtain⟨o',e1⟩:=I.base.there b o e hx
   exact⟨o',(hs.2 b (Az (AI (An e) (I.ok.cab x c hfn hc)))).trans e1⟩
  ·by_cases hj:j=i
   ·subst hj
    rw[hi] at e1;cases e1
    rw[BP hiσ] at e2
    cases e2
    exact⟨u,r,.inr ⟨.inl hk,c,hc,hc'⟩⟩
   ·rw[Aw (Ne.symm hj)] at e2
    obtain⟨u',r',q⟩:=hl j y v' e1 e2 e3
    refine⟨u',r',?_⟩
    rcases q with q|⟨k,c',e,z'⟩
    ·exact .inl q
    ·refine .inr ⟨k,c',e,z'.sameBut hs ?_⟩
     rintro rfl
     exact hj (Nu hN e1 (I.ok.inj _ _ _ e hc▸hi))
  ·by_cases hcc:c'=c
   ·subst hcc;exact⟨_,hc'⟩
   ·obtain⟨w2,z2⟩:=I.cell y c' e
    exact⟨w2,z2.sameBut hs hcc⟩
  ·obtain⟨e,n,ne,nf,d⟩:=I.pin p hp
   refine⟨(hs.2 p.1 ?_).trans e,n,ne,nf,d⟩
   intro q
   rw[q,hoc] at e
   have q':oc=p.2:=AR e
   exact d w' (by rw[<- q'];exact hocd)
def JB {M:Model}{A:Around}{E:Value->Zaa}{i:Nat}{x:Str}{v:V}{u:Value}{Q:Unit->Zaa}(I:Inv X pj σ H s)(hN:X.N.Nodup)(hi:X.N[i]?=some x)(hx:Loc X.env.scope x)(r:RelV v u)
  (h:∀s',Inv X pj (σ.set i (some v)) H s'->Q () s') (hf:X.fn x=true\/X.env.scope.names.lookup x=some .local:=by first|exact .inl rfl|exact .inr rfl|assumption):wpAny M A (storeName X.env x u) Q E s:=
 QL I hN hi hx r (λs' I' _=>h s' I') hf
def Inv.call' {s':Shared}{ch:List Addr}(I:Inv X pj σ H s)(ho:s'.os=s.os)(u:Un (frs X.stack) ch H H' s.heap s'.heap)(hok:HOk X.prog X.w H' s'.heap)(hg:AllBare s'.gens)
  (hch:∀b∈ch,(b∈X.ex\/X.s₀.heap.objs.size<=b)/\b≠X.env.locals/\(∀x c,X.env.cells.lookup x=some c->c≠b)/\∀p∈X.pn++pj,p.1≠b):Inv X pj σ H' s':=by
 obtain⟨h',g',d',t',o'⟩:=s'
 have e:o'=s.os:=ho
 subst e
 exact I.call (g':=g') (t':=t') (d':=d') u hok hg hch
end
abbrev XK:=Value->Option Addr->Hp->Prop
abbrev St:=List (Option V)
abbrev VK:=V->Hp->Prop
abbrev TE:=St->Hp->VK->Prop
abbrev TT:=St->Hp->(Bool->Hp->Prop)->Prop
abbrev TA:=St->Hp->(List V->Hp->Prop)->Prop
structure Ends where
 nx:St->Hp->Prop
 rt:VK
 bk:St->Hp->Prop:=λ_ _=>False
 ct:St->Hp->Prop:=λ_ _=>False
abbrev TS:=Ends->St->Hp->Prop
def EP (X:Cx)(pj:Zab)(σ:St)(Q:VK)(u:Value)(s':Shared):Prop:=∃v H',Inv X pj σ H' s'/\RelV v u/\Q v H'
def TP (X:Cx)(pj:Zab)(σ:St)(Q:Bool->Hp->Prop)(b:Bool)(s':Shared):Prop:=∃H',Inv X pj σ H' s'/\Q b H'
def AP (X:Cx)(pj:Zab)(σ:St)(Q:List V->Hp->Prop)(us:List Value)(s':Shared):Prop:=∃vs H',Inv X pj σ H' s'/\Vals vs us/\Q vs H'
def SP (X:Cx)(pj:Zab)(D:Ends)(f:Flow)(s':Shared):Prop:=
 match f with
 |.next=>∃σ' H',Inv X pj σ' H' s'/\D.nx σ' H'
 |.brk=>∃σ' H',Inv X pj σ' H' s'/\D.bk σ' H'
 |.cont=>∃σ' H',Inv X pj σ' H' s'/\D.ct σ' H'
 |.ret u=>∃v σ' H',Inv X pj σ' H' s'/\RelV v u/\D.rt v H'
def PE (X:Cx)(e:Expr)(t:TE):Prop:=
 ∀(pj:Zab) (s:Shared) (σ:St) (H:Hp) (Q:VK),Inv X pj σ H s->t σ H Q->wpAny (model X.prog X.w) X.A (eval e X.env) (EP X pj σ Q) X.xe s
def PT (X:Cx)(e:Expr)(t:TT):Prop:=
 ∀(pj:Zab) (s:Shared) (σ:St) (H:Hp) (Q:Bool->Hp->Prop),Inv X pj σ H s->t σ H Q->wpAny (model X.prog X.w) X.A (isTrue e X.env (eval e X.env)) (TP X pj σ Q) X.xe s
def PA (X:Cx)(es:List Expr)(t:TA):Prop:=
 ∀(pos:Pos) (pj:Zab) (s:Shared) (σ:St) (H:Hp) (Q:List V->Hp->Prop),Inv X pj σ H s->t σ H Q->wpAny (model X.prog X.w) X.A (spliced (backTo pos (starEach es X.env))) (AP X pj σ Q) X.xe s
def PS (X:Cx)(st:Stmt)(t:TS):Prop:=
 ∀(pj:Zab) (s:Shared) (σ:St) (H:Hp) (D:Ends),Inv X pj σ H s->t D σ H->wpAny (model X.prog X.w) X.A (exec st X.env) (SP X pj D) X.xe s
def PSs (X:Cx)(st:List Stmt)(t:TS):Prop:=
 ∀(pj:Zab) (s:Shared) (σ:St) (H:Hp) (D:Ends),Inv X pj σ H s->t D σ H->wpAny (model X.prog X.w) X.A (execs st X.env) (SP X pj D) X.xe s
def thn {α:Type}{t:Sem α}{Q Q':α->Zaa}{M:Model}{A:Around}{E:Value->Zaa}{s:Shared}(h:wpAny M A t Q E s)(hQ:∀a s,Q a s->Q' a s):wpAny M A t Q' E s:=B1 h hQ λ_ _ x=>x
section
variable {X:Cx}
def Aay (i:Nat):TE:=fun σ H Q=>∃v,σ[i]?=some (some v)/\Q v H
def tC (v:V):TE:=λ_ H Q=>Q v H
def Sr {i:Nat}{x:Str}{pos:Pos}(hN:X.N[i]?=some x)(hv:Vis X.env.scope x)(hd:(x==("__debug__":Str))=false:=by decide)(hcd:(x==("__classdict__":Str))=false:=by decide):PE X (.Name x pos) (Aay i):=by
 intro pj s σ H Q I h
 obtain⟨v,e,h⟩:=h
 obtain⟨m,hn,hl⟩:=I.loc
 obtain⟨u,r,l⟩:=hl i x v hN e hv
 have fin:EP X pj σ Q u s:=⟨v,H,I,r,h⟩
 rcases l with⟨hk,hm⟩|⟨hk,c,hc,hcell⟩
 ·exact wpAny_Name (wpAny_loadName_local I.ok.kind hk hn hm fin) hd
 ·rcases hk with hk|hk
  ·exact wpAny_Name (wpAny_loadName_cell I.ok.kind hk hc hcell fin) hd
  ·exact wpAny_Name (wpAny_loadName_free I.ok.kind hk hc hcell fin hcd) hd
def RM {i j pos}:PE X (.Constant (.int i) j pos) (tC (.int i)):=λ_ _ _ H _ I h=>wpAny_Constant_int ⟨.int i,H,I.tok _,⟨_,rfl⟩,h⟩
def Y2 {b j pos}:PE X (.Constant (.bool b) j pos) (tC (.bl b)):=λ_ _ _ H _ I h=>Constant_bool ⟨.bl b,H,I,rfl,h⟩
def WX {j pos}:PE X (.Constant .none j pos) (tC .non):=λ_ _ _ H _ I h=>Constant_none ⟨.non,H,I,rfl,h⟩
def Xu {x j pos}:PE X (.Constant (.str x) j pos) (tC (.str x)):=λ_ _ _ H _ I h=>Calls.Constant_str ⟨.str x,H,I.tok _,⟨_,rfl⟩,h⟩
def Gl (X:Cx)(x:Str):Prop:=X.env.kindOf x=some .globalImplicit
def PK {E:Value->Zaa}{pj:Zab}{s:Shared}{σ:St}{H:Hp}{x:Str}{u:Value}{pos:Pos}{Q:Value->Zaa}(I:Inv X pj σ H s)(hg:Gl X x)(hm:X.mg x=some u)(h:Q u s)
  (hd:(x==("__debug__":Str))=false:=by decide):wpAny (model X.prog X.w) X.A (eval (.Name x pos) X.env) Q E s:=
 Calls.Name_function_global I.ok.kind hg (Calls.loadGlobal_global (by rw[I.ok.glob];exact I.mod.glob.keeps I.bk) hm h) hd
def Lp {E:Value->Zaa}{pj:Zab}{s:Shared}{σ:St}{H:Hp}{x:Str}{u:Value}{pos:Pos}{Q:Value->Zaa}(I:Inv X pj σ H s)(hg:Gl X x)(hm:X.mg x=none)(hv:bootBuiltins x=some u)(h:Q u s)
  (hn:x≠"__name__":=by decide) (hd:(x==("__debug__":Str))=false:=by decide):wpAny (model X.prog X.w) X.A (eval (.Name x pos) X.env) Q E s:=by
 obtain⟨mb,h1,h2⟩:=I.mod.blt
 exact Calls.Name_function_global I.ok.kind hg (Calls.loadGlobal_builtin (by rw[I.ok.glob];exact I.mod.glob.keeps I.bk) hm (by rw[I.ok.blt];exact h1.keeps I.bk) ((h2 x hn).trans hv) h) hd
def PH {x:Str}{v:V}{u:Value}{pos:Pos}(hg:Gl X x)(hm:X.mg x=some u)(r:RelV v u)(hd:(x==("__debug__":Str))=false:=by decide):PE X (.Name x pos) (tC v):=
 λ_ _ _ H _ I h=>PK I hg hm ⟨v,H,I,r,h⟩ hd
variable {a b:Expr}{ta tb:TE}{pos:Pos}
def tB (t:TE):TT:=fun σ H Q=>t σ H λx H1=>∃c,x=.bl c/\Q c H1
def XU {e:Expr}{t:TE}(h:PE X e t)(he:∀whole,isTrue e X.env whole=(do let v<-whole;standAt e.pos;holding [v] (truthy v)):=by intro _;rfl):PT X e (tB t):=by
 intro pj s σ H Q I hw
 refine isTrue_plain (thn (h pj s σ H _ I hw) λv s1 ⟨x,H1,I1,r1,q1⟩=>?_) (he _)
 obtain⟨d,rfl,q⟩:=q1
 cases r1
 exact BQ ⟨H1,I1,q⟩
variable {tA tB':TT}{rest:List Expr}
def AbE (t:TT):TT:=fun σ H Q=>t σ H λc H1=>Q (!c) H1
def Xh (ha:PT X a tA):PT X (.UnaryOp .Not a pos) (AbE tA):=by
 intro pj s σ H Q I h
 exact isTrue_not (ha pj s σ H (λc H1=>Q (!c) H1) I h)
def AaC (ta:TE):TE:=fun σ H Q=>ta σ H λx H1=>∃c,x=.bl c/\Q (.bl (!c)) H1
def YS (ha:PE X a ta):PE X (.UnaryOp .Not a pos) (AaC ta):=by
 intro pj s σ H Q I h
 refine UnaryOp_ (thn (ha pj s σ H _ I h) λv s1 ⟨x,H1,I1,r1,q1⟩=>?_)
 obtain⟨c,rfl,q1⟩:=q1
 cases r1
 exact not_of (BQ ⟨.bl (!c),H1,I1,rfl,q1⟩)
def tIf (t:TT)(ta tb:TE):TE:=fun σ H Q=>t σ H λc H1=>if c=true then ta σ H1 Q else tb σ H1 Q
theorem Th {c:Expr}(hc:PT X c tA)(ha:PE X a ta)(hb:PE X b tb):PE X (.IfExp c a b pos) (tIf tA ta tb):=by
 intro pj s σ H Q I h
 refine wpAny_IfExp (thn (hc pj s σ H _ I h) λd s1 ⟨H1,I1,q1⟩=>?_)
 cases d with
 |true=>exact ha pj s1 σ H1 Q I1 q1
 |false=>exact hb pj s1 σ H1 Q I1 q1
end
def SqL (K:W.Frag)(H:Hp)(a:Addr)(xs:List V):Prop:=
 Rd H a (.lst xs) \/
  ∃(o:Obj) (its:Array Value) (n:Nat),K.lookup a=some o/\o.cls=.type "list"/\o.dict=none/\o.data=.seq its n/\its.size<=sizeLine/\Vals xs its.toList
def SqT (K:W.Frag)(H:Hp)(a:Addr)(xs:List V):Prop:=
 Rd H a (.tup xs) \/
  ∃(o:Obj) (its:Array Value) (n:Nat),K.lookup a=some o/\o.cls=.type "tuple"/\o.dict=none/\o.data=.seq its n/\its.size<=sizeLine/\Vals xs its.toList
def AbQ:Value->Option V
 |.none=>some .non
 |.bool b=>some (.bl b)
 |.int i _=>some (.int i)
 |.str x _=>some (.str x)
 |.bytes b _=>some (.byt b)
 |.float b _=>some (.flt b)
 |.ref a=>some (.ref a)
 |.type n=>some (.ty n)
 |_=>none
theorem RelV.abs {x:V}{u:Value}(r:RelV x u):AbQ u=some x:=by
 cases x with
 |non=>cases r;rfl
 |bl _=>cases r;rfl
 |int _=>obtain⟨t,rfl⟩:=r;rfl
 |str _=>obtain⟨t,rfl⟩:=r;rfl
 |byt _=>obtain⟨t,rfl⟩:=r;rfl
 |flt _=>obtain⟨t,rfl⟩:=r;rfl
 |ref _=>cases r;rfl
 |ty _=>cases r;rfl
def RelV.inj {x y:V}{u:Value}(r:RelV x u)(q:RelV y u):x=y:=AR (r.abs.symm.trans q.abs)
theorem Vals.inj:∀{xs ys:List V}{us:List Value},Vals xs us->Vals ys us->xs=ys
 |_,_,_,.nil,.nil=>rfl
 |_,_,_,.cons r t,.cons r' t'=>by rw[r.inj r',Vals.inj t t']
section
variable {X:Cx}{pj:Zab} {σ:St}{H:Hp}{s:Shared}{a:Addr}{xs ys:List V}
def SqL.of {K:W.Frag}(h:H a=some (.lst xs)):SqL K H a xs:=.inl (.inl h)
def SqT.of {K:W.Frag}(h:H a=some (.tup xs)):SqT K H a xs:=.inl (.inl h)
def Inv.list (I:Inv X pj σ H s)(h:SqL X.K H a xs):∃its:List Value,Vals xs its/\PlainL s.heap a its.toArray/\xs.length<=sizeLine:=by
 rcases h with h|⟨o,its,n,hk,hc,hd,hs,hz,r⟩
 ·obtain⟨z,its,n,r,e⟩:=h.ok I.hok
  exact⟨its,r,⟨_,n,e,rfl,rfl,rfl⟩,z⟩
 ·refine⟨its.toList,r,⟨o,n,I.kIn a o hk,hc,hd,by simpa using hs⟩,?_⟩
  have e:=r.length
  simp only[Array.length_toList] at e
  ext
def Inv.tupleD (I:Inv X pj σ H s)(h:SqT X.K H a xs):∃o,s.heap.get? a=some o/\o.dict=none/\o.cls=.type "tuple":=by
 rcases h with h|⟨o,its,n,hk,hc,hd,hs,hz,r⟩
 ·obtain⟨⟨z,o,g1,g2⟩,its,r,o',g3,g4,_⟩:=h.ok I.hok
  rw[g1] at g3
  cases g3
  exact⟨o,g1,g2,g4⟩
 ·exact⟨o,I.kIn a o hk,hd,hc⟩
def Inv.tuple (I:Inv X pj σ H s)(h:SqT X.K H a xs):∃its:List Value,Vals xs its/\IsTup s.heap a its.toArray/\xs.length<=sizeLine:=by
 rcases h with h|⟨o,its,n,hk,hc,_,hs,hz,r⟩
 ·obtain⟨⟨z,_⟩,its,r,p⟩:=h.ok I.hok
  exact⟨its,r,p,z⟩
 ·refine⟨its.toList,r,⟨o,I.kIn a o hk,hc,n,by simpa using hs⟩,?_⟩
  have e:=r.length
  simp only[Array.length_toList] at e
  ext
def Inv.list_inj (I:Inv X pj σ H s)(h:SqL X.K H a xs)(h':SqL X.K H a ys):xs=ys:=by
 obtain⟨its,r,⟨o,n,e,_,_,d⟩,_⟩:=I.list h
 obtain⟨its',r',⟨o',n',e',_,_,d'⟩,_⟩:=I.list h'
 rw[e] at e';cases e'
 rw[d] at d'
 injection d' with d1 _
 have:its=its':=by simpa using congrArg Array.toList d1
 subst this
 exact r.inj r'
def Inv.tuple_inj (I:Inv X pj σ H s)(h:SqT X.K H a xs)(h':SqT X.K H a ys):xs=ys:=by
 obtain⟨its,r,⟨o,e,_,n,d⟩,_⟩:=I.tuple h
 obtain⟨its',r',⟨o',e',_,n',d'⟩,_⟩:=I.tuple h'
 rw[e] at e';cases e'
 rw[d] at d'
 injection d' with d1 _
 have:its=its':=by simpa using congrArg Array.toList d1
 subst this
 exact r.inj r'
end
abbrev Cx.wish (X:Cx) (E:Value->Zaa):Cx:={X with xe:=E}
abbrev Cx.nox (X:Cx):Cx:=X.wish λ_ _=>False
theorem Cx.Ok.wish {X:Cx}(ok:X.Ok)(E:Value->Zaa):(X.wish E).Ok:=
 ⟨ok.mod,ok.kind,ok.glob,ok.blt,ok.above,ok.inj,ok.has,ok.cab,ok.hd,ok.frames,ok.stk,ok.exf,ok.bs,ok.bsz,ok.noex,ok.exfs,ok.funs,ok.frf⟩
def Cx.Ok.unwish {X:Cx}{E:Value->Zaa}(ok:(X.wish E).Ok):X.Ok:=
 ⟨ok.mod,ok.kind,ok.glob,ok.blt,ok.above,ok.inj,ok.has,ok.cab,ok.hd,ok.frames,ok.stk,ok.exf,ok.bs,ok.bsz,ok.noex,ok.exfs,ok.funs,ok.frf⟩
section
variable {X:Cx}{pj:Zab} {σ:St}{H:Hp}{s:Shared}{E:Value->Zaa}
theorem Inv.wish (I:Inv X pj σ H s)(E:Value->Zaa):Inv (X.wish E) pj σ H s:=⟨I.ok.wish E,I.os,I.bare,I.base,I.loc,I.cell,I.free,I.freeC,I.pin,I.hok,I.len⟩
theorem Inv.unwish (I:Inv (X.wish E) pj σ H s):Inv X pj σ H s:=⟨I.ok.unwish,I.os,I.bare,I.base,I.loc,I.cell,I.free,I.freeC,I.pin,I.hok,I.len⟩
theorem SP.unwish {D:Ends}{f:Flow}{s':Shared}(h:SP (X.wish E) pj D f s'):SP X pj D f s':=by
 cases f with
 |next=>obtain⟨σ',H',I,q⟩:=h;exact⟨σ',H',I.unwish,q⟩
 |brk=>obtain⟨σ',H',I,q⟩:=h;exact⟨σ',H',I.unwish,q⟩
 |cont=>obtain⟨σ',H',I,q⟩:=h;exact⟨σ',H',I.unwish,q⟩
 |ret u=>obtain⟨v,σ',H',I,r,q⟩:=h;exact⟨v,σ',H',I.unwish,r,q⟩
theorem PSs.nox {st:List Stmt}{t:TS}(h:PSs X.nox st t):PSs X st t:=λpj s σ H D I hw =>
 B1 (h pj s σ H D (I.wish _) hw) (λ_ _ q=>q.unwish) λ_ _ z=>False.elim z
end
section
variable {X:Cx}{st:Stmt}{rest:List Stmt}{t u:TS}{e:Expr}{te:TE}{pos:Pos}
def ZV:TS:=λD σ H=>D.nx σ H
def AbT (t u:TS):TS:=λD σ H=>t {D with nx:=u D} σ H
def Vm:PSs X [] ZV:=λ_ _ σ H _ I h=>wpAny_execs_nil ⟨σ,H,I,h⟩
theorem Sg (h1:PS X st t)(h2:PSs X rest u):PSs X (st::rest) (AbT t u):=by
 intro pj s σ H D I h
 refine wpAny_execs_cons (thn (h1 pj s σ H {D with nx:=u D} I h) λf s1 q=>?_)
 cases f with
 |next =>
  obtain⟨σ',H',I',q⟩:=q
  exact h2 pj s1 σ' H' D I' q
 |ret v=>exact q
 |brk=>exact q
 |cont=>exact q
theorem Uc (h1:PS X st t):PSs X [st] t:=by
 intro pj s σ H D I h
 refine wpAny_execs_cons (thn (h1 pj s σ H D I h) λf s1 q=>?_)
 cases f with
 |next=>exact wpAny_execs_nil q
 |ret v=>exact q
 |brk=>exact q
 |cont=>exact q
def Inv.quiet {pj:Zab}{σ:St}{H:Hp}{s:Shared}(I:Inv X pj σ H s):interactive X.env=false:=by simp[interactive,I.ok.kind]
def Zo (te:TE):TS:=λD σ H=>te σ H λ_ H1=>D.nx σ H1
def UQ (he:PE X e te)(hs:swapsWith e none pos.line X.env=pure false:=by rfl):PS X (.Expr e pos) (Zo te):=by
 intro pj s σ H D I h
 exact wpAny_Expr_any (thn (he pj s σ H _ I h) λv s1 ⟨x,H1,I1,r1,q1⟩=>⟨σ,H1,I1,q1⟩) I.quiet hs
def Abe (te:TE):TS:=λD σ H=>te σ H D.rt
def Yz (he:PE X e te):PS X (.Return (some e) pos) (Abe te):=by
 intro pj s σ H D I h
 exact wpAny_Return_some (thn (he pj s σ H _ I h) λv s1 ⟨x,H1,I1,r1,q1⟩=>⟨x,σ,H1,I1,r1,q1⟩)
def AbH (c:TT)(t u:TS):TS:=λD σ H=>c σ H λb H1=>if b=true then t D σ H1 else u D σ H1
theorem AaB {c:Expr}{a b:List Stmt}{tc:TT}(hc:PT X c tc)(ha:PSs X a t)(hb:PSs X b u):PS X (.If c a b pos) (AbH tc t u):=by
 intro pj s σ H D I h
 refine wpAny_If (thn (hc pj s σ H _ I h) λd s1 ⟨H1,I1,q1⟩=>?_)
 cases d with
 |true=>exact ha pj s1 σ H1 D I1 q1
 |false=>exact hb pj s1 σ H1 D I1 q1
end
abbrev TG:=V->St->Hp->(St->Hp->Prop)->Prop
abbrev TGs:=List V->St->Hp->(St->Hp->Prop)->Prop
def PG (X:Cx)(target:Expr)(t:TG):Prop:=
 ∀(pj:Zab) (s:Shared) (σ:St) (H:Hp) (v:V) (u:Value) (Q:St->Hp->Prop),Inv X pj σ H s->RelV v u->t v σ H Q ->
  wpAny (model X.prog X.w) X.A (assign target X.env u) (λ_ s'=>∃σ' H',Inv X pj σ' H' s'/\Q σ' H') X.xe s
def PGs (X:Cx)(ts:List Expr)(t:TGs):Prop:=
 ∀(pj:Zab) (s:Shared) (σ:St) (H:Hp) (vs:List V) (us:List Value) (Q:St->Hp->Prop),Inv X pj σ H s->Vals vs us->t vs σ H Q ->
  wpAny (model X.prog X.w) X.A (assignInOrder ((assignEach ts X.env).map (·.2)) us) (λ_ s'=>∃σ' H',Inv X pj σ' H' s'/\Q σ' H') X.xe s
abbrev SR:=V->V->V->Hp->(Hp->Prop)->Prop
def VH (X:Cx)(t:SR):Prop:=
 ∀(pj:Zab) (s:Shared) (σ:St) (H:Hp) (o i v:V) (ov iv u:Value) (Q:Hp->Prop),Inv X pj σ H s->RelV o ov->RelV i iv->RelV v u->t o i v H Q ->
  wpAny (model X.prog X.w) X.A (setItem ov iv u) (λ_ s'=>∃H',Inv X pj σ H' s'/\Q H') X.xe s
section
variable {X:Cx}{pos:Pos}
def Wk (i:Nat):TG:=λv σ H Q=>Q (σ.set i (some v)) H
def Vj {i:Nat}{x:Str}(hN:X.N.Nodup)(hi:X.N[i]?=some x)(hx:Loc X.env.scope x)(hf:X.fn x=true\/X.env.scope.names.lookup x=some .local:=by first|exact .inl rfl|exact .inr rfl|assumption):PG X (.Name x pos) (Wk i):=by
 intro pj s σ H v u Q I r h
 exact wpAny_assign_Name (JB I hN hi hx r (λs' I'=>⟨_,H,I',h⟩) hf)
def Abg:TGs:=λvs σ H Q=>vs=[]/\Q σ H
def Y9 (t:TG)(u:TGs):TGs:=λvs σ H Q=>∃v r,vs=v::r/\t v σ H fun σ' H'=>u r σ' H' Q
def Ui:PGs X [] Abg:=by
 intro pj s σ H vs us Q I r h
 obtain⟨e,h⟩:=h
 subst e
 cases r
 exact assignInOrder_nil ⟨σ,H,I,h⟩
theorem Tg {e:Expr}{es:List Expr}{t:TG}{u:TGs}(h1:PG X e t)(h2:PGs X es u)
  (hs:(assignEach (e::es) X.env).map (·.2)=assign e X.env::(assignEach es X.env).map (·.2):=by rfl):PGs X (e::es) (Y9 t u):=by
 intro pj s σ H vs us Q I r h
 obtain⟨v,vr,e1,h⟩:=h
 subst e1
 cases r with
 |cons r rr =>
  rw[hs]
  refine assignInOrder_cons (thn (h1 pj s σ H _ _ _ I r h) λ_ s1 ⟨σ1,H1,I1,q1⟩=>?_)
  exact h2 pj s1 σ1 H1 _ _ Q I1 rr q1
def AbF (K:W.Frag)(n:Nat)(t:TGs):TG:=λv σ H Q=>∃a xs,v=.ref a/\SqT K H a xs/\xs.length=n/\t xs σ H Q
def W8 {es:List Expr}{k:Nat}{t:TGs}{n:Nat}(hc:X.calm=true)(h:PGs X es t)
  (hn:(assignEach es X.env).length=n:=by rfl) (hst:(assignEach es X.env).findIdx? (·.1)=none:=by rfl):PG X (.Tuple es k pos) (AbF X.K n t):=by
 intro pj s σ H v u Q I r hw
 obtain⟨a,xs,e1,hq,hl,hw⟩:=hw
 subst e1
 cases r
 obtain⟨its,rv,ht,hz⟩:=I.tuple hq
 refine assign_Tuple_tuple (I.ok.hd hc) ht (by simp[hn,<- hl,rv.length]) hst λh' hx=>?_
 have I1:Inv X pj σ H {s with heap:=h'}:=I.kept (t':=s.toks) λb o e=>hx b o (Az (An e)) e
 exact h pj _ σ H xs _ Q I1 (by simpa using rv) hw
def AbB (to ti:TE)(t:SR):TG:=λv σ H Q=>to σ H λo H1=>ti σ H1 λi H2=>t o i v H2 λH3=>Q σ H3
def YC {o i:Expr}{to ti:TE}{t:SR}(ho:PE X o to)(hi:PE X i ti)(hs:VH X t)
  (ha:∀v,assign (.Subscript o i pos) X.env v=(do
   let ov<-holding [v] (eval o X.env)
   let iv<-holding [v,ov] (eval i X.env)
   standAt pos
   holding [v,ov,iv] (setItem ov iv v)
   release [v,ov,iv] []):=by intro _;rfl):PG X (.Subscript o i pos) (AbB to ti t):=by
 intro pj s σ H v u Q I r h
 rw[ha]
 refine Aa (AG (thn (ho pj s σ H _ I h) λov s1 ⟨x,H1,I1,r1,q1⟩=>?_))
 refine Aa (AG (thn (hi pj s1 σ H1 _ I1 q1) λiv s2 ⟨y,H2,I2,r2,q2⟩=>?_))
 refine Aa (wpAny_standAt (Aa (AG (thn (hs pj s2 σ H2 x y v ov iv u _ I2 r1 r2 r q2) λ_ s3 ⟨H3,I3,q3⟩=>?_))))
 exact wpAny_release ⟨σ,H3,I3,q3⟩
def Xz (te:TE)(g:TG):TS:=λD σ H=>te σ H λx H1=>g x σ H1 D.nx
def XN {tg e:Expr}{te:TE}{g:TG}(he:PE X e te)(hg:PG X tg g)(hs:swapsWithSole [tg] e pos.line X.env=pure false:=by rfl)(hw:swappedStores [tg] e X.env=pure none:=by rfl)
  (h1:(assignEach [tg] X.env).map (·.2)=[assign tg X.env]:=by rfl):PS X (.Assign [tg] e pos) (Xz te g):=by
 intro pj s σ H D I h
 refine wpAny_Assign_stores (thn (he pj s σ H _ I h) λv s1 ⟨x,H1,I1,r1,q1⟩=>?_) hs hw
 rw[h1]
 exact thn (hg pj s1 σ H1 x v _ I1 r1 q1) λ_ s2 q=>q
def W3 {i:Nat}{x:Str}{e:Expr}{te:TE}{pos':Pos}(hN:X.N.Nodup)(hi:X.N[i]?=some x)(hx:Loc X.env.scope x)(he:PE X e te)(hs:swapsWith e (some (.Name x pos')) pos.line X.env=pure false:=by rfl)(hf:X.fn x=true\/X.env.scope.names.lookup x=some .local:=by first|exact .inl rfl|exact .inr rfl|assumption) :
  PS X (.Assign [.Name x pos'] e pos) (Xz te (Wk i)):=by
 intro pj s σ H D I h
 refine wpAny_Assign_Name (thn (he pj s σ H _ I h) λv s1 ⟨y,H1,I1,r1,q1⟩=>?_) hs
 exact JB I1 hN hi hx r1 (λs2 I2=>⟨_,H1,I2,q1⟩) hf
end
structure It where
 go:Nat->Hp->Prop
 yld:Nat->Hp->V->Hp->Prop
 stop:Nat->Hp->Prop
def HS (X:Cx)(pj:Zab)(H:Hp)(b:Addr):Prop:=
 H b=none/\b≠X.env.locals/\b∉X.fs/\(b∈X.ex\/X.s₀.heap.objs.size<=b)/\(∀x c,X.env.cells.lookup x=some c->c≠b)/\∀p∈X.pn++pj,p.1≠b
def Inv.fpOk {X:Cx}{pj:Zab}{σ:St}{H H':Hp}{s:Shared}{b:Addr}(I:Inv X pj σ H s)(hb:s.heap.objs.size<=b)(hn:H' b=none):HS X pj H' b:=by
 refine⟨hn,BL (AI I.lt hb),I.nofs hb,.inr (AO I.sz hb),λx c e z=>?_,λp hp z=>?_⟩
 ·obtain⟨v,q⟩:=I.cell x c e
  exact absurd (AI q.lt (by rw[z];exact hb)) (Bv _)
 ·exact absurd (AI (An (I.pin p hp).1) (by rw[z];exact hb)) (Bv _)
structure Turn (P:Program) (w:World) (K:W.Frag) (tg:Expr) (J:It) (fp:List Addr) (it:Addr) (tn:Nat->Heap->Prop):Prop where
 mem:it∈fp
 obj:∀i h,tn i h->∀b∈fp,∃o,h.get? b=some o/\∀v,o.data≠.cell v
 keep:∀i h h',tn i h->(∀b∈fp,∀o,h.get? b=some o->h'.get? b=some o)->tn i h'
 item:∀(X:Cx),X.prog=P->X.w=w->X.K=K->X.calm=true->∀(i:Nat) (pj:Zab) (s:Shared) (σ:St) (H:Hp) (E:Value->Zaa),Inv X pj σ H s->(∀b∈fp,HS X pj H b)->tn i s.heap->J.go i H ->
  wpAny (model P w) X.A (pyNext (.ref it)) (λr s1=>∃u,r=some u /\
   wpAny (model P w) X.A (letOwnedTupleGo tg (.ref it) u) (λ_ s2=>∃x H',Inv X pj σ H' s2/\RelV x u/\J.yld i H x H'/\tn (i+1) s2.heap/\∀b∈fp,H' b=none) E s1) E s
 done:∀(X:Cx),X.prog=P->X.w=w->X.K=K->X.calm=true->∀(i:Nat) (pj:Zab) (s:Shared) (σ:St) (H:Hp) (E:Value->Zaa),Inv X pj σ H s->(∀b∈fp,HS X pj H b)->tn i s.heap->J.stop i H ->
  wpAny (model P w) X.A (pyNext (.ref it)) (λr s1=>r=none/\Inv X pj σ H s1) E s
 self:∀(A:Around) (i:Nat) (s:Shared) (Q:Value->Zaa) (E:Value->Zaa),tn i s.heap->Q (.ref it) s->wpAny (model P w) A (pyIter (.ref it)) Q E s
abbrev TI:=St->Hp->(It->Hp->Prop)->Prop
def PIE (X:Cx)(pj:Zab)(σ:St)(tg:Expr)(R:It->Hp->Prop)(itv:Value)(s2:Shared):Prop:=
 ∃(it:Addr) (fp:List Addr) (tn:Nat->Heap->Prop) (J:It) (H':Hp),itv=.ref it/\Inv X pj σ H' s2/\Turn X.prog X.w X.K tg J fp it tn/\tn 0 s2.heap/\(∀b∈fp,HS X pj H' b)/\R J H'
def PI (X:Cx)(tg iter:Expr)(wi:TI):Prop:=
 ∀(pj:Zab) (s:Shared) (σ:St) (H:Hp) (R:It->Hp->Prop),Inv X pj σ H s->wi σ H R ->
  wpAny (model X.prog X.w) X.A (eval iter X.env) (λv s1=>wpAny (model X.prog X.w) X.A (pyIter v) (PIE X pj σ tg R) X.xe s1) X.xe s
def Qj {M:Model}{A:Around}{E:Value->Zaa}{s:Shared}{tg:Expr}{it:Addr}{u:Value}{o:Obj}{n:String}{vs:Array Value}{Q:Unit->Zaa}(ho:s.heap.get? it=some o)(hc:o.cls=.type n)(hd:o.data=.fields vs)
  (hn:["enumerate","zip","dict_itemiterator","dict_reverseitemiterator","odict_iterator","itertools.zip_longest","itertools.pairwise"].contains n=false) (hQ:Q () s):wpAny M A (letOwnedTupleGo tg (.ref it) u) Q E s:=by
 unfold letOwnedTupleGo
 cases tg<;>first
  |exact Ab hQ
  |(cases u<;>first
    |exact Ab hQ
    |(refine Aa (wpAny_load ho ?_);rw[hc,hd];show wpAny M A (if (["enumerate","zip","dict_itemiterator","dict_reverseitemiterator","odict_iterator","itertools.zip_longest","itertools.pairwise"].contains n&&vs[0]?==some (rawInt _))=true then _ else _) Q E s;rw[if_neg (by intro h;rw[hn,Bool.false_and] at h;cases h)];exact Ab hQ))
def Itl (K:W.Frag)(a:Addr):It:=
 ⟨λi H=>∃xs x,SqL K H a xs/\xs[i]?=some x,λi H x H'=>H'=H/\∀xs,SqL K H a xs->xs[i]?=some x,λi H=>∃xs,SqL K H a xs/\xs.length<=i⟩
def Itt (K:W.Frag)(a:Addr):It:=
 ⟨λi H=>∃xs x,SqT K H a xs/\xs[i]?=some x,λi H x H'=>H'=H/\∀xs,SqT K H a xs->xs[i]?=some x,λi H=>∃xs,SqT K H a xs/\xs.length<=i⟩
def Itr (lo:Int)(n:Nat):It:=⟨λi _=>i<n,λi H x H'=>H'=H/\x=.int (lo+i),λi _=>n<=i⟩
def Q7 {P:Program}{w:World}{K:W.Frag}{tg:Expr}(a it:Addr):Turn P w K tg (Itl K a) [it] it (λi h=>h.IsListIter it a i) where
 mem:=by simp
 obj:=λi h st b hb=>by
  have e:b=it:=by simpa using hb
  subst e
  obtain⟨o,e,c,d⟩:=st
  exact⟨o,e,λv z=>by rw[d] at z;cases z⟩
 keep:=λi h h' st k=>st.at λo e=>k it (by simp) o e
 item:=by
  intro X hP hw hK hc i pj s σ H E I hf st hg
  subst hP hw hK
  obtain⟨xs,x,hq,hx⟩:=hg
  obtain⟨its,rv,p,hz⟩:=I.list hq
  obtain⟨u,hu,ru⟩:=rv.get hx
  obtain⟨f0,f1,f2,f3,f4,f5⟩:=hf it (by simp)
  refine wpAny_pyNext_list_item st p.isList (x:=u) (by simpa using hu) λh' st' sb=>?_
  have I1:Inv X pj σ H {s with heap:=h'}:=I.turned (t':=s.toks) (λb o hb e=>(sb.2 b hb).trans e) f0 f1 f3 f4 f5
  obtain⟨o,e,c,d⟩:=id st'
  exact⟨u,rfl,Qj (s:={s with heap:=h'}) e c d (by decide) ⟨x,H,I1,ru,⟨rfl,λys hy=>by rw[I.list_inj hy hq];exact hx⟩,st',λb hb=>(hf b hb).1⟩⟩
 done:=by
  intro X hP hw hK hc i pj s σ H E I hf st hg
  subst hP hw hK
  obtain⟨xs,hq,hx⟩:=hg
  obtain⟨its,rv,p,hz⟩:=I.list hq
  obtain⟨f0,f1,f2,f3,f4,f5⟩:=hf it (by simp)
  have hl:=rv.length
  exact wpAny_pyNext_list_end (I.ok.hd hc) st p.isList (by simp;ext) λh' eb=>⟨rfl,I.turned (t':=s.toks) (λb o hb e=>eb b o hb e) f0 f1 f3 f4 f5⟩
 self:=λ_ _ _ _ _ st h=>wpAny_pyIter_listiter st h
def OM {P:Program}{w:World}{K:W.Frag}{tg:Expr}(a it:Addr):Turn P w K tg (Itt K a) [it] it (λi h=>h.IsTupleIter it a i) where
 mem:=by simp
 obj:=λi h st b hb=>by
  have e:b=it:=by simpa using hb
  subst e
  obtain⟨o,e,c,d⟩:=st
  exact⟨o,e,λv z=>by rw[d] at z;cases z⟩
 keep:=λi h h' st k=>st.at λo e=>k it (by simp) o e
 item:=by
  intro X hP hw hK hc i pj s σ H E I hf st hg
  subst hP hw hK
  obtain⟨xs,x,hq,hx⟩:=hg
  obtain⟨its,rv,p,hz⟩:=I.tuple hq
  obtain⟨u,hu,ru⟩:=rv.get hx
  obtain⟨f0,f1,f2,f3,f4,f5⟩:=hf it (by simp)
  refine wpAny_pyNext_tuple_item st (show s.heap.IsTuple a its.toArray from p) (x:=u) (by simpa using hu) λh' st' sb=>?_
  have I1:Inv X pj σ H {s with heap:=h'}:=I.turned (t':=s.toks) (λb o hb e=>(sb.2 b hb).trans e) f0 f1 f3 f4 f5
  obtain⟨o,e,c,d⟩:=id st'
  exact⟨u,rfl,Qj (s:={s with heap:=h'}) e c d (by decide) ⟨x,H,I1,ru,⟨rfl,λys hy=>by rw[I.tuple_inj hy hq];exact hx⟩,st',λb hb=>(hf b hb).1⟩⟩
 done:=by
  intro X hP hw hK hc i pj s σ H E I hf st hg
  subst hP hw hK
  obtain⟨xs,hq,hx⟩:=hg
  obtain⟨its,rv,p,hz⟩:=I.tuple hq
  obtain⟨f0,f1,f2,f3,f4,f5⟩:=hf it (by simp)
  have hl:=rv.length
  exact wpAny_pyNext_tuple_end (I.ok.hd hc) st (show s.heap.IsTuple a its.toArray from p) (by simp;ext) λh' eb=>⟨rfl,I.turned (t':=s.toks) (λb o hb e=>eb b o hb e) f0 f1 f3 f4 f5⟩
 self:=λ_ _ _ _ _ st h=>wpAny_pyIter_tupleiter st h
def Pd {P:Program}{w:World}{K:W.Frag}{tg:Expr}(it:Addr)(lo:Int)(n:Nat):Turn P w K tg (Itr lo n) [it] it (λi h=>IsRangeIter h it (lo+(i:Nat)*1) ((n:Int)-(i:Nat)) 1) where
 mem:=by simp
 obj:=λi h st b hb=>by
  have e:b=it:=by simpa using hb
  subst e
  exact⟨_,st,λv z=>by
   have z':Data.fields _=Data.cell v:=z
   cases z'⟩
 keep:=λi h h' st k=>k it (by simp) _ st
 item:=by
  intro X hP hw hK hc i pj s σ H E I hf st hg
  subst hP hw hK
  obtain⟨f0,f1,f2,f3,f4,f5⟩:=hf it (by simp)
  have W:=Walks.range (prog:=X.prog) (w:=X.w) (I.ok.hd hc) it lo 1 n
  refine W.item i s _ _ hg st λv h' tk hv st' kk=>?_
  obtain⟨t,rfl⟩:=hv
  have I1:Inv X pj σ H {s with heap:=h',toks:=tk}:=I.turned (λb o hb e=>kk b o (by simpa using hb) e) f0 f1 f3 f4 f5
  refine⟨_,rfl,Qj (s:={s with heap:=h',toks:=tk}) (n:="range_iterator") st' rfl rfl (by decide) ⟨.int (lo+i),H,I1,⟨t,?_⟩,⟨rfl,rfl⟩,st',λb hb=>(hf b hb).1⟩⟩
  rw[Int.mul_one]
 done:=by
  intro X hP hw hK hc i pj s σ H E I hf st hg
  subst hP hw hK
  obtain⟨f0,f1,f2,f3,f4,f5⟩:=hf it (by simp)
  exact wpAny_pyNext_range_end (I.ok.hd hc) st (by have:n<=i:=hg;ext) λh' eb=>⟨rfl,I.turned (t':=s.toks) (λb o hb e=>eb b o hb e) f0 f1 f3 f4 f5⟩
 self:=λ_ _ _ _ _ st h=>wpAny_pyIter_rangeiter st h
section
variable {X:Cx}{tg:Expr}
def Aat (K:W.Frag)(tl:TE):TI:=fun σ H R=>tl σ H λx H1=>∃a,x=.ref a/\(∃xs,SqL K H1 a xs)/\R (Itl K a) H1
def AbG (K:W.Frag)(tl:TE):TI:=fun σ H R=>tl σ H λx H1=>∃a,x=.ref a/\(∃xs,SqT K H1 a xs)/\R (Itt K a) H1
def Qd {l:Expr}{tl:TE}(hl:PE X l tl):PI X tg l (Aat X.K tl):=by
 intro pj s σ H R I h
 refine thn (hl pj s σ H _ I h) λv s1 ⟨x,H1,I1,r1,q1⟩=>?_
 obtain⟨a,e,⟨xs,hq⟩,q⟩:=q1
 subst e
 cases r1
 obtain⟨its,rv,p,hz⟩:=I1.list hq
 refine wpAny_pyIter_list p.isList ?_
 refine⟨s1.heap.objs.size,[s1.heap.objs.size],_,_,H1,rfl,I1.kept (t':=s1.toks) λb o e=>Ac _ e,Q7 a _,⟨_,Ag _ rfl,rfl,rfl⟩,λb hb=>?_,q⟩
 have e:b=s1.heap.objs.size:=by simpa using hb
 subst e
 exact I1.fpOk (Ae _) (I1.hok.fresh (Ae _))
def WL {l:Expr}{tl:TE}(hl:PE X l tl):PI X tg l (AbG X.K tl):=by
 intro pj s σ H R I h
 refine thn (hl pj s σ H _ I h) λv s1 ⟨x,H1,I1,r1,q1⟩=>?_
 obtain⟨a,e,⟨xs,hq⟩,q⟩:=q1
 subst e
 cases r1
 obtain⟨its,rv,p,hz⟩:=I1.tuple hq
 refine wpAny_pyIter_tuple (show s1.heap.IsTuple a its.toArray from p) ?_
 refine⟨s1.heap.objs.size,[s1.heap.objs.size],_,_,H1,rfl,I1.kept (t':=s1.toks) λb o e=>Ac _ e,OM a _,⟨_,Ag _ rfl,rfl,rfl⟩,λb hb=>?_,q⟩
 have e:b=s1.heap.objs.size:=by simpa using hb
 subst e
 exact I1.fpOk (Ae _) (I1.hok.fresh (Ae _))
def RO {pj:Zab}{σ:St}{H:Hp}{s:Shared}{R:It->Hp->Prop}{E:Value->Zaa}{lo hi:Int}{t u v:Tok}{tk:Nat}(I:Inv X pj σ H s)(h1:-(2 ^ 62)<=lo)(h2:lo<2 ^ 62)(h3:-(2 ^ 62)<=hi)(h4:hi<2 ^ 62)
  (q:R (Itr lo (hi-lo).toNat) H):wpAny (model X.prog X.w) X.A (pyIter (.ref s.heap.objs.size)) (PIE X pj σ tg R) E {s with heap:=s.heap.push {cls:=.type "range",data:=.fields #[.int lo t,.int hi u,.int 1 v]},toks:=tk}:=by
 refine wpAny_pyIter_range (IsRange.new ..) (small_one h1 h2 h3 h4) ?_
 have I1:Inv X pj σ H {s with heap:=s.heap.push {cls:=.type "range",data:=.fields #[.int lo t,.int hi u,.int 1 v]},toks:=tk}:=I.kept λb o e=>Ac _ e
 refine⟨(s.heap.push {cls:=.type "range",data:=.fields #[.int lo t,.int hi u,.int 1 v]}).objs.size,[(s.heap.push {cls:=.type "range",data:=.fields #[.int lo t,.int hi u,.int 1 v]}).objs.size],_,_,H,rfl,
  I1.kept (t':=tk) λb o e=>Ac _ e,Pd _ lo (hi-lo).toNat,?_,λb hb=>?_,q⟩
 ·have e1:lo+((0:Nat):Int)*1=lo:=by simp
  have e2:(((hi-lo).toNat:Nat):Int)-((0:Nat):Int)=Builtin.Range.rangeSize lo hi 1:=by rw[rangeSize_one];split<;>ext
  show IsRangeIter _ _ (lo+((0:Nat):Int)*1) ((((hi-lo).toNat:Nat):Int)-((0:Nat):Int)) 1
  rw[e1,e2]
  exact Ag _ rfl
 ·have e:b=(s.heap.push {cls:=.type "range",data:=.fields #[.int lo t,.int hi u,.int 1 v]}).objs.size:=by simpa using hb
  subst e
  exact I1.fpOk (Ae _) (I1.hok.fresh (Ae _))
def AaA (ta:TA):TI:=fun σ H R=>ta σ H λvs H1=>∃j:Int,vs=[.int j]/\-(2 ^ 62)<=j/\j<2 ^ 62/\R (Itr 0 j.toNat) H1
theorem Ra {a:Expr}{ta:TA}{p pos:Pos}(hg:Gl X "range")(hm:X.mg "range"=none)(ha:PA X [a] ta)(hs:starEach [a] X.env=[(false,eval a X.env)]:=by rfl):PI X tg (.Call (.Name "range" p) [a] [] pos) (AaA ta):=by
 intro pj s σ H R I h
 refine Call_ (Lp I hg hm boot_range (Cg (thn (ha pos pj s σ H _ I h) λus s1 ⟨vs,H1,I1,r1,q1⟩=>?_) hs rfl))
 obtain⟨j,e,q1,q2,q⟩:=q1
 subst e
 cases r1 with
 |cons r rr =>
  cases rr
  obtain⟨t,rfl⟩:=r
  exact call_range_1 (RO I1 (by ext) (by ext) q1 q2 (by simpa using q))
def AbP (wi:TI)(g:TG)(tb:TS):TS:=λD σ H=>wi σ H λJ H1=>∃W:Nat->Nat->St->Hp->Prop,(∃m,W 0 m σ H1)/\∀i m σ H,W i m σ H ->
 (J.stop i H/\D.nx σ H)\/(J.go i H/\∃N:St->Hp->Prop,(∀σ' H',N σ' H'->∃m',m'<m/\W (i+1) m' σ' H')/\∀x H',J.yld i H x H'->g x σ H' fun σ2 H2=>tb {D with nx:=N,ct:=N,bk:=D.nx} σ2 H2)
def IU (fp:List Addr)(h:Heap):Zab:=fp.filterMap λb=>(h.get? b).map λo=>(b,o)
def Hy {fp:List Addr}{h:Heap}{b:Addr}{o:Obj}(hb:b∈fp)(e:h.get? b=some o):(b,o)∈IU fp h:=List.mem_filterMap.mpr ⟨b,hb,by rw[e];rfl⟩
theorem LQ {fp:List Addr}{h:Heap}{p:Addr×Obj}(hp:p∈IU fp h):p.1∈fp/\h.get? p.1=some p.2:=by
 obtain⟨b,hb,e⟩:=List.mem_filterMap.mp hp
 cases q:h.get? b with
 |none=>rw[q] at e;cases e
 |some o =>
  rw[q] at e
  have e':(b,o)=p:=AR e
  subst e'
  exact⟨hb,q⟩
def Inv.pinned {pj:Zab}{σ:St}{H:Hp}{s:Shared}{fp:List Addr}(I:Inv X pj σ H s)(hf:∀b∈fp,HS X pj H b)(ho:∀b∈fp,∃o,s.heap.get? b=some o/\∀v,o.data≠.cell v):Inv X (pj++IU fp s.heap) σ H s:=
 I.pins_of λp hp=>(AF.mp hp).elim (λz=>I.pin p (Aq _ z)) λz=>by
  obtain⟨hb,e⟩:=LQ z
  obtain⟨f0,f1,f2,_⟩:=hf p.1 hb
  obtain⟨o,e',d⟩:=ho p.1 hb
  rw[e] at e';cases e'
  exact⟨e,f0,f1,f2,d⟩
def Inv.unpinned {pj pl:Zab}{σ:St}{H:Hp}{s:Shared}(I:Inv X (pj++pl) σ H s):Inv X pj σ H s:=I.pins_of λp hp=>I.pin p (Aq _ (A0 _ hp))
def W6 {iter:Expr}{body:List Stmt}{wi:TI}{g:TG}{tb:TS}{pos:Pos}(hp:PassesOwn (model X.prog X.w) X.A X.env X.xe)(hc:X.calm=true)(hi:PI X tg iter wi)(hg:PG X tg g)(hb:PSs X body tb)
  (hs:∀x,foldedSetIterable iter X.env x=pure x:=by intro _;rfl):PS X (.For tg iter body [] pos) (AbP wi g tb):=by
 intro pj s σ H D I h
 refine wpAny_For (thn (hi pj s σ H _ I h) λv s1 h1=>thn h1 λitv s2 h2=>?_) hs
 obtain⟨it,fp,tn,J,H2,e,I2,T,st2,f2,W,⟨m0,w0⟩,turn⟩:=h2
 subst e
 have stat:∀{H':Hp},(∀b∈fp,H' b=none)->∀b∈fp,HS X pj H' b:=λhn b hb=>⟨hn b hb,(f2 b hb).2⟩
 refine codeAny_forLoop_any (λn s'=>∃i σ' H',Inv X pj σ' H' s'/\tn i s'.heap/\(∀b∈fp,H' b=none)/\W i n σ' H') ?_ m0 ⟨0,σ,H2,I2,st2,λb hb=>(f2 b hb).1,w0⟩
 rintro n s3 ⟨i,σ3,H3,I3,st3,fr3,w3⟩
 rcases turn i n σ3 H3 w3 with⟨stop,qn⟩|⟨go,N,hN,step⟩
 ·refine wpAny_passesOwn hp (thn (T.done X rfl rfl rfl hc i pj s3 σ3 H3 X.xe I3 (stat fr3) st3 stop) λr s4 ⟨hr,I4⟩=>?_)
  subst hr
  exact wpAny_execs_nil ⟨σ3,H3,I4,qn⟩
 ·refine wpAny_passesOwn hp (thn (T.item X rfl rfl rfl hc i pj s3 σ3 H3 X.xe I3 (stat fr3) st3 go) λr s4 ⟨u,hr,h4⟩=>?_)
  subst hr
  refine wpAny_passesOwn hp (thn h4 λ_ s5 ⟨x,H5,I5,r5,y5,st5,fr5⟩=>?_)
  have I5':=I5.pinned (stat fr5) (T.obj _ _ st5)
  refine wpAny_passesOwn hp (thn (hg _ s5 σ3 H5 x u _ I5' r5 (step x H5 y5)) λ_ s6 ⟨σ6,H6,I6,q6⟩=>?_)
  refine wpAny_passesOwn hp (thn (hb _ s6 σ6 H6 _ I6 q6) λf s7 q7=>?_)
  have again:∀{σ7:St}{H7:Hp},Inv X (pj++IU fp s5.heap) σ7 H7 s7->N σ7 H7->∃m,m<n/\∃i σ' H',Inv X pj σ' H' s7/\tn i s7.heap/\(∀b∈fp,H' b=none)/\W i m σ' H':=λ{σ7 H7} I7 n7=>by
   obtain⟨m',hm,w7⟩:=hN σ7 H7 n7
   refine⟨m',hm,i+1,σ7,H7,I7.unpinned,T.keep _ _ _ st5 λb hb o e=>(I7.pin (b,o) (Aq _ (Aq _ (Hy hb e)))).1,λb hb=>?_,w7⟩
   obtain⟨o,e,d⟩:=T.obj _ _ st5 b hb
   exact(I7.pin (b,o) (Aq _ (Aq _ (Hy hb e)))).2.1
  cases f with
  |next=>obtain⟨σ7,H7,I7,n7⟩:=q7;exact again I7 n7
  |cont=>obtain⟨σ7,H7,I7,n7⟩:=q7;exact again I7 n7
  |brk=>obtain⟨σ7,H7,I7,q7⟩:=q7;exact⟨σ7,H7,I7.unpinned,q7⟩
  |ret v=>obtain⟨x7,σ7,H7,I7,r7,q7⟩:=q7;exact⟨x7,σ7,H7,I7.unpinned,r7,q7⟩
end
abbrev R2:=V->V->Hp->VK->Prop
def OpR (X:Cx)(f:Value->Value->Sem Value)(r:R2):Prop:=
 ∀(pj:Zab) (s:Shared) (σ:St) (H:Hp) (x y:V) (v u:Value) (Q:VK),Inv X pj σ H s->RelV x v->RelV y u->r x y H Q ->
  wpAny (model X.prog X.w) X.A (f v u) (EP X pj σ Q) X.xe s
def UnR (X:Cx)(f:Value->Sem Value)(r:V->Hp->VK->Prop):Prop:=
 ∀(pj:Zab) (s:Shared) (σ:St) (H:Hp) (x:V) (v:Value) (Q:VK),Inv X pj σ H s->RelV x v->r x H Q ->
  wpAny (model X.prog X.w) X.A (f v) (EP X pj σ Q) X.xe s
def Hj (X:Cx)(f:Value)(r:List V->Hp->VK->Prop):Prop:=
 ∀(pj:Zab) (s:Shared) (σ:St) (H:Hp) (xs:List V) (us:List Value) (Q:VK),Inv X pj σ H s->Vals xs us->r xs H Q ->
  wpAny (model X.prog X.w) X.A (call f us) (EP X pj σ Q) X.xe s
def AbA (X:Cx)(r:V->Hp->(Bool->Hp->Prop)->Prop):Prop:=
 ∀(pj:Zab) (s:Shared) (σ:St) (H:Hp) (x:V) (v:Value) (Q:Bool->Hp->Prop),Inv X pj σ H s->RelV x v->r x H Q ->
  wpAny (model X.prog X.w) X.A (truthy v) (TP X pj σ Q) X.xe s
def tOp (r:R2)(ta tb:TE):TE:=fun σ H Q=>ta σ H λx H1=>tb σ H1 λy H2=>r x y H2 Q
def tUn (r:V->Hp->VK->Prop)(ta:TE):TE:=fun σ H Q=>ta σ H λx H1=>r x H1 Q
def rI (C:Int->Int->Prop)(g:Int->Int->V):R2:=λx y H Q=>∃i j,x=.int i/\y=.int j/\C i j/\Q (g i j) H
def rI0 (g:Int->Int->V):R2:=λx y H Q=>∃i j,x=.int i/\y=.int j/\Q (g i j) H
def rU (g:Int->V):V->Hp->VK->Prop:=λx H Q=>∃i,x=.int i/\Q (g i) H
section
variable {X:Cx}{a b c:Expr}{ta tb tc:TE}{pos:Pos}
def Yl (ha:PE X a ta)(hb:PE X b tb){pj:Zab}{s:Shared}{σ:St}{H:Hp}{R:V->V->Hp->Prop}(I:Inv X pj σ H s)
  (h:ta σ H λx H1=>tb σ H1 λy H2=>R x y H2){Q:Value->Zaa}{f:Value->Value->Sem Value}
  (hf:∀v u s2 x y H2,Inv X pj σ H2 s2->RelV x v->RelV y u->R x y H2->wpAny (model X.prog X.w) X.A (f v u) Q X.xe s2) :
  wpAny (model X.prog X.w) X.A (eval a X.env) (λv s₁=>wpAny (model X.prog X.w) X.A (eval b X.env) (λu s₂=>wpAny (model X.prog X.w) X.A (f v u) Q X.xe s₂) X.xe s₁) X.xe s:=by
 refine thn (ha pj s σ H _ I h) λv s1 ⟨x,H1,I1,r1,q1⟩=>?_
 refine thn (hb pj s1 σ H1 _ I1 q1) λu s2 ⟨y,H2,I2,r2,q2⟩=>?_
 exact hf v u s2 x y H2 I2 r1 r2 q2
def ZY {op:Operator}{r:R2}(ho:OpR X (binaryOp op) r)(ha:PE X a ta)(hb:PE X b tb):PE X (.BinOp a op b pos) (tOp r ta tb):=by
 intro pj s σ H Q I h
 exact wpAny_BinOp (Yl ha hb I h λv u s2 x y H2 I2 rx ry q=>ho pj s2 σ H2 x y v u Q I2 rx ry q)
def Wh {op:UnaryOp}{r:V->Hp->VK->Prop}(ho:UnR X (unaryOp op) r)(ha:PE X a ta):PE X (.UnaryOp op a pos) (tUn r ta):=by
 intro pj s σ H Q I h
 exact UnaryOp_ (thn (ha pj s σ H _ I h) λv s1 ⟨x,H1,I1,r1,q1⟩=>ho pj s1 σ H1 x v Q I1 r1 q1)
def opI {f:Value->Value->Sem Value}{C:Int->Int->Prop}{g:Int->Int->Int}
  (rule:∀(i j:Int) (t u:Tok) (s:Shared) (Q:Value->Zaa) (E:Value->Zaa),C i j->Q (.int (g i j) s.toks) {s with toks:=s.toks+1}->wpAny (model X.prog X.w) X.A (f (.int i t) (.int j u)) Q E s) :
  OpR X f (rI C λi j=>.int (g i j)):=by
 intro pj s σ H x y v u Q I rx ry h
 obtain⟨i,j,rfl,rfl,hc,q⟩:=h
 obtain⟨t,rfl⟩:=rx
 obtain⟨t',rfl⟩:=ry
 exact rule i j t t' s _ _ hc ⟨.int (g i j),H,I.tok _,⟨_,rfl⟩,q⟩
def AaD {f:Value->Value->Sem Value}{g:Int->Int->Int}
  (rule:∀(i j:Int) (t u:Tok) (s:Shared) (Q:Value->Zaa) (E:Value->Zaa),Q (.int (g i j) s.toks) {s with toks:=s.toks+1}->wpAny (model X.prog X.w) X.A (f (.int i t) (.int j u)) Q E s) :
  OpR X f (rI0 λi j=>.int (g i j)):=by
 intro pj s σ H x y v u Q I rx ry h
 obtain⟨i,j,rfl,rfl,q⟩:=h
 obtain⟨t,rfl⟩:=rx
 obtain⟨t',rfl⟩:=ry
 exact rule i j t t' s _ _ ⟨.int (g i j),H,I.tok _,⟨_,rfl⟩,q⟩
def Aaw {f:Value->Value->Sem Value}{g:Int->Int->Bool}
  (rule:∀(i j:Int) (t u:Tok) (s:Shared) (Q:Value->Zaa) (E:Value->Zaa),Q (.bool (g i j)) s->wpAny (model X.prog X.w) X.A (f (.int i t) (.int j u)) Q E s) :
  OpR X f (rI0 λi j=>.bl (g i j)):=by
 intro pj s σ H x y v u Q I rx ry h
 obtain⟨i,j,rfl,rfl,q⟩:=h
 obtain⟨t,rfl⟩:=rx
 obtain⟨t',rfl⟩:=ry
 exact rule i j t t' s _ _ ⟨.bl (g i j),H,I,rfl,q⟩
def MU (i j:Int):Prop:=0<j/\j<1073741824
def QB (i j:Int):Prop:=0<=j/\j<=1000000/\i.natAbs<2 ^ 64
def CMul (i j:Int):Prop:=(-(2 ^ 64)<i/\i<2 ^ 64)\/(-(2 ^ 64)<j/\j<2 ^ 64)
def CMul.ok {i j:Int}(h:CMul i j):IntMulOk i j:=by
 rcases h with⟨h1,h2⟩|⟨h1,h2⟩
 ·exact .of_left (intBits_le_64 h1 h2)
 ·exact .of_right (intBits_le_64 h1 h2)
def YT:OpR X (binaryOp .Add) (rI0 λi j=>.int (i+j)):=AaD λ_ _ _ _ _ _ _ q=>add_int q
def XX:OpR X (binaryOp .Sub) (rI0 λi j=>.int (i-j)):=AaD λ_ _ _ _ _ _ _ q=>sub_int q
def YL:OpR X (binaryOp .Mult) (rI CMul λi j=>.int (i*j)):=opI λ_ _ _ _ _ _ _ hc q=>mul_int q hc.ok
def VX:OpR X (binaryOp .FloorDiv) (rI MU λi j=>.int (i / j)):=opI λi j _ _ _ _ _ hc q=>by
 have h1:(0:Int)<j:=hc.1
 have h2:j<1073741824:=hc.2
 exact floordiv_int (by ext) (by rw[Int.fdiv_eq_ediv_of_nonneg i (by ext)];exact q) (.inl (PyProof.noPylong_small (by ext)))
def XG:OpR X (binaryOp .Mod) (rI (λ_ j=>0<j) λi j=>.int (i % j)):=opI λi j _ _ _ _ _ hc q=>by
 have h1:(0:Int)<j:=hc
 exact mod_int' (by ext) (by rw[Int.fmod_eq_emod_of_nonneg i (by ext)];exact q)
def YI:OpR X (binaryOp .Pow) (rI QB λi j=>.int (i ^ j.toNat)):=opI λ_ _ _ _ _ _ _ hc q=>pow_int_small hc.1 hc.2.1 hc.2.2 q
def unI {f:Value->Sem Value}{g:Int->Int}
  (rule:∀(i:Int) (t:Tok) (s:Shared) (Q:Value->Zaa) (E:Value->Zaa),Q (.int (g i) s.toks) {s with toks:=s.toks+1}->wpAny (model X.prog X.w) X.A (f (.int i t)) Q E s) :
  UnR X f (rU λi=>.int (g i)):=by
 intro pj s σ H x v Q I rx h
 obtain⟨i,rfl,q⟩:=h
 obtain⟨t,rfl⟩:=rx
 exact rule i t s _ _ ⟨.int (g i),H,I.tok _,⟨_,rfl⟩,q⟩
def Rr:UnR X (unaryOp .USub) (rU λi=>.int (-i)):=unI λ_ _ _ _ _ q=>neg_int q
def MW {pj:Zab}{σ:St}{H:Hp}{s:Shared}{Q:VK}{k k':Bool}(I:Inv X pj σ H s)(q:Q (.bl k) H)(e:k=k'):EP X pj σ Q (.bool k') s:=by
 subst e
 exact⟨.bl k,H,I,rfl,q⟩
def AaM:OpR X (compareOp .Gt) (rI0 λi j=>.bl (decide (j<i))):=Aaw λ_ _ _ _ _ _ _ q=>gt_int q
def Z6:OpR X (compareOp .GtE) (rI0 λi j=>.bl (decide (j<=i))):=Aaw λ_ _ _ _ _ _ _ q=>ge_int q
def QG:OpR X (compareOp .In) (λx y H Q=>∃i j,x=.str i/\y=.str j/\Q (.bl (!(Builtin.Str.occurrences j i 0 j.length 1).isEmpty)) H):=by
 intro pj s σ H x y v u Q I rx ry h
 obtain⟨i,j,rfl,rfl,q⟩:=h
 obtain⟨t,rfl⟩:=rx
 obtain⟨t',rfl⟩:=ry
 exact in_str (MW I q rfl)
def XI:OpR X (compareOp .Is) (λx y H Q=>y=.non/\Q (.bl (decide (x=.non))) H):=by
 intro pj s σ H x y v u Q I rx ry h
 obtain⟨rfl,q⟩:=h
 cases ry
 refine is_none_gen (MW I q ?_)
 cases x<;>first
  |(cases rx;rfl)
  |(obtain⟨t,rfl⟩:=rx;rfl)
def Mn:OpR X (compareOp .NotIn) (λx y H Q=>∃i j,x=.str i/\y=.str j/\Q (.bl (!(!(Builtin.Str.occurrences j i 0 j.length 1).isEmpty))) H):=by
 intro pj s σ H x y v u Q I rx ry h
 obtain⟨i,j,rfl,rfl,q⟩:=h
 obtain⟨t,rfl⟩:=rx
 obtain⟨t',rfl⟩:=ry
 exact notIn_str (MW I q rfl)
def T2 (b:Expr){op:CmpOp}(h:op≠.In:=by decide)(h2:op≠.NotIn:=by decide):behindInMarks op b=false:=by
 have e1:(op==CmpOp.In)=false:=by cases op<;>first|rfl|exact absurd rfl h
 have e2:(op==CmpOp.NotIn)=false:=by cases op<;>first|rfl|exact absurd rfl h2
 cases b<;>simp[behindInMarks,e1,e2]
def Uu {op:CmpOp}{r:R2}(ho:OpR X (compareOp op) r)(ha:PE X a ta)(hb:PE X b tb)(hm:behindInMarks op b=false):PE X (.Compare a [op] [b] pos) (tOp r ta tb):=by
 intro pj s σ H Q I h
 exact wpAny_Compare1 (Yl ha hb I h λv u s2 x y H2 I2 rx ry q=>ho pj s2 σ H2 x y v u Q I2 rx ry q) hm
def Wd (t:TE):TT:=fun σ H Q=>t σ H λx H'=>∃k,x=.bl k/\Q k H'
def Vz {op:CmpOp}{r:R2}(ho:OpR X (compareOp op) r)(ha:PE X a ta)(hb:PE X b tb)(hm:behindInMarks op b=false):PT X (.Compare a [op] [b] pos) (Wd (tOp r ta tb)):=by
 intro pj s σ H Q I h
 refine wpAny_isTrue_Compare1 (thn (ha pj s σ H _ I h) λv s1 ⟨x,H1,I1,r1,q1⟩=>thn (hb pj s1 σ H1 _ I1 q1) λu s2 ⟨y,H2,I2,r2,q2⟩ =>
  thn (ho pj s2 σ H2 x y v u _ I2 r1 r2 q2) λc s3 ⟨z,H3,I3,r3,k,e,q3⟩=>?_) hm
 subst e
 cases r3
 exact BQ ⟨H3,I3,q3⟩
def Z4 (K:W.Frag)(x:V)(H:Hp)(k:Bool):Prop:=
 match x with
 |.non=>k=false
 |.bl b=>k=b
 |.int i=>k=(i != 0)
 |.str y=>y.length<=sizeLine/\k=((y.length:Int) != 0)
 |.byt y=>y.size<=sizeLine/\k=((y.size:Int) != 0)
 |.ref p=>(∃xs,SqL K H p xs/\k = !xs.isEmpty)\/(∃xs,SqT K H p xs/\k = !xs.isEmpty)\/∃kvs,H p=some (.dK kvs)/\k = !kvs.isEmpty
 |_=>False
def O0 {κ:Type}{kvs:List (κ×V)}{vs:List (κ×Value)}(r:KV kvs vs):(!vs.isEmpty) = !kvs.isEmpty:=by
 cases r<;>rfl
def KU {xs:List V}{its:List Value}(r:Vals xs its):(!its.toArray.isEmpty) = !xs.isEmpty:=by
 cases r<;>simp
def Jb:(sizeLine:Nat)<2 ^ 63:=by rw[AH];decide
theorem Yb:AbA X (λx H Q=>∃k,Z4 X.K x H k/\Q k H):=by
 intro pj s σ H x v Q I rx h
 obtain⟨k,e,q⟩:=h
 have hl:=Jb
 have hs:sizeLine=16777216:=AH
 cases x with
 |non =>
  cases rx
  have e':k=false:=e
  subst e'
  exact truthy_none ⟨H,I,q⟩
 |bl b =>
  cases rx
  have e':k=b:=e
  subst e'
  exact BQ ⟨H,I,q⟩
 |int i =>
  obtain⟨t,rfl⟩:=rx
  have e':k=(i != 0):=e
  subst e'
  exact PySem.P.truthy_int ⟨H,I,q⟩
 |str y =>
  obtain⟨t,rfl⟩:=rx
  obtain⟨hy,e'⟩:y.length<=sizeLine/\k=((y.length:Int) != 0):=e
  subst e'
  exact PySem.P.truthy_str (by ext) ⟨H,I.tok _,q⟩
 |byt y =>
  obtain⟨t,rfl⟩:=rx
  obtain⟨hy,e'⟩:y.size<=sizeLine/\k=((y.size:Int) != 0):=e
  subst e'
  exact W.truthy_bytes (by ext) ⟨H,I.tok _,q⟩
 |ref p =>
  cases rx
  have e':(∃xs,SqL X.K H p xs/\k = !xs.isEmpty)\/(∃xs,SqT X.K H p xs/\k = !xs.isEmpty)\/∃kvs,H p=some (.dK kvs)/\k = !kvs.isEmpty:=e
  rcases e' with⟨xs,hx,e'⟩|⟨xs,hx,e'⟩|⟨kvs,hx,e'⟩
  ·subst e'
   obtain⟨its,r,pl,hz⟩:=I.list hx
   have hlen:=r.length
   exact wpAny_truthy_list pl.isList (by simp only[Ar];ext) ⟨H,I.tok _,by rw[KU r];exact q⟩
  ·subst e'
   obtain⟨its,r,pl,hz⟩:=I.tuple hx
   have hlen:=r.length
   exact truthy_tuple pl (by simp only[Ar];ext) ⟨H,I.tok _,by rw[KU r];exact q⟩
  ·subst e'
   obtain⟨hz,hS,vs,r,m⟩:kvs.length<=sizeLine/\(p==sysModules)=false/\∃vs,KV kvs vs/\s.heap.DictOf (MH X.prog X.w) p vs:=I.hok p _ hx
   have hlen:kvs.length=vs.length:=Paired.length r
   exact wpAny_truthy_dict hS m (by ext) ⟨H,I.tok _,by rw[O0 r];exact q⟩
 |_=>exact(show False from e).elim
def Ry (ha:PE X a ta)(he:∀whole,isTrue a X.env whole=(do let v<-whole;standAt a.pos;holding [v] (truthy v))) :
  PT X a (fun σ H Q=>ta σ H λx H'=>∃k,Z4 X.K x H' k/\Q k H'):=by
 intro pj s σ H Q I h
 exact isTrue_plain (thn (ha pj s σ H _ I h) λv s1 ⟨x,H1,I1,r1,q1⟩=>Yb pj s1 σ H1 x v Q I1 r1 q1) (he _)
def OC:OpR X (binaryOp .Add) (λx y H Q=>∃i j,x=.str i/\y=.str j/\i.length+j.length<=sizeLine/\Q (.str (i++j)) H):=by
 intro pj s σ H x y v u Q I rx ry h
 obtain⟨i,j,rfl,rfl,hz,q⟩:=h
 obtain⟨t,rfl⟩:=rx
 obtain⟨t',rfl⟩:=ry
 exact add_str (λt' tk=>⟨.str (i++j),H,I.tok _,⟨_,rfl⟩,q⟩) hz
theorem vals1 {x:V}{us:List Value}(r:Vals [x] us):∃u,us=[u]/\RelV x u:=by
 cases r with
 |cons r1 r2=>cases r2;exact⟨_,rfl,r1⟩
theorem vals2 {x y:V}{us:List Value}(r:Vals [x,y] us):∃u w',us=[u,w']/\RelV x u/\RelV y w':=by
 cases r with
 |cons r1 r2 =>
  cases r2 with
  |cons r3 r4=>cases r4;exact⟨_,_,rfl,r1,r3⟩
def Q8 (hc:X.calm=true):Hj X (.builtin "max") (λxs H Q=>∃i j,xs=[.int i,.int j]/\Q (.int (if j > i then j else i)) H):=by
 intro pj s σ H xs us Q I r h
 obtain⟨i,j,rfl,q⟩:=h
 obtain⟨u,w',rfl,⟨t,rfl⟩,⟨t',rfl⟩⟩:=vals2 r
 refine max_two_ints (I.ok.hd hc) λh' tk k=>⟨_,H,I.kept k,?_,q⟩
 by_cases hj:j > i
 ·rw[if_pos hj,if_pos hj];exact⟨_,rfl⟩
 ·rw[if_neg hj,if_neg hj];exact⟨_,rfl⟩
def QZ (hc:X.calm=true):Hj X (.builtin "min") (λxs H Q=>∃i j,xs=[.int i,.int j]/\Q (.int (if j<i then j else i)) H):=by
 intro pj s σ H xs us Q I r h
 obtain⟨i,j,rfl,q⟩:=h
 obtain⟨u,w',rfl,⟨t,rfl⟩,⟨t',rfl⟩⟩:=vals2 r
 refine min_two_ints (I.ok.hd hc) λh' tk k=>⟨_,H,I.kept k,?_,q⟩
 by_cases hj:j<i
 ·rw[if_pos hj,if_pos hj];exact⟨_,rfl⟩
 ·rw[if_neg hj,if_neg hj];exact⟨_,rfl⟩
def LS:Hj X (.type "int") (λxs H Q=>(∃i,xs=[.int i]/\Q (.int i) H)\/∃k,xs=[.bl k]/\Q (.int (if k then 1 else 0)) H):=by
 intro pj s σ H xs us Q I r h
 rcases h with⟨i,rfl,q⟩|⟨k,rfl,q⟩
 ·obtain⟨u,rfl,t,rfl⟩:=vals1 r
  exact call_int_int ⟨.int i,H,I,⟨_,rfl⟩,q⟩
 ·obtain⟨u,rfl,r1⟩:=vals1 r
  cases r1
  exact call_int_bool ⟨.int (if k then 1 else 0),H,I.tok _,⟨_,rfl⟩,q⟩
end
structure Room (k:Nat) (A:Around):Prop where
 hd:A.handled=none
 dp:A.depth+3*k+5<recursionLimit
 un:A.units+16*k+200<cLine
 gd:A.guards=some []
def Room.mono {j k:Nat}{A:Around}(r:Room k A)(h:j<=k):Room j A:=⟨r.hd,by have:=r.dp;ext,by have:=r.un;ext,r.gd⟩
theorem Room.deeper {k:Nat}{A:Around}(r:Room (k+1) A)(env:Env):Room k (A.deeper env):=
 ⟨r.hd,by have:=r.dp;show A.depth+1+3*k+5<_;ext,by have:=r.un;show A.units+3+16*k+200<_;ext,r.gd⟩
theorem Room.depth {k:Nat}{A:Around}(r:Room k A):A.depth<recursionLimit:=by have:=r.dp;ext
theorem Room.units {k:Nat}{A:Around}(r:Room k A):A.units+64<cLine:=by have:=r.un;ext
def Abk:TA:=λ_ H Q=>Q [] H
def TL (ta:TE)(tr:TA):TA:=fun σ H Q=>ta σ H λx H1=>tr σ H1 λxs H2=>Q (x::xs) H2
section
variable {X:Cx}{e:Expr}{es:List Expr}{te:TE}{t:TA}{pos:Pos}
def S1:PA X [] Abk:=λ_ _ _ _ H Q I h=>Calls.spliced_nil ⟨[],H,I,.nil,h⟩
def PB (ha:PE X e te)(hr:PA X es t)(hs:starEach (e::es) X.env=(false,eval e X.env)::starEach es X.env:=by rfl):PA X (e::es) (TL te t):=by
 intro pos pj s σ H Q I h
 rw[hs]
 show wpAny _ _ (spliced ((false,eval e X.env)::backTo pos (starEach es X.env))) _ _ s
 refine Calls.spliced_cons (thn (ha pj s σ H _ I h) λu s1 ⟨x,H1,I1,r1,q1⟩=>?_)
 exact thn (hr pos pj s1 σ H1 _ I1 q1) λus s2 ⟨xs,H2,I2,r2,q2⟩=>⟨x::xs,H2,I2,.cons r1 r2,q2⟩
def AbD (t:TA):TE:=fun σ H Q=>t σ H λxs H1=>xs.length<=sizeLine/\∀p,H1 p=none->Q (.ref p) (upd H1 p (.tup xs))
def Abm (t:TA):TE:=fun σ H Q=>t σ H λxs H1=>xs.length<=sizeLine/\∀p,H1 p=none->Q (.ref p) (upd H1 p (.lst xs))
def WE {x1}(h:PA X es t):PE X (.Tuple es x1 pos) (AbD t):=by
 intro pj s σ H Q I hq
 refine wpAny_Tuple_spliced (thn (h pos pj s σ H _ I hq) λus s1 ⟨xs,H1,I1,r,z,q⟩=>⟨by rw[<- r.length];exact z,?_⟩)
 have hf:H1 s1.heap.objs.size=none:=I1.hok.fresh (Ae _)
 refine⟨.ref s1.heap.objs.size,upd H1 s1.heap.objs.size (.tup xs),I1.laid (t':=s1.toks) (λb u e=>Ac _ e) (Ae _) ?_,rfl,q _ hf⟩
 exact⟨⟨z,⟨_,Ag _ rfl,rfl⟩⟩,us,r,⟨_,Ag _ rfl,rfl,_,rfl⟩⟩
def Te (h:PA X es t):PE X (.List es pos) (Abm t):=by
 intro pj s σ H Q I hq
 refine wpAny_List_spliced (thn (h pos pj s σ H _ I hq) λus s1 ⟨xs,H1,I1,r,z,q⟩=>⟨by rw[<- r.length];exact z,?_⟩)
 have hf:H1 s1.heap.objs.size=none:=I1.hok.fresh (Ae _)
 refine⟨.ref s1.heap.objs.size,upd H1 s1.heap.objs.size (.lst xs),I1.laid (t':=s1.toks) (λb u e=>Ac _ e) (Ae _) ?_,rfl,q _ hf⟩
 exact⟨z,us,0,r,Ag _ rfl⟩
end
abbrev Sp:=List V->Hp->VK->XK->Prop
abbrev CXT:=List Env->Hp->Shared->XK->Value->Zaa
structure Ul (P:Program) (w:World) (K:W.Frag) (mg:Str->Option Value) (base:Heap) (A:Around) (outer:List Env) (s:Shared) (H:Hp):Prop where
 frames:A.frames=some outer
 mod:Mod K mg base
 bs:∀b o,base.get? b=some o->s.heap.get? b=some o/\H b=none
 bsz:base.objs.size<=s.heap.objs.size
 funs:s.heap.FunFrames base outer
 frf:∀b∈frs outer,H b=none
 hok:HOk P w H s.heap
 bare:AllBare s.gens
def CE (outer:List Env)(P:Program)(w:World)(H:Hp)(s:Shared)(Q:VK)(u:Value)(s':Shared):Prop:=
 ∃v H',s'.os=s.os/\AllBare s'.gens/\Un (frs outer) [] H H' s.heap s'.heap/\HOk P w H' s'.heap/\RelV v u/\Q v H'
def CR (CX:CXT)(outer:List Env)(P:Program)(w:World)(H:Hp)(s:Shared)(Q:VK)(E:XK)(r:Result)(s':Shared):Prop:=
 match r with
 |.ok (.ret u)=>CE outer P w H s Q u s'
 |.ok _=>False
 |.error e=>CX outer H s E e s'
structure DU (P:Program) (w:World) (K:W.Frag) (mg:Str->Option Value) (base:Heap) (CX:CXT) (k:Nat) (f:Addr) (fd:FuncData) (ps:List Str) (sp:Sp):Prop where
 len:∀vs H Q E,sp vs H Q E->vs.length=ps.length
 run:∀(A:Around) (outer:List Env) (s:Shared) (H:Hp) (args:Args) (us:List Value) (vs:List V) (Q:VK) (E:XK),Room k A->Ul P w K mg base A outer s H->BindsTo s fd args (ps.zip us)->Vals vs us->sp vs H Q E ->
  codeAny (model P w) A (.call (.ref f) args) (CR CX outer P w H s Q E) s
section
variable {X:Cx}{pj:Zab} {σ:St}{H:Hp}{s s':Shared}
def Inv.env0 (I:Inv X pj σ H s):Ul X.prog X.w X.K X.mg X.base X.A X.stack s H:=
 ⟨I.ok.frames,I.ok.mod,I.bs,AO I.ok.bsz I.sz,I.stack,I.stkFree,I.hok,I.bare⟩
def Inv.after {Q:VK}{u:Value}(I:Inv X pj σ H s)(h:CE X.stack X.prog X.w H s Q u s'):EP X pj σ Q u s':=by
 obtain⟨v,H',os,bare,un,hok,r,q⟩:=h
 obtain⟨hh,g,d,t,os'⟩:=s'
 obtain rfl:os'=s.os:=os
 exact⟨v,H',I.call (h':=hh) (g':=g) (d':=d) (t':=t) (ch:=[]) un hok bare (λb z=>absurd z (by simp)),r,q⟩
end
def Zp (sp:Sp)(dvs:List V)(E:XK)(t:TA):TE:=fun σ H Q=>t σ H λvs H1=>sp (vs++dvs) H1 Q E
def Binds (K:W.Frag)(fd:FuncData)(ps:List Str)(ds:List Value):Prop:=
 ∀(s:Shared) (us:List Value),K.In s.heap->(us++ds).length=ps.length->BindsTo s fd ⟨us,[]⟩ (ps.zip (us++ds))
def Binds.all {K:W.Frag}{fd:FuncData}{ps:List Str}(h:∀us:List Value,us.length=ps.length->bindArgs fd ⟨us,[]⟩=pure (ps.zip us)):Binds K fd ps []:=λs us _ hl=>by
 rw[List.append_nil] at hl ⊢
 exact .of_eq (h us hl)
def Passes (CX:CXT)(X:Cx)(E:XK):Prop:=∀(pj:Zab) (σ:St) (H:Hp) (s:Shared) (e:Value) (s':Shared),Inv X pj σ H s->CX X.stack H s E e s'->X.xe e s'
section
variable {X:Cx}{CX:CXT}{k:Nat}{f C:Addr}{fd:FuncData}{ps:List Str}{sp:Sp}{dvs:List V}{ds:List Value}{E:XK}{x m:Str}{p pos apos:Pos}{e o:Expr}{es:List Expr}{ta:TE}{t:TA}
theorem YV {pj:Zab}{σ:St}{H:Hp}{s:Shared}{Q:VK}{us:List Value}{vs:List V}(F:DU X.prog X.w X.K X.mg X.base CX k f fd ps sp)(hr:Room k X.A)(hb:Binds X.K fd ps ds)(hd:Vals dvs ds)(hx:Passes CX X E)
  (I:Inv X pj σ H s) (r:Vals vs us) (h:sp (vs++dvs) H Q E):wpAny (model X.prog X.w) X.A (call (.ref f) us) (EP X pj σ Q) X.xe s:=by
 have r2:Vals (vs++dvs) (us++ds):=r.append hd
 have hl:(us++ds).length=ps.length:=by rw[<- r2.length];exact F.len _ _ _ _ h
 refine wpAny_call (codeAny_mono (F.run X.A X.stack s H ⟨us,[]⟩ (us++ds) (vs++dvs) Q E hr I.env0 (hb s us I.kIn hl) r2 h) λr s' hq=>?_)
 cases r with
 |error e=>exact hx pj σ H s e s' I hq
 |ok fl =>
  cases fl with
  |ret u=>exact I.after hq
  |next=>exact False.elim hq
  |brk=>exact False.elim hq
  |cont=>exact False.elim hq
def U3 (F:DU X.prog X.w X.K X.mg X.base CX k f fd ps sp)(hr:Room k X.A)(hg:Gl X x)(hm:X.mg x=some (.ref f))(hk:W.keepIn X.K (.ref f)=true)(hb:Binds X.K fd ps ds)(hd:Vals dvs ds)(hx:Passes CX X E)
  (ha:PA X (e::es) t) (hdb:(x==("__debug__":Str))=false:=by decide) (he:starEach (e::es) X.env=(false,eval e X.env)::starEach es X.env:=by rfl) (hpl:(backTo pos (starEach es X.env)).any (·.1)=false:=by rfl) :
  PE X (.Call (.Name x p) (e::es) [] pos) (Zp sp dvs E t):=by
 intro pj s σ H Q I h
 refine wpAny_Call_Name_kw (PK I hg hm ?_ hdb)
 refine W.callWith_K (h₀:=X.base) I.ok.mod.kin hk (thn (ha pos pj s σ H _ I h) λus s1 ⟨vs,H1,I1,r,q⟩=>⟨I1.kIn,?_⟩) he hpl
 exact YV F hr hb hd hx I1 r q
end
structure CL (N P:List Str) (sc:Scope):Prop where
 kind:sc.kind=.function
 co:sc.isCoroutine=false
 gen:sc.isGenerator=false
 nd:N.Nodup
 pre:N.take P.length=P
 par:∀x∈P,sc.names.lookup x=some .local ∨sc.names.lookup x=some .cell
 nofree:∀y∈sc.names,y.2≠.free
theorem LJ {kindOf:Str->Option NameKind}{x:Str}:∀{binds:List (Str×Value)}{m:Str->Option Value},(∀v,(x,v)∉binds)->bindL kindOf binds m x=m x
 |[],_,_=>rfl
 |(n,v)::r,m,h=>by
  unfold bindL
  rw[LJ λw hw=>h w (BC _ hw)]
  split
  ·have:x≠n:=by rintro rfl;exact h v List.mem_cons_self
   simp[this]
  ·rfl
theorem LU {kindOf:Str->Option NameKind}{x:Str}:∀{binds:List (Str×Value)}{m:Str->Option Value},(∀v,(x,v)∉binds)->bindC kindOf binds m x=m x
 |[],_,_=>rfl
 |(n,v)::r,m,h=>by
  unfold bindC
  rw[LU λw hw=>h w (BC _ hw)]
  split
  ·rfl
  ·have:x≠n:=by rintro rfl;exact h v List.mem_cons_self
   simp[this]
theorem LH {kindOf:Str->Option NameKind}{x:Str}{v:Value}:∀{P:List Str}{vs:List Value}{i:Nat}{m:Str->Option Value},P.Nodup->P[i]?=some x->vs[i]?=some v->kindOf x=some .local ->
  bindL kindOf (P.zip vs) m x=some v
 |[],_,_,_,_,h,_,_=>by simp at h
 |_::_,[],_,_,_,_,h,_=>by simp at h
 |p::P,w::vs,0,m,nd,h1,h2,hk=>by
  simp at h1 h2;subst h1;subst h2
  show bindL kindOf ((p,w)::P.zip vs) m p=_
  unfold bindL
  rw[LJ λv hv=>(BX.mp nd).1 (List.of_mem_zip hv).1,if_pos hk]
  simp
 |p::P,w::vs,i+1,m,nd,h1,h2,hk=>by
  show bindL kindOf ((p,w)::P.zip vs) m x=_
  unfold bindL
  exact LH (i:=i) (BX.mp nd).2 (by simpa using h1) (by simpa using h2) hk
theorem Mb {kindOf:Str->Option NameKind}{x:Str}{v:Value}:∀{P:List Str}{vs:List Value}{i:Nat}{m:Str->Option Value},P.Nodup->P[i]?=some x->vs[i]?=some v->kindOf x≠some .local ->
  bindC kindOf (P.zip vs) m x=some v
 |[],_,_,_,_,h,_,_=>by simp at h
 |_::_,[],_,_,_,_,h,_=>by simp at h
 |p::P,w::vs,0,m,nd,h1,h2,hk=>by
  simp at h1 h2;subst h1;subst h2
  show bindC kindOf ((p,w)::P.zip vs) m p=_
  unfold bindC
  rw[LU λv hv=>(BX.mp nd).1 (List.of_mem_zip hv).1,if_neg hk]
  simp
 |p::P,w::vs,i+1,m,nd,h1,h2,hk=>by
  show bindC kindOf ((p,w)::P.zip vs) m x=_
  unfold bindC
  exact Mb (i:=i) (BX.mp nd).2 (by simpa using h1) (by simpa using h2) hk
def start (N:List Str)(vs:List V):St:=vs.map some++List.replicate (N.length-vs.length) none
def KL (CX:CXT)(P:Program)(w:World)(K:W.Frag)(mg:Str->Option Value)(base:Heap)(N:List Str)(qual:Str)(scope:Scope)(f:Addr)(cd:Value)(A:Around)(outer:List Env)(s:Shared)(H:Hp)(E:XK):Cx where
 prog:=P
 w:=w
 K:=K
 mg:=mg
 base:=base
 A:=A.deeper (envOfC qual scope s.heap.objs.size f cd)
 N:=N
 s₀:=s
 H₀:=H
 env:=envOfC qual scope s.heap.objs.size f cd
 outer:=outer
 stack:=envOfC qual scope s.heap.objs.size f cd::outer
 ex:=[]
 calm:=true
 fn:=λ_=>true
 pn:=[]
 xe:=λe s'=>wpAny (model P w) (A.deeper (envOfC qual scope s.heap.objs.size f cd)) (leaving (envOfC qual scope s.heap.objs.size f cd) e) (λ_ s''=>CX outer H s E e s'') (λe' s''=>CX outer H s E e' s'') s'
def N3 {sc:Scope}{n:Nat}{x:Str}(h:sc.names.lookup x=some .cell):∃c,(cellsFrom n sc.names []).lookup x=some c:=by
 have q:=W.cellsFrom_some sc.names n [] (.inl h)
 exact Option.isSome_iff_exists.mp q
def Rm {CX:CXT}{P:Program}{w:World}{K:W.Frag}{mg:Str->Option Value}{base:Heap}{N ps:List Str}{qual:Str}{scope:Scope}{f:Addr}{cd:Value}{A:Around}{outer:List Env}{s s1:Shared}{H:Hp}{E:XK}{us:List Value}{vs:List V}
  (S:CL N ps scope) (hd:A.handled=none) (e0:Ul P w K mg base A outer s H) (hl:vs.length=ps.length) (r:Vals vs us)
  (x:InCallC s s.heap.objs.size (bindL (envOfC qual scope s.heap.objs.size f cd).kindOf (ps.zip us) λ_=>none) (cellsFrom (s.heap.objs.size+1) scope.names []) (bindC (envOfC qual scope s.heap.objs.size f cd).kindOf (ps.zip us) λ_=>none) s1) :
  Inv (KL CX P w K mg base N qual scope f cd A outer s H E) [] (start N vs) H s1:=by
 have hpl:ps.length<=N.length:=by have:=congrArg List.length S.pre;rw[AU] at this;ext
 obtain⟨h1,tk,rfl,hk⟩:=x.done
 have noA:∀b:Addr,b∉(KL CX P w K mg base N qual scope f cd A outer s H E).ex:=λb z=>absurd (show b∈([]:List Addr) from z) (by simp)
 refine⟨⟨e0.mod,S.kind,rfl,rfl,Ae _,λy z c h1 h2=>?_,λy hy=>?_,λy c _ h=>?_,λ_=>hd,Around.frames_deeper e0.frames,.inr ⟨rfl,rfl⟩,λb z=>absurd z (noA b),e0.bs,e0.bsz,λb _ _=>noA b,λb z=>absurd z (noA b),e0.funs,e0.frf⟩,
  rfl,e0.bare,Un.kept hk,⟨_,x.toInCall.ns,λi y v h1 h2 h3=>?_⟩,λy c h=>⟨_,x.cell y c h⟩,e0.hok.fresh (Ae _),λy c h=>?_,λp hp=>absurd (show p∈([]:Zab) from hp) (by simp),e0.hok.kept hk,?_⟩
 ·exact name_of_addr x.apart (Cd h1) (Cd h2)
 ·have hy:scope.names.lookup y=some .cell\/scope.names.lookup y=some .free:=hy
  rcases hy with hy|hy
  ·exact N3 hy
  ·exact absurd rfl (S.nofree _ (Cd hy))
 ·exact Nat.le_of_lt (x.above y c (Cd h))
 ·have hi:i<vs.length:=by
   unfold start at h2
   by_cases hi:i<vs.length
   ·exact hi
   ·rw[A1 (by simpa using hi)] at h2
    rw[B8] at h2
    split at h2<;>cases h2
  have ha:vs[i]?=some v:=by
   unfold start at h2
   rw[Ap (by simpa using hi),Am] at h2
   cases e:vs[i]? with
   |none=>rw[e] at h2;cases h2
   |some a=>rw[e] at h2;cases h2;rfl
  obtain⟨u,hu,rv⟩:=r.get ha
  have hp:ps[i]?=some y:=by
   rw[<- S.pre,Bg (by ext)];exact h1
  have ndP:ps.Nodup:=by rw[<- S.pre];exact S.nd.sublist (List.take_sublist _ _)
  refine⟨u,rv,?_⟩
  rcases S.par y (Aj hp) with k|k
  ·exact .inl ⟨k,LH ndP hp hu k⟩
  ·obtain⟨c,e⟩:=N3 (n:=s.heap.objs.size+1) k
   refine .inr ⟨.inl k,c,e,?_⟩
   have q:=x.cell y c e
   rw[Mb ndP hp hu (by show scope.names.lookup y≠_;rw[k];decide)] at q
   exact q
 ·exact e0.hok.fresh (Nat.le_of_lt (x.above y c (Cd h)))
 ·unfold start
  show _=N.length
  rw[As,Ak,List.length_replicate]
  ext
theorem Zd {CX:CXT}{P:Program}{w:World}{K:W.Frag}{mg:Str->Option Value}{base:Heap}{k:Nat}{f:Addr}{name qual:Str}{params:Arguments}{body:List Stmt}{scope:Scope}{dV kV doc pm cdv ct oc:Value}{an od:Option Addr}
  {osl:Array (Option Value)}{N ps:List Str}{sp:Sp} (lk:K.lookup f=some ⟨oc,od,.func (W.fnOf name qual params body scope dV kV doc pm an cdv ct),osl⟩) (hcd:W.codeIn K cdv qual=true) (S:CL N ps scope)
  (len:∀vs H Q E,sp vs H Q E->vs.length=ps.length)
  (hbody:∀(A:Around) (outer:List Env) (s:Shared) (H:Hp) (vs:List V) (Q:VK) (E:XK),Room k (A.deeper (envOfC qual scope s.heap.objs.size f cdv))->sp vs H Q E ->
   ∃t,PSs (KL CX P w K mg base N qual scope f cdv A outer s H E) body t/\t {nx:=λ_ H'=>Q .non H',rt:=Q} (start N vs) H) :
  DU P w K mg base CX (k+1) f (W.fnOf name qual params body scope dV kV doc pm an cdv ct) ps sp:=by
 refine⟨len,λA outer s H args us vs Q E hr e0 hb r hsp=>?_⟩
 have hl:=len _ _ _ _ hsp
 have KX:K.In s.heap:=e0.mod.kin.keeps λb o e=>(e0.bs b o e).1
 have lim:s.heap.NoLimit:=e0.mod.nolimit.keeps λb o e=>(e0.bs b o e).1
 have hkind:∀y∈ps.zip us,scope.names.lookup y.1=some .local ∨(scope.names.lookup y.1=some .cell/\((cellsFrom (s.heap.objs.size+1) scope.names []).lookup y.1).isSome=true):=λ⟨n,v⟩ hy=>by
  rcases S.par n (List.of_mem_zip hy).1 with q|q
  ·exact .inl q
  ·exact .inr ⟨q,W.cellsFrom_some _ _ _ (.inl q)⟩
 refine codeAny_call_function hr.depth (KX _ _ lk) rfl S.co S.gen rfl (W.codeRec_of KX hcd) (hb _ _ _ _ ?_)
 refine wpAny_newFunctionEnv_cells S.kind hkind λenv he s1 x=>?_
 subst he
 refine⟨lim.keeps x.toInCall.keep,codeAny_func ?_⟩
 obtain⟨t,ht,hq⟩:=hbody A outer s H vs Q E (hr.deeper _) hsp
 have I:Inv (KL CX P w K mg base N qual scope f cdv A outer s H E) [] (start N vs) H s1:=Rm S hr.hd e0 hl r x
 refine B1 (ht [] s1 (start N vs) H _ I hq) (λfl s' hs=>?_) λe s' hs=>hs
 have fin:∀{σ':St}{H':Hp}{v:V}{u:Value},Inv (KL CX P w K mg base N qual scope f cdv A outer s H E) [] σ' H' s'->RelV v u->Q v H'->CE outer P w H s Q u s':=
  λ{σ' H' v u} J rv q=>⟨v,H',J.os,J.bare,J.base,J.hok,rv,q⟩
 cases fl with
 |ret u =>
  obtain⟨v,σ',H',J,rv,q⟩:=hs
  exact fin J rv q
 |next =>
  obtain⟨σ',H',J,q⟩:=hs
  exact fin (v:=V.non) (u:=Value.none) J rfl q
 |brk =>
  obtain⟨_,_,_,q⟩:=hs
  exact False.elim q
 |cont =>
  obtain⟨_,_,_,q⟩:=hs
  exact False.elim q
section
variable {X:Cx}{x:Str}{p pos:Pos}{e:Expr}{es:List Expr}{t:TA}{id T:String}{r:List V->Hp->VK->Prop}
def tCB (r:List V->Hp->VK->Prop)(t:TA):TE:=fun σ H Q=>t σ H λvs H1=>r vs H1 Q
def Og (hc:Hj X (.builtin id) r)(hg:Gl X x)(hm:X.mg x=none)(hv:bootBuiltins x=some (.builtin id))(ha:PA X (e::es) t)(hn:x≠"__name__":=by decide)(hdb:(x==("__debug__":Str))=false:=by decide)
  (he:starEach (e::es) X.env=(false,eval e X.env)::starEach es X.env:=by rfl) (hpl:(backTo pos (starEach es X.env)).any (·.1)=false:=by rfl):PE X (.Call (.Name x p) (e::es) [] pos) (tCB r t):=by
 intro pj s σ H Q I h
 refine wpAny_Call_Name_kw (Lp I hg hm hv ?_ hn hdb)
 exact PyProof.Rows.callWith_builtin1 (thn (ha pos pj s σ H _ I h) λus s1 ⟨vs,H1,I1,r1,q1⟩=>hc pj s1 σ H1 vs us Q I1 r1 q1) he hpl
def QC (hc:Hj X (.type T) r)(hg:Gl X x)(hm:X.mg x=none)(hv:bootBuiltins x=some (.type T))(ha:PA X (e::es) t)(hn:x≠"__name__":=by decide)(hdb:(x==("__debug__":Str))=false:=by decide)
  (he:starEach (e::es) X.env=(false,eval e X.env)::starEach es X.env:=by rfl) (hpl:(backTo pos (starEach es X.env)).any (·.1)=false:=by rfl):PE X (.Call (.Name x p) (e::es) [] pos) (tCB r t):=by
 intro pj s σ H Q I h
 refine wpAny_Call_Name_kw (Lp I hg hm hv ?_ hn hdb)
 exact Cg (thn (ha pos pj s σ H _ I h) λus s1 ⟨vs,H1,I1,r1,q1⟩=>hc pj s1 σ H1 vs us Q I1 r1 q1) he hpl
end
end L2
namespace HT
open PySem PyProof.Rows
section
open PySem.SeqAt
open PySem.AutoSeq1 (wpAny_loadPart')
open PySem.MeetsSeq PySem.MeetsSeq2 PySem.MeetsSeq3
end
section
variable {prog:Program}{w:World}{A:Around}{E:Value->Zaa}{s:Shared}
def UT {t b:Addr}{vs ws:List Value}{Q:Value->Zaa}(ht:IsTup s.heap t vs.toArray)(hb:IsTup s.heap b ws.toArray)(hv:vs≠[])
  (h1:ws=[]->Q (.ref t) s) (h2:ws≠[]->Q (.ref s.heap.objs.size) {s with heap:=s.heap.push {cls:=.type "tuple",data:=.seq (vs++ws).toArray}})
  (hsz:vs.length+ws.length<=sizeLine):wpAny (model prog w) A (binaryOp .Add (.ref t) (.ref b)) Q E s:=by
 obtain⟨⟨cls,dd,data,sl⟩,ho,hc,n,hd⟩:=id ht
 obtain⟨⟨cls2,dd2,data2,sl2⟩,ho2,hc2,n2,hd2⟩:=id hb
 simp only at hc hd hc2 hd2
 subst hc hd hc2 hd2
 have e:vs.toArray++ws.toArray=(vs++ws).toArray:=by simp
 by_cases hw:ws=[]
 ·exact concat_meets ⟨_,ho,rfl⟩ ⟨_,ho2,rfl⟩ noFill_tuple_add seq_tuple_add F.slot_tuple_add F.entry_tuple_add (F.args_tuple_add_2 _ _)
   (tuple_addW1 t b vs.toArray ws.toArray n n2 dd dd2 sl sl2 (by simpa using hv) (by simp[hw])) ⟨ho,ho2,h1 hw⟩
 ·refine concat_meets ⟨_,ho,rfl⟩ ⟨_,ho2,rfl⟩ noFill_tuple_add seq_tuple_add F.slot_tuple_add F.entry_tuple_add (F.args_tuple_add_2 _ _)
   (tuple_addW2 t b vs.toArray ws.toArray n n2 dd dd2 sl sl2 (by simpa using hv) (by simpa using hw) (by rw[Ar,Ar];exact hsz)) ⟨ho,ho2,?_⟩
  rw[e]
  exact h2 hw
def sIx (n d:Nat):Option Int->Nat
 |none=>d
 |some v=>if v<0 then (v+(n:Int)).toNat else min v.toNat n
theorem Jq (n d:Nat):sIx n d none=d:=rfl
def Kx (n d k:Nat):sIx n d (some (k:Int))=min k n:=by
 show(if (k:Int)<0 then ((k:Int)+(n:Int)).toNat else min (k:Int).toNat n)=min k n
 rw[if_neg (by ext),Int.toNat_natCast]
theorem Xf (n d:Nat)(hd:d<=n)(o:Option Int):sIx n d o<=n:=by
 cases o with
 |none=>exact hd
 |some v =>
  show(if v<0 then (v+(n:Int)).toNat else min v.toNat n)<=n
  by_cases hv:v<0
  ·rw[if_pos hv];ext
  ·rw[if_neg hv];exact Nat.min_le_right _ _
def PW (v:Int)(n d:Nat):(if v<0 then max (v+(n:Int)) 0 else min v (n:Int))=((sIx n d (some v):Nat):Int):=by
 show(if v<0 then max (v+(n:Int)) 0 else min v (n:Int))=(((if v<0 then (v+(n:Int)).toNat else min v.toNat n):Nat):Int)
 by_cases hv:v<0
 ·simp only[if_pos hv];ext
 ·simp only[if_neg hv];ext
def Po (lo hi:Option Int)(n:Nat):Builtin.Slice.sliceAdjust lo hi 1 (n:Int)=(((sIx n 0 lo:Nat):Int),((sIx n n hi:Nat):Int)):=by
 have h1:¬ ((1:Int)<0):=by ext
 unfold Builtin.Slice.sliceAdjust
 simp only[h1,Bt]
 refine Prod.ext ?_ ?_
 ·cases lo with
  |none=>rfl
  |some v=>exact PW v n 0
 ·cases hi with
  |none=>rfl
  |some v=>exact PW v n n
def OU (i j:Nat):Builtin.Slice.slicePlaces (i:Int) (j:Int) 1=j-i:=by
 unfold Builtin.Slice.slicePlaces
 have h1:(1:Int) > 0:=by ext
 simp only[h1,if_true,Int.ediv_one]
 split<;>ext
theorem GH {v:Value}{o:Option Int}{Q:Option Int->Zaa}(p:IsPart v o)(h:Q o s):wpAny (model prog w) A (Builtin.Slice.slicePartIndex v) Q E s:=by
 cases p with
 |none=>exact slicePart_none h
 |int i t=>exact slicePart_int h
def Hi {sl:Addr}{vl vu:Value}{lo hi:Option Int}{n:Nat}{Q:Int×Int×Nat->Zaa}(hs:s.heap.IsSliceOf sl vl vu .none)(pl:IsPart vl lo)(pu:IsPart vu hi)
  (h:Q (((sIx n 0 lo:Nat):Int),1,sIx n n hi-sIx n 0 lo) s):wpAny (model prog w) A (Builtin.Slice.sliceApplied (.ref sl) (pure (n:Int))) Q E s:=by
 obtain⟨os,hos,hcs,hds⟩:=id hs
 unfold Builtin.Slice.sliceApplied Builtin.Slice.sliceFields
 refine Aa (Aa (Be hos hds (x:=vl) rfl (Aa (Be hos hds (x:=vu) rfl (Aa (Be hos hds (x:=.none) rfl (Ab ?_)))))))
 refine Aa (slicePart_none ?_)
 show wpAny _ _ (if ((1:Int)==0)=true then _ else _) _ _ s
 rw[if_neg (by decide)]
 refine Aa (GH pl (Aa (GH pu (Aa (Ab ?_)))))
 show wpAny _ _ (match Builtin.Slice.sliceAdjust lo hi 1 (n:Int) with|(lo,hi)=>pure (lo,(1:Int),Builtin.Slice.slicePlaces lo hi 1)) _ _ s
 rw[Po lo hi n]
 show wpAny _ _ (pure (((sIx n 0 lo:Nat):Int),(1:Int),Builtin.Slice.slicePlaces ((sIx n 0 lo:Nat):Int) ((sIx n n hi:Nat):Int) 1)) _ _ s
 rw[OU]
 exact Ab h
def RB (xs:Array Value)(i k:Nat):((List.range k).filterMap λ(m:Nat)=>xs[((i:Int)+(m:Int)*1).toNat]?).toArray=((xs.toList.drop i).take k).toArray:=by
 have e:(λ(m:Nat)=>xs[((i:Int)+(m:Int)*1).toNat]?)=λm=>xs[i+m]?:=by
  funext m
  have:((i:Int)+(m:Int)*1).toNat=i+m:=by ext
  rw[this]
 rw[e]
 have:=pick_run xs i k
 rw[List.filterMap_map] at this
 have e2:((λx=>xs[x]?)∘λx=>i+x)=λm=>xs[i+m]?:=rfl
 rw[e2] at this
 rw[this]
def JE {t sl:Addr}{items:Array Value}{vl vu:Value}{lo hi:Option Int}{Q:Value->Zaa}(ht:IsTup s.heap t items)(hs:s.heap.IsSliceOf sl vl vu .none)(pl:IsPart vl lo)(pu:IsPart vu hi)
  (hw:¬ (sIx items.size 0 lo=0/\sIx items.size items.size hi=items.size))
  (h:Q (.ref s.heap.objs.size) {s with heap:=s.heap.push {cls:=.type "tuple",data:=.seq ((items.toList.drop (sIx items.size 0 lo)).take (sIx items.size items.size hi-sIx items.size 0 lo)).toArray}})
  (hsz:items.size<=sizeLine):wpAny (model prog w) A (getItem (.ref t) (.ref sl)) Q E s:=by
 have htake:sizeOk (.seq ((items.toList.drop (sIx items.size 0 lo)).take (sIx items.size items.size hi-sIx items.size 0 lo)).toArray):=by
  show((items.toList.drop (sIx items.size 0 lo)).take (sIx items.size items.size hi-sIx items.size 0 lo)).toArray.size<=sizeLine
  rw[Ar,AU,Cj,Array.length_toList]
  ext
 have hj:sIx items.size items.size hi<=items.size:=Xf _ _ (Ae _) hi
 obtain⟨os,hos,hcs,hds⟩:=id hs
 have hTs:s.TypeIs (.ref sl) "slice":=⟨os,hos,hcs⟩
 unfold getItem
 try with_reducible refine AG ?_
 first|refine Aa (Ab ?_)|skip
 refine Aa (wpAny_sequenceKey ht.typeIs (by decide) ?_)
 refine Aa (AM (name:=Str.ofString "__getitem__") ht.typeIs A4
  (AE A4 ht.typeIs entry_tuple_getitem ?_ (args_tuple_getitem _ _)))
 show wpAny _ _ (Builtin.Tuple.tupleItemsOf (.ref t)>>=_) _ _ s
 refine Aa (tupleItemsOf_ ht ?_)
 refine Aa (By hTs ?_)
 rw[if_pos (by decide)]
 refine Aa (Hi hs pl pu ?_)
 have hno:¬ ((((sIx items.size 0 lo:Nat):Int)==0&&(1:Int)==1&&(sIx items.size items.size hi-sIx items.size 0 lo)==items.size)=true):=by
  intro q
  rw[Ai,Ai] at q
  have q1:((sIx items.size 0 lo:Nat):Int)=0:=eq_of_beq q.1.1
  have q2:sIx items.size items.size hi-sIx items.size 0 lo=items.size:=eq_of_beq q.2
  exact hw ⟨by ext,by ext⟩
 show wpAny _ _ (if (((sIx items.size 0 lo:Nat):Int)==0&&(1:Int)==1&&(sIx items.size items.size hi-sIx items.size 0 lo)==items.size)=true then _ else _) _ _ s
 rw[if_neg hno,RB]
 first
  |exact Aa (m:=Builtin.Tuple.tupleExact _) (AX (Ab ⟨_,rfl,Ab h⟩) htake)
  |exact Aa (m:=Builtin.Tuple.tupleExact _) (AX (Aa (Ab (Ab ⟨_,rfl,Ab h⟩))) htake)
  |exact Aa (Aa (m:=Builtin.Tuple.tupleExact _) (AX (Ab (Ab ⟨_,rfl,Ab h⟩)) htake))
  |exact Aa (Aa (m:=Builtin.Tuple.tupleExact _) (AX (Ab ⟨_,rfl,Ab h⟩) htake))
end
end HT
namespace L2
open PySem PySem.Spec PyProof.Rows
abbrev TO:=St->Hp->(Option Int->Hp->Prop)->Prop
def PO (X:Cx)(e:Option Expr)(t:TO):Prop:=
 ∀(pj:Zab) (s:Shared) (σ:St) (H:Hp) (Q:Option Int->Hp->Prop),Inv X pj σ H s->t σ H Q ->
  wpAny (model X.prog X.w) X.A (evalPart e X.env) (λu s'=>∃o H',Inv X pj σ H' s'/\IsPart u o/\Q o H') X.xe s
def UG:TO:=λ_ H Q=>Q none H
def ZH (t:TE):TO:=fun σ H Q=>t σ H λx H1=>∃i,x=.int i/\Q (some i) H1
section
variable {X:Cx}{e:Expr}{te:TE}{lo hi:Option Expr}{tl th:TO}{pos p2:Pos}
def VA:PO X none UG:=by
 intro pj s σ H Q I h
 rw[evalPart_none]
 exact Ab ⟨none,H,I,.none,h⟩
def VI (h:PE X e te):PO X (some e) (ZH te):=by
 intro pj s σ H Q I hw
 rw[evalPart_some]
 refine thn (h pj s σ H _ I hw) λu s1 ⟨x,H1,I1,r1,q1⟩=>?_
 obtain⟨i,rfl,q⟩:=q1
 obtain⟨t,rfl⟩:=r1
 exact⟨some i,H1,I1,.int i t,q⟩
def SlR (X:Cx)(r:V->Option Int->Option Int->Hp->VK->Prop):Prop:=
 ∀(pj:Zab) (s:Shared) (σ:St) (H:Hp) (x:V) (v vl vu:Value) (lo hi:Option Int) (sl:Addr) (Q:VK),Inv X pj σ H s->RelV x v->s.heap.IsSliceOf sl vl vu .none->IsPart vl lo->IsPart vu hi->r x lo hi H Q ->
  ∃T id,typeLookup (.type T) "__getitem__"=pure (some (.builtin id))/\s.TypeIs v T/\wpAny (model X.prog X.w) X.A (getItem v (.ref sl)) (EP X pj σ Q) X.xe s
def tSl (r:V->Option Int->Option Int->Hp->VK->Prop)(te:TE)(tl th:TO):TE:=fun σ H Q=>te σ H λx H1=>tl σ H1 λl H2=>th σ H2 λu H3=>r x l u H3 Q
def T9 {r:V->Option Int->Option Int->Hp->VK->Prop}(hr:SlR X r)(he:PE X e te)(hl:PO X lo tl)(hu:PO X hi th):PE X (.Subscript e (.Slice lo hi none p2) pos) (tSl r te tl th):=by
 intro pj s σ H Q I h
 refine Subscript_ (thn (he pj s σ H _ I h) λv s1 ⟨x,H1,I1,r1,q1⟩=>?_)
 refine wpAny_Slice (thn (hl pj s1 σ H1 _ I1 q1) λvl s2 ⟨l,H2,I2,pl,q2⟩=>thn (hu pj s2 σ H2 _ I2 q2) λvu s3 ⟨u,H3,I3,pu,q3⟩=>?_)
 rw[evalPart_none]
 refine Ab ?_
 have I4:Inv X pj σ H3 {s3 with heap:=s3.heap.push {cls:=.type "slice",data:=.fields #[vl,vu,.none]}}:=I3.kept (t':=s3.toks) λb ob q=>Ac _ q
 obtain⟨T,id,hT,ht,hg⟩:=hr pj {s3 with heap:=s3.heap.push {cls:=.type "slice",data:=.fields #[vl,vu,.none]}} σ H3 x v vl vu l u s3.heap.objs.size Q I4 r1 (Heap.IsSliceOf.new ..) pl pu q3
 show wpAny (model X.prog X.w) X.A (subscriptTail e (.Slice lo hi none p2) v (.ref s3.heap.objs.size)) (EP X pj σ Q) X.xe {s3 with heap:=s3.heap.push {cls:=.type "slice",data:=.fields #[vl,vu,.none]}}
 exact tail_any (ops:=[.ref s3.heap.objs.size,v]) ht hT hg (by with_unfolding_all rfl)
def N9 (xs:List V)(lo hi:Option Int):List V:=(xs.drop (HT.sIx xs.length 0 lo)).take (HT.sIx xs.length xs.length hi-HT.sIx xs.length 0 lo)
def Ke (xs:List V)(lo hi:Option Int):(N9 xs lo hi).length<=xs.length:=by
 unfold N9
 rw[AU,Cj]
 ext
def Abv (K:W.Frag):V->Option Int->Option Int->Hp->VK->Prop:=λx lo hi H Q=>∃a xs,x=.ref a/\SqT K H a xs /\
 ¬ (HT.sIx xs.length 0 lo=0/\HT.sIx xs.length xs.length hi=xs.length)/\∀p,H p=none->Q (.ref p) (upd H p (.tup (N9 xs lo hi)))
def Yo:SlR X (Abv X.K):=by
 intro pj s σ H x v vl vu lo hi sl Q I rx hs pl pu h
 obtain⟨a,xs,rfl,hx,hw,q⟩:=h
 cases rx
 obtain⟨its,r,ht,hz⟩:=I.tuple hx
 have hlen:its.toArray.size=xs.length:=by rw[Ar];exact r.length.symm
 refine⟨"tuple",_,A4.lookup,ht.typeIs,?_⟩
 refine HT.JE ht hs pl pu (by rw[hlen];exact hw) ?_ (by rw[hlen];exact hz)
 rw[hlen]
 refine⟨.ref s.heap.objs.size,_,I.laid (t':=s.toks) (o:=.tup (N9 xs lo hi)) (λb ob q=>Ac _ q) (Ae _) ?_,rfl,q _ (I.hok.fresh (Ae _))⟩
 exact⟨⟨AO (Ke xs lo hi) hz,⟨_,Ag _ rfl,rfl⟩⟩,_,(r.drop (HT.sIx xs.length 0 lo)).take (HT.sIx xs.length xs.length hi-HT.sIx xs.length 0 lo),IsTup.new _ _⟩
def ZP (K:W.Frag):R2:=λx y H Q=>∃a b xs ys,x=.ref a/\y=.ref b/\SqT K H a xs/\SqT K H b ys/\xs≠[]/\xs.length+ys.length<=sizeLine /\
 (ys=[]->Q (.ref a) H)/\(ys≠[]->∀p,H p=none->Q (.ref p) (upd H p (.tup (xs++ys))))
theorem Vals.nil_iff {xs:List V}{us:List Value}(r:Vals xs us):us=[]↔xs=[]:=by
 cases r with
 |nil=>simp
 |cons _ _=>simp
def VM:OpR X (binaryOp .Add) (ZP X.K):=by
 intro pj s σ H x y v u Q I rx ry h
 obtain⟨a,b,xs,ys,rfl,rfl,ha,hb,hx,hz,q1,q2⟩:=h
 cases rx
 cases ry
 obtain⟨its,r1,p1,_⟩:=I.tuple ha
 obtain⟨its2,r2,p2,_⟩:=I.tuple hb
 refine HT.UT p1 p2 (λz=>hx (r1.nil_iff.mp z)) (λz=>⟨.ref a,H,I,rfl,q1 (r2.nil_iff.mp z)⟩) (λz=>?_) (by rw[<- r1.length,<- r2.length];exact hz)
 refine⟨.ref s.heap.objs.size,_,I.laid (t':=s.toks) (o:=.tup (xs++ys)) (λb ob q=>Ac _ q) (Ae _) ?_,rfl,q2 (λw=>z (r2.nil_iff.mpr w)) _ (I.hok.fresh (Ae _))⟩
 exact⟨⟨by rw[As];exact hz,⟨_,Ag _ rfl,rfl⟩⟩,_,r1.append r2,IsTup.new _ _⟩
end
def ixN (n:Nat)(i:Int):Option Nat:=if 0<=i then (if i<n then some i.toNat else none) else if -(n:Int)<=i then some (i+n).toNat else none
def atI {α:Type}(xs:List α)(i:Int):Option α:=(ixN xs.length i).bind λj=>xs[j]?
def PZ {n:Nat}{i:Int}{j:Nat}(h:ixN n i=some j):seqIndex? i n=some j/\j<n/\-(n:Int)<=i/\i<n:=by
 unfold ixN at h
 by_cases h0:0<=i
 ·rw[if_pos h0] at h
  by_cases h1:i<n
  ·rw[if_pos h1] at h
   have e:i.toNat=j:=AR h
   exact⟨by rw[seqIndex_of h0 h1,e],by ext,by ext,h1⟩
  ·rw[if_neg h1] at h;cases h
 ·rw[if_neg h0] at h
  by_cases h1:-(n:Int)<=i
  ·rw[if_pos h1] at h
   have e:(i+n).toNat=j:=AR h
   exact⟨by rw[seqIndex_neg (by ext) h1,e],by ext,h1,by ext⟩
  ·rw[if_neg h1] at h;cases h
theorem Ku {α:Type}{xs:List α}{i:Int}{v:α}(h:atI xs i=some v):∃j,seqIndex? i xs.length=some j/\xs[j]?=some v/\j<xs.length/\-(xs.length:Int)<=i/\i<xs.length:=by
 unfold atI at h
 cases e:ixN xs.length i with
 |none=>rw[e] at h;cases h
 |some j =>
  rw[e] at h
  obtain⟨h1,h2,h3,h4⟩:=PZ e
  exact⟨j,h1,h,h2,h3,h4⟩
def Qa (b:Expr):Prop:=∀o i,subscripted b false o i=operate [o,i] (getItem o i)
def IxR (X:Cx)(r:R2):Prop:=
 ∀(value slice:Expr) (pj:Zab) (s:Shared) (σ:St) (H:Hp) (x y:V) (v u:Value) (Q:VK),Inv X pj σ H s->RelV x v->RelV y u->r x y H Q ->
  subscripted slice false v u=operate [v,u] (getItem v u)->wpAny (model X.prog X.w) X.A (subscriptTail value slice v u) (EP X pj σ Q) X.xe s
def MtR (X:Cx)(id:String)(r:V->List V->Hp->VK->Prop):Prop:=
 ∀(pj:Zab) (s:Shared) (σ:St) (H:Hp) (x:V) (xs:List V) (v:Value) (us:List Value) (Q:VK),Inv X pj σ H s->RelV x v->Vals xs us->r x xs H Q ->
  wpAny (model X.prog X.w) X.A (call (.builtin id) (v::us)) (EP X pj σ Q) X.xe s
section
variable {X:Cx}{a b:Expr}{ta tb:TE}{pos:Pos}
def IxR.or {r r':R2}(h:IxR X r)(h':IxR X r'):IxR X (λx y H Q=>r x y H Q\/r' x y H Q):=by
 intro value slice pj s σ H x y v u Q I rx ry q hs
 rcases q with q|q
 ·exact h value slice pj s σ H x y v u Q I rx ry q hs
 ·exact h' value slice pj s σ H x y v u Q I rx ry q hs
def AaK {r:R2}(hr:IxR X r)(ha:PE X a ta)(hb:PE X b tb)(hs:Qa b):PE X (.Subscript a b pos) (tOp r ta tb):=by
 intro pj s σ H Q I h
 exact Subscript_ (Yl ha hb I h λv u s2 x y H2 I2 rx ry q=>hr a b pj s2 σ H2 x y v u Q I2 rx ry q (hs _ _))
def Xt (K:W.Frag):R2:=λx y H Q=>∃p xs i v,x=.ref p/\y=.int i/\SqL K H p xs/\atI xs i=some v/\Q v H
def Z2 (K:W.Frag):R2:=λx y H Q=>∃p xs i v,x=.ref p/\y=.int i/\SqT K H p xs/\atI xs i=some v/\Q v H
def Y4:R2:=λx y H Q=>∃z i c,x=.str z/\y=.int i/\z.length<=sizeLine/\atI z.cps.toList i=some c/\Q (.str ⟨#[c]⟩) H
def Vu:IxR X (Xt X.K):=by
 intro value slice pj s σ H x y v u Q I rx ry h hs
 obtain⟨p,xs,i,z,rfl,rfl,hq,he,q⟩:=h
 cases rx
 obtain⟨t,rfl⟩:=ry
 obtain⟨its,r,pl,hz⟩:=I.list hq
 obtain⟨j,h1,h2,h3,h4,h5⟩:=Ku he
 obtain⟨w,ew,rw'⟩:=r.get h2
 have hl:=r.length
 have hn:=Jb
 have fin:EP X pj σ Q w s:=⟨z,H,I,rw',q⟩
 by_cases h0:0<=i
 ·have hj:i.toNat=j:=by
   rw[seqIndex_of h0 h5] at h1
   exact AR h1
  exact item_listR pl.isList h0 (by ext) (by rw[hj];simpa using ew) fin hs
 ·have hj:(i+(its.toArray.size:Int)).toNat=j:=by
   rw[seqIndex_neg (by ext) h4] at h1
   rw[Ar,<- hl]
   exact AR h1
  exact subscriptTail_builtinR (x:=w) pl.isList.typeIs slot_list_getitem.lookup
   (wpAny_getItem_list_neg (Q:=λr s'=>r=w/\EP X pj σ Q r s') pl.isList (by ext) (by rw[Ar]<;>ext) (by ext) (by rw[hj];simpa using ew) ⟨rfl,fin⟩) hs
def YW:IxR X (Z2 X.K):=by
 intro value slice pj s σ H x y v u Q I rx ry h hs
 obtain⟨p,xs,i,z,rfl,rfl,hq,he,q⟩:=h
 cases rx
 obtain⟨t,rfl⟩:=ry
 obtain⟨its,r,pl,hz⟩:=I.tuple hq
 obtain⟨j,h1,h2,h3,h4,h5⟩:=Ku he
 obtain⟨w,ew,rw'⟩:=r.get h2
 have hl:=r.length
 have hn:=Jb
 have fin:EP X pj σ Q w s:=⟨z,H,I,rw',q⟩
 exact subscriptTail_builtinR (x:=w) pl.typeIs slot_tuple_getitem.lookup
  (getItem_tuple (j:=j) (Q:=λr s'=>r=w/\EP X pj σ Q r s') pl (by ext) (by ext) (by rw[Ar,<- hl];exact h1) (by simpa using ew) ⟨rfl,fin⟩) hs
def Xn:IxR X Y4:=by
 intro value slice pj s σ H x y v u Q I rx ry h hs
 obtain⟨z,i,c,rfl,rfl,hz,he,q⟩:=h
 obtain⟨t,rfl⟩:=rx
 obtain⟨t',rfl⟩:=ry
 obtain⟨j,h1,h2,h3,h4,h5⟩:=Ku he
 have hl:z.cps.toList.length=z.length:=by simp[Str.length]
 rw[hl] at h1 h4 h5
 have hn:=Jb
 exact tail_any (typeIs_str s z t) slot_str_getitem.lookup (getItem_str (c:=c) (by
  have e1:decide (i < -(2 ^ 63:Int))=false:=Bi (by ext)
  have e2:decide (i >= 2 ^ 63)=false:=Bi (by ext)
  rw[e1,e2,Bool.or_false]) (by rw[h1];simpa using h2) ⟨.str ⟨#[c]⟩,H,I.tok _,⟨_,rfl⟩,q⟩) hs
def rIx (K:W.Frag):R2:=λx y H Q=>Xt K x y H Q\/Z2 K x y H Q\/Y4 x y H Q
def X2:IxR X (rIx X.K):=Vu.or (YW.or Xn)
def Oz (its:List Value)(n j:Nat)(u:Value):Obj.mapSeq (·.setIfInBounds j u) {cls:=.type "list",data:=.seq its.toArray n}={cls:=.type "list",data:=.seq (its.set j u).toArray n}:=by
 simp[Obj.mapSeq]
theorem Inv.lst {pj:Zab}{σ:St}{H:Hp}{s:Shared}{p:Addr}{xs:List V}(I:Inv X pj σ H s)(h:H p=some (.lst xs)) :
  ∃(its:List Value) (n:Nat),Vals xs its/\s.heap.get? p=some {cls:=.type "list",data:=.seq its.toArray n}/\xs.length<=sizeLine:=by
 obtain⟨z,its,n,r,e⟩:=I.hok p _ h
 exact⟨its,n,r,e,z⟩
def Inv.lstUpd {pj:Zab}{σ:St}{H:Hp}{s:Shared}{p:Addr}{xs ys:List V}{its its':List Value}{n n':Nat}{f:Obj->Obj}(I:Inv X pj σ H s)(h:H p=some (.lst xs))
  (ho:s.heap.get? p=some {cls:=.type "list",data:=.seq its.toArray n}) (hf:f {cls:=.type "list",data:=.seq its.toArray n}={cls:=.type "list",data:=.seq its'.toArray n'}) (r:Vals ys its') (hz:ys.length<=sizeLine) (t:Nat) :
  Inv X pj σ (upd H p (.lst ys)) {s with heap:=s.heap.update p f,toks:=t}:=by
 have e:(s.heap.update p f).get? p=some {cls:=.type "list",data:=.seq its'.toArray n'}:=by
  rw[AJ f ho (by rw[hf]<;>rfl),hf]
 refine I.write (x:=p) (e:=p) (by rw[h];trivial) (.inl rfl) (λb u hb q=>(A9 _ _ (Ne.symm hb)).trans q) ⟨_,e⟩ ?_
 exact⟨hz,its',n',r,e⟩
def Aac:V->V->V->Hp->(Hp->Prop)->Prop:=λo i v H Q=>∃p xs k j,o=.ref p/\i=.int k/\H p=some (.lst xs)/\ixN xs.length k=some j/\Q (upd H p (.lst (xs.set j v)))
def set_list:VH X Aac:=by
 intro pj s σ H o i v ov iv u Q I ro ri rv h
 obtain⟨p,xs,k,j,rfl,rfl,hp,hj,q⟩:=h
 cases ro
 obtain⟨t,rfl⟩:=ri
 obtain⟨its,n,r,ho,hz⟩:=I.lst hp
 obtain⟨h1,h2,h3,h4⟩:=PZ hj
 have hl:=r.length
 have hn:=Jb
 have I':Inv X pj σ (upd H p (.lst (xs.set j v))) {s with heap:=s.heap.update p (Obj.mapSeq (·.setIfInBounds j u))}:=
  I.lstUpd hp ho (Oz its n j u) (r.set rv j) (by rw[BF];exact hz) s.toks
 by_cases h0:0<=k
 ·have hk:k.toNat=j:=by
   rw[seqIndex_of h0 h4] at h1
   exact AR h1
  exact W.ki_setAt ho h0 (by ext) (by rw[Ar,<- hl];exact h4) (by rw[hk];exact⟨_,I',q⟩)
 ·have hk:(k+(its.toArray.size:Int)).toNat=j:=by
   rw[seqIndex_neg (by ext) h3] at h1
   rw[Ar,<- hl]
   exact AR h1
  exact W.ki_setBack ho (by ext) (by rw[Ar,<- hl];exact h3) (by ext) (by rw[hk];exact⟨_,I',q⟩)
def Mi (lo hi:Option Int)(n:Nat):(sliceBounds lo hi none n).1=((HT.sIx n 0 lo:Nat):Int)/\(sliceBounds lo hi none n).2.1=((HT.sIx n n hi:Nat):Int)/\(sliceBounds lo hi none n).2.2=1:=by
 refine⟨?_,?_,rfl⟩
 ·cases lo with
  |none=>simp[sliceBounds,HT.sIx]
  |some i =>
   simp only[sliceBounds,HT.sIx,Option.getD_none,show(1:Int) > 0 by decide,if_true]
   by_cases h:i<0
   ·simp only[h,if_true]<;>ext
   ·simp only[h,Bt]<;>ext
 ·cases hi with
  |none=>simp[sliceBounds,HT.sIx]
  |some i =>
   simp only[sliceBounds,HT.sIx,Option.getD_none,show(1:Int) > 0 by decide,if_true]
   by_cases h:i<0
   ·simp only[h,if_true]<;>ext
   ·simp only[h,Bt]<;>ext
def Lr (its:List Value)(lo hi:Option Int):slicePick its.toArray lo hi none=((its.drop (HT.sIx its.length 0 lo)).take (HT.sIx its.length its.length hi-HT.sIx its.length 0 lo)).toArray:=by
 obtain⟨h1,h2,h3⟩:=Mi lo hi its.toArray.size
 unfold slicePick
 rw[h1,h2,h3]
 simp only[sliceRange_one,pick_run,Ar]<;>rfl
def Zg (K:W.Frag):V->Option Int->Option Int->Hp->VK->Prop:=λx lo hi H Q=>∃a xs,x=.ref a/\SqL K H a xs/\∀p,H p=none->Q (.ref p) (upd H p (.lst (N9 xs lo hi)))
def VQ:SlR X (Zg X.K):=by
 intro pj s σ H x v vl vu lo hi sl Q I rx hs pl pu h
 obtain⟨a,xs,rfl,hx,q⟩:=h
 cases rx
 obtain⟨its,r,ht,hz⟩:=I.list hx
 have hlen:=r.length
 refine⟨"list",_,slot_list_getitem.lookup,ht.isList.typeIs,?_⟩
 refine wpAny_getItem_list_slice ht.isList hs pl pu .none (by simp) ?_ (by rw[Ar]<;>ext)
 rw[Lr,<- hlen]
 refine⟨.ref s.heap.objs.size,_,I.laid (t':=s.toks) (o:=.lst (N9 xs lo hi)) (λb ob q=>Ac _ q) (Ae _) ?_,rfl,q _ (I.hok.fresh (Ae _))⟩
 exact⟨AO (Ke xs lo hi) hz,_,0,(r.drop (HT.sIx xs.length 0 lo)).take (HT.sIx xs.length xs.length hi-HT.sIx xs.length 0 lo),Ag _ rfl⟩
def Ho:Hj X (.builtin "len") (λxs H Q=>∃p ys,xs=[.ref p]/\(SqL X.K H p ys\/SqT X.K H p ys)/\Q (.int ys.length) H):=by
 intro pj s σ H xs us Q I r h
 obtain⟨p,ys,rfl,hq,q⟩:=h
 obtain⟨u,rfl,rx⟩:=vals1 r
 cases rx
 have hn:=Jb
 rcases hq with hq|hq
 ·obtain⟨its,r',pl,hz⟩:=I.list hq
  have hlen:=r'.length
  exact Calls.call_len_list pl.isList (by simp only[Ar]<;>ext) ⟨.int ys.length,H,I.tok _,⟨s.toks+1,by rw[Ar,hlen]⟩,q⟩
 ·obtain⟨its,r',pl,hz⟩:=I.tuple hq
  have hlen:=r'.length
  exact len_tuple pl (by simp only[Ar]<;>ext) ⟨.int ys.length,H,I.tok _,⟨s.toks+1,by rw[Ar,hlen]⟩,q⟩
def My:Hj X (.builtin "len") (λxs H Q=>∃z,xs=[.str z]/\z.length<=sizeLine/\Q (.int z.length) H):=by
 intro pj s σ H xs us Q I r h
 obtain⟨z,rfl,hz,q⟩:=h
 obtain⟨u,rfl,t,rfl⟩:=vals1 r
 have hn:=Jb
 exact len_str (by ext) ⟨.int z.length,H,I.tok _,⟨_,rfl⟩,q⟩
def Ly:Hj X (.type "tuple") (λxs H Q=>∃p ys,xs=[.ref p]/\((SqL X.K H p ys/\∀l,H l=none->Q (.ref l) (upd H l (.tup ys)))\/(SqT X.K H p ys/\Q (.ref p) H))):=by
 intro pj s σ H xs us Q I r h
 obtain⟨p,ys,rfl,h⟩:=h
 obtain⟨u,rfl,rx⟩:=vals1 r
 cases rx
 rcases h with⟨hq,q⟩|⟨hq,q⟩
 ·obtain⟨its,r',pl,hz⟩:=I.list hq
  have hlen:=r'.length
  refine call_tuple_list pl.isList (λh' kp=>?_) (by simp only[Ar]<;>ext)
  have I1:Inv X pj σ H {s with heap:=h'}:=I.kept (t':=s.toks) kp
  have I2:Inv X pj σ (upd H h'.objs.size (.tup ys)) {s with heap:=h'.push {cls:=.type "tuple",data:=.seq its.toArray}}:=
   I1.laid (t':=s.toks) (λb o e=>Ac _ e) (Ae _) (show ObjOk X.prog X.w _ _ _ (.tup ys) from⟨⟨hz,⟨_,Ag _ rfl,rfl⟩⟩,its,r',IsTup.new _ _⟩)
  exact⟨.ref h'.objs.size,_,I2,rfl,q _ (I1.hok.fresh (Ae _))⟩
 ·obtain⟨its,r',pl,hz⟩:=I.tuple hq
  exact call_tuple_same pl ⟨.ref p,H,I,rfl,q⟩
def tyV (K:W.Frag)(T:String)(x:V)(H:Hp):Prop:=match x with
 |.str _=>T="str"
 |.int _=>T="int"
 |.ref p=>(T="list"/\∃xs,SqL K H p xs)\/(T="tuple"/\∃o,K.lookup p=some o/\o.cls=.type "tuple"/\o.dict=none) \/
   (T="dict"/\((∃kvs,H p=some (.dK kvs))\/∃kvs,H p=some (.dT kvs)))\/(T="set"/\∃S n,H p=some (.set S n))
 |_=>False
theorem XR {pj:Zab}{σ:St}{H:Hp}{s:Shared}{T:String}{x:V}{v:Value}(I:Inv X pj σ H s)(r:RelV x v)(ty:tyV X.K T x H) :
  s.TypeIs v T/\∀a,v=.ref a->∃ob,s.heap.get? a=some ob/\ob.dict=none:=by
 cases x with
 |str z =>
  obtain⟨t,rfl⟩:=r
  cases (show T="str" from ty)
  exact⟨typeIs_str s z t,λ_ e=>nomatch e⟩
 |int i =>
  obtain⟨t,rfl⟩:=r
  cases (show T="int" from ty)
  exact⟨typeIs_int s i t,λ_ e=>nomatch e⟩
 |ref p =>
  cases r
  rcases ty with⟨rfl,xs,hq⟩|⟨rfl,o,hk,hc,hd⟩|⟨rfl,hk⟩|⟨rfl,S,n,hk⟩
  ·obtain⟨its,_,pl,_⟩:=I.list hq
   refine⟨pl.isList.typeIs,λa e=>?_⟩
   cases e
   obtain⟨o,n,e,c,hd,_⟩:=pl
   exact⟨o,e,hd⟩
  ·refine⟨⟨o,I.kIn p o hk,hc⟩,λa e=>?_⟩
   cases e
   exact⟨o,I.kIn _ o hk,hd⟩
  ·have z:∃o,s.heap.get? p=some o/\o.ExactDict:=by
    rcases hk with⟨kvs,hk⟩|⟨kvs,hk⟩
    ·obtain⟨_,_,_,_,o,_,_,e,ex,_⟩:=I.hok p _ hk
     exact⟨o,e,ex⟩
    ·obtain⟨_,_,_,_,o,_,_,e,ex,_⟩:=I.hok p _ hk
     exact⟨o,e,ex⟩
   obtain⟨o,e,ex⟩:=z
   refine⟨⟨o,e,ex.1⟩,λa e2=>?_⟩
   cases e2
   exact⟨o,e,ex.2.1⟩
  ·obtain⟨o,_,_,_,e,ex,_⟩:=I.hok p _ hk
   refine⟨⟨o,e,ex.1⟩,λa e2=>?_⟩
   cases e2
   exact⟨o,e,ex.2.1⟩
 |_=>exact False.elim ty
def tBM (K:W.Frag)(T:String)(r:V->List V->Hp->VK->Prop)(to:TE)(t:TA):TE:=fun σ H Q=>to σ H λx H1=>tyV K T x H1/\t σ H1 λxs H2=>r x xs H2 Q
variable {o e:Expr}{es:List Expr}{to:TE}{t:TA}{name:Str}{apos cpos:Pos}{T id:String}{r:V->List V->Hp->VK->Prop}
def We (pa:PlainAttrs T)(slot:Slot T name id)(hty:typeOf (.builtin id)=pure (.type "method_descriptor"))(hm:MtR X id r)(ho:PE X o to)(ha:PA X (e::es) t)
  (hbase:attributeBase o name X.env (eval o X.env)=eval o X.env:=by rfl)
  (hfew:((backTo cpos (starEach (e::es) X.env)).all (λx=>!x.1)&&(backToKw cpos (keywordEach [] X.env)).all (λx=>x.1.isSome)
   && decide ((e::es).length+([]:List Keyword).length+(if ([]:List Keyword).isEmpty then 0 else 1)<30))=true:=by rfl)
  (hline:(apos.endLine==cpos.line)=true:=by rfl) (hs:starEach (e::es) X.env=(false,eval e X.env)::starEach es X.env:=by rfl) (hplain:(backTo cpos (starEach es X.env)).any (·.1)=false:=by rfl) :
  PE X (.Call (.Attribute o name apos) (e::es) [] cpos) (tBM X.K T r to t):=by
 intro pj s σ H Q I h
 refine wpAny_Call_method_late hbase hfew hline rfl (thn (ho pj s σ H _ I h) λv s1 ⟨x,H1,I1,r1,ty,q1⟩=>?_)
 obtain⟨h1,h2⟩:=XR I1 r1 ty
 refine⟨T,id,pa,slot,hty,h1,h2,?_⟩
 have hA:=ha cpos pj s1 σ H1 _ I1 q1
 rw[hs] at hA ⊢
 refine Calls.callWith_builtin (by show(false||(backTo cpos (starEach es X.env)).any (·.1))=false;rw[hplain]<;>rfl) (Calls.evalArgs_plain ?_)
 exact thn hA λus s2 ⟨vs,H2,I2,r2,q2⟩=>hm pj s2 σ H2 x vs v us Q I2 r1 r2 q2
end
def MtM (X:Cx)(id:String)(r:V->List V->Hp->VK->Prop):Prop:=
 ∀(pj:Zab) (s:Shared) (σ:St) (H:Hp) (x:V) (xs:List V) (v:Value) (us:List Value) (Q:VK),Inv X pj σ H s->RelV x v->Vals xs us->r x xs H Q ->
  wpAny (model X.prog X.w) X.A (call (.builtin id) (v::us)) (EP X pj σ Q) X.xe s
theorem Vals.one:∀{x:V}{us:List Value},Vals [x] us->∃u,us=[u]/\RelV x u
 |_,_,.cons r .nil=>⟨_,rfl,r⟩
theorem Vals.reverse {xs:List V}{us:List Value}(h:Vals xs us):Vals xs.reverse us.reverse:=by
 induction h with
 |nil=>exact .nil
 |cons r t ih=>rw[List.reverse_cons,List.reverse_cons];exact Vals.append ih (.cons r .nil)
section
variable {X:Cx}{pj:Zab} {σ:St}{H:Hp}{s:Shared}{l b:Addr}{xs ys zs:List V}
def Inv.lset {its its':List Value}{n:Nat}{f:Array Value->Array Value}{t':Nat}(I:Inv X pj σ H s)(hH:H l=some (.lst xs))
  (e:s.heap.get? l=some {cls:=.type "list",data:=.seq its.toArray n}) (hf:f its.toArray=its'.toArray) (hv:Vals ys its') (hz:ys.length<=sizeLine) :
  Inv X pj σ (upd H l (.lst ys)) {s with heap:=s.heap.update l (Obj.mapSeq f),toks:=t'}:=by
 have q:=PySem.IsL.update e f
 rw[hf] at q
 refine I.write (x:=l) (e:=l) (by rw[hH];exact trivial) (.inl rfl) (λb' u hb hu=>(A9 s.heap (Obj.mapSeq f) (Ne.symm hb)).trans hu) ⟨_,q⟩ ?_
 exact⟨hz,its',_,hv,q⟩
def Inv.lstM (I:Inv X pj σ H s)(hH:H l=some (.lst xs)):xs.length<=sizeLine/\∃(its:List Value) (n:Nat),Vals xs its/\xs.length=its.length/\s.heap.get? l=some {cls:=.type "list",data:=.seq its.toArray n}:=by
 obtain⟨z,its,n,r,e⟩:=I.hok l _ hH
 exact⟨z,its,n,r,r.length,e⟩
end
section
variable {X:Cx}
def Vp:V->List V->Hp->VK->Prop:=λx vs H Q=>∃l xs y,x=.ref l/\vs=[y]/\H l=some (.lst xs)/\xs.length<sizeLine/\Q .non (upd H l (.lst (xs++[y])))
def Q9:MtM X "list.append" Vp:=by
 intro pj s σ H x vs v us Q I rx rv h
 obtain⟨l,xs,y,rfl,rfl,hH,hz,q⟩:=h
 cases rx
 obtain⟨u,rfl,ru⟩:=rv.one
 obtain⟨z,its,n,r,hl,e⟩:=I.lstM hH
 refine call_meets F.slot_list_append ⟨_,e,rfl⟩ F.entry_list_append (F.args_list_append_2 _ _) (PySem.list_append l its.toArray n u (by rw[Ar];ext)) ⟨e,?_⟩
 refine⟨.non,_,I.lset (its':=its++[u]) hH e (by simp) (r.append (.cons ru .nil)) ?_,rfl,q⟩
 rw[As,List.length_singleton]
 ext
end
end L2
namespace Att
open PySem PySem.W PySem.Calls PyProof.Rows
theorem Ki {P:Params}{h:Heap}:∀(ns:List Int) (vs:List Value),WellAll P h vs (ns.map WData.int)->IntsAre vs ns:=by
 intro ns
 induction ns with
 |nil =>
  intro vs w
  rw[List.map_nil] at w
  cases w
  exact .nil
 |cons n ns ih =>
  intro vs w
  rw[Ay] at w
  cases w with
  |cons a b =>
   cases a
   exact .cons _ _ (ih _ b)
theorem Q1 {l:OpenLaw}{n:Nat}(hn:l.most=some n){P:Params}{h:Heap}{args:List WData}{vals:List Value}
  (hpre:l.row.toRowW.claim.pre args=true) (hwl:WellAll P h vals args) :
  ∃a vs ns,vals=[Value.ref a]/\args=[WData.list (ns.map WData.int)]/\h.get? a=some {cls:=.type "list",data:=.seq vs.toArray}/\IntsAre vs ns/\ns.length<=n:=by
 have hsh:WShape.hasAll [] args [.list .int]=true:=(pre_splitW hpre).1
 have hc:l.pre.holds [] {args:=args}=true:=(pre_splitW hpre).2
 obtain⟨d,r,rfl,h1,h2⟩:=hasAllW_cons hsh
 obtain rfl:=hasAllW_nil h2
 obtain⟨xs,rfl,h3⟩:=hasW_list h1
 obtain⟨ns,rfl⟩:=items_int h3
 have hlen:ns.length<=n:=by
  unfold OpenLaw.pre at hc
  have h4:(WTm.not (.lt (.lit (.int (n:Int))) (.len (.arg 0)))).holds [] {args:=[.list (ns.map .int)]}=true:=by
   have h4:=(holds_andW hc).1
   rw[hn] at h4
   exact h4
  have h5:=condW_of h4 (w_not (w_lt w_lit (w_len_list (w_arg rfl))))
  rw[Ak] at h5
  refine Nat.le_of_not_lt λq=>?_
  have q':(n:Int)<((ns.length:Nat):Int):=by ext
  first
   |(rw[BK q'] at h5;exact absurd h5 (by decide))
   |(simp at h5;ext)
 cases hwl with
 |cons w1 w2 =>
  cases w2
  cases w1 with
  |list ho hall=>exact⟨_,_,ns,rfl,rfl,ho,Ki ns _ hall,hlen⟩
def Rb (l:OpenLaw)(args:List WData):l.row.toRowW.claim.post args (.bool true) args=true:=
 postW_of (r:=l.row.toRowW) (X:=(true==true))
  (show WShape.has [] (.bool true) .bool=true by first|rfl|decide|simp[WShape.has,WShape.arms,WShape.armsAll])
  (show(WTm.eq .res (.lit (.bool true))).value [] {args:=args,res:=some (.bool true),after:=args}=some (.bool (true==true)) from w_eq_bool (w_res rfl) w_lit) rfl
def Oi {l:OpenLaw}{n:Nat}{q:Program}{loose:List Str}{XP:(Str->Option Value)->Heap->Prop}{YP:World->Heap->Prop}{d:DefRec}
  (hn:l.most=some n) (hdf:d.params.defaults=[])
  (call:∀(w:World) (s₀ s₁:Shared) (mg mb:Str->Option Value) (fa:Addr) (o:Obj) (pm cd doc:Value) (a:Addr) (vs:List Value) (ns:List Int),
   Ground q loose [] XP w s₀ mg mb s₁.heap->YP w s₁.heap ->
   s₁.heap.get? fa=some o->o.data=.func (docDef d.name d.params d.body d.scope pm cd doc)->s₁.heap.CodeRec cd d.name->mg d.name=some (.ref fa) ->
   s₁.heap.get? a=some {cls:=.type "list",data:=.seq vs.toArray}->IntsAre vs ns->ns.length<=n->s₁.gens=#[] ->
   codeAny (model l.prog w) callerA (.call (.ref fa) ⟨[.ref a],[]⟩) (λr s'=>r=.ok (.ret (.bool true))/\OldK s₁.heap s'.heap/\s'.os=s₁.os/\AllBare s'.gens) s₁) :
  WalkO q loose XP YP l.row.toRowW d [] (λf vs=>PySem.call f vs):=by
 intro w s₀ s₁ mg mb G Y fa o pm cd doc dV kV ho hd hcd hD hmg hg args vals as hpre hlay hrd hwl hlo
 obtain rfl:dV=.none:=Dflts.none hD hdf
 obtain rfl:kV=.none:=Dflts.noKw hD
 obtain⟨a,vs,ns,rfl,rfl,hobj,hints,hlen⟩:=Q1 hn hpre hwl
 refine enter_call (codeAny_mono (call w s₀ s₁ mg mb fa o pm cd doc a vs ns G Y ho (fd_plain hd) hcd hmg hobj hints hlen hg) λr s' hq=>?_)
 obtain⟨rfl,h2,h3,h4⟩:=hq
 exact⟨.inl ⟨.bool true,.bool true,[],rfl,λ_=>rfl,.bool true,Rb l _,λ_=>⟨List.Pairwise.nil,λ_ hm=>(nomatch hm)⟩⟩,h2,h3,h4⟩
end Att
namespace L2
open PySem PySem.Spec PyProof.Rows
theorem L7:∀{vs:List Value}{ns:List Int},IntsAre vs ns->Vals (ns.map V.int) vs
 |_,_,.nil=>.nil
 |_,_,.cons n t h=>.cons ⟨t,rfl⟩ (L7 h)
def WH (H:Hp):Prop:=∀b,H b=none\/∃o xs,H b=some (.frz o (.lst xs))
theorem Sq {P:Program}{w:World}{K:W.Frag}{mg mb:Str->Option Value}{CX:CXT}{k:Nat}{fa a:Addr}{fd:FuncData}{x:Str}{sp:Sp}{s₁:Shared}{vs:List Value}{ns:List Int}
  (KX:K.In s₁.heap) (hns:s₁.heap.Ns mainGlobals mg) (hb:s₁.heap.Ns builtinsNs mb) (hbb:∀x:Str,x≠"__name__"->mb x=bootBuiltins x) (hlim:s₁.heap.NoLimit) (hg:s₁.gens=#[])
  (ha:s₁.heap.get? a=some {cls:=.type "list",data:=.seq vs.toArray}) (hi:IntsAre vs ns) (hl:ns.length<=sizeLine) (hr:Room k callerA)
  (F:∀base:Heap,K.In base->base.Ns mainGlobals mg->DU P w K mg base CX k fa fd [x] sp) (hbind:∀(s:Shared) (u:Value),BindsTo s fd ⟨[u],[]⟩ [(x,u)])
  (hsp:∀H:Hp,WH H->SqL K H a (ns.map V.int)->sp [.ref a] H (λv _=>v=.bl true) λ_ _ _=>False)
  (hCX:∀H e s',CX [] H s₁ (λ_ _ _=>False) e s'->False) :
  codeAny (model P w) callerA (.call (.ref fa) ⟨[.ref a],[]⟩) (λr s'=>r=.ok (.ret (.bool true))/\OldK s₁.heap s'.heap/\s'.os=s₁.os/\AllBare s'.gens) s₁:=by
 have rv:=L7 hi
 have lenV:=hi.length
 have core:∀H:Hp,WH H->SqL K H a (ns.map V.int)->HOk P w H s₁.heap->(∀b,H b≠none->b=a)->(H a≠none->K.lookup a=none) ->
   codeAny (model P w) callerA (.call (.ref fa) ⟨[.ref a],[]⟩) (λr s'=>r=.ok (.ret (.bool true))/\OldK s₁.heap s'.heap/\s'.os=s₁.os/\AllBare s'.gens) s₁:=by
  intro H hO hS hok hA hK
  have base_of:∀{b:Addr}{o:Obj},s₁.heap.get? b=some o->H b=none->(M8 s₁.heap H).get? b=some o:=λe n=>SO e n
  have noA:∀{b:Addr}{o:Obj}{es:Array DictEntry}{ep:Nat},s₁.heap.get? b=some o->o.data=.dict es ep->H b=none:=λ{b o es ep} e d=>by
   cases q:H b with
   |none=>rfl
   |some u =>
    have e':b=a:=hA b (by rw[q];simp)
    subst e'
    rw[ha] at e;cases e
    have d':Data.seq vs.toArray _=Data.dict es ep:=d
    cases d'
  have nsK:∀{b:Addr}{m:Str->Option Value},s₁.heap.Ns b m->(M8 s₁.heap H).Ns b m:=λ{b m} ⟨o,es,ep,e,d,r⟩=>⟨o,es,ep,base_of e (noA e d),d,r⟩
  have hKb:K.In (M8 s₁.heap H):=λb o e=>base_of (KX b o e) (by
   cases q:H b with
   |none=>rfl
   |some u =>
    have e':b=a:=hA b (by rw[q];simp)
    subst e'
    rw[hK (by rw[q];simp)] at e;cases e)
  have hM:Mod K mg (M8 s₁.heap H):=⟨hKb,nsK hns,⟨mb,nsK hb,hbb⟩,let ⟨mc,h1,h2⟩:=hlim;⟨mc,nsK h1,h2⟩⟩
  have e0:Ul P w K mg (M8 s₁.heap H) callerA [] s₁ H:=⟨rfl,hM,λb o e=>Ud e,Nat.le_of_eq (QJ _ _),trivial,λb hb=>absurd (show b∈([]:List Addr) from hb) (by simp),hok,.of_eq hg⟩
  refine codeAny_mono ((F _ hKb (nsK hns)).run callerA [] s₁ H ⟨[.ref a],[]⟩ [.ref a] [.ref a] _ _ hr e0 (hbind s₁ (.ref a)) (.cons rfl .nil) (hsp H hO hS)) λr s' h=>?_
  cases r with
  |error e=>exact(hCX H e s' h).elim
  |ok fl =>
   cases fl with
   |next=>exact False.elim h
   |brk=>exact False.elim h
   |cont=>exact False.elim h
   |ret u =>
    obtain⟨v,H',os,bare,un,hok',r',q⟩:=h
    have q':v=.bl true:=q
    subst q'
    obtain rfl:u=Value.bool true:=r'
    refine⟨rfl,OldK.of_keep λb o e=>?_,os,bare⟩
    cases q:H b with
    |none=>exact un.keep b o e q (by intro z;exact absurd (show b∈([]:List Addr) from z) (by simp)) (by simp)
    |some u =>
     rcases hO b with z|⟨ob,xs,z⟩
     ·rw[q] at z;cases z
     ·have z2:=un.frzs b ob _ z
      obtain⟨e1,_⟩:=hok b _ z
      obtain⟨e2,_⟩:=hok' b _ z2
      rw[e] at e1;cases e1
      exact e2
 cases hk:K.lookup a with
 |some o =>
  have e:=KX a o hk
  rw[ha] at e
  cases e
  refine core (λ_=>none) (λ_=>.inl rfl) (.inr ⟨_,vs.toArray,_,hk,rfl,rfl,rfl,by rw[Ar,lenV];exact hl,by simpa using rv⟩) (λb u z=>by have z':(none:Option HO)=some u:=z;cases z') (λb z=>absurd rfl z) λz=>absurd rfl z
 |none =>
  refine core (λb=>if b=a then some (.frz {cls:=.type "list",data:=.seq vs.toArray} (.lst (ns.map V.int))) else none) (λb=>?_) (.inl (.inr ⟨{cls:=.type "list",data:=.seq vs.toArray},if_pos rfl⟩)) (λb u z=>?_) (λb z=>?_) λ_=>hk
  ·by_cases hb:b=a
   ·exact .inr ⟨_,_,if_pos hb⟩
   ·exact .inl (if_neg hb)
  ·by_cases hb:b=a
   ·have z':=(if_pos hb).symm.trans z
    cases z'
    subst hb
    exact⟨ha,by rw[Ak];exact hl,vs,_,rv,ha⟩
   ·have z':=(if_neg hb).symm.trans z
    cases z'
  ·by_cases hb:b=a
   ·exact hb
   ·exact absurd (if_neg hb) z
def U0 {l:W.OpenLaw}{n k:Nat}{q:Program}{loose:List Str}{XP:(Str->Option Value)->Heap->Prop}{YP:World->Heap->Prop}{d:DefRec}{K:Params->W.Frag}{CX:World->CXT}{sp:World->Sp}{x:Str}
  (hn:l.most=some n) (hn2:n<=sizeLine) (hdf:d.params.defaults=[]) (hr:Room k callerA)
  (hY:∀(w:World) (h:Heap),YP w h->(K w.params).In h)
  (F:∀(w:World) (mg:Str->Option Value) (fa:Addr) (h:Heap),(K w.params).In h->h.Ns mainGlobals mg->mg d.name=some (.ref fa) ->
   ∃fd:FuncData,(∀(s:Shared) (u:Value),BindsTo s fd ⟨[u],[]⟩ [(x,u)]) /\
    ∀base:Heap,(K w.params).In base->base.Ns mainGlobals mg->DU l.prog w (K w.params) mg base (CX w) k fa fd [x] (sp w))
  (hsp:∀(w:World) (H:Hp) (a:Addr) (ns:List Int),ns.length<=n->WH H->SqL (K w.params) H a (ns.map V.int)->sp w [.ref a] H (λv _=>v=.bl true) λ_ _ _=>False)
  (hCX:∀(w:World) (H:Hp) (s:Shared) (e:Value) (s':Shared),CX w [] H s (λ_ _ _=>False) e s'->False) :
  W.WalkO q loose XP YP l.row.toRowW d [] (λf vs=>PySem.call f vs):=by
 refine Att.Oi hn hdf λw s₀ s₁ mg mb fa o pm cd doc a vs ns G Y ho hd hcd hmg hobj hints hlen hg=>?_
 have KX:=hY w _ Y
 obtain⟨fd,hb,hF⟩:=F w mg fa _ KX G.T.g hmg
 exact Sq KX G.T.g G.T.b G.T.builtins G.T.nolimit hg hobj hints (AO hlen hn2) hr hF hb (λH hO hS=>hsp w H a ns hlen hO hS) λH e s'=>hCX w H s₁ e s'
def Hm (s:Stmt):Arguments:=match s with
 |.FunctionDef _ a _ _ _ _ _ _ _ _=>a
 |_=>{posonlyargs:=[],args:=[],vararg:=none,kwonlyargs:=[],kw_defaults:=[],kwarg:=none,defaults:=[]}
def EW (s:Stmt):List Stmt:=match s with
 |.FunctionDef _ _ b _ _ _ _ _ _ _=>b
 |_=>[]
def Cu (s:Stmt):Scope:=match s with
 |.FunctionDef _ _ _ _ _ _ sc _ _ _=>sc
 |_=>{kind:=.function,names:=[],isGenerator:=false,isCoroutine:=false}
abbrev CX0:CXT:=λ_ _ _ _ _ _=>False
abbrev E0:XK:=λ_ _ _=>False
def Zy {X:Cx}:Passes CX0 X E0:=λ_ _ _ _ _ _ _ h=>h.elim
structure Fun (K:W.Frag) (x qual:Str) (st:Stmt) (f:Addr) (fd:FuncData):Prop where
 ex:∃(oc:Value) (od:Option Addr) (kV doc pm:Value) (an:Option Addr) (cdv ct:Value) (osl:Array (Option Value)),
  fd=W.fnOf x qual (Hm st) (EW st) (Cu st) .none kV doc pm an cdv ct/\K.lookup f=some ⟨oc,od,.func fd,osl⟩/\W.codeIn K cdv qual=true
 kp:W.keepIn K (.ref f)=true
section
variable {P:Program}{w:World}{K:W.Frag}{mg:Str->Option Value}{base:Heap}
def Fun.ok {x qual:Str}{st:Stmt}{f:Addr}{fd:FuncData}{N ps:List Str}{k:Nat}{sp:Sp}(F:Fun K x qual st f fd)(S:CL N ps (Cu st))(len:∀vs H Q E,sp vs H Q E->vs.length=ps.length)
  (hbody:∀(cdv:Value) (A:Around) (outer:List Env) (s:Shared) (H:Hp) (vs:List V) (Q:VK) (E:XK),Room k (A.deeper (envOfC qual (Cu st) s.heap.objs.size f cdv))->sp vs H Q E ->
   ∃t,PSs (KL CX0 P w K mg base N qual (Cu st) f cdv A outer s H E).nox (EW st) t/\t {nx:=λ_ H'=>Q .non H',rt:=Q} (start N vs) H):DU P w K mg base CX0 (k+1) f fd ps sp:=by
 obtain⟨oc,od,kV,doc,pm,an,cdv,ct,osl,rfl,lk,hcd⟩:=F.ex
 refine Zd lk hcd S len λA outer s H vs Q E hr hsp=>?_
 obtain⟨t,h,q⟩:=hbody cdv A outer s H vs Q E hr hsp
 exact⟨t,h.nox,q⟩
def Fun.binds {x qual:Str}{st:Stmt}{f:Addr}{fd:FuncData}{ps:List Str}(F:Fun K x qual st f fd)
  (h:∀(kV doc pm:Value) (an:Option Addr) (cdv ct:Value) (us:List Value),us.length=ps.length->bindArgs (W.fnOf x qual (Hm st) (EW st) (Cu st) .none kV doc pm an cdv ct) ⟨us,[]⟩=pure (ps.zip us)):Binds K fd ps []:=by
 obtain⟨oc,od,kV,doc,pm,an,cdv,ct,osl,rfl,lk,hcd⟩:=F.ex
 exact .all (h kV doc pm an cdv ct)
def Sb {x qual:Str}{st:Stmt}{f:Addr}{oc:Value}{od an:Option Addr}{osl:Array (Option Value)}{kV doc pm cdv ct:Value}(l:K.lookup f=some ⟨oc,od,.func (W.fnOf x qual (Hm st) (EW st) (Cu st) .none kV doc pm an cdv ct),osl⟩)
  (c:W.codeIn K cdv qual=true) (k:W.keepIn K (.ref f)=true):Fun K x qual st f (W.fnOf x qual (Hm st) (EW st) (Cu st) .none kV doc pm an cdv ct):=⟨⟨oc,od,kV,doc,pm,an,cdv,ct,osl,rfl,l,c⟩,k⟩
end
section
variable {X:Cx}
def pv (i:Nat){x:Str}{pos:Pos}(hN:X.N[i]?=some x:=by rfl)(hv:Vis X.env.scope x:=by first|exact Or.inl rfl|exact Or.inr (Or.inl rfl)|exact Or.inr (Or.inr rfl))(hd:(x==("__debug__":Str))=false:=by decide)
  (hcd:(x==("__classdict__":Str))=false:=by decide):PE X (.Name x pos) (Aay i):=Sr hN hv hd hcd
end
abbrev Go (prog:Program) (w:World) (A:Around) {α:Type} (t:Sem α) (Q:α->Zaa) (s:Shared):Prop:=wpAny (model prog w) A t Q (λ_ _=>False) s
def tests (env:Env)(ifs:List Expr):Sem Bool:=forIn ifs true λc r =>
 if r=true then (isTrue c env (eval c env)>>=λok=>pure (ForInStep.yield ok)) else pure (ForInStep.yield r)
def OW {scope:Scope}{env:Env}(h:∀y∈scope.names,y.2=.free->∃c,env.cells.lookup y.1=some c) :
  ∃cl,closureFor scope env=pure cl/\(∀x c,cl.lookup x=some c->env.cells.lookup x=some c)/\∀y∈scope.names,y.2=.free->∃c,cl.lookup y.1=some c:=by
 have gen:∀(l:List (Str×NameKind)) (acc:List (Str×Addr)),(∀y∈l,y.2=.free->∃c,env.cells.lookup y.1=some c)->(∀x c,acc.lookup x=some c->env.cells.lookup x=some c) ->
   ∃cl,(forIn l acc λ(x:Str×NameKind) (r:List (Str×Addr))=>if (x.2==NameKind.free)=true then do let c<-cellOf env x.1;pure (ForInStep.yield ((x.1,c)::r)) else pure (ForInStep.yield r))=(pure cl:Sem (List (Str×Addr))) /\
    (∀x c,cl.lookup x=some c->env.cells.lookup x=some c)/\(∀y∈l,y.2=.free->∃c,cl.lookup y.1=some c)/\∀x c,acc.lookup x=some c->∃c',cl.lookup x=some c':=by
  intro l
  induction l with
  |nil=>intro acc _ ha;exact⟨acc,rfl,ha,λ_ z=>(nomatch z),λx c e=>⟨c,e⟩⟩
  |cons y r ih =>
   intro acc hl ha
   obtain⟨n,k⟩:=y
   by_cases hk:k=.free
   ·subst hk
    obtain⟨c,hc⟩:=hl (n,.free) List.mem_cons_self rfl
    have ha':∀x c',((n,c)::acc).lookup x=some c'->env.cells.lookup x=some c':=λx c' e=>by
     by_cases hx:x=n
     ·subst hx
      have hb:(x==x)=true:=beq_iff_eq.mpr rfl
      simp only[List.lookup,hb] at e
      cases e;exact hc
     ·have hb:(x==n)=false:=Cc.mpr hx
      simp only[List.lookup,hb] at e
      exact ha x c' e
    obtain⟨cl,h1,h2,h3,h4⟩:=ih ((n,c)::acc) (λy hy=>hl y (BC _ hy)) ha'
    refine⟨cl,?_,h2,λy hy hf=>?_,λx c' e=>?_⟩
    ·rw[List.forIn_cons]
     have e:cellOf env n=pure c:=by unfold cellOf;rw[hc]
     simp only[beq_self_eq_true,if_true,e,pure_bind]
     exact h1
    ·refine(Ao.mp hy).elim (λz=>?_) λhy=>?_
     ·subst z
      have hb:(n==n)=true:=beq_iff_eq.mpr rfl
      exact h4 n c (by simp only[List.lookup,hb])
     ·exact h3 y hy hf
    ·by_cases hx:x=n
     ·subst hx
      have hb:(x==x)=true:=beq_iff_eq.mpr rfl
      exact h4 x c (by simp only[List.lookup,hb])
     ·have hb:(x==n)=false:=Cc.mpr hx
      exact h4 x c' (by simp only[List.lookup,hb];exact e)
   ·obtain⟨cl,h1,h2,h3,h4⟩:=ih acc (λy hy=>hl y (BC _ hy)) ha
    refine⟨cl,?_,h2,λy hy hf=>?_,h4⟩
    ·rw[List.forIn_cons]
     have e:(k==NameKind.free)=false:=by simpa using hk
     simp only[e,AV,Bt,pure_bind]
     exact h1
    ·refine(Ao.mp hy).elim (λz=>?_) λhy=>?_
     ·subst z
      exact absurd hf hk
     ·exact h3 y hy hf
 obtain⟨cl,h1,h2,h3,_⟩:=gen scope.names [] h (λx c e=>by simp at e)
 refine⟨cl,?_,h2,h3⟩
 unfold closureFor
 rw[<- h1]
 simp only[bind_pure]
def CY (X:Cx)(scope:Scope)(N:List Str)(cl:List (Str×Addr))(C:Addr)(s₁:Shared)(H₁:Hp)(fp:List Addr):Cx where
 prog:=X.prog
 w:=X.w
 K:=X.K
 mg:=X.mg
 base:=X.base
 A:=X.A
 N:=N
 s₀:=s₁
 H₀:=H₁
 env:=compEnvC scope cl C X.env
 outer:=X.stack
 stack:=X.stack
 ex:=fp
 fn:=λ_=>false
 calm:=X.calm
 pn:=[]
 xe:=λ_ _=>False
def PF (X:Cx)(ifs:List Expr)(t:TT):Prop:=
 ∀(pj:Zab) (s:Shared) (σ:St) (H:Hp) (Q:Bool->Hp->Prop),Inv X pj σ H s->t σ H Q ->
  wpAny (model X.prog X.w) X.A (tests X.env ifs) (TP X pj σ Q) X.xe s
def AaQ:TT:=λ_ H Q=>Q true H
def WC {X:Cx}:PF X [] AaQ:=λ_ _ _ H _ I h=>wpAny_tests_nil ⟨H,I,h⟩
def Xe {X:Cx}{c:Expr}{t:TT}(h:PT X c t):PF X [c] t:=λpj s σ H Q I q=>wpAny_tests_one (h pj s σ H Q I q)
def FvOk (X:Cx)(sc:Scope):List (Nat×Str)->Prop
 |[]=>True
 |p::r=>(X.N[p.1]?=some p.2/\(X.env.scope.names.lookup p.2=some .cell\/X.env.scope.names.lookup p.2=some .free)/\(sc.names.lookup p.2=some .cell\/sc.names.lookup p.2=some .free))/\FvOk X sc r
theorem FvOk.get {X:Cx}{sc:Scope}:∀{l:List (Nat×Str)}{k:Nat}{p:Nat×Str},FvOk X sc l->l[k]?=some p ->
  X.N[p.1]?=some p.2/\(X.env.scope.names.lookup p.2=some .cell\/X.env.scope.names.lookup p.2=some .free)/\(sc.names.lookup p.2=some .cell\/sc.names.lookup p.2=some .free)
 |[],_,_,_,h=>(by simp at h)
 |_::_,0,_,hf,h=>by simp at h;subst h;exact hf.1
 |_::_,k+1,_,hf,h=>FvOk.get (k:=k) hf.2 (by simpa using h)
def st0 (nc:Nat)(fv:List (Nat×Str))(σ:St):St:=List.replicate nc none++fv.map λp=>σ.getD p.1 none
def Kb {scope:Scope}{env:Env}{x:Str}(hcell:∀y∈scope.names,y.2≠.cell)
  (h:(relabel scope env).names.lookup x=some .cell\/(relabel scope env).names.lookup x=some .free):(x,NameKind.free)∈scope.names:=by
 have key:∀k,(relabel scope env).names.lookup x=some k->k=.cell\/k=.free->(x,NameKind.free)∈scope.names:=λk hk hkk=>by
  have hm:=Cd hk
  obtain⟨⟨n,k'⟩,hy,e⟩:=AK.mp hm
  dsimp only at e
  by_cases hc:(k'==NameKind.free&&env.scope.kind==.function&&env.kindOf n==some .cell)=true
  ·rw[if_pos hc] at e
   cases e
   have:k'=.free:=by
    rw[Ai,Ai] at hc
    exact beq_iff_eq.mp hc.1.1
   subst this
   exact hy
  ·rw[if_neg hc] at e
   cases e
   rcases hkk with e|e
   ·subst e;exact absurd rfl (hcell _ hy)
   ·subst e;exact hy
 rcases h with h|h
 ·exact key _ h (.inl rfl)
 ·exact key _ h (.inr rfl)
def Un.lay {fs ex:List Addr}{H H':Hp}{h h':Heap}{D:Addr}{o:HO}(u:Un fs ex H H' h h')(hD:h.objs.size<=D)(hn:H' D=none):Un fs ex H (upd H' D o) h h' where
 keep:=u.keep
 slot:=u.slot
 free:=λb ob q n hx=>by
  rw[Df (Az (AI (An q) hD))]
  exact u.free b ob q n hx
 there:=u.there
 tups:=λb xs q=>by have:=u.tups b xs q;rw[Df (Di this hn)];exact this
 frzs:=λb ob xs q=>by have:=u.frzs b ob xs q;rw[Df (Di this hn)];exact this
 tbls:=λb ps q=>by
  obtain⟨m,e⟩:=u.tbls b ps q
  exact⟨m,by rw[Df (Di e hn)];exact e⟩
def HOk.lay {P:Program}{w:World}{H:Hp}{h:Heap}{D:Addr}{o:HO}(x:HOk P w H h)(hn:H D=none)(new:ObjOk P w (upd H D o) h D o):HOk P w (upd H D o) h:=λb u e=>by
 by_cases hb:b=D
 ·subst hb;rw[DX] at e;cases e;exact new
 ·rw[Df hb] at e
  exact(x b u e).stay (λc v _ q=>q) (λc q=>by rw[Df (Di q hn)];exact q) λc xs q=>by rw[Df (Di q hn)];exact q
section
variable {X:Cx}{tg iter elt:Expr}{ifs:List Expr}{scope:Scope}{pos:Pos}{wi:TI}{own:List Str}{fv:List (Nat×Str)}{g:TG}{tt:TT}{te:TE}
structure LD (X:Cx) (scope:Scope) (fv:List (Nat×Str)):Prop where
 calm:X.calm=true
 kind:scope.kind=.function
 cell:∀y∈scope.names,y.2≠.cell
 names:∀y∈scope.names,y.2=.local->scope.names.lookup y.1=some .local
 free:∀y∈scope.names,y.2=.free->X.env.kindOf y.1=some .cell\/X.env.kindOf y.1=some .free
 fv:FvOk X (relabel scope X.env) fv
end
section
variable {X:Cx}
def RR:OpR X (compareOp .Is) (λx y H Q=>∃a b,x=.bl a/\y=.bl b/\Q (.bl (a==b)) H):=by
 intro pj s σ H x y v u Q I rx ry h
 obtain⟨a,b,rfl,rfl,q⟩:=h
 cases rx
 cases ry
 exact is_bool (MW I q rfl)
def Qb {bs:List Bool}{us:List Value}(r:Vals (bs.map V.bl) us){i:Nat}{v:Value}(e:us[i]?=some v):∃b,bs[i]?=some b/\v=.bool b:=by
 have hl:=r.length
 rw[Ak] at hl
 have hi:i<us.length:=(Ad.mp e).1
 obtain⟨u,hu,ru⟩:=r.get (i:=i) (x:=V.bl (bs[i]'(by ext))) (by simp)
 rw[e] at hu
 cases hu
 exact⟨_,by simp,ru⟩
def Pc (bs:List Bool):((List.range bs.length).all λi=>(bs[i]?).getD true)=bs.all id:=by
 refine Bool.eq_iff_iff.mpr ⟨λh=>AW.mpr λb hb=>?_,λh=>AW.mpr λi hi=>?_⟩
 ·obtain⟨k,lk,rfl⟩:=List.mem_iff_getElem.mp hb
  simpa[lk] using AW.mp h k (List.mem_range.mpr lk)
 ·have lk:i<bs.length:=List.mem_range.mp hi
  simpa[lk] using AW.mp h bs[i] (BG lk)
def SE (hc:X.calm=true):Hj X (.builtin "all") (λxs H Q=>∃(p:Addr) (bs:List Bool),xs=[.ref p]/\SqL X.K H p (bs.map V.bl)/\Q (.bl (bs.all id)) H):=by
 intro pj s σ H xs us Q I r h
 obtain⟨p,bs,rfl,hq,q⟩:=h
 obtain⟨u,rfl,ru⟩:=vals1 r
 cases ru
 obtain⟨its,rv,pl,hz⟩:=I.list hq
 obtain⟨m,F⟩:=I.fr
 have hlt:p<s.heap.objs.size:=by obtain⟨o,n,e,_⟩:=pl;exact An e
 refine call_all_walk (wpAny_pyIter_list pl.isList ?_)
 refine⟨s.heap.objs.size,[s.heap.objs.size,p],[s.heap.objs.size],its.toArray.size,_,_,λi=>(bs[i]?).getD true,rfl,
  Walks.list (A:=X.A.in1) (I.ok.hd hc) _ p (Az hlt) its.toArray,⟨⟨_,Ag _ rfl,rfl,rfl⟩,pl.isList.push _⟩,λi v s' Q' E' hP hQ=>?_,λh' tk hk=>?_⟩
 ·obtain⟨b,e,rfl⟩:=Qb rv (i:=i) (v:=v) (by simpa using hP)
  exact BQ (by simpa only[e,Option.getD_some] using hQ)
 ·have e:((List.range its.toArray.size).all λi=>(bs[i]?).getD true)=bs.all id:=by
   rw[Ar,<- rv.length,Ak]
   exact Pc bs
  rw[e]
  exact⟨.bl _,H,I.kept λb x e=>hk b x (λhm=>absurd (An e) (by rw[Ah.mp hm];exact Bv _)) (Ac _ e),rfl,q⟩
def Oy:OpR X (binaryOp .Mult) (λx y H Q=>∃(z:Str) (n:Int),x=.str z/\y=.int n/\MulOk z n/\Q (.str (Txt.mul z n)) H):=by
 intro pj s σ H x y v u Q I rx ry h
 obtain⟨z,n,rfl,rfl,hok,q⟩:=h
 obtain⟨t,rfl⟩:=rx
 obtain⟨t',rfl⟩:=ry
 exact SB.mul hok λt' k=>⟨.str _,H,I.tok _,⟨_,rfl⟩,q⟩
theorem part_of {v:Value}{o:Option Int}(p:IsPart v o):∃l:Option (Int×Tok),v=partValue l/\l.map (·.1)=o:=by
 cases p with
 |none=>exact⟨none,rfl,rfl⟩
 |int i t=>exact⟨some (i,t),rfl,rfl⟩
def Yw:SlR X (λx lo hi H Q=>∃z:Str,x=.str z/\z.length<=sizeLine/\Q (.str (Txt.slice z lo hi)) H):=by
 intro pj s σ H x v vl vu lo hi sl Q I rx hs pl pu h
 obtain⟨z,rfl,hz,q⟩:=h
 obtain⟨t,rfl⟩:=rx
 obtain⟨l,rfl,rfl⟩:=part_of pl
 obtain⟨u,rfl,rfl⟩:=part_of pu
 refine⟨"str",_,F.slot_str_getitem.lookup,typeIs_str _ _ _,?_⟩
 refine wpAny_getItem_str_slice (l:=l) (u:=u) (st:=none) hs rfl (post_val_or_str ⟨AO (Txt.slice_le z _ _) hz,λt' k=>?_⟩)
 exact⟨.str _,H,I.tok _,⟨_,rfl⟩,q⟩
end
section
variable {X:Cx}{pj:Zab} {σ:St}{H:Hp}{s:Shared}{h':Heap}
def Inv.turnedL {t':Nat}{ch:List Addr}(I:Inv X pj σ H s)(k:∀b o,b∉ch->s.heap.get? b=some o->h'.get? b=some o)(hf:∀b∈ch,HS X pj H b):Inv X pj σ H {s with heap:=h',toks:=t'}:=by
 have nit:∀b u,H b=some u->b∉ch:=λb u e z=>by rw[(hf b z).1] at e;cases e
 refine I.step (g':=s.gens) (d':=s.drawn) (ch:=ch) (λb hb=>?_) (λb o _ _ hc e _=>k b o hc e) (λb o _ _ hc e _=>⟨o.slots,k b o hc e⟩) (λ_ _ _ _ n=>n) (λb o hc e=>⟨o,k b o hc e⟩)
  (λ_ _ e=>e) (λ_ _ _ e=>e) (λb ps e=>⟨#[],by rw[e];simp⟩) (λm hm=>?_) (λb u e=>?_) I.bare
 ·obtain⟨_,f1,_,f3,f4,f5⟩:=hf b hb
  exact⟨f3,f1,f4,f5⟩
 ·obtain⟨o,es,ep,ho,r⟩:=hm
  exact⟨o,es,ep,k _ o (λz=>(hf _ z).2.1 rfl) ho,r⟩
 ·refine(I.hok b u e).stay (λc v hc q=>k c v ?_ q) (λ_ q=>q) λ_ _ q=>q
  rcases hc with z|z
  ·rw[z];exact nit b u e
  ·exact nit c _ z
theorem Inv.lay {T:Addr}{o:HO}(I:Inv X pj σ H s)(hf:HS X pj H T)(hs:X.s₀.heap.objs.size<=T)(new:ObjOk X.prog X.w (upd H T o) s.heap T o):Inv X pj σ (upd H T o) s:=by
 obtain⟨f0,f1,f2,f3,f4,f5⟩:=hf
 refine⟨I.ok,I.os,I.bare,I.base.lay hs f0,I.loc,I.cell,?_,λx c e=>?_,λp hp=>?_,I.hok.lay f0 new,I.len⟩
 ·rw[Df (Ne.symm f1)];exact I.free
 ·rw[Df (f4 x c e)];exact I.freeC x c e
 ·obtain⟨e,n,r⟩:=I.pin p hp
  exact⟨e,by rw[Df (f5 p hp)];exact n,r⟩
end
def Its (x:Str):It:=⟨λi _=>i<x.cps.size,λi H v H'=>H'=H/\∃c,x.cps[i]?=some c/\v=.str ⟨#[c]⟩,λi _=>i=x.cps.size⟩
def RG {P:Program}{w:World}{K:W.Frag}{tg:Expr}{ty:String}(x:Str)(t:Tok)(it:Addr)
  (W:∀A:Around,A.handled=none->Walks P w A it [it] [it] x.cps.size (SignAt x) (λi h=>h.IsStrIter it ty x t i)) (W0:∀A:Around,∀i (s:Shared) (Q:Value->Zaa) (E:Value->Zaa),s.heap.IsStrIter it ty x t i->Q (.ref it) s->wpAny (model P w) A (pyIter (.ref it)) Q E s)
  (hn:["enumerate","zip","dict_itemiterator","dict_reverseitemiterator","odict_iterator","itertools.zip_longest","itertools.pairwise"].contains ty=false):Turn P w K tg (Its x) [it] it (λi h=>h.IsStrIter it ty x t i) where
 mem:=by simp
 obj:=λi h st b hb=>by
  have e:b=it:=by simpa using hb
  subst e
  obtain⟨o,e,c,d⟩:=st
  exact⟨o,e,λv z=>by rw[d] at z;cases z⟩
 keep:=λi h h' st k=>by
  obtain⟨o,e,r⟩:=st
  exact⟨o,k it (by simp) o e,r⟩
 item:=by
  intro X hP hw hK hc i pj s σ H E I hf st hg
  subst hP hw hK
  refine(W X.A (I.ok.hd hc)).item i s _ _ hg st λv h' tk hv st' kk=>?_
  obtain⟨c,u,hc',rfl⟩:=hv
  have I1:Inv X pj σ H {s with heap:=h',toks:=tk}:=I.turnedL kk hf
  obtain⟨o,e,c2,d⟩:=id st'
  exact⟨_,rfl,Qj (s:={s with heap:=h',toks:=tk}) e c2 d hn ⟨.str ⟨#[c]⟩,H,I1,⟨u,rfl⟩,⟨rfl,c,hc',rfl⟩,st',λb hb=>(hf b hb).1⟩⟩
 done:=by
  intro X hP hw hK hc i pj s σ H E I hf st hg
  subst hP hw hK
  have e:i=x.cps.size:=hg
  subst e
  exact(W X.A (I.ok.hd hc)).done s _ _ st λh' tk kk=>⟨rfl,I.turnedL kk hf⟩
 self:=λA i s Q E st h=>W0 A i s Q E st h
def Abh (tl:TE):TI:=fun σ H R=>tl σ H λx H1=>∃z,x=.str z/\R (Its z) H1
def Yg {X:Cx}{tg l:Expr}{tl:TE}(hl:PE X l tl):PI X tg l (Abh tl):=by
 intro pj s σ H R I h
 refine thn (hl pj s σ H _ I h) λv s1 ⟨x,H1,I1,r1,q1⟩=>?_
 obtain⟨z,e,q⟩:=q1
 subst e
 obtain⟨t,rfl⟩:=r1
 have fin:∀ty:String,(∀A:Around,A.handled=none->Walks X.prog X.w A s1.heap.objs.size [s1.heap.objs.size] [s1.heap.objs.size] z.cps.size (SignAt z) (λi h=>h.IsStrIter s1.heap.objs.size ty z t i)) ->
   (∀A:Around,∀i (s:Shared) (Q:Value->Zaa) (E:Value->Zaa),s.heap.IsStrIter s1.heap.objs.size ty z t i->Q (.ref s1.heap.objs.size) s->wpAny (model X.prog X.w) A (pyIter (.ref s1.heap.objs.size)) Q E s) ->
   ["enumerate","zip","dict_itemiterator","dict_reverseitemiterator","odict_iterator","itertools.zip_longest","itertools.pairwise"].contains ty=false ->
   PIE X pj σ tg R (.ref s1.heap.objs.size) {s1 with heap:=s1.heap.push {cls:=.type ty,data:=.fields #[.str z t,.int 0 0]}}:=λty W W0 hn=>by
  refine⟨s1.heap.objs.size,[s1.heap.objs.size],_,_,H1,rfl,I1.kept (t':=s1.toks) λb o e=>Ac _ e,RG z t _ W W0 hn,⟨_,Ag _ rfl,rfl,rfl⟩,λb hb=>?_,q⟩
  have e:b=s1.heap.objs.size:=by simpa using hb
  subst e
  exact I1.fpOk (Ae _) (I1.hok.fresh (Ae _))
 cases ha:z.cps.all (·<128)
 ·exact wpAny_pyIter_wide ha (fin _ (λA hA=>Walks.strWide hA _ z t) (λA i s Q E st h=>wpAny_pyIter_striter_wide st h) (by decide))
 ·exact wpAny_pyIter_ascii ha (fin _ (λA hA=>Walks.strAscii hA _ z t) (λA i s Q E st h=>wpAny_pyIter_striter_ascii st h) (by decide))
def Itz (K:W.Frag)(a b:Addr):It:=
 ⟨λi H=>∃xs ys x y,SqL K H a xs/\SqL K H b ys/\xs[i]?=some x/\ys[i]?=some y,
  λi H v H'=>∃T x y,v=.ref T/\H T=none/\H'=upd H T (.tup [x,y])/\(∀xs,SqL K H a xs->xs[i]?=some x)/\∀ys,SqL K H b ys->ys[i]?=some y,
  λi H=>∃xs ys,SqL K H a xs/\SqL K H b ys/\(xs.length<=i\/ys.length<=i)⟩
def ZI (z TI TO i1 i2 l1 l2:Addr)(i:Nat)(h:Heap):Prop:=
 IsZip h z TI TO .none/\IsPair h TI (.ref i1) (.ref i2)/\(∃a b,IsPair h TO a b)/\h.IsListIter i1 l1 i/\h.IsListIter i2 l2 i
def TX {P:Program}{w:World}{K:W.Frag}{elts:List Expr}{k:Nat}{pos:Pos}(z TI TO i1 i2 l1 l2:Addr)(D:ZipApart z TI TO i1 i2 l1 l2) :
  Turn P w K (.Tuple elts k pos) (Itz K l1 l2) [z,TI,TO,i1,i2] z (ZI z TI TO i1 i2 l1 l2) where
 mem:=by simp
 obj:=λi h st b hb=>by
  obtain⟨h1,h2,⟨_,_,h3⟩,⟨o4,h4,_,d4⟩,⟨o5,h5,_,d5⟩⟩:=st
  have hb':b=z\/b=TI\/b=TO\/b=i1\/b=i2:=by simpa using hb
  rcases hb' with e|e|e|e|e<;>subst e
  ·exact⟨_,h1,λv e=>by cases e⟩
  ·exact⟨_,h2,λv e=>by cases e⟩
  ·exact⟨_,h3,λv e=>by cases e⟩
  ·exact⟨_,h4,λv e=>by rw[d4] at e;cases e⟩
  ·exact⟨_,h5,λv e=>by rw[d5] at e;cases e⟩
 keep:=λi h h' st kk=>by
  obtain⟨h1,h2,⟨a,b,h3⟩,h4,h5⟩:=st
  exact⟨kk z (by simp) _ h1,kk TI (by simp) _ h2,⟨a,b,kk TO (by simp) _ h3⟩,h4.at λo e=>kk i1 (by simp) o e,h5.at λo e=>kk i2 (by simp) o e⟩
 item:=by
  intro X hP hw hK hc i pj s σ H E I hf st hg
  subst hP hw hK
  obtain⟨xs,ys,x,y,hq1,hq2,hx,hy⟩:=hg
  obtain⟨its1,rv1,p1,hz1⟩:=I.list hq1
  obtain⟨its2,rv2,p2,hz2⟩:=I.list hq2
  obtain⟨u1,hu1,ru1⟩:=rv1.get hx
  obtain⟨u2,hu2,ru2⟩:=rv2.get hy
  obtain⟨h1,h2,⟨a,b,h3⟩,h4,h5⟩:=st
  have D':=D
  refine wpAny_pyNext_zip_item D h1 h2 h3 h4 h5 p1.isList p2.isList (x:=u1) (y:=u2) (by simpa using hu1) (by simpa using hu2) λh' a1 a2 a3 a4 a5 a6 hk=>?_
  have lt:∀{c:Addr}{o:Obj},s.heap.get? c=some o->c≠s.heap.objs.size:=λe=>Az (An e)
  refine⟨_,rfl,wpAny_letOwnedTupleGo_zip a1 λh'' b1 sb=>?_⟩
  have nT:s.heap.objs.size≠z:=Ne.symm (lt h1)
  have kk:∀b o,b∉[z,TI,TO,i1,i2]->s.heap.get? b=some o->h''.get? b=some o:=λb o hb e=>by
   simp only[Ao,Ax,Ba,not_or] at hb
   exact(sb.2 b hb.1).trans (hk b o hb.1 hb.2.2.1 hb.2.2.2.1 hb.2.2.2.2 e)
  have I1:Inv X pj σ H {s with heap:=h'',toks:=s.toks}:=I.turnedL kk hf
  have hn:H s.heap.objs.size=none:=I.hok.fresh (Ae _)
  have fT:HS X pj H s.heap.objs.size:=I.fpOk (Ae _) hn
  have I2:Inv X pj σ (upd H s.heap.objs.size (.tup [x,y])) {s with heap:=h'',toks:=s.toks}:=I1.lay fT I.sz
   ⟨⟨by show 2<=sizeLine;decide,_,(sb.2 _ nT).trans a5,rfl⟩,[u1,u2],.cons ru1 (.cons ru2 .nil),⟨_,(sb.2 _ nT).trans a5,rfl,_,rfl⟩⟩
  refine⟨.ref s.heap.objs.size,_,I2,rfl,⟨_,x,y,rfl,hn,rfl,λxs' hx'=>by rw[I.list_inj hx' hq1];exact hx,λys' hy'=>by rw[I.list_inj hy' hq2];exact hy⟩,?_,λb hb=>?_⟩
  ·exact⟨b1,(sb.2 _ D.TIz).trans (hk _ _ D.TIz D.TITO D.TIi1 D.TIi2 h2),⟨_,_,(sb.2 _ D.TOz).trans a2⟩,a3.at λo e=>(sb.2 _ D.i1z).trans e,a4.at λo e=>(sb.2 _ D.i2z).trans e⟩
  ·have hb':b=z\/b=TI\/b=TO\/b=i1\/b=i2:=by simpa using hb
   have ne:b≠s.heap.objs.size:=by
    obtain⟨o4,e4,_⟩:=h4
    obtain⟨o5,e5,_⟩:=h5
    rcases hb' with e|e|e|e|e<;>subst e
    ·exact lt h1
    ·exact lt h2
    ·exact lt h3
    ·exact lt e4
    ·exact lt e5
   rw[Df ne]
   exact(hf b hb).1
 done:=by
  intro X hP hw hK hc i pj s σ H E I hf st hg
  subst hP hw hK
  obtain⟨xs,ys,hq1,hq2,hend⟩:=hg
  obtain⟨its1,rv1,p1,hz1⟩:=I.list hq1
  obtain⟨its2,rv2,p2,hz2⟩:=I.list hq2
  obtain⟨h1,h2,⟨a,b,h3⟩,h4,h5⟩:=st
  have l1:=rv1.length
  have l2:=rv2.length
  refine wpAny_pyNext_zip_end (I.ok.hd hc) D h1 h2 h3 h4 h5 p1.isList p2.isList (by
   rcases hend with e|e
   ·exact .inl (by simp;ext)
   ·exact .inr (by simp;ext)) λh' hk=>⟨rfl,I.turnedL (t':=s.toks) (λb o hb e=>?_) hf⟩
  simp only[Ao,Ax,Ba,not_or] at hb
  exact hk b o hb.1 hb.2.2.1 hb.2.2.2.1 hb.2.2.2.2 e
 self:=λA i s Q E st h=>wpAny_pyIter_zip st.1 h
def YO {a b:Nat}(h:a<b\/b<a):a≠b:=by ext
def NR (n a b:Nat)(h1:a<n)(h2:b<n):ZipApart (n+4) (n+2) (n+3) n (n+1) a b:=by
 constructor<;>(refine YO ?_;ext)
def Abl (K:W.Frag)(ta:TA):TI:=fun σ H R=>ta σ H λvs H1=>∃a b,vs=[.ref a,.ref b]/\(∃xs,SqL K H1 a xs)/\(∃ys,SqL K H1 b ys)/\R (Itz K a b) H1
def X5 {X:Cx}{a b:Expr}{ta:TA}{p pos:Pos}{elts:List Expr}{k:Nat}{tp:Pos}(hg:Gl X "zip")(hm:X.mg "zip"=none)(hz:bootBuiltins "zip"=some (.type "zip"))(ha:PA X [a,b] ta)(hs:starEach [a,b] X.env=[(false,eval a X.env),(false,eval b X.env)]:=by rfl)(hs2:starEach [b] X.env=[(false,eval b X.env)]:=by rfl) :
  PI X (.Tuple elts k tp) (.Call (.Name "zip" p) [a,b] [] pos) (Abl X.K ta):=by
 intro pj s σ H R I h
 refine Call_ (Lp I hg hm hz (Cg (thn (ha pos pj s σ H _ I h) λus s1 ⟨vs,H1,I1,r1,q1⟩=>?_) (by rw[hs,hs2]) (by rw[hs2];rfl)))
 obtain⟨a1,a2,e,⟨xs,hx⟩,⟨ys,hy⟩,q⟩:=q1
 subst e
 obtain⟨u1,u2,rfl,ra,rb⟩:=vals2 r1
 cases ra
 cases rb
 obtain⟨its1,rv1,p1,_⟩:=I1.list hx
 obtain⟨its2,rv2,p2,_⟩:=I1.list hy
 have lt1:a1<s1.heap.objs.size:=by obtain⟨o,n,e,_⟩:=p1;exact An e
 have lt2:a2<s1.heap.objs.size:=by obtain⟨o,n,e,_⟩:=p2;exact An e
 refine call_zip_2 p1.isList p2.isList λh' z1 z2 z3 z4 z5 hsz hk=>?_
 refine wpAny_pyIter_zip z1 ?_
 refine⟨s1.heap.objs.size+4,[s1.heap.objs.size+4,s1.heap.objs.size+2,s1.heap.objs.size+3,s1.heap.objs.size,s1.heap.objs.size+1],_,_,H1,rfl,I1.kept (t':=s1.toks) λb o e=>hk b o e,
  TX _ _ _ _ _ a1 a2 ?_,⟨z1,z2,⟨_,_,z3⟩,z4,z5⟩,λb hb=>?_,q⟩
 ·exact NR _ _ _ lt1 lt2
 ·have hle:s1.heap.objs.size<=b:=by
   have hb':b=s1.heap.objs.size+4\/b=s1.heap.objs.size+2\/b=s1.heap.objs.size+3\/b=s1.heap.objs.size\/b=s1.heap.objs.size+1:=by simpa using hb
   rcases hb' with rfl|rfl|rfl|rfl|rfl<;>simp
  exact I1.fpOk hle (I1.hok.fresh hle)
structure LcS (esc scope:Scope):Prop where
 kind:scope.kind=.function
 cell:∀y∈scope.names,y.2≠.cell
 names:∀y∈scope.names,y.2=.local->scope.names.lookup y.1=some .local
 free:∀y∈scope.names,y.2=.free->esc.names.lookup y.1=some .cell\/esc.names.lookup y.1=some .free
def Gk {X:Cx}{scope:Scope}{fv:List (Nat×Str)}(esc:Scope)(he:X.env.scope=esc)(hc:X.calm=true)(h:LcS esc scope)(hf:FvOk X (relabel scope X.env) fv):LD X scope fv:=
 ⟨hc,h.kind,h.cell,h.names,λy hy hk=>by subst he;exact h.free y hy hk,hf⟩
end L2
namespace PV
open PySem L2 PySem.Spec PyProof.Rows
def adv (mask:Nat)(p:SetTable.Probe):SetTable.Probe:=
 if p.more > 0 then {p with j:=p.j+1,more:=p.more-1} else
 {p with j:=(SetTable.leap mask p.i p.perturb).1,more:=SetTable.runEnd mask (SetTable.leap mask p.i p.perturb).1-(SetTable.leap mask p.i p.perturb).1,i:=(SetTable.leap mask p.i p.perturb).1,perturb:=(SetTable.leap mask p.i p.perturb).2}
def rn (mask:Nat)(q:Nat×Nat):SetTable.Probe:={j:=q.1,more:=SetTable.runEnd mask q.1-q.1,i:=q.1,perturb:=q.2,dummy:=none}
def lp (mask:Nat)(h:Int):Nat->Nat×Nat
 |0=>(SetTable.bits h % (mask+1),SetTable.bits h)
 |k+1=>SetTable.leap mask (lp mask h k).1 (lp mask h k).2
def pth (mask:Nat)(h:Int):Nat->SetTable.Probe
 |0=>rn mask (lp mask h 0)
 |n+1=>adv mask (pth mask h n)
def W2 (mask:Nat):Prop:=mask=7\/mask=31\/mask=127\/mask=15\/mask=63\/mask=255
structure TW (mask:Nat) (pl:List Nat) (es:List (Int×Value)):Prop where
 so:pl.Pairwise (·<·)
 ln:pl.length=es.length
 mo:W2 mask
 lt:es.length<=mask
 bd:∀j∈pl,j<=mask
 rc:∀(i j:Nat) (e:Int×Value),pl[i]?=some j->es[i]?=some e->∃n,n<10*SetTable.turns mask/\(pth mask e.1 n).j=j/\∀m,m<=n->(pth mask e.1 m).j∈pl
structure Zc where
 K:W.Frag
 P:Program
 w:World
abbrev _root_.L2.Cx.z (X:Cx):Zc:=⟨X.K,X.prog,X.w⟩
inductive D where
 |non|bl (b:Bool)|int (i:Int)|str (x:Str)|tup (ds:List D)|lst (ds:List D)|dct (ks vs:List D)|set (ds:List D)|ref (k:Nat)
instance:DecidableEq D:=λa b=>Classical.propDecidable (a=b)
inductive MO where
 |lst (ds:List D)|dct (ks ds:List D)
abbrev Sto:=List MO
abbrev Rs (α:Type):=Option (α×Sto)
abbrev Ro:=List (Option D)
abbrev Ex:=Ro->Sto->Rs D
abbrev Exs:=Ro->Sto->Rs (List D)
abbrev Tx:=Ro->Sto->Rs Bool
inductive Fl where
 |nx|bk|ct|rt (d:D)
abbrev Sx:=Ro->Sto->Rs (Fl×Ro)
abbrev Fn:=List D->Sto->Rs D
def bM {α β:Type}(r:Rs α)(f:α->Sto->Rs β):Rs β:=match r with
 |none=>none
 |some (a,m)=>f a m
theorem CM {α β:Type}{a:α}{m:Sto}{f:α->Sto->Rs β}:bM (some (a,m)) f=f a m:=rfl
theorem FE {α β:Type}{r:Rs α}{f:α->Sto->Rs β}{b:β}{m':Sto}(h:bM r f=some (b,m')):∃a m,r=some (a,m)/\f a m=some (b,m'):=by
 cases r with
 |none=>cases h
 |some p=>exact⟨p.1,p.2,rfl,h⟩
mutual
def DK (w:World):D->Int
 |.non=>reduceHash 0xFCA86420
 |.int i=>hashInt i
 |.str x=>hashStr w x
 |.tup ds=>reduceHash (Builtin.Tuple.tupleHashOf (EL w ds))
 |_=>0
def EL (w:World):List D->List Int
 |[]=>[]
 |d::ds=>DK w d::EL w ds
end
mutual
def dpt:D->Nat
 |.tup ds=>Gf ds+1
 |_=>0
def Gf:List D->Nat
 |[]=>0
 |d::ds=>max (dpt d) (Gf ds)
end
mutual
def hsh:D->Bool
 |.non=>true
 |.int _=>true
 |.str _=>true
 |.tup ds=>E3 ds
 |_=>false
def E3:List D->Bool
 |[]=>true
 |d::ds=>hsh d&&E3 ds
end
def Dn (d:D):Bool:=hsh d&&decide (dpt d<=8)
structure KeysOk (ks:List D):Prop where
 len:ks.length<=sizeLine
 nd:ks.Nodup
 ok:∀k∈ks,Dn k=true
theorem DP (w:World)(ds:List D):EL w ds=ds.map (DK w):=by induction ds with
 |nil=>rfl
 |cons d ds ih=>rw[EL,ih];rfl
def Xr (a:Addr)(xs:List (Int×V×V))(h:Heap):Prop:=(a==sysModules)=false/\∃o es ep,h.get? a=some o/\o.ExactDict/\o.data=.dict es ep/\Paired (λ(x:Int×V×V) (e:DictEntry)=>e.hash=x.1/\RelV x.2.1 e.key/\RelV x.2.2 e.val) xs es.toList/\ep=es.size
def D1 (a:Addr)(xs:List (Int×V×V)):HO:=.ext (Xr a xs)
def Aa0 (w:World)(a:Addr)(us:List (Int×V))(h:Heap):Prop:=∃o es ep t,h.get? a=some o/\o.ExactSet/\o.data=.set es ep t/\es.size<scanBound/\t.fits es.size=true/\Vals (us.map (·.2)) (es.toList.map (·.2)) /\
 (w.params.followText "set-order"=true\/t.led=true/\(t.plain=false\/es.size<=1)) /\
 ((∃n x,(n,V.str x)∈us)\/t.dummies=#[]/\TW t.mask t.place.toList es.toList/\es.size*5<t.mask*3/\t.led=(!w.params.followText "set-order")/\(t.plain=false\/es.size=0))/\us.map (·.1)=es.toList.map (·.1)
def YE (w:World)(a:Addr)(us:List (Int×V)):HO:=.ext (Aa0 w a us)
def FzL (K:Zc)(th:List Addr)(H:Hp)(a:Addr)(vs:List V):Prop:=(a∉th/\Rd H a (.lst vs)) \/
 ∃(o:Obj) (its:Array Value) (n:Nat),K.K.lookup a=some o/\o.cls=.type "list"/\o.dict=none/\o.data=.seq its n/\its.size<=sizeLine/\Vals vs its.toList
def FzL.sq {K:Zc}{th:List Addr}{H:Hp}{a:Addr}{vs:List V}(h:FzL K th H a vs):SqL K.K H a vs:=h.elim (λh=>.inl h.2) .inr
mutual
def Rep (K:Zc)(th:List Addr)(H:Hp):D->V->Prop
 |.non,v=>v=.non
 |.bl b,v=>v=.bl b
 |.int i,v=>v=.int i
 |.str x,v=>v=.str x/\x.length<=sizeLine/\PyData.strOk x=true
 |.tup ds,v=>∃a vs,v=.ref a/\SqT K.K H a vs/\RepL K th H ds vs/\ds.length<=sizeLine
 |.lst ds,v=>∃a vs,v=.ref a/\FzL K th H a vs/\RepL K th H ds vs/\ds.length<=sizeLine
 |.dct ks ds,v=>∃a xs,v=.ref a/\a∉th/\H a=some (D1 a xs)/\xs.map (·.1)=EL K.w ks/\RepL K th H ks (xs.map (·.2.1))/\RepL K th H ds (xs.map (·.2.2))/\KeysOk ks
 |.set ds,v=>∃a us vs,v=.ref a/\a∉th/\H a=some (YE K.w a us)/\us.Perm ((EL K.w ds).zip vs)/\RepL K th H ds vs/\ds.Nodup
 |.ref k,v=>∃a,v=.ref a/\th[k]?=some a
def RepL (K:Zc)(th:List Addr)(H:Hp):List D->List V->Prop
 |[],vs=>vs=[]
 |d::ds,vs=>∃v r,vs=v::r/\Rep K th H d v/\RepL K th H ds r
end
section
variable {K:Zc}{th th':List Addr}{H H':Hp}
def RepL.nil:RepL K th H [] []:=by unfold RepL;rfl
def RepL.cons {d:D}{ds:List D}{v:V}{r:List V}(h:Rep K th H d v)(t:RepL K th H ds r):RepL K th H (d::ds) (v::r):=by unfold RepL;exact⟨v,r,rfl,h,t⟩
def RepL.inv {d:D}{ds:List D}{vs:List V}(h:RepL K th H (d::ds) vs):∃v r,vs=v::r/\Rep K th H d v/\RepL K th H ds r:=by unfold RepL at h;exact h
def RepL.inv0 {vs:List V}(h:RepL K th H [] vs):vs=[]:=by unfold RepL at h;exact h
theorem RepL.len:∀{ds:List D}{vs:List V},RepL K th H ds vs->vs.length=ds.length
 |[],_,h=>by rw[h.inv0];rfl
 |d::ds,_,h=>by obtain⟨v,r,rfl,_,t⟩:=h.inv;simp[RepL.len t]
theorem RepL.get:∀{ds:List D}{vs:List V}{i:Nat}{d:D},RepL K th H ds vs->ds[i]?=some d->∃v,vs[i]?=some v/\Rep K th H d v
 |[],_,_,_,_,e=>by simp at e
 |d::ds,_,0,d',h,e=>by obtain⟨v,r,rfl,h1,_⟩:=h.inv;simp at e;subst e;exact⟨v,rfl,h1⟩
 |d::ds,_,i+1,d',h,e=>by
  obtain⟨v,r,rfl,_,t⟩:=h.inv
  obtain⟨u,e1,e2⟩:=RepL.get (i:=i) t (by simpa using e)
  exact⟨u,by simpa using e1,e2⟩
theorem RepL.getV:∀{ds:List D}{vs:List V}{i:Nat}{v:V},RepL K th H ds vs->vs[i]?=some v->∃d,ds[i]?=some d/\Rep K th H d v
 |[],_,_,_,h,e=>by rw[h.inv0] at e;simp at e
 |d::ds,_,0,v',h,e=>by obtain⟨v,r,rfl,h1,_⟩:=h.inv;simp at e;subst e;exact⟨d,rfl,h1⟩
 |d::ds,_,i+1,v',h,e=>by
  obtain⟨v,r,rfl,_,t⟩:=h.inv
  obtain⟨u,e1,e2⟩:=RepL.getV (i:=i) t (by simpa using e)
  exact⟨u,by simpa using e1,e2⟩
theorem RepL.app:∀{ds es:List D}{vs us:List V},RepL K th H ds vs->RepL K th H es us->RepL K th H (ds++es) (vs++us)
 |[],_,_,_,h,t=>by rw[h.inv0];exact t
 |d::ds,_,_,_,h,t=>by obtain⟨v,r,rfl,h1,h2⟩:=h.inv;exact .cons h1 (RepL.app h2 t)
theorem RepL.take:∀{ds:List D}{vs:List V} (n:Nat),RepL K th H ds vs->RepL K th H (ds.take n) (vs.take n)
 |_,_,0,_=>by simp only[List.take_zero];exact .nil
 |[],_,n+1,h=>by rw[h.inv0];exact .nil
 |d::ds,_,n+1,h=>by obtain⟨v,r,rfl,h1,h2⟩:=h.inv;exact .cons h1 (RepL.take n h2)
theorem RepL.drop:∀{ds:List D}{vs:List V} (n:Nat),RepL K th H ds vs->RepL K th H (ds.drop n) (vs.drop n)
 |_,_,0,h=>h
 |[],_,n+1,h=>by rw[h.inv0];exact .nil
 |d::ds,_,n+1,h=>by obtain⟨v,r,rfl,h1,h2⟩:=h.inv;exact RepL.drop n h2
theorem RepL.rev:∀{ds:List D}{vs:List V},RepL K th H ds vs->RepL K th H ds.reverse vs.reverse
 |[],_,h=>by rw[h.inv0];exact .nil
 |d::ds,_,h=>by
  obtain⟨v,r,rfl,h1,h2⟩:=h.inv
  rw[List.reverse_cons,List.reverse_cons]
  exact(RepL.rev h2).app (.cons h1 .nil)
theorem RepL.setAt:∀{ds:List D}{vs:List V} (i:Nat){d:D}{v:V},RepL K th H ds vs->Rep K th H d v->RepL K th H (ds.set i d) (vs.set i v)
 |[],_,_,_,_,h,_=>by rw[h.inv0];exact .nil
 |d::ds,_,0,_,_,h,g=>by obtain⟨v,r,rfl,h1,h2⟩:=h.inv;exact .cons g h2
 |d::ds,_,i+1,_,_,h,g=>by obtain⟨v,r,rfl,h1,h2⟩:=h.inv;exact .cons h1 (RepL.setAt i h2 g)
structure Ext (th:List Addr) (H:Hp) (th':List Addr) (H':Hp):Prop where
 pre:∃more,th'=th++more
 out:∀a o,a∉th->H a=some o->a∉th'
 keep:∀a o,a∉th->H a=some o->H' a=some o
def Ext.refl (th:List Addr)(H:Hp):Ext th H th H:=⟨⟨[],by simp⟩,λ_ _ n _=>n,λ_ _ _ h=>h⟩
def Ext.trans {th2:List Addr}{H2:Hp}(a:Ext th H th' H')(b:Ext th' H' th2 H2):Ext th H th2 H2:=by
 obtain⟨m1,e1⟩:=a.pre
 obtain⟨m2,e2⟩:=b.pre
 exact⟨⟨m1++m2,by rw[e2,e1,Bj]⟩,λx o n h=>b.out x o (a.out x o n h) (a.keep x o n h),λx o n h=>b.keep x o (a.out x o n h) (a.keep x o n h)⟩
def Ext.at (e:Ext th H th' H'){k:Nat}{a:Addr}(h:th[k]?=some a):th'[k]?=some a:=by
 obtain⟨m,rfl⟩:=e.pre
 rw[Ap (Ad.mp h).1]
 exact h
def Ext.new {p:Addr}(h:H p=none)(o:HO):Ext th H th (upd H p o):=⟨⟨[],by simp⟩,λ_ _ n _=>n,λa u _ e=>by rw[Df (Di e h)];exact e⟩
def Ext.newM {p:Addr}(h:H p=none)(o:HO):Ext th H (th++[p]) (upd H p o):=⟨⟨[p],rfl⟩,λa u n e z=>(AF.mp z).elim n λz=>(by rw[Ah.mp z,h] at e;cases e),
 λa u _ e=>by rw[Df (Di e h)];exact e⟩
def Ext.mut {p:Addr}(h:p∈th)(o:HO):Ext th H th (upd H p o):=⟨⟨[],by simp⟩,λ_ _ n _=>n,λa u n e=>by rw[Df (λz=>n (by rw[z];exact h))];exact e⟩
def Ext.rd (e:Ext th H th' H'){a:Addr}{u:HO}(n:a∉th)(h:Rd H a u):a∉th'/\Rd H' a u:=by
 rcases h with h|⟨o,h⟩
 ·exact⟨e.out _ _ n h,.inl (e.keep _ _ n h)⟩
 ·exact⟨e.out _ _ n h,.inr ⟨o,e.keep _ _ n h⟩⟩
def Ext.fz (e:Ext th H th' H'){a:Addr}{vs:List V}(h:FzL K th H a vs):FzL K th' H' a vs:=h.elim (λh=>.inl (e.rd h.1 h.2)) .inr
def IY (th:List Addr)(H:Hp):Prop:=∀a,a∈th->∃o,H a=some o/\((∃xs,o=.lst xs)\/∃φ,o=.ext φ)
def Ext.sqT (e:Ext th H th' H')(t:IY th H){a:Addr}{xs:List V}(h:SqT K.K H a xs):SqT K.K H' a xs:=by
 rcases h with h|h
 ·refine .inl (e.rd (λz=>?_) h).2
  obtain⟨o',q,q2⟩:=t a z
  rcases h with h|⟨o,h⟩
  ·rcases q2 with⟨_,rfl⟩|⟨_,rfl⟩<;>(rw[q] at h;cases h)
  ·rcases q2 with⟨_,rfl⟩|⟨_,rfl⟩<;>(rw[q] at h;cases h)
 ·exact .inr h
mutual
theorem Rep.ext (e:Ext th H th' H')(t:IY th H):∀{d:D}{v:V},Rep K th H d v->Rep K th' H' d v
 |.non,_,h=>h
 |.bl _,_,h=>h
 |.int _,_,h=>h
 |.str _,_,h=>h
 |.tup ds,_,h=>by
  unfold Rep at h ⊢
  obtain⟨a,vs,q,h1,h2,z⟩:=h
  exact⟨a,vs,q,e.sqT t h1,RepL.ext e t h2,z⟩
 |.lst ds,_,h=>by
  unfold Rep at h ⊢
  obtain⟨a,vs,q,h1,h2,z⟩:=h
  exact⟨a,vs,q,e.fz h1,RepL.ext e t h2,z⟩
 |.dct ks ds,_,h=>by
  unfold Rep at h ⊢
  obtain⟨a,xs,q,n,h1,h2,h3,h4,h5⟩:=h
  exact⟨a,xs,q,e.out _ _ n h1,e.keep _ _ n h1,h2,RepL.ext e t h3,RepL.ext e t h4,h5⟩
 |.set ds,_,h=>by
  unfold Rep at h ⊢
  obtain⟨a,us,vs,q,n,h1,h2,h3,h4⟩:=h
  exact⟨a,us,vs,q,e.out _ _ n h1,e.keep _ _ n h1,h2,RepL.ext e t h3,h4⟩
 |.ref k,_,h=>by
  unfold Rep at h ⊢
  obtain⟨a,q,h1⟩:=h
  exact⟨a,q,e.at h1⟩
theorem RepL.ext (e:Ext th H th' H')(t:IY th H):∀{ds:List D}{vs:List V},RepL K th H ds vs->RepL K th' H' ds vs
 |[],_,h=>by rw[h.inv0];exact .nil
 |_::_,_,h=>by
  obtain⟨v,r,rfl,h1,h2⟩:=h.inv
  exact .cons (Rep.ext e t h1) (RepL.ext e t h2)
end
def Wq {N:List Addr}(hN:N.Nodup){i j:Nat}{x:Addr}(a:N[i]?=some x)(b:N[j]?=some x):i=j:=by
 obtain⟨hi,ei⟩:=Ad.mp a
 obtain⟨hj,ej⟩:=Ad.mp b
 have:=BZ.mp hN
 rcases Nat.lt_trichotomy i j with h|h|h
 ·exact absurd (ei.trans ej.symm) (this i j hi hj h)
 ·exact h
 ·exact absurd (ej.trans ei.symm) (this j i hj hi h)
def MRep (K:Zc)(th:List Addr)(H:Hp)(a:Addr):MO->Prop
 |.lst ds=>∃vs,H a=some (.lst vs)/\RepL K th H ds vs/\ds.length<=sizeLine
 |.dct ks ds=>∃xs,H a=some (D1 a xs)/\xs.map (·.1)=EL K.w ks/\RepL K th H ks (xs.map (·.2.1))/\RepL K th H ds (xs.map (·.2.2))/\KeysOk ks
theorem MRep.ext (e:Ext th H th' H')(t:IY th H){a:Addr}{o:MO}(ha:∀u,H a=some u->H' a=some u)(h:MRep K th H a o):MRep K th' H' a o:=by
 cases o with
 |lst ds=>obtain⟨vs,q1,q2,z⟩:=h;exact⟨vs,ha _ q1,q2.ext e t,z⟩
 |dct ks ds=>obtain⟨xs,q1,q2,q3,q4,z⟩:=h;exact⟨xs,ha _ q1,q2,q3.ext e t,q4.ext e t,z⟩
structure StoOk (K:Zc) (th:List Addr) (mu:Sto) (H:Hp):Prop where
 len:th.length=mu.length
 nd:th.Nodup
 at':∀(k:Nat) (a:Addr) (o:MO),th[k]?=some a->mu[k]?=some o->MRep K th H a o
theorem StoOk.out {mu:Sto}(s:StoOk K th mu H):IY th H:=λa ha=>by
 obtain⟨k,hk,rfl⟩:=List.mem_iff_getElem.mp ha
 have hk':k<mu.length:=by rw[<- s.len];exact hk
 have q:=s.at' k th[k] mu[k] (by simp) (by simp)
 cases e:mu[k] with
 |lst ds=>rw[e] at q;obtain⟨vs,q,_⟩:=q;exact⟨_,q,.inl ⟨_,rfl⟩⟩
 |dct ks ds=>rw[e] at q;obtain⟨vs,q,_⟩:=q;exact⟨_,q,.inr ⟨_,rfl⟩⟩
theorem StoOk.new {mu:Sto}(s:StoOk K th mu H){p:Addr}(h:H p=none)(o:HO):StoOk K th mu (upd H p o):=
 ⟨s.len,s.nd,λk a o' e1 e2=>(s.at' k a o' e1 e2).ext (.new h o) s.out λu q=>by rw[Df (Di q h)];exact q⟩
def StoOk.newG {mu:Sto}(s:StoOk K th mu H){p:Addr}(h:H p=none)(o:HO)(mo:MO)(r:MRep K (th++[p]) (upd H p o) p mo):StoOk K (th++[p]) (mu++[mo]) (upd H p o):=by
 have ex:Ext th H (th++[p]) (upd H p o):=.newM h _
 refine⟨by simp[s.len],?_,λk a o' e1 e2=>?_⟩
 ·refine Bb.mpr ⟨s.nd,by simp,λx hx y hy=>?_⟩
  rw[Ah.mp hy]
  obtain⟨xs,q,_⟩:=s.out x hx
  exact Di q h
 ·by_cases hk:k<th.length
  ·rw[Ap hk] at e1
   rw[Ap (by rw[<- s.len];exact hk)] at e2
   exact(s.at' k a o' e1 e2).ext ex s.out λu q=>by rw[Df (Di q h)];exact q
  ·have hk2:k=th.length:=by
    have:=(Ad.mp e1).1
    simp at this
    ext
   subst hk2
   have e1':a=p:=by simpa using e1.symm
   have e2':o'=mo:=by rw[s.len] at e2;simpa using e2.symm
   subst e1' e2'
   exact r
theorem StoOk.newM {mu:Sto}(s:StoOk K th mu H){p:Addr}(h:H p=none){ds:List D}{vs:List V}(r:RepL K th H ds vs)(hz:ds.length<=sizeLine):StoOk K (th++[p]) (mu++[.lst ds]) (upd H p (.lst vs)):=
 s.newG h _ _ ⟨vs,DX,r.ext (.newM h _) s.out,hz⟩
def StoOk.putG {mu:Sto}(s:StoOk K th mu H){k:Nat}{a:Addr}(hk:th[k]?=some a)(o:HO)(mo:MO)(r:MRep K th (upd H a o) a mo):StoOk K th (mu.set k mo) (upd H a o):=by
 have ex:Ext th H th (upd H a o):=.mut (Aj hk) _
 refine⟨by simp[s.len],s.nd,λj b o' e1 e2=>?_⟩
 by_cases hj:j=k
 ·subst hj
  rw[hk] at e1
  cases e1
  have:j<mu.length:=by rw[<- s.len];exact(Ad.mp hk).1
  have e2':o'=mo:=by simpa[this] using e2.symm
  subst e2'
  exact r
 ·rw[Aw (Ne.symm hj)] at e2
  have nb:b≠a:=λz=>by
   subst z
   exact hj (Wq s.nd e1 hk)
  exact(s.at' j b o' e1 e2).ext ex s.out λu q=>by rw[Df nb];exact q
def StoOk.put {mu:Sto}(s:StoOk K th mu H){k:Nat}{a:Addr}(hk:th[k]?=some a){ds:List D}{vs:List V}(r:RepL K th H ds vs)(hz:ds.length<=sizeLine):StoOk K th (mu.set k (.lst ds)) (upd H a (.lst vs)):=
 s.putG hk _ _ ⟨vs,DX,r.ext (.mut (Aj hk) _) s.out,hz⟩
def KeysOk.nil:KeysOk []:=⟨A5 _,List.nodup_nil,λ_ h=>nomatch h⟩
def StoOk.newD {mu:Sto}(s:StoOk K th mu H){p:Addr}(h:H p=none):StoOk K (th++[p]) (mu++[.dct [] []]) (upd H p (D1 p [])):=
 s.newG h _ _ ⟨[],DX,rfl,.nil,.nil,.nil⟩
def Tr (K:Zc){A:Type}(th:List Addr)(H:Hp)(r:Rs A)(k:A->List Addr->Sto->Hp->Prop):Prop:=
 ∃a mu',r=some (a,mu')/\∀th' H',Ext th H th' H'->StoOk K th' mu' H'->k a th' mu' H'
def Tr.mono {A:Type}{r:Rs A}{k k':A->List Addr->Sto->Hp->Prop}(h:Tr K th H r k)(f:∀a th' mu' H',Ext th H th' H'->StoOk K th' mu' H'->k a th' mu' H'->k' a th' mu' H'):Tr K th H r k':=by
 obtain⟨a,mu',e,q⟩:=h
 exact⟨a,mu',e,λth' H' x s=>f a th' mu' H' x s (q th' H' x s)⟩
def Tr.ahead {A:Type}{r:Rs A}{k:A->List Addr->Sto->Hp->Prop}(h:Tr K th H r k)(x:Ext th H th' H'):Tr K th' H' r k:=by
 obtain⟨a,mu',e,q⟩:=h
 exact⟨a,mu',e,λth2 H2 y s=>q th2 H2 (x.trans y) s⟩
def Tr.bind {A B:Type}{r:Rs A}{f:A->Sto->Rs B}{k:B->List Addr->Sto->Hp->Prop}(h:Tr K th H (bM r f) k):Tr K th H r λa th1 mu1 H1=>Tr K th1 H1 (f a mu1) k:=by
 obtain⟨b,mu',e,q⟩:=h
 obtain⟨a,m,e1,e2⟩:=FE e
 exact⟨a,m,e1,λth1 H1 x1 s1=>⟨b,mu',e2,λth' H' x s=>q th' H' (x1.trans x) s⟩⟩
def Tr.bindE {A B:Type}{r:Rs A}{f:A->Sto->Rs B}{k:B->List Addr->Sto->Hp->Prop}(h:Tr K th H (bM r f) k):Tr K th H r λa th1 mu1 H1=>r=some (a,mu1)/\Tr K th1 H1 (f a mu1) k:=by
 obtain⟨b,mu',e,q⟩:=h
 obtain⟨a,m,e1,e2⟩:=FE e
 exact⟨a,m,e1,λth1 H1 x1 s1=>⟨e1,b,mu',e2,λth' H' x s=>q th' H' (x1.trans x) s⟩⟩
def Tr.ret {A:Type}{a:A}{mu:Sto}{k:A->List Addr->Sto->Hp->Prop}(h:Tr K th H (some (a,mu)) k)(s:StoOk K th mu H):k a th mu H:=by
 obtain⟨b,mu',e,q⟩:=h
 cases e
 exact q th H (.refl _ _) s
def Tr.retX {A:Type}{a:A}{mu:Sto}{k:A->List Addr->Sto->Hp->Prop}(h:Tr K th H (some (a,mu)) k)(x:Ext th H th' H')(s:StoOk K th' mu H'):k a th' mu H':=by
 obtain⟨b,mu',e,q⟩:=h
 cases e
 exact q th' H' x s
def Tr.no {A:Type}{k:A->List Addr->Sto->Hp->Prop}(h:Tr K th H (none:Rs A) k):False:=by
 obtain⟨b,mu',e,q⟩:=h
 cases e
def EnvOk (K:Zc)(th:List Addr)(H:Hp)(ro:Ro)(st:L2.St):Prop:=ro.length=st.length/\∀(i:Nat) (d:D),ro[i]?=some (some d)->∃v,st[i]?=some (some v)/\Rep K th H d v
theorem EnvOk.ext {ro:Ro}{st:L2.St}(h:EnvOk K th H ro st)(e:Ext th H th' H')(t:IY th H):EnvOk K th' H' ro st:=⟨h.1,λi d q=>by
 obtain⟨v,a,b⟩:=h.2 i d q
 exact⟨v,a,b.ext e t⟩⟩
theorem EnvOk.set {ro:Ro}{st:L2.St}(h:EnvOk K th H ro st)(i:Nat){d:D}{v:V}(r:Rep K th H d v):EnvOk K th H (ro.set i (some d)) (st.set i (some v)):=by
 refine⟨by simp[h.1],λj d' q=>?_⟩
 by_cases hj:j=i
 ·subst hj
  have hl:j<ro.length:=by
   have:=(Ad.mp q).1
   simpa using this
  have:d'=d:=by simpa[hl] using q.symm
  subst this
  exact⟨v,by simp[<- h.1,hl],r⟩
 ·rw[Aw (Ne.symm hj)] at q ⊢
  exact h.2 j d' q
abbrev KV' (K:Zc) (Q:VK):D->List Addr->Sto->Hp->Prop:=λd th' _ H'=>∀v,Rep K th' H' d v->Q v H'
def rdE (K:Zc)(m:Ex):TE:=λst H Q=>∃th mu ro,StoOk K th mu H/\EnvOk K th H ro st/\Tr K th H (m ro mu) (KV' K Q)
def rdA (K:Zc)(m:Exs):TA:=λst H Q=>∃th mu ro,StoOk K th mu H/\EnvOk K th H ro st/\Tr K th H (m ro mu) λds th' _ H'=>∀vs,RepL K th' H' ds vs->Q vs H'
def rdT (K:Zc)(m:Tx):TT:=λst H Q=>∃th mu ro,StoOk K th mu H/\EnvOk K th H ro st/\Tr K th H (m ro mu) λb _ _ H'=>Q b H'
def WZ (K:Zc)(E:Ends)(p:Fl×Ro)(th:List Addr)(_:Sto)(H:Hp):Prop:=∀st',EnvOk K th H p.2 st'->match p.1 with
 |.nx=>E.nx st' H
 |.bk=>E.bk st' H
 |.ct=>E.ct st' H
 |.rt d=>∀v,Rep K th H d v->E.rt v H
def rdS (K:Zc)(m:Sx):TS:=λE st H=>∃th mu ro,StoOk K th mu H/\EnvOk K th H ro st/\Tr K th H (m ro mu) (WZ K E)
def r2 (K:Zc)(op:D->D->Sto->Rs D):R2:=λx y H Q=>∃th mu d e,StoOk K th mu H/\Rep K th H d x/\Rep K th H e y/\Tr K th H (op d e mu) (KV' K Q)
def rL (K:Zc)(f:Fn):List V->Hp->VK->Prop:=λxs H Q=>∃th mu ds,StoOk K th mu H/\RepL K th H ds xs/\Tr K th H (f ds mu) (KV' K Q)
end
structure SV (X:Cx) (e:Expr) (m:Ex):Prop where
 r:PE X e (rdE X.z m)
structure SVT (X:Cx) (e:Expr) (m:Tx):Prop where
 r:PT X e (rdT X.z m)
def SVA (X:Cx)(es:List Expr)(m:Exs):Prop:=PA X es (rdA X.z m)/\∀ro mu ds mu',m ro mu=some (ds,mu')->ds.length=es.length
structure SVS (X:Cx) (s:Stmt) (m:Sx):Prop where
 r:PS X s (rdS X.z m)
structure SVB (X:Cx) (b:List Stmt) (m:Sx):Prop where
 r:PSs X b (rdS X.z m)
def OpV (X:Cx)(f:Value->Value->Sem Value)(op:D->D->Sto->Rs D):Prop:=OpR X f (r2 X.z op)
def CallV (X:Cx)(f:Value)(g:Fn):Prop:=Hj X f (rL X.z g)
def PE.weak {X:Cx}{e:Expr}{t t':TE}(h:PE X e t)(f:∀st H Q,t' st H Q->t st H Q):PE X e t':=λpj s st H Q I q=>h pj s st H Q I (f st H Q q)
def PT.weak {X:Cx}{e:Expr}{t t':TT}(h:PT X e t)(f:∀st H Q,t' st H Q->t st H Q):PT X e t':=λpj s st H Q I q=>h pj s st H Q I (f st H Q q)
def PA.weak {X:Cx}{e:List Expr}{t t':TA}(h:PA X e t)(f:∀st H Q,t' st H Q->t st H Q):PA X e t':=λpos pj s st H Q I q=>h pos pj s st H Q I (f st H Q q)
def PS.weak {X:Cx}{e:Stmt}{t t':TS}(h:PS X e t)(f:∀E st H,t' E st H->t E st H):PS X e t':=λpj s st H E I q=>h pj s st H E I (f E st H q)
def PSs.weak {X:Cx}{e:List Stmt}{t t':TS}(h:PSs X e t)(f:∀E st H,t' E st H->t E st H):PSs X e t':=λpj s st H E I q=>h pj s st H E I (f E st H q)
section
variable {X:Cx}{K:Zc}{th:List Addr}{mu:Sto}{H:Hp}
def Cp (i:Nat):Ex:=λro mu=>match ro[i]? with
 |some (some d)=>some (d,mu)
 |_=>none
def eC (d:D):Ex:=λ_ mu=>some (d,mu)
theorem Cn (i:Nat){x:Str}{pos:Pos}(hN:X.N[i]?=some x:=by rfl)(hv:Vis X.env.scope x:=by first|exact Or.inl rfl|exact Or.inr (Or.inl rfl)|exact Or.inr (Or.inr rfl))(hd:(x==("__debug__":Str))=false:=by decide)
  (hcd:(x==("__classdict__":Str))=false:=by decide):SV X (.Name x pos) (Cp i):=⟨PE.weak (Sr hN hv hd hcd) λst H Q h=>by
 obtain⟨th,mu,ro,so,en,t⟩:=h
 unfold Cp at t
 cases e:ro[i]? with
 |none=>rw[e] at t;exact t.no.elim
 |some o =>
  cases o with
  |none=>rw[e] at t;exact t.no.elim
  |some d =>
   rw[e] at t
   obtain⟨v,ev,rv⟩:=en.2 i d e
   exact⟨v,ev,t.ret so v rv⟩⟩
def HX {e:Expr}{d:D}{v:V}(h:PE X e (tC v))(r:∀K th H,Rep K th H d v):SV X e (eC d):=⟨PE.weak h λst H Q q=>by
 obtain⟨th,mu,ro,so,en,t⟩:=q
 exact t.ret so v (r _ _ _)⟩
def Cv {i j pos}:SV X (.Constant (.int i) j pos) (eC (.int i)):=HX RM λ_ _ _=>by unfold Rep;rfl
def Om {i j pos}:SV X (.Constant (.bool i) j pos) (eC (.bl i)):=HX Y2 λ_ _ _=>by unfold Rep;rfl
def KJ {j pos}:SV X (.Constant .none j pos) (eC .non):=HX WX λ_ _ _=>by unfold Rep;rfl
def CW {i j pos}(h:i.length<=sizeLine/\PyData.strOk i=true:=by symm):SV X (.Constant (.str i) j pos) (eC (.str i)):=HX Xu λ_ _ _=>by unfold Rep;exact⟨rfl,h⟩
def P8 {x:Str}{i:Int}{pos:Pos}(hm:∃t,X.mg x=some (.int i t))(hg:Gl X x:=by rfl)(hd:(x==("__debug__":Str))=false:=by decide):SV X (.Name x pos) (eC (.int i)):=by
 obtain⟨t,hm⟩:=hm
 exact HX (PH (v:=.int i) hg hm ⟨t,rfl⟩ hd) λ_ _ _=>by unfold Rep;rfl
def Cz (g:D->D->Sto->Rs D)(a b:Ex):Ex:=λro mu=>bM (a ro mu) λx m1=>bM (b ro m1) λy m2=>g x y m2
def Nc {a b:Ex}{g:D->D->Sto->Rs D}{st:L2.St}{Q:VK}(h:rdE K (Cz g a b) st H Q):tOp (r2 K g) (rdE K a) (rdE K b) st H Q:=by
 obtain⟨th,mu,ro,so,en,t⟩:=h
 refine⟨th,mu,ro,so,en,t.bind.mono λx th1 mu1 H1 e1 s1 t1 v rv=>?_⟩
 exact⟨th1,mu1,ro,s1,en.ext e1 so.out,t1.bind.mono λy th2 mu2 H2 e2 s2 t2 u ru=>⟨th2,mu2,x,y,s2,rv.ext e2 s1.out,ru,t2⟩⟩
def CQ {a b:Expr}{op:Operator}{g:D->D->Sto->Rs D}{ma mb:Ex}{pos:Pos}(ho:OpV X (binaryOp op) g)(ha:SV X a ma)(hb:SV X b mb):SV X (.BinOp a op b pos) (Cz g ma mb):=
 ⟨PE.weak (ZY ho ha.r hb.r) λ_ _ _ h=>Nc h⟩
def Jd {a b:Expr}{op:CmpOp}{g:D->D->Sto->Rs D}{ma mb:Ex}{pos:Pos}(ho:OpV X (compareOp op) g)(ha:SV X a ma)(hb:SV X b mb)(hm:behindInMarks op b=false:=by first|exact T2 _|with_unfolding_all rfl):SV X (.Compare a [op] [b] pos) (Cz g ma mb):=
 ⟨PE.weak (Uu ho ha.r hb.r hm) λ_ _ _ h=>Nc h⟩
def CI {a b:Expr}{g:D->D->Sto->Rs D}{ma mb:Ex}{pos:Pos}(ho:IxR X (r2 X.z g))(ha:SV X a ma)(hb:SV X b mb)(hs:Qa b:=by intro _ _;rfl):SV X (.Subscript a b pos) (Cz g ma mb):=
 ⟨PE.weak (AaK ho ha.r hb.r hs) λ_ _ _ h=>Nc h⟩
def e1 (g:D->Sto->Rs D)(a:Ex):Ex:=λro mu=>bM (a ro mu) λx m1=>g x m1
def asB:D->Option Bool
 |.bl b=>some b
 |_=>none
def tV (a:Ex):Tx:=λro mu=>bM (a ro mu) λx m1=>(asB x).map λb=>(b,m1)
theorem Qf {d:D}{b:Bool}{v:V}(h:asB d=some b)(r:Rep K th H d v):v=.bl b:=by
 cases d with
 |bl c=>cases h;exact r
 |_=>cases h
theorem Wz {a:Ex}{st:L2.St}{Q:Bool->Hp->Prop}(h:rdT K (tV a) st H Q):Wd (rdE K a) st H Q:=by
 obtain⟨th,mu,ro,so,en,t⟩:=h
 refine⟨th,mu,ro,so,en,t.bind.mono λx th1 mu1 H1 e1 s1 t1 v rv=>?_⟩
 cases e:asB x with
 |none=>rw[e] at t1;exact t1.no.elim
 |some b=>rw[e] at t1;exact⟨b,Qf e rv,t1.ret s1⟩
def Ks {e:Expr}{m:Ex}(h:SV X e m)(he:∀whole,isTrue e X.env whole=(do let v<-whole;standAt e.pos;holding [v] (truthy v)):=by intro _;rfl):SVT X e (tV m):=⟨PT.weak (XU h.r he) λ_ _ _ h=>Wz h⟩
def Dg {a b:Expr}{op:CmpOp}{g:D->D->Sto->Rs D}{ma mb:Ex}{pos:Pos}(ho:OpV X (compareOp op) g)(ha:SV X a ma)(hb:SV X b mb)(hm:behindInMarks op b=false:=by first|exact T2 _|with_unfolding_all rfl):SVT X (.Compare a [op] [b] pos) (tV (Cz g ma mb)):=
 ⟨PT.weak (Vz ho ha.r hb.r hm) λ_ _ _ h=>by
  obtain⟨th,mu,ro,so,en,t⟩:=Wz h
  exact Nc ⟨th,mu,ro,so,en,t⟩⟩
def tNt (a:Tx):Tx:=λro mu=>bM (a ro mu) λb m1=>some (!b,m1)
def VJ {e:Expr}{m:Tx}{pos:Pos}(h:SVT X e m):SVT X (.UnaryOp .Not e pos) (tNt m):=⟨PT.weak (Xh h.r) λst H Q h=>by
 obtain⟨th,mu,ro,so,en,t⟩:=h
 exact⟨th,mu,ro,so,en,t.bind.mono λb th1 mu1 H1 e1 s1 t1=>t1.ret s1⟩⟩
def tAn (a b:Tx):Tx:=λro mu=>bM (a ro mu) λx m1=>if x=true then b ro m1 else some (false,m1)
def tO (a b:Tx):Tx:=λro mu=>bM (a ro mu) λx m1=>if x=true then some (true,m1) else b ro m1
def eAn (a b:Ex):Ex:=λro mu=>bM (a ro mu) λx m1=>match asB x with
 |none=>none
 |some c=>if c=true then b ro m1 else some (.bl false,m1)
def eO (a b:Ex):Ex:=λro mu=>bM (a ro mu) λx m1=>match asB x with
 |none=>none
 |some c=>if c=true then some (.bl true,m1) else b ro m1
def eNt (a:Ex):Ex:=λro mu=>bM (a ro mu) λx m1=>match asB x with
 |none=>none
 |some c=>some (.bl (!c),m1)
theorem Yf {a:Expr}{m:Ex}{pos:Pos}(ha:SV X a m):SV X (.UnaryOp .Not a pos) (eNt m):=⟨PE.weak (YS ha.r) λst H Q h=>by
 obtain⟨th,mu,ro,so,en,t⟩:=h
 refine⟨th,mu,ro,so,en,t.bind.mono λx th1 mu1 H1 e1 s1 t1 v rv=>?_⟩
 cases e:asB x with
 |none=>rw[e] at t1;exact t1.no.elim
 |some c =>
  rw[e] at t1
  exact⟨c,Qf e rv,t1.ret s1 _ (by unfold Rep;rfl)⟩⟩
def eIf (c:Tx)(a b:Ex):Ex:=λro mu=>bM (c ro mu) λx m1=>if x=true then a ro m1 else b ro m1
theorem Hl {c a b:Expr}{mc:Tx}{ma mb:Ex}{pos:Pos}(hc:SVT X c mc)(ha:SV X a ma)(hb:SV X b mb):SV X (.IfExp c a b pos) (eIf mc ma mb):=⟨PE.weak (Th hc.r ha.r hb.r) λst H Q h=>by
 obtain⟨th,mu,ro,so,en,t⟩:=h
 refine⟨th,mu,ro,so,en,t.bind.mono λb th1 mu1 H1 e1 s1 t1=>?_⟩
 cases b with
 |true=>exact⟨th1,mu1,ro,s1,en.ext e1 so.out,t1⟩
 |false=>exact⟨th1,mu1,ro,s1,en.ext e1 so.out,t1⟩⟩
def Cr:Exs:=λ_ mu=>some ([],mu)
def Co (a:Ex)(r:Exs):Exs:=λro mu=>bM (a ro mu) λx m1=>bM (r ro m1) λxs m2=>some (x::xs,m2)
def Cq:SVA X [] Cr:=by
 refine⟨PA.weak S1 λst H Q h=>?_,λro mu ds mu' h=>by cases h;rfl⟩
 obtain⟨th,mu,ro,so,en,t⟩:=h
 exact t.ret so [] .nil
def Cm {e:Expr}{es:List Expr}{m:Ex}{n:Exs}(ha:SV X e m)(hr:SVA X es n)(hs:starEach (e::es) X.env=(false,eval e X.env)::starEach es X.env:=by rfl):SVA X (e::es) (Co m n):=by
 refine⟨PA.weak (PB ha.r hr.1 hs) λst H Q h=>?_,λro mu ds mu' h=>?_⟩
 ·obtain⟨th,mu,ro,so,en,t⟩:=h
  refine⟨th,mu,ro,so,en,t.bind.mono λx th1 mu1 H1 e1 s1 t1 v rv=>?_⟩
  exact⟨th1,mu1,ro,s1,en.ext e1 so.out,t1.bind.mono λxs th2 mu2 H2 e2 s2 t2 vs rvs=>t2.ret s2 _ (.cons (rv.ext e2 s1.out) rvs)⟩
 ·obtain⟨x,m1,_,h⟩:=FE h
  obtain⟨xs,m2,h1,h⟩:=FE h
  cases h
  rw[List.length_cons,List.length_cons,hr.2 _ _ _ _ h1]
def Dq (a:Exs):Ex:=λro mu=>bM (a ro mu) λxs m1=>some (.tup xs,m1)
def Li (a:Exs):Ex:=λro mu=>bM (a ro mu) λxs m1=>some (.lst xs,m1)
def GX (a:Exs):Ex:=λro mu=>bM (a ro mu) λxs m1=>some (.ref m1.length,m1++[.lst xs])
def Rep.newTup (so:StoOk K th mu H){p:Addr}(h:H p=none){ds:List D}{vs:List V}(r:RepL K th H ds vs)(hz:ds.length<=sizeLine):Rep K th (upd H p (.tup vs)) (.tup ds) (.ref p):=by
 unfold Rep
 exact⟨p,vs,rfl,SqT.of DX,r.ext (.new h _) so.out,hz⟩
def StoOk.notin (so:StoOk K th mu H){p:Addr}(h:H p=none):p∉th:=λz=>by
 obtain⟨xs,e,_⟩:=so.out p z
 rw[h] at e
 cases e
def Rep.newLst (so:StoOk K th mu H){p:Addr}(h:H p=none){ds:List D}{vs:List V}(r:RepL K th H ds vs)(hz:ds.length<=sizeLine):Rep K th (upd H p (.lst vs)) (.lst ds) (.ref p):=by
 unfold Rep
 exact⟨p,vs,rfl,.inl ⟨so.notin h,.inl DX⟩,r.ext (.new h _) so.out,hz⟩
def CK {es:List Expr}{m:Exs}{x1}{pos:Pos}(h:SVA X es m)(hl:es.length<=1000:=by decide):SV X (.Tuple es x1 pos) (Dq m):=⟨PE.weak (WE h.1) λst H Q q=>by
 obtain⟨th,mu,ro,so,en,t⟩:=q
 obtain⟨d,mu',e,_⟩:=id t
 obtain⟨xs0,m0,e0,_⟩:=FE e
 have hn:=h.2 _ _ _ _ e0
 have tb:Tr X.z th H (m ro mu) λds th' mu' H'=>ds.length<=1000/\Tr X.z th' H' (some (D.tup ds,mu')) (KV' X.z Q):=by
  obtain⟨a,mu1,e1,q1⟩:=t.bind
  exact⟨a,mu1,e1,λth' H' x s=>⟨by rw[h.2 _ _ _ _ e1];exact hl,q1 th' H' x s⟩⟩
 refine⟨th,mu,ro,so,en,tb.mono λxs th1 mu1 H1 e1 s1 t1 vs rvs=>⟨?_,λp hp=>?_⟩⟩
 ·rw[rvs.len];exact AO t1.1 (by decide)
 ·exact t1.2.retX (.new hp _) (s1.new hp _) _ (Rep.newTup s1 hp rvs (AO t1.1 (by decide)))⟩
def TF {es:List Expr}{m:Exs}{C:List D->Sto->Rs D}{st:L2.St}{ro:Ro}{k:D->List Addr->Sto->Hp->Prop}(h:SVA X es m)(hl:es.length<=1000)(t:Tr K th H (bM (m ro mu) C) k) :
  Tr K th H (m ro mu) λds th' mu' H'=>ds.length<=1000/\Tr K th' H' (C ds mu') k:=by
 obtain⟨a,mu1,e1,q1⟩:=t.bind
 exact⟨a,mu1,e1,λth' H' x s=>⟨by rw[h.2 _ _ _ _ e1];exact hl,q1 th' H' x s⟩⟩
def JS {es:List Expr}{m:Exs}{pos:Pos}(h:SVA X es m)(hl:es.length<=1000:=by decide):SV X (.List es pos) (Li m):=⟨PE.weak (Te h.1) λst H Q q=>by
 obtain⟨th,mu,ro,so,en,t⟩:=q
 refine⟨th,mu,ro,so,en,(TF (st:=st) h hl t).mono λxs th1 mu1 H1 e1 s1 t1 vs rvs=>⟨?_,λp hp=>?_⟩⟩
 ·rw[rvs.len];exact AO t1.1 (by decide)
 ·exact t1.2.retX (.new hp _) (s1.new hp _) _ (Rep.newLst s1 hp rvs (AO t1.1 (by decide)))⟩
def Jr {es:List Expr}{m:Exs}{pos:Pos}(h:SVA X es m)(hl:es.length<=1000:=by decide):SV X (.List es pos) (GX m):=⟨PE.weak (Te h.1) λst H Q q=>by
 obtain⟨th,mu,ro,so,en,t⟩:=q
 refine⟨th,mu,ro,so,en,(TF (st:=st) h hl t).mono λxs th1 mu1 H1 e1 s1 t1 vs rvs=>⟨?_,λp hp=>?_⟩⟩
 ·rw[rvs.len];exact AO t1.1 (by decide)
 ·refine t1.2.retX (.newM hp _) (s1.newM hp rvs (AO t1.1 (by decide))) _ ?_
  unfold Rep
  exact⟨p,rfl,by rw[<- s1.len];simp⟩⟩
def CA (f:Fn)(a:Exs):Ex:=λro mu=>bM (a ro mu) λxs m1=>f xs m1
def TZ {f:Fn}{a:Exs}{st:L2.St}{Q:VK}(h:rdE K (CA f a) st H Q):tCB (rL K f) (rdA K a) st H Q:=by
 obtain⟨th,mu,ro,so,en,t⟩:=h
 exact⟨th,mu,ro,so,en,t.bind.mono λxs th1 mu1 H1 e1 s1 t1 vs rvs=>⟨th1,mu1,xs,s1,rvs,t1⟩⟩
def DD {x:Str}{id:String}{g:Fn}{e:Expr}{es:List Expr}{m:Exs}{p pos:Pos}(hc:CallV X (.builtin id) g)(hm:X.mg x=none)(hv:bootBuiltins x=some (.builtin id))(ha:SVA X (e::es) m)(hg:Gl X x:=by rfl)
  (hn:x≠"__name__":=by decide) (hdb:(x==("__debug__":Str))=false:=by decide) (hs1:starEach (e::es) X.env=(false,eval e X.env)::starEach es X.env:=by rfl) (hs2:(backTo pos (starEach es X.env)).any (·.1)=false:=by rfl):SV X (.Call (.Name x p) (e::es) [] pos) (CA g m):=
 ⟨PE.weak (Og hc hg hm hv ha.1 hn hdb hs1 hs2) λ_ _ _ h=>TZ h⟩
def Dp {x:Str}{T:String}{g:Fn}{e:Expr}{es:List Expr}{m:Exs}{p pos:Pos}(hc:CallV X (.type T) g)(hm:X.mg x=none)(hv:bootBuiltins x=some (.type T))(ha:SVA X (e::es) m)(hg:Gl X x:=by rfl)
  (hn:x≠"__name__":=by decide) (hdb:(x==("__debug__":Str))=false:=by decide) (hs1:starEach (e::es) X.env=(false,eval e X.env)::starEach es X.env:=by rfl) (hs2:(backTo pos (starEach es X.env)).any (·.1)=false:=by rfl):SV X (.Call (.Name x p) (e::es) [] pos) (CA g m):=
 ⟨PE.weak (QC hc hg hm hv ha.1 hn hdb hs1 hs2) λ_ _ _ h=>TZ h⟩
def spF (K:Zc)(f:Fn)(n:Nat):Sp:=λvs H Q _=>∃th mu ds,StoOk K th mu H/\RepL K th H ds vs/\ds.length=n/\Tr K th H (f ds mu) (KV' K Q)
structure Cal (P:Program) (w:World) (K:W.Frag) (mg:Str->Option Value) (base:Heap) (k:Nat) (x:Str) (f:Fn) (n:Nat):Prop where
 ex:∃(ps:List Str) (a:Addr) (fd:FuncData),ps.length=n/\DU P w K mg base CX0 k a fd ps (spF ⟨K,P,w⟩ f n)/\Binds K fd ps []/\W.keepIn K (.ref a)=true/\mg x=some (.ref a)
def CD {x:Str}{k:Nat}{f:Fn}{n:Nat}{e:Expr}{es:List Expr}{m:Exs}{p pos:Pos}(C:Cal X.prog X.w X.K X.mg X.base k x f n)(hr:Room k X.A)(ha:SVA X (e::es) m)(hl:(e::es).length=n:=by rfl)(hg:Gl X x:=by rfl)
  (hdb:(x==("__debug__":Str))=false:=by decide) (he:starEach (e::es) X.env=(false,eval e X.env)::starEach es X.env:=by rfl) (hpl:(backTo pos (starEach es X.env)).any (·.1)=false:=by rfl):SV X (.Call (.Name x p) (e::es) [] pos) (CA f m):=⟨by
 obtain⟨ps,a,fd,hn,F,b,kp,mm⟩:=C.ex
 refine PE.weak (U3 F hr hg mm kp b .nil Zy ha.1 hdb he hpl) λst H Q h=>?_
 obtain⟨th,mu,ro,so,en,t⟩:=h
 have tb:Tr X.z th H (m ro mu) λds th' mu' H'=>ds.length=n/\Tr X.z th' H' (f ds mu') (KV' X.z Q):=by
  obtain⟨a,mu1,e1,q1⟩:=t.bind
  exact⟨a,mu1,e1,λth' H' x s=>⟨by rw[ha.2 _ _ _ _ e1];exact hl,q1 th' H' x s⟩⟩
 exact⟨th,mu,ro,so,en,tb.mono λxs th1 mu1 H1 e1 s1 t1 vs rvs=>⟨th1,mu1,xs,s1,by simpa using rvs,t1.1,t1.2⟩⟩⟩
def sNx:Sx:=λro mu=>some ((.nx,ro),mu)
def CN (a b:Sx):Sx:=λro mu=>bM (a ro mu) λp m1=>match p.1 with
 |.nx=>b p.2 m1
 |_=>some (p,m1)
def DN:SVB X [] sNx:=⟨PSs.weak Vm λE st H h=>by
 obtain⟨th,mu,ro,so,en,t⟩:=h
 exact t.ret so st en⟩
def CC {s:Stmt}{m:Sx}(h:SVS X s m):SVB X [s] m:=⟨Uc h.r⟩
theorem Ct {s:Stmt}{r:List Stmt}{m n:Sx}(h1:SVS X s m)(h2:SVB X r n):SVB X (s::r) (CN m n):=⟨PSs.weak (Sg h1.r h2.r) λE st H h=>by
 obtain⟨th,mu,ro,so,en,t⟩:=h
 refine⟨th,mu,ro,so,en,t.bind.mono λp th1 mu1 H1 e1 s1 t1 st' en'=>?_⟩
 obtain⟨fl,ro'⟩:=p
 cases fl with
 |nx=>exact⟨th1,mu1,ro',s1,en',t1⟩
 |bk=>exact t1.ret s1 st' en'
 |ct=>exact t1.ret s1 st' en'
 |rt d=>exact t1.ret s1 st' en'⟩
def sRt (a:Ex):Sx:=λro mu=>bM (a ro mu) λd m1=>some ((.rt d,ro),m1)
def CG {e:Expr}{m:Ex}{pos:Pos}(h:SV X e m):SVS X (.Return (some e) pos) (sRt m):=⟨PS.weak (Yz h.r) λE st H h=>by
 obtain⟨th,mu,ro,so,en,t⟩:=h
 exact⟨th,mu,ro,so,en,t.bind.mono λd th1 mu1 H1 e1 s1 t1 v rv=>t1.ret s1 st (en.ext e1 so.out) v rv⟩⟩
def sEx (a:Ex):Sx:=λro mu=>bM (a ro mu) λ_ m1=>some ((.nx,ro),m1)
def Ig {e:Expr}{m:Ex}{pos:Pos}(h:SV X e m)(hs:swapsWith e none pos.line X.env=pure false:=by rfl):SVS X (.Expr e pos) (sEx m):=⟨PS.weak (UQ h.r hs) λE st H h=>by
 obtain⟨th,mu,ro,so,en,t⟩:=h
 exact⟨th,mu,ro,so,en,t.bind.mono λd th1 mu1 H1 e1 s1 t1 v rv=>t1.ret s1 st (en.ext e1 so.out)⟩⟩
def sIf (c:Tx)(a b:Sx):Sx:=λro mu=>bM (c ro mu) λx m1=>if x=true then a ro m1 else b ro m1
theorem Em {c:Expr}{a b:List Stmt}{mc:Tx}{ma mb:Sx}{pos:Pos}(hc:SVT X c mc)(ha:SVB X a ma)(hb:SVB X b mb):SVS X (.If c a b pos) (sIf mc ma mb):=⟨PS.weak (AaB hc.r ha.r hb.r) λE st H h=>by
 obtain⟨th,mu,ro,so,en,t⟩:=h
 refine⟨th,mu,ro,so,en,t.bind.mono λb th1 mu1 H1 e1 s1 t1=>?_⟩
 cases b with
 |true=>exact⟨th1,mu1,ro,s1,en.ext e1 so.out,t1⟩
 |false=>exact⟨th1,mu1,ro,s1,en.ext e1 so.out,t1⟩⟩
abbrev Gx:=D->Ro->Sto->Rs Ro
abbrev Gxs:=List D->Ro->Sto->Rs Ro
def rdG (K:Zc)(g:Gx):TG:=λv st H Q=>∃th mu ro d,StoOk K th mu H/\EnvOk K th H ro st/\Rep K th H d v/\Tr K th H (g d ro mu) λro' th' _ H'=>∀st',EnvOk K th' H' ro' st'->Q st' H'
def AaR (K:Zc)(g:Gxs):TGs:=λvs st H Q=>∃th mu ro ds,StoOk K th mu H/\EnvOk K th H ro st/\RepL K th H ds vs/\Tr K th H (g ds ro mu) λro' th' _ H'=>∀st',EnvOk K th' H' ro' st'->Q st' H'
structure SVG (X:Cx) (e:Expr) (g:Gx):Prop where
 r:PG X e (rdG X.z g)
structure Vo (X:Cx) (es:List Expr) (g:Gxs):Prop where
 r:PGs X es (AaR X.z g)
def PG.weak {e:Expr}{t t':TG}(h:PG X e t)(f:∀v st H Q,t' v st H Q->t v st H Q):PG X e t':=λpj s st H v u Q I r q=>h pj s st H v u Q I r (f v st H Q q)
def PGs.weak {e:List Expr}{t t':TGs}(h:PGs X e t)(f:∀v st H Q,t' v st H Q->t v st H Q):PGs X e t':=λpj s st H v u Q I r q=>h pj s st H v u Q I r (f v st H Q q)
def gNm (i:Nat):Gx:=λd ro mu=>some (ro.set i (some d),mu)
def Cw (i:Nat){x:Str}{pos:Pos}(hN:X.N.Nodup)(hi:X.N[i]?=some x:=by rfl)(hx:Loc X.env.scope x:=by first|exact Or.inl rfl|exact Or.inr rfl)(hf:X.fn x=true\/X.env.scope.names.lookup x=some .local:=by first|exact .inl rfl|exact .inr rfl):SVG X (.Name x pos) (gNm i):=
 ⟨PG.weak (Vj hN hi hx hf) λv st H Q h=>by
  obtain⟨th,mu,ro,d,so,en,r,t⟩:=h
  exact t.ret so _ (en.set i r)⟩
def C0:Gxs:=λds ro mu=>match ds with
 |[]=>some (ro,mu)
 |_=>none
def Cy (g:Gx)(r:Gxs):Gxs:=λds ro mu=>match ds with
 |d::ds=>bM (g d ro mu) λro' m1=>r ds ro' m1
 |[]=>none
theorem De:Vo X [] C0:=⟨PGs.weak Ui λv st H Q h=>by
 obtain⟨th,mu,ro,ds,so,en,r,t⟩:=h
 cases ds with
 |nil=>exact⟨r.inv0,t.ret so _ en⟩
 |cons d ds=>exact t.no.elim⟩
theorem CB {e:Expr}{es:List Expr}{g:Gx}{gs:Gxs}(h1:SVG X e g)(h2:Vo X es gs)(hs:(assignEach (e::es) X.env).map (·.2)=assign e X.env::(assignEach es X.env).map (·.2):=by rfl):Vo X (e::es) (Cy g gs):=⟨PGs.weak (Tg h1.r h2.r hs) λv st H Q h=>by
 obtain⟨th,mu,ro,ds,so,en,r,t⟩:=h
 cases ds with
 |nil=>exact t.no.elim
 |cons d ds =>
  obtain⟨v,vr,rfl,r1,r2⟩:=r.inv
  refine⟨v,vr,rfl,th,mu,ro,d,so,en,r1,?_⟩
  exact Tr.mono (Tr.bind t) λro' th1 mu1 H1 e1 s1 t1 st' en'=>⟨th1,mu1,ro',ds,s1,en',r2.ext e1 so.out,t1⟩⟩
def gTp (n:Nat)(g:Gxs):Gx:=λd ro mu=>match d with
 |.tup ds=>if ds.length=n then g ds ro mu else none
 |_=>none
def Du {es:List Expr}{k n:Nat}{g:Gxs}{pos:Pos}(hc:X.calm=true)(h:Vo X es g)(hn:(assignEach es X.env).length=n:=by rfl)(hst:(assignEach es X.env).findIdx? (·.1)=none:=by rfl):SVG X (.Tuple es k pos) (gTp n g):=
 ⟨PG.weak (W8 hc h.r hn hst) λv st H Q q=>by
  obtain⟨th,mu,ro,d,so,en,r,t⟩:=q
  cases d with
  |tup ds =>
   unfold Rep at r
   obtain⟨a,vs,rfl,hs,rl,_⟩:=r
   unfold gTp at t;dsimp only at t
   by_cases e:ds.length=n
   ·rw[if_pos e] at t
    exact⟨a,vs,rfl,hs,by rw[rl.len];exact e,th,mu,ro,ds,so,en,rl,t⟩
   ·rw[if_neg e] at t;exact t.no.elim
  |_=>exact t.no.elim⟩
def CT (a:Ex)(g:Gx):Sx:=λro mu=>bM (a ro mu) λd m1=>bM (g d ro m1) λro' m2=>some ((.nx,ro'),m2)
def U8 {a:Ex}{g:Gx}{st:L2.St}{E:Ends}(h:rdS K (CT a g) E st H):Xz (rdE K a) (rdG K g) E st H:=by
 obtain⟨th,mu,ro,so,en,t⟩:=h
 refine⟨th,mu,ro,so,en,t.bind.mono λd th1 mu1 H1 e1 s1 t1 v rv=>?_⟩
 refine⟨th1,mu1,ro,d,s1,en.ext e1 so.out,rv,t1.bind.mono λro' th2 mu2 H2 e2 s2 t2 st' en'=>?_⟩
 exact t2.ret s2 st' en'
def EY {tg e:Expr}{m:Ex}{g:Gx}{pos:Pos}(he:SV X e m)(hg:SVG X tg g)(hs:swapsWithSole [tg] e pos.line X.env=pure false:=by rfl)(hw:swappedStores [tg] e X.env=pure none:=by rfl)
  (h1:(assignEach [tg] X.env).map (·.2)=[assign tg X.env]:=by rfl):SVS X (.Assign [tg] e pos) (CT m g):=⟨PS.weak (XN he.r hg.r hs hw h1) λ_ _ _ h=>U8 h⟩
def CF (i:Nat){x:Str}{e:Expr}{m:Ex}{pos pos':Pos}(hN:X.N.Nodup)(he:SV X e m)(hi:X.N[i]?=some x:=by rfl)(hx:Loc X.env.scope x:=by first|exact Or.inl rfl|exact Or.inr rfl)(hs:swapsWith e (some (.Name x pos')) pos.line X.env=pure false:=by rfl)
  (hf:X.fn x=true\/X.env.scope.names.lookup x=some .local:=by first|exact .inl rfl|exact .inr rfl):SVS X (.Assign [.Name x pos'] e pos) (CT m (gNm i)):=⟨PS.weak (W3 hN hi hx he.r hs hf) λE st H h=>by
 obtain⟨th,mu,ro,so,en,t⟩:=h
 refine⟨th,mu,ro,so,en,t.bind.mono λd th1 mu1 H1 e1 s1 t1 v rv=>?_⟩
 exact t1.ret s1 _ ((en.ext e1 so.out).set i rv)⟩
def Abd (i j:Nat)(a:Exs):Sx:=λro mu=>bM (a ro mu) λds m1=>match ds with
 |[x,y]=>some ((.nx,(ro.set i (some x)).set j (some y)),m1)
 |_=>none
def fnB (n:Nat)(m:Sx):Fn:=λds mu=>bM (m (ds.map some++List.replicate (n-ds.length) none) mu) λp m1=>match p.1 with
 |.rt d=>some (d,m1)
 |.nx=>some (.non,m1)
 |_=>none
def Kd {N:List Str}{ds:List D}{vs:List V}(r:RepL K th H ds vs):EnvOk K th H (ds.map some++List.replicate (N.length-ds.length) none) (L2.start N vs):=by
 unfold L2.start
 refine⟨by simp[r.len],λi d e=>?_⟩
 by_cases hi:i<ds.length
 ·rw[Ap (by simpa using hi),Am] at e
  cases q:ds[i]? with
  |none=>rw[q] at e;cases e
  |some d' =>
   rw[q] at e
   have:d'=d:=by simpa using e
   subst this
   obtain⟨v,ev,rv⟩:=r.get q
   exact⟨v,by rw[Ap (by simpa[r.len] using hi),Am,ev];rfl,rv⟩
 ·rw[A1 (by simpa using hi),B8] at e
  split at e<;>cases e
def Aav {P:Program}{w:World}{K:W.Frag}{mg:Str->Option Value}{base:Heap}{x qual:Str}{st:Stmt}{f:Addr}{fd:FuncData}{N ps:List Str}{k:Nat}{m:Sx}(F:Fun K x qual st f fd)(S:CL N ps (Cu st))
  (hbody:∀(cdv:Value) (A:Around) (outer:List Env) (s:Shared) (H:Hp) (E:XK),Room k (A.deeper (envOfC qual (Cu st) s.heap.objs.size f cdv)) ->
   SVB (KL CX0 P w K mg base N qual (Cu st) f cdv A outer s H E).nox (EW st) m):DU P w K mg base CX0 (k+1) f fd ps (spF ⟨K,P,w⟩ (fnB N.length m) ps.length):=by
 refine F.ok S (λvs H Q E h=>?_) (λcdv A outer s H vs Q E hr h=>?_)
 ·obtain⟨th,mu,ds,_,r,hl,_⟩:=h
  rw[r.len]
  exact hl
 ·obtain⟨th,mu,ds,so,r,hl,t⟩:=h
  refine⟨_,(hbody cdv A outer s H E hr).r,?_⟩
  refine⟨th,mu,_,so,Kd r,t.bind.mono λp th1 mu1 H1 e1 s1 t1 st' en'=>?_⟩
  obtain⟨fl,ro'⟩:=p
  cases fl with
  |nx=>exact t1.ret s1 _ (by unfold Rep;rfl)
  |bk=>exact t1.no.elim
  |ct=>exact t1.no.elim
  |rt d=>exactλv rv=>t1.ret s1 v rv
def Dx (n np:Nat){P:Program}{w:World}{K:W.Frag}{mg:Str->Option Value}{base:Heap}{x qual:Str}{st:Stmt}{f:Addr}{fd:FuncData}{N ps:List Str}{k:Nat}{m:Sx}(F:Fun K x qual st f fd)(S:CL N ps (Cu st))(hn:N.length=n)(hp:ps.length=np)
  (hbody:∀(cdv:Value) (A:Around) (outer:List Env) (s:Shared) (H:Hp) (E:XK),Room k (A.deeper (envOfC qual (Cu st) s.heap.objs.size f cdv)) ->
   SVB (KL CX0 P w K mg base N qual (Cu st) f cdv A outer s H E).nox (EW st) m):DU P w K mg base CX0 (k+1) f fd ps (spF ⟨K,P,w⟩ (fnB n m) np):=by
 subst hn hp
 exact Aav F S hbody
def Dj {P:Program}{w:World}{K:W.Frag}{mg:Str->Option Value}{base:Heap}{x:Str}{st:Stmt}{f:Addr}{fd:FuncData}{ps:List Str}{k n:Nat}{g:Fn}(F:Fun K x x st f fd)(hm:mg x=some (.ref f))(h:DU P w K mg base CX0 k f fd ps (spF ⟨K,P,w⟩ g n))(hb:Binds K fd ps [])(hn:ps.length=n:=by rfl):Cal P w K mg base k x g n:=
 ⟨ps,f,fd,hn,h,hb,F.kp,hm⟩
abbrev Ix:=Ro->Sto->Rs (List D×Option Nat)
def gOk (g:Option Nat)(m0 m:Sto):Prop:=match g with
 |none=>True
 |some k=>m0[k]?=m[k]?
structure OG (K:Zc) (J:It) (th:List Addr) (mu:Sto) (H:Hp) (ds:List D) (g:Option Nat):Prop where
 sz:ds.length<=sizeLine
 go:∀th' mu' H',Ext th H th' H'->StoOk K th' mu' H'->gOk g mu mu'->∀(i:Nat) (d:D),ds[i]?=some d->J.go i H'/\∀x H2,J.yld i H' x H2->Ext th' H' th' H2/\StoOk K th' mu' H2/\Rep K th' H2 d x
 stop:∀th' mu' H',Ext th H th' H'->StoOk K th' mu' H'->gOk g mu mu'->J.stop ds.length H'
def rdI (K:Zc)(m:Ix):TI:=λst H R=>∃th mu ro,StoOk K th mu H/\EnvOk K th H ro st/\Tr K th H (m ro mu) λp th' mu' H'=>∀J,OG K J th' mu' H' p.1 p.2->R J H'
structure SVI (X:Cx) (tg iter:Expr) (m:Ix):Prop where
 r:PI X tg iter (rdI X.z m)
def PI.weak {tg e:Expr}{t t':TI}(h:PI X tg e t)(f:∀st H R,t' st H R->t st H R):PI X tg e t':=λpj s st H R I q=>h pj s st H R I (f st H R q)
open Classical in
def EA {A:Type}(g:Option Nat)(m0 m:Sto)(r:Rs A):Rs A:=if gOk g m0 m then r else none
def FX {A:Type}{m0 m:Sto}{r:Rs A}:EA none m0 m r=r:=by unfold EA;rw[if_pos (show gOk none m0 m from True.intro)]
def GB {A:Type}{g:Option Nat}{m0 m:Sto}{r:Rs A}{p:A×Sto}(h:EA g m0 m r=some p):gOk g m0 m/\r=some p:=by
 unfold EA at h
 by_cases e:gOk g m0 m
 ·rw[if_pos e] at h;exact⟨e,h⟩
 ·rw[if_neg e] at h;cases h
def GJ (g:Option Nat)(m0:Sto)(tg:Gx)(body:Sx):List D->Ro->Sto->Rs (Fl×Ro)
 |[],ro,mu=>some ((.nx,ro),mu)
 |d::ds,ro,mu=>bM (tg d ro mu) λro1 m1=>bM (body ro1 m1) λp m2=>match p.1 with
  |.nx=>EA g m0 m2 (GJ g m0 tg body ds p.2 m2)
  |.ct=>EA g m0 m2 (GJ g m0 tg body ds p.2 m2)
  |.bk=>some ((.nx,p.2),m2)
  |.rt d=>some ((.rt d,p.2),m2)
def IJ (i:Ix)(tg:Gx)(body:Sx):Sx:=λro mu=>bM (i ro mu) λp m1=>GJ p.2 m1 tg body p.1 ro m1
def Fg {tg iter:Expr}{body:List Stmt}{i:Ix}{g:Gx}{m:Sx}{pos:Pos}(hp:PassesOwn (model X.prog X.w) X.A X.env X.xe)(hc:X.calm=true)(hi:SVI X tg iter i)(hg:SVG X tg g)(hb:SVB X body m)
  (hs:∀x,foldedSetIterable iter X.env x=pure x:=by intro _;rfl):SVS X (.For tg iter body [] pos) (IJ i g m):=⟨PS.weak (W6 hp hc hi.r hg.r hb.r hs) λE st H h=>by
 obtain⟨th,mu,ro,so,en,t⟩:=h
 refine⟨th,mu,ro,so,en,t.bind.mono λp th1 mu1 H1 e1 s1 t1 J ok=>?_⟩
 obtain⟨ds,gd⟩:=p
 have en1:=en.ext e1 so.out
 refine⟨λk n st' H'=>n=ds.length-k/\k<=ds.length/\∃th' mu' ro',StoOk X.z th' mu' H'/\EnvOk X.z th' H' ro' st'/\Ext th1 H1 th' H'/\gOk gd mu1 mu'/\Tr X.z th' H' (GJ gd mu1 g m (ds.drop k) ro' mu') (WZ X.z E),⟨_,rfl,A5 _,th1,mu1,ro,s1,en1,.refl _ _,?_,t1⟩,?_⟩
 ·cases gd with
  |none=>exact True.intro
  |some k=>exact rfl
 rintro k n st2 H2 ⟨rfl,hk,th2,mu2,ro2,s2,en2,e2,g2,t2⟩
 by_cases lt:k<ds.length
 ·refine .inr ?_
  have ek:ds[k]?=some ds[k]:=by simp
  obtain⟨a1,a2⟩:=ok.go th2 mu2 H2 e2 s2 g2 k ds[k] ek
  refine⟨a1,λst' H'=>k+1<=ds.length/\∃th' mu' ro',StoOk X.z th' mu' H'/\EnvOk X.z th' H' ro' st'/\Ext th1 H1 th' H'/\gOk gd mu1 mu'/\Tr X.z th' H' (GJ gd mu1 g m (ds.drop (k+1)) ro' mu') (WZ X.z E),λst' H' q=>⟨ds.length-(k+1),by ext,rfl,q⟩,λx H3 y=>?_⟩
  obtain⟨e3,s3,r3⟩:=a2 x H3 y
  rw[Bx lt] at t2
  unfold GJ at t2
  refine⟨th2,mu2,ro2,ds[k],s3,en2.ext e3 s2.out,r3,?_⟩
  refine(t2.ahead e3).bind.mono λro4 th4 mu4 H4 e4 s4 t4 st4 en4=>?_
  refine⟨th4,mu4,ro4,s4,en4,t4.bind.mono λp th5 mu5 H5 e5 s5 t5 st5 en5=>?_⟩
  obtain⟨fl,ro5⟩:=p
  have e15:Ext th1 H1 th5 H5:=((e2.trans e3).trans e4).trans e5
  cases fl with
  |nx =>
   obtain⟨a,mu',q1,q2⟩:=t5
   obtain⟨go5,q1⟩:=GB q1
   exact⟨lt,th5,mu5,ro5,s5,en5,e15,go5,a,mu',q1,q2⟩
  |ct =>
   obtain⟨a,mu',q1,q2⟩:=t5
   obtain⟨go5,q1⟩:=GB q1
   exact⟨lt,th5,mu5,ro5,s5,en5,e15,go5,a,mu',q1,q2⟩
  |bk=>exact t5.ret s5 st5 en5
  |rt d=>exact t5.ret s5 st5 en5
 ·have e:k=ds.length:=by ext
  subst e
  rw[List.drop_length] at t2
  unfold GJ at t2
  exact .inl ⟨ok.stop th2 mu2 H2 e2 s2 g2,t2.ret s2 st2 en2⟩⟩
end
end PV
namespace L2
open PySem PySem.Spec PyProof.Rows
section
variable {X:Cx}{tg iter elt:Expr}{ifs:List Expr}{scope:Scope}{pos:Pos}{wi:TI}{own:List Str}{fv:List (Nat×Str)}{g:TG}{tt:TT}{te:TE}
def IE {C:Addr}{h h':Heap}(sb:Heap.SameBut C h h'):∀b o,b∉[C]->h.get? b=some o->h'.get? b=some o:=λb o hb e=>(sb.2 b (by simpa using hb)).trans e
end
end L2
namespace PV
open PySem L2 PySem.Spec PyProof.Rows
section
variable {X:Cx}{K:Zc}{th:List Addr}{mu:Sto}{H:Hp}
def FO (g:Option Nat)(m0:Sto)(tg:Gx)(tt:Tx)(el:Ex)(ro:Ro):List D->Sto->Rs (List D)
 |[],mu=>some ([],mu)
 |d::ds,mu=>bM (tg d ro mu) λro1 m1=>bM (tt ro1 m1) λb m2 =>
  if b=true then bM (el ro1 m2) λy m3=>EA g m0 m3 (bM (FO g m0 tg tt el ro ds m3) λys m4=>some (y::ys,m4)) else EA g m0 m2 (FO g m0 tg tt el ro ds m2)
def r0 (nc:Nat)(fvs:List Nat)(ro:Ro):Ro:=List.replicate nc none++fvs.map λk=>ro.getD k none
def eLC (i:Ix)(nc:Nat)(fvs:List Nat)(tg:Gx)(tt:Tx)(el:Ex):Ex:=λro mu=>bM (i ro mu) λp m1=>bM (FO p.2 m1 tg tt el (r0 nc fvs ro) p.1 m1) λys m2=>some (.lst ys,m2)
def GOwn (nc:Nat)(tg:Gx):Prop:=∀d ro mu ro' mu',tg d ro mu=some (ro',mu')->ro'.length=ro.length/\∀i,nc<=i->ro'[i]?=ro[i]?
def Py (nc:Nat)(tg:Gxs):Prop:=∀d ro mu ro' mu',tg d ro mu=some (ro',mu')->ro'.length=ro.length/\∀i,nc<=i->ro'[i]?=ro[i]?
def CS {nc i:Nat}(h:i<nc:=by decide):GOwn nc (gNm i):=λd ro mu ro' mu' e=>by
 cases e
 exact⟨by simp,λj hj=>Aw (by ext)⟩
theorem IA {nc:Nat}:Py nc C0:=λds ro mu ro' mu' e=>by
 cases ds with
 |nil=>cases e;exact⟨rfl,λ_ _=>rfl⟩
 |cons d ds=>cases e
theorem EM {nc:Nat}{g:Gx}{gs:Gxs}(h1:GOwn nc g)(h2:Py nc gs):Py nc (Cy g gs):=λds ro mu ro' mu' e=>by
 cases ds with
 |nil=>cases e
 |cons d ds =>
  obtain⟨ro1,m1,e1,e2⟩:=FE e
  obtain⟨a1,a2⟩:=h1 _ _ _ _ _ e1
  obtain⟨b1,b2⟩:=h2 _ _ _ _ _ e2
  exact⟨b1.trans a1,λi hi=>(b2 i hi).trans (a2 i hi)⟩
theorem JF {nc n:Nat}{g:Gxs}(h:Py nc g):GOwn nc (gTp n g):=λd ro mu ro' mu' e=>by
 cases d with
 |tup ds =>
  unfold gTp at e
  dsimp only at e
  by_cases q:ds.length=n
  ·rw[if_pos q] at e;exact h _ _ _ _ _ e
  ·rw[if_neg q] at e;cases e
 |_=>cases e
def Ni {nc:Nat}{fv:List (Nat×Str)}{ro:Ro}{st:L2.St}(en:EnvOk K th H ro st):EnvOk K th H (r0 nc (fv.map (·.1)) ro) (st0 nc fv st):=by
 unfold r0 st0
 refine⟨by simp,λi d e=>?_⟩
 by_cases hi:i<nc
 ·rw[Ap (by simpa using hi),B8] at e
  split at e<;>cases e
 ·rw[A1 (by simpa using hi)] at e ⊢
  simp only[List.length_replicate,A8,Am] at e ⊢
  cases q:fv[i-nc]? with
  |none=>rw[q] at e;cases e
  |some p =>
   rw[q] at e
   have e':ro.getD p.1 none=some d:=by simpa using e
   rw[AQ] at e'
   have e2:ro[p.1]?=some (some d):=by
    cases w:ro[p.1]? with
    |none=>rw[w] at e';cases e'
    |some o=>rw[w] at e';exact congrArg some e'
   obtain⟨v,ev,rv⟩:=en.2 _ _ e2
   exact⟨v,by simp[AQ,ev],rv⟩
def Lq {nc:Nat}{fvs:List Nat}{ro:Ro}{i:Nat}{d:D}(e:(r0 nc fvs ro)[i]?=some (some d)):nc<=i:=by
 rcases B4 i nc with h|h
 ·unfold r0 at e
  rw[Ap (by simpa using h),B8] at e
  split at e<;>cases e
 ·exact h
def tY:Tx:=λ_ mu=>some (true,mu)
structure SVF (X:Cx) (ifs:List Expr) (m:Tx):Prop where
 r:PF X ifs (rdT X.z m)
def DJ:SVF X [] tY:=⟨λpj s st H Q I h=>WC pj s st H Q I (by
 obtain⟨th,mu,ro,so,en,t⟩:=h
 exact t.ret so)⟩
def HF {c:Expr}{m:Tx}(h:SVT X c m):SVF X [c] m:=⟨Xe h.r⟩
def chars (x:Str):List D:=x.cps.toList.map λc=>.str ⟨#[c]⟩
def EC (a:Ex):Ix:=λro mu=>bM (a ro mu) λd m1=>match d with
 |.tup ds=>some ((ds,none),m1)
 |.lst ds=>some ((ds,none),m1)
 |.str x=>some ((chars x,none),m1)
 |.ref k=>match m1[k]? with
  |some (.lst ds)=>some ((ds,some k),m1)
  |_=>none
 |_=>none
def LR {a:Addr}{ds:List D}{g:Option Nat}(hz:ds.length<=sizeLine)(h:∀th' mu' H',Ext th H th' H'->StoOk K th' mu' H'->gOk g mu mu'->∃vs,SqL K.K H' a vs/\RepL K th' H' ds vs):OG K (Itl K.K a) th mu H ds g where
 sz:=hz
 go:=λth' mu' H' e s go i d ed=>by
  obtain⟨vs,h1,h2⟩:=h th' mu' H' e s go
  obtain⟨v,ev,rv⟩:=h2.get ed
  refine⟨⟨vs,v,h1,ev⟩,λx H2 y=>?_⟩
  obtain⟨rfl,y⟩:=y
  have ex:=y vs h1
  rw[ev] at ex
  cases ex
  exact⟨.refl _ _,s,rv⟩
 stop:=λth' mu' H' e s go=>by
  obtain⟨vs,h1,h2⟩:=h th' mu' H' e s go
  exact⟨vs,h1,by rw[h2.len];exact Ae _⟩
def Ti {a:Addr}{ds:List D}{vs:List V}(so:StoOk K th mu H)(hz:ds.length<=sizeLine)(h:SqT K.K H a vs)(r:RepL K th H ds vs):OG K (Itt K.K a) th mu H ds none where
 sz:=hz
 go:=λth' mu' H' e s go i d ed=>by
  have h1:=e.sqT so.out h
  obtain⟨v,ev,rv⟩:=(r.ext e so.out).get ed
  refine⟨⟨vs,v,h1,ev⟩,λx H2 y=>?_⟩
  obtain⟨rfl,y⟩:=y
  have ex:=y vs h1
  rw[ev] at ex
  cases ex
  exact⟨.refl _ _,s,rv⟩
 stop:=λth' mu' H' e s go=>⟨vs,e.sqT so.out h,by rw[r.len];exact Ae _⟩
def NC {x:Str}{c:Nat}(ok:PyData.strOk x=true)(h:c∈x.cps.toList):Rep K th H (.str ⟨#[c]⟩) (.str ⟨#[c]⟩):=by
 unfold Rep
 refine⟨rfl,by show 1<=sizeLine;decide,?_⟩
 unfold PyData.strOk at ok ⊢
 rw[<- Array.all_toList] at ok ⊢
 simpa using AW.mp ok c h
def R6 {x:Str}(hz:x.length<=sizeLine)(ok:PyData.strOk x=true):OG K (Its x) th mu H (chars x) none where
 sz:=by unfold chars;rw[Ak,Array.length_toList];exact hz
 go:=λth' mu' H' e s go i d ed=>by
  unfold chars at ed
  rw[Am] at ed
  cases q:x.cps.toList[i]? with
  |none=>rw[q] at ed;cases ed
  |some c =>
   rw[q] at ed
   have hd:D.str ⟨#[c]⟩=d:=by simpa using ed
   subst hd
   have hlt:=(Ad.mp q).1
   refine⟨by show i<x.cps.size;simpa using hlt,λv H2 y=>?_⟩
   obtain⟨rfl,c',hc',rfl⟩:=y
   have:c'=c:=by
    rw[<- Af,q] at hc'
    exact(AR hc').symm
   subst this
   exact⟨.refl _ _,s,NC ok (Aj q)⟩
 stop:=λth' mu' H' e s go=>by show(chars x).length=x.cps.size;unfold chars;simp
theorem Dm {tg e:Expr}{m:Ex}(h:SV X e m):SVI X tg e (EC m):=⟨by
 intro pj s st H R I q
 obtain⟨th,mu,ro,so,en,t⟩:=q
 obtain⟨p,mu',e1,q1⟩:=id t
 obtain⟨d,m1,e2,e3⟩:=FE e1
 have t':=t.bindE
 cases d with
 |tup ds =>
  refine WL h.r pj s st H R I ⟨th,mu,ro,so,en,t'.mono λd th1 mu1 H1 x1 s1 t1 v rv=>?_⟩
  obtain⟨eq,t1⟩:=t1
  rw[e2] at eq
  cases eq
  unfold Rep at rv
  obtain⟨a,vs,rfl,hs,rl,hz⟩:=rv
  exact⟨a,rfl,⟨vs,hs⟩,t1.ret s1 _ (Ti s1 hz hs rl)⟩
 |lst ds =>
  refine Qd h.r pj s st H R I ⟨th,mu,ro,so,en,t'.mono λd th1 mu1 H1 x1 s1 t1 v rv=>?_⟩
  obtain⟨eq,t1⟩:=t1
  rw[e2] at eq
  cases eq
  unfold Rep at rv
  obtain⟨a,vs,rfl,hs,rl,hz⟩:=rv
  exact⟨a,rfl,⟨vs,hs.sq⟩,t1.ret s1 _ (LR hz λth' mu' H' e s' _=>⟨vs,(e.fz hs).sq,rl.ext e s1.out⟩)⟩
 |str x =>
  refine Yg h.r pj s st H R I ⟨th,mu,ro,so,en,t'.mono λd th1 mu1 H1 x1 s1 t1 v rv=>?_⟩
  obtain⟨eq,t1⟩:=t1
  rw[e2] at eq
  cases eq
  unfold Rep at rv
  obtain⟨rfl,hz,ok⟩:=rv
  exact⟨x,rfl,t1.ret s1 _ (R6 hz ok)⟩
 |ref k =>
  refine Qd h.r pj s st H R I ⟨th,mu,ro,so,en,t'.mono λd th1 mu1 H1 x1 s1 t1 v rv=>?_⟩
  obtain⟨eq,t1⟩:=t1
  rw[e2] at eq
  cases eq
  unfold Rep at rv
  obtain⟨a,rfl,ha⟩:=rv
  dsimp only at t1
  cases em:m1[k]? with
  |none=>rw[em] at t1;exact t1.no.elim
  |some o =>
   cases o with
   |dct _ _=>rw[em] at t1;exact t1.no.elim
   |lst ds =>
    rw[em] at t1
    obtain⟨vs,h1,h2,hz⟩:=s1.at' k a _ ha em
    refine⟨a,rfl,⟨vs,.inl (.inl h1)⟩,t1.ret s1 _ (LR hz λth' mu' H' e s' go=>?_)⟩
    have em':mu'[k]?=some (.lst ds):=by rw[<- em];exact(show m1[k]?=mu'[k]? from go).symm
    obtain⟨vs',h1',h2',_⟩:=s'.at' k a _ (e.at ha) em'
    exact⟨vs',.inl (.inl h1'),h2'⟩
 |non=>cases e3
 |bl b=>cases e3
 |int b=>cases e3
 |dct _ _=>cases e3
 |set _=>cases e3⟩
end
mutual
def toPy:D->PyData
 |.non=>.none
 |.bl b=>.bool b
 |.int i=>.int i
 |.str x=>.str x
 |.tup ds=>.tuple (CJ ds)
 |.lst ds=>.list (CJ ds)
 |.dct _ _=>.none
 |.set _=>.none
 |.ref _=>.none
def CJ:List D->List PyData
 |[]=>[]
 |d::ds=>toPy d::CJ ds
end
mutual
def Dl:D->Bool
 |.tup ds=>EJ ds
 |.lst ds=>EJ ds
 |.dct _ _=>false
 |.set _=>false
 |.ref _=>false
 |_=>true
def EJ:List D->Bool
 |[]=>true
 |d::ds=>Dl d&&EJ ds
end
def seen (mu:Sto):D->D
 |.ref k=>match mu[k]? with
  |some (.lst ds)=>.lst ds
  |_=>.ref k
 |d=>d
def eqB (mu:Sto)(d e:D):Option Bool:=if Dl (seen mu d)&&Dl (seen mu e)&&decide (min (toPy (seen mu d)).depth (toPy (seen mu e)).depth<=60) then some (PyData.eqv (toPy (seen mu d)) (toPy (seen mu e))) else none
def eqD (d e:D)(mu:Sto):Rs D:=(eqB mu d e).map λb=>(.bl b,mu)
def neD (d e:D)(mu:Sto):Rs D:=(eqB mu d e).map λb=>(.bl (!b),mu)
section
variable {X:Cx}{K:Zc}{th:List Addr}{mu:Sto}{H:Hp}
mutual
theorem EO {pj:Zab}{st:L2.St}{s:Shared}(I:L2.Inv X pj st H s):∀(d:D) (v:V) (u:Value),Dl d=true->Rep X.z th H d v->RelV v u->∃as,Reads s.heap u (toPy d) as/\(toPy d).canLay0=true
 |.non,_,_,_,r,q=>by cases (show _=_ from r);cases q;exact⟨_,.none,rfl⟩
 |.bl b,_,_,_,r,q=>by cases (show _=_ from r);cases q;exact⟨_,.bool b,rfl⟩
 |.int i,_,_,_,r,q=>by cases (show _=_ from r);obtain⟨t,rfl⟩:=q;exact⟨_,.int i t,rfl⟩
 |.str x,_,_,_,r,q=>by obtain⟨rfl,hz,ok⟩:=(show _/\_/\_ from r);obtain⟨t,rfl⟩:=q;exact⟨_,.str x t,ok⟩
 |.tup ds,_,_,p,r,q=>by
  unfold Rep at r
  obtain⟨a,vs,rfl,hs,rl,_⟩:=r
  cases q
  obtain⟨its,rv,⟨o,h1,h2,n,h3⟩,_⟩:=I.tuple hs
  unfold Dl at p
  obtain⟨as,h4,h5⟩:=Fj I ds vs its p rl rv
  exact⟨as,by unfold toPy;exact .tuple h1 h2 h3 (by simpa using h4),by unfold toPy PyData.canLay0;exact h5⟩
 |.lst ds,_,_,p,r,q=>by
  unfold Rep at r
  obtain⟨a,vs,rfl,hs,rl,_⟩:=r
  cases q
  obtain⟨its,rv,⟨o,n,h1,h2,_,h3⟩,_⟩:=I.list hs.sq
  unfold Dl at p
  obtain⟨as,h4,h5⟩:=Fj I ds vs its p rl rv
  exact⟨_,by unfold toPy;exact .list h1 h2 h3 (by simpa using h4),by unfold toPy PyData.canLay0;exact h5⟩
 |.dct _ _,_,_,p,_,_=>by cases p
 |.set _,_,_,p,_,_=>by cases p
 |.ref k,_,_,p,_,_=>by cases p
theorem Fj {pj:Zab}{st:L2.St}{s:Shared}(I:L2.Inv X pj st H s):∀(ds:List D) (vs:List V) (us:List Value),EJ ds=true->RepL X.z th H ds vs->Vals vs us->∃as,ReadsAll s.heap us (CJ ds) as/\PyData.canLayAll0 (CJ ds)=true
 |[],_,_,_,r,q=>by cases r.inv0;cases q;exact⟨_,.nil,rfl⟩
 |d::ds,_,_,p,r,q=>by
  obtain⟨v,r',rfl,r1,r2⟩:=r.inv
  unfold EJ at p
  rw[Ai] at p
  cases q with
  |cons q1 q2 =>
   obtain⟨as,a1,a2⟩:=EO I d v _ p.1 r1 q1
   obtain⟨bs,b1,b2⟩:=Fj I ds r' _ p.2 r2 q2
   exact⟨_,.cons a1 b1,by unfold CJ PyData.canLayAll0;rw[a2,b2];rfl⟩
end
theorem FQ {pj:Zab}{st:L2.St}{s:Shared}(I:L2.Inv X pj st H s)(so:StoOk X.z th mu H){d:D}{v:V}{u:Value}(p:Dl (seen mu d)=true)(r:Rep X.z th H d v)(q:RelV v u):∃as,Reads s.heap u (toPy (seen mu d)) as/\(toPy (seen mu d)).canLay0=true:=by
 cases d with
 |ref k =>
  unfold seen at p ⊢
  dsimp only at p ⊢
  cases e:mu[k]? with
  |none=>rw[e] at p;cases p
  |some o =>
   cases o with
   |dct _ _=>rw[e] at p;cases p
   |lst ds =>
    rw[e] at p
    dsimp only at p ⊢
    unfold Rep at r
    obtain⟨a,rfl,ha⟩:=r
    obtain⟨vs,h1,rl,hz⟩:=so.at' k a _ ha e
    cases q
    obtain⟨its,rv,⟨o,n,h2,h3,_,h4⟩,_⟩:=I.list (.inl (.inl h1))
    unfold Dl at p
    obtain⟨as,h5,h6⟩:=Fj I ds vs its p rl rv
    exact⟨_,by unfold toPy;exact .list h2 h3 h4 (by simpa using h5),by unfold toPy PyData.canLay0;exact h6⟩
 |_=>exact EO I _ v u p r q
def E4 (hu:X.A.units+64<cLine):OpV X (compareOp .Eq) eqD:=by
 intro pj s st H x y v u Q I rx ry h
 obtain⟨th,mu,d,e,so,r1,r2,t⟩:=h
 unfold eqD eqB at t
 by_cases hc:(Dl (seen mu d)&&Dl (seen mu e)&&decide (min (toPy (seen mu d)).depth (toPy (seen mu e)).depth<=60))=true
 ·rw[if_pos hc] at t
  rw[Ai,Ai,AA] at hc
  obtain⟨as,a1,a2⟩:=FQ I so hc.1.1 r1 rx
  obtain⟨bs,b1,b2⟩:=FQ I so hc.1.2 r2 ry
  exact SeqAt.rcAt_reads a1 b1 a2 b2 (by ext) _ _ _ _ ⟨.bl _,H,I,rfl,t.ret so _ rfl⟩
 ·rw[if_neg hc] at t
  exact t.no.elim
def M5 (hu:X.A.units+64<cLine):OpV X (compareOp .NotEq) neD:=by
 intro pj s st H x y v u Q I rx ry h
 obtain⟨th,mu,d,e,so,r1,r2,t⟩:=h
 unfold neD eqB at t
 by_cases hc:(Dl (seen mu d)&&Dl (seen mu e)&&decide (min (toPy (seen mu d)).depth (toPy (seen mu e)).depth<=60))=true
 ·rw[if_pos hc] at t
  rw[Ai,Ai,AA] at hc
  obtain⟨as,a1,a2⟩:=FQ I so hc.1.1 r1 rx
  obtain⟨bs,b1,b2⟩:=FQ I so hc.1.2 r2 ry
  exact SeqAt.rcNeAt_reads a1 b1 a2 b2 (by ext) _ _ _ _ ⟨.bl _,H,I,rfl,t.ret so _ rfl⟩
 ·rw[if_neg hc] at t
  exact t.no.elim
def inB (mu:Sto)(d c:D):Option Bool:=match d,seen mu c with
 |.str x,.str y=>some (!(Builtin.Str.occurrences y x 0 y.length 1).isEmpty)
 |d,.tup ds=>if Dl d&&EJ ds&&decide (min (PyData.depthAll (CJ ds)) (toPy d).depth<=60) then some ((CJ ds).any λy=>PyData.eqv y (toPy d)) else none
 |d,.lst ds=>if Dl d&&EJ ds&&decide (min (PyData.depthAll (CJ ds)) (toPy d).depth<=60) then some ((CJ ds).any λy=>PyData.eqv y (toPy d)) else none
 |_,_=>none
def inD (d c:D)(mu:Sto):Rs D:=(inB mu d c).map λb=>(.bl b,mu)
def R1 (d c:D)(mu:Sto):Rs D:=(inB mu d c).map λb=>(.bl (!b),mu)
theorem NU {d c:D}{b:Bool}(h:inB mu d c=some b):(∃x y,d=.str x/\c=.str y/\b = !(Builtin.Str.occurrences y x 0 y.length 1).isEmpty) \/
  ∃ds,(seen mu c=.tup ds\/seen mu c=.lst ds)/\Dl d=true/\EJ ds=true/\min (PyData.depthAll (CJ ds)) (toPy d).depth<=60/\b=(CJ ds).any λy=>PyData.eqv y (toPy d):=by
 have fin:∀ds,(if Dl d&&EJ ds&&decide (min (PyData.depthAll (CJ ds)) (toPy d).depth<=60) then some ((CJ ds).any λy=>PyData.eqv y (toPy d)) else none)=some b->Dl d=true/\EJ ds=true/\min (PyData.depthAll (CJ ds)) (toPy d).depth<=60/\b=(CJ ds).any λy=>PyData.eqv y (toPy d):=λds e=>by
  by_cases hc:(Dl d&&EJ ds&&decide (min (PyData.depthAll (CJ ds)) (toPy d).depth<=60))=true
  ·rw[if_pos hc] at e
   rw[Ai,Ai,AA] at hc
   exact⟨hc.1.1,hc.1.2,hc.2,(AR e).symm⟩
  ·rw[if_neg hc] at e;cases e
 unfold inB at h
 cases hs:seen mu c with
 |tup ds=>rw[hs] at h;cases d<;>exact .inr ⟨ds,.inl rfl,fin ds h⟩
 |lst ds=>rw[hs] at h;cases d<;>exact .inr ⟨ds,.inr rfl,fin ds h⟩
 |str y =>
  rw[hs] at h
  cases d with
  |str x =>
   have:c=.str y:=by
    cases c with
    |ref k =>
     unfold seen at hs
     dsimp only at hs
     cases e:mu[k]? with
     |none=>rw[e] at hs;cases hs
     |some o=>cases o<;>(rw[e] at hs;cases hs)
    |_=>exact hs
   exact .inl ⟨x,y,rfl,this,(AR h).symm⟩
  |_=>cases h
 |non=>rw[hs] at h;cases d<;>cases h
 |bl _=>rw[hs] at h;cases d<;>cases h
 |int _=>rw[hs] at h;cases d<;>cases h
 |dct _ _=>rw[hs] at h;cases d<;>cases h
 |set _=>rw[hs] at h;cases d<;>cases h
 |ref _=>rw[hs] at h;cases d<;>cases h
theorem XO (hu:X.A.units+64<cLine):OpV X (compareOp .In) inD:=by
 intro pj s st H x y v u Q I rx ry h
 obtain⟨th,mu,d,c,so,r1,r2,t⟩:=h
 unfold inD at t
 cases e:inB mu d c with
 |none=>rw[e] at t;exact t.no.elim
 |some b =>
  rw[e] at t
  have q:Q (.bl b) H:=t.ret so _ rfl
  rcases NU e with⟨x',y',rfl,rfl,hb⟩|⟨ds,hs,p1,p2,p3,hb⟩
  ·obtain⟨rfl,_⟩:=(show _/\_ from r1)
   obtain⟨rfl,_⟩:=(show _/\_ from r2)
   exact QG pj s st H _ _ v u Q I rx ry ⟨x',y',rfl,rfl,by rw[<- hb];exact q⟩
  ·obtain⟨as,a1,a2⟩:=EO I d x v p1 r1 rx
   have pc:Dl (seen mu c)=true:=by rcases hs with e|e<;>(rw[e];unfold Dl;exact p2)
   obtain⟨bs,b1,b2⟩:=FQ I so pc r2 ry
   rw[hb] at q
   rcases hs with e|e
   ·rw[e] at b1 b2
    unfold toPy at b1 b2
    exact SeqAt.in_tuple_reads b1 a1 b2 a2 (by ext) ⟨.bl _,H,I,rfl,q⟩
   ·rw[e] at b1 b2
    unfold toPy at b1 b2
    exact SeqAt.in_list_reads b1 a1 b2 a2 (by ext) ⟨.bl _,H,I,rfl,q⟩
theorem Vd (hu:X.A.units+64<cLine):OpV X (compareOp .NotIn) R1:=by
 intro pj s st H x y v u Q I rx ry h
 obtain⟨th,mu,d,c,so,r1,r2,t⟩:=h
 unfold R1 at t
 cases e:inB mu d c with
 |none=>rw[e] at t;exact t.no.elim
 |some b =>
  rw[e] at t
  have q:Q (.bl (!b)) H:=t.ret so _ rfl
  rcases NU e with⟨x',y',rfl,rfl,hb⟩|⟨ds,hs,p1,p2,p3,hb⟩
  ·obtain⟨rfl,_⟩:=(show _/\_ from r1)
   obtain⟨rfl,_⟩:=(show _/\_ from r2)
   exact Mn pj s st H _ _ v u Q I rx ry ⟨x',y',rfl,rfl,by rw[<- hb];exact q⟩
  ·obtain⟨as,a1,a2⟩:=EO I d x v p1 r1 rx
   have pc:Dl (seen mu c)=true:=by rcases hs with e|e<;>(rw[e];unfold Dl;exact p2)
   obtain⟨bs,b1,b2⟩:=FQ I so pc r2 ry
   rw[hb] at q
   rcases hs with e|e
   ·rw[e] at b1 b2
    unfold toPy at b1 b2
    exact SeqAt.notIn_tuple_reads b1 a1 b2 a2 (by ext) ⟨.bl _,H,I,rfl,q⟩
   ·rw[e] at b1 b2
    unfold toPy at b1 b2
    exact SeqAt.notIn_list_reads b1 a1 b2 a2 (by ext) ⟨.bl _,H,I,rfl,q⟩
end
section
variable {X:Cx}{K:Zc}{th:List Addr}{mu:Sto}{H:Hp}
def TQ (d e:D)(mu:Sto):Rs D:=match d,e with
 |.int i,.int j=>some (.int (i-j),mu)
 |_,_=>none
theorem PJ:OpV X (binaryOp .Sub) TQ:=by
 intro pj s st H x y v u Q I rx ry h
 obtain⟨th,mu,d,e,so,r1,r2,t⟩:=h
 cases d with
 |int i =>
  cases e with
  |int j=>exact XX pj s st H x y v u Q I rx ry ⟨i,j,r1,r2,t.ret so _ rfl⟩
  |_=>exact t.no.elim
 |_=>exact t.no.elim
instance (i j:Int):Decidable (CMul i j):=by unfold CMul;infer_instance
instance (i j:Int):Decidable (MU i j):=by unfold MU;infer_instance
instance (i j:Int):Decidable (QB i j):=by unfold QB;infer_instance
def QA {x y:Str}(hx:PyData.strOk x=true)(hy:PyData.strOk y=true):PyData.strOk (x++y)=true:=by
 unfold PyData.strOk at *
 show(Array.all (x.cps++y.cps) _)=true
 rw[<- Array.all_toList] at *
 rw[AY,List.all_append,hx,hy]
 rfl
def len_app (x y:Str):(x++y).length=x.length+y.length:=by
 show(x.cps++y.cps).size=_
 rw[Array.size_append]
 rfl
def Jn (d e:D)(mu:Sto):Rs D:=match d,e with
 |.int i,.int j=>if 0<j then some (.int (i % j),mu) else none
 |_,_=>none
theorem Hv:OpV X (binaryOp .Mod) Jn:=by
 intro pj s st H x y v u Q I rx ry h
 obtain⟨th,mu,d,e,so,r1,r2,t⟩:=h
 cases d with
 |int i =>
  cases e with
  |int j =>
   unfold Jn at t;dsimp only at t
   by_cases c:0<j
   ·rw[if_pos c] at t;exact XG pj s st H x y v u Q I rx ry ⟨i,j,r1,r2,c,t.ret so _ rfl⟩
   ·rw[if_neg c] at t;exact t.no.elim
  |_=>exact t.no.elim
 |_=>exact t.no.elim
def Ln (d e:D)(mu:Sto):Rs D:=match d,e with
 |.int i,.int j=>if MU i j then some (.int (i / j),mu) else none
 |_,_=>none
theorem KZ:OpV X (binaryOp .FloorDiv) Ln:=by
 intro pj s st H x y v u Q I rx ry h
 obtain⟨th,mu,d,e,so,r1,r2,t⟩:=h
 cases d with
 |int i =>
  cases e with
  |int j =>
   unfold Ln at t;dsimp only at t
   by_cases c:MU i j
   ·rw[if_pos c] at t;exact VX pj s st H x y v u Q I rx ry ⟨i,j,r1,r2,c,t.ret so _ rfl⟩
   ·rw[if_neg c] at t;exact t.no.elim
  |_=>exact t.no.elim
 |_=>exact t.no.elim
def Sv (d e:D)(mu:Sto):Rs D:=match d,e with
 |.int i,.int j=>if QB i j then some (.int (i ^ j.toNat),mu) else none
 |_,_=>none
theorem Vg:OpV X (binaryOp .Pow) Sv:=by
 intro pj s st H x y v u Q I rx ry h
 obtain⟨th,mu,d,e,so,r1,r2,t⟩:=h
 cases d with
 |int i =>
  cases e with
  |int j =>
   unfold Sv at t;dsimp only at t
   by_cases c:QB i j
   ·rw[if_pos c] at t;exact YI pj s st H x y v u Q I rx ry ⟨i,j,r1,r2,c,t.ret so _ rfl⟩
   ·rw[if_neg c] at t;exact t.no.elim
  |_=>exact t.no.elim
 |_=>exact t.no.elim
instance (z:Str) (n:Int):Decidable (MulOk z n):=by unfold MulOk;infer_instance
def G3 (d e:D)(mu:Sto):Rs D:=match d,e with
 |.int i,.int j=>if CMul i j then some (.int (i*j),mu) else none
 |.str z,.int n=>if MulOk z n/\(Txt.mul z n).length<=sizeLine/\PyData.strOk (Txt.mul z n)=true then some (.str (Txt.mul z n),mu) else none
 |_,_=>none
theorem F7:OpV X (binaryOp .Mult) G3:=by
 intro pj s st H x y v u Q I rx ry h
 obtain⟨th,mu,d,e,so,r1,r2,t⟩:=h
 cases d with
 |int i =>
  cases e with
  |int j =>
   unfold G3 at t;dsimp only at t
   by_cases c:CMul i j
   ·rw[if_pos c] at t;exact YL pj s st H x y v u Q I rx ry ⟨i,j,r1,r2,c,t.ret so _ rfl⟩
   ·rw[if_neg c] at t;exact t.no.elim
  |_=>exact t.no.elim
 |str z =>
  cases e with
  |int j =>
   unfold G3 at t;dsimp only at t
   by_cases c:MulOk z j/\(Txt.mul z j).length<=sizeLine/\PyData.strOk (Txt.mul z j)=true
   ·rw[if_pos c] at t;exact Oy pj s st H x y v u Q I rx ry ⟨z,j,r1.1,r2,c.1,t.ret so _ ⟨rfl,c.2⟩⟩
   ·rw[if_neg c] at t;exact t.no.elim
  |_=>exact t.no.elim
 |_=>exact t.no.elim
def RU {a b:Addr}{ys:List V}{pj:Zab}{st:L2.St}{s:Shared}{Q:VK}(I:L2.Inv X pj st H s)(ha:SqT X.K H a [])(hb:SqT X.K H b ys)(q:Q (.ref b) H):wpAny (model X.prog X.w) X.A (binaryOp .Add (.ref a) (.ref b)) (EP X pj st Q) X.xe s:=by
 obtain⟨its,r1,p1,_⟩:=I.tuple ha
 obtain⟨its2,r2,p2,_⟩:=I.tuple hb
 have e:its=[]:=by cases r1;rfl
 subst e
 obtain⟨⟨cls,dd,data,sl⟩,ho,hc,n,hd⟩:=id p1
 obtain⟨⟨cls2,dd2,data2,sl2⟩,ho2,hc2,n2,hd2⟩:=id p2
 simp only at hc hd hc2 hd2
 subst hc hd hc2 hd2
 exact concat_meets ⟨_,ho,rfl⟩ ⟨_,ho2,rfl⟩ noFill_tuple_add seq_tuple_add F.slot_tuple_add F.entry_tuple_add (F.args_tuple_add_2 _ _)
   (tuple_addW0 a b _ its2.toArray n n2 dd dd2 sl sl2 (by simp)) ⟨ho,ho2,⟨.ref b,H,I,rfl,q⟩⟩
def Uh {a b:Addr}{xs ys:List V}{pj:Zab}{st:L2.St}{s:Shared}{Q:VK}(I:L2.Inv X pj st H s)(ha:SqL X.K H a xs)(hb:SqL X.K H b ys)(hz:xs.length+ys.length<=sizeLine)(q:∀p,H p=none->Q (.ref p) (upd H p (.lst (xs++ys)))):wpAny (model X.prog X.w) X.A (binaryOp .Add (.ref a) (.ref b)) (EP X pj st Q) X.xe s:=by
 obtain⟨its,r1,⟨o1,n1,p1,c1,d1,e1⟩,_⟩:=I.list ha
 obtain⟨its2,r2,⟨o2,n2,p2,c2,d2,e2⟩,_⟩:=I.list hb
 obtain⟨cls,dd,data,sl⟩:=o1
 obtain⟨cls2,dd2,data2,sl2⟩:=o2
 simp only at c1 d1 e1 c2 d2 e2
 subst c1 d1 e1 c2 d2 e2
 refine concat_meets ⟨_,p1,rfl⟩ ⟨_,p2,rfl⟩ noFill_list_add seq_list_add F.slot_list_add F.entry_list_add (F.args_list_add_2 _ _)
   (list_addW a b _ its2.toArray n1 n2 _ _ sl sl2 (by rw[Ar,Ar,<- r1.length,<- r2.length];exact hz)) ⟨p1,p2,?_⟩
 refine⟨.ref s.heap.objs.size,_,I.laid (t':=s.toks) (o:=.lst (xs++ys)) (λb ob q=>Ac _ q) (Ae _) ?_,rfl,q _ (I.hok.fresh (Ae _))⟩
 exact⟨by rw[As];exact hz,its++its2,0,r1.append r2,by simpa using Ag _ rfl⟩
def DW (mu:Sto):D->Option (List D)
 |.lst ds=>some ds
 |.ref k=>match mu[k]? with
  |some (.lst ds)=>some ds
  |_=>none
 |_=>none
theorem Fp (so:StoOk K th mu H){d:D}{ds:List D}{v:V}(h:DW mu d=some ds)(r:Rep K th H d v):∃a vs,v=.ref a/\SqL K.K H a vs/\RepL K th H ds vs/\ds.length<=sizeLine:=by
 cases d with
 |lst es=>cases h;unfold Rep at r;obtain⟨a,vs,rfl,h1,h2,h3⟩:=r;exact⟨a,vs,rfl,h1.sq,h2,h3⟩
 |ref k =>
  unfold DW at h
  dsimp only at h
  cases e:mu[k]? with
  |none=>rw[e] at h;cases h
  |some o =>
   cases o with
   |dct _ _=>rw[e] at h;cases h
   |lst es =>
    rw[e] at h
    cases h
    unfold Rep at r
    obtain⟨a,rfl,ha⟩:=r
    obtain⟨vs,h1,h2,h3⟩:=so.at' k a _ ha e
    exact⟨a,vs,rfl,.inl (.inl h1),h2,h3⟩
 |_=>cases h
def DR (d e:D)(mu:Sto):Rs D:=match d,e with
 |.int i,.int j=>some (.int (i+j),mu)
 |.str x,.str y=>if x.length+y.length<=sizeLine then some (.str (x++y),mu) else none
 |.tup xs,.tup ys=>if xs.length+ys.length<=sizeLine then some (.tup (xs++ys),mu) else none
 |d,e=>match DW mu d,DW mu e with
  |some xs,some ys=>if xs.length+ys.length<=sizeLine then some (.lst (xs++ys),mu) else none
  |_,_=>none
theorem DB:OpV X (binaryOp .Add) DR:=by
 intro pj s st H x y v u Q I rx ry h
 obtain⟨th,mu,d,e,so,r1,r2,t⟩:=h
 have lists:∀(t:Tr X.z th H (match DW mu d,DW mu e with
  |some xs,some ys=>if xs.length+ys.length<=sizeLine then some (D.lst (xs++ys),mu) else none
  |_,_=>none) (KV' X.z Q)),wpAny (model X.prog X.w) X.A (binaryOp .Add v u) (EP X pj st Q) X.xe s:=λt=>by
  cases e1:DW mu d with
  |none=>rw[e1] at t;exact t.no.elim
  |some xs =>
   cases e2:DW mu e with
   |none=>rw[e1,e2] at t;exact t.no.elim
   |some ys =>
    rw[e1,e2] at t
    dsimp only at t
    by_cases c:xs.length+ys.length<=sizeLine
    ·rw[if_pos c] at t
     obtain⟨a,vs,rfl,h1,h2,h3⟩:=Fp so e1 r1
     obtain⟨b,us,rfl,k1,k2,k3⟩:=Fp so e2 r2
     cases rx
     cases ry
     refine Uh I h1 k1 (by rw[h2.len,k2.len];exact c) λp hp=>t.retX (.new hp _) (so.new hp _) _ (Rep.newLst so hp (h2.app k2) (by rw[As];exact c))
    ·rw[if_neg c] at t;exact t.no.elim
 cases d with
 |int i =>
  cases e with
  |int j=>exact YT pj s st H x y v u Q I rx ry ⟨i,j,r1,r2,t.ret so _ rfl⟩
  |_=>exact lists t
 |str i =>
  cases e with
  |str j =>
   unfold DR at t;dsimp only at t
   by_cases c:i.length+j.length<=sizeLine
   ·rw[if_pos c] at t
    exact OC pj s st H x y v u Q I rx ry ⟨i,j,r1.1,r2.1,c,t.ret so _ ⟨rfl,by rw[len_app];exact c,QA r1.2.2 r2.2.2⟩⟩
   ·rw[if_neg c] at t;exact t.no.elim
  |_=>exact lists t
 |tup xs =>
  cases e with
  |tup ys =>
   unfold DR at t;dsimp only at t
   by_cases c:xs.length+ys.length<=sizeLine
   ·rw[if_pos c] at t
    unfold Rep at r1 r2
    obtain⟨a,vs,rfl,h1,h2,h3⟩:=r1
    obtain⟨b,us,rfl,k1,k2,k3⟩:=r2
    cases rx
    cases ry
    cases xs with
    |nil =>
     cases h2.inv0
     exact RU I h1 k1 (t.ret so _ (by unfold Rep;exact⟨b,us,rfl,k1,k2,k3⟩))
    |cons x0 xs0 =>
     obtain⟨v0,vr,rfl,_,_⟩:=h2.inv
     refine VM pj s st H (.ref a) (.ref b) _ _ Q I rfl rfl ⟨a,b,v0::vr,us,rfl,rfl,h1,k1,by simp,by rw[h2.len,k2.len];exact c,λhu=>?_,λ_ p hp=>t.retX (.new hp _) (so.new hp _) _ (Rep.newTup so hp (h2.app k2) (by rw[As];exact c))⟩
     subst hu
     have:ys=[]:=List.length_eq_zero_iff.mp (by rw[<- k2.len];rfl)
     subst this
     rw[List.append_nil] at t
     exact t.ret so _ (by unfold Rep;exact⟨a,_,rfl,h1,h2,h3⟩)
   ·rw[if_neg c] at t;exact t.no.elim
  |_=>exact lists t
 |_=>exact lists t
def RJ (f:Int->Int->Bool)(g:Str->Str->Bool)(d e:D)(mu:Sto):Rs D:=match d,e with
 |.int i,.int j=>some (.bl (f i j),mu)
 |.str i,.str j=>some (.bl (g i j),mu)
 |_,_=>none
def leD:=RJ (λi j=>decide (i<=j)) λi j=>!decide (j.cps.toList<i.cps.toList)
def gtD:=RJ (λi j=>decide (j<i)) λi j=>decide (j.cps.toList<i.cps.toList)
def geD:=RJ (λi j=>decide (j<=i)) λi j=>!decide (i.cps.toList<j.cps.toList)
theorem Qk {op:CmpOp}{f:Int->Int->Bool}{g:Str->Str->Bool}(h1:OpR X (compareOp op) (rI0 λi j=>.bl (f i j)))
  (h2:∀(i j:Str) (t t':Tok) (s:Shared) (Q:Value->Zaa),Q (.bool (g i j)) s->wpAny (model X.prog X.w) X.A (compareOp op (.str i t) (.str j t')) Q X.xe s):OpV X (compareOp op) (RJ f g):=by
 intro pj s st H x y v u Q I rx ry h
 obtain⟨th,mu,d,e,so,r1,r2,t⟩:=h
 cases d with
 |int i =>
  cases e with
  |int j=>exact h1 pj s st H x y v u Q I rx ry ⟨i,j,r1,r2,t.ret so _ rfl⟩
  |_=>exact t.no.elim
 |str i =>
  cases e with
  |str j =>
   obtain⟨rfl,_⟩:=(show _/\_ from r1)
   obtain⟨rfl,_⟩:=(show _/\_ from r2)
   obtain⟨t1,rfl⟩:=rx
   obtain⟨t2,rfl⟩:=ry
   exact h2 i j t1 t2 s _ ⟨.bl _,H,I,rfl,t.ret so _ rfl⟩
  |_=>exact t.no.elim
 |_=>exact t.no.elim
def Pu:OpV X (compareOp .Gt) gtD:=Qk AaM λi j t t' s Q h=>PySem.P.gt_str h
def WJ:OpV X (compareOp .GtE) geD:=Qk Z6 λi j t t' s Q h=>PySem.P.ge_str h
def isB:D->D->Option Bool
 |.non,.non=>some true
 |.bl a,.bl b=>some (a==b)
 |.non,.bl _=>none
 |.ref _,.non=>some false
 |.tup _,.non=>some false
 |.lst _,.non=>some false
 |.str _,.non=>some false
 |.int _,.non=>some false
 |.bl _,.non=>some false
 |.dct _ _,.non=>some false
 |.set _,.non=>some false
 |_,_=>none
def isD (d e:D)(mu:Sto):Rs D:=(isB d e).map λb=>(.bl b,mu)
def Aa4 (d e:D)(mu:Sto):Rs D:=(isB d e).map λb=>(.bl (!b),mu)
theorem Ys:OpV X (compareOp .Is) isD:=by
 intro pj s st H x y v u Q I rx ry h
 obtain⟨th,mu,d,e,so,r1,r2,t⟩:=h
 cases e with
 |non =>
  have go:∀b,isB d .non=some b->(b=decide (x=.non))->wpAny (model X.prog X.w) X.A (compareOp .Is v u) (EP X pj st Q) X.xe s:=λb eb ex=>by
   unfold isD at t
   rw[eb] at t
   have q:Q (.bl b) H:=t.ret so _ rfl
   exact XI pj s st H x y v u Q I rx ry ⟨r2,by rw[<- ex];exact q⟩
  cases d with
  |non=>exact go _ rfl (by rw[show x=_ from r1];rfl)
  |bl b=>exact go _ rfl (by rw[show x=_ from r1];rfl)
  |int b=>exact go _ rfl (by rw[show x=_ from r1];rfl)
  |str b=>exact go _ rfl (by rw[r1.1];rfl)
  |tup b=>exact go _ rfl (by unfold Rep at r1;obtain⟨a,vs,rfl,_⟩:=r1;rfl)
  |lst b=>exact go _ rfl (by unfold Rep at r1;obtain⟨a,vs,rfl,_⟩:=r1;rfl)
  |dct _ _=>exact go _ rfl (by unfold Rep at r1;obtain⟨a,xs,rfl,_⟩:=r1;rfl)
  |set _=>exact go _ rfl (by unfold Rep at r1;obtain⟨a,us,vs,rfl,_⟩:=r1;rfl)
  |ref b=>exact go _ rfl (by unfold Rep at r1;obtain⟨a,rfl,_⟩:=r1;rfl)
 |bl b =>
  cases d with
  |bl a=>exact RR pj s st H x y v u Q I rx ry ⟨a,b,r1,r2,t.ret so _ rfl⟩
  |_=>exact t.no.elim
 |_=>cases d<;>exact t.no.elim
def X6 (g g':D->D->Sto->Rs D)(a b c:Ex):Ex:=λro mu=>bM (a ro mu) λx m1=>bM (b ro m1) λy m2=>bM (g x y m2) λz m3=>match asB z with
 |none=>none
 |some k=>if k=true then bM (c ro m3) λw' m4=>g' y w' m4 else some (.bl false,m3)
def ixD (d e:D)(mu:Sto):Rs D:=match e with
 |.int i=>match d with
  |.tup ds=>(atI ds i).map λx=>(x,mu)
  |.str z=>(atI z.cps.toList i).map λc=>(.str ⟨#[c]⟩,mu)
  |d=>match DW mu d with
   |some ds=>(atI ds i).map λx=>(x,mu)
   |none=>none
 |_=>none
theorem Qo {ds:List D}{vs:List V}{i:Int}{d:D}(r:RepL K th H ds vs)(h:atI ds i=some d):∃v,atI vs i=some v/\Rep K th H d v:=by
 unfold atI at h ⊢
 rw[r.len]
 cases e:ixN ds.length i with
 |none=>rw[e] at h;cases h
 |some j =>
  rw[e] at h
  obtain⟨v,e1,e2⟩:=r.get (show ds[j]?=some d from h)
  exact⟨v,e1,e2⟩
def Vc {α:Type}{xs:List α}{i:Int}{v:α}(h:atI xs i=some v):v∈xs:=by
 obtain⟨j,_,e,_⟩:=Ku h
 exact Aj e
theorem AaW:IxR X (r2 X.z ixD):=by
 intro value slice pj s st H x y v u Q I rx ry h hsub
 obtain⟨th,mu,d,e,so,r1,r2,t⟩:=h
 cases e with
 |int i =>
  have lists:∀(t:Tr X.z th H (match DW mu d with
   |some ds=>(atI ds i).map λx=>(x,mu)
   |none=>none) (KV' X.z Q)),Xt X.K x y H Q:=λt=>by
   cases e1:DW mu d with
   |none=>rw[e1] at t;exact t.no.elim
   |some ds =>
    rw[e1] at t
    dsimp only at t
    cases e2:atI ds i with
    |none=>rw[e2] at t;exact t.no.elim
    |some x' =>
     rw[e2] at t
     obtain⟨a,vs,rfl,h1,h2,h3⟩:=Fp so e1 r1
     obtain⟨v',w1,w2⟩:=Qo h2 e2
     exact⟨a,vs,i,v',rfl,r2,h1,w1,t.ret so _ w2⟩
  refine X2 value slice pj s st H x y v u Q I rx ry ?_ hsub
  cases d with
  |tup ds =>
   unfold ixD at t;dsimp only at t
   cases e2:atI ds i with
   |none=>rw[e2] at t;exact t.no.elim
   |some x' =>
    rw[e2] at t
    unfold Rep at r1
    obtain⟨a,vs,rfl,h1,h2,h3⟩:=r1
    obtain⟨v',w1,w2⟩:=Qo h2 e2
    exact .inr (.inl ⟨a,vs,i,v',rfl,r2,h1,w1,t.ret so _ w2⟩)
  |str z =>
   unfold ixD at t;dsimp only at t
   cases e2:atI z.cps.toList i with
   |none=>rw[e2] at t;exact t.no.elim
   |some c =>
    rw[e2] at t
    exact .inr (.inr ⟨z,i,c,r1.1,r2,r1.2.1,e2,t.ret so _ (NC r1.2.2 (Vc e2))⟩)
  |_=>exact .inl (lists t)
 |_=>exact t.no.elim
abbrev Px:=Ro->Sto->Rs (Option Int)
def pNo:Px:=λ_ mu=>some (none,mu)
def GF (a:Ex):Px:=λro mu=>bM (a ro mu) λd m1=>match d with
 |.int i=>some (some i,m1)
 |_=>none
def rdP (K:Zc)(m:Px):TO:=λst H Q=>∃th mu ro,StoOk K th mu H/\EnvOk K th H ro st/\Tr K th H (m ro mu) λo _ _ H'=>Q o H'
structure SVP (X:Cx) (e:Option Expr) (m:Px):Prop where
 r:PO X e (rdP X.z m)
def PO.weak {e:Option Expr}{t t':TO}(h:PO X e t)(f:∀st H Q,t' st H Q->t st H Q):PO X e t':=λpj s st H Q I q=>h pj s st H Q I (f st H Q q)
def Fx:SVP X none pNo:=⟨PO.weak VA λst H Q h=>by
 obtain⟨th,mu,ro,so,en,t⟩:=h
 exact t.ret so⟩
theorem FA {e:Expr}{m:Ex}(h:SV X e m):SVP X (some e) (GF m):=⟨PO.weak (VI h.r) λst H Q h=>by
 obtain⟨th,mu,ro,so,en,t⟩:=h
 refine⟨th,mu,ro,so,en,t.bind.mono λd th1 mu1 H1 e1 s1 t1 v rv=>?_⟩
 cases d with
 |int i=>exact⟨i,rv,t1.ret s1⟩
 |_=>exact t1.no.elim⟩
def cutD {α:Type}(xs:List α)(lo hi:Option Int):List α:=(xs.drop (HT.sIx xs.length 0 lo)).take (HT.sIx xs.length xs.length hi-HT.sIx xs.length 0 lo)
def Qh {ds:List D}{vs:List V}(r:RepL K th H ds vs)(lo hi:Option Int):RepL K th H (cutD ds lo hi) (N9 vs lo hi):=by
 unfold cutD N9
 rw[r.len]
 exact(r.drop _).take _
def N4 {α:Type}(xs:List α)(lo hi:Option Int):(cutD xs lo hi).length<=xs.length:=by
 unfold cutD
 rw[AU,Cj]
 ext
def slD (d:D)(lo hi:Option Int)(mu:Sto):Rs D:=match d with
 |.tup ds=>some (.tup (cutD ds lo hi),mu)
 |.str z=>if PyData.strOk (Txt.slice z lo hi)=true then some (.str (Txt.slice z lo hi),mu) else none
 |d=>match DW mu d with
  |some ds=>some (.lst (cutD ds lo hi),mu)
  |none=>none
def r3 (K:Zc)(op:D->Option Int->Option Int->Sto->Rs D):V->Option Int->Option Int->Hp->VK->Prop:=λx lo hi H Q=>∃th mu d,StoOk K th mu H/\Rep K th H d x/\Tr K th H (op d lo hi mu) (KV' K Q)
def eSl (a:Ex)(p q:Px):Ex:=λro mu=>bM (a ro mu) λd m1=>bM (p ro m1) λlo m2=>bM (q ro m2) λhi m3=>slD d lo hi m3
def IG {prog:Program}{w:World}{A:Around}{E:Value->Zaa}{s:Shared}{t sl:Addr}{items:Array Value}{vl vu:Value}{lo hi:Option Int}{Q:Value->Zaa}(ht:IsTup s.heap t items)(hs:s.heap.IsSliceOf sl vl vu .none)(pl:IsPart vl lo)(pu:IsPart vu hi)
  (h1:HT.sIx items.size 0 lo=0) (h2:HT.sIx items.size items.size hi=items.size) (h:Q (.ref t) s):wpAny (model prog w) A (getItem (.ref t) (.ref sl)) Q E s:=by
 obtain⟨os,hos,hcs,hds⟩:=id hs
 have hTs:s.TypeIs (.ref sl) "slice":=⟨os,hos,hcs⟩
 unfold getItem
 try with_reducible refine AG ?_
 first|refine Aa (Ab ?_)|skip
 refine Aa (wpAny_sequenceKey ht.typeIs (by decide) ?_)
 refine Aa (AM (name:=Str.ofString "__getitem__") ht.typeIs A4
  (AE A4 ht.typeIs entry_tuple_getitem ?_ (args_tuple_getitem _ _)))
 show wpAny _ _ (Builtin.Tuple.tupleItemsOf (.ref t)>>=_) _ _ s
 refine Aa (tupleItemsOf_ ht ?_)
 refine Aa (By hTs ?_)
 rw[if_pos (by decide)]
 refine Aa (HT.Hi hs pl pu ?_)
 rw[h1,h2]
 dsimp only
 rw[if_pos (by simp)]
 unfold Builtin.Tuple.tupleIsExact
 refine Aa (Aa (By ht.typeIs (Ab ?_)))
 rw[if_pos (by decide)]
 exact Aa (A7 (Ab ⟨_,rfl,Ab h⟩))
theorem AbC:SlR X (r3 X.z slD):=by
 intro pj s st H x v vl vu lo hi sl Q I rx hs pl pu h
 obtain⟨th,mu,d,so,r,t⟩:=h
 have lists:∀(t:Tr X.z th H (match DW mu d with
   |some ds=>some (D.lst (cutD ds lo hi),mu)
   |none=>none) (KV' X.z Q)),Zg X.K x lo hi H Q:=λt=>by
   cases e1:DW mu d with
   |none=>rw[e1] at t;exact t.no.elim
   |some ds =>
    rw[e1] at t
    obtain⟨a,vs,rfl,h1,h2,h3⟩:=Fp so e1 r
    exact⟨a,vs,rfl,h1,λp hp=>t.retX (.new hp _) (so.new hp _) _ (Rep.newLst so hp (Qh h2 lo hi) (AO (N4 ds lo hi) h3))⟩
 cases d with
 |tup ds =>
  unfold Rep at r
  obtain⟨a,vs,rfl,h1,h2,h3⟩:=r
  by_cases c:HT.sIx vs.length 0 lo=0/\HT.sIx vs.length vs.length hi=vs.length
  ·cases rx
   obtain⟨its,rv,ht,hz⟩:=I.tuple h1
   have hlen:its.toArray.size=vs.length:=by rw[Ar];exact rv.length.symm
   refine⟨"tuple",_,A4.lookup,ht.typeIs,?_⟩
   refine IG ht hs pl pu (by rw[hlen];exact c.1) (by rw[hlen];exact c.2) ⟨.ref a,H,I,rfl,t.ret so _ ?_⟩
   have e:cutD ds lo hi=ds:=by
    unfold cutD
    rw[<- h2.len,c.1,c.2,h2.len]
    simp
   rw[e]
   unfold Rep
   exact⟨a,vs,rfl,h1,h2,h3⟩
  ·exact Yo pj s st H _ v vl vu lo hi sl Q I rx hs pl pu ⟨a,vs,rfl,h1,c,λp hp=>t.retX (.new hp _) (so.new hp _) _ (Rep.newTup so hp (Qh h2 lo hi) (AO (N4 ds lo hi) h3))⟩
 |str z =>
  unfold slD at t;dsimp only at t
  by_cases c:PyData.strOk (Txt.slice z lo hi)=true
  ·rw[if_pos c] at t
   exact Yw pj s st H _ v vl vu lo hi sl Q I rx hs pl pu ⟨z,r.1,r.2.1,t.ret so _ ⟨rfl,AO (Txt.slice_le z _ _) r.2.1,c⟩⟩
  ·rw[if_neg c] at t;exact t.no.elim
 |_=>exact VQ pj s st H _ v vl vu lo hi sl Q I rx hs pl pu (lists t)
def Fz {e:Expr}{lo hi:Option Expr}{m:Ex}{p q:Px}{p2 pos:Pos}(he:SV X e m)(hl:SVP X lo p)(hh:SVP X hi q):SV X (.Subscript e (.Slice lo hi none p2) pos) (eSl m p q):=⟨PE.weak (T9 AbC he.r hl.r hh.r) λst H Q h=>by
 obtain⟨th,mu,ro,so,en,t⟩:=h
 refine⟨th,mu,ro,so,en,t.bind.mono λd th1 mu1 H1 e1 s1 t1 v rv=>?_⟩
 refine⟨th1,mu1,ro,s1,en.ext e1 so.out,t1.bind.mono λlo' th2 mu2 H2 e2 s2 t2=>?_⟩
 refine⟨th2,mu2,ro,s2,(en.ext e1 so.out).ext e2 s1.out,t2.bind.mono λhi' th3 mu3 H3 e3 s3 t3=>?_⟩
 exact⟨th3,mu3,d,s3,(rv.ext e2 s1.out).ext e3 s2.out,t3⟩⟩
def tyN:D->String
 |.non=>"NoneType"|.bl _=>"bool"|.int _=>"int"|.str _=>"str"|.tup _=>"tuple"|.lst _=>"list"|.dct _ _=>"dict"|.set _=>"set"|.ref _=>"list"
def isi (T:String)(d:D):Bool:=tyN d==T||(T=="int"&&tyN d=="bool")
def FL (mu:Sto):D->Bool
 |.ref k=>match mu[k]? with
  |some (.lst _)=>true
  |_=>false
 |_=>true
def QD {mu:Sto}{k:Nat}(h:FL mu (.ref k)=true):∃ds,mu[k]?=some (.lst ds):=by
 unfold FL at h
 dsimp only at h
 split at h
 ·rename_i ds e;exact⟨ds,e⟩
 ·cases h
def Aa6 (T:String)(a:Ex):Ex:=λro mu=>bM (a ro mu) λd m1=>if FL m1 d=true then some (.bl (isi T d),m1) else none
def Xm (mu:Sto):D->Option Nat
 |.str x=>some x.length
 |.tup ds=>some ds.length
 |.lst ds=>some ds.length
 |.ref k=>(DW mu (.ref k)).map (·.length)
 |_=>none
def NS:Fn:=λds mu=>match ds with
 |[d]=>(Xm mu d).map λn=>(.int n,mu)
 |_=>none
def D8 {xs:List V}{d:D}(r:RepL K th H [d] xs):∃x,xs=[x]/\Rep K th H d x:=by
 obtain⟨v,r',rfl,h1,h2⟩:=r.inv
 cases h2.inv0
 exact⟨v,rfl,h1⟩
def HB {xs:List V}{d e:D}(r:RepL K th H [d,e] xs):∃x y,xs=[x,y]/\Rep K th H d x/\Rep K th H e y:=by
 obtain⟨v,r',rfl,h1,h2⟩:=r.inv
 obtain⟨u,rfl,h3⟩:=D8 h2
 exact⟨v,u,rfl,h1,h3⟩
theorem Qx:CallV X (.builtin "len") NS:=by
 intro pj s st H xs us Q I r h
 obtain⟨th,mu,ds,so,rd,t⟩:=h
 match ds,t,rd with
 |[d],t,rd =>
  obtain⟨x,rfl,rx⟩:=D8 rd
  cases d with
  |str z=>exact My pj s st H _ us Q I r ⟨z,by rw[rx.1],rx.2.1,t.ret so _ rfl⟩
  |tup es =>
   unfold Rep at rx
   obtain⟨a,vs,rfl,h1,h2,_⟩:=rx
   exact Ho pj s st H _ us Q I r ⟨a,vs,rfl,.inr h1,by rw[h2.len];exact t.ret so _ rfl⟩
  |lst es =>
   unfold Rep at rx
   obtain⟨a,vs,rfl,h1,h2,_⟩:=rx
   exact Ho pj s st H _ us Q I r ⟨a,vs,rfl,.inl h1.sq,by rw[h2.len];exact t.ret so _ rfl⟩
  |ref k =>
   unfold NS Xm at t
   dsimp only at t
   cases e1:DW mu (.ref k) with
   |none=>rw[e1] at t;exact t.no.elim
   |some es =>
    rw[e1] at t
    obtain⟨a,vs,rfl,h1,h2,h3⟩:=Fp so e1 rx
    exact Ho pj s st H _ us Q I r ⟨a,vs,rfl,.inl h1,by rw[h2.len];exact t.ret so _ rfl⟩
  |_=>exact t.no.elim
 |[],t,_=>exact t.no.elim
 |_::_::_,t,_=>exact t.no.elim
def IP:List D->Option (List Bool)
 |[]=>some []
 |.bl b::ds=>(IP ds).map (b::·)
 |_=>none
theorem L6:∀{ds:List D}{bs:List Bool}{vs:List V},IP ds=some bs->RepL K th H ds vs->vs=bs.map V.bl
 |[],_,_,h,r=>by cases h;exact r.inv0
 |d::ds,bs,_,h,r=>by
  obtain⟨v,r',rfl,h1,h2⟩:=r.inv
  cases d with
  |bl b =>
   unfold IP at h
   cases e:IP ds with
   |none=>rw[e] at h;cases h
   |some cs =>
    rw[e] at h
    cases h
    rw[L6 e h2,show v=V.bl b from h1]
    rfl
  |_=>cases h
def quF (f:List Bool->Bool):Fn:=λds mu=>match ds with
 |[d]=>match DW mu d with
  |some es=>(IP es).map λbs=>(.bl (f bs),mu)
  |none=>none
 |_=>none
def Qz:=quF λbs=>bs.all id
def anyF:=quF λbs=>bs.any id
theorem Oo {id:String}{f:List Bool->Bool}(hq:Hj X (.builtin id) (λxs H Q=>∃(p:Addr) (bs:List Bool),xs=[.ref p]/\SqL X.K H p (bs.map V.bl)/\Q (.bl (f bs)) H)):CallV X (.builtin id) (quF f):=by
 intro pj s st H xs us Q I r h
 obtain⟨th,mu,ds,so,rd,t⟩:=h
 match ds,t,rd with
 |[d],t,rd =>
  obtain⟨x,rfl,rx⟩:=D8 rd
  unfold quF at t
  dsimp only at t
  cases e1:DW mu d with
  |none=>rw[e1] at t;exact t.no.elim
  |some es =>
   rw[e1] at t
   dsimp only at t
   cases e2:IP es with
   |none=>rw[e2] at t;exact t.no.elim
   |some bs =>
    rw[e2] at t
    obtain⟨a,vs,rfl,h1,h2,h3⟩:=Fp so e1 rx
    cases L6 e2 h2
    exact hq pj s st H _ us Q I r ⟨a,bs,rfl,h1,t.ret so _ rfl⟩
 |[],t,_=>exact t.no.elim
 |_::_::_,t,_=>exact t.no.elim
def Rj (hc:X.calm=true):CallV X (.builtin "all") Qz:=Oo (SE hc)
def ints2 (ds:List D):Option (Int×Int):=match ds with
 |[.int i,.int j]=>some (i,j)
 |_=>none
def LW {ds:List D}{p:Int×Int}(h:ints2 ds=some p):ds=[.int p.1,.int p.2]:=by
 unfold ints2 at h
 split at h
 ·cases h;rfl
 ·cases h
def JY:Fn:=λds mu=>(ints2 ds).map λp=>(.int (if p.2<p.1 then p.2 else p.1),mu)
def TB:Fn:=λds mu=>(ints2 ds).map λp=>(.int (if p.2 > p.1 then p.2 else p.1),mu)
def intOf (ds:List D):Option Int:=match ds with
 |[.int i]=>some i
 |[.bl b]=>some (if b then 1 else 0)
 |_=>none
def Rh {ds:List D}{i:Int}(h:intOf ds=some i):ds=[.int i]\/∃b,ds=[.bl b]/\i=if b then 1 else 0:=by
 unfold intOf at h
 split at h
 ·cases h;exact .inl rfl
 ·cases h;exact .inr ⟨_,rfl,rfl⟩
 ·cases h
def T4:Fn:=λds mu=>(intOf ds).map λi=>(.int i,mu)
def Sy (ds:List D):Option Int:=match ds with
 |[.int i]=>some i
 |_=>none
def SK {ds:List D}{i:Int}(h:Sy ds=some i):ds=[.int i]:=by
 unfold Sy at h
 split at h
 ·cases h;rfl
 ·cases h
theorem ID (hc:X.calm=true):CallV X (.builtin "min") JY:=by
 intro pj s st H xs us Q I r h
 obtain⟨th,mu,ds,so,rd,t⟩:=h
 unfold JY at t
 cases e:ints2 ds with
 |none=>rw[e] at t;exact t.no.elim
 |some p =>
  rw[e] at t
  rw[LW e] at rd
  obtain⟨x,y,rfl,rx,ry⟩:=HB rd
  exact QZ hc pj s st H _ us Q I r ⟨p.1,p.2,by rw[show x=_ from rx,show y=_ from ry],t.ret so _ rfl⟩
theorem QN (hc:X.calm=true):CallV X (.builtin "max") TB:=by
 intro pj s st H xs us Q I r h
 obtain⟨th,mu,ds,so,rd,t⟩:=h
 unfold TB at t
 cases e:ints2 ds with
 |none=>rw[e] at t;exact t.no.elim
 |some p =>
  rw[e] at t
  rw[LW e] at rd
  obtain⟨x,y,rfl,rx,ry⟩:=HB rd
  exact Q8 hc pj s st H _ us Q I r ⟨p.1,p.2,by rw[show x=_ from rx,show y=_ from ry],t.ret so _ rfl⟩
theorem QT:CallV X (.type "int") T4:=by
 intro pj s st H xs us Q I r h
 obtain⟨th,mu,ds,so,rd,t⟩:=h
 unfold T4 at t
 cases e:intOf ds with
 |none=>rw[e] at t;exact t.no.elim
 |some i =>
  rw[e] at t
  rcases Rh e with h|⟨b,h,hb⟩
  ·rw[h] at rd
   obtain⟨x,rfl,rx⟩:=D8 rd
   exact LS pj s st H _ us Q I r (.inl ⟨i,by rw[show x=_ from rx],t.ret so _ rfl⟩)
  ·rw[h] at rd
   obtain⟨x,rfl,rx⟩:=D8 rd
   exact LS pj s st H _ us Q I r (.inr ⟨b,by rw[show x=_ from rx],by rw[<- hb];exact t.ret so _ rfl⟩)
def IM (mu:Sto):D->Option (List D)
 |.tup ds=>some ds
 |d=>DW mu d
theorem JR (so:StoOk K th mu H){d:D}{ds:List D}{v:V}(h:IM mu d=some ds)(r:Rep K th H d v):∃a vs,v=.ref a/\(SqL K.K H a vs\/SqT K.K H a vs/\d=.tup ds)/\RepL K th H ds vs/\ds.length<=sizeLine:=by
 cases d with
 |tup es=>cases h;unfold Rep at r;obtain⟨a,vs,rfl,h1,h2,h3⟩:=r;exact⟨a,vs,rfl,.inr ⟨h1,rfl⟩,h2,h3⟩
 |lst es=>obtain⟨a,vs,rfl,h1,h2,h3⟩:=Fp so (d:=.lst es) h r;exact⟨a,vs,rfl,.inl h1,h2,h3⟩
 |ref k=>obtain⟨a,vs,rfl,h1,h2,h3⟩:=Fp so (d:=.ref k) h r;exact⟨a,vs,rfl,.inl h1,h2,h3⟩
 |_=>cases h
def Gm (ds:List D):Option D:=match ds with
 |[d]=>some d
 |_=>none
def GP {ds:List D}{d:D}(h:Gm ds=some d):ds=[d]:=by
 unfold Gm at h
 split at h
 ·cases h;rfl
 ·cases h
def sq1 (ds:List D)(mu:Sto):Option (List D):=match Gm ds with
 |some d=>IM mu d
 |none=>none
def GA:Fn:=λds mu=>(sq1 ds mu).map λes=>(.tup es,mu)
def Abs:Fn:=λds mu=>(sq1 ds mu).map λes=>(.lst es,mu)
theorem Ql {ds es:List D}(h:sq1 ds mu=some es):∃d,ds=[d]/\IM mu d=some es:=by
 unfold sq1 at h
 cases e:Gm ds with
 |none=>rw[e] at h;cases h
 |some d=>rw[e] at h;exact⟨d,GP e,h⟩
theorem DM:CallV X (.type "tuple") GA:=by
 intro pj s st H xs us Q I r h
 obtain⟨th,mu,ds,so,rd,t⟩:=h
 unfold GA at t
 cases e:sq1 ds mu with
 |none=>rw[e] at t;exact t.no.elim
 |some es =>
  rw[e] at t
  obtain⟨d,rfl,e2⟩:=Ql e
  obtain⟨x,rfl,rx⟩:=D8 rd
  obtain⟨a,vs,rfl,h1,h2,h3⟩:=JR so e2 rx
  refine Ly pj s st H _ us Q I r ⟨a,vs,rfl,?_⟩
  rcases h1 with h1|⟨h1,rfl⟩
  ·exact .inl ⟨h1,λp hp=>t.retX (.new hp _) (so.new hp _) _ (Rep.newTup so hp h2 h3)⟩
  ·exact .inr ⟨h1,t.ret so _ rx⟩
def IL (o:Ex)(a:Exs):Ex:=λro mu=>bM (o ro mu) λd m1=>match d with
 |.ref k=>if FL m1 (.ref k)=true then bM (a ro m1) λxs m2=>match Gm xs,m2[k]? with
  |some y,some (.lst ds)=>if ds.length<sizeLine then some (.non,m2.set k (.lst (ds++[y]))) else none
  |_,_=>none
  else none
 |_=>none
def IB {o e:Expr}{m:Ex}{n:Exs}{apos cpos:Pos}(ho:SV X o m)(ha:SVA X [e] n)(hbase:attributeBase o "append" X.env (eval o X.env)=eval o X.env:=by rfl)
  (hfew:((backTo cpos (starEach [e] X.env)).all (λx=>!x.1)&&(backToKw cpos (keywordEach [] X.env)).all (λx=>x.1.isSome)
   && decide ([e].length+([]:List Keyword).length+(if ([]:List Keyword).isEmpty then 0 else 1)<30))=true:=by rfl)
  (hline:(apos.endLine==cpos.line)=true:=by rfl) (hs:starEach [e] X.env=(false,eval e X.env)::starEach [] X.env:=by rfl) (hplain:(backTo cpos (starEach [] X.env)).any (·.1)=false:=by rfl) :
  SV X (.Call (.Attribute o "append" apos) [e] [] cpos) (IL m n):=
 ⟨PE.weak (We F.plainAttrs_list F.slot_list_append F.type_list_append Q9 ho.r ha.1 hbase hfew hline hs hplain) λst H Q h=>by
  obtain⟨th,mu,ro,so,en,t⟩:=h
  refine⟨th,mu,ro,so,en,t.bind.mono λd th1 mu1 H1 e1 s1 t1 v rv=>?_⟩
  cases d with
  |ref k =>
   unfold Rep at rv
   obtain⟨a,rfl,ha'⟩:=rv
   by_cases cr:FL mu1 (.ref k)=true
   case neg=>dsimp only at t1;rw[if_neg cr] at t1;exact t1.no.elim
   dsimp only at t1
   rw[if_pos cr] at t1
   obtain⟨ds0,em⟩:=QD cr
   obtain⟨vs,h2,_⟩:=s1.at' k a _ ha' em
   refine⟨.inl ⟨rfl,vs,SqL.of h2⟩,th1,mu1,ro,s1,en.ext e1 so.out,?_⟩
   refine Tr.mono (Tr.bind t1) λxs th2 mu2 H2 e2 s2 t2 ws rws=>?_
   cases q1:Gm xs with
   |none=>rw[q1] at t2;exact t2.no.elim
   |some y =>
    cases q2:mu2[k]? with
    |none=>rw[q1,q2] at t2;exact t2.no.elim
    |some o =>
     cases o with
     |dct _ _=>rw[q1,q2] at t2;exact t2.no.elim
     |lst ds =>
      rw[q1,q2] at t2
      dsimp only at t2
      by_cases c:ds.length<sizeLine
      ·rw[if_pos c] at t2
       rw[GP q1] at rws
       obtain⟨y',rfl,ry⟩:=D8 rws
       have hk:=e2.at ha'
       obtain⟨us,g1,g2,g3⟩:=s2.at' k a _ hk q2
       exact⟨a,us,y',rfl,rfl,g1,by rw[g2.len];exact c,t2.retX (.mut (Aj hk) _) (s2.put hk (g2.app (.cons ry .nil)) (by rw[As];exact c)) _ rfl⟩
      ·rw[if_neg c] at t2;exact t2.no.elim
  |_=>exact t1.no.elim⟩
def Zs (i j k:Nat)(a:Exs):Sx:=λro mu=>bM (a ro mu) λds m1=>match ds with
 |[x,y,z]=>some ((.nx,((ro.set i (some x)).set j (some y)).set k (some z)),m1)
 |_=>none
def Ve (d e v:D)(mu:Sto):Rs Unit:=match d,e with
 |.ref k,.int i=>match mu[k]? with
  |some (.lst ds)=>match ixN ds.length i with
   |some j=>some ((),mu.set k (.lst (ds.set j v)))
   |none=>none
  |_=>none
 |_,_=>none
def AbJ (K:Zc):SR:=λo i v H Q=>∃th mu d e w,StoOk K th mu H/\Rep K th H d o/\Rep K th H e i/\Rep K th H w v/\Tr K th H (Ve d e w mu) λ_ _ _ H'=>Q H'
theorem Y8:VH X (AbJ X.z):=by
 intro pj s st H o i v ov iv u Q I ro ri rv h
 obtain⟨th,mu,d,e,w,so,r1,r2,r3,t⟩:=h
 cases d with
 |ref k =>
  cases e with
  |int j =>
   unfold Ve at t
   dsimp only at t
   cases q:mu[k]? with
   |none=>rw[q] at t;exact t.no.elim
   |some o' =>
    cases o' with
    |dct _ _=>rw[q] at t;exact t.no.elim
    |lst ds =>
     rw[q] at t
     dsimp only at t
     cases q2:ixN ds.length j with
     |none=>rw[q2] at t;exact t.no.elim
     |some n =>
      rw[q2] at t
      unfold Rep at r1
      obtain⟨a,rfl,ha⟩:=r1
      obtain⟨vs,h1,h2,h3⟩:=so.at' k a _ ha q
      exact set_list pj s st H _ i v ov iv u Q I ro ri rv ⟨a,vs,j,n,rfl,r2,h1,by rw[h2.len];exact q2,t.retX (.mut (Aj ha) _) (so.put ha (h2.setAt n r3) (by rw[BF];exact h3))⟩
  |_=>exact t.no.elim
 |_=>exact t.no.elim
def G9 (lo:Int)(n:Nat):List D:=(List.range n).map λk:Nat=>.int (lo+k)
def Sn {lo:Int}{n:Nat}(hn:n<=sizeLine):OG K (Itr lo n) th mu H (G9 lo n) none where
 sz:=by unfold G9;simpa using hn
 go:=λth' mu' H' e s go i d ed=>by
  unfold G9 at ed
  rw[Am] at ed
  cases q:(List.range n)[i]? with
  |none=>rw[q] at ed;cases ed
  |some k =>
   rw[q] at ed
   have hd:D.int (lo+k)=d:=by simpa using ed
   obtain⟨hi,hk⟩:=Ad.mp q
   rw[List.length_range] at hi
   rw[List.getElem_range] at hk
   subst hk hd
   refine⟨hi,λv H2 y=>?_⟩
   obtain⟨rfl,rfl⟩:=y
   exact⟨.refl _ _,s,by unfold Rep;rfl⟩
 stop:=λth' mu' H' e s go=>by show n<=(G9 lo n).length;unfold G9;simp
def iRg (a:Exs):Ix:=λro mu=>bM (a ro mu) λds m1=>match Sy ds with
 |some j=>if -(2 ^ 62)<=j/\j<=(sizeLine:Int) then some ((G9 0 j.toNat,none),m1) else none
 |none=>none
def Iw {tg a:Expr}{m:Exs}{p pos:Pos}(hm:X.mg "range"=none)(ha:SVA X [a] m)(hg:Gl X "range":=by rfl)(hs:starEach [a] X.env=[(false,eval a X.env)]:=by rfl):SVI X tg (.Call (.Name "range" p) [a] [] pos) (iRg m):=
 ⟨PI.weak (Ra hg hm ha.1 hs) λst H R h=>by
  obtain⟨th,mu,ro,so,en,t⟩:=h
  refine⟨th,mu,ro,so,en,t.bind.mono λds th1 mu1 H1 e1 s1 t1 vs rvs=>?_⟩
  cases q:Sy ds with
  |none=>rw[q] at t1;exact t1.no.elim
  |some j =>
   rw[q] at t1
   dsimp only at t1
   by_cases c:-(2 ^ 62)<=j/\j<=(sizeLine:Int)
   ·rw[if_pos c] at t1
    rw[SK q] at rvs
    obtain⟨x,rfl,rx⟩:=D8 rvs
    refine⟨j,by rw[show x=_ from rx],c.1,?_,t1.ret s1 _ (Sn (by ext))⟩
    have:=c.2
    rw[AH] at this
    ext
   ·rw[if_neg c] at t1;exact t1.no.elim⟩
def SG (ds:List D):Option (List D×List D):=match ds with
 |[.lst xs,.lst ys]=>some (xs,ys)
 |_=>none
def Su {ds:List D}{p:List D×List D}(h:SG ds=some p):ds=[.lst p.1,.lst p.2]:=by
 unfold SG at h
 split at h
 ·cases h;rfl
 ·cases h
def HQ (xs ys:List D):List D:=(xs.zip ys).map λp=>.tup [p.1,p.2]
def iZp (a:Exs):Ix:=λro mu=>bM (a ro mu) λds m1=>(SG ds).map λp=>((HQ p.1 p.2,none),m1)
theorem VE {a b:Expr}{m:Exs}{p pos:Pos}{elts:List Expr}{k:Nat}{tp:Pos}(hm:X.mg "zip"=none)(ha:SVA X [a,b] m)(hg:Gl X "zip":=by rfl)(hs:starEach [a,b] X.env=[(false,eval a X.env),(false,eval b X.env)]:=by rfl)(hs2:starEach [b] X.env=[(false,eval b X.env)]:=by rfl) :
  SVI X (.Tuple elts k tp) (.Call (.Name "zip" p) [a,b] [] pos) (iZp m):=⟨PI.weak (X5 hg hm PyProof.Rows.boot_zip ha.1 hs hs2) λst H R h=>by
 obtain⟨th,mu,ro,so,en,t⟩:=h
 refine⟨th,mu,ro,so,en,t.bind.mono λds th1 mu1 H1 e1 s1 t1 vs rvs=>?_⟩
 cases q:SG ds with
 |none=>rw[q] at t1;exact t1.no.elim
 |some pr =>
  rw[q] at t1
  rw[Su q] at rvs
  obtain⟨xs,ys⟩:=pr
  obtain⟨x,y,rfl,rx,ry⟩:=HB rvs
  unfold Rep at rx ry
  obtain⟨a1,us,rfl,h1,l1,z1⟩:=rx
  obtain⟨a2,ws,rfl,h2,l2,z2⟩:=ry
  refine⟨a1,a2,rfl,⟨us,h1.sq⟩,⟨ws,h2.sq⟩,t1.ret s1 _ ⟨?_,λth' mu' H' e s' go i d ed=>?_,λth' mu' H' e s' go=>?_⟩⟩
  ·show(HQ xs ys).length<=sizeLine
   unfold HQ
   rw[Ak,List.length_zip]
   exact AO (Nat.min_le_left _ _) z1
  ·have g1:=(e.fz h1).sq
   have g2:=(e.fz h2).sq
   have ed':(HQ xs ys)[i]?=some d:=ed
   unfold HQ at ed'
   rw[Am] at ed'
   cases q3:(xs.zip ys)[i]? with
   |none=>rw[q3] at ed';cases ed'
   |some pq =>
    rw[q3] at ed'
    have hd:D.tup [pq.1,pq.2]=d:=by simpa using ed'
    subst hd
    obtain⟨hx,hy⟩:=List.getElem?_zip_eq_some.mp q3
    obtain⟨v1,ev1,rv1⟩:=(l1.ext e s1.out).get hx
    obtain⟨v2,ev2,rv2⟩:=(l2.ext e s1.out).get hy
    refine⟨⟨us,ws,v1,v2,g1,g2,ev1,ev2⟩,λv H2 y=>?_⟩
    obtain⟨T,x',y',rfl,hT,rfl,f1,f2⟩:=y
    have ex:=f1 us g1
    have ey:=f2 ws g2
    rw[ev1] at ex
    rw[ev2] at ey
    cases ex
    cases ey
    exact⟨.new hT _,s'.new hT _,Rep.newTup s' hT (.cons rv1 (.cons rv2 .nil)) (by show 2<=sizeLine;decide)⟩
  ·have g1:=(e.fz h1).sq
   have g2:=(e.fz h2).sq
   refine⟨us,ws,g1,g2,?_⟩
   show us.length<=(HQ xs ys).length\/ws.length<=(HQ xs ys).length
   unfold HQ
   rw[Ak,List.length_zip,l1.len,l2.len]
   dsimp only
   ext⟩
def U2 {a b:Str}(h:a.cps.toList=b.cps.toList):a=b:=by
 obtain⟨x⟩:=a
 obtain⟨y⟩:=b
 have:x=y:=Array.toList_inj.mp h
 rw[this]
theorem LG:∀{ss:List Str},(∀x∈ss,x.length<=sizeLine/\PyData.strOk x=true)->RepL K th H (ss.map D.str) (ss.map V.str)
 |[],_=>.nil
 |s::ss,h=>.cons (d:=.str s) ⟨rfl,h s (.head _)⟩ (LG λx hx=>h x (.tail _ hx))
end
def LtAt (A:Around)(s:Shared)(y x:Value)(b:Bool):Prop:=
 ∀(prog:Program) (w:World) (E:Value->Zaa) (Q:Value->Zaa),Q (.bool b) s->wpAny (model prog w) A (richCompare .Lt y x) Q E s
def N8 (A:Around)(s:Shared):List Value->List Value->Bool->Prop
 |[],[],b=>b=false
 |[],_::_,b=>b=true
 |_::_,[],b=>b=false
 |y::vs,x::ws,b=>∃e,SeqAt.EqAt A s y x e/\if e=true then N8 A s vs ws b else LtAt A s y x b
section
open PySem.SeqAt
open PySem.AutoSeq1 (wpAny_loadPart')
open PySem.MeetsSeq PySem.MeetsSeq2 PySem.MeetsSeq3
def MY (l b:Addr)(items items2:Array Value)(n n2:Nat)(dd dd2:Option Addr)(sl sl2:Array (Option Value))(r:Bool) :
  Meets (Builtin.«tuple.__lt__» ⟨[.ref l,.ref b],[]⟩)
   (λA R s=>s.heap.get? l=some {cls:=.type "tuple",dict:=dd,data:=.seq items n,slots:=sl}/\s.heap.get? b=some {cls:=.type "tuple",dict:=dd2,data:=.seq items2 n2,slots:=sl2} /\
    N8 A.in1 s items.toList items2.toList r/\R (.ok (.ret (.bool r))) s):=
 .of_wp λprog w A R s h=>by
  obtain⟨hp,g,d,tk,os⟩:=s;obtain⟨hl,hb,hx,h⟩:=h
  have f2:=AutoSeq1.sub_tuple_tuple
  wp_walk using wpAny_loadPart' hl,wpAny_loadPart' hb,wpAny_forIn_list _ (λrest b s'=>b.1=none/\s'=⟨hp,g,d,tk,os⟩/\∃(vs ws:List Value),rest=vs.zip ws /\
   N8 A.in1 ⟨hp,g,d,tk,os⟩ vs ws r/\vs.length+items2.size=ws.length+items.size) _
  case turn =>
   rintro⟨y,x⟩ rest b s' ⟨hb',rfl,vs,ws,hz,hlx,hlen⟩
   cases vs with
   |nil=>rw[List.zip_nil_left] at hz;cases hz
   |cons a vs' =>
    cases ws with
    |nil=>rw[List.zip_nil_right] at hz;cases hz
    |cons c ws' =>
     rw[List.zip_cons_cons] at hz
     injection hz with hyx hrest
     injection hyx with hy hx
     subst hy hx
     simp only[List.length_cons] at hlen
     obtain⟨e,he,hiff⟩:=hlx
     refine Aa (he prog w _ _ ?_)
     cases e with
     |true =>
      rw[if_pos rfl] at hiff
      wp_walk
      exact⟨rfl,rfl,_,_,hrest,hiff,by ext⟩
     |false =>
      rw[if_neg AN] at hiff
      have hri:=hiff prog w
      wp_walk using hri
      exact⟨_,rfl,by simpa using h⟩
  case fin =>
   rintro⟨b1,b2⟩ s' ⟨hb',rfl,vs,ws,hz,hlx,hlen⟩
   simp only at hb'
   subst hb'
   have hv:r=decide (items.size<items2.size):=by
    cases vs with
    |nil =>
     cases ws with
     |nil =>
      simp only[List.length_nil] at hlen
      rw[show r=false from hlx]
      exact(Bi (by ext)).symm
     |cons c ws' =>
      simp only[List.length_nil,List.length_cons] at hlen
      rw[show r=true from hlx]
      exact(BK (by ext)).symm
    |cons a vs' =>
     cases ws with
     |nil =>
      simp only[List.length_nil,List.length_cons] at hlen
      rw[show r=false from hlx]
      exact(Bi (by ext)).symm
     |cons c ws' =>
      rw[List.zip_cons_cons] at hz
      cases hz
   rw[hv] at h
   wp_walk
   exact⟨_,rfl,by simpa[Builtin.Tuple.tupleCompareSizes] using h⟩
  case h =>
   exact⟨rfl,rfl,items.toList,items2.toList,rfl,hx,by simp;ext⟩
end
def LtAt.tuples {A:Around}{s:Shared}{l b:Addr}{items items2:Array Value}{r:Bool}(hl:IsTup s.heap l items)(hb:IsTup s.heap b items2)(hu:A.units<cLine)(hx:N8 A.in1 s items.toList items2.toList r):LtAt A s (.ref l) (.ref b) r:=λprog w E Q h=>by
 obtain⟨⟨cls,dd,data,sl⟩,ho,hc,n,hd⟩:=id hl
 obtain⟨⟨cls2,dd2,data2,sl2⟩,ho2,hc2,n2,hd2⟩:=id hb
 simp only at hc hd hc2 hd2
 subst hc hd hc2 hd2
 exact richCompare_meets_room (op:=.Lt) ⟨_,ho,rfl⟩ ⟨_,ho2,rfl⟩ F.slot_tuple_lt F.entry_tuple_lt (F.args_tuple_lt_2 _ _) (MY l b items items2 n n2 dd dd2 sl sl2 r)
  ⟨ho,ho2,hx,show Value.bool r≠Value.notImplemented/\Q (.bool r) s from⟨(λx=>nomatch x),h⟩⟩ hu
mutual
def ltB:D->D->Option Bool
 |.int i,.int j=>some (decide (i<j))
 |.str i,.str j=>some (decide (i.cps.toList<j.cps.toList))
 |.tup xs,.tup ys=>GG xs ys
 |_,_=>none
def GG:List D->List D->Option Bool
 |[],[]=>some false
 |[],_::_=>some true
 |_::_,[]=>some false
 |x::xs,y::ys=>if Dl x&&Dl y then (if PyData.eqv (toPy x) (toPy y) then GG xs ys else ltB x y) else none
end
section
variable {X:Cx}{K:Zc}{th:List Addr}{mu:Sto}{H:Hp}
mutual
theorem OF {pj:Zab}{st:L2.St}{s:Shared}(I:L2.Inv X pj st H s):∀(d e:D) (b:Bool) (v u:V) (vv uu:Value) (A:Around),ltB d e=some b->Rep X.z th H d v->Rep X.z th H e u->RelV v vv->RelV u uu->A.units+(toPy d).depth+1<cLine->LtAt A s vv uu b
 |.int i,e,b,v,u,vv,uu,A,h,r1,r2,q1,q2,hu=>by
  cases e with
  |int j =>
   unfold ltB at h
   cases h
   cases (show _=_ from r1)
   cases (show _=_ from r2)
   obtain⟨t1,rfl⟩:=q1
   obtain⟨t2,rfl⟩:=q2
   exactλprog w E Q hq=>(PyProof.Rows.lt_int hq:wpAny (model prog w) A (compareOp .Lt (.int i t1) (.int j t2)) Q E s)
  |_=>unfold ltB at h;cases h
 |.str i,e,b,v,u,vv,uu,A,h,r1,r2,q1,q2,hu=>by
  cases e with
  |str j =>
   unfold ltB at h
   cases h
   obtain⟨rfl,_⟩:=(show _/\_ from r1)
   obtain⟨rfl,_⟩:=(show _/\_ from r2)
   obtain⟨t1,rfl⟩:=q1
   obtain⟨t2,rfl⟩:=q2
   exactλprog w E Q hq=>(PyProof.Rows.lt_str hq:wpAny (model prog w) A (compareOp .Lt (.str i t1) (.str j t2)) Q E s)
  |_=>unfold ltB at h;cases h
 |.tup xs,e,b,v,u,vv,uu,A,h,r1,r2,q1,q2,hu=>by
  cases e with
  |tup ys =>
   unfold ltB at h
   unfold Rep at r1 r2
   obtain⟨a,vs,rfl,h1,l1,_⟩:=r1
   obtain⟨c,us,rfl,h2,l2,_⟩:=r2
   cases q1
   cases q2
   obtain⟨its,rv,p1,_⟩:=I.tuple h1
   obtain⟨its2,rv2,p2,_⟩:=I.tuple h2
   have hd:(toPy (.tup xs)).depth=PyData.depthAll (CJ xs)+1:=by unfold toPy PyData.depth;rfl
   rw[hd] at hu
   refine LtAt.tuples p1 p2 (by ext) ?_
   have:=P6 I xs ys b vs us its its2 A.in1 h l1 l2 rv rv2 (by show A.units+1+PyData.depthAll (CJ xs)+1<cLine;ext)
   simpa using this
  |_=>unfold ltB at h;cases h
 |.non,e,b,_,_,_,_,_,h,_,_,_,_,_=>by cases e<;>(unfold ltB at h;cases h)
 |.bl _,e,b,_,_,_,_,_,h,_,_,_,_,_=>by cases e<;>(unfold ltB at h;cases h)
 |.lst _,e,b,_,_,_,_,_,h,_,_,_,_,_=>by cases e<;>(unfold ltB at h;cases h)
 |.dct _ _,e,b,_,_,_,_,_,h,_,_,_,_,_=>by cases e<;>(unfold ltB at h;cases h)
 |.set _,e,b,_,_,_,_,_,h,_,_,_,_,_=>by cases e<;>(unfold ltB at h;cases h)
 |.ref _,e,b,_,_,_,_,_,h,_,_,_,_,_=>by cases e<;>(unfold ltB at h;cases h)
theorem P6 {pj:Zab}{st:L2.St}{s:Shared}(I:L2.Inv X pj st H s):∀(xs ys:List D) (b:Bool) (vs us:List V) (vvs uus:List Value) (A:Around),GG xs ys=some b->RepL X.z th H xs vs->RepL X.z th H ys us->Vals vs vvs->Vals us uus->A.units+PyData.depthAll (CJ xs)+1<cLine->N8 A s vvs uus b
 |[],[],b,_,_,_,_,A,h,r1,r2,q1,q2,hu=>by
  cases r1.inv0;cases r2.inv0;cases q1;cases q2
  unfold GG at h
  cases h
  rfl
 |[],y::ys,b,_,_,_,_,A,h,r1,r2,q1,q2,hu=>by
  cases r1.inv0
  obtain⟨v,r,rfl,_,_⟩:=r2.inv
  cases q1
  cases q2
  unfold GG at h
  cases h
  rfl
 |x::xs,[],b,_,_,_,_,A,h,r1,r2,q1,q2,hu=>by
  cases r2.inv0
  obtain⟨v,r,rfl,_,_⟩:=r1.inv
  cases q1
  cases q2
  unfold GG at h
  cases h
  rfl
 |x::xs,y::ys,b,_,_,_,_,A,h,r1,r2,q1,q2,hu=>by
  obtain⟨v,r,rfl,a1,a2⟩:=r1.inv
  obtain⟨u,r',rfl,b1,b2⟩:=r2.inv
  cases q1 with
  |cons g1 g2 =>
   cases q2 with
   |cons k1 k2 =>
    unfold GG at h
    have hd:PyData.depthAll (CJ (x::xs))=max (toPy x).depth (PyData.depthAll (CJ xs)):=by rw[CJ,PyData.depthAll]
    rw[hd] at hu
    by_cases c:(Dl x&&Dl y)=true
    ·rw[if_pos c] at h
     rw[Ai] at c
     obtain⟨as,w1,w2⟩:=EO I x v _ c.1 a1 g1
     obtain⟨bs,w3,w4⟩:=EO I y u _ c.2 b1 k1
     refine⟨_,SeqAt.eqAt_reads _ _ A s _ _ as bs w1 w3 w2 w4 (by ext),?_⟩
     cases e:PyData.eqv (toPy x) (toPy y) with
     |true=>rw[e] at h;rw[if_pos rfl] at h ⊢;exact P6 I xs ys b _ _ _ _ A h a2 b2 g2 k2 (by ext)
     |false=>rw[e] at h;rw[if_neg AN] at h ⊢;exact OF I x y b _ _ _ _ A h a1 b1 g1 k1 (by ext)
    ·rw[if_neg c] at h;cases h
end
def ltG (d e:D)(mu:Sto):Rs D:=if (toPy d).depth<=60 then (ltB d e).map λb=>(.bl b,mu) else none
def O7 (hu:X.A.units+64<cLine):OpV X (compareOp .Lt) ltG:=by
 intro pj s st H x y v u Q I rx ry h
 obtain⟨th,mu,d,e,so,r1,r2,t⟩:=h
 unfold ltG at t
 by_cases c:(toPy d).depth<=60
 ·rw[if_pos c] at t
  cases e1:ltB d e with
  |none=>rw[e1] at t;exact t.no.elim
  |some b =>
   rw[e1] at t
   exact OF I d e b x y v u X.A e1 r1 r2 rx ry (by ext) _ _ _ _ ⟨.bl b,H,I,rfl,t.ret so _ rfl⟩
 ·rw[if_neg c] at t;exact t.no.elim
end
section
variable {X:Cx}{K:Zc}{th:List Addr}{mu:Sto}{H:Hp}
def X7 (d:D)(mu:Sto):Rs D:=match d with
 |.int i=>some (.int (-i),mu)
 |_=>none
theorem WA {a:Expr}{m:Ex}{pos:Pos}(ha:SV X a m):SV X (.UnaryOp .USub a pos) (e1 X7 m):=⟨PE.weak (Wh Rr ha.r) λst H Q h=>by
 obtain⟨th,mu,ro,so,en,t⟩:=h
 refine⟨th,mu,ro,so,en,t.bind.mono λd th1 mu1 H1 e1 s1 t1 v rv=>?_⟩
 cases d with
 |int i=>exact⟨i,rv,t1.ret s1 _ rfl⟩
 |_=>exact t1.no.elim⟩
def HC {pj:Zab}{st:L2.St}{s:Shared}(I:L2.Inv X pj st H s):sysModules<s.heap.objs.size:=by
 obtain⟨o,_,_,ho,_⟩:=I.mod.glob
 exact AI (show sysModules<mainGlobals+1 by decide) (An (I.bk _ _ ho))
def IZ {P:Program}{w:World}{H:Hp}{h:Heap}{a:Addr}{xs:List (Int×V×V)}(x:Xr a xs h):ObjOk P w H h a (D1 a xs):=by
 refine⟨x,?_,λh1 h2 ⟨z,o,es,ep,ho,r⟩ k=>⟨z,o,es,ep,k o ho,r⟩⟩
 obtain⟨_,o,es,ep,ho,r⟩:=x
 exact⟨o,ho⟩
def Zm:Ex:=λ_ mu=>some (.dct [] [],mu)
def Le:Ex:=λ_ mu=>some (.ref mu.length,mu++[.dct [] []])
def UI {pj:Zab}{st:L2.St}{s:Shared}(I:L2.Inv X pj st H s):Xr s.heap.objs.size [] (s.heap.push {cls:=.type "dict",data:=.dict #[]}):=
 ⟨Cc.mpr (Ne.symm (Az (HC I))),_,#[],0,Ag _ rfl,⟨rfl,rfl,rfl⟩,rfl,.nil,rfl⟩
def Kz {pos:Pos}:SV X (.Dict [] [] pos) Le:=⟨λpj s st H Q I h=>by
 obtain⟨th,mu,ro,so,en,t⟩:=h
 have hp:H s.heap.objs.size=none:=I.hok.fresh (Ae _)
 refine wpAny_Dict_empty ⟨.ref s.heap.objs.size,_,I.laid (a:=s.heap.objs.size) (o:=D1 s.heap.objs.size []) (t':=s.toks) (λ_ _ q=>Ac _ q) (Ae _) (IZ (UI I)),rfl,t.retX (.newM hp _) (so.newD hp) _ ?_⟩
 unfold Rep
 exact⟨_,rfl,by rw[<- so.len];simp⟩⟩
def Ou {s:Shared}{vs:Array Value}{xs:List PyData}{as:List Addr}{d:PyData}(rs:ReadsAll s.heap vs.toList xs as)(hxs:PyData.canLayAll0 xs=true) :
  vs.toList.countP (λy=>PyData.eqv (SeqAt.readOf s.heap y) d)=xs.countP (λy=>PyData.eqv y d):=by
 rw[<- SeqAt.readsAll_map xs _ _ hxs rs,List.countP_map]
 rfl
def Abj (K:W.Frag)(r:V->List V->Hp->VK->Prop)(to:TE)(t:TA):TE:=λst H Q=>to st H λx H1=>(∃a xs,x=.ref a/\SqT K H1 a xs)/\t st H1 λxs H2=>r x xs H2 Q
def YB {o e:Expr}{es:List Expr}{to:TE}{t:TA}{name:Str}{apos cpos:Pos}{id:String}{r:V->List V->Hp->VK->Prop}(pa:PlainAttrs "tuple")(slot:Slot "tuple" name id)(hty:typeOf (.builtin id)=pure (.type "method_descriptor"))(hm:MtR X id r)(ho:PE X o to)(ha:PA X (e::es) t)
  (hbase:attributeBase o name X.env (eval o X.env)=eval o X.env)
  (hfew:((backTo cpos (starEach (e::es) X.env)).all (λx=>!x.1)&&(backToKw cpos (keywordEach [] X.env)).all (λx=>x.1.isSome)
   && decide ((e::es).length+([]:List Keyword).length+(if ([]:List Keyword).isEmpty then 0 else 1)<30))=true)
  (hline:(apos.endLine==cpos.line)=true) (hs:starEach (e::es) X.env=(false,eval e X.env)::starEach es X.env) (hplain:(backTo cpos (starEach es X.env)).any (·.1)=false) :
  PE X (.Call (.Attribute o name apos) (e::es) [] cpos) (Abj X.K r to t):=by
 intro pj s st H Q I h
 refine wpAny_Call_method_late hbase hfew hline rfl (thn (ho pj s st H _ I h) λv s1 ⟨x,H1,I1,r1,ty,q1⟩=>?_)
 obtain⟨a,xs,rfl,hq⟩:=ty
 cases r1
 obtain⟨ob,g1,g2,g3⟩:=I1.tupleD hq
 refine⟨"tuple",id,pa,slot,hty,⟨ob,g1,g3⟩,λb e=>by cases e;exact⟨ob,g1,g2⟩,?_⟩
 have hA:=ha cpos pj s1 st H1 _ I1 q1
 rw[hs] at hA ⊢
 refine Calls.callWith_builtin (by show(false||(backTo cpos (starEach es X.env)).any (·.1))=false;rw[hplain]<;>rfl) (Calls.evalArgs_plain ?_)
 exact thn hA λus s2 ⟨vs,H2,I2,r2,q2⟩=>hm pj s2 st H2 (.ref a) vs (.ref a) us Q I2 rfl r2 q2
def Aa1 (xs:Array Value):((List.range xs.size).filterMap λ(m:Nat)=>xs[(((xs.size:Int)-1)+(m:Int)*(-1)).toNat]?)=xs.toList.reverse:=by
 have gen:∀n,n<=xs.size->((List.range n).filterMap λ(m:Nat)=>xs[(((xs.size:Int)-1)+(m:Int)*(-1)).toNat]?)=xs.toList.reverse.take n:=by
  intro n
  induction n with
  |zero=>intro _;simp
  |succ n ih =>
   intro hn
   have e:(((xs.size:Int)-1)+(n:Int)*(-1)).toNat=xs.size-1-n:=by ext
   rw[List.range_succ,List.filterMap_append,ih (by ext),List.take_add_one]
   congr 1
   rw[List.filterMap_cons,List.filterMap_nil,e,List.getElem?_reverse (by simp;ext)]
   simp[show xs.size-1-n<xs.size by ext]
 rw[gen xs.size (Ae _),Ci (by simp)]
def JJ {prog:Program}{w:World}{A:Around}{E:Value->Zaa}{s:Shared}{sl:Addr}{t:Tok}{n:Nat}{Q:Int×Int×Nat->Zaa}(hs:s.heap.IsSliceOf sl .none .none (.int (-1) t))
  (h:Q (((n:Int)-1),-1,n) s):wpAny (model prog w) A (Builtin.Slice.sliceApplied (.ref sl) (pure (n:Int))) Q E s:=by
 obtain⟨os,hos,hcs,hds⟩:=id hs
 unfold Builtin.Slice.sliceApplied Builtin.Slice.sliceFields
 refine Aa (Aa (Be hos hds (x:=.none) rfl (Aa (Be hos hds (x:=.none) rfl (Aa (Be hos hds (x:=.int (-1) t) rfl (Ab ?_)))))))
 refine Aa (HT.GH (.int (-1) t) ?_)
 show wpAny _ _ (if ((-1:Int)==0)=true then _ else _) _ _ s
 rw[if_neg (by decide)]
 refine Aa (HT.GH .none (Aa (HT.GH .none (Aa (Ab ?_)))))
 show wpAny _ _ (pure (((n:Int)-1),(-1:Int),Builtin.Slice.slicePlaces ((n:Int)-1) (-1) (-1))) _ _ s
 have e:Builtin.Slice.slicePlaces ((n:Int)-1) (-1) (-1)=n:=by
  unfold Builtin.Slice.slicePlaces
  rw[if_neg (by decide)]
  by_cases h:(n:Int)-1 > -1
  ·rw[if_pos h]
   have:((n:Int)-1 - -1-1) / (- -1)+1=n:=by rw[show(- -1:Int)=1 from rfl,Int.ediv_one];ext
   rw[this]
   simp
  ·rw[if_neg h]
   simp
   ext
 rw[e]
 exact Ab h
def Js {prog:Program}{w:World}{A:Around}{E:Value->Zaa}{s:Shared}{t sl:Addr}{items:Array Value}{tk:Tok}{Q:Value->Zaa}(ht:IsTup s.heap t items)(hs:s.heap.IsSliceOf sl .none .none (.int (-1) tk))
  (h:Q (.ref s.heap.objs.size) {s with heap:=s.heap.push {cls:=.type "tuple",data:=.seq items.toList.reverse.toArray}}) (hsz:items.size<=sizeLine):wpAny (model prog w) A (getItem (.ref t) (.ref sl)) Q E s:=by
 obtain⟨os,hos,hcs,hds⟩:=id hs
 have hTs:s.TypeIs (.ref sl) "slice":=⟨os,hos,hcs⟩
 have htake:sizeOk (.seq items.toList.reverse.toArray):=by
  show items.toList.reverse.toArray.size<=sizeLine
  simpa using hsz
 unfold getItem
 try with_reducible refine AG ?_
 first|refine Aa (Ab ?_)|skip
 refine Aa (wpAny_sequenceKey ht.typeIs (by decide) ?_)
 refine Aa (AM (name:=Str.ofString "__getitem__") ht.typeIs A4
  (AE A4 ht.typeIs entry_tuple_getitem ?_ (args_tuple_getitem _ _)))
 show wpAny _ _ (Builtin.Tuple.tupleItemsOf (.ref t)>>=_) _ _ s
 refine Aa (tupleItemsOf_ ht ?_)
 refine Aa (By hTs ?_)
 rw[if_pos (by decide)]
 refine Aa (JJ hs ?_)
 dsimp only
 rw[if_neg (by simp),Aa1]
 exact Aa (m:=Builtin.Tuple.tupleExact _) (AX (Ab ⟨_,rfl,Ab h⟩) htake)
def QV (d:D)(mu:Sto):Rs D:=match d with
 |.tup ds=>some (.tup ds.reverse,mu)
 |_=>none
def Vals.rev {xs:List V}{us:List Value}(r:Vals xs us):Vals xs.reverse us.reverse:=Vals.reverse r
theorem SS {e:Expr}{m:Ex}{j:Nat}{p1 p2 p3 pos:Pos}(he:SV X e m):SV X (.Subscript e (.Slice none none (some (.UnaryOp .USub (.Constant (.int 1) j p1) p2)) p3) pos) (e1 QV m):=⟨by
 intro pj s st H Q I h
 obtain⟨th,mu,ro,so,en,t⟩:=h
 refine Subscript_ (thn (he.r pj s st H (λx H1=>∃th1 mu1 d,StoOk X.z th1 mu1 H1/\Rep X.z th1 H1 d x/\Tr X.z th1 H1 (QV d mu1) (KV' X.z Q)) I ⟨th,mu,ro,so,en,t.bind.mono λd th1 mu1 H1 e1 s1 t1 v rv=>⟨th1,mu1,d,s1,rv,t1⟩⟩) λv s1 ⟨x,H1,I1,r1,th1,mu1,d,so1,rd,t1⟩=>?_)
 refine wpAny_Slice ?_
 rw[evalPart_none]
 refine Ab (Ab ?_)
 rw[evalPart_some]
 refine thn ((Wh (X:=X) Rr (RM (i:=1) (j:=j) (pos:=p1))) pj s1 st H1 (λy H'=>y=.int (-1)/\H'=H1) I1 ⟨1,rfl,rfl,rfl⟩) λu s2 ⟨y,H2,I2,r2,ey,eH⟩=>?_
 subst ey eH
 obtain⟨tk,rfl⟩:=r2
 have I4:L2.Inv X pj st H2 {s2 with heap:=s2.heap.push {cls:=.type "slice",data:=.fields #[.none,.none,.int (-1) tk]}}:=I2.kept (t':=s2.toks) λb ob q=>Ac _ q
 cases d with
 |tup ds =>
  unfold Rep at rd
  obtain⟨a,vs,rfl,h1,h2,h3⟩:=rd
  cases r1
  obtain⟨its,rv,ht,hz⟩:=I4.tuple h1
  show wpAny (model X.prog X.w) X.A (subscriptTail e (.Slice none none (some (.UnaryOp .USub (.Constant (.int 1) j p1) p2)) p3) (.ref a) (.ref s2.heap.objs.size)) (EP X pj st Q) X.xe {s2 with heap:=s2.heap.push {cls:=.type "slice",data:=.fields #[.none,.none,.int (-1) tk]}}
  refine tail_any (ops:=[.ref a,.ref s2.heap.objs.size]) ht.typeIs A4.lookup (Js ht (Heap.IsSliceOf.new ..) ?_ (by rw[Ar,<- rv.length];exact hz)) (by with_unfolding_all rfl)
  have hp:=I4.hok.fresh (Ae _)
  refine⟨.ref _,_,I4.laid (t':=s2.toks) (o:=.tup vs.reverse) (λb ob q=>Ac _ q) (Ae _) ⟨⟨by rw[Ce];exact hz,_,Ag _ rfl,rfl⟩,its.reverse,Vals.rev rv,IsTup.new _ _⟩,rfl,?_⟩
  exact t1.retX (.new hp _) (so1.new hp _) _ (Rep.newTup so1 hp h2.rev (by rw[Ce];exact h3))
 |_=>exact t1.no.elim⟩
def tupS:D->Bool
 |.tup (.str x::r)=>EJ r&&decide (PyData.depthAll (CJ r)<=50)
 |_=>false
def Lk {d:D}(h:tupS d=true):∃x r,d=.tup (.str x::r)/\EJ r=true/\PyData.depthAll (CJ r)<=50:=by
 unfold tupS at h
 split at h
 ·rename_i x r
  rw[Ai,AA] at h
  exact⟨x,r,rfl,h.1,h.2⟩
 ·cases h
theorem Mg {pj:Zab}{st:L2.St}{s:Shared}(I:L2.Inv X pj st H s){A:Around}{fin:Bool}{Q:Bool->Zaa} :
  ∀(xs ys:List D) (b:Bool) (vs us:List V) (vvs uus:List Value) (i:Nat),GG xs ys=some b->RepL X.z th H xs vs->RepL X.z th H ys us->Vals vs vvs->Vals us uus->A.units+PyData.depthAll (CJ xs)+1<cLine ->
   (i=0->∃x r y r',xs=.str x::r/\ys=.str y::r')->(fin=decide (xs.length<ys.length))->Q b s->W.KatLex X.prog X.w A true fin Q (vvs.zip uus) i s
 |[],[],b,_,_,_,_,i,h,r1,r2,q1,q2,hu,h0,hf,q=>by
  cases r1.inv0;cases r2.inv0;cases q1;cases q2
  unfold GG at h
  cases h
  exact W.kat_nil (by rw[hf];exact q)
 |[],y::ys,b,_,_,_,_,i,h,r1,r2,q1,q2,hu,h0,hf,q=>by
  cases r1.inv0
  obtain⟨v,r,rfl,_,_⟩:=r2.inv
  cases q1
  cases q2
  unfold GG at h
  cases h
  exact W.kat_nil (by rw[hf,BK (by simp)];exact q)
 |x::xs,[],b,_,_,_,_,i,h,r1,r2,q1,q2,hu,h0,hf,q=>by
  cases r2.inv0
  obtain⟨v,r,rfl,_,_⟩:=r1.inv
  cases q1
  cases q2
  unfold GG at h
  cases h
  exact W.kat_nil (by rw[hf,Bi (by simp)];exact q)
 |x::xs,y::ys,b,_,_,_,_,i,h,r1,r2,q1,q2,hu,h0,hf,q=>by
  obtain⟨v,r,rfl,a1,a2⟩:=r1.inv
  obtain⟨u,r',rfl,b1,b2⟩:=r2.inv
  cases q1 with
  |cons g1 g2 =>
   cases q2 with
   |cons k1 k2 =>
    unfold GG at h
    have hd:PyData.depthAll (CJ (x::xs))=max (toPy x).depth (PyData.depthAll (CJ xs)):=by rw[CJ,PyData.depthAll]
    rw[hd] at hu
    by_cases c:(Dl x&&Dl y)=true
    ·rw[if_pos c] at h
     rw[Ai] at c
     obtain⟨as,w1,w2⟩:=EO I x v _ c.1 a1 g1
     obtain⟨bs,w3,w4⟩:=EO I y u _ c.2 b1 k1
     refine W.kat_cons (SeqAt.eqAt_reads _ _ A s _ _ as bs w1 w3 w2 w4 (by ext) _ _ _ _ ?_)
     cases e:PyData.eqv (toPy x) (toPy y) with
     |true =>
      rw[e,if_pos rfl] at h
      refine W.kat_yes (Mg I xs ys b _ _ _ _ (i+1) h a2 b2 g2 k2 (by ext) (λz=>by ext) (by rw[hf];simp) q)
     |false =>
      rw[e,if_neg AN] at h
      refine W.kat_no ?_
      by_cases hi:i=0
      ·subst hi
       obtain⟨x',_,y',_,e1,e2⟩:=h0 rfl
       cases e1
       cases e2
       obtain⟨rfl,_⟩:=(show _/\_ from a1)
       obtain⟨rfl,_⟩:=(show _/\_ from b1)
       obtain⟨t1,rfl⟩:=g1
       obtain⟨t2,rfl⟩:=k1
       unfold ltB at h
       cases h
       exact oneLt_str q
      ·rw[show(true&&i==0)=false by simp[hi]]
       exact W.kat_one _ _ (OF I x y b _ _ _ _ A h a1 b1 g1 k1 (by ext) _ _ _ _ q)
    ·rw[if_neg c] at h;cases h
def Pp (ds:List D)(i j:Nat):Option Bool:=match ds[i]?,ds[j]? with
 |some d,some e=>ltB d e
 |_,_=>none
theorem K7 {pj:Zab}{st:L2.St}{s:Shared}(I:L2.Inv X pj st H s):∀{ds:List D}{vs:List V}{us:List Value},ds.all tupS=true->RepL X.z th H ds vs->Vals vs us->∃fs,W.KatTups s.heap us fs/\fs.length=ds.length/\∀v∈fs,∃x t,v=.str x t
 |[],_,_,_,r,q=>by cases r.inv0;cases q;exact⟨[],.nil,rfl,λ_ h=>nomatch h⟩
 |d::ds,_,_,h,r,q=>by
  obtain⟨v,r',rfl,a1,a2⟩:=r.inv
  rw[List.all_cons,Ai] at h
  cases q with
  |cons q1 q2 =>
   obtain⟨x,es,rfl,_,_⟩:=Lk h.1
   obtain⟨fs,f1,f2,f3⟩:=K7 I h.2 a2 q2
   unfold Rep at a1
   obtain⟨a,ws,rfl,h1,l1,_⟩:=a1
   obtain⟨w0,wr,rfl,l2,_⟩:=RepL.inv l1
   obtain⟨rfl,_⟩:=(show _/\_ from l2)
   cases q1
   obtain⟨its,rv,⟨o,g1,g2,n,g3⟩,_⟩:=I.tuple h1
   cases rv with
   |cons k1 k2 =>
    obtain⟨t,rfl⟩:=k1
    exact⟨_::fs,.cons g1 g2 g3 rfl f1,by simp[f2],λz hz=>(Ao.mp hz).elim (λe=>⟨x,t,e⟩) (f3 z)⟩
theorem X3 {pj:Zab}{st:L2.St}{s:Shared}(I:L2.Inv X pj st H s){ds:List D}{vs:List V}{us:List Value}(hd:ds.all tupS=true)(r:RepL X.z th H ds vs)(q:Vals vs us){A:Around}(hu:A.units+60<cLine) :
  ∀i j b C,Pp ds i j=some b->C b s->W.kas_ask X.prog X.w A (tuples' true) us i j C s:=λi j b C e hC=>by
 unfold Pp at e
 cases e1:ds[i]? with
 |none=>rw[e1] at e;cases e
 |some d =>
  cases e2:ds[j]? with
  |none=>rw[e1,e2] at e;cases e
  |some d' =>
   rw[e1,e2] at e
   have m1:=AW.mp hd d (Aj e1)
   have m2:=AW.mp hd d' (Aj e2)
   obtain⟨x,xs,rfl,_,dx⟩:=Lk m1
   obtain⟨y,ys,rfl,_,dy⟩:=Lk m2
   obtain⟨v,ev,rv⟩:=r.get e1
   obtain⟨v',ev',rv'⟩:=r.get e2
   obtain⟨u,eu,ru⟩:=q.get ev
   obtain⟨u',eu',ru'⟩:=q.get ev'
   unfold W.kas_ask
   rw[show us.getD i Value.none=u by rw[AQ,eu];rfl,show us.getD j Value.none=u' by rw[AQ,eu'];rfl]
   unfold Rep at rv rv'
   obtain⟨a,ws,rfl,h1,l1,_⟩:=rv
   obtain⟨a',ws',rfl,h1',l1',_⟩:=rv'
   cases ru
   cases ru'
   obtain⟨its,rw1,⟨o,g1,g2,n,g3⟩,_⟩:=I.tuple h1
   obtain⟨its',rw2,⟨o',g1',g2',n',g3'⟩,_⟩:=I.tuple h1'
   unfold ltB at e
   refine W.kat_lt g1 g3 g1' g3' ?_
   have hx:PyData.depthAll (CJ (.str x::xs))<=50:=by
    rw[CJ,PyData.depthAll]
    show max 0 _<=50
    ext
   have:=Mg I (A:=A) (fin:=decide (its.toArray.size<its'.toArray.size)) (Q:=C) (.str x::xs) (.str y::ys) b ws ws' its its' 0 e l1 l1' rw1 rw2 (by ext) (λ_=>⟨x,xs,y,ys,rfl,rfl⟩) (by rw[Ar,Ar,<- rw1.length,<- rw2.length,l1.len,l1'.len]) hC
   simpa using this
end
section
variable {prog:Program}{w:World}{A:Around}{E:Value->Zaa}{s:Shared}
def OY {T:String}(hT:T="list"\/T="tuple"){l:Addr}{ob:Obj}{zs:List Value}{n:Nat}{Q:List Value->Zaa}(ho:s.heap.get? l=some ob)(hc:ob.cls=.type T)(hd:ob.data=.seq zs.toArray n)
  (h:Q zs {s with heap:=(s.heap.push (seqObj "list" #[] 0)).update s.heap.objs.size (Obj.mapSeq (·++zs.toArray))}) (hz:zs.length<=sizeLine):wpAny (model prog w) A (collect (.ref l)) Q E s:=by
 unfold collect
 refine Aa (wpAny_runValue (BM entry_proto_collect' ?_))
 show wpAny _ _ (do again (.builtin "list.__iadd__" ⟨[<- newList [],.ref l],[]⟩)) _ _ s
 refine Aa (wpAny_newList (Ab (And.intro (Code.quiet_builtin _ (by symm)) (BM entry_list_iadd' ?_))))
 show wpAny _ _ (Builtin.List.listExtendWith (.ref s.heap.objs.size) (.ref l) (.ref s.heap.objs.size)) _ _ {s with heap:=s.heap.push (seqObj "list" #[] 0)}
 have g:(s.heap.push (seqObj "list" #[] 0)).get? l=some ob:=Ac _ ho
 (unfold Builtin.List.listExtendWith)
 refine Aa (By (T:=T) ⟨ob,g,hc⟩ ?_)
 rw[if_pos (by rcases hT with rfl|rfl<;>simp)]
 refine Aa (listItems_at g hd (Aa (listItems_at (xs:=#[]) (n:=0) (Ag _ rfl) rfl ?_)))
 rw[if_neg (by simp)]
 refine Aa (listUpdate_at (xs:=#[]) (n:=0) (Ag _ rfl) rfl (Ab ?_) (A5 _) (by
  show((#[]:Array Value)++zs.toArray).size<=sizeLine+1
  simp only[Array.size_append,Ar,List.length_nil]
  ext))
 show wpAny (model prog w) A (load s.heap.objs.size>>=λo=>match o.data with
   |.seq xs _=>pure xs.toList
   |_=>unsupported "internal:collect") Q E {s with heap:=(s.heap.push (seqObj "list" #[] 0)).update s.heap.objs.size (Obj.mapSeq (·++zs.toArray))}
 refine Aa (wpAny_load (get?_update_seq (Ag _ rfl) _) ?_)
 show wpAny _ _ (pure ((#[]:Array Value)++zs.toArray).toList) Q E _
 have e0:((#[]:Array Value)++zs.toArray).toList=zs:=by simp
 rw[e0]
 exact Ab h
def R5 {a:Addr}{zs:List Value}{n:Nat}{P:PySem.Fin->Zaa}(ho:s.heap.get? a=some (seqObj "list" zs.toArray n))(h2:zs.length<2)
  (h:P (.done (.ret .none)) {s with heap:=sortedHeap s.heap a zs zs.toArray}):wpAny (model prog w) A (Builtin.«list.sort» ⟨[.ref a],[]⟩) P E s:=by
 rw[list_sort_plain]
 refine Aa (listItems_at ho rfl (Aa (listUpdate_at ho rfl ?_ (by rw[Ar,AH];ext) (A5 _))))
 obtain⟨n1,ho1⟩:∃n1,(s.heap.update a (Obj.mapSeq λ_=>#[])).get? a=some (seqObj "list" #[] n1):=⟨_,get?_update_seq ho λ_=>#[]⟩
 refine Aa (seqEpoch_at ho1 rfl (Aa (wpAny_newTuple (Aa (wpAny_newList (AG ?_) (A5 _))) (by show zs.length<=_;rw[AH];ext))))
 have ho2:(((s.heap.update a (Obj.mapSeq λ_=>#[])).push (seqObj "tuple" zs.toArray 0)).push (seqObj "list" #[] 0)).get? a=some (seqObj "list" #[] n1):=Ac _ (Ac _ ho1)
 show wpAny (model prog w) A _ P E {s with heap:=((s.heap.update a (Obj.mapSeq λ_=>#[])).push (seqObj "tuple" zs.toArray 0)).push (seqObj "list" #[] 0)}
 dsimp only
 have n2:zs.toArray.size<2:=by rw[Ar];exact h2
 rw[if_pos n2,if_pos n2]
 refine Aa (Ab ?_)
 rw[StateT.run_pure]
 refine Aa (Ab ?_)
 dsimp only
 have e0:(arrOf (SortSt.mk' general' (zs.toArray.zip zs.toArray) #[] 7 none)).map (·.2)=zs.toArray:=by
  show(zs.toArray.zip zs.toArray).map (·.2)=zs.toArray
  rw[show zs.toArray.zip zs.toArray=(zs.zip zs).toArray by simp,List.map_toArray,List.map_snd_zip (Ae _)]
 rw[e0]
 refine Aa (seqEpoch_at ho2 rfl (Aa (listUpdate_at ho2 rfl ?_ (A5 _) (by
  show zs.toArray.size<=sizeLine+1
  rw[Ar,AH]
  ext))))
 simp only[bne_self_eq_false,AV,Bt]
 exact Ab h
end
end PV
namespace PV
open PySem PyProof.Rows
structure Pre (n:Nat) (ask:Nat->Nat->Option Bool) (lt:Nat->Nat->Bool):Prop where
 tot:∀i j,i<n->j<n->ask i j=some (lt i j)
 asym:∀i j,i<n->j<n->lt i j=true->lt j i=false
 trans:∀i j k,i<n->j<n->k<n->lt j i=false->lt k j=false->lt k i=false
def gi (p:Array Nat)(k:Nat):Nat:=p.getD k 0
end PV
namespace PV
open PySem L2 PySem.Spec PyProof.Rows
section
variable {X:Cx}{K:Zc}{th:List Addr}{mu:Sto}{H:Hp}
theorem CallV.or {f:Value}{g g':Fn}(h:CallV X f g)(h':CallV X f g'):CallV X f λds mu=>match g ds mu with|some r=>some r|none=>g' ds mu:=by
 intro pj s st H xs us Q I r q
 obtain⟨th,mu,ds,so,rd,t⟩:=q
 cases e:g ds mu with
 |some p =>
  refine h pj s st H xs us Q I r ⟨th,mu,ds,so,rd,?_⟩
  rw[e];simpa only[e] using t
 |none =>
  refine h' pj s st H xs us Q I r ⟨th,mu,ds,so,rd,?_⟩
  simpa only[e] using t
end
mutual
theorem Hg:∀{d:D},hsh d=true->Dl d=true
 |.non,_=>rfl
 |.int _,_=>rfl
 |.str _,_=>rfl
 |.tup ds,h=>by unfold hsh at h;unfold Dl;exact L5 h
 |.bl _,h=>nomatch h
 |.lst _,h=>nomatch h
 |.dct _ _,h=>nomatch h
 |.set _,h=>nomatch h
 |.ref _,h=>nomatch h
theorem L5:∀{ds:List D},E3 ds=true->EJ ds=true
 |[],_=>rfl
 |d::ds,h=>by
  unfold E3 at h
  rw[Ai] at h
  unfold EJ
  rw[Hg h.1,L5 h.2]
  rfl
end
mutual
theorem KD:∀{d:D},hsh d=true->(toPy d).depth=dpt d
 |.non,_=>rfl
 |.int _,_=>rfl
 |.str _,_=>rfl
 |.tup ds,h=>by unfold hsh at h;unfold toPy PyData.depth dpt;rw[Kw h]
 |.bl _,h=>nomatch h
 |.lst _,h=>nomatch h
 |.dct _ _,h=>nomatch h
 |.set _,h=>nomatch h
 |.ref _,h=>nomatch h
theorem Kw:∀{ds:List D},E3 ds=true->PyData.depthAll (CJ ds)=Gf ds
 |[],_=>rfl
 |d::ds,h=>by
  unfold E3 at h
  rw[Ai] at h
  unfold CJ PyData.depthAll Gf
  rw[KD h.1,Kw h.2]
end
mutual
theorem GU:∀{d e:D},hsh d=true->hsh e=true->PyData.eqv (toPy d) (toPy e)=decide (d=e)
 |.tup ds,.tup es,h,g=>by
  unfold hsh at h g
  unfold toPy PyData.eqv
  rw[NJ h g]
  simp
 |.non,e,_,g=>by cases e<;>first|rfl|(simp[toPy,PyData.eqv];done)|cases g
 |.int i,.int j,_,_=>by by_cases c:i=j<;>simp[toPy,PyData.eqv,c]
 |.str i,.str j,_,_=>by by_cases c:i=j<;>simp[toPy,PyData.eqv,c]
 |.int _,.non,_,g=>by simp[toPy,PyData.eqv]
 |.int _,.str _,_,g=>by simp[toPy,PyData.eqv]
 |.int _,.tup _,_,g=>by simp[toPy,PyData.eqv]
 |.str _,.non,_,g=>by simp[toPy,PyData.eqv]
 |.str _,.int _,_,g=>by simp[toPy,PyData.eqv]
 |.str _,.tup _,_,g=>by simp[toPy,PyData.eqv]
 |.int _,.bl _,_,g=>nomatch g
 |.int _,.lst _,_,g=>nomatch g
 |.int _,.dct _ _,_,g=>nomatch g
 |.int _,.set _,_,g=>nomatch g
 |.int _,.ref _,_,g=>nomatch g
 |.str _,.bl _,_,g=>nomatch g
 |.str _,.lst _,_,g=>nomatch g
 |.str _,.dct _ _,_,g=>nomatch g
 |.str _,.set _,_,g=>nomatch g
 |.str _,.ref _,_,g=>nomatch g
 |.tup _,.non,_,_=>by simp[toPy,PyData.eqv]
 |.tup _,.int _,_,_=>by simp[toPy,PyData.eqv]
 |.tup _,.str _,_,_=>by simp[toPy,PyData.eqv]
 |.tup _,.bl _,_,g=>nomatch g
 |.tup _,.lst _,_,g=>nomatch g
 |.tup _,.dct _ _,_,g=>nomatch g
 |.tup _,.set _,_,g=>nomatch g
 |.tup _,.ref _,_,g=>nomatch g
 |.bl _,_,h,_=>nomatch h
 |.lst _,_,h,_=>nomatch h
 |.dct _ _,_,h,_=>nomatch h
 |.set _,_,h,_=>nomatch h
 |.ref _,_,h,_=>nomatch h
theorem NJ:∀{ds es:List D},E3 ds=true->E3 es=true->PyData.eqvAll (CJ ds) (CJ es)=decide (ds=es)
 |[],[],_,_=>by simp[CJ,PyData.eqvAll]
 |[],_::_,_,_=>by simp[CJ,PyData.eqvAll]
 |_::_,[],_,_=>by simp[CJ,PyData.eqvAll]
 |d::ds,e::es,h,g=>by
  unfold E3 at h g
  rw[Ai] at h g
  unfold CJ PyData.eqvAll
  rw[GU h.1 g.1,NJ h.2 g.2]
  by_cases c:d=e<;>by_cases c':ds=es<;>simp[c,c']
end
def E5 {d:D}(h:Dn d=true):hsh d=true/\dpt d<=8:=by
 unfold Dn at h
 rw[Ai,AA] at h
 exact h
structure Hd (h:Heap) (d:D) (u:Value):Prop where
 k:Dn d=true
 ok:(toPy d).canLay0=true
 rd:∃as,Reads h u (toPy d) as
def Ic {X:Cx}{th:List Addr}{H:Hp}{pj:Zab}{st:L2.St}{s:Shared}(I:L2.Inv X pj st H s){d:D}{v:V}{u:Value}(k:Dn d=true)(r:Rep X.z th H d v)(q:RelV v u):Hd s.heap d u:=by
 obtain⟨as,h1,h2⟩:=EO I d v u (Hg (E5 k).1) r q
 exact⟨k,h2,as,h1⟩
section
variable {prog:Program}{w:World}{E:Value->Zaa}
mutual
theorem S0:∀(d:D) (u:Value) (as:List Addr) (A:Around) (s:Shared) (Q:Int->Zaa),hsh d=true->Reads s.heap u (toPy d) as->A.units+dpt d<cLine->(∀tk,Q (DK w d) {s with toks:=tk})->wpAny (model prog w) A (pyHash u) Q E s
 |.non,_,as,A,s,Q,_,x,hu,h=>by
  cases x
  exact W.pyHash_slot (T:="NoneType") rfl F.slot_NoneType_hash F.entry_NoneType_hash (F.args_NoneType_hash_1 _) (beq_builtin_none _) (.inr (by unfold dpt at hu;ext)) (Aa (Ab (Aa (wpAny_mkInt (Ab ⟨_,_,rfl,h _⟩)))))
 |.int i,_,as,A,s,Q,_,x,_,h=>by cases x;exact wpAny_pyHash_int (h _)
 |.str y,_,as,A,s,Q,_,x,_,h=>by cases x;exact wpAny_pyHash_str (h _)
 |.tup ds,_,as,A,s,Q,hk,x,hu,h=>by
  unfold toPy at x
  cases x with
  |@tuple a o vs n _ _ g1 g2 g3 hw =>
   unfold dpt at hu
   refine W.pyHash_slot (T:="tuple") ⟨_,g1,g2⟩ F.slot_tuple_hash F.entry_tuple_hash (F.args_tuple_hash_1 _) (beq_builtin_none _) (.inr (by ext)) ?_
   refine(?_:wpAny _ _ (Builtin.Tuple.tupleItemsOf (.ref a)>>=_) _ _ s)
   refine Aa (wpAny_tupleItemsOf g1 g3 (Aa ?_))
   rw[<- Array.forIn_toList]
   refine P5 ds vs.toList as A.in1 s #[] _ (by unfold hsh at hk;exact hk) hw (by rw[Around.in1_units];ext) λtk b hb=>?_
   refine(?_:wpAny _ _ (retInt (Builtin.Tuple.tupleHashOf b.toList)) _ _ _)
   rw[hb]
   exact Aa (wpAny_mkInt (Ab ⟨_,_,rfl,h _⟩))
 |.bl _,_,_,_,_,_,h,_,_,_=>nomatch h
 |.lst _,_,_,_,_,_,h,_,_,_=>nomatch h
 |.dct _ _,_,_,_,_,_,h,_,_,_=>nomatch h
 |.set _,_,_,_,_,_,h,_,_,_=>nomatch h
 |.ref _,_,_,_,_,_,h,_,_,_=>nomatch h
theorem P5:∀(ds:List D) (vs:List Value) (as:List Addr) (A:Around) (s:Shared) (b:Array Int) (Q:Array Int->Zaa),E3 ds=true->ReadsAll s.heap vs (CJ ds) as->A.units+Gf ds<cLine ->
  (∀tk b',b'.toList=b.toList++EL w ds->Q b' {s with toks:=tk}) ->
  wpAny (model prog w) A (forIn vs b λx r=>do let h<-pyHash x;pure PUnit.unit;pure (ForInStep.yield (r.push h))) Q E s
 |[],_,as,A,s,b,Q,_,x,_,h=>by unfold CJ at x;cases x;exact Ab (h s.toks b (by simp[EL]))
 |d::ds,_,as,A,s,b,Q,hk,x,hu,h=>by
  unfold CJ at x
  cases x with
  |cons x1 x2 =>
   unfold E3 at hk
   rw[Ai] at hk
   unfold Gf at hu
   rw[List.forIn_cons]
   refine Aa (Aa (S0 d _ _ A s _ hk.1 x1 (by ext) λtk=>Aa (Ab (Ab ?_))))
   exact P5 ds _ _ A {s with toks:=tk} _ Q hk.2 x2 (by ext) λtk' b' hb=>h tk' b' (by simp[hb,EL])
end
def Hd.hash {A:Around}{s:Shared}{d:D}{u:Value}{Q:Int->Zaa}(x:Hd s.heap d u)(hu:A.units+8<cLine)(h:∀tk,Q (DK w d) {s with toks:=tk}):wpAny (model prog w) A (pyHash u) Q E s:=by
 obtain⟨as,r⟩:=x.rd
 have:=E5 x.k
 exact S0 d u as A s Q this.1 r (by ext) h
def Hd.eq {A:Around}{s:Shared}{d e:D}{u v:Value}{Q:Bool->Zaa}(x:Hd s.heap d u)(y:Hd s.heap e v)(hu:A.units+8<cLine)(h:Q (decide (d=e)) s):wpAny (model prog w) A (eqBool u v) Q E s:=by
 obtain⟨as,r⟩:=x.rd
 obtain⟨bs,r'⟩:=y.rd
 have k1:=E5 x.k
 have k2:=E5 y.k
 refine SeqAt.eqAt_reads _ _ A s u v as bs r r' x.ok y.ok (by rw[KD k1.1,KD k2.1];ext) prog w E Q ?_
 rw[GU k1.1 k2.1]
 exact h
mutual
theorem P9:∀(n:Nat) (d:D) (u:Value) (as:List Addr) (A:Around) (s:Shared) (Q:Bool->Zaa),hsh d=true->dpt d<=n->Reads s.heap u (toPy d) as->Q true s->wpAny (model prog w) A (eqIsQuiet n u) Q E s
 |n,.non,_,as,A,s,Q,_,_,x,h=>by cases x;rw[eqIsQuiet_byValue n rfl];exact Ab h
 |n,.int _,_,as,A,s,Q,_,_,x,h=>by cases x;rw[eqIsQuiet_byValue n rfl];exact Ab h
 |n,.str _,_,as,A,s,Q,_,_,x,h=>by cases x;rw[eqIsQuiet_byValue n rfl];exact Ab h
 |n,.tup ds,_,as,A,s,Q,hk,hn,x,h=>by
  unfold toPy at x
  cases x with
  |@tuple a o vs k _ _ g1 g2 g3 hw =>
   unfold dpt at hn
   obtain⟨m,rfl⟩:∃m,n=m+1:=⟨n-1,by ext⟩
   have hT:s.TypeIs (.ref a) "tuple":=⟨o,g1,g2⟩
   unfold eqIsQuiet
   refine Aa (wpAny_specialOf hT F.slot_tuple_eq.lookup ?_)
   refine(?_:wpAny _ _ (isInstance (.ref a) (.type "tuple")>>=_) _ _ s)
   refine Aa (BH hT isSubtype_tuple_tuple ?_)
   simp only[Bool.not_true,AV,Bt]
   refine Aa (Bz g1 g3 (Aa ?_))
   refine(?_:wpAny _ _ (forIn vs _ _) _ _ s)
   rw[<- Array.forIn_toList]
   exact NT m ds vs.toList as A s _ (by unfold hsh at hk;exact hk) (by ext) hw (Ab h)
 |_,.bl _,_,_,_,_,_,h,_,_,_=>nomatch h
 |_,.lst _,_,_,_,_,_,h,_,_,_=>nomatch h
 |_,.dct _ _,_,_,_,_,_,h,_,_,_=>nomatch h
 |_,.set _,_,_,_,_,_,h,_,_,_=>nomatch h
 |_,.ref _,_,_,_,_,_,h,_,_,_=>nomatch h
theorem NT:∀(m:Nat) (ds:List D) (vs:List Value) (as:List Addr) (A:Around) (s:Shared) (Q:Option Bool×PUnit->Zaa),E3 ds=true->Gf ds<=m->ReadsAll s.heap vs (CJ ds) as->Q (none,PUnit.unit) s ->
  wpAny (model prog w) A (forIn vs ((none,PUnit.unit):Option Bool×PUnit) λy r=>do
    let q<-eqIsQuiet m y
    if (!q)=true then pure (ForInStep.done (some false,PUnit.unit)) else pure (ForInStep.yield (none,PUnit.unit))) Q E s
 |m,[],_,as,A,s,Q,_,_,x,h=>by unfold CJ at x;cases x;exact Ab h
 |m,d::ds,_,as,A,s,Q,hk,hn,x,h=>by
  unfold CJ at x
  cases x with
  |cons x1 x2 =>
   unfold E3 at hk
   rw[Ai] at hk
   unfold Gf at hn
   rw[List.forIn_cons]
   refine Aa (Aa (P9 m d _ _ A s _ hk.1 (by ext) x1 ?_))
   simp only[Bool.not_true,AV,Bt]
   exact Ab (NT m ds _ _ A s Q hk.2 (by ext) x2 h)
end
def Hd.quiet {A:Around}{s:Shared}{d:D}{u:Value}{Q:Bool->Zaa}(x:Hd s.heap d u)(h:Q true s):wpAny (model prog w) A (eqIsQuiet 8 u) Q E s:=by
 obtain⟨as,r⟩:=x.rd
 have k:=E5 x.k
 exact P9 8 d u as A s Q k.1 k.2 r h
end
def EnK (w:World)(h:Heap)(k:D)(e:DictEntry):Prop:=e.hash=DK w k/\Hd h k e.key
theorem DZ {α β:Type}{F:α->β->Prop}:∀{xs:List α}{ys:List β},Paired F xs ys->∀j:Nat,(∀x,xs[j]?=some x->∃y,ys[j]?=some y/\F x y)/\(∀y,ys[j]?=some y->∃x,xs[j]?=some x/\F x y)
 |_,_,.nil,j=>⟨λx e=>by simp at e,λy e=>by simp at e⟩
 |_,_,.cons r t,0=>⟨λx e=>by simp at e;subst e;exact⟨_,rfl,r⟩,λy e=>by simp at e;subst e;exact⟨_,rfl,r⟩⟩
 |_,_,.cons r t,j+1=>by simpa using DZ t j
theorem DF {α β:Type}{F:α->β->Prop}:∀{xs:List α}{ys:List β},Paired F xs ys->xs.length=ys.length
 |_,_,.nil=>rfl
 |_,_,.cons _ t=>by simp[DF t]
def S2 {h:Heap}{k:D}{y:Str}{t:Tok}(x:Hd h k (.str y t)):k=.str y:=by
 obtain⟨as,r⟩:=x.rd
 have hk:=(E5 x.k).1
 cases k<;>first|(cases hk;done)|(unfold toPy at r;cases r;done)|(unfold toPy at r;cases r;rfl)
def Yk {h:Heap}{k k':D}{u:Value}(x:Hd h k u)(y:Hd h k' u):k=k':=by
 obtain⟨as,r⟩:=x.rd
 obtain⟨bs,r'⟩:=y.rd
 have hk:=(E5 x.k).1
 have hk':=(E5 y.k).1
 have e:toPy k=toPy k':=SeqAt.Reads.unique _ _ _ _ _ x.ok r r'
 have:=GU hk hk'
 rw[<- e,GU hk hk] at this
 simpa using this
def Wr {ks:List D}(hn:ks.Nodup){i j:Nat}{k:D}(a:ks[i]?=some k)(b:ks[j]?=some k):i=j:=by
 obtain⟨hi,ei⟩:=Ad.mp a
 exact(List.getElem?_inj hi hn).mp (a.trans b.symm)
section
variable {prog:Program}{w:World}{A:Around}{E:Value->Zaa}{s:Shared}
def Ht {α:Type}{M:Model}{c:Prop} [Decidable c]{x y:Sem α}{Q:α->Zaa}(h1:c->wpAny M A x Q E s)(h2:¬ c->wpAny M A y Q E s):wpAny M A (if c then x else y) Q E s:=by
 by_cases h:c
 ·rw[if_pos h];exact h1 h
 ·rw[if_neg h];exact h2 h
def UY {k:D}{u:Value}{stored:List Value}{Q:Bool->Zaa}(hk:Hd s.heap k u)(hst:∀v∈stored,∃k',Hd s.heap k' v)(h:Q false s):wpAny (model prog w) A (tableMayTell u stored) Q E s:=by
 unfold tableMayTell
 split
 ·exact Ab h
 ·refine Aa (hk.quiet ?_)
  simp only[Bool.not_true,AV,Bt]
  refine Aa (wpAny_forIn_list _ (λrest r s'=>s'=s/\r=(none,PUnit.unit)/\∀v∈rest,∃k',Hd s.heap k' v) _ ?_ ?_ _ _ ⟨rfl,rfl,hst⟩)
  ·rintro x rest r s' ⟨rfl,rfl,hr⟩
   obtain⟨k',hb⟩:=hr x List.mem_cons_self
   refine Aa (hb.quiet ?_)
   simp only[Bool.not_true,AV,Bt]
   exact Ab ⟨rfl,rfl,λv hv=>hr v (BC _ hv)⟩
  ·rintro r s' ⟨rfl,rfl,_⟩;exact Ab h
def mS {α:Type}{M:Model}{u:Value}{f:Str->Tok->Sem α}{g:Value->Sem α}{Q:α->Zaa}(h1:∀x t,u=.str x t->wpAny M A (f x t) Q E s)(h2:∀v,wpAny M A (g v) Q E s):wpAny M A (isExactStrKey.match_1 (λ_=>Sem α) u f g) Q E s:=by
 cases u<;>first|exact h1 _ _ rfl|exact h2 _
def mR {α:Type}{M:Model}{u:Value}{f:Addr->Sem α}{g:Value->Sem α}{Q:α->Zaa}(h1:∀b,u=.ref b->wpAny M A (f b) Q E s)(h2:∀v,wpAny M A (g v) Q E s):wpAny M A (carriedByValue.match_1 (λ_=>Sem α) u f g) Q E s:=by
 cases u<;>first|exact h1 _ rfl|exact h2 _
def mO {α:Type}{M:Model}{o:Option DictEntry}{e:DictEntry}{f:DictEntry->Sem α}{g:Option DictEntry->Sem α}{Q:α->Zaa}(h:o=some e)(h1:wpAny M A (f e) Q E s):wpAny M A (dictWalkPlain.match_1 (λ_=>Sem α) o f g) Q E s:=by
 rw[h];exact h1
def JU {a:Addr}{o:Obj}{es:Array DictEntry}{ep:Nat}{ks:List D}{k:D}{u:Value}{Q:Option Nat->Zaa}(hu:A.units+8<cLine)(hk:Hd s.heap k u)(ho:s.heap.get? a=some o)(hd:o.data=.dict es ep)
  (he:Paired (EnK w s.heap) ks es.toList) (hn:ks.Nodup) (h0:k∉ks->Q none s) (h1:∀j,ks[j]?=some k->Q (some j) s):wpAny (model prog w) A (dictFind a u (DK w k)) Q E s:=by
 have hat:∀j e,es[j]?=some e->∃k',ks[j]?=some k'/\EnK w s.heap k' e:=λj e q=>(DZ he j).2 e (by rw[Af];exact q)
 have hto:∀j k',ks[j]?=some k'->∃e,es[j]?=some e/\EnK w s.heap k' e:=λj k' q=>by
  obtain⟨e,e1,e2⟩:=(DZ he j).1 k' q
  exact⟨e,by rw[<- Af];exact e1,e2⟩
 have hsz:es.size=ks.length:=by rw[DF he,Array.length_toList]
 have hno:(∀j,ks[j]?≠some k)->k∉ks:=λq z=>by obtain⟨j,e⟩:=AL.mp z;exact q j e
 unfold dictFind
 try with_reducible refine AG ?_
 refine Aa (Bc ho hd ?_)
 have hp:∀j,ks[j]?=some k->(es[j]?.map (λe:DictEntry=>e.hash)==some (DK w k))=true:=λj q=>by
  obtain⟨e,e1,e2,_⟩:=hto j k q
  rw[e1];simp[e2]
 have walk:wpAny (model prog w) A (dictWalkPlain a u (DK w k) es (placesWithHash es.size (λi=>es[i]?.map (λe:DictEntry=>e.hash)) (DK w k))) Q E s:=by
  unfold dictWalkPlain
  refine Aa (wpAny_forIn_list _ (λrest b s'=>s'=s/\b=(none,PUnit.unit)/\∃i,rest=(List.range' i (es.size-i)).filter (λi=>es[i]?.map (λe:DictEntry=>e.hash)==some (DK w k))/\i<=es.size/\∀j,j<i->ks[j]?≠some k) _ ?_ ?_ _ _
   ⟨rfl,rfl,0,by rw[placesWithHash,List.range_eq_range',Nat.sub_zero],A5 _,λj z=>absurd z (Nat.not_lt_zero _)⟩)
  ·rintro x rest b s' ⟨rfl,rfl,i,hr,hi,hH⟩
   obtain⟨hix,hxn,hpx,hskip,hrest⟩:=filter_range'_cons _ _ _ _ _ hr.symm
   have hlt:x<es.size:=by ext
   have ex:es[x]?=some es[x]:=Av hlt
   obtain⟨k',e1,e2,e3⟩:=hat x _ ex
   rw[ex] at hpx
   have hh:es[x].hash=DK w k:=by simpa using hpx
   have hh':(es[x].hash==DK w k)=true:=by simpa using hh
   have nx:∀j,j<x->ks[j]?≠some k:=λj hj q=>by
    rcases B4 j i with z|z
    ·exact hH j z q
    ·have:=hskip j z hj;rw[hp j q] at this;cases this
   refine mO ex (Ht (λ_=>Aa (Bk ho hd (Aa (e3.eq hk hu (Aa (Bk ho hd (Ht (λz=>absurd z (by simp)) λ_=>?_))))))) λz=>absurd hh' z)
   refine Ht (λc=>?_) λc=>?_
   ·exact Aa (A7 (Ab (Ab (h1 x ((of_decide_eq_true c)▸e1)))))
   ·refine Aa (A7 (Ab ⟨rfl,rfl,x+1,by rw[hrest];congr 2;ext,hlt,λj hj q=>?_⟩))
    rcases B4 j x with z|z
    ·exact nx j z q
    ·have:j=x:=by ext
     rw[this,e1] at q
     exact c (BK (AR q))
  ·rintro b s' ⟨rfl,rfl,i,hr,hi,hH⟩
   refine Ab (h0 (hno λj q=>?_))
   rcases B4 j i with z|z
   ·exact hH j z q
   ·have hj:j<es.size:=by rw[hsz];exact(Ad.mp q).1
    have:=List.filter_eq_nil_iff.mp hr.symm j (List.mem_range'_1.mpr ⟨z,by ext⟩)
    exact this (hp j q)
 have hst:∀v∈(placesWithHash es.size (λi=>es[i]?.map (λe:DictEntry=>e.hash)) (DK w k)).filterMap (λi=>es[i]?.map (λe:DictEntry=>e.key)),∃k',Hd s.heap k' v:=λv hv=>by
  obtain⟨i,_,hi⟩:=List.mem_filterMap.mp hv
  cases ei:es[i]? with
  |none=>rw[ei] at hi;cases hi
  |some e =>
   rw[ei] at hi
   obtain rfl:e.key=v:=by simpa using hi
   obtain⟨k',_,_,q⟩:=hat i e ei
   exact⟨k',q⟩
 have hany:∀b,u=.ref b->¬ (es.any λe=>e.key==u&&e.hash != DK w k)=true:=λb hb=>by
  rw[<- Array.any_toList,List.any_eq_true]
  rintro⟨e,hin,hc⟩
  obtain⟨j,ej⟩:=AL.mp hin
  obtain⟨k',_,q1,q2⟩:=hat j e (by rw[<- Af];exact ej)
  rw[Ai,bne_iff_ne] at hc
  have ek:e.key=u:=eq_of_beq hc.1
  rw[ek] at q2
  exact hc.2 (by rw[q1,Yk q2 hk])
 have str:∀x t,u=.str x t->(es.all λe=>isExactStrKey e.key)=true->wpAny (model prog w) A (foundByValue a u es x) Q E s:=λx t hux hall=>by
  subst hux
  have kx:=S2 hk
  subst kx
  have hiff:∀e∈es.toList,∀k',Hd s.heap k' e.key->(e.key.isStr x=true↔k'=.str x):=λe hm k' q=>by
   rw[<- Array.all_toList,AW] at hall
   have:=hall e hm
   cases ek:e.key<;>rw[ek] at this q<;>first|(cases this;done)|skip
   rename_i y ty
   rw[S2 q]
   show(y==x)=true↔_
   simp
  have hidx:es.findIdx? (λe=>e.key.isStr x)=es.toList.findIdx? (λe=>e.key.isStr x):=by cases es;simp
  unfold foundByValue
  rw[hidx]
  cases hr:es.toList.findIdx? (λe=>e.key.isStr x) with
  |none =>
   refine Ab (h0 (hno λj q=>?_))
   obtain⟨e,e1,e2,e3⟩:=hto j _ q
   have hm:e∈es.toList:=Aj (by rw[Af];exact e1)
   have:=List.findIdx?_eq_none_iff.mp hr e hm
   rw[(hiff e hm _ e3).mpr rfl] at this
   cases this
  |some j =>
   obtain⟨hj,hpj,_⟩:=List.findIdx?_eq_some_iff_getElem.mp hr
   have he':es[j]?=some es.toList[j]:=by rw[<- Af];exact Al hj
   obtain⟨k',e1,e2,e3⟩:=hat j _ he'
   have kk:=(hiff _ (BG hj) _ e3).mp hpj
   subst kk
   dsimp only
   rw[he']
   dsimp only
   refine Aa (Bk ho hd (Aa (e3.eq hk hu (Aa (Bk ho hd ?_)))))
   rw[if_neg (by simp),BK rfl]
   exact Aa (A7 (Ab (h1 j e1)))
 suffices g:wpAny (model prog w) A _ Q E s from mS (λx t hx=>Ht (λhall=>str x t hx hall) λ_=>g) λ_=>g
 refine Ht (λ_=>walk) λ_=>?_
 suffices g:wpAny (model prog w) A _ Q E s from mR (λb hb=>Ht (λz=>absurd z (hany b hb)) λ_=>g) λ_=>g
 suffices g:wpAny (model prog w) A _ Q E s from Ht (λ_=>Aa (Ab g)) λ_=>Aa (UY hk hst g)
 refine Ht (λz=>absurd z (by simp)) λ_=>?_
 refine Aa (wpAny_forIn_list _ (λrest b s'=>s'=s/\∃i hit,b=(none,hit)/\rest=(List.range' i (es.size-i)).filter (λi=>es[i]?.map (λe:DictEntry=>e.hash)==some (DK w k))/\i<=es.size /\
   ((hit=none/\∀j,j<i->ks[j]?≠some k)\/∃j,hit=some j/\j<i/\ks[j]?=some k)) _ ?_ ?_ _ _
  ⟨rfl,0,none,rfl,by rw[placesWithHash,List.range_eq_range',Nat.sub_zero],A5 _,.inl ⟨rfl,λj z=>absurd z (Nat.not_lt_zero _)⟩⟩)
 ·rintro x rest b s' ⟨rfl,i,hit,rfl,hr,hi,hH⟩
  obtain⟨hix,hxn,hpx,hskip,hrest⟩:=filter_range'_cons _ _ _ _ _ hr.symm
  have hlt:x<es.size:=by ext
  have hrest':rest=(List.range' (x+1) (es.size-(x+1))).filter (λi=>es[i]?.map (λe:DictEntry=>e.hash)==some (DK w k)):=by rw[hrest];congr 2;ext
  have ex:es[x]?=some es[x]:=Av hlt
  obtain⟨k',e1,e2,e3⟩:=hat x _ ex
  rw[ex] at hpx
  have hh:es[x].hash=DK w k:=by simpa using hpx
  have hh':(es[x].hash==DK w k)=true:=by simpa using hh
  have hx:(hit=none/\∀j,j<x->ks[j]?≠some k)\/∃j,hit=some j/\j<x/\ks[j]?=some k:=by
   rcases hH with⟨z0,hno'⟩|⟨j,z1,hji,hj⟩
   ·refine .inl ⟨z0,λj hj q=>?_⟩
    rcases B4 j i with z|z
    ·exact hno' j z q
    ·have:=hskip j z hj;rw[hp j q] at this;cases this
   ·exact .inr ⟨j,z1,by ext,hj⟩
  refine mO ex (Ht (λ_=>Aa (Bk ho hd (Aa (e3.eq hk hu (Aa (Bk ho hd (Ht (λz=>absurd z (by simp)) λ_=>?_))))))) λz=>absurd hh' z)
  refine Ht (λc=>?_) λc=>?_
  ·have e1:ks[x]?=some k:=(of_decide_eq_true c)▸e1
   rcases hx with⟨z0,_⟩|⟨j,_,hjx,hj⟩
   ·exact Ht (λz=>absurd z (by simp[z0])) λ_=>Aa (A7 (Ht (λ_=>Ab (Ab (h1 x e1))) λ_=>Ab ⟨rfl,x+1,some x,rfl,hrest',hlt,.inr ⟨x,rfl,Bh x,e1⟩⟩))
   ·exact absurd (Wr hn hj e1) (by ext)
  ·refine Aa (A7 (Ht (λz=>absurd z (by simp)) λ_=>Ab ⟨rfl,x+1,hit,rfl,hrest',hlt,?_⟩))
   rcases hx with⟨z0,hno'⟩|⟨j,z1,hji,hj⟩
   ·refine .inl ⟨z0,λj hj q=>?_⟩
    rcases B4 j x with z|z
    ·exact hno' j z q
    ·have:j=x:=by ext
     rw[this,e1] at q
     exact c (BK (AR q))
   ·exact .inr ⟨j,z1,by ext,hj⟩
 ·rintro b s' ⟨rfl,i,hit,rfl,hr,hi,hH⟩
  rcases hH with⟨rfl,hno'⟩|⟨j,rfl,_,hj⟩
  ·refine Ab (h0 (hno λj q=>?_))
   rcases B4 j i with z|z
   ·exact hno' j z q
   ·have hj:j<es.size:=by rw[hsz];exact(Ad.mp q).1
    exact List.filter_eq_nil_iff.mp hr.symm j (List.mem_range'_1.mpr ⟨z,by ext⟩) (hp j q)
  ·exact Ab (h1 j hj)
end
def Dv (k:D):List D->List D->Option D
 |k'::ks,d::ds=>if k'=k then some d else Dv k ks ds
 |_,_=>none
def IH (k v:D):List D->List D->List D
 |k'::ks,d::ds=>(if k'=k then v else d)::IH k v ks ds
 |_,ds=>ds
def DE (k v:D)(ks ds:List D):List D×List D:=if k∈ks then (ks,IH k v ks ds) else (ks++[k],ds++[v])
theorem F1 {k:D}:∀{ks ds:List D},k∉ks->Dv k ks ds=none
 |[],_,_=>rfl
 |_::_,[],_=>rfl
 |k'::ks,d::ds,h=>by
  rw[Ao,not_or] at h
  rw[Dv,if_neg (λe=>h.1 e.symm),F1 h.2]
theorem GZ {k:D}:∀{ks ds:List D}{j:Nat},ks.Nodup->ks[j]?=some k->Dv k ks ds=ds[j]?
 |[],_,_,_,e=>by simp at e
 |_::_,[],_,_,_=>by simp[Dv]
 |k'::ks,d::ds,0,n,e=>by simp at e;subst e;simp[Dv]
 |k'::ks,d::ds,j+1,n,e=>by
  rw[BX] at n
  simp at e
  have:k'≠k:=λz=>n.1 (by rw[z];exact Aj e)
  rw[Dv,if_neg this,GZ n.2 e]
  rfl
theorem Ot {k v:D}:∀{ks ds:List D},k∉ks->IH k v ks ds=ds
 |[],_,_=>rfl
 |_::_,[],_=>rfl
 |k'::ks,d::ds,h=>by
  rw[Ao,not_or] at h
  rw[IH,if_neg (λe=>h.1 e.symm),Ot h.2]
theorem Kr {k v:D}:∀{ks ds:List D}{j:Nat},ks.Nodup->ks[j]?=some k->IH k v ks ds=ds.set j v
 |[],_,_,_,e=>by simp at e
 |_::_,[],_,_,_=>by simp[IH]
 |k'::ks,d::ds,0,n,e=>by
  simp at e
  subst e
  rw[BX] at n
  rw[IH,if_pos rfl,Ot n.1]
  rfl
 |k'::ks,d::ds,j+1,n,e=>by
  rw[BX] at n
  simp at e
  have:k'≠k:=λz=>n.1 (by rw[z];exact Aj e)
  rw[IH,if_neg this,Kr n.2 e]
  rfl
def DcAt (K:Zc)(th:List Addr)(H:Hp)(a:Addr)(ks ds:List D):Prop:=∃xs,H a=some (D1 a xs)/\xs.map (·.1)=EL K.w ks/\RepL K th H ks (xs.map (·.2.1))/\RepL K th H ds (xs.map (·.2.2))/\KeysOk ks
def DC (mu:Sto):D->Option (List D×List D)
 |.dct ks ds=>some (ks,ds)
 |.ref k=>match mu[k]? with
  |some (.dct ks ds)=>some (ks,ds)
  |_=>none
 |_=>none
section
variable {X:Cx}{K:Zc}{th:List Addr}{mu:Sto}{H:Hp}{pj:Zab}{st:L2.St}{s:Shared}{A:Around}{E:Value->Zaa}
def D6 (so:StoOk K th mu H){d:D}{p:List D×List D}{v:V}(h:DC mu d=some p)(r:Rep K th H d v):∃a,v=.ref a/\DcAt K th H a p.1 p.2:=by
 unfold DC at h
 split at h
 ·cases h;unfold Rep at r;obtain⟨a,xs,rfl,_,h1⟩:=r;exact⟨a,rfl,xs,h1⟩
 ·split at h
  ·rename_i k _ ks ds e
   cases h
   unfold Rep at r
   obtain⟨a,rfl,ha⟩:=r
   exact⟨a,rfl,so.at' k a _ ha e⟩
  ·cases h
 ·cases h
structure DcO (X:Cx) (th:List Addr) (H:Hp) (s:Shared) (a:Addr) (ks ds:List D) (xs:List (Int×V×V)) (o:Obj) (es:Array DictEntry) (ep:Nat):Prop where
 ns:(a==sysModules)=false
 at':s.heap.get? a=some o
 ex:o.ExactDict
 dt:o.data=.dict es ep
 pr:Paired (λ(x:Int×V×V) (e:DictEntry)=>e.hash=x.1/\RelV x.2.1 e.key/\RelV x.2.2 e.val) xs es.toList
 en:Paired (EnK X.w s.heap) ks es.toList
 xl:xs.length=ks.length
 dl:ds.length=ks.length
theorem Nb {α β:Type}{F:α->β->Prop}:∀{xs:List α}{ys:List β},xs.length=ys.length->(∀(j:Nat) x y,xs[j]?=some x->ys[j]?=some y->F x y)->Paired F xs ys
 |[],[],_,_=>.nil
 |[],_::_,h,_=>by simp at h
 |_::_,[],h,_=>by simp at h
 |x::xs,y::ys,h,f=>.cons (f 0 x y rfl rfl) (Nb (by simpa using h) λj a b e1 e2=>f (j+1) a b (by simpa using e1) (by simpa using e2))
def Hs (I:L2.Inv X pj st H s){a:Addr}{ks ds:List D}(h:DcAt X.z th H a ks ds):∃xs o es ep,H a=some (D1 a xs)/\DcO X th H s a ks ds xs o es ep:=by
 obtain⟨xs,h1,h2,h3,h4,h5⟩:=h
 obtain⟨⟨z,o,es,ep,g1,g2,g3,g4,ge⟩,_⟩:=(show ObjOk X.prog X.w H s.heap a (D1 a xs) from I.hok a _ h1)
 have xl:xs.length=ks.length:=by have:=h3.len;simpa using this
 refine⟨xs,o,es,ep,h1,z,g1,g2,g3,g4,?_,xl,by have:=h4.len;rw[Ak] at this;ext⟩
 refine Nb (by rw[<- DF g4,xl]) λj k e e1 e2=>?_
 obtain⟨x,q1,q2,q3,q4⟩:=(DZ g4 j).2 e e2
 have hh:(xs.map (·.1))[j]?=(EL X.w ks)[j]?:=by rw[h2]
 rw[DP,Am,Am,q1,e1] at hh
 obtain⟨v,v1,v2⟩:=h3.get e1
 rw[Am,q1] at v1
 have v1':x.2.1=v:=by simpa using v1
 refine⟨by rw[q2];simpa using hh,Ic I (h5.ok k (Aj e1)) v2 (by rw[<- v1'];exact q3)⟩
def Ym (I:L2.Inv X pj st H s){a:Addr}{ks ds:List D}(h:DcAt X.z th H a ks ds){k:D}{u:Value}(hk:Hd s.heap k u)(hu:A.units+8<cLine){Q:Option Value->Zaa}
  (q0:Dv k ks ds=none->∀tk,Q none {s with toks:=tk}) (q1:∀d v r,Dv k ks ds=some d->Rep X.z th H d v->RelV v r->∀tk,Q (some r) {s with toks:=tk}):wpAny (model X.prog X.w) A (dictGet a u) Q E s:=by
 obtain⟨xs,o,es,ep,h1,g⟩:=Hs I h
 obtain⟨xs',h1',h2,h3,h4,h5⟩:=id h
 unfold dictGet
 refine AG (Aa (hk.hash hu λtk=>Aa (JU (s:={s with toks:=tk}) hu hk g.at' g.dt g.en h5.nd (λz=>Ab (q0 (F1 z) tk)) λj ej=>?_)))
 refine Aa (Bc (s:={s with toks:=tk}) g.at' g.dt ?_)
 obtain⟨e,e1,e2⟩:=(DZ g.en j).1 k ej
 rw[Af] at e1
 rw[e1]
 obtain⟨⟨z',o',es',ep',g1,g2,g3,g4,ge⟩,_⟩:=(show ObjOk X.prog X.w H s.heap a (D1 a xs') from I.hok a _ h1')
 have g1':=g.at'
 rw[g1] at g1'
 cases g1'
 have g3':=g.dt
 rw[g3] at g3'
 cases g3'
 obtain⟨x,x1,x2,x3,x4⟩:=(DZ g4 j).2 e (by rw[Af];exact e1)
 have vj:(xs'.map (·.2.2))[j]?=some x.2.2:=by rw[Am,x1];rfl
 obtain⟨d,d1,d2⟩:=h4.getV vj
 exact Ab (q1 d _ _ (by rw[GZ h5.nd ej];exact d1) d2 x4 tk)
theorem Ii {α β:Type}{F:α->β->Prop}:∀{xs:List α}{ys:List β} (j:Nat){x:α}{y:β},Paired F xs ys->F x y->Paired F (xs.set j x) (ys.set j y)
 |_,_,_,_,_,.nil,_=>.nil
 |_,_,0,_,_,.cons _ t,f=>.cons f t
 |_,_,j+1,_,_,.cons r t,f=>.cons r (Ii j t f)
theorem Hb {α β:Type}{F:α->β->Prop}:∀{xs xs':List α}{ys ys':List β},Paired F xs ys->Paired F xs' ys'->Paired F (xs++xs') (ys++ys')
 |_,_,_,_,.nil,t=>t
 |_,_,_,_,.cons r t,t'=>.cons r (Hb t t')
def R0 (I:L2.Inv X pj st H s){a:Addr}{ks ds:List D}(h:DcAt X.z th H a ks ds)(ext:∀xs,Ext th H th (upd H a (D1 a xs)))(so:StoOk X.z th mu H){k v:D}{kv vv:V}{u r:Value}(hk:Dn k=true)(rk:Rep X.z th H k kv)(ru:RelV kv u)(rv:Rep X.z th H v vv)(rr:RelV vv r)(lt:ks.length<sizeLine)(hu:A.units+8<cLine)
  {Q:Unit->Zaa} (q:∀s' xs',L2.Inv X pj st (upd H a (D1 a xs')) s'->DcAt X.z th (upd H a (D1 a xs')) a (DE k v ks ds).1 (DE k v ks ds).2->Q () s'):wpAny (model X.prog X.w) A (dictSet a u r) Q E s:=by
 have hd:=Ic I hk rk ru
 obtain⟨xs',h1',h2,h3,h4,h5⟩:=id h
 obtain⟨⟨z',o,es,ep,g1,g2,g3,g4,ge⟩,_⟩:=(show ObjOk X.prog X.w H s.heap a (D1 a xs') from I.hok a _ h1')
 obtain⟨xs,o',es',ep',h1,g⟩:=Hs I h
 have g1':=g.at'
 rw[g1] at g1'
 cases g1'
 have g3':=g.dt
 rw[g3] at g3'
 cases g3'
 have mu1:Mut (H a):=by rw[h1'];exact True.intro
 unfold dictSet
 refine AG (Aa (hd.hash hu λtk=>?_))
 unfold dictSetHashed
 refine AG (Aa (JU (s:={s with toks:=tk}) hu hd g1 g3 g.en h5.nd (λz=>?_) λj ej=>?_))
 ·have hz0:es.size<=sizeLine:=by rw[<- Array.length_toList,<- DF g.en];ext
  refine Aa (A7 (wpAny_updateDictKeys (s:={s with toks:=tk}) g1 g3 (hz:=hz0) ?_))
  have e1:(DE k v ks ds).1=ks++[k]:=by unfold DE;rw[if_neg z]
  have e2:(DE k v ks ds).2=ds++[v]:=by unfold DE;rw[if_neg z]
  have so1:=AJ (Obj.mapDictKeys (·.push ⟨DK X.w k,u,r⟩)) g1 (BV (B5 g3 _))
  refine q _ (xs'++[(DK X.w k,kv,vv)]) (I.write (x:=a) (e:=a) (t':=tk) mu1 (.inl rfl) (λb ob hb e=>((AD ..).2 b hb).trans e) ⟨_,so1⟩ (IZ ⟨z',_,_,ep+1,so1,g2.mapDictKeys _,B5 g3 _,?_,by rw[Bq,ge]⟩)) ?_
  ·rw[BI]
   exact Hb g4 (.cons ⟨rfl,ru,rr⟩ .nil)
  ·rw[e1,e2]
   have ex:=ext (xs'++[(DK X.w k,kv,vv)])
   refine⟨_,DX,?_,?_,?_,?_⟩
   ·rw[AS,h2,DP,DP,AS];rfl
   ·rw[AS];exact(h3.ext ex so.out).app (.cons (rk.ext ex so.out) .nil)
   ·rw[AS];exact(h4.ext ex so.out).app (.cons (rv.ext ex so.out) .nil)
   ·refine⟨by rw[As];exact lt,?_,λk' hk'=>?_⟩
    ·refine Bb.mpr ⟨h5.nd,by simp,λx hx y hy=>?_⟩
     rw[Ah.mp hy]
     exactλe=>z (e▸hx)
    ·rcases AF.mp hk' with w'|w'
     ·exact h5.ok k' w'
     ·rw[Ah.mp w'];exact hk
 ·have mem:k∈ks:=Aj ej
  have e1:(DE k v ks ds).1=ks:=by unfold DE;rw[if_pos mem]
  have e2:(DE k v ks ds).2=ds.set j v:=by unfold DE;rw[if_pos mem];exact Kr h5.nd ej
  have hj:j<xs'.length:=by
   have:=(Ad.mp ej).1
   have l2:=h3.len
   rw[Ak] at l2
   ext
  have hje:j<es.size:=by rw[<- Array.length_toList,<- DF g4];exact hj
  obtain⟨y,y1,y2,y3,y4⟩:=(DZ g4 j).1 xs'[j] (Al hj)
  rw[Af] at y1
  have ye:es[j]=y:=by rw[Av hje] at y1;exact AR y1
  refine Aa (A7 (Aa (wpAny_updateDict (s:={s with toks:=tk}) g1 g3 (wpAny_point ?_))))
  have so1:=AJ (Obj.mapDict (·.modify j λe=>{e with val:=r})) g1 (BV (Obj.data_mapDict g3 _))
  refine q _ (xs'.set j (xs'[j].1,xs'[j].2.1,vv)) (I.write (x:=a) (e:=a) (t':=tk) mu1 (.inl rfl) (λb ob hb e=>((AD ..).2 b hb).trans e) ⟨_,so1⟩ (IZ ⟨z',_,_,ep,so1,g2.mapDict _,Obj.data_mapDict g3 _,?_,by rw[Array.size_modify,ge]⟩)) ?_
  ·have em:(es.modify j λe=>{e with val:=r}).toList=es.toList.set j {y with val:=r}:=by
    have yl:es.toList[j]?=some y:=by rw[Af];exact y1
    rw[Array.toList_modify]
    refine A6 λi=>?_
    rw[List.getElem?_modify]
    by_cases c:j=i
    ·subst c
     rw[yl,BP (by simpa using hje)]
     simp
    ·rw[Aw c]
     simp[c]
   rw[em]
   exact Ii j g4 ⟨y2,y3,rr⟩
  ·rw[e1,e2]
   have ex:=ext (xs'.set j (xs'[j].1,xs'[j].2.1,vv))
   refine⟨_,DX,?_,?_,?_,h5⟩
   ·rw[<- h2,List.map_set]
    refine A6 λi=>?_
    by_cases c:i=j
    ·subst c;simp[hj]
    ·rw[Aw (Ne.symm c)]
   ·have:(xs'.set j (xs'[j].1,xs'[j].2.1,vv)).map (·.2.1)=xs'.map (·.2.1):=by
     rw[List.map_set]
     refine A6 λi=>?_
     by_cases c:i=j
     ·subst c;simp[hj]
     ·rw[Aw (Ne.symm c)]
    rw[this]
    exact h3.ext ex so.out
   ·rw[List.map_set]
    exact(h4.ext ex so.out).setAt j (rv.ext ex so.out)
def Mp (I:L2.Inv X pj st H s){a:Addr}{ks ds:List D}(h:DcAt X.z th H a ks ds){k d:D}{u:Value}(hk:Hd s.heap k u)(e:Dv k ks ds=some d):∃v r,Rep X.z th H d v/\RelV v r /\
  ∀{A:Around}{E:Value->Zaa}{Q:Option Value->Zaa},A.units+8<cLine->(∀tk,Q (some r) {s with toks:=tk})->wpAny (model X.prog X.w) A (dictGet a u) Q E s:=by
 obtain⟨xs',h1',h2,h3,h4,h5⟩:=id h
 obtain⟨xs,o,es,ep,h1,g⟩:=Hs I h
 obtain⟨⟨z',o',es',ep',g1,g2,g3,g4,ge⟩,_⟩:=(show ObjOk X.prog X.w H s.heap a (D1 a xs') from I.hok a _ h1')
 have g1':=g.at'
 rw[g1] at g1'
 cases g1'
 have g3':=g.dt
 rw[g3] at g3'
 cases g3'
 have mem:k∈ks:=by
  refine Classical.byContradiction λz=>?_
  rw[F1 z] at e
  cases e
 obtain⟨j,ej⟩:=AL.mp mem
 rw[GZ h5.nd ej] at e
 obtain⟨v,v1,v2⟩:=h4.get e
 obtain⟨en,e1,e2⟩:=(DZ g.en j).1 k ej
 obtain⟨x,x1,x2,x3,x4⟩:=(DZ g4 j).2 en e1
 rw[Am,x1] at v1
 have v1':x.2.2=v:=by simpa using v1
 rw[Af] at e1
 refine⟨v,en.val,v2,v1'▸x4,λhu q=>?_⟩
 unfold dictGet
 refine AG (Aa (hk.hash hu λtk=>Aa (JU (s:={s with toks:=tk}) hu hk g1 g3 g.en h5.nd (λz=>absurd mem z) λj' ej'=>?_)))
 cases Wr h5.nd ej ej'
 refine Aa (Bc (s:={s with toks:=tk}) g1 g3 ?_)
 rw[e1]
 exact Ab (q tk)
def Mv (I:L2.Inv X pj st H s){a:Addr}{ks ds:List D}(h:DcAt X.z th H a ks ds){k:D}{u:Value}(hk:Hd s.heap k u)(e:Dv k ks ds=none){Q:Option Value->Zaa}(hu:A.units+8<cLine)(q:∀tk,Q none {s with toks:=tk}):wpAny (model X.prog X.w) A (dictGet a u) Q E s:=
 Ym I h hk hu (λ_=>q) λd v r e'=>by rw[e] at e';cases e'
def NP (I:L2.Inv X pj st H s){a:Addr}{ks ds:List D}(h:DcAt X.z th H a ks ds):s.TypeIs (.ref a) "dict"/\(a==sysModules)=false/\∃o,s.heap.get? a=some o/\o.dict=none:=by
 obtain⟨xs,o,es,ep,h1,g⟩:=Hs I h
 exact⟨⟨o,g.at',g.ex.1⟩,g.ns,o,g.at',g.ex.2.1⟩
def Ss {k:D}{ks ds:List D}(n:ks.Nodup)(l:ds.length=ks.length):(Dv k ks ds).isSome=decide (k∈ks):=by
 by_cases c:k∈ks
 ·obtain⟨j,ej⟩:=AL.mp c
  rw[GZ n ej,BK c]
  have:=(Ad.mp ej).1
  rw[Al (by ext)]
  rfl
 ·rw[F1 c,Bi c];rfl
def Pn {a:Addr}{ks ds:List D}(h:DcAt K th H a ks ds):ds.length=ks.length/\KeysOk ks:=by
 obtain⟨xs,_,_,h3,h4,h5⟩:=h
 have a:=h3.len
 have b:=h4.len
 rw[Ak] at a b
 exact⟨by ext,h5⟩
def ixC (d e:D)(mu:Sto):Rs D:=match DC mu d with
 |some p=>if Dn e=true then (Dv e p.1 p.2).map λv=>(v,mu) else none
 |none=>none
def VV {d e:D}{r:D×Sto}(h:ixC d e mu=some r):∃p,DC mu d=some p/\Dn e=true/\∃v,Dv e p.1 p.2=some v/\r=(v,mu):=by
 unfold ixC at h
 split at h
 ·rename_i p e1
  split at h
  ·rename_i c
   cases q:Dv e p.1 p.2 with
   |none=>rw[q] at h;cases h
   |some v=>rw[q] at h;cases h;exact⟨p,e1,c,v,q,rfl⟩
  ·cases h
 ·cases h
def AbU (hu:X.A.units+64<cLine):IxR X (r2 X.z ixC):=by
 intro value slice pj s st H x y v u Q I rx ry h hs
 obtain⟨th,mu,d,e,so,r1,r2,t⟩:=h
 obtain⟨a0,mu0,e0,_⟩:=id t
 obtain⟨p,e1,hk,w',e2,er⟩:=VV e0
 rw[e0] at t
 cases er
 obtain⟨a,rfl,dc⟩:=D6 so e1 r1
 cases rx
 obtain⟨v',r',q1,q2,q3⟩:=Mp I dc (Ic I hk r2 ry) e2
 obtain⟨ty,_⟩:=NP I dc
 refine subscriptTail_builtinR (x:=r') ty slot_dict_getitem.lookup ?_ hs
 unfold getItem
 refine AG (Aa (wpAny_sequenceKey ty (by decide) (Aa (AM (name:=Str.ofString "__getitem__") ty slot_dict_getitem (AE slot_dict_getitem ty entry_dict_getitem ?_ (args_dict_getitem _ _))))))
 refine(?_:wpAny _ _ (dictGet a u>>=_) _ _ s)
 exact Aa (q3 (by rw[Around.in1_units];ext) λtk=>Ab ⟨r',rfl,Ab ⟨rfl,v',H,I.tok _,q2,t.ret so _ q1⟩⟩)
theorem IxR.or {g g':D->D->Sto->Rs D}(h:IxR X (r2 X.z g))(h':IxR X (r2 X.z g')):IxR X (r2 X.z λd e mu=>match g d e mu with|some r=>some r|none=>g' d e mu):=by
 intro value slice pj s st H x y v u Q I rx ry q hs
 obtain⟨th,mu,d,e,so,r1,r2,t⟩:=q
 dsimp only at t
 cases c:g d e mu with
 |some r=>rw[c] at t;exact h value slice pj s st H x y v u Q I rx ry ⟨th,mu,d,e,so,r1,r2,by rw[c];exact t⟩ hs
 |none=>rw[c] at t;exact h' value slice pj s st H x y v u Q I rx ry ⟨th,mu,d,e,so,r1,r2,t⟩ hs
def ixG (d e:D)(mu:Sto):Rs D:=match ixD d e mu with
 |some r=>some r
 |none=>ixC d e mu
def Dd (hu:X.A.units+64<cLine):IxR X (r2 X.z ixG):=IxR.or AaW (AbU hu)
def inC (neg:Bool)(d c:D)(mu:Sto):Rs D:=match DC mu c with
 |some p=>if Dn d=true then some (.bl (decide (d∈p.1) != neg),mu) else none
 |none=>none
def P2 {neg:Bool}{d e:D}{r:D×Sto}(h:inC neg d e mu=some r):∃p,DC mu e=some p/\Dn d=true/\r=(.bl (decide (d∈p.1) != neg),mu):=by
 unfold inC at h
 split at h
 ·rename_i p e1
  split at h
  ·rename_i c;cases h;exact⟨p,e1,c,rfl⟩
  ·cases h
 ·cases h
theorem Wo (hu:X.A.units+64<cLine)(I:L2.Inv X pj st H s){a:Addr}{ks ds:List D}(dc:DcAt X.z th H a ks ds){d:D}{u:Value}(hk:Hd s.heap d u){Q:Bool->Zaa}(q:∀tk,Q (decide (d∈ks)) {s with toks:=tk}):wpAny (model X.prog X.w) X.A (contains (.ref a) u) Q E s:=by
 obtain⟨ty,ns,_⟩:=NP I dc
 obtain⟨l,ko⟩:=Pn dc
 have gm:=Ss (k:=d) ko.nd l
 unfold contains
 refine AG (Aa (wpAny_specialOf ty slot_dict_contains.lookup ?_))
 refine(?_:wpAny _ _ (if (some (Value.builtin "dict.__contains__")==some Value.none)=true then _ else _) _ E s)
 rw[if_neg (by rw[beq_builtin_none];exact AN)]
 refine Aa (wpAny_callSpecialUnlessNone?_slot (name:=Str.ofString "__contains__") ty slot_dict_contains (AE slot_dict_contains ty entry_dict_contains ?_ (args_dict_contains _ _)))
 refine(?_:wpAny _ _ (dictGet a u>>=_) _ _ s)
 refine Aa ?_
 have hu':X.A.in1.units+8<cLine:=by rw[Around.in1_units];ext
 cases c:Dv d ks ds with
 |some v =>
  rw[c] at gm
  obtain⟨v',r',q1,q2,q3⟩:=Mp I dc hk c
  refine q3 hu' λtk=>?_
  refine(?_:wpAny _ _ (ret (.bool true)) _ _ _)
  exact Ab ⟨_,rfl,BQ (by rw[<- gm] at q;exact q tk)⟩
 |none =>
  rw[c] at gm
  refine Mv I dc hk c hu' λtk=>?_
  refine(?_:wpAny _ _ (Builtin.Dict.pendingKey? a u>>=_) _ _ _)
  exact Aa (wpAny_pendingKey_other ns (Ab ⟨_,rfl,BQ (by rw[<- gm] at q;exact q tk)⟩))
def WY (hu:X.A.units+64<cLine):OpV X (compareOp .In) (inC false):=by
 intro pj s st H x y v u Q I rx ry h
 obtain⟨th,mu,d,e,so,r1,r2,t⟩:=h
 obtain⟨a0,mu0,e0,_⟩:=id t
 obtain⟨p,e1,hk,er⟩:=P2 e0
 rw[e0] at t
 cases er
 obtain⟨a,rfl,dc⟩:=D6 so e1 r2
 cases ry
 refine(?_:wpAny _ _ (do return Value.bool (<- contains (.ref a) v)) _ _ s)
 exact Aa (Wo hu I dc (Ic I hk r1 rx) λtk=>Ab ⟨.bl _,H,I.tok _,rfl,by have:=t.ret so _ rfl;simpa using this⟩)
def VU (hu:X.A.units+64<cLine):OpV X (compareOp .NotIn) (inC true):=by
 intro pj s st H x y v u Q I rx ry h
 obtain⟨th,mu,d,e,so,r1,r2,t⟩:=h
 obtain⟨a0,mu0,e0,_⟩:=id t
 obtain⟨p,e1,hk,er⟩:=P2 e0
 rw[e0] at t
 cases er
 obtain⟨a,rfl,dc⟩:=D6 so e1 r2
 cases ry
 refine(?_:wpAny _ _ (do return Value.bool (!(<- contains (.ref a) v))) _ _ s)
 exact Aa (Wo hu I dc (Ic I hk r1 rx) λtk=>Ab ⟨.bl _,H,I.tok _,rfl,by have:=t.ret so _ rfl;simpa using this⟩)
theorem OpV.or {f:Value->Value->Sem Value}{g g':D->D->Sto->Rs D}(h:OpV X f g)(h':OpV X f g'):OpV X f λd e mu=>match g d e mu with|some r=>some r|none=>g' d e mu:=by
 intro pj s st H x y v u Q I rx ry q
 obtain⟨th,mu,d,e,so,r1,r2,t⟩:=q
 dsimp only at t
 cases c:g d e mu with
 |some r=>rw[c] at t;exact h pj s st H x y v u Q I rx ry ⟨th,mu,d,e,so,r1,r2,by rw[c];exact t⟩
 |none=>rw[c] at t;exact h' pj s st H x y v u Q I rx ry ⟨th,mu,d,e,so,r1,r2,t⟩
def inG (d e:D)(mu:Sto):Rs D:=match inD d e mu with
 |some r=>some r
 |none=>inC false d e mu
def JV (d e:D)(mu:Sto):Rs D:=match R1 d e mu with
 |some r=>some r
 |none=>inC true d e mu
def Pr (hu:X.A.units+64<cLine):OpV X (compareOp .In) inG:=OpV.or (XO hu) (WY hu)
def Ky (hu:X.A.units+64<cLine):OpV X (compareOp .NotIn) JV:=OpV.or (Vd hu) (VU hu)
def putG (d e v:D)(mu:Sto):Rs Unit:=match d with
 |.ref k=>match mu[k]? with
  |some (.dct ks ds)=>if Dn e=true/\ks.length<sizeLine then some ((),mu.set k (.dct (DE e v ks ds).1 (DE e v ks ds).2)) else none
  |_=>Ve d e v mu
 |_=>none
def Y0 (K:Zc):SR:=λo i v H Q=>∃th mu d e w,StoOk K th mu H/\Rep K th H d o/\Rep K th H e i/\Rep K th H w v/\Tr K th H (putG d e w mu) λ_ _ _ H'=>Q H'
def ZW (hu:X.A.units+64<cLine):VH X (Y0 X.z):=by
 intro pj s st H o i v ov iv u Q I ro ri rv h
 obtain⟨th,mu,d,e,w,so,r1,r2,r3,t⟩:=h
 unfold putG at t
 split at t
 ·rename_i k
  split at t
  ·rename_i ks ds em
   split at t
   ·rename_i c
    unfold Rep at r1
    obtain⟨a,rfl,ha⟩:=r1
    have dc:DcAt X.z th H a ks ds:=so.at' k a _ ha em
    obtain⟨ty,ns,_⟩:=NP I dc
    cases ro
    unfold setItem
    refine AG (Aa (wpAny_sequenceKey ty (by decide) (Aa (AM (name:=Str.ofString "__setitem__") ty slot_dict_setitem (AE slot_dict_setitem ty entry_dict_setitem ?_ (args_dict_setitem _ _ _))))))
    refine(?_:wpAny _ _ (Builtin.Dict.notOrdered "__setitem__" ⟨[.ref a,iv,u],[]⟩>>=_) _ _ s)
    refine Aa (B0 ty (?_:wpAny _ _ (dictSet a iv u>>=_) _ _ s))
    refine Aa (R0 I dc (λxs=>.mut (Aj ha) _) so c.1 r2 ri r3 rv c.2 (by rw[Around.in1_units];ext) λs' xs' I' dc'=>Ab ⟨.none,rfl,Ab ⟨_,I',?_⟩⟩)
    exact t.retX (.mut (Aj ha) _) (so.putG ha _ _ dc')
   ·exact t.no.elim
  ·exact Y8 pj s st H o i v ov iv u Q I ro ri rv ⟨th,mu,.ref k,e,w,so,r1,r2,r3,t⟩
 ·exact t.no.elim
def gIx (o i:Ex):Gx:=λv ro mu=>bM (o ro mu) λd m1=>bM (i ro m1) λe m2=>bM (putG d e v m2) λ_ m3=>some (ro,m3)
def Lf (hu:X.A.units+64<cLine){o i:Expr}{mo mi:Ex}{pos:Pos}(ho:SV X o mo)(hi:SV X i mi)
  (ha:∀v,assign (.Subscript o i pos) X.env v=(do
   let ov<-holding [v] (eval o X.env)
   let iv<-holding [v,ov] (eval i X.env)
   standAt pos
   holding [v,ov,iv] (setItem ov iv v)
   release [v,ov,iv] []):=by intro _;rfl):SVG X (.Subscript o i pos) (gIx mo mi):=⟨PG.weak (YC ho.r hi.r (ZW hu) ha) λv st H Q h=>by
 obtain⟨th,mu,ro,d,so,en,r,t⟩:=h
 refine⟨th,mu,ro,so,en,t.bind.mono λx th1 mu1 H1 e1 s1 t1 xv rx=>?_⟩
 refine⟨th1,mu1,ro,s1,en.ext e1 so.out,t1.bind.mono λy th2 mu2 H2 e2 s2 t2 yv ry=>?_⟩
 refine⟨th2,mu2,x,y,d,s2,rx.ext e2 s1.out,ry,(r.ext e1 so.out).ext e2 s1.out,t2.bind.mono λ_ th3 mu3 H3 e3 s3 t3=>?_⟩
 exact t3.ret s3 _ (((en.ext e1 so.out).ext e2 s1.out).ext e3 s2.out)⟩
end
section
variable {prog:Program}{w:World}{A:Around}{E:Value->Zaa}{s:Shared}
def wp_choose {M:Model}{src:Source}{n:Nat}{Q:Nat->Zaa}(hn:n≠0)(h:∀i d',i<n->Q i {s with drawn:=d'}):wpAny M A (choose src n) Q E s:=
 λ_ _ _=>⟨hn,h _ _ (Nat.mod_lt _ (Nat.pos_of_ne_zero hn))⟩
theorem IW {α:Type}:∀(xs:List α) (i:Nat) (hi:i<xs.length),(xs[i]::xs.eraseIdx i).Perm xs
 |[],i,hi=>by simp at hi
 |x::xs,0,_=>BD _
 |x::xs,i+1,hi=>by
  have hi':i<xs.length:=by simpa using hi
  exact(List.Perm.swap x xs[i] _).trans (List.Perm.cons x (IW xs i hi'))
theorem NO {M:Model}{α:Type}:∀(n:Nat) (xs:List α){s:Shared}{Q:List α->Zaa},n=xs.length->(∀ys d',ys.Perm xs->Q ys {s with drawn:=d'})->wpAny M A (drawOrder n xs) Q E s
 |0,[],s,Q,_,h=>Ab (h [] s.drawn (BD _))
 |0,_::_,_,_,e,_=>by simp at e
 |n+1,[],_,_,e,_=>by simp at e
 |n+1,x::xs,s,Q,e,h=>by
  refine Aa (wp_choose (by simp) λi d' hi=>?_)
  rw[Al hi]
  refine Aa (NO n ((x::xs).eraseIdx i) (by rw[List.length_eraseIdx_of_lt hi,<- e];rfl) λys d2 p=>Ab (h _ d2 ?_))
  exact(List.Perm.cons _ p).trans (IW _ _ hi)
theorem LX {α:Type}(next:Nat->Nat):∀(f k:Nat) (left:List α) (out:Array α),f=left.length->(pickOrder.go next f k left out).toList.Perm (out.toList++left)
 |0,k,[],out,_=>by unfold pickOrder.go;simp
 |0,_,_::_,_,e=>by simp at e
 |f+1,k,[],out,e=>by simp at e
 |f+1,k,x::xs,out,e=>by
  unfold pickOrder.go
  have hi:next k % (x::xs).length<(x::xs).length:=Nat.mod_lt _ (by simp)
  rw[Al hi]
  refine(LX next f (k+1) _ _ (by rw[List.length_eraseIdx_of_lt hi,<- e];rfl)).trans ?_
  rw[BI,Bj]
  exact List.Perm.append_left _ (IW _ _ hi)
def GI {α:Type}(next:Nat->Nat)(xs:Array α):(pickOrder next xs).toList.Perm xs.toList:=by
 have:=LX next xs.size 0 xs.toList #[] (by simp)
 simpa[pickOrder] using this
def HA (w:World):Bool:=w.params.followText "set-order"
def FW {Q:Bool->Zaa}(h:Q (HA w) s):wpAny (model prog w) A setsByText Q E s:=Aa (wpAny_askSetting (Ab h))
def El:Slot "set_iterator" "__next__" "set_iterator.__next__":=
 .of (owner:="set_iterator") (n:="__next__") (by rw[typeLookup_type,builtinLookup_eq_fast];kernel_rfl) (by symm) (by symm) (by symm) (by first|exact .inl (by symm)|exact .inr (by symm)) (by rw[isSubtype_type];kernel_rfl)
def HM:entryFor table "set_iterator.__next__"=some Builtin.«set_iterator.__next__»:=entryFor_of_tree (by kernel_rfl)
def KQ:Manifest.owners.lookup (String.ofList ['r','o','t','a','r','e','t','i','_','t','e','s'].reverse)=some Manifest.sig_set_iterator:=by kernel_rfl
def Im (a:Value):argsOk "set_iterator.__next__" ⟨[a],[]⟩:=by
 unfold argsOk;rw[signature?_of (id:="set_iterator.__next__") (n:=['_','_','t','x','e','n','_','_']) (o:=['r','o','t','a','r','e','t','i','_','t','e','s']) (by kernel_rfl) KQ];kernel_rfl
def Ik:Slot "set_iterator" "__iter__" "set_iterator.__iter__":=
 .of (owner:="set_iterator") (n:="__iter__") (by rw[typeLookup_type,builtinLookup_eq_fast];kernel_rfl) (by symm) (by symm) (by symm) (by first|exact .inl (by symm)|exact .inr (by symm)) (by rw[isSubtype_type];kernel_rfl)
inductive Md where
 |txt|drw (TI:Addr) (pl:List Nat)|one
def SetAt (h:Heap)(S:Addr)(es:Array (Int×Value))(ep:Nat)(t:SetTable):Prop:=∃o,h.get? S=some o/\o.data=.set es ep t
def Fst (w:World)(es:Array (Int×Value))(t:SetTable)(h:Heap)(i:Nat)(v:Value):Md->Prop
 |.txt=>HA w=true/\∃c:Nat,v=rawInt c
 |.drw TI pl=>v=.ref TI/\h.IsTuple TI (pl.map λp:Nat=>rawInt p).toArray/\pl.length=es.size/\(∀p∈pl,p<es.size)
 |.one=>HA w=false/\(t.plain=false\/es.size<=1)/\es.size<=1/\t.led=true/\v=rawInt ((if i=0 then 0 else t.place.getD 0 0+1:Nat):Int)
def Lx (w:World)(S:Addr)(es:Array (Int×Value))(ep:Nat):Md->List Value
 |.txt=>(pickOrder (w.params.setOrder S ep) es).toList.map (·.2)
 |.drw _ pl=>pl.map λp=>(es.getD p (0,.none)).2
 |.one=>es.toList.map (·.2)
def SIt (w:World)(S I:Addr)(es:Array (Int×Value))(ep:Nat)(t:SetTable)(md:Md)(i:Nat)(h:Heap):Prop:=
 SetAt h S es ep t/\∃o v,h.get? I=some o/\o.cls=.type "set_iterator"/\o.data=.fields #[v,rawInt i,.ref S,rawInt es.size,rawInt ep]/\Fst w es t h i v md
def F3 {M:Model}{I:Addr}{Q:PySem.Fin->Zaa}(hh:A.handled=none)(q:∀h' e,(∀c o,s.heap.get? c=some o->h'.get? c=some o)->(∃o,h'.get? e=some o/\o.cls=.type "StopIteration")->E (.ref e) {s with heap:=h'}) :
  wpAny M A (newExc (.type "StopIteration") []>>=λe=>(raiseNew e:Sem PySem.Fin)) Q E s:=by
 refine Aa ?_
 simp only[newExc,newTuple]
 refine Aa (AX (Aa (m:=firstArgMember _ _) (wpAny_of_eq (a:=Value.none) (by first|rfl|(simp only[firstArgMember];rfl)) (AX ?_ (by size_fits)))) (by size_fits))
 simp only[raiseNew]
 refine Aa (wpAny_handled ?_)
 rw[hh]
 exact Aa (Ab (wpAny_throw (q _ _ (λc o e=>Ac _ (Ac _ e)) ⟨_,Ag _ rfl,rfl⟩)))
def K6 {xs:Array Nat}(h:xs.size<=1):SetTable.below xs 0=0:=by
 unfold SetTable.below
 rcases B4 0 xs.size with c|c
 ·have:xs.size=1:=by ext
  rw[this]
  simp[SetTable.below.go]
 ·have:xs.size=0:=by ext
  rw[this]
  simp[SetTable.below.go]
def OJ {xs:Array Nat}(h:xs.size=1):SetTable.below xs (xs.getD 0 0+1)=1:=by
 unfold SetTable.below
 have e0:xs[0]?=some xs[0]:=Av (by ext)
 rw[h]
 simp[SetTable.below.go,e0]
def FN {a:Addr}{o:Obj}{vs:Array Value}{i:Nat}{x:Value}{h:Heap}(ho:h.get? a=some o)(hd:o.data=.fields vs):∃o',(h.update a (Obj.mapFields (·.setIfInBounds i x))).get? a=some o'/\o'.cls=o.cls/\o'.data=.fields (vs.setIfInBounds i x):=
 ⟨_,AJ _ ho (Obj.isFreed_of_fields (Obj.data_mapFields hd _)),Obj.cls_mapFields ..,Obj.data_mapFields hd _⟩
def SetAt.keep {h h':Heap}{S I:Addr}{es:Array (Int×Value)}{ep:Nat}{t:SetTable}(x:SetAt h S es ep t)(ne:S≠I)(sb:Heap.SameBut I h h'):SetAt h' S es ep t:=
 let ⟨o,a,b⟩:=x;⟨o,(sb.2 S ne).trans a,b⟩
def Md.apart (I:Addr):Md->Prop
 |.drw TI _=>TI≠I
 |_=>True
theorem QX {S I:Addr}{es:Array (Int×Value)}{ep:Nat}{t:SetTable}{md:Md}{i:Nat}{Q:Value->Zaa}(hf:t.fits es.size=true)(ne:S≠I)(ap:md.apart I)(g:SIt w S I es ep t md i s.heap)(hi:i<es.size)
  (q:∀v h',(Lx w S es ep md)[i]?=some v->SIt w S I es ep t md (i+1) h'->Heap.SameBut I s.heap h'->Q v {s with heap:=h'}) :
  wpAny (model prog w) A (Builtin.«set_iterator.__next__» ⟨[.ref I],[]⟩) (λfin s'=>∃v,fin=.done (.ret v)/\Q v s') E s:=by
 obtain⟨⟨ob,g1,g2⟩,o,v,k1,k2,k3,k4⟩:=id g
 refine(?_:wpAny _ _ (fieldsOf (.ref I)>>=_) _ _ _)
 refine Aa (wpAny_fieldsOf k1 k3 (?_:wpAny _ _ (setEntries S>>=_) _ _ _))
 refine Aa (wpAny_setEntries_of g1 g2 hf ?_)
 rw[if_neg (by simp)]
 cases md with
 |drw TI pl =>
  obtain⟨rfl,⟨tb,b1,b2,n,b3⟩,c1,c2⟩:=k4
  refine(?_:wpAny _ _ (seqItems? (.ref TI)>>=_) _ _ _)
  refine Aa (Bz b1 b3 ?_)
  have hp:i<pl.length:=by ext
  have ei:(pl.map λp:Nat=>rawInt p).toArray[(i:Int).toNat]?=some (rawInt pl[i]):=by simp[hp]
  dsimp only
  rw[ei]
  have hpl:=c2 pl[i] (BG hp)
  refine(?_:wpAny _ _ (setNextDrawn S ((pl[i]:Nat):Int).toNat ((ep:Nat):Int).toNat>>=_) _ _ _)
  refine Aa ?_
  unfold setNextDrawn
  refine Aa (BR g1 g2 hf ?_)
  rw[Int.toNat_natCast,Int.toNat_natCast]
  dsimp only
  rw[if_neg (by simp),Av hpl]
  refine Ab (Aa (Bm k1 k3 (by simp) (Ab ⟨_,rfl,q _ _ ?_ ?_ (AD ..)⟩)))
  ·unfold Lx
   rw[Am,Al hp]
   simp[Array.getD,hpl]
  ·obtain⟨o',e1,e2,e3⟩:=FN (i:=1) (x:=rawInt ((i:Int)+1)) k1 k3
   exact⟨SetAt.keep ⟨ob,g1,g2⟩ ne (AD ..),o',.ref TI,e1,e2.trans k2,e3,rfl,⟨tb,((AD ..).2 TI ap).trans b1,b2,n,b3⟩,c1,c2⟩
 |txt =>
  obtain⟨bt,c,rfl⟩:=k4
  refine(?_:wpAny _ _ (setNext S ((c:Nat):Int).toNat ((i:Nat):Int).toNat ((ep:Nat):Int).toNat>>=_) _ _ _)
  refine Aa ?_
  unfold setNext
  refine Aa (BR g1 g2 hf (Aa (FW ?_)))
  rw[if_pos bt]
  rw[Int.toNat_natCast,Int.toNat_natCast,Int.toNat_natCast]
  dsimp only
  rw[if_neg (by simp)]
  refine Aa ?_
  unfold setWalk
  refine Aa (BR g1 g2 hf (Aa (FW ?_)))
  rw[if_pos bt]
  refine Aa (wpAny_askSetting (Ab ?_))
  have hl:i<(pickOrder (w.params.setOrder S ep) es).size:=by
   have:=(GI (w.params.setOrder S ep) es).length_eq
   simp at this
   ext
  have ex:(pickOrder ((⟨prog,w.params⟩:Setting).params.setOrder S ep) es)[i]?=some (pickOrder (w.params.setOrder S ep) es)[i]:=Av hl
  refine Ab ?_
  have ex':Option.map (λe:Int×Value=>(e.2,c)) (pickOrder ((⟨prog,w.params⟩:Setting).params.setOrder S ep) es)[i]?=some ((pickOrder (w.params.setOrder S ep) es)[i].2,c):=by rw[ex];rfl
  refine(?_:wpAny _ _ (match Option.map (λe:Int×Value=>(e.2,c)) (pickOrder ((⟨prog,w.params⟩:Setting).params.setOrder S ep) es)[i]? with|some (x,next)=>_|none=>_) _ _ _)
  rw[ex']
  obtain⟨o',e1,e2,e3⟩:=FN (i:=0) (x:=rawInt (c:Int)) k1 k3
  refine Aa (Bm k1 k3 (by simp) ?_)
  obtain⟨o2,f1,f2,f3⟩:=FN (i:=1) (x:=rawInt ((i:Int)+1)) e1 e3
  refine Aa (Bm e1 e3 (by simp) (Ab ⟨_,rfl,q _ _ ?_ ?_ ((AD ..).trans (AD ..))⟩))
  ·unfold Lx
   rw[Am,Af,Av hl]
   rfl
  ·exact⟨(SetAt.keep ⟨ob,g1,g2⟩ ne (AD ..)).keep ne (AD ..),o2,rawInt c,f1,(f2.trans e2).trans k2,f3,bt,c,rfl⟩
 |one =>
  obtain⟨bt,pl,sz,led,rfl⟩:=k4
  have i0:i=0:=by ext
  subst i0
  have s1:es.size=1:=by ext
  have ps:t.place.size=1:=by
   simp only[SetTable.fits,Ai,beq_iff_eq,AA] at hf
   ext
  refine(?_:wpAny _ _ (setNext S ((0:Nat):Int).toNat ((0:Nat):Int).toNat ((ep:Nat):Int).toNat>>=_) _ _ _)
  refine Aa ?_
  unfold setNext
  refine Aa (BR g1 g2 hf (Aa (FW ?_)))
  rw[if_neg (by rw[bt];exact AN)]
  refine Ht (λz=>?_) λ_=>?_
  ·exfalso
   have z':(!t.plain&&decide (es.size > 1))=true:=z
   rw[s1] at z'
   simp at z'
  refine Aa (Ht (λz=>?_) λ_=>?_)
  ·exfalso
   have z':(!t.led&&!es.isEmpty)=true:=z
   rw[led] at z'
   simp at z'
  refine Ab ?_
  have b0:=K6 (xs:=t.place) (by ext)
  have ee:es[0]?=some es[0]:=Av (by ext)
  have pe:t.place[0]?=some t.place[0]:=Av (by ext)
  have hm:(match es[SetTable.below t.place ((0:Nat):Int).toNat]?,t.place[SetTable.below t.place ((0:Nat):Int).toNat]? with|some (_,x),some j=>some (x,j+1)|_,_=>none)=some (es[0].2,t.place[0]+1):=by
   rw[show((0:Nat):Int).toNat=0 from rfl,b0,ee,pe]
  refine(?_:wpAny _ _ (pure (match es[SetTable.below t.place ((0:Nat):Int).toNat]?,t.place[SetTable.below t.place ((0:Nat):Int).toNat]? with|some (_,x),some j=>some (x,j+1)|_,_=>none)) _ _ _)
  rw[hm]
  refine Ab ?_
  obtain⟨o',e1,e2,e3⟩:=FN (i:=0) (x:=rawInt ((t.place[0]+1:Nat):Int)) k1 k3
  refine Aa (Bm k1 k3 (by simp) ?_)
  obtain⟨o2,f1,f2,f3⟩:=FN (i:=1) (x:=rawInt (((0:Nat):Int)+1)) e1 e3
  refine Aa (Bm e1 e3 (by simp) (Ab ⟨_,rfl,q _ _ ?_ ?_ ((AD ..).trans (AD ..))⟩))
  ·unfold Lx
   rw[Am,Af,ee]
   rfl
  ·refine⟨(SetAt.keep ⟨ob,g1,g2⟩ ne (AD ..)).keep ne (AD ..),o2,rawInt ((t.place[0]+1:Nat):Int),f1,(f2.trans e2).trans k2,f3,bt,pl,sz,led,?_⟩
   have:t.place.getD 0 0=t.place[0]:=by simp[Array.getD,ps]
   rw[this]
   rfl
end
def rk:D->Nat
 |.int _=>0|.str _=>1|.tup _=>2|_=>3
def Ij (i j:Nat):Ordering:=if i<j then .lt else if j<i then .gt else .eq
def Kq (i j:Int):Ordering:=if i<j then .lt else if j<i then .gt else .eq
def IK (x y:Str):Ordering:=if x.cps.toList<y.cps.toList then .lt else if y.cps.toList<x.cps.toList then .gt else .eq
def oTh:Ordering->Ordering->Ordering
 |.eq,t=>t
 |.lt,_=>.lt
 |.gt,_=>.gt
mutual
def Ds:D->D->Ordering
 |.int i,.int j=>Kq i j
 |.str x,.str y=>IK x y
 |.tup xs,.tup ys=>Hc xs ys
 |a,b=>Ij (rk a) (rk b)
def Hc:List D->List D->Ordering
 |[],[]=>.eq
 |[],_::_=>.lt
 |_::_,[]=>.gt
 |x::xs,y::ys=>oTh (Ds x y) (Hc xs ys)
end
def ltT (a b:D):Bool:=Ds a b==.lt
structure T3 (a b c:Ordering):Prop where
 e1:a=.eq->b=c
 e2:b=.eq->a=c
 e3:a=b->c=a
def Dz (i j:Nat):Ij j i=(Ij i j).swap:=by
 unfold Ij
 rcases Nat.lt_trichotomy i j with h|h|h
 ·rw[if_pos h,if_neg (by ext),if_pos h];rfl
 ·subst h;simp
 ·rw[if_pos h,if_neg (by ext),if_pos h];rfl
def Rf (i j:Int):Kq j i=(Kq i j).swap:=by
 unfold Kq
 rcases Int.lt_trichotomy i j with h|h|h
 ·rw[if_pos h,if_neg (by ext),if_pos h];rfl
 ·subst h;simp
 ·rw[if_pos h,if_neg (by ext),if_pos h];rfl
def W4 {x y:Str}:(x.cps.toList<y.cps.toList)->¬ (y.cps.toList<x.cps.toList):=λa b=>List.lt_asymm a b
def LL (i j:Str):IK j i=(IK i j).swap:=by
 unfold IK
 by_cases h:i.cps.toList<j.cps.toList
 ·rw[if_pos h,if_neg (W4 h),if_pos h];rfl
 ·rw[if_neg h]
  by_cases h2:j.cps.toList<i.cps.toList
  ·rw[if_pos h2,if_neg h,if_pos h2];rfl
  ·rw[if_neg h2,if_neg h,if_neg h2];rfl
def Wg {α:Type}(f:α->α->Ordering)(lt:α->α->Prop)(h1:∀x y,lt x y->f x y=.lt/\f y x=.gt)(h0:∀x,f x x=.eq)(tr:∀x y z,lt x y->lt y z->lt x z)(tri:∀x y,lt x y\/x=y\/lt y x)(a b c:α):T3 (f a b) (f b c) (f a c):=by
 rcases tri a b with h|rfl|h
 ·rcases tri b c with g|rfl|g
  ·rw[(h1 _ _ h).1,(h1 _ _ g).1,(h1 _ _ (tr _ _ _ h g)).1];exact⟨λz=>(nomatch z),λ_=>rfl,λ_=>rfl⟩
  ·rw[(h1 _ _ h).1,h0];exact⟨λz=>(nomatch z),λ_=>rfl,λ_=>rfl⟩
  ·rw[(h1 _ _ h).1,(h1 _ _ g).2];exact⟨λz=>(nomatch z),λz=>(nomatch z),λz=>(nomatch z)⟩
 ·rw[h0];exact⟨λ_=>rfl,λz=>z.symm,λz=>z.symm⟩
 ·rcases tri b c with g|rfl|g
  ·rw[(h1 _ _ h).2,(h1 _ _ g).1];exact⟨λz=>(nomatch z),λz=>(nomatch z),λz=>(nomatch z)⟩
  ·rw[(h1 _ _ h).2,h0];exact⟨λz=>(nomatch z),λ_=>rfl,λ_=>rfl⟩
  ·rw[(h1 _ _ h).2,(h1 _ _ g).2,(h1 _ _ (tr _ _ _ g h)).2];exact⟨λz=>(nomatch z),λ_=>rfl,λ_=>rfl⟩
def Xo:∀i j k:Nat,T3 (Ij i j) (Ij j k) (Ij i k):=
 Wg Ij (·<·) (λx y h=>⟨if_pos h,by rw[Ij,if_neg (Nat.lt_asymm h),if_pos h]⟩) (λx=>by rw[Ij,if_neg (Bv x),if_neg (Bv x)]) (λ_ _ _=>Nat.lt_trans) Nat.lt_trichotomy
def YF:∀i j k:Int,T3 (Kq i j) (Kq j k) (Kq i k):=
 Wg Kq (·<·) (λx y h=>⟨if_pos h,by rw[Kq,if_neg (Int.lt_asymm h),if_pos h]⟩) (λx=>by rw[Kq,if_neg (Int.lt_irrefl x),if_neg (Int.lt_irrefl x)]) (λ_ _ _=>Int.lt_trans) Int.lt_trichotomy
def Kv {i j:Str}:IK i j=.eq↔i=j:=by
 unfold IK
 constructor
 ·intro h
  by_cases h1:i.cps.toList<j.cps.toList
  ·rw[if_pos h1] at h;cases h
  ·rw[if_neg h1] at h
   by_cases h2:j.cps.toList<i.cps.toList
   ·rw[if_pos h2] at h;cases h
   ·exact U2 (List.le_antisymm (Std.not_lt.mp h2) (Std.not_lt.mp h1))
 ·rintro rfl
  rw[if_neg (List.lt_irrefl _),if_neg (List.lt_irrefl _)]
def Iv {i j:Str}:IK i j=.lt↔i.cps.toList<j.cps.toList:=by
 unfold IK
 by_cases h1:i.cps.toList<j.cps.toList
 ·simp[h1]
 ·rw[if_neg h1]
  by_cases h2:j.cps.toList<i.cps.toList
  ·simp[h2,h1]
  ·simp[h2,h1]
def MQ {i j:Str}:IK i j=.gt↔j.cps.toList<i.cps.toList:=by
 rw[<- Iv,LL i j]
 cases IK i j<;>simp
def Yx (i j k:Str):T3 (IK i j) (IK j k) (IK i k):=by
 refine⟨λh=>?_,λh=>?_,λh=>?_⟩
 ·rw[Kv.mp h]
 ·rw[Kv.mp h]
 ·cases c:IK i j with
  |eq=>rw[Kv.mp c];rw[c] at h;exact h.symm
  |lt=>rw[c] at h;exact Iv.mpr (List.lt_trans (Iv.mp c) (Iv.mp h.symm))
  |gt=>rw[c] at h;exact MQ.mpr (List.lt_trans (MQ.mp h.symm) (MQ.mp c))
mutual
theorem cmp_swap:∀(a b:D),Ds b a=(Ds a b).swap
 |.tup xs,.tup ys=>by unfold Ds;exact LZ xs ys
 |.int i,b=>by cases b<;>first|(unfold Ds;exact Rf _ _)|(simp only[Ds];exact Dz _ _)
 |.str i,b=>by cases b<;>first|(unfold Ds;exact LL _ _)|(simp only[Ds];exact Dz _ _)
 |.tup xs,.int _=>by simp only[Ds];exact Dz _ _
 |.tup xs,.str _=>by simp only[Ds];exact Dz _ _
 |.tup xs,.non=>by simp only[Ds];exact Dz _ _
 |.tup xs,.bl _=>by simp only[Ds];exact Dz _ _
 |.tup xs,.lst _=>by simp only[Ds];exact Dz _ _
 |.tup xs,.dct _ _=>by simp only[Ds];exact Dz _ _
 |.tup xs,.set _=>by simp only[Ds];exact Dz _ _
 |.tup xs,.ref _=>by simp only[Ds];exact Dz _ _
 |.non,b=>by cases b<;>(simp only[Ds];exact Dz _ _)
 |.bl _,b=>by cases b<;>(simp only[Ds];exact Dz _ _)
 |.lst _,b=>by cases b<;>(simp only[Ds];exact Dz _ _)
 |.dct _ _,b=>by cases b<;>(simp only[Ds];exact Dz _ _)
 |.set _,b=>by cases b<;>(simp only[Ds];exact Dz _ _)
 |.ref _,b=>by cases b<;>(simp only[Ds];exact Dz _ _)
theorem LZ:∀(xs ys:List D),Hc ys xs=(Hc xs ys).swap
 |[],[]=>rfl
 |[],_::_=>rfl
 |_::_,[]=>rfl
 |x::xs,y::ys=>by
  unfold Hc
  rw[cmp_swap x y]
  cases Ds x y with
  |eq=>exact LZ xs ys
  |lt=>rfl
  |gt=>rfl
end
def OQ {a b:D}(h:rk a≠rk b):Ds a b=Ij (rk a) (rk b):=by
 cases a<;>cases b<;>first|(simp only[Ds];done)|(exact absurd rfl h)
def Yn {a b:D}(h:Ds a b=.eq):rk a=rk b:=by
 refine Classical.byContradiction λz=>?_
 rw[OQ z] at h
 unfold Ij at h
 repeat' split at h
 all_goals first|(cases h;done)|ext
theorem T3.then' {h1 h2 h3 t1 t2 t3:Ordering}(h:T3 h1 h2 h3)(t:T3 t1 t2 t3):T3 (oTh h1 t1) (oTh h2 t2) (oTh h3 t3):=by
 obtain⟨a,b,c⟩:=h
 cases h1 with
 |eq =>
  cases a rfl
  cases h2 with
  |eq=>exact t
  |lt=>exact(show T3 t1 .lt .lt from⟨λ_=>rfl,λz=>(nomatch z),λz=>z.symm⟩)
  |gt=>exact(show T3 t1 .gt .gt from⟨λ_=>rfl,λz=>(nomatch z),λz=>z.symm⟩)
 |lt =>
  cases h2 with
  |eq=>cases b rfl;exact(show T3 .lt t2 .lt from⟨λz=>(nomatch z),λ_=>rfl,λ_=>rfl⟩)
  |lt=>cases c rfl;exact(show T3 .lt .lt .lt from⟨λz=>(nomatch z),λ_=>rfl,λ_=>rfl⟩)
  |gt=>exact(show T3 .lt .gt _ from⟨λz=>(nomatch z),λz=>(nomatch z),λz=>(nomatch z)⟩)
 |gt =>
  cases h2 with
  |eq=>cases b rfl;exact(show T3 .gt t2 .gt from⟨λz=>(nomatch z),λ_=>rfl,λ_=>rfl⟩)
  |gt=>cases c rfl;exact(show T3 .gt .gt .gt from⟨λz=>(nomatch z),λ_=>rfl,λ_=>rfl⟩)
  |lt=>exact(show T3 .gt .lt _ from⟨λz=>(nomatch z),λz=>(nomatch z),λz=>(nomatch z)⟩)
def T3.of_rk {a b c:D}(h:¬ (rk a=rk b/\rk b=rk c)):T3 (Ds a b) (Ds b c) (Ds a c):=by
 have n3:=Xo (rk a) (rk b) (rk c)
 have sg:∀x y:D,rk x≠rk y->Ds x y≠.eq:=λx y z e=>z (Yn e)
 have lt:∀x y:D,rk x<rk y->Ds x y=.lt:=λx y z=>by rw[OQ (by ext)];unfold Ij;rw[if_pos z]
 have gt:∀x y:D,rk y<rk x->Ds x y=.gt:=λx y z=>by rw[OQ (by ext)];unfold Ij;rw[if_neg (by ext),if_pos z]
 rcases Nat.lt_trichotomy (rk a) (rk b) with h1|h1|h1<;>rcases Nat.lt_trichotomy (rk b) (rk c) with h2|h2|h2
 ·rw[lt a b h1,lt b c h2,lt a c (by ext)];exact⟨λz=>(nomatch z),λ_=>rfl,λ_=>rfl⟩
 ·rw[lt a b h1,lt a c (by ext)];exact⟨λz=>(nomatch z),λ_=>rfl,λ_=>rfl⟩
 ·rw[lt a b h1,gt b c h2];exact⟨λz=>(nomatch z),λz=>(nomatch z),λz=>(nomatch z)⟩
 ·rw[lt b c h2,lt a c (by ext)];exact⟨λ_=>rfl,λz=>(nomatch z),λz=>z.symm⟩
 ·exact absurd ⟨h1,h2⟩ h
 ·rw[gt b c h2,gt a c (by ext)];exact⟨λ_=>rfl,λz=>(nomatch z),λz=>z.symm⟩
 ·rw[gt a b h1,lt b c h2];exact⟨λz=>(nomatch z),λz=>(nomatch z),λz=>(nomatch z)⟩
 ·rw[gt a b h1,gt a c (by ext)];exact⟨λz=>(nomatch z),λ_=>rfl,λ_=>rfl⟩
 ·rw[gt a b h1,gt b c h2,gt a c (by ext)];exact⟨λz=>(nomatch z),λ_=>rfl,λ_=>rfl⟩
def TR {b:D}(h:0=rk b):∃j,b=.int j:=by cases b<;>first|exact⟨_,rfl⟩|cases h
def TK {b:D}(h:1=rk b):∃j,b=.str j:=by cases b<;>first|exact⟨_,rfl⟩|cases h
def Rv {b:D}(h:2=rk b):∃j,b=.tup j:=by cases b<;>first|exact⟨_,rfl⟩|cases h
def XF {a b:D}(ha:3=rk a)(hb:3=rk b):Ds a b=.eq:=by
 cases a<;>first|(cases ha;done)|(cases b<;>first|(cases hb;done)|rfl)
def T3.of_o {a b c:D}(h:3=rk a):T3 (Ds a b) (Ds b c) (Ds a c):=by
 by_cases e:rk a=rk b/\rk b=rk c
 ·have h2:=h.trans e.1
  rw[XF h h2,XF h2 (h2.trans e.2),XF h (h2.trans e.2)]
  exact⟨λ_=>rfl,λ_=>rfl,λ_=>rfl⟩
 ·exact .of_rk e
mutual
theorem V6:∀(a b c:D),T3 (Ds a b) (Ds b c) (Ds a c)
 |.tup xs,b,c=>by
  by_cases e:rk (.tup xs)=rk b/\rk b=rk c
  ·obtain⟨ys,rfl⟩:=Rv e.1
   obtain⟨zs,rfl⟩:=Rv e.2
   unfold Ds
   exact T8 xs ys zs
  ·exact .of_rk e
 |.int i,b,c=>by
  by_cases e:rk (.int i)=rk b/\rk b=rk c
  ·obtain⟨j,rfl⟩:=TR e.1
   obtain⟨k,rfl⟩:=TR e.2
   unfold Ds
   exact YF _ _ _
  ·exact .of_rk e
 |.str i,b,c=>by
  by_cases e:rk (.str i)=rk b/\rk b=rk c
  ·obtain⟨j,rfl⟩:=TK e.1
   obtain⟨k,rfl⟩:=TK e.2
   unfold Ds
   exact Yx _ _ _
  ·exact .of_rk e
 |.non,_,_=>.of_o rfl
 |.bl _,_,_=>.of_o rfl
 |.lst _,_,_=>.of_o rfl
 |.dct _ _,_,_=>.of_o rfl
 |.set _,_,_=>.of_o rfl
 |.ref _,_,_=>.of_o rfl
theorem T8:∀(xs ys zs:List D),T3 (Hc xs ys) (Hc ys zs) (Hc xs zs)
 |[],[],[]=>⟨λ_=>rfl,λ_=>rfl,λ_=>rfl⟩
 |[],[],_::_=>⟨λ_=>rfl,λz=>(nomatch z),λz=>(nomatch z)⟩
 |[],_::_,[]=>⟨λz=>(nomatch z),λz=>(nomatch z),λz=>(nomatch z)⟩
 |[],y::ys,z::zs=>⟨λz=>(nomatch z),λ_=>rfl,λ_=>rfl⟩
 |x::xs,[],[]=>⟨λz=>(nomatch z),λ_=>rfl,λz=>(nomatch z)⟩
 |x::xs,[],_::_=>⟨λz=>(nomatch z),λz=>(nomatch z),λz=>(nomatch z)⟩
 |x::xs,y::ys,[]=>⟨λ_=>rfl,λz=>(nomatch z),λz=>z.symm⟩
 |x::xs,y::ys,z::zs=>by
  unfold Hc
  exact(V6 x y z).then' (T8 xs ys zs)
end
def MZ (a b:D)(h:ltT a b=true):ltT b a=false:=by
 unfold ltT at *
 rw[cmp_swap a b]
 cases c:Ds a b<;>rw[c] at h<;>first|rfl|cases h
theorem OZ (a b c:D)(h1:ltT b a=false)(h2:ltT c b=false):ltT c a=false:=by
 unfold ltT at *
 have t:=V6 c b a
 cases q:Ds c b with
 |eq=>rw[<- t.e1 q];exact h1
 |lt=>rw[q] at h2;cases h2
 |gt =>
  cases q2:Ds b a with
  |eq=>rw[<- t.e2 q2,q];rfl
  |lt=>rw[q2] at h1;cases h1
  |gt=>rw[t.e3 (q.trans q2.symm),q];rfl
mutual
def Fu:D->Bool
 |.int _=>true
 |.str _=>true
 |.tup ds=>FJ ds
 |_=>false
def FJ:List D->Bool
 |[]=>true
 |d::ds=>Fu d&&FJ ds
end
mutual
theorem Ng:∀{d:D},Fu d=true->hsh d=true
 |.int _,_=>rfl
 |.str _,_=>rfl
 |.tup ds,h=>by unfold Fu at h;unfold hsh;exact Nm h
 |.non,h=>nomatch h
 |.bl _,h=>nomatch h
 |.lst _,h=>nomatch h
 |.dct _ _,h=>nomatch h
 |.set _,h=>nomatch h
 |.ref _,h=>nomatch h
theorem Nm:∀{ds:List D},FJ ds=true->E3 ds=true
 |[],_=>rfl
 |d::ds,h=>by
  unfold FJ at h
  rw[Ai] at h
  unfold E3
  rw[Ng h.1,Nm h.2]
  rfl
end
mutual
theorem O5:∀(a b:D),Fu a=true->Fu b=true->Ds a b=.eq->a=b
 |.int i,b,_,hb,h=>by
  cases b<;>first|(cases hb;done)|(simp[Ds,Ij,rk] at h;done)|skip
  rename_i j
  unfold Ds Kq at h
  repeat' split at h
  all_goals first|(cases h;done)|(congr 1;ext)
 |.str i,b,_,hb,h=>by
  cases b<;>first|(cases hb;done)|(simp[Ds,Ij,rk] at h;done)|skip
  unfold Ds at h
  rw[Kv.mp h]
 |.tup xs,b,ha,hb,h=>by
  cases b<;>first|(cases hb;done)|(simp[Ds,Ij,rk] at h;done)|skip
  unfold Ds at h
  unfold Fu at ha hb
  congr 1
  exact PQ xs _ ha hb h
 |.non,_,h,_,_=>nomatch h
 |.bl _,_,h,_,_=>nomatch h
 |.lst _,_,h,_,_=>nomatch h
 |.dct _ _,_,h,_,_=>nomatch h
 |.set _,_,h,_,_=>nomatch h
 |.ref _,_,h,_,_=>nomatch h
theorem PQ:∀(xs ys:List D),FJ xs=true->FJ ys=true->Hc xs ys=.eq->xs=ys
 |[],[],_,_,_=>rfl
 |[],_::_,_,_,h=>by cases h
 |_::_,[],_,_,h=>by cases h
 |x::xs,y::ys,ha,hb,h=>by
  unfold FJ at ha hb
  rw[Ai] at ha hb
  unfold Hc at h
  cases c:Ds x y<;>rw[c] at h<;>first|(cases h;done)|skip
  rw[O5 x y ha.1 hb.1 c,PQ xs ys ha.2 hb.2 h]
end
theorem lt_eq (a b:D)(ha:Fu a=true)(hb:Fu b=true)(h1:ltT a b=false)(h2:ltT b a=false):a=b:=by
 refine O5 a b ha hb ?_
 unfold ltT at h1 h2
 rw[cmp_swap a b] at h2
 cases c:Ds a b with
 |eq=>rfl
 |lt=>rw[c] at h1;cases h1
 |gt=>rw[c] at h2;cases h2
def RT (a:D):Ds a a=.eq:=by
 have:=cmp_swap a a
 cases c:Ds a a<;>rw[c] at this<;>first|rfl|cases this
mutual
theorem V2:∀(a b:D) (r:Bool),Fu a=true->Fu b=true->ltB a b=some r->r=(Ds a b==.lt)
 |.int i,b,r,_,hb,h=>by
  cases b<;>first|(cases hb;done)|(unfold ltB at h;cases h;done)|skip
  rename_i j
  unfold ltB at h
  cases h
  unfold Ds Kq
  by_cases c:i<j
  ·simp[c]
  ·rw[Bi c,if_neg c];split<;>rfl
 |.str i,b,r,_,hb,h=>by
  cases b<;>first|(cases hb;done)|(unfold ltB at h;cases h;done)|skip
  rename_i j
  unfold ltB at h
  cases h
  unfold Ds
  by_cases c:i.cps.toList<j.cps.toList
  ·rw[BK c,Iv.mpr c];rfl
  ·rw[Bi c]
   have:IK i j≠.lt:=λz=>c (Iv.mp z)
   cases e:IK i j<;>first|rfl|exact absurd e this
 |.tup xs,b,r,ha,hb,h=>by
  cases b<;>first|(cases hb;done)|(unfold ltB at h;cases h;done)|skip
  unfold ltB at h
  unfold Ds
  unfold Fu at ha hb
  exact RZ xs _ r ha hb h
 |.non,_,_,h,_,_=>nomatch h
 |.bl _,_,_,h,_,_=>nomatch h
 |.lst _,_,_,h,_,_=>nomatch h
 |.dct _ _,_,_,h,_,_=>nomatch h
 |.set _,_,_,h,_,_=>nomatch h
 |.ref _,_,_,h,_,_=>nomatch h
theorem RZ:∀(xs ys:List D) (r:Bool),FJ xs=true->FJ ys=true->GG xs ys=some r->r=(Hc xs ys==.lt)
 |[],[],r,_,_,h=>by unfold GG at h;cases h;rfl
 |[],_::_,r,_,_,h=>by unfold GG at h;cases h;rfl
 |_::_,[],r,_,_,h=>by unfold GG at h;cases h;rfl
 |x::xs,y::ys,r,ha,hb,h=>by
  unfold FJ at ha hb
  rw[Ai] at ha hb
  unfold GG at h
  split at h
  ·rw[GU (Ng ha.1) (Ng hb.1)] at h
   unfold Hc
   by_cases c:x=y
   ·rw[BK c] at h
    subst c
    rw[RT]
    exact RZ xs ys r ha.2 hb.2 (by simpa using h)
   ·rw[Bi c] at h
    have e:=V2 x y r ha.1 hb.1 (by simpa using h)
    rw[e]
    cases q:Ds x y with
    |eq=>exact absurd (O5 x y ha.1 hb.1 q) c
    |lt=>rfl
    |gt=>rfl
  ·cases h
end
def leT (a b:D):Bool:=!ltT b a
def FF (es:List D):List D:=es.mergeSort leT
def Qu (a b c:D)(h1:leT a b=true)(h2:leT b c=true):leT a c=true:=by
 unfold leT at *
 simp at h1 h2 ⊢
 exact OZ a b c h1 h2
theorem Rp (a b:D):(leT a b||leT b a)=true:=by
 unfold leT
 cases c:ltT b a with
 |false=>rfl
 |true=>simp[MZ b a c]
def D3 (es:List D):(FF es).Perm es:=List.mergeSort_perm es leT
def MF (es:List D):(FF es).Pairwise λa b=>leT a b=true:=List.pairwise_mergeSort Qu Rp es
def ML {es rs:List D}(ho:∀d∈es,Fu d=true)(hp:rs.Perm es)(hs:rs.Pairwise λa b=>leT a b=true):rs=FF es:=by
 have hp2:=hp.trans (D3 es).symm
 refine List.Perm.eq_of_pairwise (λa b ha hb h1 h2=>?_) hs (MF es) hp2
 unfold leT at h1 h2
 simp at h1 h2
 exact lt_eq a b (ho a (hp.mem_iff.mp ha)) (ho b ((D3 es).mem_iff.mp hb)) h2 h1
def QK {es fs:List D}(ho:∀d∈es,Fu d=true)(hp:fs.Perm es):FF fs=FF es:=ML ho ((D3 fs).trans hp) (MF fs)
section
variable {prog:Program}{w:World}{A:Around}{E:Value->Zaa}{s:Shared}
theorem Rn {S I:Addr}{es:Array (Int×Value)}{ep:Nat}{t:SetTable}{md:Md}{Q:PySem.Fin->Zaa}(hh:A.handled=none)(hf:t.fits es.size=true)(g:SIt w S I es ep t md es.size s.heap)
  (q:∀h' e,(∀c o,c≠I->s.heap.get? c=some o->h'.get? c=some o)->(∃o,h'.get? e=some o/\o.cls=.type "StopIteration")->E (.ref e) {s with heap:=h'}) :
  wpAny (model prog w) A (Builtin.«set_iterator.__next__» ⟨[.ref I],[]⟩) Q E s:=by
 obtain⟨⟨ob,g1,g2⟩,o,v,k1,k2,k3,k4⟩:=id g
 have upd:∀(h:Heap) f c o',c≠I->h.get? c=some o'->(h.update I f).get? c=some o':=λh f c o' hc e=>((AD ..).2 c hc).trans e
 refine(?_:wpAny _ _ (fieldsOf (.ref I)>>=_) _ _ _)
 refine Aa (wpAny_fieldsOf k1 k3 (?_:wpAny _ _ (setEntries S>>=_) _ _ _))
 refine Aa (wpAny_setEntries_of g1 g2 hf ?_)
 rw[if_neg (by simp)]
 cases md with
 |drw TI pl =>
  obtain⟨rfl,⟨tb,b1,b2,n,b3⟩,c1,c2⟩:=k4
  refine(?_:wpAny _ _ (seqItems? (.ref TI)>>=_) _ _ _)
  refine Aa (Bz b1 b3 ?_)
  have ei:(pl.map λp:Nat=>rawInt p).toArray[((es.size:Nat):Int).toNat]?=none:=by simp[c1]
  dsimp only
  rw[ei]
  obtain⟨o',e1,e2,e3⟩:=FN (i:=0) (x:=rawInt 0) k1 k3
  refine Aa (Bm k1 k3 (by simp) (Aa (Bm e1 e3 (by simp) ?_)))
  exact F3 (I:=I) hh λh' e a b=>q h' e (λc o hc z=>a c o (upd _ _ c o hc (upd _ _ c o hc z))) b
 |txt =>
  obtain⟨bt,c,rfl⟩:=k4
  refine(?_:wpAny _ _ (setNext S ((c:Nat):Int).toNat ((es.size:Nat):Int).toNat ((ep:Nat):Int).toNat>>=_) _ _ _)
  refine Aa ?_
  unfold setNext
  refine Aa (BR g1 g2 hf (Aa (FW ?_)))
  rw[if_pos bt]
  rw[Int.toNat_natCast,Int.toNat_natCast,Int.toNat_natCast]
  dsimp only
  rw[if_neg (by simp)]
  refine Aa ?_
  unfold setWalk
  refine Aa (BR g1 g2 hf (Aa (FW ?_)))
  rw[if_pos bt]
  refine Aa (wpAny_askSetting (Ab (Ab ?_)))
  have hl:(pickOrder (w.params.setOrder S ep) es).size=es.size:=by
   have:=(GI (w.params.setOrder S ep) es).length_eq
   simpa using this
  have ex':Option.map (λe:Int×Value=>(e.2,c)) (pickOrder ((⟨prog,w.params⟩:Setting).params.setOrder S ep) es)[es.size]?=none:=by
   rw[AZ (by rw[show(⟨prog,w.params⟩:Setting).params.setOrder S ep=w.params.setOrder S ep from rfl,hl];exact Ae _)];rfl
  refine(?_:wpAny _ _ (match Option.map (λe:Int×Value=>(e.2,c)) (pickOrder ((⟨prog,w.params⟩:Setting).params.setOrder S ep) es)[es.size]? with|some (x,next)=>_|none=>_) _ _ _)
  rw[ex']
  refine Aa (Bm k1 k3 (by simp) ?_)
  exact F3 (I:=I) hh λh' e a b=>q h' e (λc o hc z=>a c o (upd _ _ c o hc z)) b
 |one =>
  obtain⟨bt,pl,sz,led,rfl⟩:=k4
  refine(?_:wpAny _ _ (setNext S ((if es.size=0 then 0 else (t.place.getD 0 0+1):Nat):Int).toNat ((es.size:Nat):Int).toNat ((ep:Nat):Int).toNat>>=_) _ _ _)
  refine Aa ?_
  unfold setNext
  refine Aa (BR g1 g2 hf (Aa (FW ?_)))
  rw[if_neg (by rw[bt];exact AN)]
  refine Ht (λz=>?_) λ_=>?_
  ·exfalso
   have z':(!t.plain&&decide (es.size > 1))=true:=z
   simp at z'
   ext
  refine Aa (Ht (λz=>?_) λ_=>?_)
  ·exfalso
   have z':(!t.led&&!es.isEmpty)=true:=z
   rw[led] at z'
   simp at z'
  refine Ab ?_
  have ps:t.place.size=es.size:=by
   simp only[SetTable.fits,Ai,beq_iff_eq,AA] at hf
   exact hf.1
  have bl:SetTable.below t.place (if es.size=0 then 0 else (t.place.getD 0 0+1))=es.size:=by
   by_cases c:es.size=0
   ·rw[if_pos c,K6 (by ext),c]
   ·rw[if_neg c,OJ (by ext)];ext
  have en:es[es.size]?=none:=AZ (Ae _)
  have hm:(match es[SetTable.below t.place ((if es.size=0 then 0 else (t.place.getD 0 0+1):Nat):Int).toNat]?,t.place[SetTable.below t.place ((if es.size=0 then 0 else (t.place.getD 0 0+1):Nat):Int).toNat]? with|some (_,x),some j=>some (x,j+1)|_,_=>none)=none:=by
   rw[Int.toNat_natCast,bl,en]
  refine(?_:wpAny _ _ (pure (match es[SetTable.below t.place ((if es.size=0 then 0 else (t.place.getD 0 0+1):Nat):Int).toNat]?,t.place[SetTable.below t.place ((if es.size=0 then 0 else (t.place.getD 0 0+1):Nat):Int).toNat]? with|some (_,x),some j=>some (x,j+1)|_,_=>none)) _ _ _)
  rw[hm]
  refine Ab (Aa (Bm k1 k3 (by simp) ?_))
  exact F3 (I:=I) hh λh' e a b=>q h' e (λc o hc z=>a c o (upd _ _ c o hc z)) b
def SIt.ty {S I:Addr}{es:Array (Int×Value)}{ep:Nat}{t:SetTable}{md:Md}{i:Nat}(g:SIt w S I es ep t md i s.heap):s.TypeIs (.ref I) "set_iterator":=let ⟨_,o,v,k1,k2,_⟩:=g;⟨o,k1,k2⟩
def Md.fp (S I:Addr):Md->List Addr
 |.drw TI _=>[I,S,TI]
 |_=>[I,S]
def Km:entryFor table "set_iterator.__iter__"=some Builtin.«dict_keyiterator.__iter__»:=
 entryFor_alias (id':="dict_keyiterator.__iter__") (by kernel_rfl) rfl (by symm) (by kernel_rfl)
def K5 (a:Value):argsOk "set_iterator.__iter__" ⟨[a],[]⟩:=by
 unfold argsOk;rw[signature?_of (id:="set_iterator.__iter__") (n:=['_','_','r','e','t','i','_','_']) (o:=['r','o','t','a','r','e','t','i','_','t','e','s']) (by kernel_rfl) KQ];kernel_rfl
def L8 (hh:A.handled=none){S I:Addr}{es:Array (Int×Value)}{ep:Nat}{t:SetTable}{md:Md}(hf:t.fits es.size=true)(ne:S≠I)(ap:md.apart I) :
  Walks prog w A I (md.fp S I) [I] es.size (λi v=>(Lx w S es ep md)[i]?=some v) (λi h=>SIt w S I es ep t md i h) where
 sub:=λb hb=>by rw[Ah.mp hb];cases md<;>simp[Md.fp]
 frame:=λ_ h h' st hk=>by
  obtain⟨⟨ob,g1,g2⟩,o,v,k1,k2,k3,k4⟩:=st
  refine⟨⟨ob,hk S (by cases md<;>simp[Md.fp]) _ g1,g2⟩,o,v,hk I (by cases md<;>simp[Md.fp]) _ k1,k2,k3,?_⟩
  cases md with
  |drw TI pl=>obtain⟨a,⟨tb,b1,b2⟩,c⟩:=k4;exact⟨a,⟨tb,hk TI (by simp[Md.fp]) _ b1,b2⟩,c⟩
  |txt=>exact k4
  |one=>exact k4
 item:=λ_ s Q E hi st hQ=>by
  unfold pyNext
  exact Aa (BN (AM (name:=Str.ofString "__next__") st.ty El (AE El st.ty HM (QX hf ne ap st hi λv h' e g' sb=>Ab (hQ v h' s.toks e g' λb o hb z=>(sb.2 b (by simpa using hb)).trans z)) (Im _))))
 done:=λs Q E st hQ=>by
  unfold pyNext
  refine Aa (BN (AM (name:=Str.ofString "__next__") st.ty El (AE El st.ty HM (Rn hh hf st λh' e a b=>?_) (Im _))))
  obtain⟨o,ho,hc⟩:=b
  exact Aa (BH (T:="StopIteration") (b:=true) ⟨o,ho,hc⟩ isSubtype_stop (Ab (hQ h' s.toks λb o hb z=>a b o (by simpa using hb) z)))
 self:=λi s Q E st hQ=>by
  refine BS st.ty Ik (AE Ik st.ty Km ?_ (K5 _))
  refine(?_:wpAny _ _ (ret (.ref I)) _ _ s)
  exact Ab ⟨_,rfl,"set_iterator",_,st.ty,El.lookup,hQ⟩
def KY:entryFor table "set.__iter__"=some Builtin.«frozenset.__iter__»:=
 entryFor_alias (id':="frozenset.__iter__") (by kernel_rfl) (by symm) (by symm) (by kernel_rfl)
def OB {S:Addr}{ob:Obj}{es:Array (Int×Value)}{ep:Nat}{t:SetTable}{Q:Value->Zaa}(hz:es.size<=sizeLine)(g1:s.heap.get? S=some ob)(gc:ob.cls=.type "set")(g2:ob.data=.set es ep t)(hf:t.fits es.size=true)(hw:HA w=true\/t.led=true/\(t.plain=false\/es.size<=1))
  (q:∀I h' d' md,s.heap.objs.size<=I->SIt w S I es ep t md 0 h'->md.apart I->(∀b o,s.heap.get? b=some o->h'.get? b=some o)->(Lx w S es ep md).Perm (es.toList.map (·.2))->(∀b∈md.fp S I,b<h'.objs.size)->Q (.ref I) {s with heap:=h',drawn:=d'}):wpAny (model prog w) A (pyIter (.ref S)) Q E s:=by
 have ty:s.TypeIs (.ref S) "set":=⟨ob,g1,gc⟩
 refine BS ty F.slot_set_iter (AE F.slot_set_iter ty KY ?_ (F.args_set_iter_1 _))
 refine(?_:wpAny _ _ (Builtin.Frozenset.sizeOf S>>=_) _ _ s)
 refine Aa (Aa (wpAny_setEntries_of g1 g2 hf (Ab ?_)))
 have lt:S<s.heap.objs.size:=An g1
 have fin:∀(h1:Heap) d1 (md:Md) (v:Value),(∀b o,s.heap.get? b=some o->h1.get? b=some o)->s.heap.objs.size<=h1.objs.size->Fst w es t h1 0 v md->(∀TI pl,md=.drw TI pl->TI<h1.objs.size)->(Lx w S es ep md).Perm (es.toList.map (·.2)) ->
   wpAny (model prog w) A.in1 (setEpoch S>>=λe=>newFields "set_iterator" [v,rawInt 0,.ref S,rawInt es.size,rawInt e]>>=λr=>ret r) (λfin s'=>∃v,fin=.done (.ret v)/\∃T' r,s'.TypeIs v T'/\typeLookup (.type T') "__next__"=pure (some r)/\Q v s') E {s with heap:=h1,drawn:=d1}:=λh1 d1 md v hk hsz hF hTI hp=>by
  refine Aa (wpAny_setEpoch_of (s:={s with heap:=h1,drawn:=d1}) (hk _ _ g1) g2 hf (Aa ?_))
  unfold newFields
  refine AX (Ab ⟨_,rfl,"set_iterator",_,⟨_,Ag _ rfl,rfl⟩,El.lookup,?_⟩) (by size_fits)
  refine q h1.objs.size _ d1 md hsz ⟨⟨ob,Ac _ (hk _ _ g1),g2⟩,_,v,Ag _ rfl,rfl,rfl,?_⟩ ?_ (λb o e=>Ac _ (hk b o e)) hp ?_
  ·cases md with
   |drw TI pl=>obtain⟨a,⟨tb,b1,b2⟩,c⟩:=hF;exact⟨a,⟨tb,Ac _ b1,b2⟩,c⟩
   |txt=>exact hF
   |one=>exact hF
  ·cases md with
   |drw TI pl=>exact Az (hTI TI pl rfl)
   |txt=>exact True.intro
   |one=>exact True.intro
  ·intro b hb
   rw[Bn]
   have lS:=Bl (AI lt hsz)
   cases md with
   |drw TI pl =>
    have:=hTI TI pl rfl
    simp only[Md.fp,Ao,Ax,Ba] at hb
    rcases hb with rfl|rfl|rfl
    ·exact Bh _
    ·exact lS
    ·exact Bl this
   |txt =>
    simp only[Md.fp,Ao,Ax,Ba] at hb
    rcases hb with rfl|rfl
    ·exact Bh _
    ·exact lS
   |one =>
    simp only[Md.fp,Ao,Ax,Ba] at hb
    rcases hb with rfl|rfl
    ·exact Bh _
    ·exact lS
 refine(?_:wpAny _ _ (setDrawn S>>=_) _ _ s)
 refine Aa ?_
 unfold setDrawn
 refine Aa (BR g1 g2 hf (Aa (FW (Ab ?_))))
 refine Ht (λc=>?_) λc=>?_
 ·have c':(!HA w&&(!t.plain&&decide (es.size > 1)))=true:=c
  refine Aa (NO es.size (List.range es.size) (by simp) λys d' p=>?_)
  unfold newTuple
  refine Aa (AX ?_ (by
   show((ys.map λi:Nat=>rawInt i).toArray).size<=sizeLine
   rw[Ar,Ak,p.length_eq,List.length_range];exact hz))
  have sz:(s.heap.push {cls:=.type "tuple",data:=.seq (ys.map λi:Nat=>rawInt i).toArray}).objs.size=s.heap.objs.size+1:=Bn ..
  refine fin _ d' (.drw s.heap.objs.size ys) _ (λb o e=>Ac _ e) (by rw[sz];ext) ⟨rfl,⟨_,Ag _ rfl,rfl,_,rfl⟩,by rw[p.length_eq,List.length_range],λx hx=>List.mem_range.mp (p.mem_iff.mp hx)⟩ (λTI pl e=>by cases e;rw[sz];exact Bh _) ?_
  unfold Lx
  have e1:(List.range es.size).map (λp=>(es.getD p (0,.none)).2)=es.toList.map (·.2):=by
   refine A6 λi=>?_
   rw[Am,Am,Af]
   by_cases hi:i<es.size
   ·simp[hi,Array.getD]
   ·simp[hi]
  rw[<- e1]
  exact p.map _
 ·have c':¬ (!HA w&&(!t.plain&&decide (es.size > 1)))=true:=c
  by_cases bt:HA w=true
  ·refine fin s.heap s.drawn .txt (rawInt 0) (λ_ _ e=>e) (Ae _) ⟨bt,0,rfl⟩ (λTI pl e=>nomatch e) ?_
   exact(GI _ es).map _
  ·have bf:HA w=false:=by simpa using bt
   have hw':=hw.resolve_left bt
   have sz:es.size<=1:=by
    rw[bf] at c'
    rcases hw'.2 with z|z
    ·rw[z] at c';simp at c';ext
    ·exact z
   exact fin s.heap s.drawn .one (rawInt 0) (λ_ _ e=>e) (Ae _) ⟨bf,hw'.2,sz,hw'.1,rfl⟩ (λTI pl e=>nomatch e) (BD _)
def O4 {S:Addr}{ob:Obj}{es:Array (Int×Value)}{ep:Nat}{t:SetTable}{Q:List Value->Zaa}(hh:A.handled=none)(hz:es.size<=sizeLine)(g1:s.heap.get? S=some ob)(gc:ob.cls=.type "set")(g2:ob.data=.set es ep t)(hf:t.fits es.size=true)(hw:HA w=true\/t.led=true/\(t.plain=false\/es.size<=1))
  (q:∀zs h' tk d',zs.Perm (es.toList.map (·.2))->(∀b o,s.heap.get? b=some o->h'.get? b=some o)->Q zs {s with heap:=h',toks:=tk,drawn:=d'}):wpAny (model prog w) A (collect (.ref S)) Q E s:=by
 have lt:S<s.heap.objs.size:=An g1
 have nS:s.heap.objs.size≠S:=BL lt
 unfold collect
 refine Aa (wpAny_runValue (BM F.entry_proto_collect ?_))
 rw[BE F.plain_proto_collect _]
 refine(?_:wpAny _ A.in1 (newList []>>=λl=>again (.builtin "list.__iadd__" ⟨[l,.ref S],[]⟩)) _ _ s)
 refine Aa (AX (Ab ⟨plainId_quiet F.plain_list_iadd _,BM F.entry_list_iadd ?_⟩))
 rw[BE F.plain_list_iadd _]
 refine(?_:wpAny _ A.in1 (Builtin.List.listExtendWith (.ref s.heap.objs.size) (.ref S) (.ref s.heap.objs.size)) _ _ _)
 (unfold Builtin.List.listExtendWith)
 have gS:(s.heap.push {cls:=.type "list",data:=.seq ([]:List Value).toArray}).get? S=some ob:=Ac _ g1
 have gL:(s.heap.push {cls:=.type "list",data:=.seq ([]:List Value).toArray}).get? s.heap.objs.size=some {cls:=.type "list",data:=.seq ([]:List Value).toArray}:=Ag _ rfl
 generalize hP:s.heap.push {cls:=.type "list",data:=.seq ([]:List Value).toArray}=h1 at gS gL ⊢
 have k1:∀b o,s.heap.get? b=some o->h1.get? b=some o:=λb o e=>by rw[<- hP];exact Ac _ e
 have sz1:h1.objs.size=s.heap.objs.size+1:=by rw[<- hP];exact Bn ..
 have ty:Shared.TypeIs {s with heap:=h1} (.ref S) "set":=⟨ob,gS,gc⟩
 refine Aa (By ty ?_)
 have e1:Builtin.List.listSameRef (.ref s.heap.objs.size) (.ref S)=false:=by simp[Builtin.List.listSameRef,nS]
 have e2:(Value.type "set"==Value.type "list")=false:=by decide
 have e3:(Value.type "set"==Value.type "tuple")=false:=by decide
 simp only[e1,e2,e3,Bool.or_false,AV,Bt]
 refine Aa (OB (s:={s with heap:=h1}) hz gS gc g2 hf hw λI h2 d2 md hI st ap k2 pm fpl=>?_)
 refine Aa (AG ?_)
 have ty2:Shared.TypeIs {s with heap:=h2,drawn:=d2} (.ref S) "set":=⟨ob,k2 _ _ gS,gc⟩
 (unfold Builtin.List.listLengthHint)
 refine Aa (wpAny_specialOf ty2 F.slot_set_len.lookup ?_)
 refine(?_:wpAny _ A.in1 (isInstance (Value.ref S) (.type "set")>>=_) _ _ _)
 refine Aa (BH ty2 sub_set_self ?_)
 refine(?_:wpAny _ A.in1 (typeOf (Value.ref S)>>=_) _ _ _)
 refine Aa (By ty2 (Ab ?_))
 refine(?_:wpAny _ A.in1 (rule "list.extend.makes-room">>=λ_=>Builtin.List.listTouch (.ref s.heap.objs.size)>>=λ_=>again (.builtin "list.extend.loop" ⟨[.ref s.heap.objs.size,.ref I,.ref s.heap.objs.size],[]⟩)) _ _ _)
 refine Aa (A7 (Aa ?_))
 refine(?_:wpAny _ A.in1 (updateSeq s.heap.objs.size (·.push .none)>>=λ_=>updateSeq s.heap.objs.size (·.pop)) _ _ _)
 have gL2:=k2 _ _ gL
 refine Aa (BY gL2 rfl ?_)
 have gL3:=AJ (Obj.mapSeq (·.push Value.none)) gL2 rfl
 refine BY gL3 rfl ?_
 have gL4:=AJ (Obj.mapSeq (·.pop)) gL3 rfl
 have nL:s.heap.objs.size∉md.fp S I:=by
  have nI:s.heap.objs.size≠I:=λe=>by
   have:s.heap.objs.size+1<=I:=by rw[<- sz1];exact hI
   rw[<- e] at this
   exact absurd this (Nat.not_succ_le_self _)
  cases md with
  |drw TI pl =>
   obtain⟨_,o,v,_,_,_,_,⟨tb,b1,b2,_⟩,_⟩:=st
   have nT:s.heap.objs.size≠TI:=λe=>by
    rw[<- e,gL2] at b1
    cases b1
    exact absurd b2 (by decide)
   simp only[Md.fp,Ao,Ax,Ba,not_or]
   exact⟨nI,nS,nT⟩
  |txt=>simp only[Md.fp,Ao,Ax,Ba,not_or];exact⟨nI,nS⟩
  |one=>simp only[Md.fp,Ao,Ax,Ba,not_or];exact⟨nI,nS⟩
 have oth:∀b o,b≠s.heap.objs.size->h2.get? b=some o->((h2.update s.heap.objs.size (Obj.mapSeq (·.push Value.none))).update s.heap.objs.size (Obj.mapSeq (·.pop))).get? b=some o:=
  λb o hb e=>(A9 _ _ (Ne.symm hb)).trans ((A9 _ _ (Ne.symm hb)).trans e)
 have nSI:S≠I:=λe=>by
  have a:s.heap.objs.size+1<=I:=by rw[<- sz1];exact hI
  rw[<- e] at a
  exact absurd (AI lt (AO (Nat.le_succ _) a)) (Bv _)
 have W:=(L8 (prog:=prog) (A:=A.in1) (w:=w) (ep:=ep) hh hf nSI ap).toS
 refine Ab ⟨plainId_quiet F.plain_extend_loop _,codeAny_extend_loopS (A:=A) W hz _ nL _ es.size 0 _ _ _ rfl (A5 _) ?_ gL4 (ItemsOf.nil _) λs' acc' c' hm hS' hacc=>?_⟩
 ·exact(L8 (prog:=prog) (A:=A.in1) (w:=w) (ep:=ep) hh hf nSI ap).frame 0 _ _ st λb hb o e=>oth b o (λz=>nL (z▸hb)) e
 refine(?_:wpAny _ A (load s.heap.objs.size>>=_) _ _ s')
 refine Aa (wpAny_load hS' ?_)
 obtain⟨zh,zg,zd,zt,zo⟩:=s'
 have e4:zg=s.gens:=hm.gens
 have e5:zd=d2:=hm.drawn
 have e6:zo=s.os:=hm.os
 subst e4 e5 e6
 refine Ab (q acc'.toList zh zt zd ?_ λb o e=>?_)
 ·have ln:(Lx w S es ep md).length=es.size:=by rw[pm.length_eq];simp
  have:acc'.toList=Lx w S es ep md:=by
   refine A6 λi=>?_
   by_cases hi:i<es.size
   ·have hi':i<acc'.size:=by rw[hacc.1];exact hi
    rw[Af,Av hi']
    exact(hacc.2 i _ (Av hi')).symm
   ·rw[Af,AZ (by rw[hacc.1];ext),BJ (by rw[ln];ext)]
  rw[this]
  exact pm
 ·have bl:=An e
  refine hm.heap b o ?_ (oth b o (Az bl) (k2 _ _ (k1 _ _ e)))
  simp only[Ao,Ax,Ba,not_or]
  refine⟨Az bl,λz=>?_⟩
  have a:s.heap.objs.size+1<=I:=by rw[<- sz1];exact hI
  rw[<- z] at a
  exact absurd (AI bl (AO (Nat.le_succ _) a)) (Bv _)
end
end PV
namespace PV
open PySem PyProof.Rows
def Xq:Bool->Keyed->Array Keyed->Nat->Nat->Nat->StateT SortSt Sem (Option Nat):=sortPriv% PySem.Builtin.gallop
structure TOk (prog:Program) (w:World) (A:Around) (s:Shared) (κ:SortKind) (M:Keyed->Prop) (lt:Keyed->Keyed->Bool):Prop where
 ask:∀x y,M x->M y->∀(Q:Bool->Zaa) (E:Value->Zaa),Q (lt x y) s->wpAny (model prog w) A (keyLt' κ x.1 y.1) Q E s
 asym:∀x y,lt x y=true->lt y x=false
 tr:∀x y z,lt y x=false->lt z y=false->lt z x=false
section
variable {prog:Program}{w:World}{A:Around}{E:Value->Zaa}{s:Shared} {κ:SortKind}{M:Keyed->Prop}{lt:Keyed->Keyed->Bool}{st:SortSt}
theorem TOk.irr (T:TOk prog w A s κ M lt)(x:Keyed):lt x x=false:=by
 cases e:lt x x with
 |false=>rfl
 |true=>rw[<- e];exact T.asym x x e
def TOk.run (T:TOk prog w A s κ M lt)(hk:kindOf st=κ){x y:Keyed}(hx:M x)(hy:M y){Q:Option Bool->SortSt->Prop}(h:Q (some (lt x y)) st):wpS (model prog w) A E s (lt' x y) Q st:=by
 rw[lt'_eq]
 refine Au (wpS_get ?_)
 rw[hk]
 exact Au (wpS_lift (BN (T.ask _ _ hx hy _ _ ⟨rfl,AB h⟩)))
def Dw {M:Model}{arr:Array Keyed}{i:Nat}{x:Keyed}(e:arr[i]?=some x){Q:Keyed->SortSt->Prop}(h:Q x st):wpS M A E s (elem' arr i) Q st:=by
 rw[elem'_eq,e]
 exact AB h
theorem Tj (T:TOk prog w A s κ M lt){left:Bool}{key:Keyed}{arr:Array Keyed}{base n hint:Nat}{bey:Nat->Bool}(hk:kindOf st=κ)(hm:M key)
  (hb:∀i,i<n->∃x,arr[base+i]?=some x/\M x/\bey i=(if left=true then lt x key else !lt key x)) (mono:∀i j,i<=j->j<n->bey j=true->bey i=true) (hh:hint<n)
  {Q:Option Nat->SortSt->Prop} (h:∀k,k<=n->(∀i,i<k->bey i=true)->(∀i,k<=i->i<n->bey i=false)->Q (some k) st):wpS (model prog w) A E s (Xq left key arr base n hint) Q st:=by
 have ff:∀i j,i<=j->j<n->bey i=false->bey j=false:=λi j h1 h2 h3=>by
  cases e:bey j with
  |false=>rfl
  |true=>rw[mono i j h1 h2 e] at h3;cases h3
 have B:∀i,i<n->∀(Q':Option Bool->SortSt->Prop),Q' (some (bey i)) st->wpS (model prog w) A E s (elem' arr (base+i)>>=λx=>if left=true then lt' x key else lt' key x>>=λr=>pure (r.map (!·))) Q' st:=λi hi Q' hq=>by
  obtain⟨x,e1,e2,e3⟩:=hb i hi
  refine Au (Dw e1 ?_)
  cases left with
  |true=>exact T.run hk e2 hm (by rw[if_pos rfl] at e3;rw[<- e3];exact hq)
  |false=>exact Au (T.run hk hm e2 (AB (by rw[if_neg AN] at e3;rw[Option.map_some,<- e3];exact hq)))
 have J:∀(lo hi:Nat) (f:Nat->Option (Option Nat)×Nat×Nat->StateT SortSt Sem (ForInStep (Option (Option Nat)×Nat×Nat))) (g:Option (Option Nat)×Nat×Nat->StateT SortSt Sem (Option Nat)),lo<=hi->hi<=n->(∀i,i<lo->bey i=true)->(∀i,hi<=i->i<n->bey i=false) ->
   (∀x lo hi (R:ForInStep (Option (Option Nat)×Nat×Nat)->SortSt->Prop),hi<=lo->R (.done (none,lo,hi)) st->wpS (model prog w) A E s (f x (none,lo,hi)) R st) ->
   (∀x lo hi (R:ForInStep (Option (Option Nat)×Nat×Nat)->SortSt->Prop),lo<hi->hi<=n->(bey (lo+(hi-lo) / 2)=true->R (.yield (none,lo+(hi-lo) / 2+1,hi)) st)->(bey (lo+(hi-lo) / 2)=false->R (.yield (none,lo,lo+(hi-lo) / 2)) st)->wpS (model prog w) A E s (f x (none,lo,hi)) R st) ->
   (∀lo hi,Q (some hi) st->wpS (model prog w) A E s (g (none,lo,hi)) Q st)->wpS (model prog w) A E s (forIn [0:n] (none,lo,hi) f>>=g) Q st:=λlo hi f g h1 h2 h3 h4 f1 f2 g0=>by
  refine Au (wpS_forRange (I:=λx c st'=>st'=st/\∃lo hi,c=(none,lo,hi)/\lo<=hi/\hi<=n/\hi-lo<=n-x/\(∀i,i<lo->bey i=true)/\∀i,hi<=i->i<n->bey i=false) ?_ ?_ ⟨rfl,lo,hi,rfl,h1,h2,by ext,h3,h4⟩)
  ·rintro x c st' _ hx ⟨rfl,lo,hi,rfl,g1,g2,g3,g4,g5⟩
   by_cases q:lo >= hi
   ·exact f1 _ _ _ _ q (g0 _ _ (h hi g2 (λi z=>g4 i (by ext)) g5))
   ·exact f2 _ _ _ _ (by ext) g2 (λe=>⟨rfl,_,_,rfl,by ext,g2,by ext,λi z=>mono i _ (by ext) (by ext) e,g5⟩) λe=>⟨rfl,_,_,rfl,by ext,by ext,by ext,g4,λi z1 z2=>ff _ i z1 z2 e⟩
  ·rintro c st' ⟨rfl,lo,hi,rfl,g1,g2,g3,g4,g5⟩
   exact g0 _ _ (h hi g2 (λi z=>g4 i (by ext)) g5)
 refine Au (B hint hh _ ?_)
 cases e:bey hint with
 |true =>
  refine Au (wpS_mono (wpS_forRange (I:=λx c st'=>st'=st/\∃la o,c=(none,la,o)/\la<o/\x<o/\hint+la<n/\bey (hint+la)=true) (Q:=λc st'=>st'=st/\∃la o,c=(none,la,o)/\la<o/\hint+la<n/\bey (hint+la)=true/\(o<n-hint->bey (hint+o)=false)) ?_ ?_ ⟨rfl,0,1,rfl,by ext,by ext,by ext,e⟩) ?_)
  ·rintro x c st' _ hx ⟨rfl,la,o,rfl,g1,g2,g3,g4⟩
   dsimp only
   by_cases q:o >= n-hint
   ·rw[if_pos q]
    exact AB ⟨rfl,_,_,rfl,g1,g3,g4,λz=>by ext⟩
   ·rw[if_neg q]
    refine Au (B _ (by ext) _ ?_)
    cases e:bey (hint+o) with
    |true=>exact AB ⟨rfl,_,_,rfl,by ext,by ext,by ext,e⟩
    |false=>exact AB ⟨rfl,_,_,rfl,g1,g3,g4,λ_=>e⟩
  ·rintro c st' ⟨rfl,la,o,rfl,g1,g2,g3,g4⟩
   exact⟨rfl,_,_,rfl,g1,g3,g4,λz=>by ext⟩
  ·rintro c st' ⟨rfl,la,o,rfl,g1,g3,g4,g5⟩
   refine J (hint+la+1) (hint+min o (n-hint)) _ _ (by ext) (by ext) (λi z=>mono i _ (by ext) g3 g4) (λi z1 z2=>ff (hint+o) i (by ext) z2 (g5 (by ext))) ?_ ?_ λlo hi hq=>AB hq
   ·intro x lo hi R q hR;dsimp only;rw[if_pos q];exact AB hR
   ·intro x lo hi R q q2 r1 r2
    dsimp only
    rw[if_neg (by ext)]
    refine Au (B _ (by ext) _ ?_)
    cases e:bey (lo+(hi-lo) / 2) with
    |true=>exact AB (r1 e)
    |false=>exact AB (r2 e)
 |false =>
  refine Au (wpS_mono (wpS_forRange (I:=λx c st'=>st'=st/\∃la o,c=(none,la,o)/\la<o/\x<o/\la<=hint/\bey (hint-la)=false) (Q:=λc st'=>st'=st/\∃la o,c=(none,la,o)/\la<o/\la<=hint/\bey (hint-la)=false/\(o<hint+1->bey (hint-o)=true)) ?_ ?_ ⟨rfl,0,1,rfl,by ext,by ext,by ext,e⟩) ?_)
  ·rintro x c st' _ hx ⟨rfl,la,o,rfl,g1,g2,g3,g4⟩
   dsimp only
   by_cases q:o >= hint+1
   ·rw[if_pos q]
    exact AB ⟨rfl,_,_,rfl,g1,g3,g4,λz=>by ext⟩
   ·rw[if_neg q]
    refine Au (B _ (by ext) _ ?_)
    cases e:bey (hint-o) with
    |true=>exact AB ⟨rfl,_,_,rfl,g1,g3,g4,λ_=>e⟩
    |false=>exact AB ⟨rfl,_,_,rfl,by ext,by ext,by ext,e⟩
  ·rintro c st' ⟨rfl,la,o,rfl,g1,g2,g3,g4⟩
   exact⟨rfl,_,_,rfl,g1,g3,g4,λz=>by ext⟩
  ·rintro c st' ⟨rfl,la,o,rfl,g1,g3,g4,g5⟩
   refine J (hint+1-min o (hint+1)) (hint-la) _ _ (by ext) (by ext) (λi z=>mono i (hint-o) (by ext) (by ext) (g5 (by ext))) (λi z1 z2=>ff _ i z1 z2 g4) ?_ ?_ λlo hi hq=>AB hq
   ·intro x lo hi R q hR;dsimp only;rw[if_pos q];exact AB hR
   ·intro x lo hi R q q2 r1 r2
    dsimp only
    rw[if_neg (by ext)]
    refine Au (B _ (by ext) _ ?_)
    cases e:bey (lo+(hi-lo) / 2) with
    |true=>exact AB (r1 e)
    |false=>exact AB (r2 e)
end
def AbI:Array Keyed->Array Keyed->StateT SortSt Sem (Array Keyed):=sortPriv% PySem.Builtin.mergeLo
def Abf:Array Keyed->Array Keyed->StateT SortSt Sem (Array Keyed):=sortPriv% PySem.Builtin.mergeHi
def upR (lt:Keyed->Keyed->Bool)(a:Array Keyed):Prop:=∀(i j:Nat) (x y:Keyed),i<=j->a[i]?=some x->a[j]?=some y->lt y x=false
def Srt (lt:Keyed->Keyed->Bool)(l:List Keyed):Prop:=l.Pairwise λx y=>lt y x=false
abbrev wG (st:SortSt) (g:Nat):SortSt:=SortSt.mk' (kindOf st) (arrOf st) (pendingOf st) g (failedOf st)
def upS (lt:Keyed->Keyed->Bool)(a:Array Keyed)(lo hi:Nat):Prop:=∀(i j:Nat) (x y:Keyed),lo<=i->i<=j->j<hi->a[i]?=some x->a[j]?=some y->lt y x=false
def upR.seg {lt:Keyed->Keyed->Bool}{a:Array Keyed}(h:upR lt a)(lo hi:Nat):upS lt a lo hi:=λi j x y _ z _=>h i j x y z
def Eh (lt:Keyed->Keyed->Bool)(a b r:Array Keyed):Prop:=r.toList.Perm (a.toList++b.toList)/\Srt lt r.toList
section
variable {lt:Keyed->Keyed->Bool}{a b out out':Array Keyed}{ia ib k:Nat}
def upR.srt (h:upR lt a):Srt lt a.toList:=by
 unfold Srt
 rw[BZ]
 intro i j hi hj hij
 exact h i j _ _ (Nat.le_of_lt hij) (by simp at hi;simp[hi]) (by simp at hj;simp[hj])
def Lc (a:Array Keyed)(i j:Nat):(a.extract i j).toList=(a.toList.drop i).take (j-i):=by simp[List.extract_eq_take_drop]
def JT (a:Array Keyed)(i:Nat):(a.extract i a.size).toList=a.toList.drop i:=by
 rw[Lc,Ci]
 rw[Cj,Array.length_toList]
 exact Ae _
def SA {x:Keyed}(e:a[ia]?=some x):(a.toList.drop ia).take 1=[x]:=by
 rw[<- Af] at e
 obtain⟨h,rfl⟩:=Ad.mp e
 rw[Bx h]
 rfl
def Sl {x:Keyed}(h:x∈a.toList.drop ia):∃j,a[ia+j]?=some x:=by
 obtain⟨j,hj⟩:=AL.mp h
 rw[List.getElem?_drop,Af] at hj
 exact⟨j,hj⟩
def TU {x:Keyed}(h:x∈(a.toList.drop ia).take k):∃i,i<k/\a[ia+i]?=some x:=by
 obtain⟨j,hj⟩:=AL.mp h
 rw[List.getElem?_take] at hj
 split at hj
 ·rw[List.getElem?_drop,Af] at hj
  exact⟨j,by assumption,hj⟩
 ·cases hj
def Fe {l m:List Keyed}:Srt lt (l++m)↔Srt lt l/\Srt lt m/\∀x∈l,∀y∈m,lt y x=false:=List.pairwise_append
def VG {o p q c:List Keyed}(h1:Srt lt (o++(p++q)))(h2:Srt lt (o++c))(h3:∀x∈p,∀y∈c,lt y x=false):Srt lt ((o++p)++c):=by
 rw[Fe] at h1 h2
 obtain⟨g1,g2,g3⟩:=h1
 rw[Fe] at g2
 refine Fe.mpr ⟨Fe.mpr ⟨g1,g2.1,λx hx y hy=>g3 x hx y (A0 _ hy)⟩,h2.2.1,λx hx y hy=>?_⟩
 rcases AF.mp hx with hx|hx
 ·exact h2.2.2 x hx y hy
 ·exact h3 x hx y hy
structure MI (lt:Keyed->Keyed->Bool) (a b out:Array Keyed) (ia ib:Nat):Prop where
 pm:(out.toList++(a.toList.drop ia++b.toList.drop ib)).Perm (a.toList++b.toList)
 sa:Srt lt (out.toList++a.toList.drop ia)
 sb:Srt lt (out.toList++b.toList.drop ib)
def MI.tkA (h:MI lt a b out ia ib)(k:Nat)(hk:∀i x j y,i<k->a[ia+i]?=some x->b[ib+j]?=some y->lt y x=false)(e:out'.toList=out.toList++(a.toList.drop ia).take k):MI lt a b out' (ia+k) ib:=by
 have d:a.toList.drop ia=(a.toList.drop ia).take k++a.toList.drop (ia+k):=by rw[<- List.drop_drop,List.take_append_drop]
 refine⟨?_,?_,?_⟩
 ·rw[e,Bj,<- Bj (List.take _ _),<- d];exact h.pm
 ·rw[e,Bj,<- d];exact h.sa
 ·have:=h.sa
  rw[d] at this
  rw[e]
  refine VG this h.sb λx hx y hy=>?_
  obtain⟨i,h1,h2⟩:=TU hx
  obtain⟨j,h3⟩:=Sl hy
  exact hk i x j y h1 h2 h3
def MI.swap (h:MI lt a b out ia ib):MI lt b a out ib ia:=⟨((List.perm_append_comm).append_left _).trans (h.pm.trans List.perm_append_comm),h.sb,h.sa⟩
def MI.tkB (h:MI lt a b out ia ib)(k:Nat)(hk:∀i x j y,i<k->b[ib+i]?=some x->a[ia+j]?=some y->lt y x=false)(e:out'.toList=out.toList++(b.toList.drop ib).take k):MI lt a b out' ia (ib+k):=(h.swap.tkA k hk e).swap
def MI.len (h:MI lt a b out ia ib):out.size+((a.size-ia)+(b.size-ib))=a.size+b.size:=by
 have:=h.pm.length_eq
 simpa using this
def MI.finB (h:MI lt a b out ia ib)(e:ib=b.size):Eh lt a b (out++a.extract ia a.size++b.extract ib b.size):=by
 have d:b.toList.drop ib=[]:=List.drop_of_length_le (by rw[Array.length_toList,e];exact Ae _)
 have p:=h.pm
 have q:=h.sa
 unfold Eh
 rw[AY,AY,JT,JT]
 rw[d] at p ⊢
 rw[List.append_nil] at p ⊢
 exact⟨p,q⟩
def MI.finA (h:MI lt a b out ia ib)(e:ia=a.size):Eh lt a b (out++a.extract ia a.size++b.extract ib b.size):=by
 have d:a.toList.drop ia=[]:=List.drop_of_length_le (by rw[Array.length_toList,e];exact Ae _)
 have p:=h.pm
 have q:=h.sb
 unfold Eh
 rw[AY,AY,JT,JT]
 rw[d] at p ⊢
 rw[List.append_nil]
 exact⟨p,q⟩
def MI.finL (h:MI lt a b out ia ib)(e:ia+1=a.size)(hl:∀(i:Nat) (x y:Keyed),a[a.size-1]?=some x->b[i]?=some y->lt x y=false):Eh lt a b (out++b.extract ib b.size++a.extract ia a.size):=by
 have hi:ia<a.toList.length:=by rw[Array.length_toList];ext
 have d:a.toList.drop ia=[a.toList[ia]]:=by rw[Bx hi,List.drop_of_length_le (by rw[Array.length_toList];ext)]
 have p:=h.pm
 unfold Eh
 rw[AY,AY,JT,JT,Bj]
 refine⟨((List.perm_append_comm).append_left _).trans p,?_⟩
 rw[<- Bj]
 have q:=h.sa
 rw[d] at q ⊢
 rw[Fe] at q
 refine Fe.mpr ⟨h.sb,q.2.1,λx hx y hy=>?_⟩
 rcases AF.mp hx with hx|hx
 ·exact q.2.2 x hx y hy
 ·obtain⟨j,hj⟩:=Sl hx
  rw[Ah] at hy
  subst hy
  exact hl _ _ _ (by rw[<- Af,show a.size-1=ia by ext];exact Al hi) hj
end
section
variable {prog:Program}{w:World}{A:Around}{E:Value->Zaa}{s:Shared} {κ:SortKind}{M:Keyed->Prop}{lt:Keyed->Keyed->Bool}{st:SortSt}{a b:Array Keyed}
def D0 {i:Nat}(h:i<a.size):∃x,a[i]?=some x:=⟨a[i],by simp[h]⟩
def TOk.le (T:TOk prog w A s κ M lt)(ub:upR lt b){i j:Nat}{y z:Keyed}(hij:i<=j)(e:b[i]?=some y)(e':b[j]?=some z){x:Keyed}(h:lt y x=false):lt z x=false:=T.tr x y z h (ub i j y z hij e e')
def OX (T:TOk prog w A s κ M lt)(hk:kindOf st=κ){base n hint:Nat}(ua:upS lt a base (base+n))(ma:∀(i:Nat) (x:Keyed),a[i]?=some x->M x)(hn:base+n<=a.size)(hh:hint<n){key:Keyed}(hm:M key)
  {Q:Option Nat->SortSt->Prop} (h:∀k,k<=n->(∀i x,i<k->a[base+i]?=some x->lt key x=false)->(∀i x,k<=i->i<n->a[base+i]?=some x->lt key x=true)->Q (some k) st):wpS (model prog w) A E s (Xq false key a base n hint) Q st:=by
 refine Tj T (bey:=λi=>!lt key (a.getD (base+i) (.none,.none))) hk hm (λi hi=>?_) (λi j h1 h2 h3=>?_) hh λk h1 h2 h3=>h k h1 (λi x h4 h5=>?_) λi x h4 h5 h6=>?_
 ·obtain⟨x,e⟩:=D0 (a:=a) (i:=base+i) (by ext)
  exact⟨x,e,ma _ _ e,by simp[Bf,e]⟩
 ·obtain⟨x,e⟩:=D0 (a:=a) (i:=base+i) (by ext)
  obtain⟨y,e'⟩:=D0 (a:=a) (i:=base+j) (by ext)
  simp only[Bf,e,e',Option.getD_some,BU] at h3 ⊢
  exact T.tr x y key (ua _ _ _ _ (by ext) (by ext) (by ext) e e') h3
 ·have:=h2 i h4
  simpa[Bf,h5] using this
 ·have:=h3 i h4 h5
  simpa[Bf,h6] using this
def O2 (T:TOk prog w A s κ M lt)(hk:kindOf st=κ){base n hint:Nat}(ua:upS lt a base (base+n))(ma:∀(i:Nat) (x:Keyed),a[i]?=some x->M x)(hn:base+n<=a.size)(hh:hint<n){key:Keyed}(hm:M key)
  {Q:Option Nat->SortSt->Prop} (h:∀k,k<=n->(∀i x,i<k->a[base+i]?=some x->lt x key=true)->(∀i x,k<=i->i<n->a[base+i]?=some x->lt x key=false)->Q (some k) st):wpS (model prog w) A E s (Xq true key a base n hint) Q st:=by
 refine Tj T (bey:=λi=>lt (a.getD (base+i) (.none,.none)) key) hk hm (λi hi=>?_) (λi j h1 h2 h3=>?_) hh λk h1 h2 h3=>h k h1 (λi x h4 h5=>?_) λi x h4 h5 h6=>?_
 ·obtain⟨x,e⟩:=D0 (a:=a) (i:=base+i) (by ext)
  exact⟨x,e,ma _ _ e,by simp[Bf,e]⟩
 ·obtain⟨x,e⟩:=D0 (a:=a) (i:=base+i) (by ext)
  obtain⟨y,e'⟩:=D0 (a:=a) (i:=base+j) (by ext)
  simp only[Bf,e,e',Option.getD_some] at h3 ⊢
  cases q:lt x key with
  |true=>rfl
  |false=>rw[T.tr key x y q (ua _ _ _ _ (by ext) (by ext) (by ext) e e')] at h3;cases h3
 ·have:=h2 i h4
  simpa[Bf,h5] using this
 ·have:=h3 i h4 h5
  simpa[Bf,h6] using this
def Jy {out:Array Keyed}{i:Nat}{x:Keyed}(e:a[i]?=some x):(out.push x).toList=out.toList++(a.toList.drop i).take 1:=by rw[SA e,BI]
def Rq {out:Array Keyed}{i k:Nat}:(out++a.extract i (i+k)).toList=out.toList++(a.toList.drop i).take k:=by rw[AY,Lc,Nat.add_sub_cancel_left]
def Wb {i:Nat}{x:Keyed}(e:a[i]?=some x):i<a.size:=(Array.getElem?_eq_some_iff.mp e).1
def D2 {μ:Model}{σ β:Type}{st:σ}{c:Prop} [Decidable c]{m n:StateT σ Sem β}{Q:β->σ->Prop}(h1:c->wpS μ A E s m Q st)(h2:¬c->wpS μ A E s n Q st):wpS μ A E s (if c then m else n) Q st:=by
 by_cases h:c
 ·rw[if_pos h];exact h1 h
 ·rw[if_neg h];exact h2 h
def EH {μ:Model}{σ β:Type}{st:σ}{x y:Nat}{m n:StateT σ Sem β}{Q:β->σ->Prop}(h1:x=y->wpS μ A E s m Q st)(h2:x≠y->wpS μ A E s n Q st):wpS μ A E s (if (x==y)=true then m else n) Q st:=D2 (λh=>h1 (eq_of_beq h)) λh=>h2 λe=>h (beq_iff_eq.mpr e)
def G2 {μ:Model}{σ β:Type}{n:Nat}{st:σ}{f:Nat->β->StateT σ Sem (ForInStep β)}(I:Nat->β->σ->Prop){Q:β->σ->Prop}
  (hs:∀i c st (R:ForInStep β->σ->Prop),(∀c st,Q c st->R (.done c) st)->(∀c st,I (i+1) c st->R (.yield c) st)->i<n->I i c st->wpS μ A E s (f i c) R st)
  (he:∀c st,I n c st->Q c st){c:β} (h:I 0 c st):wpS μ A E s (forIn [0:n] c f) Q st:=
 wpS_forRange I (λi c st _ hi hI=>hs i c st _ (λ_ _ z=>z) (λ_ _ z=>z) hi hI) (λc st z=>he c st (by rwa[show max 0 n=n by ext] at z)) h
def YQ (T:TOk prog w A s κ M lt)(hk:kindOf st=κ)(ua:upR lt a)(ub:upR lt b)(ma:∀(i:Nat) (x:Keyed),a[i]?=some x->M x)(mb:∀(i:Nat) (x:Keyed),b[i]?=some x->M x)(na:1<=a.size)(nb:1<=b.size)
  (h0:∀x y,a[0]?=some x->b[0]?=some y->lt x y=false) (hl:∀(i:Nat) (x y:Keyed),a[a.size-1]?=some x->b[i]?=some y->lt x y=false)
  {Q:Array Keyed->SortSt->Prop} (h:∀r g,Eh lt a b r->Q r (wG st g)):wpS (model prog w) A E s (AbI a b) Q st:=by
 have hk':∀g,kindOf (wG st g)=κ:=λ_=>hk
 have I0:MI lt a b #[] 0 0:=⟨BD _,ua.srt,ub.srt⟩
 obtain⟨b0,eb⟩:=D0 nb
 obtain⟨a0,ea⟩:=D0 na
 have I1:MI lt a b #[b0] 0 1:=I0.tkB 1 (λi x j y q e1 e2=>by
  cases (show i=0 by ext)
  cases eb.symm.trans e1
  exact T.le ua (A5 _) ea e2 (h0 _ _ ea eb)) (Jy (out:=#[]) eb)
 refine Au (wpS_lift (A7 ⟨rfl,?_⟩))
 refine Au (Dw eb ?_)
 by_cases c1:1=b.size
 ·rw[if_pos (by simpa using c1)]
  exact AB (h _ (gallopOf st) (I1.finB c1))
 rw[if_neg (by simpa using c1)]
 by_cases c2:0+1=a.size
 ·rw[if_pos (by simpa using c2)]
  exact AB (h _ (gallopOf st) (I1.finL c2 hl))
 rw[if_neg (by simpa using c2)]
 refine Au (wpS_get ?_)
 refine Au (wpS_mono (wpS_forRange (I:=λx c st'=>(∃g,st'=wG st g)/\∃o ia ib mg,c=(none,o,ia,ib,mg)/\MI lt a b o ia ib/\ia+1<a.size/\ib<b.size/\x<o.size)
  (Q:=λc st'=>(∃g,st'=wG st g)/\∃r z,c=(some r,z)/\Eh lt a b r) ?_ ?_ ⟨⟨gallopOf st,rfl⟩,_,_,_,_,rfl,I1,by ext,by ext,by simp⟩) ?_)
 ·rintro x c st' _ hx ⟨⟨g,rfl⟩,o,ia,ib,mg,rfl,I,la,lb,hs⟩
  refine Au (wpS_mono (wpS_forRange (I:=λy c st'=>st'=wG st g/\∃o ia ib ac bc,c=(none,o,ia,ib,ac,bc)/\MI lt a b o ia ib/\ia+1<a.size/\ib<b.size/\x+y<o.size)
   (Q:=λc st'=>st'=wG st g/\((∃r z,c=(some r,z)/\Eh lt a b r)\/∃o ia ib ac bc,c=(none,o,ia,ib,ac,bc)/\MI lt a b o ia ib/\ia+1<a.size/\ib<b.size/\x+1<o.size)) ?_ ?_ ⟨rfl,_,_,_,_,_,rfl,I,la,lb,hs⟩) ?_)
  ·rintro y c st' _ hy ⟨rfl,o,ia,ib,ac,bc,rfl,I,la,lb,hs⟩
   dsimp only
   obtain⟨v,ev⟩:=D0 lb
   obtain⟨u,eu⟩:=D0 (show ia<a.size by ext)
   refine Au (Dw ev (Au (Dw eu (Au (T.run (hk' g) (mb _ _ ev) (ma _ _ eu) ?_)))))
   cases q:lt v u with
   |true =>
    refine Au (Dw ev ?_)
    have J:=I.tkB 1 (λi x j y z e1 e2=>by
     cases (show i=0 by ext)
     cases ev.symm.trans e1
     exact T.le ua (Nat.le_add_right _ _) eu e2 (T.asym _ _ q)) (Jy ev)
    by_cases c3:ib+1=b.size
    ·rw[if_pos (by simpa using c3)]
     exact AB ⟨rfl,.inl ⟨_,_,rfl,J.finB c3⟩⟩
    rw[if_neg (by simpa using c3)]
    by_cases c4:bc+1 >= mg
    ·rw[if_pos c4]
     exact AB ⟨rfl,.inr ⟨_,_,_,_,_,rfl,J,la,by ext,by rw[Bq];ext⟩⟩
    ·rw[if_neg c4]
     exact AB ⟨rfl,_,_,_,_,_,rfl,J,la,by ext,by rw[Bq];ext⟩
   |false =>
    refine Au (Dw eu ?_)
    have J:=I.tkA 1 (λi x j y z e1 e2=>by
     cases (show i=0 by ext)
     cases eu.symm.trans e1
     exact T.le ub (Nat.le_add_right _ _) ev e2 q) (Jy eu)
    by_cases c3:ia+1+1=a.size
    ·rw[if_pos (by simpa using c3)]
     exact AB ⟨rfl,.inl ⟨_,_,rfl,J.finL c3 hl⟩⟩
    rw[if_neg (by simpa using c3)]
    by_cases c4:ac+1 >= mg
    ·rw[if_pos c4]
     exact AB ⟨rfl,.inr ⟨_,_,_,_,_,rfl,J,by ext,lb,by rw[Bq];ext⟩⟩
    ·rw[if_neg c4]
     exact AB ⟨rfl,_,_,_,_,_,rfl,J,by ext,lb,by rw[Bq];ext⟩
  ·rintro c st' ⟨rfl,o,ia,ib,ac,bc,rfl,I,la,lb,hs⟩
   exact⟨rfl,.inr ⟨_,_,_,_,_,rfl,I,la,lb,by ext⟩⟩
  rintro c st' ⟨rfl,⟨r,z,rfl,hr⟩|⟨o,ia,ib,ac,bc,rfl,I,la,lb,hs⟩⟩
  ·exact AB ⟨⟨_,rfl⟩,_,_,rfl,hr⟩
  refine Au (wpS_lift (A7 ⟨rfl,?_⟩))
  refine Au (wpS_mono (G2 (I:=λy c st'=>(∃g,st'=wG st g)/\∃o ia ib mg ac bc,c=(none,o,ia,ib,mg,ac,bc)/\MI lt a b o ia ib/\ia+1<a.size/\ib<b.size/\x+1<o.size)
   (Q:=λc st'=>(∃g,st'=wG st g)/\((∃r z,c=(some r,z)/\Eh lt a b r)\/∃o ia ib mg ac bc,c=(none,o,ia,ib,mg,ac,bc)/\MI lt a b o ia ib/\ia+1<a.size/\ib<b.size/\x+1<o.size)) ?_ ?_ ⟨⟨_,rfl⟩,_,_,_,_,_,_,rfl,I,la,lb,hs⟩) ?_)
  ·rintro y c st' R rd ry hy ⟨⟨g,rfl⟩,o,ia,ib,mg,ac,bc,rfl,I,la,lb,hs⟩
   obtain⟨v,ev⟩:=D0 lb
   dsimp -zeta -zetaHave only
   extract_lets s1 o1 s2 ia1 s3 ib1 s4 mg1 s5 ac1 bc1 ib2 jp mg2
   have H:∀m,wpS (model prog w) A E s (jp () m) R (wG st g):=λm=>by
    refine Au (Cb (Au (Dw ev (Au (OX T (hk' m) (base:=ia) (n:=a.size-ia) (ua.seg _ _) ma (by ext) (by ext) (mb _ _ ev) λk k1 k2 k3=>?_)))))
    dsimp -zeta -zetaHave only
    extract_lets ac2 jp2 o2 ia2
    have H2:∀o ia,MI lt a b o ia ib->ia+1<a.size->x+1<o.size->(∀j u,a[ia+j]?=some u->lt u v=false)->wpS (model prog w) A E s (jp2 () o ia) R (wG st m):=λo ia I la hs hv=>by
     obtain⟨u,eu⟩:=D0 (show ia<a.size by ext)
     have J:=I.tkB 1 (λi x j y z e1 e2=>by
      cases (show i=0 by ext)
      cases ev.symm.trans e1
      exact hv _ _ e2) (Jy ev)
     have hs1:x+1<(o.push v).size:=by rw[Bq];ext
     refine Au (Dw ev (EH (λc3=>AB (rd _ _ ⟨⟨_,rfl⟩,.inl ⟨_,_,rfl,J.finB c3⟩⟩)) λc3=>?_))
     have c3':ib+1≠b.size:=c3
     refine Au (Dw eu (Au (O2 T (hk' m) (base:=ib+1) (n:=b.size-(ib+1)) (ub.seg _ _) mb (by ext) (by ext) (ma _ _ eu) λk k1 k2 k3=>?_)))
     dsimp -zeta -zetaHave only
     extract_lets bc3 ia3 jp3 o3 ib3
     have H3:∀o ib,MI lt a b o ia ib->ib<b.size->x+1<o.size->(∀j u',b[ib+j]?=some u'->lt u' u=false)->wpS (model prog w) A E s (jp3 () o ib) R (wG st m):=λo ib I lb hs hv=>by
      have J:=I.tkA 1 (λi x j y z e1 e2=>by
       cases (show i=0 by ext)
       cases eu.symm.trans e1
       exact hv _ _ e2) (Jy eu)
      have hs':x+1<(o.push u).size:=by rw[Bq];ext
      exact Au (Dw eu (EH (λc3=>AB (rd _ _ ⟨⟨_,rfl⟩,.inl ⟨_,_,rfl,J.finL c3 hl⟩⟩)) λc3=>have c3':ia+1+1≠a.size:=c3
       D2 (λ_=>AB (rd _ _ ⟨⟨_,rfl⟩,.inr ⟨_,_,_,_,_,_,rfl,J,by ext,lb,hs'⟩⟩)) λ_=>AB (ry _ _ ⟨⟨_,rfl⟩,_,_,_,_,_,_,rfl,J,by ext,lb,hs'⟩)))
     have J2:MI lt a b (o.push v++b.extract (ib+1) (ib+1+k)) ia (ib+1+k):=J.tkB k (λi x j y z e1 e2=>T.le ua (Nat.le_add_right _ _) eu e2 (T.asym _ _ (k2 i x z e1))) Rq
     have up:∀j u',b[ib+1+k+j]?=some u'->lt u' u=false:=λj u' e=>k3 (k+j) u' (by ext) (by have:=Wb e;ext) (by rw[<- Nat.add_assoc];exact e)
     refine D2 (λz=>EH (λc4=>AB (rd _ _ ⟨⟨_,rfl⟩,.inl ⟨_,_,rfl,J2.finB c4⟩⟩)) λc4=>?_) λz=>?_
     ·have c4':ib+1+k≠b.size:=c4
      exact H3 _ _ J2 (show ib+1+k<b.size by ext) (show x+1<(o.push v++b.extract (ib+1) (ib+1+k)).size by rw[Array.size_append];ext) up
     ·cases (show k=0 by ext)
      exact H3 _ _ J (show ib+1<b.size by ext) hs1 up
    have J2:MI lt a b (o++a.extract ia (ia+k)) (ia+k) ib:=I.tkA k (λi x j y z e1 e2=>T.le ub (Nat.le_add_right _ _) ev e2 (k2 i x z e1)) Rq
    have up:∀j u',a[ia+k+j]?=some u'->lt u' v=false:=λj u' e=>T.asym _ _ (k3 (k+j) u' (by ext) (by have:=Wb e;ext) (by rw[<- Nat.add_assoc];exact e))
    refine D2 (λz=>EH (λc4=>AB (rd _ _ ⟨⟨_,rfl⟩,.inl ⟨_,_,rfl,J2.finL c4 hl⟩⟩)) λc4=>EH (λc5=>AB (rd _ _ ⟨⟨_,rfl⟩,.inl ⟨_,_,rfl,J2.finA c5⟩⟩)) λc5=>?_) λz=>?_
    ·have c4':ia+k+1≠a.size:=c4
     have c5':ia+k≠a.size:=c5
     exact H2 _ _ J2 (show ia+k+1<a.size by ext) (show x+1<(o++a.extract ia (ia+k)).size by rw[Array.size_append];ext) up
    ·cases (show k=0 by ext)
     exact H2 _ _ I la hs up
   split
   ·exact H _
   ·exact H _
  ·rintro c st' ⟨⟨g,rfl⟩,o,ia,ib,mg,ac,bc,rfl,I,la,lb,hs⟩
   exact⟨⟨_,rfl⟩,.inr ⟨_,_,_,_,_,_,rfl,I,la,lb,hs⟩⟩
  rintro c st' ⟨⟨g,rfl⟩,⟨r,z,rfl,hr⟩|⟨o,ia,ib,mg,ac,bc,rfl,I,la,lb,hs⟩⟩
  ·exact AB ⟨⟨_,rfl⟩,_,_,rfl,hr⟩
  ·exact Au (Cb (AB ⟨⟨_,rfl⟩,_,_,_,_,rfl,I,la,lb,hs⟩))
 ·rintro c st' ⟨⟨g,rfl⟩,o,ia,ib,mg,rfl,I,la,lb,hs⟩
  have:=I.len
  ext
 ·rintro c st' ⟨⟨g,rfl⟩,r,z,rfl,hr⟩
  exact AB (h _ _ hr)
end
section
variable {lt:Keyed->Keyed->Bool}{a b out out':Array Keyed}{na nb k:Nat}
def U4 {o p q c:List Keyed}(h1:Srt lt ((q++p)++o))(h2:Srt lt (c++o))(h3:∀x∈c,∀y∈p,lt y x=false):Srt lt (c++(p++o)):=by
 rw[Fe] at h1 h2
 obtain⟨g1,g2,g3⟩:=h1
 rw[Fe] at g1
 refine Fe.mpr ⟨h2.1,Fe.mpr ⟨g1.2.1,g2,λx hx y hy=>g3 x (Aq _ hx) y hy⟩,λx hx y hy=>?_⟩
 rcases AF.mp hy with hy|hy
 ·exact h3 x hx y hy
 ·exact h2.2.2 x hx y hy
def OA {x:Keyed}(h:x∈a.toList.take na):∃i,i<na/\a[i]?=some x:=by
 have:=TU (a:=a) (ia:=0) (k:=na) (x:=x) h
 simpa using this
structure HI (lt:Keyed->Keyed->Bool) (a b out:Array Keyed) (na nb:Nat):Prop where
 pm:(a.toList.take na++(b.toList.take nb++out.toList.reverse)).Perm (a.toList++b.toList)
 sa:Srt lt (a.toList.take na++out.toList.reverse)
 sb:Srt lt (b.toList.take nb++out.toList.reverse)
def HI.tkA (h:HI lt a b out na nb)(k:Nat)(kn:k<=na)(hk:∀i x j y,k<=i->i<na->a[i]?=some x->j<nb->b[j]?=some y->lt x y=false)(e:out'.toList.reverse=(a.toList.take na).drop k++out.toList.reverse):HI lt a b out' k nb:=by
 have d:a.toList.take na=a.toList.take k++(a.toList.take na).drop k:=by
  have:=(List.take_append_drop k (a.toList.take na)).symm
  rwa[List.take_take,Nat.min_eq_left kn] at this
 have s1:=h.sa
 have p1:=h.pm
 rw[d] at s1 p1
 rw[Bj] at p1
 refine⟨?_,?_,?_⟩
 ·rw[e]
  exact(List.Perm.append_left _ (List.perm_append_comm_assoc _ _ _)).trans p1
 ·rw[e,<- Bj];exact s1
 ·rw[e]
  refine U4 s1 h.sb λx hx y hy=>?_
  obtain⟨j,j1,j2⟩:=OA hx
  obtain⟨i,hi⟩:=AL.mp hy
  rw[List.getElem?_drop,List.getElem?_take] at hi
  split at hi
  ·rw[Af] at hi
   exact hk _ _ _ _ (Nat.le_add_right _ _) (by assumption) hi j1 j2
  ·cases hi
def HI.swap (h:HI lt a b out na nb):HI lt b a out nb na:=⟨(List.perm_append_comm_assoc _ _ _).trans (h.pm.trans List.perm_append_comm),h.sb,h.sa⟩
def HI.tkB (h:HI lt a b out na nb)(k:Nat)(kn:k<=nb)(hk:∀i x j y,k<=i->i<nb->b[i]?=some x->j<na->a[j]?=some y->lt x y=false)(e:out'.toList.reverse=(b.toList.take nb).drop k++out.toList.reverse):HI lt a b out' na k:=(h.swap.tkA k kn hk e).swap
def HI.len (h:HI lt a b out na nb)(h1:na<=a.size)(h2:nb<=b.size):out.size+(na+nb)=a.size+b.size:=by
 have:=h.pm.length_eq
 simp only[As,AU,Ce,Array.length_toList] at this
 ext
def LM (a:Array Keyed)(i:Nat):(a.extract 0 i).toList=a.toList.take i:=by rw[Lc];rfl
def HI.finA (h:HI lt a b out na nb)(e:na=0):Eh lt a b (a.extract 0 na++b.extract 0 nb++out.reverse):=by
 have p:=h.pm
 have q:=h.sb
 unfold Eh
 rw[AY,AY,LM,LM,Array.toList_reverse]
 subst e
 exact⟨p,q⟩
def HI.finB (h:HI lt a b out na nb)(e:nb=0):Eh lt a b (a.extract 0 na++b.extract 0 nb++out.reverse):=by
 have p:=h.pm
 have q:=h.sa
 unfold Eh
 rw[AY,AY,LM,LM,Array.toList_reverse]
 subst e
 rw[List.take_zero,List.append_nil]
 exact⟨p,q⟩
def HI.finF (h:HI lt a b out na nb)(e:nb=1)(hl:∀(i:Nat) (x y:Keyed),a[i]?=some x->b[0]?=some y->lt x y=false):Eh lt a b (b.extract 0 nb++a.extract 0 na++out.reverse):=by
 have p:=h.pm
 have q:=h.sa
 have r:=h.sb
 unfold Eh
 rw[AY,AY,LM,LM,Array.toList_reverse,Bj]
 refine⟨(List.perm_append_comm_assoc _ _ _).trans p,?_⟩
 rw[Fe] at r
 refine Fe.mpr ⟨r.1,q,λx hx y hy=>?_⟩
 rcases AF.mp hy with hy|hy
 ·obtain⟨i,h1,h2⟩:=OA hy
  obtain⟨j,h3,h4⟩:=OA hx
  cases (show j=0 by ext)
  exact hl _ _ _ h2 h4
 ·exact r.2.2 x hx y hy
def HU {n:Nat}{x:Keyed}(h:0<n)(e:a[n-1]?=some x):(out.push x).toList.reverse=(a.toList.take n).drop (n-1)++out.toList.reverse:=by
 rw[BI,List.reverse_append]
 congr 1
 rw[List.drop_take,show n-(n-1)=1 by ext,SA e]
 rfl
def PX {i n:Nat}:(out++(a.extract i n).reverse).toList.reverse=(a.toList.take n).drop i++out.toList.reverse:=by
 rw[AY,Array.toList_reverse,List.reverse_append,List.reverse_reverse,Lc,List.drop_take]
end
section
variable {prog:Program}{w:World}{A:Around}{E:Value->Zaa}{s:Shared} {κ:SortKind}{M:Keyed->Prop}{lt:Keyed->Keyed->Bool}{st:SortSt}{a b:Array Keyed}
def TOk.ge (T:TOk prog w A s κ M lt)(ub:upR lt b){i j:Nat}{x y v:Keyed}(hij:i<=j)(e:b[i]?=some x)(e':b[j]?=some y)(h:lt v y=false):lt v x=false:=T.tr x y v (ub i j x y hij e e') h
def XW (T:TOk prog w A s κ M lt)(hk:kindOf st=κ)(ua:upR lt a)(ub:upR lt b)(ma:∀(i:Nat) (x:Keyed),a[i]?=some x->M x)(mb:∀(i:Nat) (x:Keyed),b[i]?=some x->M x)(pa:1<=a.size)(pb:1<=b.size)
  (h0:∀x y,a[0]?=some x->b[0]?=some y->lt x y=false) (hl:∀(i:Nat) (x y:Keyed),a[a.size-1]?=some x->b[i]?=some y->lt x y=false)
  {Q:Array Keyed->SortSt->Prop} (h:∀r g,Eh lt a b r->Q r (wG st g)):wpS (model prog w) A E s (Abf a b) Q st:=by
 have hk':∀g,kindOf (wG st g)=κ:=λ_=>hk
 obtain⟨a0,ea⟩:=D0 pa
 have hf:∀(i:Nat) (x y:Keyed),a[i]?=some x->b[0]?=some y->lt x y=false:=λi x y e1 e2=>T.le ua (A5 _) ea e1 (h0 _ _ ea e2)
 have I0:HI lt a b #[] a.size b.size:=by
  have e:∀c:Array Keyed,c.toList.take c.size=c.toList:=λc=>Ci (by simp)
  refine⟨?_,?_,?_⟩<;>simp only[e,List.reverse_nil,List.append_nil,BD,ua.srt,ub.srt]
 obtain⟨z,ez⟩:=D0 (a:=a) (i:=a.size-1) (by ext)
 have I1:HI lt a b #[z] (a.size-1) b.size:=I0.tkA (a.size-1) (by ext) (λi x j y q1 q2 e1 _ e2=>by
  cases (show i=a.size-1 by ext)
  exact hl _ _ _ e1 e2) (HU (out:=#[]) pa ez)
 refine Au (wpS_lift (A7 ⟨rfl,?_⟩))
 refine Au (Dw ez ?_)
 refine EH (λc1=>AB (h _ (gallopOf st) (I1.finA c1))) λc1=>?_
 refine EH (λc2=>AB (h _ (gallopOf st) (I1.finF c2 hf))) λc2=>?_
 have c1':a.size-1≠0:=c1
 have c2':b.size≠1:=c2
 refine Au (wpS_get ?_)
 refine Au (wpS_mono (G2 (I:=λx c st'=>(∃g,st'=wG st g)/\∃na nb o mg,c=(none,na,nb,o,mg)/\HI lt a b o na nb/\0<na/\na<=a.size/\1<nb/\nb<=b.size/\x<o.size)
  (Q:=λc st'=>(∃g,st'=wG st g)/\∃r z,c=(some r,z)/\Eh lt a b r) ?_ ?_ ⟨⟨gallopOf st,rfl⟩,_,_,_,_,rfl,I1,by ext,by ext,by ext,by ext,by simp⟩) ?_)
 ·rintro x c st' R rd ry hx ⟨⟨g,rfl⟩,na,nb,o,mg,rfl,I,la,la',lb,lb',hs⟩
  refine Au (wpS_mono (G2 (I:=λy c st'=>st'=wG st g/\∃na nb o ac bc,c=(none,na,nb,o,ac,bc)/\HI lt a b o na nb/\0<na/\na<=a.size/\1<nb/\nb<=b.size/\x+y<o.size)
   (Q:=λc st'=>st'=wG st g/\((∃r z,c=(some r,z)/\Eh lt a b r)\/∃na nb o ac bc,c=(none,na,nb,o,ac,bc)/\HI lt a b o na nb/\0<na/\na<=a.size/\1<nb/\nb<=b.size/\x+1<o.size)) ?_ ?_ ⟨rfl,_,_,_,_,_,rfl,I,la,la',lb,lb',hs⟩) ?_)
  ·rintro y c st' R rd ry hy ⟨rfl,na,nb,o,ac,bc,rfl,I,la,la',lb,lb',hs⟩
   obtain⟨v,ev⟩:=D0 (a:=b) (i:=nb-1) (by ext)
   obtain⟨u,eu⟩:=D0 (a:=a) (i:=na-1) (by ext)
   refine Au (Dw ev (Au (Dw eu (Au (T.run (hk' g) (mb _ _ ev) (ma _ _ eu) ?_)))))
   cases q:lt v u with
   |true =>
    have J:HI lt a b (o.push u) (na-1) nb:=I.tkA (na-1) (by ext) (λi x j y z1 z2 e1 z3 e2=>by
     cases (show i=na-1 by ext)
     cases eu.symm.trans e1
     exact T.ge ub (by ext) e2 ev (T.asym _ _ q)) (HU la eu)
    have hs':x+(y+1)<(o.push u).size:=by rw[Bq];ext
    have hs1:x+1<(o.push u).size:=by ext
    exact Au (Dw eu (EH (λc3=>AB (rd _ _ ⟨rfl,.inl ⟨_,_,rfl,J.finA c3⟩⟩)) λc3=>have c3':na-1≠0:=c3
     have l1:0<na-1:=by ext
     have l2:na-1<=a.size:=by ext
     D2 (λ_=>AB (rd _ _ ⟨rfl,.inr ⟨_,_,_,_,_,rfl,J,l1,l2,lb,lb',hs1⟩⟩)) λ_=>AB (ry _ _ ⟨rfl,_,_,_,_,_,rfl,J,l1,l2,lb,lb',hs'⟩)))
   |false =>
    have J:HI lt a b (o.push v) na (nb-1):=I.tkB (nb-1) (by ext) (λi x j y z1 z2 e1 z3 e2=>by
     cases (show i=nb-1 by ext)
     cases ev.symm.trans e1
     exact T.ge ua (by ext) e2 eu q) (HU (by ext) ev)
    have hs':x+(y+1)<(o.push v).size:=by rw[Bq];ext
    have hs1:x+1<(o.push v).size:=by ext
    exact Au (Dw ev (EH (λc3=>AB (rd _ _ ⟨rfl,.inl ⟨_,_,rfl,J.finF c3 hf⟩⟩)) λc3=>have c3':nb-1≠1:=c3
     have l1:1<nb-1:=by ext
     have l2:nb-1<=b.size:=by ext
     D2 (λ_=>AB (rd _ _ ⟨rfl,.inr ⟨_,_,_,_,_,rfl,J,la,la',l1,l2,hs1⟩⟩)) λ_=>AB (ry _ _ ⟨rfl,_,_,_,_,_,rfl,J,la,la',l1,l2,hs'⟩)))
  ·rintro c st' ⟨rfl,na,nb,o,ac,bc,rfl,I,la,la',lb,lb',hs⟩
   exact⟨rfl,.inr ⟨_,_,_,_,_,rfl,I,la,la',lb,lb',by ext⟩⟩
  rintro c st' ⟨rfl,⟨r,z,rfl,hr⟩|⟨na,nb,o,ac,bc,rfl,I,la,la',lb,lb',hs⟩⟩
  ·exact AB (rd _ _ ⟨⟨_,rfl⟩,_,_,rfl,hr⟩)
  refine Au (wpS_lift (A7 ⟨rfl,?_⟩))
  refine Au (wpS_mono (G2 (I:=λy c st'=>(∃g,st'=wG st g)/\∃na nb o mg ac bc,c=(none,na,nb,o,mg,ac,bc)/\HI lt a b o na nb/\0<na/\na<=a.size/\1<nb/\nb<=b.size/\x+1<o.size)
   (Q:=λc st'=>(∃g,st'=wG st g)/\((∃r z,c=(some r,z)/\Eh lt a b r)\/∃na nb o mg ac bc,c=(none,na,nb,o,mg,ac,bc)/\HI lt a b o na nb/\0<na/\na<=a.size/\1<nb/\nb<=b.size/\x+1<o.size)) ?_ ?_ ⟨⟨_,rfl⟩,_,_,_,_,_,_,rfl,I,la,la',lb,lb',hs⟩) ?_)
  ·rintro y c st' R rd ry hy ⟨⟨g,rfl⟩,na,nb,o,mg,ac,bc,rfl,I,la,la',lb,lb',hs⟩
   obtain⟨v,ev⟩:=D0 (a:=b) (i:=nb-1) (by ext)
   dsimp -zeta -zetaHave only
   extract_lets s1 na1 s2 nb1 s3 o1 s4 mg1 s5 ac1 bc1 nb2 jp mg2
   have H:∀m,wpS (model prog w) A E s (jp () m) R (wG st g):=λm=>by
    refine Au (Cb (Au (Dw ev (Au (OX T (hk' m) (base:=0) (n:=na) (hint:=na-1) (ua.seg _ _) ma (by ext) (by ext) (mb _ _ ev) λk k1 k2 k3=>?_)))))
    dsimp -zeta -zetaHave only
    extract_lets kk ac2 jp2 o2
    have H2:∀o na,HI lt a b o na nb->0<na->na<=a.size->x+1<o.size->(∀j u,j<na->a[j]?=some u->lt v u=false)->wpS (model prog w) A E s (jp2 () na o) R (wG st m):=λo na I la la' hs hv=>by
     obtain⟨u,eu⟩:=D0 (a:=a) (i:=na-1) (by ext)
     have J:HI lt a b (o.push v) na (nb-1):=I.tkB (nb-1) (by ext) (λi x j y z1 z2 e1 z3 e2=>by
      cases (show i=nb-1 by ext)
      cases ev.symm.trans e1
      exact hv _ _ z3 e2) (HU (by ext) ev)
     have hs1:x+1<(o.push v).size:=by rw[Bq];ext
     refine Au (Dw ev (EH (λc3=>AB (rd _ _ ⟨⟨_,rfl⟩,.inl ⟨_,_,rfl,J.finF c3 hf⟩⟩)) λc3=>?_))
     have c3':nb-1≠1:=c3
     refine Au (Dw eu (Au (O2 T (hk' m) (base:=0) (n:=nb-1) (hint:=nb-1-1) (ub.seg _ _) mb (by ext) (by ext) (ma _ _ eu) λk k1 k2 k3=>?_)))
     dsimp -zeta -zetaHave only
     extract_lets kk bc3 na3 jp3 o3 nb3
     have H3:∀o nb,HI lt a b o na nb->1<nb->nb<=b.size->x+1<o.size->(∀j u',j<nb->b[j]?=some u'->lt u u'=false)->wpS (model prog w) A E s (jp3 () nb o) R (wG st m):=λo nb I lb lb' hs hv=>by
      have J:HI lt a b (o.push u) (na-1) nb:=I.tkA (na-1) (by ext) (λi x j y z1 z2 e1 z3 e2=>by
       cases (show i=na-1 by ext)
       cases eu.symm.trans e1
       exact hv _ _ z3 e2) (HU la eu)
      have hs':x+1<(o.push u).size:=by rw[Bq];ext
      exact Au (Dw eu (EH (λc3=>AB (rd _ _ ⟨⟨_,rfl⟩,.inl ⟨_,_,rfl,J.finA c3⟩⟩)) λc3=>have c3':na-1≠0:=c3
       have l1:0<na-1:=by ext
       have l2:na-1<=a.size:=by ext
       D2 (λ_=>AB (rd _ _ ⟨⟨_,rfl⟩,.inr ⟨_,_,_,_,_,_,rfl,J,l1,l2,lb,lb',hs'⟩⟩)) λ_=>AB (ry _ _ ⟨⟨_,rfl⟩,_,_,_,_,_,_,rfl,J,l1,l2,lb,lb',hs'⟩)))
     have J2:HI lt a b (o.push v++(b.extract k (nb-1)).reverse) na k:=J.tkB k k1 (λi x j y z1 z2 e1 z3 e2=>T.ge ua (by ext) e2 eu (k3 i x z1 z2 (by rw[Br];exact e1))) PX
     have up:∀j u',j<k->b[j]?=some u'->lt u u'=false:=λj u' z e=>T.asym _ _ (k2 j u' z (by rw[Br];exact e))
     refine D2 (λz=>EH (λc4=>AB (rd _ _ ⟨⟨_,rfl⟩,.inl ⟨_,_,rfl,J2.finF c4 hf⟩⟩)) λc4=>EH (λc5=>AB (rd _ _ ⟨⟨_,rfl⟩,.inl ⟨_,_,rfl,J2.finB c5⟩⟩)) λc5=>?_) λz=>?_
     ·have c4':k≠1:=c4
      have c5':k≠0:=c5
      exact H3 _ _ J2 (show 1<k by ext) (show k<=b.size by ext) (show x+1<(o.push v++(b.extract k (nb-1)).reverse).size by rw[Array.size_append];ext) up
     ·have z':¬ nb-1-k > 0:=z
      cases (show k=nb-1 by ext)
      exact H3 _ _ J (show 1<nb-1 by ext) (show nb-1<=b.size by ext) hs1 up
    have J2:HI lt a b (o++(a.extract k na).reverse) k nb:=I.tkA k k1 (λi x j y z1 z2 e1 z3 e2=>T.ge ub (by ext) e2 ev (T.asym _ _ (k3 i x z1 z2 (by rw[Br];exact e1)))) PX
    have up:∀j u',j<k->a[j]?=some u'->lt v u'=false:=λj u' z e=>k2 j u' z (by rw[Br];exact e)
    refine D2 (λz=>EH (λc5=>AB (rd _ _ ⟨⟨_,rfl⟩,.inl ⟨_,_,rfl,J2.finA c5⟩⟩)) λc5=>?_) λz=>?_
    ·have c5':k≠0:=c5
     exact H2 _ _ J2 (show 0<k by ext) (show k<=a.size by ext) (show x+1<(o++(a.extract k na).reverse).size by rw[Array.size_append];ext) up
    ·have z':¬ na-k > 0:=z
     cases (show k=na by ext)
     exact H2 _ _ I la la' hs up
   exact D2 (λ_=>H _) λ_=>H _
  ·rintro c st' ⟨⟨g,rfl⟩,na,nb,o,mg,ac,bc,rfl,I,la,la',lb,lb',hs⟩
   exact⟨⟨_,rfl⟩,.inr ⟨_,_,_,_,_,_,rfl,I,la,la',lb,lb',hs⟩⟩
  rintro c st' ⟨⟨g,rfl⟩,⟨r,z,rfl,hr⟩|⟨na,nb,o,mg,ac,bc,rfl,I,la,la',lb,lb',hs⟩⟩
  ·exact AB (rd _ _ ⟨⟨_,rfl⟩,_,_,rfl,hr⟩)
  ·exact Au (Cb (AB (ry _ _ ⟨⟨_,rfl⟩,_,_,_,_,rfl,I,la,la',lb,lb',hs⟩)))
 ·rintro c st' ⟨⟨g,rfl⟩,na,nb,o,mg,rfl,I,la,la',lb,lb',hs⟩
  have:=I.len la' lb'
  ext
 ·rintro c st' ⟨⟨g,rfl⟩,r,z,rfl,hr⟩
  exact AB (h _ _ hr)
end
theorem PU {f:Array Keyed->Keyed×Nat->Array Keyed}{off:Nat}(hf:∀a p j,f a (p,j)=a.setIfInBounds (off+j) p):∀(m:List Keyed) (k:Nat) (arr:Array Keyed),off+k+m.length<=arr.size ->
  ((m.zipIdx k).foldl f arr).toList=arr.toList.take (off+k)++(m++arr.toList.drop (off+k+m.length))
 |[],k,arr,_=>by
  show arr.toList=_
  simp
 |p::m,k,arr,h=>by
  rw[List.length_cons] at h
  rw[List.zipIdx_cons,List.foldl_cons,hf]
  have:=PU hf m (k+1) (arr.setIfInBounds (off+k) p) (by rw[Array.size_setIfInBounds];ext)
  rw[this,Array.toList_setIfInBounds,List.length_cons,show off+(k+1)=off+k+1 by ext]
  have l:off+k<arr.toList.length:=by rw[Array.length_toList];ext
  rw[List.drop_set_of_lt (by ext),show off+k+1+m.length=off+k+(m.length+1) by ext]
  have:(arr.toList.set (off+k) p).take (off+k+1)=arr.toList.take (off+k)++[p]:=by
   rw[List.take_succ_eq_append_getElem (by rw[BF];exact l),List.take_set_of_le (by ext),List.getElem_set_self]
  rw[this,Bj]
  rfl
def Xv {l m:List Keyed}{o n:Nat}(hm:m.length=n)(ho:o+n<=l.length)(k:Nat):(l.take o++(m++l.drop (o+n)))[k]?=if k<o then l[k]? else if k<o+n then m[k-o]? else l[k]?:=by
 rw[List.getElem?_append,AU,Nat.min_eq_left (by ext)]
 by_cases h:k<o
 ·rw[if_pos h,if_pos h,Bg h]
 ·rw[if_neg h,if_neg h,List.getElem?_append,hm]
  by_cases h2:k-o<n
  ·rw[if_pos h2,if_pos (by ext)]
  ·rw[if_neg h2,if_neg (by ext),List.getElem?_drop]
   congr 1
   ext
section
variable {prog:Program}{w:World}{A:Around}{E:Value->Zaa}{s:Shared} {κ:SortKind}{M:Keyed->Prop}{lt:Keyed->Keyed->Bool}{st:SortSt}
def Gr {a:Array Keyed}{i j k:Nat}(hj:j<=a.size){x:Keyed}(e:(a.extract i j)[k]?=some x):i+k<j/\a[i+k]?=some x:=by
 rw[<- Af,Lc,List.getElem?_take] at e
 split at e
 ·rw[List.getElem?_drop,Af] at e
  exact⟨by ext,e⟩
 ·cases e
def W5 (T:TOk prog w A s κ M lt){i sa na nb pw pw':Nat}(hk:kindOf st=κ)(hf:failedOf st=none)(ma:∀(i:Nat) (x:Keyed),(arrOf st)[i]?=some x->M x)(e1:(pendingOf st)[i]?=some (sa,na,pw))(e2:(pendingOf st)[i+1]?=some (sa+na,nb,pw'))
  (pa:1<=na) (pb:1<=nb) (le:sa+na+nb<=(arrOf st).size) (ua:upS lt (arrOf st) sa (sa+na)) (ub:upS lt (arrOf st) (sa+na) (sa+na+nb)){Q:Bool->SortSt->Prop}
  (h:∀r g,r.toList.Perm (arrOf st).toList->(∀k,k<sa\/sa+na+nb<=k->r[k]?=(arrOf st)[k]?)->upS lt r sa (sa+na+nb)->Q true (SortSt.mk' κ r (((pendingOf st).setIfInBounds i (sa,na+nb,pw)).eraseIdxIfInBounds (i+1)) g none)):wpS (model prog w) A E s (mergeAt' i) Q st:=by
 obtain⟨kd,ar,pn,mg,fl⟩:=st
 subst hk hf
 replace ma:∀(i:Nat) (x:Keyed),ar[i]?=some x->M x:=ma
 replace e1:pn[i]?=some (sa,na,pw):=e1
 replace e2:pn[i+1]?=some (sa+na,nb,pw'):=e2
 replace le:sa+na+nb<=ar.size:=le
 replace ua:upS lt ar sa (sa+na):=ua
 replace ub:upS lt ar (sa+na) (sa+na+nb):=ub
 replace h:∀r g,r.toList.Perm ar.toList->(∀k,k<sa\/sa+na+nb<=k->r[k]?=ar[k]?)->upS lt r sa (sa+na+nb)->Q true (SortSt.mk' kd r ((pn.setIfInBounds i (sa,na+nb,pw)).eraseIdxIfInBounds (i+1)) g none):=h
 have hk':∀g,kindOf (SortSt.mk' kd ar ((pn.setIfInBounds i (sa,na+nb,pw)).eraseIdxIfInBounds (i+1)) g none)=kd:=λ_=>rfl
 refine Au (wpS_get ?_)
 dsimp -zeta -zetaHave only
 rw[e1,e2]
 obtain⟨b0,eb⟩:=D0 (a:=ar) (i:=sa+na) (by ext)
 refine Au (Cb (Au (Dw eb ?_)))
 refine Au (OX T (hk' mg) (base:=sa) (n:=na) (hint:=0) ua ma (by ext) (by ext) (ma _ _ eb) λk k1 k2 k3=>?_)
 dsimp -zeta -zetaHave only
 have same:upS lt ar sa (sa+k):=λi j x y h1 h2 h3=>ua i j x y h1 h2 (by ext)
 have low:∀i j x y,sa<=i->i<sa+k->sa+na<=j->j<sa+na+nb->ar[i]?=some x->ar[j]?=some y->lt y x=false:=λi j x y h1 h2 h3 h4 q1 q2=>by
  have:=k2 (i-sa) x (by ext) (by rw[show sa+(i-sa)=i by ext];exact q1)
  exact T.tr x b0 y this (ub _ _ _ _ (Ae _) h3 h4 eb q2)
 refine EH (λc=>AB (h ar mg (BD _) (λ_ _=>rfl) λi j x y h1 h2 h3 q1 q2=>?_)) λc=>?_
 ·have c':na-k=0:=c
  by_cases z1:j<sa+na
  ·exact ua _ _ _ _ h1 h2 z1 q1 q2
  ·by_cases z2:i<sa+na
   ·exact low i j x y h1 (by ext) (by ext) h3 q1 q2
   ·exact ub _ _ _ _ (by ext) h2 h3 q1 q2
 have c':na-k≠0:=c
 obtain⟨z,ez⟩:=D0 (a:=ar) (i:=sa+k+(na-k)-1) (by ext)
 refine Au (Dw ez (Au (O2 T (hk' mg) (base:=sa+na) (n:=nb) (hint:=nb-1) ub ma (by ext) (by ext) (ma _ _ ez) λn n1 n2 n3=>?_)))
 have ez':ar[sa+na-1]?=some z:=by rw[<- ez];congr 1;ext
 have high:∀i j x y,sa<=i->i<sa+na->sa+na+n<=j->j<sa+na+nb->ar[i]?=some x->ar[j]?=some y->lt y x=false:=λi j x y h1 h2 h3 h4 q1 q2=>by
  have:=n3 (j-(sa+na)) y (by ext) (by ext) (by rw[show sa+na+(j-(sa+na))=j by ext];exact q2)
  exact T.tr x z y (ua _ _ _ _ h1 (by ext) (by ext) q1 ez') this
 dsimp -zeta -zetaHave only
 refine EH (λc=>AB (h ar mg (BD _) (λ_ _=>rfl) λi j x y h1 h2 h3 q1 q2=>?_)) λc2=>?_
 ·have c':n=0:=c
  by_cases z1:j<sa+na
  ·exact ua _ _ _ _ h1 h2 z1 q1 q2
  ·by_cases z2:i<sa+na
   ·exact high i j x y h1 z2 (by ext) h3 q1 q2
   ·exact ub _ _ _ _ (by ext) h2 h3 q1 q2
 have c2':n≠0:=c2
 extract_lets xs ys jp
 have hx:xs=ar.extract (sa+k) (sa+na):=rfl
 have hy:ys=ar.extract (sa+na) (sa+na+n):=rfl
 have sx:xs.size=na-k:=by rw[hx,Array.size_extract];ext
 have sy:ys.size=n:=by rw[hy,Array.size_extract];ext
 have H:∀r g,Eh lt xs ys r->wpS (model prog w) A E s (jp r) Q (SortSt.mk' kd ar ((pn.setIfInBounds i (sa,na+nb,pw)).eraseIdxIfInBounds (i+1)) g none):=λr g hr=>by
  obtain⟨pm,sr⟩:=hr
  have lr:r.toList.length=na-k+n:=by rw[pm.length_eq,As,Array.length_toList,Array.length_toList,sx,sy]
  have org:∀(q:Nat) x,r[q]?=some x->∃p,sa+k<=p/\p<sa+na+n/\ar[p]?=some x:=λq x e=>by
   have:x∈xs.toList++ys.toList:=pm.mem_iff.mp (Aj (by rw[Af];exact e))
   rcases AF.mp this with z|z
   ·obtain⟨p,hp⟩:=AL.mp z
    rw[Af,hx] at hp
    obtain⟨p1,p2⟩:=Gr (by ext) hp
    exact⟨_,by ext,by ext,p2⟩
   ·obtain⟨p,hp⟩:=AL.mp z
    rw[Af,hy] at hp
    obtain⟨p1,p2⟩:=Gr (by ext) hp
    exact⟨_,by ext,by ext,p2⟩
  have key:∀r':Array Keyed,r'.toList=ar.toList.take (sa+k)++(r.toList++ar.toList.drop (sa+k+(na-k+n)))->r'.toList.Perm ar.toList/\(∀k,k<sa\/sa+na+nb<=k->r'[k]?=ar[k]?)/\upS lt r' sa (sa+na+nb):=λr' e=>by
   have get:∀q,r'[q]?=if q<sa+k then ar[q]? else if q<sa+k+(na-k+n) then r[q-(sa+k)]? else ar[q]?:=λq=>by
    rw[<- Af,e,Xv lr (by rw[Array.length_toList];ext)]
    simp only[Af]
   refine⟨?_,λq hq=>?_,λi j x y h1 h2 h3 q1 q2=>?_⟩
   ·have d:ar.toList=ar.toList.take (sa+k)++((xs.toList++ys.toList)++ar.toList.drop (sa+k+(na-k+n))):=by
     have d1:xs.toList++ys.toList=(ar.toList.drop (sa+k)).take (na-k+n):=by
      rw[hx,hy,Lc,Lc,List.take_add,List.drop_drop,show sa+k+(na-k)=sa+na by ext,show sa+na-(sa+k)=na-k by ext,show sa+na+n-(sa+na)=n by ext]
     rw[d1,show ar.toList.drop (sa+k+(na-k+n))=(ar.toList.drop (sa+k)).drop (na-k+n) by rw[List.drop_drop],List.take_append_drop,List.take_append_drop]
    rw[e]
    refine List.Perm.trans ?_ (List.Perm.of_eq d.symm)
    exact(pm.append_right _).append_left _
   ·rw[get]
    by_cases z:q<sa+k
    ·rw[if_pos z]
    ·rw[if_neg z,if_neg (by ext)]
   ·rw[get] at q1 q2
    by_cases z1:i<sa+k
    ·rw[if_pos z1] at q1
     by_cases z2:j<sa+k
     ·rw[if_pos z2] at q2
      exact ua _ _ _ _ h1 h2 (by ext) q1 q2
     ·rw[if_neg z2] at q2
      by_cases z3:j<sa+k+(na-k+n)
      ·rw[if_pos z3] at q2
       obtain⟨p,p1,p2,p3⟩:=org _ _ q2
       by_cases z4:p<sa+na
       ·exact ua _ _ _ _ h1 (by ext) z4 q1 p3
       ·exact low _ _ _ _ h1 z1 (by ext) (by ext) q1 p3
      ·rw[if_neg z3] at q2
       exact low _ _ _ _ h1 z1 (by ext) h3 q1 q2
    ·rw[if_neg z1] at q1
     rw[if_neg (by ext)] at q2
     by_cases z2:i<sa+k+(na-k+n)
     ·rw[if_pos z2] at q1
      by_cases z3:j<sa+k+(na-k+n)
      ·rw[if_pos z3] at q2
       by_cases z4:i=j
       ·subst z4
        cases q1.symm.trans q2
        exact T.irr _
       ·have:=BZ.mp sr (i-(sa+k)) (j-(sa+k)) (by rw[lr];ext) (by rw[lr];ext) (by ext)
        rw[<- Af] at q1 q2
        obtain⟨_,rfl⟩:=Ad.mp q1
        obtain⟨_,rfl⟩:=Ad.mp q2
        exact this
      ·rw[if_neg z3] at q2
       obtain⟨p,p1,p2,p3⟩:=org _ _ q1
       by_cases z4:p<sa+na
       ·exact high _ _ _ _ (by ext) z4 (by ext) h3 p3 q2
       ·exact ub _ _ _ _ (by ext) (by ext) h3 p3 q2
     ·rw[if_neg z2] at q1
      rw[if_neg (by ext)] at q2
      exact ub _ _ _ _ (by ext) h2 h3 q1 q2
  refine Au (Cb (Au (wpS_get (AB ?_))))
  have e:=PU (f:=λa x=>match x with|(p,j)=>a.setIfInBounds (sa+k+j) p) (off:=sa+k) (λa p j=>rfl) r.toList 0 ar (by rw[lr];ext)
  rw[lr] at e
  obtain⟨g1,g2,g3⟩:=key _ e
  exact h _ g g1 g2 g3
 have nx:1<=xs.size:=by ext
 have ny:1<=ys.size:=by ext
 have ux:upR lt xs:=λi j x y q e1 e2=>by
  obtain⟨p1,p2⟩:=Gr (by ext) (hx▸e1)
  obtain⟨q1,q2⟩:=Gr (by ext) (hx▸e2)
  exact ua _ _ _ _ (by ext) (by ext) (by ext) p2 q2
 have uy:upR lt ys:=λi j x y q e1 e2=>by
  obtain⟨p1,p2⟩:=Gr (by ext) (hy▸e1)
  obtain⟨q1,q2⟩:=Gr (by ext) (hy▸e2)
  exact ub _ _ _ _ (by ext) (by ext) (by ext) p2 q2
 have mx:∀(i:Nat) (x:Keyed),xs[i]?=some x->M x:=λi x e=>ma _ _ (Gr (by ext) (hx▸e)).2
 have my:∀(i:Nat) (x:Keyed),ys[i]?=some x->M x:=λi x e=>ma _ _ (Gr (by ext) (hy▸e)).2
 have f0:∀x y,xs[0]?=some x->ys[0]?=some y->lt x y=false:=λx y e1 e2=>by
  obtain⟨p1,p2⟩:=Gr (by ext) (hx▸e1)
  obtain⟨q1,q2⟩:=Gr (by ext) (hy▸e2)
  cases eb.symm.trans q2
  exact T.asym _ _ (k3 k x (Ae _) (by ext) p2)
 have fl:∀(i:Nat) (x y:Keyed),xs[xs.size-1]?=some x->ys[i]?=some y->lt x y=false:=λi x y e1 e2=>by
  obtain⟨p1,p2⟩:=Gr (by ext) (hx▸e1)
  obtain⟨q1,q2⟩:=Gr (by ext) (hy▸e2)
  rw[sx,show sa+k+(na-k-1)=sa+na-1 by ext] at p2
  cases ez'.symm.trans p2
  exact T.asym _ _ (n2 i y (by ext) q2)
 refine D2 (λ_=>Au (YQ T (hk' mg) ux uy mx my nx ny f0 fl λr g hr=>H r g hr)) λ_=>Au (XW T (hk' mg) ux uy mx my nx ny f0 fl λr g hr=>H r g hr)
end
structure Kp (a0:Array Keyed) (lo hi:Nat) (r:Array Keyed):Prop where
 pm:r.toList.Perm a0.toList
 out:∀k,k<lo\/hi<=k->r[k]?=a0[k]?
section
variable {a0 r:Array Keyed}{lo hi:Nat}
def Kp.refl:Kp a0 lo hi a0:=⟨BD _,λ_ _=>rfl⟩
theorem Kp.size (h:Kp a0 lo hi r):r.size=a0.size:=by have:=h.pm.length_eq;simpa using this
def Kp.mem (h:Kp a0 lo hi r){M:Keyed->Prop}(ma:∀(i:Nat) (x:Keyed),a0[i]?=some x->M x)(i:Nat)(x:Keyed)(e:r[i]?=some x):M x:=by
 have:=h.pm.mem_iff.mp (Aj (by rw[Af];exact e))
 obtain⟨j,hj⟩:=AL.mp this
 exact ma j x (by rw[<- Af];exact hj)
def Kp.rev (h:Kp a0 lo hi r){i j:Nat}(hi':lo<=i)(hj:j<=hi)(hs:j<=r.size):Kp a0 lo hi (mirror r i j ((j-i) / 2)):=by
 refine⟨(Array.perm_iff_toList_perm.mp (mirror_perm _ _ _ _)).trans h.pm,λk hk=>?_⟩
 rw[BW hs,if_neg (by ext)]
 exact h.out k hk
def Kp.bub (h:Kp a0 lo hi r){i d:Nat}(hi':lo+d<=i)(hj:i<hi)(hs:i<r.size):Kp a0 lo hi (bubble r i d):=by
 refine⟨(Array.perm_iff_toList_perm.mp (bubble_perm _ _ _)).trans h.pm,λk hk=>?_⟩
 rw[getElem?_bubble hs d (by ext),if_neg (by ext),if_neg (by ext)]
 exact h.out k hk
end
section
variable {prog:Program}{w:World}{A:Around}{E:Value->Zaa}{s:Shared} {κ:SortKind}{M:Keyed->Prop}{lt:Keyed->Keyed->Bool}{st:SortSt}
def TOk.at (T:TOk prog w A s κ M lt)(hk:kindOf st=κ){i j:Nat}{x y:Keyed}(e1:(arrOf st)[i]?=some x)(e2:(arrOf st)[j]?=some y)(hx:M x)(hy:M y){Q:Option Bool->SortSt->Prop}(h:Q (some (lt x y)) st):wpS (model prog w) A E s (ltAt' i j) Q st:=by
 rw[ltAt'_eq]
 exact Au (wpS_get (Au (Dw e1 (Au (Dw e2 (T.run hk hx hy h))))))
def Pe {μ:Model}{σ β:Type}{a n:Nat}{st:σ}{f:Nat->β->StateT σ Sem (ForInStep β)}(I:Nat->β->σ->Prop){Q:β->σ->Prop}
  (hs:∀i c st (R:ForInStep β->σ->Prop),(∀c st,Q c st->R (.done c) st)->(∀c st,I (i+1) c st->R (.yield c) st)->a<=i->i<n->I i c st->wpS μ A E s (f i c) R st)
  (he:∀c st,I (max a n) c st->Q c st){c:β} (h:I a c st):wpS μ A E s (forIn [a:n] c f) Q st:=
 wpS_forRange I (λi c st h1 hi hI=>hs i c st _ (λ_ _ z=>z) (λ_ _ z=>z) h1 hi hI) he h
def Ur (T:TOk prog w A s κ M lt){a:Array Keyed}{lo n:Nat}(hn:1<=n)(u:upS lt a lo (lo+n)){x y:Keyed}(e1:a[lo+n-1]?=some x)(e2:a[lo+n]?=some y)(h:lt y x=false):upS lt a lo (lo+(n+1)):=λi j v z h1 h2 h3 q1 q2=>by
 by_cases c:j<lo+n
 ·exact u i j v z h1 h2 c q1 q2
 ·cases (show j=lo+n by ext)
  cases e2.symm.trans q2
  by_cases c2:i=lo+n
  ·cases c2
   cases e2.symm.trans q1
   exact T.irr _
  ·exact T.tr v x y (u _ _ _ _ h1 (by ext) (by ext) q1 e1) h
def dnS (lt:Keyed->Keyed->Bool)(a:Array Keyed)(lo hi:Nat):Prop:=∀(i j:Nat) (x y:Keyed),lo<=i->i<=j->j<hi->a[i]?=some x->a[j]?=some y->lt x y=false
def eqS (lt:Keyed->Keyed->Bool)(a:Array Keyed)(lo hi:Nat):Prop:=∀(i j:Nat) (x y:Keyed),lo<=i->i<hi->lo<=j->j<hi->a[i]?=some x->a[j]?=some y->lt x y=false
def JD (T:TOk prog w A s κ M lt){a:Array Keyed}{lo n:Nat}(hn:1<=n)(u:dnS lt a lo (lo+n)){x y:Keyed}(e1:a[lo+n-1]?=some x)(e2:a[lo+n]?=some y)(h:lt x y=false):dnS lt a lo (lo+(n+1)):=λi j v z h1 h2 h3 q1 q2=>by
 by_cases c:j<lo+n
 ·exact u i j v z h1 h2 c q1 q2
 ·cases (show j=lo+n by ext)
  cases e2.symm.trans q2
  by_cases c2:i=lo+n
  ·cases c2
   cases e2.symm.trans q1
   exact T.irr _
  ·exact T.tr y x v h (u _ _ _ _ h1 (by ext) (by ext) q1 e1)
def Pm {a:Array Keyed}{lo m e:Nat}(he:lo<=e)(hm:m<=a.size)(u:dnS lt a lo m)(q:eqS lt a e m):dnS lt (mirror a e m ((m-e) / 2)) lo m:=λi j x y h1 h2 h3 q1 q2=>by
 rw[BW hm] at q1 q2
 by_cases c1:e<=i
 ·rw[if_pos (by ext)] at q1 q2
  exact q _ _ _ _ (by ext) (by ext) (by ext) (by ext) q1 q2
 ·rw[if_neg (by ext)] at q1
  by_cases c2:e<=j
  ·rw[if_pos (by ext)] at q2
   exact u _ _ _ _ h1 (by ext) (by ext) q1 q2
  ·rw[if_neg (by ext)] at q2
   exact u _ _ _ _ h1 h2 h3 q1 q2
def XM {a:Array Keyed}{lo m:Nat}(hm:m<=a.size)(u:dnS lt a lo m):upS lt (mirror a lo m ((m-lo) / 2)) lo m:=λi j x y h1 h2 h3 q1 q2=>by
 rw[BW hm,if_pos (by ext)] at q1 q2
 exact u _ _ _ _ (by ext) (by ext) (by ext) q2 q1
def XE (T:TOk prog w A s κ M lt){lo n0:Nat}(hk:kindOf st=κ)(ma:∀(i:Nat) (x:Keyed),(arrOf st)[i]?=some x->M x)(hn:1<=n0)(le:lo+n0<=(arrOf st).size){Q:Option Nat->SortSt->Prop}
  (h:∀n r,1<=n->n<=n0->Kp (arrOf st) lo (lo+n0) r->upS lt r lo (lo+n)->Q (some n) (setArr st r)):wpS (model prog w) A E s (countRun' lo n0) Q st:=by
 obtain⟨kd,ar,pn,mg,fl⟩:=st
 subst hk
 replace ma:∀(i:Nat) (x:Keyed),ar[i]?=some x->M x:=ma
 replace le:lo+n0<=ar.size:=le
 replace h:∀n r,1<=n->n<=n0->Kp ar lo (lo+n0) r->upS lt r lo (lo+n)->Q (some n) (SortSt.mk' kd r pn mg fl):=h
 have hk':∀r,kindOf (SortSt.mk' kd r pn mg fl)=kd:=λ_=>rfl
 have step:∀r,Kp ar lo (lo+n0) r->∀i j x y,r[i]?=some x->r[j]?=some y->∀(Q':Option Bool->SortSt->Prop),Q' (some (lt x y)) (SortSt.mk' kd r pn mg fl)->wpS (model prog w) A E s (ltAt' i j) Q' (SortSt.mk' kd r pn mg fl):=λr K i j x y e1 e2 Q' q=>T.at (hk' r) e1 e2 (K.mem ma _ _ e1) (K.mem ma _ _ e2) q
 have asc:∀r (m:Nat) (f:Nat->Option (Option Nat)×Nat->StateT SortSt Sem (ForInStep (Option (Option Nat)×Nat))) (Q':Option (Option Nat)×Nat->SortSt->Prop),Kp ar lo (lo+n0) r->1<=m->m<=n0->upS lt r lo (lo+m) ->
   (∀i n (R:ForInStep (Option (Option Nat)×Nat)->SortSt->Prop) x y,r[lo+n-1]?=some x->r[lo+n]?=some y->(lt y x=true->R (.done (none,n)) (SortSt.mk' kd r pn mg fl))->(lt y x=false->R (.yield (none,n+1)) (SortSt.mk' kd r pn mg fl))->wpS (model prog w) A E s (f i (none,n)) R (SortSt.mk' kd r pn mg fl)) ->
   (∀n,m<=n->n<=n0->upS lt r lo (lo+n)->(∀x y,n<n0->r[lo+n-1]?=some x->r[lo+n]?=some y->lt y x=true)->Q' (none,n) (SortSt.mk' kd r pn mg fl))->wpS (model prog w) A E s (forIn [m:n0] (none,m) f) Q' (SortSt.mk' kd r pn mg fl):=λr m f Q' K m1 m2 u hf hQ=>by
  have sz:=K.size
  refine Pe (I:=λi c st'=>st'=SortSt.mk' kd r pn mg fl/\c=(none,i)/\upS lt r lo (lo+i)) ?_ ?_ ⟨rfl,rfl,u⟩
  ·rintro i c st' R rd ry h1 h2 ⟨rfl,rfl,u⟩
   obtain⟨x,e1⟩:=D0 (a:=r) (i:=lo+i-1) (by ext)
   obtain⟨y,e2⟩:=D0 (a:=r) (i:=lo+i) (by ext)
   refine hf i i R x y e1 e2 (λq=>rd _ _ (hQ i h1 (by ext) u λx' y' _ q1 q2=>?_)) λq=>ry _ _ ⟨rfl,rfl,Ur T (by ext) u e1 e2 q⟩
   cases e1.symm.trans q1
   cases e2.symm.trans q2
   exact q
  ·rintro c st' ⟨rfl,rfl,u⟩
   exact hQ _ (by ext) (by ext) u λ_ _ z=>by ext
 refine Au (asc ar 1 _ _ Kp.refl (Ae _) hn (λi j x y h1 h2 h3 q1 q2=>by
  cases (show i=j by ext)
  cases q1.symm.trans q2
  exact T.irr _) (λi n R x y e1 e2 r1 r2=>?_) λn m1 m2 u hlt=>?_)
 ·refine Au (step ar Kp.refl _ _ _ _ e2 e1 _ ?_)
  cases q:lt y x with
  |true=>exact AB (r1 q)
  |false=>exact AB (r2 q)
 dsimp -zeta -zetaHave only
 refine EH (λc=>AB (h n ar m1 m2 Kp.refl u)) λc=>?_
 have c':n≠n0:=c
 extract_lets n2 nq jp
 have H:∀r,Kp ar lo (lo+n0) r->dnS lt r lo (lo+(n+1))->wpS (model prog w) A E s (jp ()) Q (SortSt.mk' kd r pn mg fl):=λr K d=>by
  have sz:=K.size
  refine Au (wpS_lift (A7 ⟨rfl,?_⟩))
  refine Au (wpS_mono (Pe (I:=λi c st'=>∃r q,st'=SortSt.mk' kd r pn mg fl/\c=(none,i,q)/\Kp ar lo (lo+n0) r/\q+1<=i/\dnS lt r lo (lo+i)/\eqS lt r (lo+i-(q+1)) (lo+i))
   (Q:=λc st'=>∃r q m,st'=SortSt.mk' kd r pn mg fl/\c=(none,m,q)/\1<=m/\m<=n0/\Kp ar lo (lo+n0) r/\q+1<=m/\dnS lt r lo (lo+m)/\eqS lt r (lo+m-(q+1)) (lo+m)) ?_ ?_ ⟨r,0,rfl,rfl,K,by ext,d,λi j x y h1 h2 h3 h4 q1 q2=>?_⟩) ?_)
  ·rintro i c st' R rd ry h1 h2 ⟨r,q,rfl,rfl,K,hq,d,e⟩
   have sz:=K.size
   dsimp -zeta -zetaHave only
   obtain⟨x,ex⟩:=D0 (a:=r) (i:=lo+i-1) (by ext)
   obtain⟨y,ey⟩:=D0 (a:=r) (i:=lo+i) (by ext)
   have one:∀r:Array Keyed,eqS lt r (lo+(i+1)-(0+1)) (lo+(i+1)):=λr a b v v' h1 h2 h3 h4 q1 q2=>by
    cases (show a=b by ext)
    cases q1.symm.trans q2
    exact T.irr _
   refine Au (step r K _ _ _ _ ey ex _ ?_)
   cases c:lt y x with
   |true =>
    have d1:=JD T (by ext) d ex ey (T.asym _ _ c)
    refine D2 (λ_=>D2 (λz=>?_) λz=>AB (ry _ _ ⟨r,0,rfl,rfl,K,by ext,d1,one r⟩)) λz=>absurd rfl z
    have K2:=K.rev (i:=lo+i-(q+1)) (j:=lo+i) (by ext) (by ext) (by ext)
    have d2:=Pm (by ext) (by ext) d e
    refine Au (Cb (AB (ry _ _ ⟨mirror r (lo+i-(q+1)) (lo+i) ((lo+i-(lo+i-(q+1))) / 2),0,rfl,rfl,K2,by ext,?_,one _⟩)))
    obtain⟨v,ev⟩:=D0 (a:=r) (i:=lo+i-(q+1)) (by ext)
    refine JD T (by ext) d2 (x:=v) (y:=y) ?_ ?_ ?_
    ·rw[BW (by ext),if_pos (by ext),show lo+i-(q+1)+(lo+i)-1-(lo+i-1)=lo+i-(q+1) by ext];exact ev
    ·rw[BW (by ext),if_neg (by ext)];exact ey
    ·exact d1 _ _ _ _ (by ext) (by ext) (by ext) ev ey
   |false =>
    refine Au (step r K _ _ _ _ ex ey _ ?_)
    cases c2:lt x y with
    |true=>exact AB (rd _ _ ⟨r,q,i,rfl,rfl,by ext,by ext,K,hq,d,e⟩)
    |false =>
     refine AB (ry _ _ ⟨r,q+1,rfl,rfl,K,by ext,JD T (by ext) d ex ey c2,λa b v v' h1 h2 h3 h4 q1 q2=>?_⟩)
     have key:∀(a:Nat) v,lo+(i+1)-(q+1+1)<=a->a<lo+(i+1)->r[a]?=some v->lt v x=false/\lt x v=false:=λa v z1 z2 z3=>by
      by_cases z:a=lo+i
      ·cases z
       cases ey.symm.trans z3
       exact⟨c,c2⟩
      ·exact⟨e _ _ _ _ (by ext) (by ext) (by ext) (by ext) z3 ex,e _ _ _ _ (by ext) (by ext) (by ext) (by ext) ex z3⟩
     exact T.tr v' x v (key b v' h3 h4 q2).2 (key a v h1 h2 q1).1
  ·rintro c st' ⟨r,q,rfl,rfl,K,hq,d,e⟩
   rw[show max n2 n0=n0 from Nat.max_eq_right (show n+1<=n0 by ext)] at *
   exact⟨r,q,n0,rfl,rfl,hn,Ae _,K,hq,d,e⟩
  ·cases (show i=j by ext)
   cases q1.symm.trans q2
   exact T.irr _
  ·rintro c st' ⟨r,q,m,rfl,rfl,m1,m2,K,hq,d,e⟩
   have sz:=K.size
   dsimp -zeta -zetaHave only
   extract_lets r1 s1 m3 q3 jp2
   dsimp -zeta -zetaHave only[r1]
   have H2:∀r,Kp ar lo (lo+n0) r->dnS lt r lo (lo+m)->wpS (model prog w) A E s (jp2 ()) Q (SortSt.mk' kd r pn mg fl):=λr K d=>by
    have sz:=K.size
    have K2:=K.rev (i:=lo) (j:=lo+m) (Ae _) (by ext) (by ext)
    refine Au (Cb (Au (asc (mirror r lo (lo+m) ((lo+m-lo) / 2)) m _ _ K2 m1 m2 (XM (by ext) d) (λi n R x y e1 e2 r1 r2=>?_) λn m3 m4 u _=>AB (h n _ (by ext) m4 K2 u))))
    refine Au (step _ K2 _ _ _ _ e2 e1 _ ?_)
    cases q:lt y x with
    |true=>exact AB (r1 q)
    |false=>exact AB (r2 q)
   exact D2 (λz=>Au (Cb (H2 (mirror r (lo+m-(q+1)) (lo+m) ((lo+m-(lo+m-(q+1))) / 2)) (K.rev (by ext) (by ext) (by ext)) (Pm (by ext) (by ext) d e)))) λz=>H2 r K d
 obtain⟨x,ex⟩:=D0 (a:=ar) (i:=lo+n-1) (by ext)
 obtain⟨y,ey⟩:=D0 (a:=ar) (i:=lo+n) (by ext)
 obtain⟨z,ez⟩:=D0 (a:=ar) (i:=lo) (by ext)
 have lxy:=hlt x y (by ext) ex ey
 refine D2 (λc2=>?_) λc2=>?_
 ·refine Au (step ar Kp.refl _ _ _ _ ez ex _ ?_)
  cases q:lt z x with
  |true=>exact AB (h n ar m1 m2 Kp.refl u)
  |false =>
   have eqp:eqS lt ar lo (lo+n):=λi j v v' h1 h2 h3 h4 q1 q2=>T.tr v' z v (T.tr v' x z (u _ _ _ _ h3 (by ext) (by ext) q2 ex) q) (u _ _ _ _ (Ae _) h1 h2 ez q1)
   have K:=(Kp.refl:Kp ar lo (lo+n0) ar).rev (i:=lo) (j:=lo+n) (Ae _) (by ext) (by ext)
   refine Au (Cb (H (mirror ar lo (lo+n) ((lo+n-lo) / 2)) K ?_))
   have d:dnS lt ar lo (lo+n):=λi j v v' h1 h2 h3 q1 q2=>eqp i j v v' h1 (by ext) (by ext) h3 q1 q2
   have d2:=Pm (Ae _) (by ext) d eqp
   refine JD T m1 d2 (x:=z) (y:=y) ?_ ?_ ?_
   ·rw[BW (by ext),if_pos (by ext),show lo+(lo+n)-1-(lo+n-1)=lo by ext];exact ez
   ·rw[BW (by ext),if_neg (by ext)];exact ey
   ·exact T.asym _ _ (by
     cases q2:lt y z with
     |true=>rfl
     |false=>rw[T.tr x z y (eqp _ _ _ _ (Ae _) (by ext) (by ext) (by ext) ez ex) q2] at lxy;cases lxy)
 ·cases (show n=1 by ext)
  refine H ar Kp.refl (JD T (Ae _) (λi j v v' h1 h2 h3 q1 q2=>?_) ex ey (T.asym _ _ lxy))
  cases (show i=j by ext)
  cases q1.symm.trans q2
  exact T.irr _
def Uz (T:TOk prog w A s κ M lt){r:Array Keyed}{lo k l:Nat}(hs:lo+k<r.size)(hl:l<=k)(u:upS lt r lo (lo+k)){y:Keyed}(ey:r[lo+k]?=some y)
  (g1:∀(j:Nat) v,j<l->r[lo+j]?=some v->lt y v=false) (g2:∀(j:Nat) v,l<=j->j<k->r[lo+j]?=some v->lt y v=true):upS lt (bubble r (lo+k) (lo+k-(lo+l))) lo (lo+(k+1)):=λi j v v' h1 h2 h3 q1 q2=>by
 rw[getElem?_bubble hs _ (by ext),show lo+k-(lo+k-(lo+l))=lo+l by ext] at q1 q2
 by_cases c1:i=lo+l
 ·rw[if_pos c1] at q1
  cases ey.symm.trans q1
  by_cases c2:j=lo+l
  ·rw[if_pos c2] at q2
   cases ey.symm.trans q2
   exact T.irr _
  ·rw[if_neg c2,if_pos (by ext)] at q2
   exact T.asym _ _ (g2 (j-1-lo) v' (by ext) (by ext) (by rw[show lo+(j-1-lo)=j-1 by ext];exact q2))
 ·rw[if_neg c1] at q1
  by_cases c2:j=lo+l
  ·rw[if_pos c2] at q2
   cases ey.symm.trans q2
   rw[if_neg (by ext)] at q1
   exact g1 (i-lo) v (by ext) (by rw[show lo+(i-lo)=i by ext];exact q1)
  ·rw[if_neg c2] at q2
   by_cases c3:lo+l<i/\i<=lo+k
   ·rw[if_pos c3] at q1
    rw[if_pos (by ext)] at q2
    exact u _ _ _ _ (by ext) (by ext) (by ext) q1 q2
   ·rw[if_neg c3] at q1
    by_cases c4:lo+l<j/\j<=lo+k
    ·rw[if_pos c4] at q2
     exact u _ _ _ _ h1 (by ext) (by ext) q1 q2
    ·rw[if_neg c4] at q2
     exact u _ _ _ _ h1 h2 (by ext) q1 q2
def VD (T:TOk prog w A s κ M lt){lo n ok:Nat}(hk:kindOf st=κ)(ma:∀(i:Nat) (x:Keyed),(arrOf st)[i]?=some x->M x)(ho:1<=ok)(hn:ok<=n)(le:lo+n<=(arrOf st).size)(u:upS lt (arrOf st) lo (lo+ok)){Q:Bool->SortSt->Prop}
  (h:∀r,Kp (arrOf st) lo (lo+n) r->upS lt r lo (lo+n)->Q true (setArr st r)):wpS (model prog w) A E s (binarySort' lo n ok) Q st:=by
 obtain⟨kd,ar,pn,mg,fl⟩:=st
 subst hk
 replace ma:∀(i:Nat) (x:Keyed),ar[i]?=some x->M x:=ma
 replace le:lo+n<=ar.size:=le
 replace u:upS lt ar lo (lo+ok):=u
 replace h:∀r,Kp ar lo (lo+n) r->upS lt r lo (lo+n)->Q true (SortSt.mk' kd r pn mg fl):=h
 have hk':∀r,kindOf (SortSt.mk' kd r pn mg fl)=kd:=λ_=>rfl
 refine Au (wpS_mono (Pe (I:=λk c st'=>∃r,st'=SortSt.mk' kd r pn mg fl/\c=(none,())/\Kp ar lo (lo+n) r/\upS lt r lo (lo+k)) (Q:=λc st'=>∃r,st'=SortSt.mk' kd r pn mg fl/\c=(none,())/\Kp ar lo (lo+n) r/\upS lt r lo (lo+n)) ?_ ?_ ⟨ar,rfl,rfl,Kp.refl,by rw[show max ok 1=ok by ext];exact u⟩) ?_)
 ·rintro k c st' R rd ry h1 h2 ⟨r,rfl,rfl,K,u⟩
  have sz:=K.size
  obtain⟨y,ey⟩:=D0 (a:=r) (i:=lo+k) (by ext)
  refine Au (wpS_mono (G2 (I:=λx c st'=>st'=SortSt.mk' kd r pn mg fl/\∃l q,c=(none,l,q)/\l<=q/\q<=k/\q-l<=k-x/\(∀(j:Nat) v,j<l->r[lo+j]?=some v->lt y v=false)/\∀(j:Nat) v,q<=j->j<k->r[lo+j]?=some v->lt y v=true)
   (Q:=λc st'=>st'=SortSt.mk' kd r pn mg fl/\∃l q,c=(none,l,q)/\l<=k/\(∀(j:Nat) v,j<l->r[lo+j]?=some v->lt y v=false)/\∀(j:Nat) v,l<=j->j<k->r[lo+j]?=some v->lt y v=true) ?_ ?_ ⟨rfl,0,k,rfl,by ext,by ext,by ext,λ_ _ z=>by ext,λ_ _ z z2=>by ext⟩) ?_)
  ·rintro x c st' R rd ry hx ⟨rfl,l,q,rfl,g1,g2,g3,g4,g5⟩
   refine D2 (λz=>?_) λz=>?_
   ·have z':l >= q:=z
    exact AB (rd _ _ ⟨rfl,l,q,rfl,by ext,g4,λj v z1 z2=>g5 j v (by ext) z2⟩)
   have z':¬ l >= q:=z
   obtain⟨v,ev⟩:=D0 (a:=r) (i:=lo+(l+q) / 2) (by ext)
   refine Au (T.at (hk' r) ey ev (K.mem ma _ _ ey) (K.mem ma _ _ ev) ?_)
   cases c:lt y v with
   |true =>
    refine AB (ry _ _ ⟨rfl,l,(l+q) / 2,rfl,by ext,by ext,by ext,g4,λj v' z1 z2 e=>?_⟩)
    cases q2:lt y v' with
    |true=>rfl
    |false=>rw[T.tr v v' y (u _ _ _ _ (by ext) (by ext) (by ext) ev e) q2] at c;cases c
   |false=>exact AB (ry _ _ ⟨rfl,(l+q) / 2+1,q,rfl,by ext,by ext,by ext,λj v' z1 e=>T.tr v' v y (u _ _ _ _ (by ext) (by ext) (by ext) e ev) c,g5⟩)
  ·rintro c st' ⟨rfl,l,q,rfl,g1,g2,g3,g4,g5⟩
   exact⟨rfl,_,_,rfl,by ext,g4,λj v z1 z2=>g5 j v (by ext) z2⟩
  ·rintro c st' ⟨rfl,l,q,rfl,g1,g4,g5⟩
   exact Au (Cb (AB (ry _ _ ⟨bubble r (lo+k) (lo+k-(lo+l)),rfl,rfl,K.bub (by ext) (by ext) (by ext),Uz T (by ext) g1 u ey g4 g5⟩)))
 ·rintro c st' ⟨r,rfl,rfl,K,u⟩
  exact⟨r,rfl,rfl,K,by rw[show max (max ok 1) n=n by ext] at u;exact u⟩
 ·rintro c st' ⟨r,rfl,rfl,K,u⟩
  exact AB (h r K u)
end
def Ch (lt:Keyed->Keyed->Bool)(r:Array Keyed):List (Nat×Nat×Nat)->Nat->Nat->Prop
 |[],s,e=>s=e
 |x::t,s,e=>x.1=s/\1<=x.2.1/\upS lt r s (s+x.2.1)/\Ch lt r t (s+x.2.1) e
section
variable {lt:Keyed->Keyed->Bool}{r r':Array Keyed}
theorem Ch.len:∀{l:List (Nat×Nat×Nat)}{s e:Nat},Ch lt r l s e->s+l.length<=e
 |[],s,e,h=>by cases h;exact Ae _
 |x::t,s,e,h=>by have:=Ch.len h.2.2.2;have:=h.2.1;rw[List.length_cons];ext
theorem Ch.app:∀{l m:List (Nat×Nat×Nat)}{s e:Nat},Ch lt r (l++m) s e↔∃q,Ch lt r l s q/\Ch lt r m q e
 |[],m,s,e=>⟨λh=>⟨s,rfl,h⟩,λ⟨q,h1,h2⟩=>by cases h1;exact h2⟩
 |x::t,m,s,e=>⟨λh=>by
   obtain⟨q,h1,h2⟩:=Ch.app.mp h.2.2.2
   exact⟨q,⟨h.1,h.2.1,h.2.2.1,h1⟩,h2⟩,λ⟨q,h1,h2⟩=>⟨h1.1,h1.2.1,h1.2.2.1,Ch.app.mpr ⟨q,h1.2.2.2,h2⟩⟩⟩
def upS.congr {lo hi:Nat}(h:∀k,lo<=k->k<hi->r'[k]?=r[k]?)(u:upS lt r lo hi):upS lt r' lo hi:=λi j x y h1 h2 h3 q1 q2=>by
 rw[h i h1 (by ext)] at q1
 rw[h j (by ext) h3] at q2
 exact u i j x y h1 h2 h3 q1 q2
theorem Ch.congr:∀{l:List (Nat×Nat×Nat)}{s e:Nat},(∀k,s<=k->k<e->r'[k]?=r[k]?)->Ch lt r l s e->Ch lt r' l s e
 |[],s,e,_,h=>h
 |x::t,s,e,g,h=>by
  have:=Ch.len h.2.2.2
  exact⟨h.1,h.2.1,h.2.2.1.congr λk z1 z2=>g k z1 (by ext),Ch.congr (λk z1 z2=>g k (by ext) z2) h.2.2.2⟩
theorem Ch.mod {f:Nat×Nat×Nat->Nat×Nat×Nat}(hf:∀x,(f x).1=x.1/\(f x).2.1=x.2.1):∀{l:List (Nat×Nat×Nat)}{s e:Nat} (i:Nat),Ch lt r l s e->Ch lt r (l.modify i f) s e
 |[],s,e,i,h=>by cases i<;>exact h
 |x::t,s,e,0,h=>by
  show Ch lt r (f x::t) s e
  unfold Ch
  rw[(hf x).1,(hf x).2]
  exact h
 |x::t,s,e,i+1,h=>⟨h.1,h.2.1,h.2.2.1,Ch.mod hf i h.2.2.2⟩
end
section
variable {prog:Program}{w:World}{A:Around}{E:Value->Zaa}{s:Shared} {κ:SortKind}{M:Keyed->Prop}{lt:Keyed->Keyed->Bool}{st:SortSt}
def S5 (T:TOk prog w A s κ M lt){ar:Array Keyed}{pn:Array (Nat×Nat×Nat)}{g i e:Nat}(ma:∀(i:Nat) (x:Keyed),ar[i]?=some x->M x)(he:e<=ar.size)(hi:i+1<pn.size)(c:Ch lt ar pn.toList 0 e){Q:Bool->SortSt->Prop}
  (h:∀r p g,r.toList.Perm ar.toList->(∀k,e<=k->r[k]?=ar[k]?)->Ch lt r p.toList 0 e->p.size+1=pn.size->Q true (SortSt.mk' κ r p g none)):wpS (model prog w) A E s (mergeAt' i) Q (SortSt.mk' κ ar pn g none):=by
 have hi1:i<pn.toList.length:=by rw[Array.length_toList];ext
 have hi2:i+1<pn.toList.length:=by rw[Array.length_toList];exact hi
 have d:pn.toList=pn.toList.take i++(pn.toList[i]::pn.toList[i+1]::pn.toList.drop (i+2)):=by
  rw[<- Bx hi2,<- Bx hi1,List.take_append_drop]
 generalize hx:pn.toList[i]=x at d
 generalize hy:pn.toList[i+1]=y at d
 have c0:=c
 rw[d] at c0
 obtain⟨q,c1,c2⟩:=Ch.app.mp c0
 obtain⟨sa,na,pw⟩:=x
 obtain⟨sb,nb,pw'⟩:=y
 obtain⟨rfl,pa,ua,rfl,pb,ub,c3⟩:=c2
 dsimp only at pa ua pb ub c3 c1
 have l3:=c3.len
 have l1:=c1.len
 have e1:pn[i]?=some (sa,na,pw):=by rw[<- Af,Al hi1,hx]
 have e2:pn[i+1]?=some (sa+na,nb,pw'):=by rw[<- Af,Al hi2,hy]
 refine W5 T rfl rfl ma e1 e2 pa pb (show sa+na+nb<=ar.size by ext) ua ub λr g' pm out u=>h r _ g' pm (λk hk=>out k (.inr (by ext))) ?_ ?_
 ·have e3:((pn.setIfInBounds i (sa,na+nb,pw)).eraseIdxIfInBounds (i+1)).toList=pn.toList.take i++((sa,na+nb,pw)::pn.toList.drop (i+2)):=by
   rw[Array.toList_eraseIdxIfInBounds,Array.toList_setIfInBounds,List.eraseIdx_eq_take_drop_succ,List.drop_set_of_lt (by ext),List.take_succ_eq_append_getElem (by rw[BF];exact hi1),List.take_set_of_le (Ae _),List.getElem_set_self,Bj]
   rfl
  rw[e3]
  refine Ch.app.mpr ⟨sa,c1.congr λk _ z=>out k (.inl z),rfl,by show 1<=na+nb;ext,by rw[<- Nat.add_assoc];exact u,?_⟩
  rw[<- Nat.add_assoc]
  exact c3.congr λk z _=>out k (.inr z)
 ·rw[<- Array.length_toList,Array.toList_eraseIdxIfInBounds,List.length_eraseIdx,Array.toList_setIfInBounds,BF,Array.length_toList,if_pos (show i+1<pn.size from hi)]
  show pn.size-1+1=pn.size
  ext
def Uq (T:TOk prog w A s κ M lt){a0:Array Keyed}{g:Nat}(ma:∀(i:Nat) (x:Keyed),a0[i]?=some x->M x)(h2:1<=a0.size){Q:Unit->SortSt->Prop}
  (h:∀r p g,r.toList.Perm a0.toList->upS lt r 0 a0.size->Q () (SortSt.mk' κ r p g none)):wpS (model prog w) A E s sortRuns' Q (SortSt.mk' κ a0 #[] g none):=by
 have mem:∀{r:Array Keyed},r.toList.Perm a0.toList->∀(i:Nat) (x:Keyed),r[i]?=some x->M x:=λ{r} pm=>(Kp.mem (lo:=0) (hi:=r.size+a0.size) ⟨pm,λk hk=>by rw[AZ (by ext),AZ (by ext)]⟩ ma)
 have siz:∀{r:Array Keyed},r.toList.Perm a0.toList->r.size=a0.size:=λpm=>by have:=pm.length_eq;simpa using this
 refine Au (wpS_get ?_)
 refine Au (wpS_mono (G2 (I:=λx c st'=>∃r p g lo,st'=SortSt.mk' κ r p g none/\c=(none,lo)/\r.toList.Perm a0.toList/\Ch lt r p.toList 0 lo/\lo<=a0.size/\x<=lo) (Q:=λc st'=>∃r p g,st'=SortSt.mk' κ r p g none/\c=(none,a0.size)/\r.toList.Perm a0.toList/\Ch lt r p.toList 0 a0.size) ?_ ?_ ⟨a0,#[],g,0,rfl,rfl,BD _,rfl,A5 _,Ae _⟩) ?_)
 ·rintro x c st' R rd ry hx ⟨r,p,g,lo,rfl,rfl,pm,ch,hlo,hxl⟩
  have sz:=siz pm
  refine D2 (λz=>?_) λz=>?_
  ·have z':lo >= a0.size:=z
   cases (show lo=a0.size by ext)
   exact AB (rd _ _ ⟨r,p,g,rfl,rfl,pm,ch⟩)
  have z':¬ lo >= a0.size:=z
  refine Au (XE T rfl (mem pm) (show 1<=a0.size-lo by ext) (show lo+(a0.size-lo)<=r.size by ext) λn r1 n1 n2 K u=>?_)
  have K':Kp r lo (lo+(a0.size-lo)) r1:=K
  have pm1:=K'.pm.trans pm
  have ch1:Ch lt r1 p.toList 0 lo:=ch.congr λk _ z=>K'.out k (.inl z)
  dsimp -zeta -zetaHave only
  extract_lets n3 jp fc n4
  have H:∀n r1,1<=n->lo+n<=a0.size->r1.toList.Perm a0.toList->Ch lt r1 p.toList 0 lo->upS lt r1 lo (lo+n)->wpS (model prog w) A E s (jp () n) R (SortSt.mk' κ r1 p g none):=λn r1 n1 n2 pm1 ch1 u1=>by
   refine Au (wpS_get ?_)
   dsimp -zeta -zetaHave only
   extract_lets lo2 jp2
   have H2:∀r p g,r.toList.Perm a0.toList->Ch lt r p.toList 0 lo->upS lt r lo (lo+n)->wpS (model prog w) A E s (jp2 ()) R (SortSt.mk' κ r p g none):=λr p g pm ch u =>
    Au (Cb (AB (ry _ _ ⟨r,p.push (lo,n,0),g,lo+n,rfl,rfl,pm,by rw[BI];exact Ch.app.mpr ⟨lo,ch,rfl,n1,u,rfl⟩,n2,by ext⟩)))
   split
   ·extract_lets pw
    refine Au (wpS_mono (G2 (I:=λx c st'=>∃r p g,st'=SortSt.mk' κ r p g none/\c=(none,())/\r.toList.Perm a0.toList/\Ch lt r p.toList 0 lo/\upS lt r lo (lo+n)) (Q:=λc st'=>∃r p g,st'=SortSt.mk' κ r p g none/\c=(none,())/\r.toList.Perm a0.toList/\Ch lt r p.toList 0 lo/\upS lt r lo (lo+n)) ?_ (λ_ _ z=>z) ⟨r1,p,g,rfl,rfl,pm1,ch1,u1⟩) ?_)
    ·rintro y c st' R rd ry hy ⟨r,p,g,rfl,rfl,pm,ch,u⟩
     refine Au (wpS_get ?_)
     dsimp only
     split
     ·rename_i heq
      have hp:p.size > 1:=by
       by_cases z:p.size > 1
       ·exact z
       ·rw[if_neg (show ¬ p.size > 1 from z)] at heq;cases heq
      refine D2 (λ_=>AB (rd _ _ ⟨r,p,g,rfl,rfl,pm,ch,u⟩)) λ_=>Au (S5 T (mem pm) (by rw[siz pm];exact hlo) (show p.size-2+1<p.size by ext) ch λr' p' g' pm' out ch' hp'=>?_)
      exact D2 (λz=>nomatch z) λ_=>AB (ry _ _ ⟨r',p',g',rfl,rfl,pm'.trans pm,ch',u.congr λk z _=>out k z⟩)
     ·exact AB (rd _ _ ⟨r,p,g,rfl,rfl,pm,ch,u⟩)
    ·rintro c st' ⟨r,p,g,rfl,rfl,pm,ch,u⟩
     exact Au (Cb (H2 r (p.modify (p.size-1) λx=>(x.1,x.2.1,pw)) g pm (by rw[Array.toList_modify];exact Ch.mod (f:=λx=>(x.1,x.2.1,pw)) (λx=>⟨rfl,rfl⟩) _ ch) u))
   ·exact H2 r1 p g pm1 ch1 u1
  refine D2 (λz=>?_) λz=>H n r1 n1 (by ext) pm1 ch1 u
  have z':n<minRun' a0.size a0.size 0:=z
  have sz1:=siz pm1
  have f1:lo+min (a0.size-lo) (minRun' a0.size a0.size 0)<=r1.size:=by ext
  refine Au (wpS_lift (A7 ⟨rfl,Au (VD T rfl (mem pm1) n1 (n:=min (a0.size-lo) (minRun' a0.size a0.size 0)) (by ext) f1 u λr2 K2 u2=>D2 (λz=>nomatch z) λ_=>?_)⟩))
  have K2':Kp r1 lo (lo+min (a0.size-lo) (minRun' a0.size a0.size 0)) r2:=K2
  exact H (min (a0.size-lo) (minRun' a0.size a0.size 0)) r2 (by ext) (by ext) (K2'.pm.trans pm1) (ch1.congr λk _ z=>K2'.out k (.inl z)) u2
 ·rintro c st' ⟨r,p,g,lo,rfl,rfl,pm,ch,hlo,hxl⟩
  have hxl':a0.size<=lo:=hxl
  cases (show lo=a0.size by ext)
  exact⟨r,p,g,rfl,rfl,pm,ch⟩
 ·rintro c st' ⟨r,p,g,rfl,rfl,pm,ch⟩
  have l0:=ch.len
  refine Au (wpS_mono (G2 (I:=λx c st'=>∃r p g,st'=SortSt.mk' κ r p g none/\c=(none,())/\r.toList.Perm a0.toList/\Ch lt r p.toList 0 a0.size/\p.size+x<=a0.size+0) (Q:=λc st'=>∃r p g,st'=SortSt.mk' κ r p g none/\c=(none,())/\r.toList.Perm a0.toList/\Ch lt r p.toList 0 a0.size/\p.size<=1) ?_ ?_ ⟨r,p,g,rfl,rfl,pm,ch,by rw[Array.length_toList] at l0;ext⟩) ?_)
  ·rintro x c st' R rd ry hx ⟨r,p,g,rfl,rfl,pm,ch,hp⟩
   refine Au (wpS_get (D2 (λz=>AB (rd _ _ ⟨r,p,g,rfl,rfl,pm,ch,z⟩)) λz=>?_))
   have z':¬ p.size<=1:=z
   refine Au (S5 T (mem pm) (by rw[siz pm];exact Ae _) ?_ ch λr' p' g' pm' _ ch' hp'=>AB (ry _ _ ⟨r',p',g',rfl,rfl,pm'.trans pm,ch',by ext⟩))
   have two:∀(b:Bool),(if b=true then p.size-2-1 else p.size-2)+1<p.size:=λb=>by cases b<;>simp<;>ext
   exact two _
  ·rintro c st' ⟨r,p,g,rfl,rfl,pm,ch,hp⟩
   have hp':p.size+a0.size<=a0.size+0:=hp
   exact⟨r,p,g,rfl,rfl,pm,ch,by ext⟩
  ·rintro c st' ⟨r,p,g,rfl,rfl,pm,ch,hp⟩
   refine AB (h r p g pm ?_)
   rw[<- Array.length_toList] at hp
   match e:p.toList with
   |[]=>rw[e] at ch;have:0=a0.size:=ch;ext
   |[y] =>
    rw[e] at ch
    have:=ch.2.2.1
    rw[show 0+y.2.1=a0.size from ch.2.2.2] at this
    exact this
   |_::_::_=>rw[e] at hp;simp at hp
end
end PV
namespace PV
open PySem L2 PySem.Spec PyProof.Rows
section
variable {prog:Program}{w:World}{A:Around}{E:Value->Zaa}{s:Shared}
def Jt (prog:Program)(w:World)(A:Around)(zs:List Value)(Ok:List Value->Prop)(s:Shared):Prop:=∀(h1:Heap) (a:Addr) (P:PySem.Fin->Zaa) (E':Value->Zaa),(∀b o,s.heap.get? b=some o->h1.get? b=some o)->s.heap.get? a=none->h1.get? a=some (seqObj "list" zs.toArray 0) ->
 (∀out,Ok out->P (.done (.ret .none)) {s with heap:=sortedHeap h1 a zs out.toArray})->wpAny (model prog w) A (Builtin.«list.sort» ⟨[.ref a],[]⟩) P E' {s with heap:=h1}
def L1 {x:Value}{Q:Value->Zaa}(hcol:wpAny (model prog w) A.in1 (collect x) (λzs s1=>zs.length<=sizeLine/\∃Ok,Jt prog w A.in1.in1 zs Ok s1/\∀out h' e a,Ok out->(∀b o,s1.heap.get? b=some o->h'.get? b=some o)->s1.heap.objs.size<=a->h'.get? a=some (seqObj "list" out.toArray e)->Q (.ref a) {s1 with heap:=h'}) E s) :
  wpAny (model prog w) A (call (.builtin "sorted") [x]) Q E s:=by
 (refine Calls.call_function_entry kind_sorted plain_sorted entry_sorted (args_sorted1 _) ?_)
 unfold Builtin.«sorted»
 refine Aa (m:=checkCount "sorted" 1 1 _) (Ab (Aa (B1 hcol (λzs s1 hq=>?_) λ_ _ z=>z)))
 obtain⟨hz,Ok,hs,q⟩:=hq
 refine Aa (wpAny_newList ?_ hz)
 have g1:(s1.heap.push (seqObj "list" zs.toArray 0)).get? s1.heap.objs.size=some (seqObj "list" zs.toArray 0):=Ag _ rfl
 have fr:s1.heap.get? s1.heap.objs.size=none:=Heap.get?_none_of_le (Ae _)
 refine Aa (AG (AE slot_list_sort ⟨_,g1,rfl⟩ entry_list_sort (hs (s1.heap.push (seqObj "list" zs.toArray 0)) _ _ _ (λb o e=>Ac _ e) fr g1 λout ho=>⟨_,rfl,Ab ⟨_,rfl,?_⟩⟩) (args_list_sort _)))
 obtain⟨e,he⟩:=sortedHeap_at (out:=out.toArray) g1
 refine q out _ e _ ho (λb o z=>?_) (Ae _) he
 have lb:=An z
 rw[sortedHeap_old (Az lb) (by rw[size_push'];exact Bl lb)]
 exact Ac _ z
def Nw {a:Addr}{zs:List Value}{n:Nat}{P:PySem.Fin->Zaa}{kd:SortKind}{Ok:List Value->Prop}(ho:s.heap.get? a=some (seqObj "list" zs.toArray n))(h2:2<=zs.length)(hz:zs.length<=sizeLine)
  (hk:∀(Q:SortKind->Zaa) (E':Value->Zaa),Q kd {s with heap:=((s.heap.update a (Obj.mapSeq λ_=>#[])).push (seqObj "tuple" zs.toArray 0)).push (seqObj "list" #[] 0)}->wpAny (model prog w) A (keyKind' zs.toArray) Q E' {s with heap:=((s.heap.update a (Obj.mapSeq λ_=>#[])).push (seqObj "tuple" zs.toArray 0)).push (seqObj "list" #[] 0)})
  (hr:∀Q:Unit->SortSt->Prop,(∀r p g,r.size=zs.length->Ok (r.toList.map (·.2))->Q () (SortSt.mk' kd r p g none))->wpS (model prog w) A E {s with heap:=((s.heap.update a (Obj.mapSeq λ_=>#[])).push (seqObj "tuple" zs.toArray 0)).push (seqObj "list" #[] 0)} sortRuns' Q (SortSt.mk' kd (zs.toArray.zip zs.toArray) #[] 7 none))
  (h:∀out,Ok out->P (.done (.ret .none)) {s with heap:=sortedHeap s.heap a zs out.toArray}):wpAny (model prog w) A (Builtin.«list.sort» ⟨[.ref a],[]⟩) P E s:=by
 have la:a<s.heap.objs.size:=An ho
 rw[list_sort_plain]
 refine Aa (listItems_at ho rfl (Aa (listUpdate_at ho rfl ?_ (by rw[Ar];exact hz) (A5 _))))
 obtain⟨n1,ho1⟩:∃n1,(s.heap.update a (Obj.mapSeq λ_=>#[])).get? a=some (seqObj "list" #[] n1):=⟨_,get?_update_seq ho λ_=>#[]⟩
 refine Aa (seqEpoch_at ho1 rfl (Aa (wpAny_newTuple (Aa (wpAny_newList (AG ?_) (A5 _))) hz)))
 have ho2:(((s.heap.update a (Obj.mapSeq λ_=>#[])).push (seqObj "tuple" zs.toArray 0)).push (seqObj "list" #[] 0)).get? a=some (seqObj "list" #[] n1):=Ac _ (Ac _ ho1)
 show wpAny (model prog w) A _ P E {s with heap:=((s.heap.update a (Obj.mapSeq λ_=>#[])).push (seqObj "tuple" zs.toArray 0)).push (seqObj "list" #[] 0)}
 dsimp only
 have n2:¬ zs.toArray.size<2:=by rw[Ar];ext
 rw[if_neg n2,if_neg n2]
 refine Aa (hk _ _ ?_)
 refine Aa (B1 (hr (λ_ st'=>failedOf st'=none/\(arrOf st').size=zs.length/\Ok ((arrOf st').toList.map (·.2))) λr p g e1 e2=>⟨rfl,e1,e2⟩) ?_ λ_ _ e=>e)
 rintro⟨⟨⟩,st'⟩ s' ⟨rfl,hf,hl,hok⟩
 dsimp only
 rw[show(arrOf st').map (·.2)=((arrOf st').toList.map (·.2)).toArray from Array.toList_inj.mp (Array.toList_map ..)]
 refine Aa (seqEpoch_at ho2 rfl (Aa (listUpdate_at ho2 rfl ?_ (A5 _) (by
  show(List.toArray ((arrOf st').toList.map (·.2))).size<=sizeLine+1
  rw[Ar,Ak,Array.length_toList,hl]
  ext))))
 rw[hf]
 simp only[bne_self_eq_false,AV,Bt]
 exact Ab (h _ hok)
end
def Xd:D->Bool
 |.str _=>true
 |_=>false
def L9 (es:List D):Bool:=es.all λa=>es.all λb=>(ltB a b).isSome
def ES (es:List D):Bool:=decide (es.length<4096)&&es.all Fu&&L9 es&&(es.all Xd||es.all tupS)
section
variable {X:Cx}{K:Zc}{th:List Addr}{mu:Sto}{H:Hp}{pj:Zab}{st:L2.St}{s:Shared}
def Vy {es:List D}(ho:es.all Fu=true)(hc:L9 es=true):Pre es.length (Pp es) λi j=>ltT (es.getD i .non) (es.getD j .non):=by
 have gd:∀i,i<es.length->es.getD i .non=es[i]?.getD .non/\∃d,es[i]?=some d/\es.getD i .non=d/\d∈es:=λi hi=>by
  rw[AQ]
  exact⟨rfl,es[i],Al hi,by rw[Al hi];rfl,BG hi⟩
 rw[AW] at ho
 unfold L9 at hc
 rw[AW] at hc
 refine⟨λi j hi hj=>?_,λi j hi hj h=>MZ _ _ h,λi j k hi hj hk h1 h2=>OZ _ _ _ h1 h2⟩
 obtain⟨_,d,e1,e2,e3⟩:=gd i hi
 obtain⟨_,d',f1,f2,f3⟩:=gd j hj
 unfold Pp
 rw[e1,f1,e2,f2]
 have:=hc d e3
 rw[AW] at this
 obtain⟨r,hr⟩:=Option.isSome_iff_exists.mp (this d' f3)
 dsimp only
 rw[hr,V2 d d' r (ho d e3) (ho d' f3) hr]
 rfl
theorem UR (I:L2.Inv X pj st H s){es:List D}{vs:List V}{us:List Value}(hd:es.all Xd=true)(r:RepL X.z th H es vs)(q:Vals vs us){A:Around} :
  ∀i j b C,Pp es i j=some b->C b s->W.kas_ask X.prog X.w A oneType' us i j C s:=λi j b C e hC=>by
 rw[AW] at hd
 unfold Pp at e
 cases e1:es[i]? with
 |none=>rw[e1] at e;cases e
 |some d =>
  cases e2:es[j]? with
  |none=>rw[e1,e2] at e;cases e
  |some d' =>
   rw[e1,e2] at e
   have s1:=hd d (Aj e1)
   have s2:=hd d' (Aj e2)
   cases d<;>first|(cases s1;done)|skip
   cases d'<;>first|(cases s2;done)|skip
   rename_i x y
   unfold ltB at e
   cases e
   obtain⟨v,v1,v2⟩:=r.get e1
   obtain⟨v',v1',v2'⟩:=r.get e2
   obtain⟨u,u1,u2⟩:=q.get v1
   obtain⟨u',u1',u2'⟩:=q.get v1'
   obtain⟨rfl,_⟩:=(show _/\_ from v2)
   obtain⟨rfl,_⟩:=(show _/\_ from v2')
   obtain⟨t,rfl⟩:=u2
   obtain⟨t',rfl⟩:=u2'
   unfold W.kas_ask
   rw[AQ,AQ,u1,u1']
   exact W.kas_lt_str hC
def SX {es:List D}{vs:List V}{us:List Value}(hd:es.all Xd=true)(r:RepL X.z th H es vs)(q:Vals vs us):∃ss,StrsAre us ss:=by
 refine⟨_,strsAre_map us λu hu=>?_⟩
 obtain⟨i,ei⟩:=AL.mp hu
 have hi:i<es.length:=by
  have:=(Ad.mp ei).1
  rw[<- q.length,r.len] at this
  exact this
 rw[AW] at hd
 obtain⟨v,v1,v2⟩:=r.get (Al hi)
 have hs:=hd _ (BG hi)
 obtain⟨u',u1,u2⟩:=q.get v1
 rw[ei] at u1
 cases u1
 cases e:es[i]<;>rw[e] at hs v2<;>first|(cases hs;done)|skip
 obtain⟨rfl,_⟩:=(show _/\_ from v2)
 obtain⟨t,rfl⟩:=u2
 exact⟨_,t,rfl⟩
theorem RepL.perm {ds:List D}{vs us:List V}(p:us.Perm vs)(r:RepL K th H ds vs):∃ds',ds'.Perm ds/\RepL K th H ds' us:=by
 induction p generalizing ds with
 |nil=>exact⟨ds,BD _,r⟩
 |cons x p ih =>
  cases ds with
  |nil=>cases r.inv0
  |cons d ds =>
   obtain⟨v,r',e,a,b⟩:=r.inv
   cases e
   obtain⟨ds',q1,q2⟩:=ih b
   exact⟨d::ds',q1.cons d,.cons a q2⟩
 |swap x y l =>
  cases ds with
  |nil=>cases r.inv0
  |cons d ds =>
   obtain⟨v,r',e,a,b⟩:=r.inv
   cases e
   cases ds with
   |nil=>cases b.inv0
   |cons d' ds =>
    obtain⟨v',r2,e',a',b'⟩:=b.inv
    cases e'
    exact⟨d'::d::ds,List.Perm.swap _ _ _,.cons a' (.cons a b')⟩
 |trans p q ih1 ih2 =>
  obtain⟨ds1,a1,b1⟩:=ih2 r
  obtain⟨ds2,a2,b2⟩:=ih1 b1
  exact⟨ds2,a2.trans a1,b2⟩
theorem Vals.perm {vs:List V}{us us':List Value}(p:us'.Perm us)(r:Vals vs us):∃vs',vs'.Perm vs/\Vals vs' us':=by
 induction p generalizing vs with
 |nil=>cases r;exact⟨[],.nil,.nil⟩
 |cons x p ih =>
  cases r with
  |cons a b=>obtain⟨vs',q1,q2⟩:=ih b;exact⟨_,q1.cons _,.cons a q2⟩
 |swap x y l =>
  cases r with
  |cons a b =>
   cases b with
   |cons a' b'=>exact⟨_,List.Perm.swap _ _ _,.cons a' (.cons a b')⟩
 |trans p q ih1 ih2 =>
  obtain⟨v1,a1,b1⟩:=ih2 r
  obtain⟨v2,a2,b2⟩:=ih1 b1
  exact⟨v2,a2.trans a1,b2⟩
mutual
theorem Qm (I:L2.Inv X pj st H s):∀(d e:D) (v:V),Fu d=true->Fu e=true->Rep X.z th H d v->Rep X.z th H e v->d=e
 |.int i,e,v,h1,h2,r1,r2=>by
  cases (show v=_ from r1)
  cases e<;>first|(cases h2;done)|skip
  ·cases (show V.int _=_ from r2);rfl
  ·exact nomatch (show V.int _=_/\_ from r2).1
  ·unfold Rep at r2;obtain⟨a,vs,e,_⟩:=r2;cases e
 |.str x,e,v,h1,h2,r1,r2=>by
  cases (show v=_/\_ from r1).1
  cases e<;>first|(cases h2;done)|skip
  ·exact nomatch (show V.str _=_ from r2)
  ·cases (show V.str _=_/\_ from r2).1;rfl
  ·unfold Rep at r2;obtain⟨a,vs,e,_⟩:=r2;cases e
 |.tup ds,e,v,h1,h2,r1,r2=>by
  unfold Rep at r1
  obtain⟨a,vs,rfl,g1,g2,_⟩:=r1
  cases e<;>first|(cases h2;done)|skip
  ·exact nomatch (show V.ref _=_ from r2)
  ·exact nomatch (show V.ref _=_/\_ from r2).1
  ·rename_i es
   unfold Rep at r2
   obtain⟨a',vs',e,g1',g2',_⟩:=r2
   cases e
   cases I.tuple_inj g1 g1'
   unfold Fu at h1 h2
   rw[Nt I ds es vs h1 h2 g2 g2']
theorem Nt (I:L2.Inv X pj st H s):∀(ds es:List D) (vs:List V),FJ ds=true->FJ es=true->RepL X.z th H ds vs->RepL X.z th H es vs->ds=es
 |[],es,vs,h1,h2,r1,r2=>by
  cases r1.inv0
  cases es with
  |nil=>rfl
  |cons e es=>obtain⟨_,_,z,_⟩:=r2.inv;cases z
 |d::ds,es,vs,h1,h2,r1,r2=>by
  obtain⟨v,r,rfl,a1,a2⟩:=r1.inv
  cases es with
  |nil=>cases r2.inv0
  |cons e es =>
   obtain⟨v',r',z,b1,b2⟩:=r2.inv
   cases z
   unfold FJ at h1 h2
   rw[Ai] at h1 h2
   rw[Qm I d e v h1.1 h2.1 a1 b1,Nt I ds es r h1.2 h2.2 a2 b2]
end
open Classical in
def dOf (X:Cx)(th:List Addr)(H:Hp)(u:Value):D:=if h:∃d v,Fu d=true/\Rep X.z th H d v/\RelV v u then h.choose else .non
def TH (I:L2.Inv X pj st H s){d:D}{v:V}{u:Value}(h1:Fu d=true)(h2:Rep X.z th H d v)(h3:RelV v u):dOf X th H u=d:=by
 have h:∃d v,Fu d=true/\Rep X.z th H d v/\RelV v u:=⟨d,v,h1,h2,h3⟩
 unfold dOf
 rw[dif_pos h]
 obtain⟨v',g1,g2,g3⟩:=h.choose_spec
 cases g3.inj h3
 exact Qm I _ _ _ g1 h1 g2 h2
def sorts (hu:X.A.units+64<cLine)(I:L2.Inv X pj st H s){es:List D}{vs:List V}{zs:List Value}(h2:RepL X.z th H es vs)(rv:Vals vs zs)(ok:ES es=true) :
  Jt X.prog X.w X.A.in1.in1 zs (λout=>∃ws,RepL X.z th H (FF es) ws/\Vals ws out) s:=by
 unfold ES at ok
 rw[Ai,Ai,Ai,AA,Bool.or_eq_true] at ok
 obtain⟨⟨⟨c64,ho⟩,hc⟩,hk⟩:=ok
 have ho':∀d∈es,Fu d=true:=by rw[AW] at ho;exact ho
 have lz:zs.length=es.length:=by rw[<- rv.length,h2.len]
 by_cases c2:es.length<2
 ·have:FF es=es:=by
   refine(ML ho' (BD _) ?_).symm
   match es,c2 with
   |[],_=>exact .nil
   |[_],_=>exact List.pairwise_singleton _ _
   |_::_::_,c2=>exact absurd c2 (by simp only[List.length_cons];ext)
  rw[this]
  exactλh1 a P E' hk fr hl hP=>R5 hl (by rw[lz];exact c2) (hP _ ⟨vs,h2,rv⟩)
 ·have at_:∀(i:Nat) u,zs[i]?=some u->∃d,es[i]?=some d/\Fu d=true/\dOf X th H u=d:=λi u e=>by
   have hi:i<es.length:=by rw[<- lz];exact(Ad.mp e).1
   obtain⟨v,ev,rv'⟩:=h2.get (Al hi)
   obtain⟨u',eu,ru⟩:=rv.get ev
   cases e.symm.trans eu
   exact⟨_,Al hi,ho' _ (BG hi),TH I (ho' _ (BG hi)) rv' ru⟩
  have lessthan:zs.length<=sizeLine:=by rw[lz,AH];ext
  refineλh1 a P E' hk1 fr hl hP=>?_
  have I6:L2.Inv X pj st H {s with heap:=((h1.update a (Obj.mapSeq λ_=>#[])).push (seqObj "tuple" zs.toArray 0)).push (seqObj "list" #[] 0)}:=I.kept (t':=s.toks) λb o q=>by
   refine Ac _ (Ac _ ?_)
   rw[Heap.get?_update_ne _ _ _ _ (λz=>by rw[z,fr] at q;cases q)]
   exact hk1 b o q
  have pz:zs.toArray.zip zs.toArray=(zs.zip zs).toArray:=by simp
  have pi:∀(i:Nat) (x:Keyed),(zs.toArray.zip zs.toArray)[i]?=some x->x.1=x.2/\zs[i]?=some x.1:=λi x e=>by
   rw[pz,List.getElem?_toArray,List.getElem?_zip_eq_some] at e
   exact⟨AR (e.1.symm.trans e.2),e.1⟩
  have fin:∀κ,TOk X.prog X.w X.A.in1.in1 {s with heap:=((h1.update a (Obj.mapSeq λ_=>#[])).push (seqObj "tuple" zs.toArray 0)).push (seqObj "list" #[] 0)} κ (λx=>x.1=x.2/\∃i,zs[i]?=some x.1) (λx y=>ltT (dOf X th H x.1) (dOf X th H y.1)) ->
    ∀Q:Unit->SortSt->Prop,(∀r p g,r.size=zs.length->(∃ws,RepL X.z th H (FF es) ws/\Vals ws (r.toList.map (·.2)))->Q () (SortSt.mk' κ r p g none))->wpS (model X.prog X.w) X.A.in1.in1 E' {s with heap:=((h1.update a (Obj.mapSeq λ_=>#[])).push (seqObj "tuple" zs.toArray 0)).push (seqObj "list" #[] 0)} sortRuns' Q (SortSt.mk' κ (zs.toArray.zip zs.toArray) #[] 7 none):=fun κ T Q hQ=>by
   have sz:(zs.toArray.zip zs.toArray).size=zs.length:=by rw[pz];simp
   refine Uq T (λi x e=>⟨(pi i x e).1,i,(pi i x e).2⟩) (by rw[sz];ext) λr p g pm up=>hQ r p g (by have:=pm.length_eq;simpa[sz] using this) ?_
   have pm2:(r.toList.map (·.2)).Perm zs:=by
    have:=pm.map (·.2)
    rw[pz,List.map_snd_zip (Ae _)] at this
    exact this
   obtain⟨vs',q1,q2⟩:=Vals.perm pm2 rv
   obtain⟨ds',q3,q4⟩:=RepL.perm q1 h2
   refine⟨vs',?_,q2⟩
   rw[<- ML ho' q3 ?_]
   ·exact q4
   rw[BZ]
   intro i j hi hj hij
   have key:∀(i:Nat) (hi:i<ds'.length),∃x,r[i]?=some x/\dOf X th H x.1=ds'[i]:=λi hi=>by
    obtain⟨v,ev,rv'⟩:=q4.get (Al hi)
    obtain⟨u,eu,ru⟩:=q2.get ev
    rw[Am,Af] at eu
    obtain⟨x,ex,rfl⟩:=Option.map_eq_some_iff.mp eu
    refine⟨x,ex,?_⟩
    have xm:x∈(zs.toArray.zip zs.toArray).toList:=pm.mem_iff.mp (Aj (by rw[Af];exact ex))
    obtain⟨k,hk⟩:=AL.mp xm
    rw[Af] at hk
    rw[(pi k x hk).1]
    exact TH I (ho' _ (q3.mem_iff.mp (BG hi))) rv' ru
   obtain⟨x,ex,dx⟩:=key i hi
   obtain⟨y,ey,dy⟩:=key j hj
   have:=up i j x y (A5 _) (Nat.le_of_lt hij) (by rw[sz,lz,<- q3.length_eq];exact hj) ex ey
   dsimp only at this
   unfold leT
   rw[<- dx,<- dy,this]
   rfl
  have O:=Vy ho hc
  have ord:∀κ,(∀i j b C,Pp es i j=some b->C b {s with heap:=((h1.update a (Obj.mapSeq λ_=>#[])).push (seqObj "tuple" zs.toArray 0)).push (seqObj "list" #[] 0)}->W.kas_ask X.prog X.w X.A.in1.in1 κ zs i j C {s with heap:=((h1.update a (Obj.mapSeq λ_=>#[])).push (seqObj "tuple" zs.toArray 0)).push (seqObj "list" #[] 0)}) ->
    TOk X.prog X.w X.A.in1.in1 {s with heap:=((h1.update a (Obj.mapSeq λ_=>#[])).push (seqObj "tuple" zs.toArray 0)).push (seqObj "list" #[] 0)} κ (λx=>x.1=x.2/\∃i,zs[i]?=some x.1) (λx y=>ltT (dOf X th H x.1) (dOf X th H y.1)):=fun κ ask=>by
   refine⟨λx y hx hy Q E2 hq=>?_,λx y h=>MZ _ _ h,λx y z h1 h2=>OZ _ _ _ h1 h2⟩
   obtain⟨_,i,ei⟩:=hx
   obtain⟨_,j,ej⟩:=hy
   obtain⟨d,d1,d2,d3⟩:=at_ i _ ei
   obtain⟨d',d1',d2',d3'⟩:=at_ j _ ej
   have hi:i<es.length:=(Ad.mp d1).1
   have hj:j<es.length:=(Ad.mp d1').1
   have e:=O.tot i j hi hj
   rw[AQ,AQ,d1,d1'] at e
   rw[d3,d3'] at hq
   have:=ask i j _ Q e hq
   unfold W.kas_ask at this
   rw[AQ,AQ,ei,ej] at this
   exact B1 this (λ_ _ z=>z) λ_ _ z=>z.elim
  rcases hk with hk|hk
  ·obtain⟨ss,hS⟩:=SX hk h2 rv
   refine Nw (kd:=oneType') hl (by rw[lz];ext) lessthan (λQ' E2 hq=>?_) (fin _ (ord _ λi j b C ea hC=>UR I6 hk h2 rv i j b C ea hC)) hP
   have kk:∀zs:List Value,2<=zs.length->StrsAre zs ss->keyKind' zs.toArray=pure oneType':=λzs l hS=>by
    match zs,hS,l with
    |[],_,l=>simp at l
    |[_],_,l=>simp at l
    |v1::v2::r,hS,_=>exact keyKind_strs hS
   rw[kk zs (by rw[lz];ext) hS]
   exact Ab hq
  ·obtain⟨fs,f1,f2,f3⟩:=K7 I6 hk h2 rv
   refine Nw (kd:=tuples' true) hl (by rw[lz];ext) lessthan (λQ' E2 hq=>W.kat_kind f1 (by rw[f2];ext) (T:=.type "str") (λv hv=>?_) rfl hq) (fin _ (ord _ λi j b C ea hC=>X3 I6 hk h2 rv (A:=X.A.in1.in1) (by show X.A.units+1+1+60<cLine;ext) i j b C ea hC)) hP
   obtain⟨x,tk,rfl⟩:=f3 v hv
   exactλA Q E s _ hq=>By (typeIs_str s x tk) hq
end
section
variable {prog:Program}{w:World}{A:Around}{E:Value->Zaa}{s:Shared}
def YieldsV (prog:Program)(w:World)(A:Around)(E:Value->Zaa)(h:Heap)(l:Addr)(us:List Value):Prop:=
 ∀(s1:Shared) (A':Around) (R:Value->Zaa),A'.handled=A.handled->(∀b o,h.get? b=some o->s1.heap.get? b=some o) ->
  (∀(I:Addr) (fp:List Addr) (h2:Heap) (d2:Drawn) (P:Nat->Value->Prop) (St:Nat->Heap->Prop),s1.heap.objs.size<=I->(∀b∈fp,b<h2.objs.size)->(∀b∈fp,s1.heap.objs.size<=b\/∃o,h.get? b=some o)->(∀A2:Around,A2.handled=A.handled->Walks prog w A2 I fp [I] us.length P St)->St 0 h2 ->
   (∀b o,s1.heap.get? b=some o->h2.get? b=some o)->(∀i v,P i v->us[i]?=some v)->R (.ref I) {s1 with heap:=h2,drawn:=d2})->wpAny (model prog w) A' (pyIter (.ref l)) R E s1
end
section
variable {X:Cx}{K:Zc}{th:List Addr}{mu:Sto}{H:Hp}{pj:Zab}{st:L2.St}{s:Shared}
def N6 (I:L2.Inv X pj st H s)(hc:X.calm=true){a:Addr}{vs:List V}{E:Value->Zaa}(h:SqL X.K H a vs):∃us,Vals vs us/\YieldsV X.prog X.w X.A E s.heap a us/\∃o,s.heap.get? a=some o/\o.cls=.type "list":=by
 obtain⟨its,rv,pl,hz⟩:=I.list h
 obtain⟨o,n,ho,hcl,hdd,hdt⟩:=id pl
 refine⟨its,rv,λs1 A' R hA hk hR=>?_,o,ho,hcl⟩
 have pl':s1.heap.IsList a its.toArray:=pl.isList.at λo e=>hk a o e
 have lt:a<s1.heap.objs.size:=An (hk a o ho)
 have hh:=I.ok.hd hc
 refine wpAny_pyIter_list pl' (hR s1.heap.objs.size [s1.heap.objs.size,a] _ s1.drawn (λi v=>its.toArray[i]?=some v) (λi h=>h.IsListIter s1.heap.objs.size a i/\h.IsList a its.toArray) (Ae _) (λb hb=>?_) (λb hb=>?_) (λA2 hA2=>?_) ?_ (λb o e=>Ac _ e) λi v hP=>?_)
 ·rw[Bn]
  rcases Ao.mp hb with rfl|hb
  ·exact Bh _
  ·rw[Ah.mp hb];exact Bl lt
 ·rcases Ao.mp hb with rfl|hb
  ·exact .inl (Ae _)
  ·rw[Ah.mp hb];exact .inr ⟨o,ho⟩
 ·have:=Walks.list (prog:=X.prog) (w:=X.w) (hA2.trans hh) s1.heap.objs.size a (Az lt) its.toArray
  rw[Ar] at this
  exact this
 ·exact⟨⟨_,Ag _ rfl,rfl,rfl⟩,pl'.push _⟩
 ·have hP':its.toArray[i]?=some v:=hP
  simpa using hP'
def Ms (I:L2.Inv X pj st H s)(hc:X.calm=true){a:Addr}{vs:List V}{E:Value->Zaa}(h:SqT X.K H a vs):∃us,Vals vs us/\YieldsV X.prog X.w X.A E s.heap a us/\∃o,s.heap.get? a=some o/\o.cls=.type "tuple":=by
 obtain⟨its,rv,pl,hz⟩:=I.tuple h
 obtain⟨o,ho,hcl,n,hdt⟩:=id pl
 refine⟨its,rv,λs1 A' R hA hk hR=>?_,o,ho,hcl⟩
 have pl':s1.heap.IsTuple a its.toArray:=⟨o,hk a o ho,hcl,n,hdt⟩
 have lt:a<s1.heap.objs.size:=An (hk a o ho)
 have hh:=I.ok.hd hc
 refine wpAny_pyIter_tuple pl' (hR s1.heap.objs.size [s1.heap.objs.size,a] _ s1.drawn (λi v=>its.toArray[i]?=some v) (λi h=>h.IsTupleIter s1.heap.objs.size a i/\h.IsTuple a its.toArray) (Ae _) (λb hb=>?_) (λb hb=>?_) (λA2 hA2=>?_) ?_ (λb o e=>Ac _ e) λi v hP=>?_)
 ·rw[Bn]
  rcases Ao.mp hb with rfl|hb
  ·exact Bh _
  ·rw[Ah.mp hb];exact Bl lt
 ·rcases Ao.mp hb with rfl|hb
  ·exact .inl (Ae _)
  ·rw[Ah.mp hb];exact .inr ⟨o,ho⟩
 ·have:=Walks.tuple (prog:=X.prog) (w:=X.w) (hA2.trans hh) s1.heap.objs.size a (Az lt) its.toArray
  rw[Ar] at this
  exact this
 ·exact⟨⟨_,Ag _ rfl,rfl,rfl⟩,⟨o,Ac _ (hk a o ho),hcl,n,hdt⟩⟩
 ·have hP':its.toArray[i]?=some v:=hP
  simpa using hP'
def RP:Fn:=λds mu=>match ds with
 |[.set es]=>some (.int es.length,mu)
 |[d]=>(DC mu d).map λp=>(.int p.1.length,mu)
 |_=>none
def SD {ds:List D}{r:D×Sto}(h:RP ds mu=some r):(∃es,ds=[.set es]/\r=(.int es.length,mu))\/∃d p,ds=[d]/\DC mu d=some p/\r=(.int p.1.length,mu):=by
 unfold RP at h
 split at h
 ·cases h;exact .inl ⟨_,rfl,rfl⟩
 ·rename_i d _
  cases e:DC mu d with
  |none=>rw[e] at h;cases h
  |some p=>rw[e] at h;cases h;exact .inr ⟨d,p,rfl,e,rfl⟩
 ·cases h
def QI:CallV X (.builtin "len") RP:=by
 intro pj s st H xs us Q I r h
 obtain⟨th,mu,ds,so,rd,t⟩:=h
 obtain⟨a0,mu0,e0,_⟩:=id t
 rcases SD e0 with⟨es,rfl,er⟩|⟨d,p,rfl,ed,er⟩
 ·rw[e0] at t
  cases er
  obtain⟨x,rfl,rx⟩:=D8 rd
  unfold Rep at rx
  obtain⟨a,us',vs,rfl,_,h1,h2,h3,_⟩:=rx
  obtain⟨u,rfl,ru⟩:=vals1 r
  cases ru
  obtain⟨⟨o,tes,ep,tb,ho,hex,hd,sb,hf,hv,_⟩,_⟩:=(show ObjOk X.prog X.w H s.heap a (YE X.w a us') from I.hok a _ h1)
  have ln:tes.size=es.length:=by
   have e1:us'.length=tes.size:=by have:=hv.length;simpa using this
   rw[<- e1,h2.length_eq,List.length_zip,DP,Ak,h3.len,Nat.min_self]
  refine PySem.call_len_set ho hex hd hf (by unfold scanBound at sb;ext) ⟨.int es.length,H,I.tok _,⟨_,by rw[ln]⟩,t.ret so _ rfl⟩
 ·rw[e0] at t
  cases er
  obtain⟨x,rfl,rx⟩:=D8 rd
  obtain⟨a,rfl,dc⟩:=D6 so ed rx
  obtain⟨u,rfl,ru⟩:=vals1 r
  cases ru
  obtain⟨xs',o,es,ep,h1,g⟩:=Hs I dc
  have ty:s.TypeIs (.ref a) "dict":=⟨o,g.at',g.ex.1⟩
  have ln:es.size=p.1.length:=by rw[DF g.en,Array.length_toList]
  have fit:((p.1.length:Nat):Int)<2 ^ 63:=by
   have:=(Pn dc).2.len
   rw[AH] at this
   ext
  have hM:MeetsIn X.prog X.w (Builtin.«dict.__len__» ⟨[.ref a],[]⟩) (λ_ R s=>s.heap.get? a=some o/\R (.ok (.ret (.int p.1.length s.toks))) {s with toks:=s.toks+1}):=.of_wp λA R s ⟨g0,h⟩=>by
   refine(?_:wpAny _ _ (dictSize a>>=_) _ _ s)
   unfold dictSize
   refine Aa (Aa (Bc g0 g.dt (Ab (?_:wpAny _ _ (Builtin.Dict.pendingCount a>>=_) _ _ s))))
   refine Aa (wpAny_pendingCount_other g.ns (wpAny_ret_mkInt ?_))
   rw[Nat.add_zero,ln]
   exact h
  (refine Calls.call_function_entry kind_len plain_len entry_len (args_len1 _) ?_)
  unfold Builtin.«len»
  refine Aa (m:=oneArg "len" _) (Ab (Aa (m:=callSpecial? (.ref a) (Str.ofString "__len__")) (AM (name:=Str.ofString "__len__") ty F.slot_dict_len (call_meetsIn F.slot_dict_len ty F.entry_dict_len (F.args_dict_len_1 _) hM ⟨g.at',?_⟩))))
  refine(?_:wpAny _ _ _ _ _ {s with toks:=s.toks+1})
  refine Aa (AG (Ab (Aa (wpAny_letGo (?_:wpAny _ _ (if ((p.1.length:Nat):Int)<0 then _ else _) _ _ _)))))
  rw[if_neg (by ext)]
  refine(?_:wpAny _ _ (if ((p.1.length:Nat):Int) >= 2 ^ 63 then _ else _) _ _ _)
  rw[if_neg (by ext)]
  exact Aa (wpAny_mkInt (Ab ⟨_,rfl,⟨.int p.1.length,H,I.tok _,⟨_,rfl⟩,t.ret so _ rfl⟩⟩))
def II:Fn:=λds mu=>match NS ds mu with|some r=>some r|none=>RP ds mu
def GD:CallV X (.builtin "len") II:=CallV.or Qx QI
def SF (mu:Sto):D->Option (List D)
 |.set es=>some es
 |d=>IM mu d
def M7:Fn:=λds mu=>match Gm ds with
 |some d=>match SF mu d with
  |some es=>if ES es=true then some (.lst (FF es),mu) else none
  |none=>none
 |none=>none
def T6 {ds:List D}{r:D×Sto}(h:M7 ds mu=some r):∃d es,ds=[d]/\SF mu d=some es/\ES es=true/\r=(.lst (FF es),mu):=by
 unfold M7 at h
 split at h
 ·rename_i d e
  split at h
  ·rename_i es e2
   split at h
   ·rename_i c;cases h;exact⟨d,es,GP e,e2,c,rfl⟩
   ·cases h
  ·cases h
 ·cases h
def OI {es fs:List D}(p:fs.Perm es)(h:ES es=true):ES fs=true:=by
 unfold ES L9 at *
 rw[Ai,Ai,Ai,AA,Bool.or_eq_true] at *
 simp only[AW] at *
 obtain⟨⟨⟨a,b⟩,c⟩,d⟩:=h
 exact⟨⟨⟨by rw[p.length_eq];exact a,λx hx=>b x (p.mem_iff.mp hx)⟩,λx hx y hy=>c x (p.mem_iff.mp hx) y (p.mem_iff.mp hy)⟩,d.imp (λz x hx=>z x (p.mem_iff.mp hx)) λz x hx=>z x (p.mem_iff.mp hx)⟩
def LO {es:List D}(h:ES es=true):∀d∈es,Fu d=true:=by
 unfold ES at h
 rw[Ai,Ai,Ai] at h
 exact AW.mp h.1.1.2
def Q0 (hu:X.A.units+64<cLine)(hc:X.calm=true):CallV X (.builtin "sorted") M7:=by
 intro pj s st H xs us Q I r h
 obtain⟨th,mu,ds,so,rd,t⟩:=h
 obtain⟨a0,mu0,e0,_⟩:=id t
 obtain⟨d,es,rfl,eg,ok,er⟩:=T6 e0
 rw[e0] at t
 cases er
 obtain⟨x,rfl,rx⟩:=D8 rd
 obtain⟨u,rfl,ru⟩:=vals1 r
 have fin:∀(fs:List D) (vs:List V) (zs:List Value) (h1:Heap) (tk:Nat) d',fs.Perm es->RepL X.z th H fs vs->Vals vs zs->(∀b o,s.heap.get? b=some o->h1.get? b=some o)->zs.length<=sizeLine/\∃Ok,Jt X.prog X.w X.A.in1.in1 zs Ok {s with heap:=h1,toks:=tk,drawn:=d'} /\
   ∀out h' e a,Ok out->(∀b o,h1.get? b=some o->h'.get? b=some o)->h1.objs.size<=a->h'.get? a=some (seqObj "list" out.toArray e)->EP X pj st Q (.ref a) {s with heap:=h',toks:=tk,drawn:=d'}:=λfs vs zs h1 tk d' p h2 rv hk=>by
  have I0:L2.Inv X pj st H {s with drawn:=d'}:=⟨I.ok,I.os,I.bare,I.base,I.loc,I.cell,I.free,I.freeC,I.pin,I.hok,I.len⟩
  have I1:L2.Inv X pj st H {s with heap:=h1,toks:=tk,drawn:=d'}:=I0.kept (t':=tk) hk
  have okf:=OI p ok
  have l64:fs.length<4096:=by
   unfold ES at okf
   rw[Ai,Ai,Ai,AA] at okf
   exact okf.1.1.1
  have lz:zs.length=fs.length:=by rw[<- rv.length,h2.len]
  have w3:=sorts hu I1 h2 rv okf
  rw[QK (LO ok) p] at w3
  have z64:4096<=sizeLine:=by rw[AH];decide
  have wl:(FF es).length<=sizeLine:=by rw[(D3 es).length_eq,<- p.length_eq];ext
  refine⟨by ext,_,w3,λout h' e a ⟨ws,w1,w2⟩ hk' ha he=>?_⟩
  have hp:H a=none:=I1.hok.fresh ha
  refine⟨.ref a,_,I1.laid (t':=tk) (o:=.lst ws) hk' ha ⟨by rw[w1.len];exact wl,out,e,w2,he⟩,rfl,?_⟩
  exact t.retX (.new hp _) (so.new hp _) _ (Rep.newLst so hp w1 wl)
 refine L1 ?_
 have seqc:∀(T:String) (a:Addr) (ob:Obj) (vs:List V) (zs:List Value) (n:Nat),(T="list"\/T="tuple")->s.heap.get? a=some ob->ob.cls=.type T->ob.data=.seq zs.toArray n->Vals vs zs->RepL X.z th H es vs->es.length<=sizeLine->wpAny (model X.prog X.w) X.A.in1 (collect (.ref a)) (λzs s1=>zs.length<=sizeLine/\∃Ok,Jt X.prog X.w X.A.in1.in1 zs Ok s1/\∀out h' e a,Ok out->(∀b o,s1.heap.get? b=some o->h'.get? b=some o)->s1.heap.objs.size<=a->h'.get? a=some (seqObj "list" out.toArray e)->EP X pj st Q (.ref a) {s1 with heap:=h'}) X.xe s:=λT a ob vs zs n hT g1 g2 g3 rv h2 hz=>by
  refine OY hT g1 g2 g3 ?_ (by rw[<- rv.length,h2.len];exact hz)
  refine fin es vs zs _ s.toks s.drawn (BD _) h2 rv λb o e=>?_
  have lt:=An e
  rw[Heap.get?_update_ne _ _ _ _ (Az lt),Heap.get?_push_ne _ _ _ (Az lt)]
  exact e
 have sq:IM mu d=some es->wpAny (model X.prog X.w) X.A.in1 (collect u) (λzs s1=>zs.length<=sizeLine/\∃Ok,Jt X.prog X.w X.A.in1.in1 zs Ok s1/\∀out h' e a,Ok out->(∀b o,s1.heap.get? b=some o->h'.get? b=some o)->s1.heap.objs.size<=a->h'.get? a=some (seqObj "list" out.toArray e)->EP X pj st Q (.ref a) {s1 with heap:=h'}) X.xe s:=λe2=>by
  obtain⟨a,vs,rfl,h1,h2,h3⟩:=JR so e2 rx
  cases ru
  rcases h1 with h1|⟨h1,_⟩
  ·obtain⟨its,rv,⟨o,n,g1,g2,_,g3⟩,_⟩:=I.list h1
   exact seqc "list" a o vs its n (.inl rfl) g1 g2 g3 rv h2 h3
  ·obtain⟨its,rv,⟨o,g1,g2,n,g3⟩,_⟩:=I.tuple h1
   exact seqc "tuple" a o vs its n (.inr rfl) g1 g2 g3 rv h2 h3
 unfold SF at eg
 split at eg
 ·cases eg
  unfold Rep at rx
  obtain⟨a,us',vs,rfl,_,h1,h2,h3,_⟩:=rx
  cases ru
  obtain⟨⟨o,tes,ep,tb,ho,hex,hd,sb,hf,hv,hw,_⟩,_⟩:=(show ObjOk X.prog X.w H s.heap a (YE X.w a us') from I.hok a _ h1)
  refine O4 (I.ok.hd hc) (fits_of_scanBound sb) ho hex.1 hd hf hw λzs h' tk d' pm hk=>?_
  obtain⟨ws,p1,r1⟩:=Vals.perm pm hv
  obtain⟨fs,p2,r2⟩:=RepL.perm (p1.trans (by have:=h2.map (·.2);rw[List.map_snd_zip (by rw[DP,Ak,h3.len];exact Ae _)] at this;exact this)) h3
  exact fin fs ws zs h' tk d' p2 r2 r1 hk
 ·exact sq eg
end
section
variable {prog:Program}{w:World}{A:Around}{E:Value->Zaa}{s:Shared}
def O8 {i t:Addr}{k:Nat}{its:Array Value}{x:Value}{Q:Value->Zaa}(g:s.heap.IsTupleIter i t k)(p:s.heap.IsTuple t its)(e:its[k]?=some x)
  (q:∀h',h'.IsTupleIter i t (k+1)->Heap.SameBut i s.heap h'->Q x {s with heap:=h'}):wpAny (model prog w) A (Builtin.SmallTypes.nextOf (.ref i)) Q E s:=by
 obtain⟨ob,g1,g2,g3⟩:=id g
 obtain⟨tb,p1,p2,n,p3⟩:=p
 (unfold Builtin.SmallTypes.nextOf)
 refine Aa (AM (name:=Str.ofString "__next__") g.typeIs Ck (AE Ck g.typeIs F.entry_tuple_iterator_next (?_:wpAny _ _ (field (.ref i) 0>>=_) _ _ _) (F.args_tuple_iterator_next_1 _)))
 refine Aa (Be g1 g3 (x:=.ref t) rfl (?_:wpAny _ _ (if (Value.ref t==Value.none)=true then _ else _) _ _ _))
 have nn:¬ ((Value.ref t==Value.none)=true):=AN
 rw[if_neg nn]
 refine Aa (m:=field (.ref i) 1) (Be g1 g3 (x:=.int k 0) rfl (?_:wpAny _ _ (seqItems? (.ref t)>>=_) _ _ _))
 refine Aa (Bz p1 p3 ?_)
 simp only[Int.toNat_natCast,e]
 refine Aa (Bm g1 g3 (by simp) (Ab ⟨x,rfl,Ab (q _ ⟨_,AJ _ g1 (Obj.isFreed_of_fields (Obj.data_mapFields g3 _)),(Obj.cls_mapFields ..).trans g2,?_⟩ (AD ..))⟩))
 rw[Obj.data_mapFields g3]
 simp[rawInt]
def Sa {i t:Addr}{k:Nat}{its:Array Value}{Q:Value->Zaa}(hh:A.handled=none)(g:s.heap.IsTupleIter i t k)(p:s.heap.IsTuple t its)(e:its[k]?=none)
  (q:∀h' b,Heap.ExtBut i s.heap h'->(∃o,h'.get? b=some o/\o.cls=.type "StopIteration")->E (.ref b) {s with heap:=h'}):wpAny (model prog w) A (Builtin.SmallTypes.nextOf (.ref i)) Q E s:=by
 obtain⟨ob,g1,g2,g3⟩:=id g
 obtain⟨tb,p1,p2,n,p3⟩:=p
 (unfold Builtin.SmallTypes.nextOf)
 refine Aa (AM (name:=Str.ofString "__next__") g.typeIs Ck (AE Ck g.typeIs F.entry_tuple_iterator_next (?_:wpAny _ _ (field (.ref i) 0>>=_) _ _ _) (F.args_tuple_iterator_next_1 _)))
 refine Aa (Be g1 g3 (x:=.ref t) rfl (?_:wpAny _ _ (if (Value.ref t==Value.none)=true then _ else _) _ _ _))
 have nn:¬ ((Value.ref t==Value.none)=true):=AN
 rw[if_neg nn]
 refine Aa (m:=field (.ref i) 1) (Be g1 g3 (x:=.int k 0) rfl (?_:wpAny _ _ (seqItems? (.ref t)>>=_) _ _ _))
 refine Aa (Bz p1 p3 ?_)
 simp only[Int.toNat_natCast,e]
 refine Aa (A7 (Aa (Bm g1 g3 (by simp) (?_:wpAny _ _ (newExc (.type "StopIteration") []>>=_) _ _ _))))
 refine Aa ?_
 simp only[newExc,newTuple]
 refine Aa (AX (Aa (m:=firstArgMember _ _) (wpAny_of_eq (a:=Value.none) (by first|rfl|(simp only[firstArgMember];rfl)) (AX ?_ (by size_fits)))) (by size_fits))
 simp only[raiseNew]
 refine Aa (wpAny_handled ?_)
 first|rw[show A.in1.handled=none from hh]|rw[hh]
 exact Aa (Ab (wpAny_throw (q _ _ (((AD ..).extBut.push _).push _) ⟨_,Ag _ rfl,rfl⟩)))
def zTu (z TI TO i1 i2 l1 l2:Addr)(k:Nat)(h:Heap):Prop:=
 IsZip h z TI TO .none/\IsPair h TI (.ref i1) (.ref i2)/\(∃a b,IsPair h TO a b)/\h.IsTupleIter i1 l1 k/\h.IsTupleIter i2 l2 k
def T1 {z TI TO i1 i2 l1 l2:Addr}{k:Nat}{xs ys:Array Value}{x y:Value}{Q:Value->Zaa}(D:ZipApart z TI TO i1 i2 l1 l2)(g:zTu z TI TO i1 i2 l1 l2 k s.heap)
  (p1:s.heap.IsTuple l1 xs) (p2:s.heap.IsTuple l2 ys) (ex:xs[k]?=some x) (ey:ys[k]?=some y)
  (q:∀h',IsZip h' z TI TO (rawInt s.heap.objs.size)->IsPair h' TO x y->h'.IsTupleIter i1 l1 (k+1)->h'.IsTupleIter i2 l2 (k+1)->IsPair h' s.heap.objs.size x y ->
   (∀c o,c≠z->c≠TO->c≠i1->c≠i2->s.heap.get? c=some o->h'.get? c=some o)->Q (.ref s.heap.objs.size) {s with heap:=h'}) :
  wpAny (model prog w) A (Builtin.«zip.__next__» ⟨[.ref z],[]⟩) (λfin s'=>∃v,fin=.done (.ret v)/\Q v s') E s:=by
 obtain⟨g1,g2,⟨a,b,g3⟩,g4,g5⟩:=g
 refine(?_:wpAny _ _ (field (.ref z) 2>>=_) _ _ _)
 refine Aa (Be g1 rfl (x:=.bool false) rfl (?_:wpAny _ _ (field (.ref z) 3>>=_) _ _ _))
 refine Aa (Be g1 rfl (x:=.ref TI) rfl (Aa (Bz g2 rfl (?_:wpAny _ _ (Builtin.SmallTypes.ownedTupleIsFree (.ref z)>>=_) _ _ _))))
 refine Aa ?_
 (unfold Builtin.SmallTypes.ownedTupleIsFree)
 refine Aa (Be g1 rfl (x:=.none) rfl (Ab ?_))
 simp only[if_true]
 refine Aa (A7 (Aa (Be g1 rfl (x:=.ref TO) rfl (Aa (Bs g1 (by simp) λq1 z1 b1=>?_)))))
 replace z1:IsZip q1 z TI TO .ellipsis:=z1
 refine Aa ?_
 simp only[List.zipIdx_cons,List.zipIdx_nil,List.forIn_cons,List.forIn_nil]
 refine Aa (Aa (wpAny_onRaise (?_:wpAny _ _ (Builtin.SmallTypes.nextOf (.ref i1)>>=_) _ _ _)))
 refine Aa (O8 (g4.extBut b1.extBut D.i1z) (p1.extBut b1.extBut D.l1z) ex λq2 n1 b2=>Ab ?_)
 have o2:IsPair q2 TO a b:=b2.extBut _ _ D.TOi1 (b1.extBut _ _ D.TOz g3)
 refine Aa (Bz o2 rfl (Aa (wpAny_updateSeq_pair o2 λq3 o3 b3=>Aa (wpAny_letGo (Ab ?_)))))
 replace o3:IsPair q3 TO x b:=o3
 refine Aa (Aa (wpAny_onRaise (?_:wpAny _ _ (Builtin.SmallTypes.nextOf (.ref i2)>>=_) _ _ _)))
 refine Aa (O8 (((g5.extBut b1.extBut D.i2z).extBut b2.extBut D.i12.symm).extBut b3.extBut D.TOi2.symm) (((p2.extBut b1.extBut D.l2z).extBut b2.extBut D.l2i1).extBut b3.extBut D.l2TO) ey λq4 n2 b4=>Ab ?_)
 have o4:IsPair q4 TO x b:=b4.extBut _ _ D.TOi2 o3
 refine Aa (Bz o4 rfl (Aa (wpAny_updateSeq_pair o4 λq5 o5 b5=>Aa (wpAny_letGo (Ab (Ab ?_))))))
 replace o5:IsPair q5 TO x y:=o5
 refine Aa (Bz o5 rfl (Aa (wpAny_newTuple ?_)))
 have sz:q5.objs.size=s.heap.objs.size:=by rw[b5.1,b4.1,b3.1,b2.1,b1.1]
 have z5:IsZip q5 z TI TO .ellipsis:=b5.extBut _ _ D.TOz.symm (b4.extBut _ _ D.i2z.symm (b3.extBut _ _ D.TOz.symm (b2.extBut _ _ D.i1z.symm z1)))
 have k5:∀c o,c≠z->c≠TO->c≠i1->c≠i2->s.heap.get? c=some o->q5.get? c=some o:=λc o d1 d2 d3 d4 e=>b5.extBut _ _ d2 (b4.extBut _ _ d4 (b3.extBut _ _ d2 (b2.extBut _ _ d3 (b1.extBut _ _ d1 e))))
 have m1:q5.IsTupleIter i1 l1 (k+1):=((n1.extBut b3.extBut D.TOi1.symm).extBut b4.extBut D.i12).extBut b5.extBut D.TOi1.symm
 have m2:q5.IsTupleIter i2 l2 (k+1):=n2.extBut b5.extBut D.TOi2.symm
 have zl:q5.objs.size≠z:=BL (An z5)
 refine(?_:wpAny _ _ (Builtin.SmallTypes.ownedTupleHandOut (.ref z) (.ref q5.objs.size)>>=_) _ _ _)
 refine Aa ?_
 (unfold Builtin.SmallTypes.ownedTupleHandOut)
 have z6:IsZip (q5.push {cls:=.type "tuple",data:=.seq #[x,y]}) z TI TO .ellipsis:=Ac _ z5
 refine Aa (Bs z6 (by simp) λq7 z7 b7=>?_)
 replace z7:IsZip q7 z TI TO (rawInt q5.objs.size):=z7
 refine Bs z7 (by simp) λq8 z8 b8=>?_
 replace z8:IsZip q8 z TI TO (rawInt q5.objs.size):=z8
 have up:∀c o,c≠z->q5.get? c=some o->q8.get? c=some o:=λc o d e=>b8.extBut _ _ d (b7.extBut _ _ d (Ac _ e))
 have nw:IsPair q8 q5.objs.size x y:=b8.extBut _ _ zl (b7.extBut _ _ zl (Ag _ rfl))
 rw[sz] at z8 nw
 refine Ab ⟨_,rfl,?_⟩
 rw[sz]
 exact q q8 z8 (up _ _ D.TOz o5) (m1.at λo e=>up _ o D.i1z e) (m2.at λo e=>up _ o D.i2z e) nw λc o d1 d2 d3 d4 e=>up c o d1 (k5 c o d1 d2 d3 d4 e)
theorem TV {z TI TO i1 i2 l1 l2:Addr}{k:Nat}{xs ys:Array Value}{Q:PySem.Fin->Zaa}(hh:A.handled=none)(D:ZipApart z TI TO i1 i2 l1 l2)(g:zTu z TI TO i1 i2 l1 l2 k s.heap)
  (p1:s.heap.IsTuple l1 xs) (p2:s.heap.IsTuple l2 ys) (en:xs[k]?=none\/ys[k]?=none)
  (q:∀h' e,(∀c o,c≠z->c≠TO->c≠i1->c≠i2->s.heap.get? c=some o->h'.get? c=some o)->(∃o,h'.get? e=some o/\o.cls=.type "StopIteration")->E (.ref e) {s with heap:=h'}) :
  wpAny (model prog w) A (Builtin.«zip.__next__» ⟨[.ref z],[]⟩) Q E s:=by
 obtain⟨g1,g2,⟨a,b,g3⟩,g4,g5⟩:=g
 refine(?_:wpAny _ _ (field (.ref z) 2>>=_) _ _ _)
 refine Aa (Be g1 rfl (x:=.bool false) rfl (?_:wpAny _ _ (field (.ref z) 3>>=_) _ _ _))
 refine Aa (Be g1 rfl (x:=.ref TI) rfl (Aa (Bz g2 rfl (?_:wpAny _ _ (Builtin.SmallTypes.ownedTupleIsFree (.ref z)>>=_) _ _ _))))
 refine Aa ?_
 (unfold Builtin.SmallTypes.ownedTupleIsFree)
 refine Aa (Be g1 rfl (x:=.none) rfl (Ab ?_))
 simp only[if_true]
 refine Aa (A7 (Aa (Be g1 rfl (x:=.ref TO) rfl (Aa (Bs g1 (by simp) λq1 z1 b1=>?_)))))
 replace z1:IsZip q1 z TI TO .ellipsis:=z1
 refine Aa ?_
 simp only[List.zipIdx_cons,List.zipIdx_nil,List.forIn_cons,List.forIn_nil]
 refine Aa (Aa (wpAny_onRaise (?_:wpAny _ _ (Builtin.SmallTypes.nextOf (.ref i1)>>=_) _ _ _)))
 cases ex:xs[k]? with
 |none =>
  refine Aa (Sa hh (g4.extBut b1.extBut D.i1z) (p1.extBut b1.extBut D.l1z) ex λq2 e b2 he=>?_)
  obtain⟨oe,he1,he2⟩:=he
  have z2:IsZip q2 z TI TO .ellipsis:=b2 _ _ D.i1z.symm z1
  have ne:e≠z:=λu=>by subst u;rw[z2] at he1;cases he1;simp at he2
  exact Bs z2 (by simp) λq3 _ b3=>q q3 e (λc o d1 _ d3 _ u=>b3.extBut _ _ d1 (b2 _ _ d3 (b1.extBut _ _ d1 u))) ⟨oe,b3.extBut _ _ ne he1,he2⟩
 |some x =>
  have ey:ys[k]?=none:=en.resolve_left λu=>by rw[ex] at u;cases u
  refine Aa (O8 (g4.extBut b1.extBut D.i1z) (p1.extBut b1.extBut D.l1z) ex λq2 n1 b2=>Ab ?_)
  have o2:IsPair q2 TO a b:=b2.extBut _ _ D.TOi1 (b1.extBut _ _ D.TOz g3)
  refine Aa (Bz o2 rfl (Aa (wpAny_updateSeq_pair o2 λq3 o3 b3=>Aa (wpAny_letGo (Ab ?_)))))
  refine Aa (Aa (wpAny_onRaise (?_:wpAny _ _ (Builtin.SmallTypes.nextOf (.ref i2)>>=_) _ _ _)))
  refine Aa (Sa hh (((g5.extBut b1.extBut D.i2z).extBut b2.extBut D.i12.symm).extBut b3.extBut D.TOi2.symm) (((p2.extBut b1.extBut D.l2z).extBut b2.extBut D.l2i1).extBut b3.extBut D.l2TO) ey λq4 e b4 he=>?_)
  obtain⟨oe,he1,he2⟩:=he
  have z4:IsZip q4 z TI TO .ellipsis:=b4 _ _ D.i2z.symm (b3.extBut _ _ D.TOz.symm (b2.extBut _ _ D.i1z.symm z1))
  have ne:e≠z:=λu=>by subst u;rw[z4] at he1;cases he1;simp at he2
  exact Bs z4 (by simp) λq5 _ b5=>q q5 e (λc o d1 d2 d3 d4 u=>b5.extBut _ _ d1 (b4 _ _ d4 (b3.extBut _ _ d2 (b2.extBut _ _ d3 (b1.extBut _ _ d1 u))))) ⟨oe,b5.extBut _ _ ne he1,he2⟩
def OT {z TI TO i1 i2 l1 l2:Addr}{k:Nat}{xs ys:Array Value}{x y:Value}{Q:Option Value->Zaa}(D:ZipApart z TI TO i1 i2 l1 l2)(g:zTu z TI TO i1 i2 l1 l2 k s.heap)
  (p1:s.heap.IsTuple l1 xs) (p2:s.heap.IsTuple l2 ys) (ex:xs[k]?=some x) (ey:ys[k]?=some y)
  (q:∀h',IsZip h' z TI TO (rawInt s.heap.objs.size)->IsPair h' TO x y->h'.IsTupleIter i1 l1 (k+1)->h'.IsTupleIter i2 l2 (k+1)->IsPair h' s.heap.objs.size x y ->
   (∀c o,c≠z->c≠TO->c≠i1->c≠i2->s.heap.get? c=some o->h'.get? c=some o)->Q (some (.ref s.heap.objs.size)) {s with heap:=h'}) :
  wpAny (model prog w) A (pyNext (.ref z)) Q E s:=by
 have ty:s.TypeIs (.ref z) "zip":=⟨_,g.1,rfl⟩
 unfold pyNext
 exact Aa (BN (AM (name:=Str.ofString "__next__") ty F.slot_zip_next (AE F.slot_zip_next ty F.entry_zip_next (T1 D g p1 p2 ex ey λh' a1 a2 a3 a4 a5 a6=>Ab (q h' a1 a2 a3 a4 a5 a6)) (F.args_zip_next_1 _))))
def Pg {z TI TO i1 i2 l1 l2:Addr}{k:Nat}{xs ys:Array Value}{Q:Option Value->Zaa}(hh:A.handled=none)(D:ZipApart z TI TO i1 i2 l1 l2)(g:zTu z TI TO i1 i2 l1 l2 k s.heap)
  (p1:s.heap.IsTuple l1 xs) (p2:s.heap.IsTuple l2 ys) (en:xs[k]?=none\/ys[k]?=none)
  (q:∀h',(∀c o,c≠z->c≠TO->c≠i1->c≠i2->s.heap.get? c=some o->h'.get? c=some o)->Q none {s with heap:=h'}):wpAny (model prog w) A (pyNext (.ref z)) Q E s:=by
 have ty:s.TypeIs (.ref z) "zip":=⟨_,g.1,rfl⟩
 unfold pyNext
 refine Aa (BN (AM (name:=Str.ofString "__next__") ty F.slot_zip_next (AE F.slot_zip_next ty F.entry_zip_next (TV hh D g p1 p2 en λh' e hk he=>?_) (F.args_zip_next_1 _))))
 obtain⟨o,ho,hc⟩:=he
 exact Aa (BH (T:="StopIteration") (b:=true) ⟨o,ho,hc⟩ isSubtype_stop (Ab (q _ hk)))
end
abbrev zu1 (h:Heap) (l1:Addr):Heap:=h.push {cls:=.type "tuple_iterator",data:=.fields #[.ref l1,.int 0 0]}
abbrev zu2 (h:Heap) (l1 l2:Addr):Heap:=(zu1 h l1).push {cls:=.type "tuple_iterator",data:=.fields #[.ref l2,.int 0 0]}
abbrev zu3 (h:Heap) (l1 l2:Addr):Heap:=(zu2 h l1 l2).push {cls:=.type "tuple",data:=.seq #[.ref h.objs.size,.ref (zu1 h l1).objs.size]}
abbrev zu4 (h:Heap) (l1 l2:Addr):Heap:=(zu3 h l1 l2).push {cls:=.type "tuple",data:=.seq #[.none,.none]}
abbrev zu5 (h:Heap) (l1 l2:Addr):Heap:=(zu4 h l1 l2).push {cls:=.type "zip",data:=.fields #[.none,.bool false,.bool false,.ref (zu2 h l1 l2).objs.size,.ref (zu3 h l1 l2).objs.size]}
def W7 (l1 l2:Addr)(xs ys:Array Value):Meets (Builtin.«zip.__new__» ⟨[.type "zip",.ref l1,.ref l2],[]⟩) (λ_ R s=>s.heap.IsTuple l1 xs/\s.heap.IsTuple l2 ys/\R (.ok (.ret (.ref (zu4 s.heap l1 l2).objs.size))) {s with heap:=zu5 s.heap l1 l2}):=
 .of_wp λprog w A R s h=>by
  obtain⟨hp,gn,dr,tk,os⟩:=s
  obtain⟨t1,t2,h⟩:=h
  have hsub:=sub_zip
  have u1:Heap.IsTuple (Shared.heap ⟨hp,gn,dr,tk,os⟩) l1 xs:=t1
  have u2:Heap.IsTuple (Shared.heap ⟨hp.push {cls:=.type "tuple_iterator",data:=.fields #[.ref l1,.int 0 0]},gn,dr,tk,os⟩) l2 ys:=Heap.IsTuple.push t2 _
  wp_walk using wpAny_pyIter_tuple u1,wpAny_pyIter_tuple u2
  exact⟨_,rfl,h⟩
def Vk {prog:Program}{w:World}{A:Around}{E:Value->Zaa}{s:Shared}{l1 l2:Addr}{xs ys:Array Value}{Q:Value->Zaa}(p1:s.heap.IsTuple l1 xs)(p2:s.heap.IsTuple l2 ys)
  (q:∀h',zTu (s.heap.objs.size+4) (s.heap.objs.size+2) (s.heap.objs.size+3) s.heap.objs.size (s.heap.objs.size+1) l1 l2 0 h'->(∀c o,s.heap.get? c=some o->h'.get? c=some o)->Q (.ref (s.heap.objs.size+4)) {s with heap:=h'}) :
  wpAny (model prog w) A (call (.type "zip") [.ref l1,.ref l2]) Q E s:=by
 refine callType_new F.called_zip (by decide) (F.typeCall_zip_2 _ _) (F.newCall_zip_2 _ _) (λobj=>F.args_object_init_3 obj _ _) F.entry_zip_new (W7 l1 l2 xs ys) ⟨p1,p2,?_⟩
 have n1:(zu1 s.heap l1).objs.size=s.heap.objs.size+1:=Bn ..
 have n2:(zu2 s.heap l1 l2).objs.size=s.heap.objs.size+2:=by rw[Bn,n1]
 have n3:(zu3 s.heap l1 l2).objs.size=s.heap.objs.size+3:=by rw[Bn,n2]
 have n4:(zu4 s.heap l1 l2).objs.size=s.heap.objs.size+4:=by rw[Bn,n3]
 have e5:(zu5 s.heap l1 l2).get? (zu4 s.heap l1 l2).objs.size=some _:=Ag _ rfl
 have e4:(zu4 s.heap l1 l2).get? (zu3 s.heap l1 l2).objs.size=some _:=Ag _ rfl
 have e3:(zu3 s.heap l1 l2).get? (zu2 s.heap l1 l2).objs.size=some _:=Ag _ rfl
 have e2:(zu2 s.heap l1 l2).get? (zu1 s.heap l1).objs.size=some _:=Ag _ rfl
 have e1:(zu1 s.heap l1).get? s.heap.objs.size=some _:=Ag _ rfl
 have w5:∀c o,(zu4 s.heap l1 l2).get? c=some o->(zu5 s.heap l1 l2).get? c=some o:=λc o e=>Ac _ e
 have w4:∀c o,(zu3 s.heap l1 l2).get? c=some o->(zu5 s.heap l1 l2).get? c=some o:=λc o e=>w5 c o (Ac _ e)
 have w3:∀c o,(zu2 s.heap l1 l2).get? c=some o->(zu5 s.heap l1 l2).get? c=some o:=λc o e=>w4 c o (Ac _ e)
 have w2:∀c o,(zu1 s.heap l1).get? c=some o->(zu5 s.heap l1 l2).get? c=some o:=λc o e=>w3 c o (Ac _ e)
 have w1:∀c o,s.heap.get? c=some o->(zu5 s.heap l1 l2).get? c=some o:=λc o e=>w2 c o (Ac _ e)
 have f4:=w5 _ _ e4
 have f3:=w4 _ _ e3
 have f2:=w3 _ _ e2
 have f1:=w2 _ _ e1
 refine(?_:_/\_)
 rw[n2,n3,n4] at e5
 rw[n1,n2] at f3
 rw[n3] at f4
 rw[n1] at f2
 rw[n4]
 exact⟨⟨_,e5,rfl⟩,q _ ⟨e5,f3,⟨_,_,f4⟩,⟨_,f1,rfl,rfl⟩,⟨_,f2,rfl,rfl⟩⟩ w1⟩
def Zk (K:W.Frag)(a b:Addr):It:=
 ⟨λi H=>∃xs ys x y,SqT K H a xs/\SqT K H b ys/\xs[i]?=some x/\ys[i]?=some y,
  λi H v H'=>∃T x y,v=.ref T/\H T=none/\H'=upd H T (.tup [x,y])/\(∀xs,SqT K H a xs->xs[i]?=some x)/\∀ys,SqT K H b ys->ys[i]?=some y,
  λi H=>∃xs ys,SqT K H a xs/\SqT K H b ys/\(xs.length<=i\/ys.length<=i)⟩
def Rc {P:Program}{w:World}{K:W.Frag}{elts:List Expr}{k:Nat}{pos:Pos}(z TI TO i1 i2 l1 l2:Addr)(D:ZipApart z TI TO i1 i2 l1 l2) :
  Turn P w K (.Tuple elts k pos) (Zk K l1 l2) [z,TI,TO,i1,i2] z (zTu z TI TO i1 i2 l1 l2) where
 mem:=by simp
 obj:=λi h st b hb=>by
  obtain⟨h1,h2,⟨_,_,h3⟩,⟨o4,h4,_,d4⟩,⟨o5,h5,_,d5⟩⟩:=st
  have hb':b=z\/b=TI\/b=TO\/b=i1\/b=i2:=by simpa using hb
  rcases hb' with e|e|e|e|e<;>subst e
  ·exact⟨_,h1,λv e=>by cases e⟩
  ·exact⟨_,h2,λv e=>by cases e⟩
  ·exact⟨_,h3,λv e=>by cases e⟩
  ·exact⟨_,h4,λv e=>by rw[d4] at e;cases e⟩
  ·exact⟨_,h5,λv e=>by rw[d5] at e;cases e⟩
 keep:=λi h h' st kk=>by
  obtain⟨h1,h2,⟨a,b,h3⟩,h4,h5⟩:=st
  exact⟨kk z (by simp) _ h1,kk TI (by simp) _ h2,⟨a,b,kk TO (by simp) _ h3⟩,h4.at λo e=>kk i1 (by simp) o e,h5.at λo e=>kk i2 (by simp) o e⟩
 item:=by
  intro X hP hw hK hc i pj s σ H E I hf st hg
  subst hP hw hK
  obtain⟨xs,ys,x,y,hq1,hq2,hx,hy⟩:=hg
  obtain⟨its1,rv1,p1,hz1⟩:=I.tuple hq1
  obtain⟨its2,rv2,p2,hz2⟩:=I.tuple hq2
  obtain⟨u1,hu1,ru1⟩:=rv1.get hx
  obtain⟨u2,hu2,ru2⟩:=rv2.get hy
  obtain⟨h1,h2,⟨a,b,h3⟩,h4,h5⟩:=st
  have D':=D
  refine OT D ⟨h1,h2,⟨a,b,h3⟩,h4,h5⟩ (show s.heap.IsTuple l1 its1.toArray from p1) (show s.heap.IsTuple l2 its2.toArray from p2) (x:=u1) (y:=u2) (by simpa using hu1) (by simpa using hu2) λh' a1 a2 a3 a4 a5 hk=>?_
  have lt:∀{c:Addr}{o:Obj},s.heap.get? c=some o->c≠s.heap.objs.size:=λe=>Az (An e)
  refine⟨_,rfl,wpAny_letOwnedTupleGo_zip a1 λh'' b1 sb=>?_⟩
  have nT:s.heap.objs.size≠z:=Ne.symm (lt h1)
  have kk:∀b o,b∉[z,TI,TO,i1,i2]->s.heap.get? b=some o->h''.get? b=some o:=λb o hb e=>by
   simp only[Ao,Ax,Ba,not_or] at hb
   exact(sb.2 b hb.1).trans (hk b o hb.1 hb.2.2.1 hb.2.2.2.1 hb.2.2.2.2 e)
  have I1:Inv X pj σ H {s with heap:=h'',toks:=s.toks}:=I.turnedL kk hf
  have hn:H s.heap.objs.size=none:=I.hok.fresh (Ae _)
  have fT:HS X pj H s.heap.objs.size:=I.fpOk (Ae _) hn
  have I2:Inv X pj σ (upd H s.heap.objs.size (.tup [x,y])) {s with heap:=h'',toks:=s.toks}:=I1.lay fT I.sz
   ⟨⟨by show 2<=sizeLine;decide,_,(sb.2 _ nT).trans a5,rfl⟩,[u1,u2],.cons ru1 (.cons ru2 .nil),⟨_,(sb.2 _ nT).trans a5,rfl,_,rfl⟩⟩
  refine⟨.ref s.heap.objs.size,_,I2,rfl,⟨_,x,y,rfl,hn,rfl,λxs' hx'=>by rw[I.tuple_inj hx' hq1];exact hx,λys' hy'=>by rw[I.tuple_inj hy' hq2];exact hy⟩,?_,λb hb=>?_⟩
  ·exact⟨b1,(sb.2 _ D.TIz).trans (hk _ _ D.TIz D.TITO D.TIi1 D.TIi2 h2),⟨_,_,(sb.2 _ D.TOz).trans a2⟩,a3.at λo e=>(sb.2 _ D.i1z).trans e,a4.at λo e=>(sb.2 _ D.i2z).trans e⟩
  ·have hb':b=z\/b=TI\/b=TO\/b=i1\/b=i2:=by simpa using hb
   have ne:b≠s.heap.objs.size:=by
    obtain⟨o4,e4,_⟩:=h4
    obtain⟨o5,e5,_⟩:=h5
    rcases hb' with e|e|e|e|e<;>subst e
    ·exact lt h1
    ·exact lt h2
    ·exact lt h3
    ·exact lt e4
    ·exact lt e5
   rw[Df ne]
   exact(hf b hb).1
 done:=by
  intro X hP hw hK hc i pj s σ H E I hf st hg
  subst hP hw hK
  obtain⟨xs,ys,hq1,hq2,hend⟩:=hg
  obtain⟨its1,rv1,p1,hz1⟩:=I.tuple hq1
  obtain⟨its2,rv2,p2,hz2⟩:=I.tuple hq2
  obtain⟨h1,h2,⟨a,b,h3⟩,h4,h5⟩:=st
  have n1:=rv1.length
  have n2:=rv2.length
  refine Pg (I.ok.hd hc) D ⟨h1,h2,⟨a,b,h3⟩,h4,h5⟩ (show s.heap.IsTuple l1 its1.toArray from p1) (show s.heap.IsTuple l2 its2.toArray from p2) (by
   rcases hend with e|e
   ·exact .inl (by simp;ext)
   ·exact .inr (by simp;ext)) λh' hk=>⟨rfl,I.turnedL (t':=s.toks) (λb o hb e=>?_) hf⟩
  simp only[Ao,Ax,Ba,not_or] at hb
  exact hk b o hb.1 hb.2.2.1 hb.2.2.2.1 hb.2.2.2.2 e
 self:=λA i s Q E st h=>wpAny_pyIter_zip st.1 h
def Zv (K:W.Frag)(ta:TA):TI:=fun σ H R=>ta σ H λvs H1=>∃a b,vs=[.ref a,.ref b]/\(∃xs,SqT K H1 a xs)/\(∃ys,SqT K H1 b ys)/\R (Zk K a b) H1
def UP {X:Cx}{a b:Expr}{ta:TA}{p pos:Pos}{elts:List Expr}{k:Nat}{tp:Pos}(hg:Gl X "zip")(hm:X.mg "zip"=none)(hz:bootBuiltins "zip"=some (.type "zip"))(ha:PA X [a,b] ta)(hs:starEach [a,b] X.env=[(false,eval a X.env),(false,eval b X.env)]:=by rfl)(hs2:starEach [b] X.env=[(false,eval b X.env)]:=by rfl) :
  PI X (.Tuple elts k tp) (.Call (.Name "zip" p) [a,b] [] pos) (Zv X.K ta):=by
 intro pj s σ H R I h
 refine Call_ (Lp I hg hm hz (Cg (thn (ha pos pj s σ H _ I h) λus s1 ⟨vs,H1,I1,r1,q1⟩=>?_) (by rw[hs,hs2]) (by rw[hs2];rfl)))
 obtain⟨a1,a2,e,⟨xs,hx⟩,⟨ys,hy⟩,q⟩:=q1
 subst e
 obtain⟨u1,u2,rfl,ra,rb⟩:=vals2 r1
 cases ra
 cases rb
 obtain⟨its1,rv1,p1,_⟩:=I1.tuple hx
 obtain⟨its2,rv2,p2,_⟩:=I1.tuple hy
 have lt1:a1<s1.heap.objs.size:=by obtain⟨o,e,_⟩:=p1;exact An e
 have lt2:a2<s1.heap.objs.size:=by obtain⟨o,e,_⟩:=p2;exact An e
 refine Vk (show s1.heap.IsTuple a1 its1.toArray from p1) (show s1.heap.IsTuple a2 its2.toArray from p2) λh' zt hk=>?_
 refine wpAny_pyIter_zip zt.1 ?_
 refine⟨s1.heap.objs.size+4,[s1.heap.objs.size+4,s1.heap.objs.size+2,s1.heap.objs.size+3,s1.heap.objs.size,s1.heap.objs.size+1],_,_,H1,rfl,I1.kept (t':=s1.toks) λb o e=>hk b o e,
  Rc _ _ _ _ _ a1 a2 ?_,zt,λb hb=>?_,q⟩
 ·exact NR _ _ _ lt1 lt2
 ·have hle:s1.heap.objs.size<=b:=by
   have hb':b=s1.heap.objs.size+4\/b=s1.heap.objs.size+2\/b=s1.heap.objs.size+3\/b=s1.heap.objs.size\/b=s1.heap.objs.size+1:=by simpa using hb
   rcases hb' with rfl|rfl|rfl|rfl|rfl<;>simp
  exact I1.fpOk hle (I1.hok.fresh hle)
section
variable {X:Cx}{K:Zc}{th:List Addr}{mu:Sto}{H:Hp}
def Qt (ds:List D):Option (List D×List D):=match ds with
 |[.tup xs,.tup ys]=>some (xs,ys)
 |_=>none
def So {ds:List D}{p:List D×List D}(h:Qt ds=some p):ds=[.tup p.1,.tup p.2]:=by
 unfold Qt at h
 split at h
 ·cases h;rfl
 ·cases h
def XB (a:Exs):Ix:=λro mu=>bM (a ro mu) λds m1=>(Qt ds).map λp=>((HQ p.1 p.2,none),m1)
theorem Rx {a b:Expr}{m:Exs}{p pos:Pos}{elts:List Expr}{k:Nat}{tp:Pos}(hm:X.mg "zip"=none)(ha:SVA X [a,b] m)(hg:Gl X "zip":=by rfl)(hs:starEach [a,b] X.env=[(false,eval a X.env),(false,eval b X.env)]:=by rfl)(hs2:starEach [b] X.env=[(false,eval b X.env)]:=by rfl) :
  SVI X (.Tuple elts k tp) (.Call (.Name "zip" p) [a,b] [] pos) (XB m):=⟨PI.weak (UP hg hm PyProof.Rows.boot_zip ha.1 hs hs2) λst H R h=>by
 obtain⟨th,mu,ro,so,en,t⟩:=h
 refine⟨th,mu,ro,so,en,t.bind.mono λds th1 mu1 H1 e1 s1 t1 vs rvs=>?_⟩
 cases q:Qt ds with
 |none=>rw[q] at t1;exact t1.no.elim
 |some pr =>
  rw[q] at t1
  rw[So q] at rvs
  obtain⟨xs,ys⟩:=pr
  obtain⟨x,y,rfl,rx,ry⟩:=HB rvs
  unfold Rep at rx ry
  obtain⟨a1,us,rfl,h1,l1,z1⟩:=rx
  obtain⟨a2,ws,rfl,h2,l2,z2⟩:=ry
  refine⟨a1,a2,rfl,⟨us,h1⟩,⟨ws,h2⟩,t1.ret s1 _ ⟨?_,λth' mu' H' e s' go i d ed=>?_,λth' mu' H' e s' go=>?_⟩⟩
  ·show(HQ xs ys).length<=sizeLine
   unfold HQ
   rw[Ak,List.length_zip]
   exact AO (Nat.min_le_left _ _) z1
  ·have g1:=e.sqT s1.out h1
   have g2:=e.sqT s1.out h2
   have ed':(HQ xs ys)[i]?=some d:=ed
   unfold HQ at ed'
   rw[Am] at ed'
   cases q3:(xs.zip ys)[i]? with
   |none=>rw[q3] at ed';cases ed'
   |some pq =>
    rw[q3] at ed'
    have hd:D.tup [pq.1,pq.2]=d:=by simpa using ed'
    subst hd
    obtain⟨hx,hy⟩:=List.getElem?_zip_eq_some.mp q3
    obtain⟨v1,ev1,rv1⟩:=(l1.ext e s1.out).get hx
    obtain⟨v2,ev2,rv2⟩:=(l2.ext e s1.out).get hy
    refine⟨⟨us,ws,v1,v2,g1,g2,ev1,ev2⟩,λv H2 y=>?_⟩
    obtain⟨T,x',y',rfl,hT,rfl,f1,f2⟩:=y
    have ex:=f1 us g1
    have ey:=f2 ws g2
    rw[ev1] at ex
    rw[ev2] at ey
    cases ex
    cases ey
    exact⟨.new hT _,s'.new hT _,Rep.newTup s' hT (.cons rv1 (.cons rv2 .nil)) (by show 2<=sizeLine;decide)⟩
  ·have g1:=e.sqT s1.out h1
   have g2:=e.sqT s1.out h2
   refine⟨us,ws,g1,g2,?_⟩
   show us.length<=(HQ xs ys).length\/ws.length<=(HQ xs ys).length
   unfold HQ
   rw[Ak,List.length_zip,l1.len,l2.len]
   dsimp only
   ext⟩
def orI (m m':Ix):Ix:=λro mu=>match m ro mu with|some r=>some r|none=>m' ro mu
theorem SVI.or {tg e:Expr}{m m':Ix}(h:SVI X tg e m)(h':SVI X tg e m'):SVI X tg e (orI m m'):=⟨λpj s st H R I q=>by
 obtain⟨th,mu,ro,so,en,t⟩:=q
 unfold orI at t
 cases c:m ro mu with
 |some p =>
  refine h.r pj s st H R I ⟨th,mu,ro,so,en,?_⟩
  rw[c];simpa only[c] using t
 |none =>
  refine h'.r pj s st H R I ⟨th,mu,ro,so,en,?_⟩
  simpa only[c] using t⟩
def Ri (a:Exs):Ix:=orI (iZp a) (XB a)
def NX {a b:Expr}{m:Exs}{p pos:Pos}{elts:List Expr}{k:Nat}{tp:Pos}(hm:X.mg "zip"=none)(ha:SVA X [a,b] m)(hg:Gl X "zip":=by rfl)(hs:starEach [a,b] X.env=[(false,eval a X.env),(false,eval b X.env)]:=by rfl)(hs2:starEach [b] X.env=[(false,eval b X.env)]:=by rfl) :
  SVI X (.Tuple elts k tp) (.Call (.Name "zip" p) [a,b] [] pos) (Ri m):=SVI.or (VE hm ha hg hs hs2) (Rx hm ha hg hs hs2)
end
mutual
def EG (n:Nat):D->Bool
 |.ref k=>decide (k<n)
 |.tup ds=>Ep n ds
 |.lst ds=>Ep n ds
 |.dct ks ds=>Ep n ks&&Ep n ds
 |.set ds=>Ep n ds
 |_=>true
def Ep (n:Nat):List D->Bool
 |[]=>true
 |d::ds=>EG n d&&Ep n ds
end
def Lw (n:Nat):MO->Bool
 |.lst ds=>Ep n ds
 |.dct ks ds=>Ep n ks&&Ep n ds
def JL (g:D->Option D):List D->Option (List D)
 |[]=>some []
 |d::ds=>match g d,JL g ds with
  |some d',some ds'=>some (d'::ds')
  |_,_=>none
def frz (n:Nat)(mu:Sto):Nat->D->Option D
 |0,d=>if EG n d=true then some d else none
 |f+1,d=>if EG n d=true then some d else match d with
  |.ref k=>match mu[k]? with
   |some (.lst ds)=>(JL (frz n mu f) ds).map .lst
   |some (.dct ks ds)=>if Ep n ks=true then (JL (frz n mu f) ds).map (.dct ks) else none
   |none=>none
  |.tup ds=>(JL (frz n mu f) ds).map .tup
  |.lst ds=>(JL (frz n mu f) ds).map .lst
  |_=>none
def JI (mu m1:Sto)(d:D):Rs D:=match frz mu.length m1 3 d with
 |some d'=>if (m1.take mu.length).all (Lw mu.length)=true then some (d',m1.take mu.length) else none
 |none=>none
def fnG (n:Nat)(m:Sx):Fn:=λds mu=>bM (m (ds.map some++List.replicate (n-ds.length) none) mu) λp m1=>match p.1 with
 |.rt d=>JI mu m1 d
 |.nx=>JI mu m1 .non
 |_=>none
section
variable {K:Zc}{th th1 more:List Addr}{H:Hp}{mu:Sto}
mutual
theorem MC (pre:th1=th++more):∀{d:D}{v:V},EG th.length d=true->Rep K th1 H d v->Rep K th H d v
 |.non,_,_,h=>h
 |.bl _,_,_,h=>h
 |.int _,_,_,h=>h
 |.str _,_,_,h=>h
 |.tup ds,_,l,h=>by
  unfold EG at l
  unfold Rep at h ⊢
  obtain⟨a,vs,q,h1,h2,z⟩:=h
  exact⟨a,vs,q,h1,Fb pre l h2,z⟩
 |.lst ds,_,l,h=>by
  unfold EG at l
  unfold Rep at h ⊢
  obtain⟨a,vs,q,h1,h2,z⟩:=h
  exact⟨a,vs,q,h1.imp (λw=>⟨λz=>w.1 (by rw[pre];exact A0 _ z),w.2⟩) id,Fb pre l h2,z⟩
 |.dct ks ds,_,l,h=>by
  unfold EG at l
  rw[Ai] at l
  unfold Rep at h ⊢
  obtain⟨a,xs,q,n,h1,h2,h3,h4,h5⟩:=h
  exact⟨a,xs,q,λz=>n (by rw[pre];exact A0 _ z),h1,h2,Fb pre l.1 h3,Fb pre l.2 h4,h5⟩
 |.set ds,_,l,h=>by
  unfold EG at l
  unfold Rep at h ⊢
  obtain⟨a,us,vs,q,n,h1,h2,h3,h4⟩:=h
  exact⟨a,us,vs,q,λz=>n (by rw[pre];exact A0 _ z),h1,h2,Fb pre l h3,h4⟩
 |.ref k,_,l,h=>by
  unfold EG at l
  rw[AA] at l
  unfold Rep at h ⊢
  obtain⟨a,q,h1⟩:=h
  rw[pre,Ap l] at h1
  exact⟨a,q,h1⟩
theorem Fb (pre:th1=th++more):∀{ds:List D}{vs:List V},Ep th.length ds=true->RepL K th1 H ds vs->RepL K th H ds vs
 |[],_,_,h=>by rw[h.inv0];exact .nil
 |d::ds,_,l,h=>by
  unfold Ep at l
  rw[Ai] at l
  obtain⟨v,r,rfl,h1,h2⟩:=h.inv
  exact .cons (MC pre l.1 h1) (Fb pre l.2 h2)
end
theorem Ia {g:D->Option D}(hg:∀d d' v,g d=some d'->Rep K th1 H d v->Rep K th H d' v):∀{ds ds':List D}{vs:List V},JL g ds=some ds'->RepL K th1 H ds vs->RepL K th H ds' vs/\ds'.length=ds.length
 |[],ds',vs,e,h=>by cases e;rw[h.inv0];exact⟨.nil,rfl⟩
 |d::ds,ds',vs,e,h=>by
  obtain⟨v,r,rfl,h1,h2⟩:=h.inv
  unfold JL at e
  split at e
  ·rename_i d2 ds2 e1 e2
   cases e
   obtain⟨a,b⟩:=Ia hg e2 h2
   exact⟨.cons (hg _ _ _ e1 h1) a,by simp[b]⟩
  ·cases e
theorem Qe (so:StoOk K th1 mu H)(pre:th1=th++more):∀(f:Nat) (d d':D) (v:V),frz th.length mu f d=some d'->Rep K th1 H d v->Rep K th H d' v
 |0,d,d',v,e,h=>by
  unfold frz at e
  split at e
  ·rename_i c;cases e;exact MC pre c h
  ·cases e
 |f+1,d,d',v,e,h=>by
  have ih:=Qe so pre f
  unfold frz at e
  split at e
  ·rename_i c;cases e;exact MC pre c h
  ·rename_i c
   have kp:∀{k:Nat}{a:Addr},¬ k<th.length->th1[k]?=some a->a∉th:=λ{k a} hk ha z=>by
    obtain⟨i,hi,ei⟩:=List.mem_iff_getElem.mp z
    have:th1[i]?=some a:=by rw[pre,Ap hi,Al hi,ei]
    have:=Wq so.nd this ha
    ext
   split at e
   ·rename_i k
    have hk:¬ k<th.length:=by unfold EG at c;simpa using c
    unfold Rep at h
    obtain⟨a,rfl,ha⟩:=h
    split at e
    ·rename_i ds em
     cases q:JL (frz th.length mu f) ds with
     |none=>rw[q] at e;cases e
     |some ds' =>
      rw[q] at e
      cases e
      obtain⟨vs,h1,h2,h3⟩:=so.at' k a _ ha em
      obtain⟨r1,r2⟩:=Ia ih q h2
      unfold Rep
      exact⟨a,vs,rfl,.inl ⟨kp hk ha,.inl h1⟩,r1,by rw[r2];exact h3⟩
    ·rename_i ks ds em
     split at e
     ·rename_i lk
      cases q:JL (frz th.length mu f) ds with
      |none=>rw[q] at e;cases e
      |some ds' =>
       rw[q] at e
       cases e
       obtain⟨xs,h1,h2,h3,h4,h5⟩:=so.at' k a _ ha em
       obtain⟨r1,r2⟩:=Ia ih q h4
       unfold Rep
       exact⟨a,xs,rfl,kp hk ha,h1,h2,Fb pre lk h3,r1,h5⟩
     ·cases e
    ·cases e
   ·rename_i ds
    cases q:JL (frz th.length mu f) ds with
    |none=>rw[q] at e;cases e
    |some ds' =>
     rw[q] at e
     cases e
     unfold Rep at h ⊢
     obtain⟨a,vs,rfl,h1,h2,h3⟩:=h
     obtain⟨r1,r2⟩:=Ia ih q h2
     exact⟨a,vs,rfl,h1,r1,by rw[r2];exact h3⟩
   ·rename_i ds
    cases q:JL (frz th.length mu f) ds with
    |none=>rw[q] at e;cases e
    |some ds' =>
     rw[q] at e
     cases e
     unfold Rep at h ⊢
     obtain⟨a,vs,rfl,h1,h2,h3⟩:=h
     obtain⟨r1,r2⟩:=Ia ih q h2
     exact⟨a,vs,rfl,h1.imp (λw=>⟨λz=>w.1 (by rw[pre];exact A0 _ z),w.2⟩) id,r1,by rw[r2];exact h3⟩
   ·cases e
def U7 (so:StoOk K th1 mu H)(pre:th1=th++more)(hl:(mu.take th.length).all (Lw th.length)=true):StoOk K th (mu.take th.length) H:=by
 have len:th.length<=mu.length:=by rw[<- so.len,pre,As];ext
 refine⟨by rw[AU];ext,?_,λk a o e1 e2=>?_⟩
 ·have:=so.nd
  rw[pre] at this
  exact(Bb.mp this).1
 ·have hk:=(Ad.mp e1).1
  rw[Bg hk] at e2
  have q:=so.at' k a o (by rw[pre,Ap hk];exact e1) e2
  have lo:=AW.mp hl o (Aj (by rw[Bg hk];exact e2))
  cases o with
  |lst ds=>obtain⟨vs,q1,q2,z⟩:=q;exact⟨vs,q1,Fb pre lo q2,z⟩
  |dct ks ds =>
   unfold Lw at lo
   rw[Ai] at lo
   obtain⟨xs,q1,q2,q3,q4,z⟩:=q
   exact⟨xs,q1,q2,Fb pre lo.1 q3,Fb pre lo.2 q4,z⟩
end
def J1 {P:Program}{w:World}{K:W.Frag}{mg:Str->Option Value}{base:Heap}{x qual:Str}{st:Stmt}{f:Addr}{fd:FuncData}{N ps:List Str}{k:Nat}{m:Sx}(n j:Nat)(F:Fun K x qual st f fd)(S:CL N ps (Cu st))(hn:N.length=n)(hj:ps.length=j)
  (hbody:∀(cdv:Value) (A:Around) (outer:List Env) (s:Shared) (H:Hp) (E:XK),Room k (A.deeper (envOfC qual (Cu st) s.heap.objs.size f cdv)) ->
   SVB (KL CX0 P w K mg base N qual (Cu st) f cdv A outer s H E).nox (EW st) m):DU P w K mg base CX0 (k+1) f fd ps (spF ⟨K,P,w⟩ (fnG n m) j):=by
 subst hn hj
 refine F.ok S (λvs H Q E h=>?_) (λcdv A outer s H vs Q E hr h=>?_)
 ·obtain⟨th,mu,ds,_,r,hl,_⟩:=h
  rw[r.len]
  exact hl
 ·obtain⟨th,mu,ds,so,r,hl,t⟩:=h
  refine⟨_,(hbody cdv A outer s H E hr).r,?_⟩
  obtain⟨d0,mu0,e0,q0⟩:=id t
  obtain⟨p,m1,e1,e2⟩:=FE e0
  refine⟨th,mu,_,so,Kd r,p,m1,e1,λth1 H1 x1 s1 st' en'=>?_⟩
  obtain⟨fl,ro'⟩:=p
  obtain⟨more,pre⟩:=x1.pre
  have done:∀(d:D) (v:V),JI mu m1 d=some (d0,mu0)->Rep ⟨K,P,w⟩ th1 H1 d v->Q v H1:=λd v ec rv=>by
   unfold JI at ec
   split at ec
   ·rename_i d' ef
    split at ec
    ·rename_i hl
     cases ec
     rw[<- so.len] at ef hl q0
     exact q0 th H1 ⟨⟨[],by simp⟩,λ_ _ n _=>n,x1.keep⟩ (U7 s1 pre hl) v (Qe s1 pre 3 d d0 v ef rv)
    ·cases ec
   ·cases ec
  cases fl with
  |rt d=>exactλv rv=>done d v e2 rv
  |nx=>exact done .non .non e2 (by unfold Rep;rfl)
  |bk=>cases e2
  |ct=>cases e2
def DAt (h:Heap)(d:Addr)(es:Array DictEntry)(ep:Nat):Prop:=∃o,h.get? d=some o/\o.data=.dict es ep
def DIt (T:String)(d I:Addr)(es:Array DictEntry)(ep i:Nat)(h:Heap):Prop:=DAt h d es ep/\∃o,h.get? I=some o/\o.cls=.type T/\o.data=.fields #[.ref d,.int i 0,.int es.size 0,.int ep 0]
section
variable {prog:Program}{w:World}{A:Around}{E:Value->Zaa}{s:Shared}
def DIt.ty {T:String}{d I:Addr}{es:Array DictEntry}{ep i:Nat}(g:DIt T d I es ep i s.heap):s.TypeIs (.ref I) T:=let ⟨_,o,a,b,_⟩:=g;⟨o,a,b⟩
def DIt.step {T:String}{d I:Addr}{es:Array DictEntry}{ep i:Nat}{h:Heap}(ne:d≠I)(g:DIt T d I es ep i h):DIt T d I es ep (i+1) (h.update I (Obj.mapFields (·.setIfInBounds 1 (rawInt ((i:Int)+1))))):=by
 obtain⟨⟨od,d1,d2⟩,o,a,b,c⟩:=g
 exact⟨⟨od,((AD ..).2 d ne).trans d1,d2⟩,_,AJ _ a (Obj.isFreed_of_fields (Obj.data_mapFields c _)),(Obj.cls_mapFields ..).trans b,by rw[Obj.data_mapFields c];simp[rawInt]⟩
def TY {d I:Addr}{es:Array DictEntry}{ep i:Nat}{Q:Option Value->Zaa}(ne:d≠I)(g:DIt "dict_keyiterator" d I es ep i s.heap)(hi:i<es.size)
  (q:∀h',DIt "dict_keyiterator" d I es ep (i+1) h'->Heap.SameBut I s.heap h'->Q (some es[i].key) {s with heap:=h'}):wpAny (model prog w) A (pyNext (.ref I)) Q E s:=by
 obtain⟨⟨od,d1,d2⟩,o,a,b,c⟩:=id g
 unfold pyNext
 refine Aa (BN (AM (name:=Str.ofString "__next__") g.ty BA (AE BA g.ty F.entry_dict_keyiterator_next ?_ (F.args_dict_keyiterator_next_1 _))))
 refine Aa (Ab (Aa (Aa ?_)))
 refine Aa (B6 g.ty (Ab (Aa (wpAny_fieldsOf a c ?_))))
 simp only[show Builtin.Dict_items.ownsTuple "dict_keyiterator"=false by decide,AV,Bt]
 refine(?_:wpAny _ _ (if (Value.ref d==Value.none)=true then _ else _) _ _ s)
 rw[if_neg (show ¬ ((Value.ref d==Value.none)=true) from AN)]
 refine Aa (Ab (Aa (Bc d1 d2 ?_)))
 rw[if_neg (by simp)]
 refine Aa (Ab (Aa (Bk d1 d2 ?_)))
 rw[if_neg (by simp)]
 refine Ab ?_
 simp only[show ¬ ((i:Int)<0) by ext,Bt,Int.toNat_natCast,Av hi]
 refine Aa (Aa (B6 g.ty (Ab ?_)))
 refine Aa (wpAny_isOneOf_keyiter g.ty ?_)
 refine(?_:wpAny _ _ (setField (.ref I) 1 (rawInt ((i:Int)+1))>>=_) _ _ s)
 have g':=g.step ne
 refine Aa (Bm a c (by simp) (Aa (AG ?_)))
 generalize hu:s.heap.update I (Obj.mapFields (·.setIfInBounds 1 (rawInt ((i:Int)+1))))=h2 at g' ⊢
 have sb:Heap.SameBut I s.heap h2:=by rw[<- hu];exact AD ..
 have t2:=DIt.ty (s:={s with heap:=h2}) g'
 refine Aa (wpAny_isOneOf_keyiter (s:={s with heap:=h2}) t2 ?_)
 refine(?_:wpAny _ _ (pure es[i].key) _ _ _)
 exact Ab (Ab ⟨_,rfl,Ab (q _ g' sb)⟩)
def Tp {d I:Addr}{es:Array DictEntry}{ep:Nat}{Q:Option Value->Zaa}(hh:A.handled=none)(g:DIt "dict_keyiterator" d I es ep es.size s.heap)
  (q:∀h',(∀c o,c≠I->s.heap.get? c=some o->h'.get? c=some o)->Q none {s with heap:=h'}):wpAny (model prog w) A (pyNext (.ref I)) Q E s:=by
 obtain⟨⟨od,d1,d2⟩,o,a,b,c⟩:=id g
 unfold pyNext
 refine Aa (BN (AM (name:=Str.ofString "__next__") g.ty BA (AE BA g.ty F.entry_dict_keyiterator_next ?_ (F.args_dict_keyiterator_next_1 _))))
 refine Aa (Ab (Aa (Aa ?_)))
 refine Aa (B6 g.ty (Ab (Aa (wpAny_fieldsOf a c ?_))))
 simp only[show Builtin.Dict_items.ownsTuple "dict_keyiterator"=false by decide,AV,Bt]
 refine(?_:wpAny _ _ (if (Value.ref d==Value.none)=true then _ else _) _ _ s)
 rw[if_neg (show ¬ ((Value.ref d==Value.none)=true) from AN)]
 refine Aa (Ab (Aa (Bc d1 d2 ?_)))
 rw[if_neg (by simp)]
 refine Aa (Ab (Aa (Bk d1 d2 ?_)))
 rw[if_neg (by simp)]
 refine Ab ?_
 simp only[show ¬ ((es.size:Int)<0) by ext,Bt,Int.toNat_natCast,AZ (Ae es.size)]
 refine Aa (Aa (B6 g.ty (Ab ?_)))
 refine(?_:wpAny _ _ (setField (.ref I) 0 .none>>=_) _ _ s)
 refine Aa (Bm a c (by simp) ?_)
 refine F3 (I:=I) hh λh' e z1 z2=>?_
 obtain⟨oe,he,hc⟩:=z2
 exact Aa (BH (T:="StopIteration") (b:=true) ⟨oe,he,hc⟩ isSubtype_stop (Ab (q h' λc o hc z=>z1 c o (((AD ..).2 c hc).trans z))))
def Iq (hh:A.handled=none){d I:Addr}{es:Array DictEntry}{ep:Nat}(ne:d≠I):Walks prog w A I [I,d] [I] es.size (λi v=>∃e,es[i]?=some e/\e.key=v) (λi h=>DIt "dict_keyiterator" d I es ep i h) where
 sub:=λb hb=>by rw[Ah.mp hb];simp
 frame:=λ_ h1 h2 st hk=>let ⟨⟨od,d1,d2⟩,o,a,b⟩:=st;⟨⟨od,hk d (by simp) _ d1,d2⟩,o,hk I (by simp) _ a,b⟩
 item:=λk s R E hi st hQ=>TY ne st hi λh' g' sb=>hQ _ h' s.toks ⟨_,Av hi,rfl⟩ g' λb o hb z=>(sb.2 b (by simpa using hb)).trans z
 done:=λs R E st hQ=>Tp hh st λh' k=>hQ h' s.toks λb o hb z=>k b o (by simpa using hb) z
 self:=λ_ s R E st hQ=>by
  refine BS st.ty F.slot_dict_keyiterator_iter (AE F.slot_dict_keyiterator_iter st.ty F.entry_dict_keyiterator_iter ?_ (F.args_dict_keyiterator_iter_1 _))
  refine(?_:wpAny _ _ (ret (.ref I)) _ _ s)
  exact Ab ⟨_,rfl,"dict_keyiterator",_,st.ty,BA.lookup,hQ⟩
def Rt {d I:Addr}{es:Array DictEntry}{ep i:Nat}{Q:Option Value->Zaa}(ne:d≠I)(g:DIt "dict_valueiterator" d I es ep i s.heap)(hi:i<es.size)
  (q:∀h',DIt "dict_valueiterator" d I es ep (i+1) h'->Heap.SameBut I s.heap h'->Q (some es[i].val) {s with heap:=h'}):wpAny (model prog w) A (pyNext (.ref I)) Q E s:=by
 obtain⟨⟨od,d1,d2⟩,o,a,b,c⟩:=id g
 unfold pyNext
 refine Aa (BN (AM (name:=Str.ofString "__next__") g.ty Bu (AE Bu g.ty F.entry_dict_valueiterator_next ?_ (F.args_dict_valueiterator_next_1 _))))
 refine Aa (Ab (Aa (Aa ?_)))
 refine Aa (B7 g.ty (Ab (Aa (wpAny_fieldsOf a c ?_))))
 simp only[show Builtin.Dict_items.ownsTuple "dict_valueiterator"=false by decide,AV,Bt]
 refine(?_:wpAny _ _ (if (Value.ref d==Value.none)=true then _ else _) _ _ s)
 rw[if_neg (show ¬ ((Value.ref d==Value.none)=true) from AN)]
 refine Aa (Ab (Aa (Bc d1 d2 ?_)))
 rw[if_neg (by simp)]
 refine Aa (Ab (Aa (Bk d1 d2 ?_)))
 rw[if_neg (by simp)]
 refine Ab ?_
 simp only[show ¬ ((i:Int)<0) by ext,Bt,Int.toNat_natCast,Av hi]
 refine Aa (Aa (B7 g.ty (Ab ?_)))
 refine Aa (wpAny_isOneOf_valiter g.ty ?_)
 refine(?_:wpAny _ _ (setField (.ref I) 1 (rawInt ((i:Int)+1))>>=_) _ _ s)
 have g':=g.step ne
 refine Aa (Bm a c (by simp) (Aa (AG ?_)))
 generalize hu:s.heap.update I (Obj.mapFields (·.setIfInBounds 1 (rawInt ((i:Int)+1))))=h2 at g' ⊢
 have sb:Heap.SameBut I s.heap h2:=by rw[<- hu];exact AD ..
 have t2:=DIt.ty (s:={s with heap:=h2}) g'
 refine Aa (wpAny_isOneOf_valiter (s:={s with heap:=h2}) t2 ?_)
 refine Aa (wpAny_isOneOf_valiter (s:={s with heap:=h2}) t2 ?_)
 refine(?_:wpAny _ _ (pure es[i].val) _ _ _)
 exact Ab (Ab ⟨_,rfl,Ab (q _ g' sb)⟩)
def S3 {d I:Addr}{es:Array DictEntry}{ep:Nat}{Q:Option Value->Zaa}(hh:A.handled=none)(g:DIt "dict_valueiterator" d I es ep es.size s.heap)
  (q:∀h',(∀c o,c≠I->s.heap.get? c=some o->h'.get? c=some o)->Q none {s with heap:=h'}):wpAny (model prog w) A (pyNext (.ref I)) Q E s:=by
 obtain⟨⟨od,d1,d2⟩,o,a,b,c⟩:=id g
 unfold pyNext
 refine Aa (BN (AM (name:=Str.ofString "__next__") g.ty Bu (AE Bu g.ty F.entry_dict_valueiterator_next ?_ (F.args_dict_valueiterator_next_1 _))))
 refine Aa (Ab (Aa (Aa ?_)))
 refine Aa (B7 g.ty (Ab (Aa (wpAny_fieldsOf a c ?_))))
 simp only[show Builtin.Dict_items.ownsTuple "dict_valueiterator"=false by decide,AV,Bt]
 refine(?_:wpAny _ _ (if (Value.ref d==Value.none)=true then _ else _) _ _ s)
 rw[if_neg (show ¬ ((Value.ref d==Value.none)=true) from AN)]
 refine Aa (Ab (Aa (Bc d1 d2 ?_)))
 rw[if_neg (by simp)]
 refine Aa (Ab (Aa (Bk d1 d2 ?_)))
 rw[if_neg (by simp)]
 refine Ab ?_
 simp only[show ¬ ((es.size:Int)<0) by ext,Bt,Int.toNat_natCast,AZ (Ae es.size)]
 refine Aa (Aa (B7 g.ty (Ab ?_)))
 refine(?_:wpAny _ _ (setField (.ref I) 0 .none>>=_) _ _ s)
 refine Aa (Bm a c (by simp) ?_)
 refine F3 (I:=I) hh λh' e z1 z2=>?_
 obtain⟨oe,he,hc⟩:=z2
 exact Aa (BH (T:="StopIteration") (b:=true) ⟨oe,he,hc⟩ isSubtype_stop (Ab (q h' λc o hc z=>z1 c o (((AD ..).2 c hc).trans z))))
def L0 (hh:A.handled=none){d I:Addr}{es:Array DictEntry}{ep:Nat}(ne:d≠I):Walks prog w A I [I,d] [I] es.size (λi v=>∃e,es[i]?=some e/\e.val=v) (λi h=>DIt "dict_valueiterator" d I es ep i h) where
 sub:=λb hb=>by rw[Ah.mp hb];simp
 frame:=λ_ h1 h2 st hk=>let ⟨⟨od,d1,d2⟩,o,a,b⟩:=st;⟨⟨od,hk d (by simp) _ d1,d2⟩,o,hk I (by simp) _ a,b⟩
 item:=λk s R E hi st hQ=>Rt ne st hi λh' g' sb=>hQ _ h' s.toks ⟨_,Av hi,rfl⟩ g' λb o hb z=>(sb.2 b (by simpa using hb)).trans z
 done:=λs R E st hQ=>S3 hh st λh' k=>hQ h' s.toks λb o hb z=>k b o (by simpa using hb) z
 self:=λ_ s R E st hQ=>by
  refine BS st.ty F.slot_dict_valueiterator_iter (AE F.slot_dict_valueiterator_iter st.ty entry_dict_valueiterator_iter ?_ (F.args_dict_valueiterator_iter_1 _))
  refine(?_:wpAny _ _ (ret (.ref I)) _ _ s)
  exact Ab ⟨_,rfl,"dict_valueiterator",_,st.ty,Bu.lookup,hQ⟩
def Ll {d:Addr}{o:Obj}{es:Array DictEntry}{ep:Nat}{Q:Value->Zaa}(ns:(d==sysModules)=false)(d1:s.heap.get? d=some o)(dc:o.cls=.type "dict")(d2:o.data=.dict es ep)
  (q:∀h',h'.objs.size=s.heap.objs.size+1->(∀b o,s.heap.get? b=some o->h'.get? b=some o)->DIt "dict_keyiterator" d s.heap.objs.size es ep 0 h'->Q (.ref s.heap.objs.size) {s with heap:=h'}):wpAny (model prog w) A (pyIter (.ref d)) Q E s:=by
 have hT:s.TypeIs (.ref d) "dict":=⟨o,d1,dc⟩
 refine BS hT F.slot_dict_iter (AE F.slot_dict_iter hT F.entry_dict_iter ?_ (F.args_dict_iter_1 _))
 unfold Builtin.«dict.__iter__» Builtin.Dict.dictSlotNone
 refine Aa (Aa (B0 hT ?_))
 refine(?_:wpAny _ _ (pure (Value.ref d)) _ _ s)
 refine Ab (?_:wpAny _ _ (Builtin.Dict.showsAll d>>=_) _ _ s)
 unfold Builtin.Dict.showsAll
 rw[if_neg (by rw[ns];exact AN)]
 refine Aa (Ab (Aa (Bc d1 d2 (Aa (Bk d1 d2 ?_)))))
 refine Aa (AX (Ab ⟨_,rfl,"dict_keyiterator",_,⟨_,Ag _ rfl,rfl⟩,BA.lookup,?_⟩))
 exact q _ (Bn ..) (λb o e=>Ac _ e) ⟨⟨o,Ac _ d1,d2⟩,_,Ag _ rfl,rfl,rfl⟩
def OP {v d:Addr}{ov o:Obj}{es:Array DictEntry}{ep:Nat}{Q:Value->Zaa}(v1:s.heap.get? v=some ov)(vc:ov.cls=.type "dict_values")(v2:ov.data=.fields #[.ref d])(d1:s.heap.get? d=some o)(d2:o.data=.dict es ep)
  (q:∀h',h'.objs.size=s.heap.objs.size+1->(∀b o,s.heap.get? b=some o->h'.get? b=some o)->DIt "dict_valueiterator" d s.heap.objs.size es ep 0 h'->Q (.ref s.heap.objs.size) {s with heap:=h'}):wpAny (model prog w) A (pyIter (.ref v)) Q E s:=by
 have hT:s.TypeIs (.ref v) "dict_values":=⟨ov,v1,vc⟩
 refine BS hT F.slot_dict_values_iter (AE F.slot_dict_values_iter hT F.entry_dict_values_iter ?_ (F.args_dict_values_iter_1 _))
 unfold Builtin.«dict_values.__iter__» Builtin.Dict_items.dictOf
 refine Aa (Ab (Aa (Aa (Be v1 v2 (x:=.ref d) rfl (Ab ?_)))))
 (unfold Builtin.Dict_items.newIterator)
 refine Aa (Aa (Bc d1 d2 (Aa (Bk d1 d2 ?_))))
 simp only[show Builtin.Dict_items.ownsTuple "dict_valueiterator"=false by decide,AV,Bt]
 refine AX (Ab ⟨_,rfl,"dict_valueiterator",_,⟨_,Ag _ rfl,rfl⟩,Bu.lookup,?_⟩)
 exact q _ (Bn ..) (λb o e=>Ac _ e) ⟨⟨o,Ac _ d1,d2⟩,_,Ag _ rfl,rfl,rfl⟩
def OE {S:Addr}{ob:Obj}{es:Array DictEntry}{ep:Nat}{Q:List Value->Zaa}(hh:A.handled=none)(hz:es.size<=sizeLine)(g1:s.heap.get? S=some ob)(gc:ob.cls=.type "dict")(ns:(S==sysModules)=false)(g2:DAt s.heap S es ep)
  (q:∀h' tk,(∀b o,s.heap.get? b=some o->h'.get? b=some o)->Q (es.toList.map (·.key)) {s with heap:=h',toks:=tk}):wpAny (model prog w) A (collect (.ref S)) Q E s:=by
 obtain⟨od,d1,d2⟩:=g2
 have lS:S<s.heap.objs.size:=An g1
 have ld:S<s.heap.objs.size:=An d1
 have nS:s.heap.objs.size≠S:=BL lS
 have nd:s.heap.objs.size≠S:=BL ld
 unfold collect
 refine Aa (wpAny_runValue (BM F.entry_proto_collect ?_))
 rw[BE F.plain_proto_collect _]
 refine(?_:wpAny _ A.in1 (newList []>>=λl=>again (.builtin "list.__iadd__" ⟨[l,.ref S],[]⟩)) _ _ s)
 refine Aa (AX (Ab ⟨plainId_quiet F.plain_list_iadd _,BM F.entry_list_iadd ?_⟩))
 rw[BE F.plain_list_iadd _]
 refine(?_:wpAny _ A.in1 (Builtin.List.listExtendWith (.ref s.heap.objs.size) (.ref S) (.ref s.heap.objs.size)) _ _ _)
 (unfold Builtin.List.listExtendWith)
 have gS:(s.heap.push {cls:=.type "list",data:=.seq ([]:List Value).toArray}).get? S=some ob:=Ac _ g1
 have gd:(s.heap.push {cls:=.type "list",data:=.seq ([]:List Value).toArray}).get? S=some od:=Ac _ d1
 have gL:(s.heap.push {cls:=.type "list",data:=.seq ([]:List Value).toArray}).get? s.heap.objs.size=some {cls:=.type "list",data:=.seq ([]:List Value).toArray}:=Ag _ rfl
 generalize hP:s.heap.push {cls:=.type "list",data:=.seq ([]:List Value).toArray}=h1 at gS gL gd ⊢
 have k1:∀b o,s.heap.get? b=some o->h1.get? b=some o:=λb o e=>by rw[<- hP];exact Ac _ e
 have sz1:h1.objs.size=s.heap.objs.size+1:=by rw[<- hP];exact Bn ..
 have ty:Shared.TypeIs {s with heap:=h1} (.ref S) "dict":=⟨ob,gS,gc⟩
 refine Aa (By ty ?_)
 have e1:Builtin.List.listSameRef (.ref s.heap.objs.size) (.ref S)=false:=by simp[Builtin.List.listSameRef,nS]
 simp only[e1,show(Value.type "dict"==Value.type "list")=false by decide,show(Value.type "dict"==Value.type "tuple")=false by decide,Bool.or_false,AV,Bt]
 have lt1:S<h1.objs.size:=by rw[sz1];exact Bl ld
 refine Aa (Ll (s:={s with heap:=h1}) ns gd (by rw[g1] at d1;cases d1;exact gc) d2 λh2 e2 k2 st=>?_)
 have ty2:Shared.TypeIs {s with heap:=h2} (.ref S) "dict":=⟨ob,k2 _ _ gS,gc⟩
 have nLI:s.heap.objs.size≠h1.objs.size:=by rw[sz1];exact Az (Bh _)
 have ndI:S≠h1.objs.size:=Az lt1
 refine Aa (AG ?_)
 (unfold Builtin.List.listLengthHint)
 refine Aa (wpAny_specialOf ty2 F.slot_dict_len.lookup ?_)
 refine(?_:wpAny _ A.in1 (isInstance (Value.ref S) (.type "dict")>>=_) _ _ _)
 refine Aa (BH (b:=true) ty2 (by rw[isSubtype_type];kernel_rfl) ?_)
 refine(?_:wpAny _ A.in1 (typeOf (Value.ref S)>>=_) _ _ _)
 refine Aa (By ty2 (Ab ?_))
 have gL2:=k2 _ _ gL
 refine(?_:wpAny _ A.in1 (rule "list.extend.makes-room">>=λ_=>Builtin.List.listTouch (.ref s.heap.objs.size)>>=λ_=>again (.builtin "list.extend.loop" ⟨[.ref s.heap.objs.size,.ref h1.objs.size,.ref s.heap.objs.size],[]⟩)) _ _ _)
 refine Aa (A7 (Aa ?_))
 refine(?_:wpAny _ A.in1 (updateSeq s.heap.objs.size (·.push .none)>>=λ_=>updateSeq s.heap.objs.size (·.pop)) _ _ _)
 refine Aa (BY gL2 rfl ?_)
 have gL3:=AJ (Obj.mapSeq (·.push Value.none)) gL2 rfl
 refine BY gL3 rfl ?_
 have gL4:=AJ (Obj.mapSeq (·.pop)) gL3 rfl
 have nL:s.heap.objs.size∉[h1.objs.size,S]:=by
  simp only[Ao,Ax,Ba,not_or]
  exact⟨nLI,nd⟩
 have oth:∀b o,b≠s.heap.objs.size->h2.get? b=some o->((h2.update s.heap.objs.size (Obj.mapSeq (·.push Value.none))).update s.heap.objs.size (Obj.mapSeq (·.pop))).get? b=some o:=
  λb o hb e=>(A9 _ _ hb.symm).trans ((A9 _ _ hb.symm).trans e)
 have W:=(Iq (prog:=prog) (A:=A.in1) (w:=w) (es:=es) (ep:=ep) hh ndI).toS
 refine Ab ⟨plainId_quiet F.plain_extend_loop _,codeAny_extend_loopS (A:=A) W hz _ nL _ es.size 0 _ _ _ rfl (A5 _) ?_ gL4 (ItemsOf.nil _) λs' acc' c' hm hS' hacc=>?_⟩
 ·exact(Iq (prog:=prog) (A:=A.in1) (w:=w) (es:=es) (ep:=ep) hh ndI).frame 0 _ _ st λb hb o e=>oth b o (λz=>nL (z▸hb)) e
 refine(?_:wpAny _ A (load s.heap.objs.size>>=_) _ _ s')
 refine Aa (wpAny_load hS' ?_)
 obtain⟨zh,zg,zd,zt,zo⟩:=s'
 have e4:zg=s.gens:=hm.gens
 have e5:zd=s.drawn:=hm.drawn
 have e6:zo=s.os:=hm.os
 subst e4 e5 e6
 have ac:acc'.toList=es.toList.map (·.key):=by
  refine A6 λi=>?_
  rw[Am,Af,Af]
  by_cases hi:i<es.size
  ·have hi':i<acc'.size:=by rw[hacc.1];exact hi
   obtain⟨e,x1,x2⟩:=hacc.2 i _ (Av hi')
   rw[Av hi',x1,<- x2]
   rfl
  ·rw[AZ (by rw[hacc.1];ext),AZ (by ext)]
   rfl
 refine Ab ?_
 refine(?_:Q acc'.toList _)
 rw[ac]
 refine q zh zt λb o e=>?_
 have bl:=An e
 refine hm.heap b o ?_ (oth b o (Az bl) (k2 _ _ (k1 _ _ e)))
 simp only[Ao,Ax,Ba,not_or]
 exact⟨Az bl,Az (show b<h1.objs.size by rw[sz1];exact Bl bl)⟩
def OK {S:Addr}{ob:Obj}{d:Addr}{es:Array DictEntry}{ep:Nat}{Q:List Value->Zaa}(hh:A.handled=none)(hz:es.size<=sizeLine)(g1:s.heap.get? S=some ob)(gc:ob.cls=.type "dict_values")(gf:ob.data=.fields #[.ref d])(g2:DAt s.heap d es ep)
  (q:∀h' tk,(∀b o,s.heap.get? b=some o->h'.get? b=some o)->Q (es.toList.map (·.val)) {s with heap:=h',toks:=tk}):wpAny (model prog w) A (collect (.ref S)) Q E s:=by
 obtain⟨od,d1,d2⟩:=g2
 have lS:S<s.heap.objs.size:=An g1
 have ld:d<s.heap.objs.size:=An d1
 have nS:s.heap.objs.size≠S:=BL lS
 have nd:s.heap.objs.size≠d:=BL ld
 unfold collect
 refine Aa (wpAny_runValue (BM F.entry_proto_collect ?_))
 rw[BE F.plain_proto_collect _]
 refine(?_:wpAny _ A.in1 (newList []>>=λl=>again (.builtin "list.__iadd__" ⟨[l,.ref S],[]⟩)) _ _ s)
 refine Aa (AX (Ab ⟨plainId_quiet F.plain_list_iadd _,BM F.entry_list_iadd ?_⟩))
 rw[BE F.plain_list_iadd _]
 refine(?_:wpAny _ A.in1 (Builtin.List.listExtendWith (.ref s.heap.objs.size) (.ref S) (.ref s.heap.objs.size)) _ _ _)
 (unfold Builtin.List.listExtendWith)
 have gS:(s.heap.push {cls:=.type "list",data:=.seq ([]:List Value).toArray}).get? S=some ob:=Ac _ g1
 have gd:(s.heap.push {cls:=.type "list",data:=.seq ([]:List Value).toArray}).get? d=some od:=Ac _ d1
 have gL:(s.heap.push {cls:=.type "list",data:=.seq ([]:List Value).toArray}).get? s.heap.objs.size=some {cls:=.type "list",data:=.seq ([]:List Value).toArray}:=Ag _ rfl
 generalize hP:s.heap.push {cls:=.type "list",data:=.seq ([]:List Value).toArray}=h1 at gS gL gd ⊢
 have k1:∀b o,s.heap.get? b=some o->h1.get? b=some o:=λb o e=>by rw[<- hP];exact Ac _ e
 have sz1:h1.objs.size=s.heap.objs.size+1:=by rw[<- hP];exact Bn ..
 have ty:Shared.TypeIs {s with heap:=h1} (.ref S) "dict_values":=⟨ob,gS,gc⟩
 refine Aa (By ty ?_)
 have e1:Builtin.List.listSameRef (.ref s.heap.objs.size) (.ref S)=false:=by simp[Builtin.List.listSameRef,nS]
 simp only[e1,show(Value.type "dict_values"==Value.type "list")=false by decide,show(Value.type "dict_values"==Value.type "tuple")=false by decide,Bool.or_false,AV,Bt]
 have lt1:d<h1.objs.size:=by rw[sz1];exact Bl ld
 refine Aa (OP (s:={s with heap:=h1}) gS gc gf gd d2 λh2 e2 k2 st=>?_)
 have ty2:Shared.TypeIs {s with heap:=h2} (.ref S) "dict_values":=⟨ob,k2 _ _ gS,gc⟩
 have nLI:s.heap.objs.size≠h1.objs.size:=by rw[sz1];exact Az (Bh _)
 have ndI:d≠h1.objs.size:=Az lt1
 refine Aa (AG ?_)
 (unfold Builtin.List.listLengthHint)
 refine Aa (wpAny_specialOf ty2 F.slot_dict_values_len.lookup ?_)
 refine(?_:wpAny _ A.in1 (isInstance (Value.ref S) (.type "dict_values")>>=_) _ _ _)
 refine Aa (BH (b:=true) ty2 (by rw[isSubtype_type];kernel_rfl) ?_)
 refine(?_:wpAny _ A.in1 (typeOf (Value.ref S)>>=_) _ _ _)
 refine Aa (By ty2 (Ab ?_))
 have gL2:=k2 _ _ gL
 refine(?_:wpAny _ A.in1 (rule "list.extend.makes-room">>=λ_=>Builtin.List.listTouch (.ref s.heap.objs.size)>>=λ_=>again (.builtin "list.extend.loop" ⟨[.ref s.heap.objs.size,.ref h1.objs.size,.ref s.heap.objs.size],[]⟩)) _ _ _)
 refine Aa (A7 (Aa ?_))
 refine(?_:wpAny _ A.in1 (updateSeq s.heap.objs.size (·.push .none)>>=λ_=>updateSeq s.heap.objs.size (·.pop)) _ _ _)
 refine Aa (BY gL2 rfl ?_)
 have gL3:=AJ (Obj.mapSeq (·.push Value.none)) gL2 rfl
 refine BY gL3 rfl ?_
 have gL4:=AJ (Obj.mapSeq (·.pop)) gL3 rfl
 have nL:s.heap.objs.size∉[h1.objs.size,d]:=by
  simp only[Ao,Ax,Ba,not_or]
  exact⟨nLI,nd⟩
 have oth:∀b o,b≠s.heap.objs.size->h2.get? b=some o->((h2.update s.heap.objs.size (Obj.mapSeq (·.push Value.none))).update s.heap.objs.size (Obj.mapSeq (·.pop))).get? b=some o:=
  λb o hb e=>(A9 _ _ hb.symm).trans ((A9 _ _ hb.symm).trans e)
 have W:=(L0 (prog:=prog) (A:=A.in1) (w:=w) (es:=es) (ep:=ep) hh ndI).toS
 refine Ab ⟨plainId_quiet F.plain_extend_loop _,codeAny_extend_loopS (A:=A) W hz _ nL _ es.size 0 _ _ _ rfl (A5 _) ?_ gL4 (ItemsOf.nil _) λs' acc' c' hm hS' hacc=>?_⟩
 ·exact(L0 (prog:=prog) (A:=A.in1) (w:=w) (es:=es) (ep:=ep) hh ndI).frame 0 _ _ st λb hb o e=>oth b o (λz=>nL (z▸hb)) e
 refine(?_:wpAny _ A (load s.heap.objs.size>>=_) _ _ s')
 refine Aa (wpAny_load hS' ?_)
 obtain⟨zh,zg,zd,zt,zo⟩:=s'
 have e4:zg=s.gens:=hm.gens
 have e5:zd=s.drawn:=hm.drawn
 have e6:zo=s.os:=hm.os
 subst e4 e5 e6
 have ac:acc'.toList=es.toList.map (·.val):=by
  refine A6 λi=>?_
  rw[Am,Af,Af]
  by_cases hi:i<es.size
  ·have hi':i<acc'.size:=by rw[hacc.1];exact hi
   obtain⟨e,x1,x2⟩:=hacc.2 i _ (Av hi')
   rw[Av hi',x1,<- x2]
   rfl
  ·rw[AZ (by rw[hacc.1];ext),AZ (by ext)]
   rfl
 refine Ab ?_
 refine(?_:Q acc'.toList _)
 rw[ac]
 refine q zh zt λb o e=>?_
 have bl:=An e
 refine hm.heap b o ?_ (oth b o (Az bl) (k2 _ _ (k1 _ _ e)))
 simp only[Ao,Ax,Ba,not_or]
 exact⟨Az bl,Az (show b<h1.objs.size by rw[sz1];exact Bl bl)⟩
end
section
variable {X:Cx}{K:Zc}{th:List Addr}{mu:Sto}{H:Hp}{pj:Zab}{st:L2.St}{s:Shared}
def K8 (hu:X.A.units+64<cLine)(I:L2.Inv X pj st H s)(so:StoOk X.z th mu H){es:List D}(ok:ES es=true){u:Value}{Q:VK}(t:Tr X.z th H (some (D.lst (FF es),mu)) (KV' X.z Q))
  (col:∀Q':List Value->Zaa,(∀vs zs h' tk,RepL X.z th H es vs->Vals vs zs->(∀b o,s.heap.get? b=some o->h'.get? b=some o)->Q' zs {s with heap:=h',toks:=tk})->wpAny (model X.prog X.w) X.A.in1 (collect u) Q' X.xe s) :
  wpAny (model X.prog X.w) X.A (call (.builtin "sorted") [u]) (EP X pj st Q) X.xe s:=by
 refine L1 (col _ λvs zs h1 tk h2 rv hk=>?_)
 have I1:L2.Inv X pj st H {s with heap:=h1,toks:=tk}:=I.kept (t':=tk) hk
 have l64:es.length<4096:=by
  have:=ok
  unfold ES at this
  rw[Ai,Ai,Ai,AA] at this
  exact this.1.1.1
 have lz:zs.length=es.length:=by rw[<- rv.length,h2.len]
 have w3:=sorts hu I1 h2 rv ok
 have z64:4096<=sizeLine:=by rw[AH];decide
 have wl:(FF es).length<=sizeLine:=by rw[(D3 es).length_eq];ext
 refine⟨by ext,_,w3,λout h' e a ⟨ws,w1,w2⟩ hk' ha he=>?_⟩
 have hp:H a=none:=I1.hok.fresh ha
 refine⟨.ref a,_,I1.laid (t':=tk) (o:=.lst ws) hk' ha ⟨by rw[w1.len];exact wl,out,e,w2,he⟩,rfl,?_⟩
 exact t.retX (.new hp _) (so.new hp _) _ (Rep.newLst so hp w1 wl)
def MK (I:L2.Inv X pj st H s){a:Addr}{ks ds:List D}(h:DcAt X.z th H a ks ds):∃o es ep,(a==sysModules)=false/\s.heap.get? a=some o/\o.ExactDict/\o.data=.dict es ep/\es.size<=sizeLine/\(∃vs,RepL X.z th H ks vs/\Vals vs (es.toList.map (·.key)))/\∃vs,RepL X.z th H ds vs/\Vals vs (es.toList.map (·.val)):=by
 obtain⟨xs0,h1',h2,h3,h4,h5⟩:=id h
 obtain⟨xs,o,es,ep,h1,g⟩:=Hs I h
 obtain⟨⟨z',o',es',ep',g1,g2,g3,g4,ge⟩,_⟩:=(show ObjOk X.prog X.w H s.heap a (D1 a xs0) from I.hok a _ h1')
 have e1:=g.at'
 rw[g1] at e1
 cases e1
 have e2:=g.dt
 rw[g3] at e2
 cases e2
 have kv:∀{ys:List (Int×V×V)}{zs:List DictEntry},Paired (λ(x:Int×V×V) (e:DictEntry)=>e.hash=x.1/\RelV x.2.1 e.key/\RelV x.2.2 e.val) ys zs->Vals (ys.map (·.2.1)) (zs.map (·.key))/\Vals (ys.map (·.2.2)) (zs.map (·.val)):=λ{ys zs} p=>by
  induction p with
  |nil=>exact⟨.nil,.nil⟩
  |cons a b ih=>exact⟨.cons a.2.1 ih.1,.cons a.2.2 ih.2⟩
 have sz:es.size<=sizeLine:=by
  have e:=DF g.en
  have e':es.size=ks.length:=by
   rw[<- Array.length_toList]
   exact e.symm
  rw[e']
  exact h5.len
 exact⟨o,es,ep,z',g1,g2,g3,sz,⟨_,h3,(kv g4).1⟩,⟨_,h4,(kv g4).2⟩⟩
def UA:Fn:=λds mu=>match Gm ds with
 |some d=>match DC mu d with
  |some p=>if ES p.1=true then some (.lst (FF p.1),mu) else none
  |none=>none
 |none=>none
def R4 {ds:List D}{r:D×Sto}(h:UA ds mu=some r):∃d p,ds=[d]/\DC mu d=some p/\ES p.1=true/\r=(.lst (FF p.1),mu):=by
 unfold UA at h
 split at h
 ·rename_i d e
  split at h
  ·rename_i p e2
   split at h
   ·rename_i c;cases h;exact⟨d,p,GP e,e2,c,rfl⟩
   ·cases h
  ·cases h
 ·cases h
def QW (hu:X.A.units+64<cLine)(hc:X.calm=true):CallV X (.builtin "sorted") UA:=by
 intro pj s st H xs us Q I r h
 obtain⟨th,mu,ds,so,rd,t⟩:=h
 obtain⟨a0,mu0,e0,_⟩:=id t
 obtain⟨d,p,rfl,eg,ok,er⟩:=R4 e0
 rw[e0] at t
 cases er
 obtain⟨x,rfl,rx⟩:=D8 rd
 obtain⟨u,rfl,ru⟩:=vals1 r
 obtain⟨a,rfl,dc⟩:=D6 so eg rx
 cases ru
 obtain⟨o,es,ep,ns,g1,g2,g3,sz,⟨vs,k1,k2⟩,_⟩:=MK I dc
 exact K8 hu I so ok t λQ' q=>OE (I.ok.hd hc) sz g1 g2.1 ns ⟨o,g1,g3⟩ λh' tk hk=>q _ _ h' tk k1 k2 hk
def Lz:Fn:=λds mu=>match M7 ds mu with|some r=>some r|none=>UA ds mu
def JW (hu:X.A.units+64<cLine)(hc:X.calm=true):CallV X (.builtin "sorted") Lz:=CallV.or (Q0 hu hc) (QW hu hc)
def AaI (a d:Addr)(h:Heap):Prop:=∃o,h.get? a=some o/\o.cls=.type "dict_values"/\o.data=.fields #[.ref d]
def PY (a d:Addr):HO:=.ext (AaI a d)
def Aa8 (r:V->List V->Hp->VK->Prop)(to:TE):TE:=fun σ H Q=>to σ H λx H1=>(∃a xs,x=.ref a/\H1 a=some (D1 a xs))/\r x [] H1 Q
def RH {o:Expr}{to:TE}{name:Str}{apos cpos:Pos}{id:String}{r:V->List V->Hp->VK->Prop}(slot:Slot "dict" name id)(hty:typeOf (.builtin id)=pure (.type "method_descriptor"))(hm:MtR X id r)(ho:PE X o to)
  (hbase:attributeBase o name X.env (eval o X.env)=eval o X.env) (hline:(apos.endLine==cpos.line)=true):PE X (.Call (.Attribute o name apos) [] [] cpos) (Aa8 r to):=by
 intro pj s st H Q I h
 refine wpAny_Call_method0_late hbase hline (thn (ho pj s st H _ I h) λv s1 ⟨x,H1,I1,r1,⟨a,xs,e,hd⟩,q1⟩=>?_)
 subst e
 cases r1
 obtain⟨⟨z,ob,es,ep,g1,g2,g3,g4,ge⟩,_⟩:=(show ObjOk X.prog X.w H1 s1.heap a (D1 a xs) from I1.hok a _ hd)
 exact⟨"dict",id,F.plainAttrs_dict,slot,hty,⟨ob,g1,g2.1⟩,λb e=>by cases e;exact⟨ob,g1,g2.2.1⟩,Calls.callWith_builtin rfl (PySem.evalArgs_none (hm pj s1 st H1 (.ref a) [] _ [] Q I1 rfl .nil q1))⟩
def QY:MtR X "dict.values" (λx vs H Q=>vs=[]/\∃a xs,x=.ref a/\H a=some (D1 a xs)/\∀b,H b=none->Q (.ref b) (upd H b (PY b a))):=by
 intro pj s st H x ys v us Q I rx rys ⟨e0,a,xs,e,hd,q⟩
 subst e e0
 cases rx
 cases rys
 obtain⟨⟨z,ob,es,ep,g1,g2,g3,g4,ge⟩,_⟩:=(show ObjOk X.prog X.w H s.heap a (D1 a xs) from I.hok a _ hd)
 have ty:s.TypeIs (.ref a) "dict":=⟨ob,g1,g2.1⟩
 have hM:MeetsIn X.prog X.w (Builtin.«dict.values» ⟨[.ref a],[]⟩) (λ_ R s=>s.heap.get? a=some ob/\R (.ok (.ret (.ref s.heap.objs.size))) {s with heap:=s.heap.push {cls:=.type "dict_values",data:=.fields #[.ref a]}}):=.of_wp λA R s ⟨g0,h⟩=>by
  refine Aa ?_
  unfold Builtin.Dict.noArgs
  refine Aa (B0 ⟨ob,g0,g2.1⟩ ?_)
  refine(?_:wpAny _ _ (pure a) _ _ s)
  refine Ab (?_:wpAny _ _ (Builtin.Dict.showsAll a>>=_) _ _ s)
  unfold Builtin.Dict.showsAll
  rw[if_neg (by rw[z];exact AN)]
  exact Aa (Ab (Aa (AX (Ab ⟨_,rfl,h⟩))))
 refine call_meetsIn F.slot_dict_values ty F.entry_dict_values (F.args_dict_values_1 _) hM ⟨g1,?_⟩
 have hp:H s.heap.objs.size=none:=I.hok.fresh (Ae _)
 refine⟨.ref s.heap.objs.size,_,I.laid (t':=s.toks) (o:=PY s.heap.objs.size a) (λb o e=>Ac _ e) (Ae _) ⟨⟨_,Ag _ rfl,rfl,rfl⟩,⟨_,Ag _ rfl⟩,λh1 h2 ⟨o,x1,x2⟩ k=>⟨o,k o x1,x2⟩⟩,rfl,q _ hp⟩
def Q3 (hu:X.A.units+64<cLine)(hc:X.calm=true):Hj X (.builtin "sorted") (λvs H Q=>∃th mu a d ks ds,vs=[.ref a]/\H a=some (PY a d)/\StoOk X.z th mu H/\DcAt X.z th H d ks ds/\ES ds=true/\Tr X.z th H (some (D.lst (FF ds),mu)) (KV' X.z Q)):=by
 intro pj s st H xs us Q I r ⟨th,mu,a,d,ks,ds,e,hv,so,dc,ok,t⟩
 subst e
 obtain⟨u,rfl,ru⟩:=vals1 r
 cases ru
 obtain⟨⟨ov,v1,v2,v3⟩,_⟩:=(show ObjOk X.prog X.w H s.heap a (PY a d) from I.hok a _ hv)
 obtain⟨o,es,ep,ns,g1,g2,g3,sz,_,⟨vs,k1,k2⟩⟩:=MK I dc
 exact K8 hu I so ok t λQ' q=>OK (I.ok.hd hc) sz v1 v2 v3 ⟨o,g1,g3⟩ λh' tk hk=>q _ _ h' tk k1 k2 hk
def LF (a:Ex):Ex:=λro mu=>bM (a ro mu) λd m1=>match DC m1 d with
 |some p=>if ES p.2=true then some (.lst (FF p.2),m1) else none
 |none=>none
theorem DcAt.new {a p:Addr}{ks ds:List D}(h:DcAt K th H a ks ds)(so:StoOk K th mu H)(hp:H p=none)(o:HO):DcAt K th (upd H p o) a ks ds:=by
 obtain⟨xs,h1,h2,h3,h4,h5⟩:=h
 exact⟨xs,by rw[Df (Di h1 hp)];exact h1,h2,h3.ext (.new hp o) so.out,h4.ext (.new hp o) so.out,h5⟩
def Vw (hu:X.A.units+64<cLine)(hc:X.calm=true){o:Expr}{m:Ex}{apos cpos p pos:Pos}(hm:X.mg "sorted"=none)(ho:SV X o m)(hg:Gl X "sorted":=by rfl)(hbase:attributeBase o "values" X.env (eval o X.env)=eval o X.env:=by rfl)(hline:(apos.endLine==cpos.line)=true:=by rfl)
  (hs1:starEach [.Call (.Attribute o "values" apos) [] [] cpos] X.env=(false,eval (.Call (.Attribute o "values" apos) [] [] cpos) X.env)::starEach [] X.env:=by rfl) (hs2:(backTo pos (starEach [] X.env)).any (·.1)=false:=by rfl) :
  SV X (.Call (.Name "sorted" p) [.Call (.Attribute o "values" apos) [] [] cpos] [] pos) (LF m):=
 ⟨PE.weak (Og (Q3 hu hc) hg hm PyProof.Rows.boot_sorted (PB (RH F.slot_dict_values F.type_dict_values QY ho.r hbase hline) S1 hs1) (by decide) (by decide) hs1 hs2) λst H Q h=>by
  obtain⟨th,mu,ro,so,en,t⟩:=h
  refine⟨th,mu,ro,so,en,t.bind.mono λd th1 mu1 H1 e1 s1 t1 v rv=>?_⟩
  cases q:DC mu1 d with
  |none=>rw[q] at t1;exact t1.no.elim
  |some pr =>
   rw[q] at t1
   dsimp only at t1
   by_cases c:ES pr.2=true
   ·rw[if_pos c] at t1
    obtain⟨a,rfl,dc⟩:=D6 s1 q rv
    obtain⟨xs,hx,_⟩:=id dc
    exact⟨⟨a,xs,rfl,hx⟩,rfl,a,xs,rfl,hx,λb hb=>⟨th1,mu1,b,a,pr.1,pr.2,rfl,DX,s1.new hb _,dc.new s1 hb _,c,t1.ahead (.new hb _)⟩⟩
   ·rw[if_neg c] at t1;exact t1.no.elim⟩
end
def YZ (l:Addr)(items:Array Value)(n:Nat)(dd:Option Addr)(sl:Array (Option Value))(x:Value)(e:Value->Bool)(j:Nat)(hj:j<items.size)(hit:e items[j]=true)(hno:∀m (hm:m<items.size),m<j->e items[m]=false) :
  Meets (Builtin.«tuple.index» ⟨[.ref l,x],[]⟩)
   (λA R s=>s.heap.get? l=some {cls:=.type "tuple",dict:=dd,data:=.seq items n,slots:=sl}/\(∀y,y∈items->SeqAt.EqAt A.in1 s y x (e y))/\R (.ok (.ret (.int j s.toks))) {s with toks:=s.toks+1}):=
 .of_wp λprog w A R s h=>by
  obtain⟨hl,he,h⟩:=h
  refine(?_:wpAny _ _ (Builtin.Tuple.tupleItemsOf (.ref l)>>=_) _ _ _)
  refine Aa (wpAny_tupleItemsOf hl rfl (Aa (Ab (Aa (Ab (Aa ?_))))))
  (rw[Std.Legacy.Range.forIn_eq_forIn_range'])
  simp only[Std.Legacy.Range.size,Nat.sub_zero,Nat.add_sub_cancel,Nat.div_one,Nat.min_self]
  refine wpAny_forIn_list _ (λrest b s'=>b=(none,())/\s'=s/\∃i,rest=List.range' i (items.size-i)/\i<=j) _ (λk rest b s' ⟨hb,hs,i,hr,hi⟩=>?_) (λb s' ⟨hb,hs,i,hr,hi⟩=>?_) _ _ ⟨rfl,rfl,0,rfl,A5 _⟩
  ·subst hb hs
   have hlt:i<items.size:=by ext
   rw[show items.size-i=(items.size-(i+1))+1 by ext,List.range'_succ] at hr
   injection hr with h1 h2
   subst h1
   rw[Av hlt]
   refine Aa (he _ (Array.getElem_mem hlt) prog w _ _ ?_)
   cases c:e items[k] with
   |true =>
    have:k=j:=by
     rcases B4 k j with z|z
     ·rw[hno k hlt z] at c;cases c
     ·ext
    subst this
    rw[if_pos rfl]
    refine Aa (Aa (wpAny_mkInt (Ab (Ab ?_))))
    exact Ab ⟨_,rfl,h⟩
   |false =>
    rw[if_neg AN]
    refine Ab ⟨rfl,rfl,k+1,h2,?_⟩
    rcases B4 k j with z|z
    ·ext
    ·have:k=j:=by ext
     subst this
     rw[hit] at c
     cases c
  ·exfalso
   have:items.size-i≠0:=by ext
   cases q:items.size-i with
   |zero=>ext
   |succ m=>rw[q] at hr;cases hr
section
variable {X:Cx}{K:Zc}{th:List Addr}{mu:Sto}{H:Hp}{pj:Zab}{st:L2.St}{s:Shared}
def E9 (ds:List D)(x:D):Nat:=(CJ ds).findIdx λy=>PyData.eqv y (toPy x)
def ON (d:D)(xs:List D)(mu:Sto):Rs D:=match d,Gm xs with
 |.tup ds,some x=>if (Dl x&&EJ ds&&decide (min (PyData.depthAll (CJ ds)) (toPy x).depth<=60)&&decide (E9 ds x<(CJ ds).length))=true then some (.int (E9 ds x:Nat),mu) else none
 |_,_=>none
def OR (o:Ex)(a:Exs):Ex:=λro mu=>bM (o ro mu) λd m1=>match d with
 |.tup ds=>bM (a ro m1) λxs m2=>ON (.tup ds) xs m2
 |_=>none
theorem Tq (hu:X.A.units+64<cLine):MtR X "tuple.index" (λx vs H Q=>∃th mu d ds,StoOk X.z th mu H/\Rep X.z th H d x/\RepL X.z th H ds vs/\Tr X.z th H (ON d ds mu) (KV' X.z Q)):=by
 intro pj s st H x xs v us Q I rx rxs h
 obtain⟨th,mu,d,ds,so,r1,r2,t⟩:=h
 cases d with
 |tup es =>
  unfold ON at t
  cases e:Gm ds with
  |none=>rw[e] at t;exact t.no.elim
  |some y =>
   rw[e] at t
   dsimp only at t
   by_cases c:(Dl y&&EJ es&&decide (min (PyData.depthAll (CJ es)) (toPy y).depth<=60)&&decide (E9 es y<(CJ es).length))=true
   ·rw[if_pos c] at t
    rw[Ai,Ai,Ai,AA,AA] at c
    rw[GP e] at r2
    obtain⟨yv,rfl,ry⟩:=D8 r2
    obtain⟨u,rfl,ru⟩:=vals1 rxs
    unfold Rep at r1
    obtain⟨a,vs,rfl,h1,h2,h3⟩:=r1
    cases rx
    obtain⟨its,rv,⟨o,g1,g2,n,g3⟩,_⟩:=I.tuple h1
    obtain⟨as,w1,w2⟩:=Fj I es vs its c.1.1.2 h2 rv
    obtain⟨bs,w3,w4⟩:=EO I y yv u c.1.1.1 ry ru
    obtain⟨cls,dd,data,sl⟩:=o
    simp only at g2 g3
    subst g2 g3
    have mp:its.map (SeqAt.readOf s.heap)=CJ es:=SeqAt.readsAll_map _ _ _ w2 w1
    have he:∀z,z∈its.toArray->SeqAt.EqAt X.A.in1 s z u (PyData.eqv (SeqAt.readOf s.heap z) (toPy y)):=SeqAt.items_eqAt (A:=X.A) (by simpa using w1) w3 w2 w4 (by ext)
    have ln:its.length=(CJ es).length:=by rw[<- mp,Ak]
    have at':∀m (hm:m<its.toArray.size),PyData.eqv (SeqAt.readOf s.heap its.toArray[m]) (toPy y)=PyData.eqv ((CJ es)[m]'(by rw[<- ln];simpa using hm)) (toPy y):=λm hm=>by
     congr 1
     simp only[<- mp]
     simp
    have lj:E9 es y<its.toArray.size:=by
     have:=c.2
     simpa[ln] using this
    refine call_meets F.slot_tuple_index (show s.TypeIs (.ref a) "tuple" from⟨_,g1,rfl⟩) F.entry_tuple_index (F.args_tuple_index_2 _ _) (YZ a its.toArray n dd sl u (λz=>PyData.eqv (SeqAt.readOf s.heap z) (toPy y)) (E9 es y) lj ?_ λm hm hlt=>?_) ⟨g1,he,?_⟩
    ·rw[at' _ lj]
     exact List.findIdx_getElem (w:=c.2)
    ·rw[at' m hm]
     have:=List.not_of_lt_findIdx hlt
     simpa using this
    ·exact⟨.int _,H,I.tok _,⟨_,rfl⟩,t.ret so _ rfl⟩
   ·rw[if_neg c] at t;exact t.no.elim
 |_=>exact t.no.elim
def Lm {o e:Expr}{m:Ex}{n:Exs}{apos cpos:Pos}(hu:X.A.units+64<cLine)(ho:SV X o m)(ha:SVA X [e] n)(hbase:attributeBase o "index" X.env (eval o X.env)=eval o X.env:=by rfl)
  (hfew:((backTo cpos (starEach [e] X.env)).all (λx=>!x.1)&&(backToKw cpos (keywordEach [] X.env)).all (λx=>x.1.isSome)
   && decide ([e].length+([]:List Keyword).length+(if ([]:List Keyword).isEmpty then 0 else 1)<30))=true:=by rfl)
  (hline:(apos.endLine==cpos.line)=true:=by rfl) (hs:starEach [e] X.env=(false,eval e X.env)::starEach [] X.env:=by rfl) (hplain:(backTo cpos (starEach [] X.env)).any (·.1)=false:=by rfl) :
  SV X (.Call (.Attribute o "index" apos) [e] [] cpos) (OR m n):=
 ⟨PE.weak (YB F.plainAttrs_tuple F.slot_tuple_index F.type_tuple_index (Tq hu) ho.r ha.1 hbase hfew hline hs hplain) λst H Q h=>by
  obtain⟨th,mu,ro,so,en,t⟩:=h
  refine⟨th,mu,ro,so,en,t.bind.mono λd th1 mu1 H1 e1 s1 t1 v rv=>?_⟩
  cases d with
  |tup ds =>
   have rv':=rv
   unfold Rep at rv'
   obtain⟨a,vs,rfl,h1,_⟩:=rv'
   refine⟨⟨a,vs,rfl,h1⟩,th1,mu1,ro,s1,en.ext e1 so.out,?_⟩
   exact Tr.mono (Tr.bind t1) λxs th2 mu2 H2 e2 s2 t2 ws rws=>⟨th2,mu2,.tup ds,xs,s2,rv.ext e2 s1.out,rws,t2⟩
  |_=>exact t1.no.elim⟩
def NW (d:D)(xs:List D)(mu:Sto):Rs D:=match DC mu d,xs with
 |some p,[k]=>if Dn k=true then some ((Dv k p.1 p.2).getD .non,mu) else none
 |some p,[k,y]=>if Dn k=true then some ((Dv k p.1 p.2).getD y,mu) else none
 |_,_=>none
def Qr (hu:X.A.units+64<cLine)(I:L2.Inv X pj st H s){a:Addr}{ks ds:List D}(dc:DcAt X.z th H a ks ds){k:D}{u:Value}(hk:Hd s.heap k u){as:List Value}{yd:Value}(has:as=[]/\yd=.none\/as=[yd]){Q:Value->Zaa}
  (q1:∀d,Dv k ks ds=some d->∀v r,Rep X.z th H d v->RelV v r->∀tk,Q r {s with toks:=tk}) (q2:Dv k ks ds=none->∀tk,Q yd {s with toks:=tk}):wpAny (model X.prog X.w) X.A (call (.builtin "dict.get") (.ref a::u::as)) Q X.xe s:=by
 obtain⟨ty,ns,_⟩:=NP I dc
 have go:wpAny (model X.prog X.w) X.A.in1 (Builtin.«dict.get» ⟨.ref a::u::as,[]⟩) (λfin s'=>∃v,fin=.done (.ret v)/\Q v s') X.xe s:=by
  rcases has with⟨rfl,rfl⟩|rfl
  ·refine(?_:wpAny _ _ (dictGet a u>>=_) _ _ s)
   cases e:Dv k ks ds with
   |some d =>
    obtain⟨v,r,x1,x2,x3⟩:=Mp I dc hk e
    exact Aa (x3 (by rw[Around.in1_units];ext) λtk=>Ab ⟨r,rfl,q1 d e v r x1 x2 tk⟩)
   |none =>
    refine Aa (Mv (A:=X.A.in1) I dc hk e (by rw[Around.in1_units];ext) λtk=>?_)
    exact Aa (wpAny_missed_other ns (Ab ⟨_,rfl,q2 e tk⟩))
  ·refine(?_:wpAny _ _ (dictGet a u>>=_) _ _ s)
   cases e:Dv k ks ds with
   |some d =>
    obtain⟨v,r,x1,x2,x3⟩:=Mp I dc hk e
    exact Aa (x3 (by rw[Around.in1_units];ext) λtk=>Ab ⟨r,rfl,q1 d e v r x1 x2 tk⟩)
   |none =>
    refine Aa (Mv (A:=X.A.in1) I dc hk e (by rw[Around.in1_units];ext) λtk=>?_)
    exact Aa (wpAny_missed_other ns (Ab ⟨_,rfl,q2 e tk⟩))
 rcases has with⟨rfl,rfl⟩|rfl
 ·exact AE F.slot_dict_get ty F.entry_dict_get go (F.args_dict_get_2 _ _)
 ·exact AE F.slot_dict_get ty F.entry_dict_get go (F.args_dict_get_3 _ _ _)
theorem WT (hu:X.A.units+64<cLine):MtR X "dict.get" (λx vs H Q=>∃th mu d ds,StoOk X.z th mu H/\Rep X.z th H d x/\RepL X.z th H ds vs/\Tr X.z th H (NW d ds mu) (KV' X.z Q)):=by
 intro pj s st H x xs v us Q I rx rxs h
 obtain⟨th,mu,d,ds,so,r1,r2,t⟩:=h
 unfold NW at t
 cases e:DC mu d with
 |none=>rw[e] at t;exact t.no.elim
 |some p =>
  rw[e] at t
  obtain⟨a,rfl,dc⟩:=D6 so e r1
  cases rx
  match ds,r2,t with
  |[],_,t=>exact t.no.elim
  |[k],r2,t =>
   dsimp only at t
   by_cases c:Dn k=true
   ·rw[if_pos c] at t
    obtain⟨kv,rfl,rk⟩:=D8 r2
    obtain⟨u,rfl,ru⟩:=vals1 rxs
    refine Qr hu I dc (Ic I c rk ru) (.inl ⟨rfl,rfl⟩) (λd' e' v' r' z1 z2 tk=>?_) λe' tk=>?_
    ·rw[e'] at t
     exact⟨v',H,I.tok _,z2,t.ret so _ z1⟩
    ·rw[e'] at t
     exact⟨.non,H,I.tok _,rfl,t.ret so _ rfl⟩
   ·rw[if_neg c] at t;exact t.no.elim
  |[k,y],r2,t =>
   dsimp only at t
   by_cases c:Dn k=true
   ·rw[if_pos c] at t
    obtain⟨kv,yv,rfl,rk,ry⟩:=HB r2
    obtain⟨u,w',rfl,ru,rw'⟩:=vals2 rxs
    refine Qr hu I dc (Ic I c rk ru) (.inr rfl) (λd' e' v' r' z1 z2 tk=>?_) λe' tk=>?_
    ·rw[e'] at t
     exact⟨v',H,I.tok _,z2,t.ret so _ z1⟩
    ·rw[e'] at t
     exact⟨yv,H,I.tok _,rw',t.ret so _ ry⟩
   ·rw[if_neg c] at t;exact t.no.elim
  |_::_::_::_,_,t=>exact t.no.elim
def tBD (r:V->List V->Hp->VK->Prop)(to:TE)(t:TA):TE:=fun σ H Q=>to σ H λx H1=>(∃a xs,x=.ref a/\H1 a=some (D1 a xs))/\t σ H1 λvs H2=>r x vs H2 Q
def Wm {o e:Expr}{es:List Expr}{to:TE}{t:TA}{name:Str}{apos cpos:Pos}{id:String}{r:V->List V->Hp->VK->Prop}(slot:Slot "dict" name id)(hty:typeOf (.builtin id)=pure (.type "method_descriptor"))(hm:MtR X id r)(ho:PE X o to)(ha:PA X (e::es) t)
  (hbase:attributeBase o name X.env (eval o X.env)=eval o X.env)
  (hfew:((backTo cpos (starEach (e::es) X.env)).all (λx=>!x.1)&&(backToKw cpos (keywordEach [] X.env)).all (λx=>x.1.isSome)
   && decide ((e::es).length+([]:List Keyword).length+(if ([]:List Keyword).isEmpty then 0 else 1)<30))=true)
  (hline:(apos.endLine==cpos.line)=true) (hs:starEach (e::es) X.env=(false,eval e X.env)::starEach es X.env) (hplain:(backTo cpos (starEach es X.env)).any (·.1)=false) :
  PE X (.Call (.Attribute o name apos) (e::es) [] cpos) (tBD r to t):=by
 intro pj s st H Q I h
 refine wpAny_Call_method_late hbase hfew hline rfl (thn (ho pj s st H _ I h) λv s1 ⟨x,H1,I1,r1,⟨a,xs,ex,hd⟩,q1⟩=>?_)
 subst ex
 cases r1
 obtain⟨⟨z,ob,es',ep,g1,g2,g3,g4,ge⟩,_⟩:=(show ObjOk X.prog X.w H1 s1.heap a (D1 a xs) from I1.hok a _ hd)
 refine⟨"dict",id,F.plainAttrs_dict,slot,hty,⟨ob,g1,g2.1⟩,λb e=>by cases e;exact⟨ob,g1,g2.2.1⟩,?_⟩
 have hA:=ha cpos pj s1 st H1 _ I1 q1
 rw[hs] at hA ⊢
 refine Calls.callWith_builtin (by show(false||(backTo cpos (starEach es X.env)).any (·.1))=false;rw[hplain]<;>rfl) (Calls.evalArgs_plain ?_)
 exact thn hA λus s2 ⟨vs,H2,I2,r2,q2⟩=>hm pj s2 st H2 (.ref a) vs (.ref a) us Q I2 rfl r2 q2
def Gu (o:Ex)(a:Exs):Ex:=λro mu=>bM (o ro mu) λd m1=>if (DC m1 d).isSome=true then bM (a ro m1) λxs m2=>NW d xs m2 else none
def Jp (hu:X.A.units+64<cLine){o e:Expr}{es:List Expr}{m:Ex}{n:Exs}{apos cpos:Pos}(ho:SV X o m)(ha:SVA X (e::es) n)(hbase:attributeBase o "get" X.env (eval o X.env)=eval o X.env:=by rfl)
  (hfew:((backTo cpos (starEach (e::es) X.env)).all (λx=>!x.1)&&(backToKw cpos (keywordEach [] X.env)).all (λx=>x.1.isSome)
   && decide ((e::es).length+([]:List Keyword).length+(if ([]:List Keyword).isEmpty then 0 else 1)<30))=true:=by rfl)
  (hline:(apos.endLine==cpos.line)=true:=by rfl) (hs:starEach (e::es) X.env=(false,eval e X.env)::starEach es X.env:=by rfl) (hplain:(backTo cpos (starEach es X.env)).any (·.1)=false:=by rfl) :
  SV X (.Call (.Attribute o "get" apos) (e::es) [] cpos) (Gu m n):=
 ⟨PE.weak (Wm F.slot_dict_get F.type_dict_get (WT hu) ho.r ha.1 hbase hfew hline hs hplain) λst H Q h=>by
  obtain⟨th,mu,ro,so,en,t⟩:=h
  refine⟨th,mu,ro,so,en,t.bind.mono λd th1 mu1 H1 e1 s1 t1 v rv=>?_⟩
  cases q:DC mu1 d with
  |none=>rw[q] at t1;exact t1.no.elim
  |some pr =>
   rw[q] at t1
   rw[if_pos (show(some pr).isSome=true from rfl)] at t1
   obtain⟨a,rfl,dc⟩:=D6 s1 q rv
   obtain⟨xs,hx,_⟩:=id dc
   refine⟨⟨a,xs,rfl,hx⟩,th1,mu1,ro,s1,en.ext e1 so.out,?_⟩
   exact Tr.mono (Tr.bind t1) λys th2 mu2 H2 e2 s2 t2 ws rws=>⟨th2,mu2,d,ys,s2,rv.ext e2 s1.out,rws,t2⟩⟩
end
section
variable {X:Cx}{K:Zc}{th:List Addr}{mu:Sto}{H:Hp}{pj:Zab}{st:L2.St}{s:Shared}{A:Around}{E:Value->Zaa}
def Yy (I:L2.Inv X pj st H s){a:Addr}{ks ds:List D}(h:DcAt X.z th H a ks ds)(ext:∀xs,Ext th H th (upd H a (D1 a xs)))(so:StoOk X.z th mu H){k v:D}{kv vv:V}{u r:Value}(hk:Dn k=true)(rk:Rep X.z th H k kv)(ru:RelV kv u)(rv:Rep X.z th H v vv)(rr:RelV vv r)(lt:ks.length<sizeLine)(hu:A.units+8<cLine)
  {Q:Value->Zaa} (q1:∀d,Dv k ks ds=some d->∀v' r',Rep X.z th H d v'->RelV v' r'->∀tk,Q r' {s with toks:=tk})
  (q2:Dv k ks ds=none->∀s' xs',L2.Inv X pj st (upd H a (D1 a xs')) s'->DcAt X.z th (upd H a (D1 a xs')) a (ks++[k]) (ds++[v])->Q r s'):wpAny (model X.prog X.w) A (dictSetDefault a u r) Q E s:=by
 have hd:=Ic I hk rk ru
 obtain⟨xs',h1',h2,h3,h4,h5⟩:=id h
 obtain⟨⟨z',o,es,ep,g1,g2,g3,g4,ge⟩,_⟩:=(show ObjOk X.prog X.w H s.heap a (D1 a xs') from I.hok a _ h1')
 obtain⟨xs,o',es',ep',h1,g⟩:=Hs I h
 have g1':=g.at'
 rw[g1] at g1'
 cases g1'
 have g3':=g.dt
 rw[g3] at g3'
 cases g3'
 have mu1:Mut (H a):=by rw[h1'];exact True.intro
 unfold dictSetDefault
 refine AG (Aa (hd.hash hu λtk=>?_))
 refine Aa (JU (s:={s with toks:=tk}) hu hd g1 g3 g.en h5.nd (λz=>?_) λj ej=>?_)
 ·have hz0:es.size<=sizeLine:=by rw[<- Array.length_toList,<- DF g.en];ext
  refine Aa (A7 (Aa (wpAny_updateDictKeys (s:={s with toks:=tk}) g1 g3 (hz:=hz0) (Ab ?_))))
  have so1:=AJ (Obj.mapDictKeys (·.push ⟨DK X.w k,u,r⟩)) g1 (BV (B5 g3 _))
  refine q2 (F1 z) _ (xs'++[(DK X.w k,kv,vv)]) (I.write (x:=a) (e:=a) (t':=tk) mu1 (.inl rfl) (λb ob hb e=>((AD ..).2 b hb).trans e) ⟨_,so1⟩ (IZ ⟨z',_,_,ep+1,so1,g2.mapDictKeys _,B5 g3 _,?_,by rw[Bq,ge]⟩)) ?_
  ·rw[BI]
   exact Hb g4 (.cons ⟨rfl,ru,rr⟩ .nil)
  ·have ex:=ext (xs'++[(DK X.w k,kv,vv)])
   refine⟨_,DX,?_,?_,?_,?_⟩
   ·rw[AS,h2,DP,DP,AS];rfl
   ·rw[AS];exact(h3.ext ex so.out).app (.cons (rk.ext ex so.out) .nil)
   ·rw[AS];exact(h4.ext ex so.out).app (.cons (rv.ext ex so.out) .nil)
   ·refine⟨by rw[As];exact lt,?_,λk' hk'=>?_⟩
    ·refine Bb.mpr ⟨h5.nd,by simp,λx hx y hy=>?_⟩
     rw[Ah.mp hy]
     exactλe=>z (e▸hx)
    ·rcases AF.mp hk' with w'|w'
     ·exact h5.ok k' w'
     ·rw[Ah.mp w'];exact hk
 ·have dl:=(Pn h).1
  have jl:j<ds.length:=by rw[dl];exact(Ad.mp ej).1
  have eg:Dv k ks ds=some ds[j]:=by rw[GZ h5.nd ej,Al jl]
  obtain⟨v',v1,v2⟩:=h4.get (Al jl)
  obtain⟨en,e1,e2⟩:=(DZ g.en j).1 k ej
  obtain⟨x,x1,x2,x3,x4⟩:=(DZ g4 j).2 en e1
  rw[Am,x1] at v1
  have v1':x.2.2=v':=by simpa using v1
  rw[Af] at e1
  refine Aa (Bc (s:={s with toks:=tk}) g1 g3 ?_)
  rw[e1]
  exact Aa (A7 (Ab (q1 _ eg v' en.val v2 (v1'▸x4) tk)))
def Um (d:D)(xs:List D)(mu:Sto):Rs D:=match d,xs with
 |.ref kk,[k,y]=>match mu[kk]? with
  |some (.dct ks ds)=>if Dn k=true/\ks.length<sizeLine then (match Dv k ks ds with
    |some v=>some (v,mu)
    |none=>some (y,mu.set kk (.dct (ks++[k]) (ds++[y])))) else none
  |_=>none
 |_,_=>none
def YG (hu:X.A.units+64<cLine):MtR X "dict.setdefault" (λx vs H Q=>∃th mu d ds,StoOk X.z th mu H/\Rep X.z th H d x/\RepL X.z th H ds vs/\Tr X.z th H (Um d ds mu) (KV' X.z Q)):=by
 intro pj s st H x xs v us Q I rx rxs h
 obtain⟨th,mu,d,ds0,so,r1,r2,t⟩:=h
 unfold Um at t
 split at t
 ·rename_i kk k y
  split at t
  ·rename_i ks ds em
   by_cases c:Dn k=true/\ks.length<sizeLine
   ·rw[if_pos c] at t
    unfold Rep at r1
    obtain⟨a,rfl,ha⟩:=r1
    have dc:DcAt X.z th H a ks ds:=so.at' kk a _ ha em
    obtain⟨ty,ns,_⟩:=NP I dc
    cases rx
    obtain⟨kv,yv,rfl,rk,ry⟩:=HB r2
    obtain⟨u,w',rfl,ru,rw'⟩:=vals2 rxs
    refine AE F.slot_dict_setdefault ty F.entry_dict_setdefault ?_ (F.args_dict_setdefault_3 _ _ _)
    unfold Builtin.«dict.setdefault» Builtin.Dict.keyAndDefault
    refine Aa (Aa (B0 ty (?_:wpAny _ _ (pure (a,u,some w')) _ _ s)))
    refine Ab (?_:wpAny _ _ (if (a==sysModules)=true then _ else (dictSetDefault a u w'>>=_)) _ _ s)
    rw[if_neg (by rw[ns];exact AN)]
    refine Aa (Yy (A:=X.A.in1) I dc (λxs=>.mut (Aj ha) _) so c.1 rk ru ry rw' c.2 (by rw[Around.in1_units];ext) (λd' e' v' r' z1 z2 tk=>Ab ⟨r',rfl,?_⟩) λe' s' xs' I' dc'=>Ab ⟨w',rfl,?_⟩)
    ·rw[e'] at t
     exact⟨v',H,I.tok _,z2,t.ret so _ z1⟩
    ·rw[e'] at t
     exact⟨yv,_,I',rw',t.retX (.mut (Aj ha) _) (so.putG ha _ _ dc') _ (ry.ext (.mut (Aj ha) _) so.out)⟩
   ·rw[if_neg c] at t;exact t.no.elim
  ·exact t.no.elim
 ·exact t.no.elim
def Pa (o:Ex)(a:Exs):Ex:=λro mu=>bM (o ro mu) λd m1=>if (DC m1 d).isSome=true then bM (a ro m1) λxs m2=>Um d xs m2 else none
def TC (hu:X.A.units+64<cLine){o e:Expr}{es:List Expr}{m:Ex}{n:Exs}{apos cpos:Pos}(ho:SV X o m)(ha:SVA X (e::es) n)(hbase:attributeBase o "setdefault" X.env (eval o X.env)=eval o X.env:=by rfl)
  (hfew:((backTo cpos (starEach (e::es) X.env)).all (λx=>!x.1)&&(backToKw cpos (keywordEach [] X.env)).all (λx=>x.1.isSome)
   && decide ((e::es).length+([]:List Keyword).length+(if ([]:List Keyword).isEmpty then 0 else 1)<30))=true:=by rfl)
  (hline:(apos.endLine==cpos.line)=true:=by rfl) (hs:starEach (e::es) X.env=(false,eval e X.env)::starEach es X.env:=by rfl) (hplain:(backTo cpos (starEach es X.env)).any (·.1)=false:=by rfl) :
  SV X (.Call (.Attribute o "setdefault" apos) (e::es) [] cpos) (Pa m n):=
 ⟨PE.weak (Wm F.slot_dict_setdefault F.type_dict_setdefault (YG hu) ho.r ha.1 hbase hfew hline hs hplain) λst H Q h=>by
  obtain⟨th,mu,ro,so,en,t⟩:=h
  refine⟨th,mu,ro,so,en,t.bind.mono λd th1 mu1 H1 e1 s1 t1 v rv=>?_⟩
  cases q:DC mu1 d with
  |none=>rw[q] at t1;exact t1.no.elim
  |some pr =>
   rw[q] at t1
   rw[if_pos (show(some pr).isSome=true from rfl)] at t1
   obtain⟨a,rfl,dc⟩:=D6 s1 q rv
   obtain⟨xs,hx,_⟩:=id dc
   refine⟨⟨a,xs,rfl,hx⟩,th1,mu1,ro,s1,en.ext e1 so.out,?_⟩
   exact Tr.mono (Tr.bind t1) λys th2 mu2 H2 e2 s2 t2 ws rws=>⟨th2,mu2,d,ys,s2,rv.ext e2 s1.out,rws,t2⟩⟩
end
end PV
namespace L2
open PySem PySem.Spec PyProof.Rows
inductive IsC:Expr->List Comprehension->Prop
 |l {elt gens sc pos}:IsC (.ListComp elt gens sc pos) gens
 |d {k v gens sc pos}:IsC (.DictComp k v gens sc pos) gens
def GL (g:Comprehension)(it:Value)(env:Env)(step:Sem Unit)(c:Code):Sem Fin:=do
 standAt g.iter.pos
 match<-pyNext it with
 |none=>pure (.done .next)
 |some v =>
  letOwnedTupleGo g.target it v
  assign g.target env v
  let mut ok:=true
  for c in g.ifs do
   if ok then ok<-isTrue c env (eval c env)
  if ok then step
  again c
def Qp (elt:Expr)(acc:Value)(env:Env):Sem Unit:=do let _<-call (.builtin "list.append") [acc,<- eval elt env]
def Mf (kx vx:Expr)(D:Addr)(env:Env):Sem Unit:=do
 let kv<-eval kx env
 let vv<-holding [kv] (eval vx env)
 standAt {kx.pos with endLine:=vx.pos.endLine,endCol:=vx.pos.endCol}
 holding [kv,vv] (dictSet D kv vv)
def deeper (e iter:Expr)(acc:Value)(env:Env):Sem Unit:=do
 let x<-eval iter env
 standAt iter.pos
 let x<-foldedSetIterable iter env x
 let _<-runOwn (.compStart e 1 (<- holding [x] (pyIter x)) acc env) env
theorem Vt {elt t i ifs sc pos it acc env}:compTurn (.ListComp elt [⟨t,i,ifs,0⟩] sc pos) 0 it acc env=GL ⟨t,i,ifs,0⟩ it env (Qp elt acc env) (.compLoop (.ListComp elt [⟨t,i,ifs,0⟩] sc pos) 0 it acc env):=rfl
theorem Uo {k v t i ifs sc pos it D env}:compTurn (.DictComp k v [⟨t,i,ifs,0⟩] sc pos) 0 it (.ref D) env=GL ⟨t,i,ifs,0⟩ it env (Mf k v D env) (.compLoop (.DictComp k v [⟨t,i,ifs,0⟩] sc pos) 0 it (.ref D) env):=rfl
def UH {k v t i ifs t2 i2 ifs2 sc pos it D env}:compTurn (.DictComp k v [⟨t,i,ifs,0⟩,⟨t2,i2,ifs2,0⟩] sc pos) 0 it (.ref D) env=GL ⟨t,i,ifs,0⟩ it env (deeper (.DictComp k v [⟨t,i,ifs,0⟩,⟨t2,i2,ifs2,0⟩] sc pos) i2 (.ref D) env) (.compLoop (.DictComp k v [⟨t,i,ifs,0⟩,⟨t2,i2,ifs2,0⟩] sc pos) 0 it (.ref D) env):=by
 unfold GL deeper
 simp only[bind_assoc,pure_bind]
 rfl
theorem Vl {k v t i ifs t2 i2 ifs2 sc pos it D env}:compTurn (.DictComp k v [⟨t,i,ifs,0⟩,⟨t2,i2,ifs2,0⟩] sc pos) 1 it (.ref D) env=GL ⟨t2,i2,ifs2,0⟩ it env (Mf k v D env) (.compLoop (.DictComp k v [⟨t,i,ifs,0⟩,⟨t2,i2,ifs2,0⟩] sc pos) 1 it (.ref D) env):=rfl
section
variable {prog:Program}{w:World}{A:Around}{R:Result->Zaa}{s:Shared}{e:Expr}{gens:List Comprehension}{g:Comprehension}{depth:Nat}{it acc:Value}{env:Env}{step:Sem Unit}
theorem Z9 (hc:IsC e gens)(heq:compTurn e depth it acc env=GL g it env step (.compLoop e depth it acc env))(J:Nat->Zaa)
  (turn:∀(n:Nat) (z:Shared),J n z->Go prog w A (pyNext it) (λr z1=>match r with
   |.none=>R (.ok .next) z1
   |.some v=>Go prog w A (letOwnedTupleGo g.target it v) (λ_ s1=>Go prog w A (assign g.target env v) (λ_ s2=>Go prog w A (tests env g.ifs) (λok s3 =>
     if ok=true then Go prog w A step (λ_ z2=>∃m,m<n/\J m z2) s3 else ∃m,m<n/\J m s3) s2) s1) z1) z) (n:Nat) (h:J n s) :
  codeAny (model prog w) A (Code.compLoop e depth it acc env) R s:=by
 have st:∀(n:Nat) (z:Shared),J n z->Go prog w A (compTurn e depth it acc env)
   (λfin z'=>match fin with
    |.done f=>R (.ok f) z'
    |.again c'=>c'=Code.compLoop e depth it acc env/\∃m,m<n/\J m z') z:=by
  intro n z hz
  rw[heq]
  unfold GL
  refine Aa (wpAny_standAt (Aa (thn (turn n z hz) λr z1 h1=>?_)))
  cases r with
  |none=>exact Ab h1
  |some v =>
   refine Aa (thn h1 λ_ z2 h2=>Aa (thn h2 λ_ z3 h3=>Aa (thn h3 λok z4 h4=>?_)))
   cases ok with
   |false=>exact Ab (And.intro rfl h4)
   |true=>exact Aa (thn h4 λx z5 h5=>Ab (And.intro rfl h5))
 cases hc with
 |l=>exact codeAny_loop rfl J (λn z hz=>wpAny_noted (B1 (st n z hz) (λ_ _ q=>q) λ_ _ q=>q.elim)) n h
 |d=>exact codeAny_loop rfl J (λn z hz=>wpAny_noted (B1 (st n z hz) (λ_ _ q=>q) λ_ _ q=>q.elim)) n h
theorem SH (hc:IsC e gens)(hg:gens[depth]?=some g)(ha:g.is_async=0)
  (h0:codeAny (model prog w) A (.compLoop e depth it acc env) R s)
  (h:wpAny (model prog w) A (pyIter it) (λit' s'=>codeAny (model prog w) A (.compLoop e depth it' acc env) R s') (notedBy (model prog w) A env λx s'=>R (.error x) s') s) :
  codeAny (model prog w) A (.compStart e depth it acc env) R s:=by
 have st:wpAny (model prog w) A (compStart e depth it acc env) (λfin s'=>match fin with
    |.done f=>R (.ok f) s'
    |.again c'=>c'.quiet=true/\codeAny (model prog w) A c' R s') (notedBy (model prog w) A env λx s'=>R (.error x) s') s:=by
  have cl:clausesOf e=gens:=by cases hc<;>rfl
  have qt:(Code.compLoop e depth it acc env).quiet=true:=by cases hc<;>rfl
  have qt':∀it',(Code.compLoop e depth it' acc env).quiet=true:=λit'=>by cases hc<;>rfl
  unfold compStart
  rw[cl,hg]
  simp only[Option.elim,ha,bne_self_eq_false,AV,Bt,pure_bind]
  refine Aa (wpAny_askSetting (wpAny_ite ?_))
  split
  ·first
    |exact Aa (Ab (Ab (And.intro qt h0)))
    |exact Ab (And.intro qt h0)
  ·exact Aa (A7 (Aa (wpAny_standAt (Aa (B1 h (λit' s' h'=>Ab (And.intro (qt' _) h')) λ_ _ x=>x)))))
 cases hc with
 |l =>
  refine codeAny_of_tree ?_
  exact wpAny_notedAt (B1 st (λfin _ q=>q) λ_ _ q=>q)
 |d =>
  refine codeAny_of_tree ?_
  exact wpAny_notedAt (B1 st (λfin _ q=>q) λ_ _ q=>q)
end
abbrev TM (α:Type):=α->St->Hp->(α->St->Hp->Prop)->Prop
structure Acc (α:Type) where
 ao:α->Obj->Prop
 nc:∀a o,ao a o->∀v,o.data≠.cell v
structure DOk (X:Cx) (D:Addr):Prop where
 up:X.s₀.heap.objs.size<=D
 nl:D≠X.env.locals
 nf:D∉X.fs
 cl:∀x c,X.env.cells.lookup x=some c->c≠D
 pn:∀p∈X.pn,p.1≠D
def PM (X:Cx){α:Type}(K:Acc α)(D:Addr)(m:Sem Unit)(t:TM α):Prop:=
 ∀(pj:Zab) (s:Shared) (σ:St) (H:Hp) (Q:α->St->Hp->Prop) (a:α) (o:Obj),K.ao a o->(∀p∈pj,p.1≠D)->Inv X (pj++[(D,o)]) σ H s->t a σ H Q ->
  wpAny (model X.prog X.w) X.A m (λ_ s'=>∃a' o' σ' H',K.ao a' o'/\Inv X (pj++[(D,o')]) σ' H' s'/\Q a' σ' H') X.xe s
def CGo {α:Type}(J:It)(g:TG)(tt:TT)(tm:TM α)(a:α)(σ:St)(H:Hp)(Q:α->St->Hp->Prop):Prop:=
 ∃W:Nat->Nat->α->St->Hp->Prop,(∃m,W 0 m a σ H)/\∀i m a σ' H',W i m a σ' H' ->
  ((J.stop i H'/\Q a σ' H') \/
   (J.go i H'/\∀x H2,J.yld i H' x H2->g x σ' H2 fun σ3 H3=>tt σ3 H3 λb H4 =>
    if b=true then tm a σ3 H4 λa' σ5 H5=>∃m',m'<m/\W (i+1) m' a' σ5 H5 else ∃m',m'<m/\W (i+1) m' a σ3 H4))
section
variable {X:Cx} {α:Type}{K:Acc α}{D:Addr}{R:Result->Zaa}{e:Expr}{gens:List Comprehension}{g:Comprehension}{depth:Nat}{step:Sem Unit}{tg:TG}{tt:TT}{tm:TM α}
def Inv.pins_sub {pj pins':Zab}{σ:St}{H:Hp}{s:Shared}(I:Inv X pj σ H s)(h:∀p∈pins',p∈pj):Inv X pins' σ H s:=I.pins_of λp hp=>I.pin p (Aq _ (h p hp))
def cgo (hc:IsC e gens)(hcalm:X.calm=true)(hx:X.xe=λ_ _=>False){it:Addr}(heq:compTurn e depth (.ref it) (.ref D) X.env=GL g (.ref it) X.env step (.compLoop e depth (.ref it) (.ref D) X.env))
  (hg:PG X g.target tg) (ht:PF X g.ifs tt) (hm:PM X K D step tm){J:It}{fp:List Addr}{tn:Nat->Heap->Prop} (T:Turn X.prog X.w X.K g.target J fp it tn)
  {pj:Zab}{s:Shared} {σ:St}{H:Hp}{a:α}{o:Obj}{Q:α->St->Hp->Prop} (ao:K.ao a o) (I:Inv X (pj++[(D,o)]) σ H s) (st:tn 0 s.heap) (f:∀b∈fp,HS X pj H b) (fD:∀b∈fp,D≠b) (pD:∀p∈pj,p.1≠D)
  (w:CGo J tg tt tm a σ H Q) (fin:∀s' a' o' σ' H',K.ao a' o'->Inv X (pj++[(D,o')]) σ' H' s'->Q a' σ' H'->R (.ok .next) s') :
  codeAny (model X.prog X.w) X.A (.compLoop e depth (.ref it) (.ref D) X.env) R s:=by
 obtain⟨W,⟨m0,w0⟩,turn⟩:=w
 have stat:∀{H':Hp} (o':Obj),(∀b∈fp,H' b=none)->∀b∈fp,HS X (pj++[(D,o')]) H' b:=λ{H'} o' hn b hb=>by
  obtain⟨_,f1,f2,f3,f4,f5⟩:=f b hb
  refine⟨hn b hb,f1,f2,f3,f4,λp hp=>?_⟩
  rcases AF.mp hp with z|z
  ·exact f5 p (A0 _ z)
  ·rcases AF.mp z with z|z
   ·exact f5 p (Aq _ z)
   ·rw[Ah.mp z];exact fD b hb
 refine Z9 hc heq (λn s'=>∃i a o σ' H',K.ao a o/\Inv X (pj++[(D,o)]) σ' H' s'/\tn i s'.heap/\(∀b∈fp,H' b=none)/\W i n a σ' H') ?_ m0 ⟨0,a,o,σ,H,ao,I,st,λb hb=>(f b hb).1,w0⟩
 rintro n s3 ⟨i,a3,o3,σ3,H3,ao3,I3,st3,fr3,w3⟩
 rcases turn i n a3 σ3 H3 w3 with⟨stop,qn⟩|⟨go,stp⟩
 ·refine thn (T.done X rfl rfl rfl hcalm i _ s3 σ3 H3 (λ_ _=>False) I3 (stat o3 fr3) st3 stop) λr s4 ⟨hr,I4⟩=>?_
  subst hr
  exact fin s4 a3 o3 σ3 H3 ao3 I4 qn
 ·refine thn (T.item X rfl rfl rfl hcalm i _ s3 σ3 H3 (λ_ _=>False) I3 (stat o3 fr3) st3 go) λr s4 ⟨u,hr,h4⟩=>?_
  subst hr
  refine thn h4 λ_ s5 ⟨x,H5,I5,r5,y5,st5,fr5⟩=>?_
  have I5':=I5.pinned (stat o3 fr5) (T.obj _ _ st5)
  have a1:=hg _ s5 σ3 H5 x u _ I5' r5 (stp x H5 y5)
  rw[hx] at a1
  refine thn a1 λ_ s6 ⟨σ6,H6,I6,q6⟩=>?_
  have b1:=ht _ s6 σ6 H6 _ I6 q6
  rw[hx] at b1
  refine thn b1 λok s7 ⟨H7,I7,q7⟩=>?_
  have keep:∀{s':Shared}{pl:Zab} {σ':St}{H':Hp},Inv X pl σ' H' s'->(∀p∈IU fp s5.heap,p∈pl)->tn (i+1) s'.heap/\∀b∈fp,H' b=none:=λ{s' pl σ' H'} J' hs=>by
   refine⟨T.keep _ _ _ st5 λb hb o e=>(J'.pin (b,o) (Aq _ (hs _ (Hy hb e)))).1,λb hb=>?_⟩
   obtain⟨o,e,_⟩:=T.obj _ _ st5 b hb
   exact(J'.pin (b,o) (Aq _ (hs _ (Hy hb e)))).2.1
  cases ok with
  |false =>
   rw[if_neg AN] at q7 ⊢
   obtain⟨m',hm',w7⟩:=q7
   obtain⟨k1,k2⟩:=keep I7 λp hp=>Aq _ hp
   exact⟨m',hm',i+1,a3,o3,σ6,H7,ao3,I7.unpinned,k1,k2,w7⟩
  |true =>
   rw[if_pos rfl] at q7 ⊢
   have I8:Inv X ((pj++IU fp s5.heap)++[(D,o3)]) σ6 H7 s7:=I7.pins_sub λp hp=>by
    simp only[AF] at hp ⊢
    rcases hp with(z|z)|z
    ·exact .inl (.inl z)
    ·exact .inr z
    ·exact .inl (.inr z)
   have c1:=hm (pj++IU fp s5.heap) s7 σ6 H7 _ a3 o3 ao3 (λp hp=>by
    rcases AF.mp hp with z|z
    ·exact pD p z
    ·exact Ne.symm (fD p.1 (LQ z).1)) I8 q7
   rw[hx] at c1
   refine thn c1 λ_ s9 ⟨a9,o9,σ9,H9,ao9,I9,m',hm',w9⟩=>?_
   obtain⟨k1,k2⟩:=keep I9 λp hp=>A0 _ (Aq _ hp)
   exact⟨m',hm',i+1,a9,o9,σ9,H9,ao9,I9.pins_sub λp hp=>by
    simp only[AF] at hp ⊢
    rcases hp with z|z
    ·exact .inl (.inl z)
    ·exact .inr z,k1,k2,w9⟩
def Qv (hc:IsC e gens)(hcalm:X.calm=true)(hx:X.xe=λ_ _=>False){g2:Comprehension}{wi:TI}(hgn:gens[1]?=some g2)(ha:g2.is_async=0)(hi:PI X g2.target g2.iter wi)(hs:∀x,foldedSetIterable g2.iter X.env x=pure x)
  (heq:∀it,compTurn e 1 (.ref it) (.ref D) X.env=GL g2 (.ref it) X.env step (.compLoop e 1 (.ref it) (.ref D) X.env))
  (hg:PG X g2.target tg) (ht:PF X g2.ifs tt) (hm:PM X K D step tm):PM X K D (deeper e g2.iter (.ref D) X.env) (λa σ H Q=>wi σ H λJ H1=>CGo J tg tt tm a σ H1 Q):=by
 intro pj s σ H Q a o ao pD I h
 unfold deeper
 refine Aa (thn (hi _ s σ H _ I h) λv s1 h1=>Aa (wpAny_standAt (Aa (wpAny_of_eq (hs v) (Aa (AG (thn h1 λitv s2 h2=>?_)))))))
 obtain⟨it,fp,tn,J,H2,e2,I2,T,st2,f2,w⟩:=h2
 subst e2
 have f':∀b∈fp,HS X pj H2 b:=λb hb=>by
  obtain⟨f0,f1,f2,f3,f4,f5⟩:=f2 b hb
  exact⟨f0,f1,f2,f3,f4,λp hp=>f5 p (by rcases AF.mp hp with z|z;exact A0 _ z;exact Aq _ (A0 _ z))⟩
 have fD:∀b∈fp,D≠b:=λb hb=>(f2 b hb).2.2.2.2.2 (D,o) (Aq _ (Aq _ (Ah.mpr rfl)))
 refine Aa (wpAny_runOwn ?_)
 have loop:codeAny (model X.prog X.w) X.A (.compLoop e 1 (.ref it) (.ref D) X.env) (λr s'=>match r with|.ok f=>wpAny (model X.prog X.w) X.A (pure PUnit.unit) (λ_ s'=>∃a' o' σ' H',K.ao a' o'/\Inv X (pj++[(D,o')]) σ' H' s'/\Q a' σ' H') X.xe s'|.error e=>cameBackBy (model X.prog X.w) X.A X.env X.xe e s') s2:=
  cgo hc hcalm hx (heq it) hg ht hm T ao I2 st2 f' fD pD w λs' a' o' σ' H' ao' I' q'=>Ab ⟨a',o',σ',H',ao',I',q'⟩
 exact SH hc hgn ha loop (T.self _ 0 _ _ _ st2 loop)
end
section
variable {X:Cx} {α:Type}{scope:Scope}{fv:List (Nat×Str)}
def Np {pj:Zab}{σ:St}{H:Hp}{s:Shared}{fp:List Addr}{cl:List (Str×Addr)}{h₁:Heap}{own:List Str}{o0:Obj}(I:Inv X pj σ H s)(L:LD X scope fv)(hf:∀b∈fp,HS X pj H b)(hfo:∀b∈fp,∃o,s.heap.get? b=some o)
  (hsub:∀x c,cl.lookup x=some c->X.env.cells.lookup x=some c) (hhas:∀y∈scope.names,y.2=.free->∃c,cl.lookup y.1=some c)
  (hns:h₁.Ns (s.heap.objs.size+1) (λx=>([]:List (Str×Value)).reverse.lookup x)) (hold:∀b o,s.heap.get? b=some o->h₁.get? b=some o) (hD:h₁.get? s.heap.objs.size=some o0) (nc0:∀v,o0.data≠.cell v){tk:Nat} :
  Inv (CY X scope (own++fv.map (·.2)) cl (s.heap.objs.size+1) s H fp) [(s.heap.objs.size,o0)] (st0 own.length fv σ) H {s with heap:=h₁,toks:=tk}:=by
 have nst:∀b,s.heap.objs.size<=b->b∉frs X.stack:=λb hb hm=>by
  rcases Ao.mp (I.stkSub b hm) with e|e
  ·exact absurd I.lt (by rw[<- e];exact Nat.not_lt.mpr hb)
  ·exact I.nofs hb e
 have fpst:∀b∈fp,b∉frs X.stack:=λb hb hm=>by
  obtain⟨_,f1,f2,_⟩:=hf b hb
  rcases Ao.mp (I.stkSub b hm) with e|e
  ·exact f1 e
  ·exact f2 e
 have celllt:∀x c,cl.lookup x=some c->c<s.heap.objs.size:=λx c e=>by
  obtain⟨v,z⟩:=I.cell x c (hsub x c e)
  exact z.lt
 refine⟨⟨I.ok.mod,L.kind,I.ok.glob,I.ok.blt,Nat.le_succ _,λx y c h1 h2=>I.ok.inj x y c (hsub _ _ h1) (hsub _ _ h2),λx hx=>hhas (x,.free) (Kb L.cell hx) rfl,λ_ _ z=>Bool.noConfusion z,I.ok.hd,I.ok.frames,.inl rfl,
   λb hb=>⟨?_,λx c e z=>?_⟩,I.bs,AO I.ok.bsz I.sz,λb o e hb=>?_,fpst,I.stack,I.stkFree⟩,
  rfl,I.bare,Un.kept hold,⟨_,hns,λi x v e1 e2 e3=>?_⟩,λx c e=>?_,I.hok.fresh (Nat.le_succ _),λx c e=>I.freeC x c (hsub x c e),λp hp=>?_,I.hok.kept hold,?_⟩
 ·obtain⟨o,e⟩:=hfo b hb
  exact Az (Bl (An e))
 ·exact(hf b hb).2.2.2.2.1 x c (hsub x c e) z
 ·obtain⟨_,_,_,f3,_⟩:=hf b hb
  rcases f3 with f3|f3
  ·exact I.ok.noex b o e f3
  ·exact absurd (AI (An e) (AO I.ok.bsz f3)) (Bv _)
 ·have e1':(own++fv.map (·.2))[i]?=some x:=e1
  unfold st0 at e2
  by_cases hi:i<own.length
  ·rw[Ap (by simpa using hi),B8] at e2
   split at e2<;>cases e2
  ·rw[A1 (by simpa using hi),List.length_replicate,Am] at e2
   rw[A1 (by simpa using hi),Am] at e1'
   cases hp:fv[i-own.length]? with
   |none=>rw[hp] at e1';cases e1'
   |some p =>
    rw[hp] at e1' e2
    have ex:p.2=x:=AR e1'
    have ev:σ.getD p.1 none=some v:=AR e2
    obtain⟨q1,q2,q3⟩:=L.fv.get hp
    rw[ex] at q1 q2 q3
    have hσ:σ[p.1]?=some (some v):=by
     rw[AQ] at ev
     cases q:σ[p.1]? with
     |none=>rw[q] at ev;cases ev
     |some w=>rw[q] at ev;exact congrArg some ev
    obtain⟨m,_,hl⟩:=I.loc
    obtain⟨u,r,l⟩:=hl p.1 x v q1 hσ (by rcases q2 with z|z;exact .inr (.inl z);exact .inr (.inr z))
    refine⟨u,r,.inr ⟨q3,?_⟩⟩
    rcases l with⟨k,_⟩|⟨_,c,ec,z⟩
    ·exfalso
     have k':X.env.scope.names.lookup x=some .local:=k
     rcases q2 with z|z<;>rw[k'] at z<;>cases z
    ·obtain⟨c',ec'⟩:=hhas (x,.free) (Kb L.cell q3) rfl
     have:c'=c:=AR ((hsub x c' ec').symm.trans ec)
     subst this
     obtain⟨o,ho,hd⟩:=z
     exact⟨c',ec',o,hold _ _ ho,hd⟩
 ·obtain⟨v,o,ho,hd⟩:=I.cell x c (hsub x c e)
  exact⟨v,o,hold _ _ ho,hd⟩
 ·have e:p=(s.heap.objs.size,o0):=by simpa[CY] using hp
  subst e
  exact⟨hD,I.hok.fresh (Ae _),Az (Bh _),nst _ (Ae _),nc0⟩
 ·show(st0 own.length fv σ).length=(own++fv.map (·.2)).length
  unfold st0
  simp
structure Mz (α:Type) extends Acc α where
 cls:String
 d0:Data
 a0:α
 ao0:ao a0 {cls:=.type cls,dict:=none,data:=d0}
 fin:α->Prop
 ho:Addr->α->HO
 sz:sizeOk d0
 fr:({cls:=.type cls,dict:=none,data:=d0}:Obj).isFreed=false
 lay:∀(P:Program) (w:World) (H:Hp) (h:Heap) (D:Addr) (a:α) (o:Obj),ao a o->fin a->h.get? D=some o->sysModules<D->ObjOk P w (upd H D (ho D a)) h D (ho D a)
def tCo (wi:TI)(nc:Nat)(fv:List (Nat×Str))(B:Mz α)(g:TG)(tt:TT)(tm:TM α):TE:=fun σ H Q=>wi σ H λJ H1=>CGo J g tt tm B.a0 (st0 nc fv σ) H1 λa _ H'=>B.fin a/\∀p,H' p=none->Q (.ref p) (upd H' p (B.ho p a))
def Jf {e:Expr}{gens:List Comprehension}{g:Comprehension}{rest:List Comprehension}{own:List Str}{wi:TI}{B:Mz α}{tg:TG}{tt:TT}{tm:TM α}{step:Addr->Addr->List (Str×Addr)->Sem Unit}{pos2:Pos}{newAcc:Sem Value}
  {pj:Zab}{s:Shared} {σ:St}{H:Hp}{Q:VK}{use:Option (Value->Sem Unit)}{Qc:Value->Zaa} (hc:IsC e gens) (hgens:gens=g::rest) (ha:g.is_async=0) (hnew:newAcc=newObj (.type B.cls) B.d0) (L:LD X scope fv) (hi:PI X g.target g.iter wi)
  (heq:∀it cl C D,compTurn e 0 (.ref it) (.ref D) (compEnvC scope cl C X.env)=GL g (.ref it) (compEnvC scope cl C X.env) (step D C cl) (.compLoop e 0 (.ref it) (.ref D) (compEnvC scope cl C X.env)))
  (hg:∀cl C s₁ H₁ fp,PG (CY X scope (own++fv.map (·.2)) cl C s₁ H₁ fp) g.target tg)
  (ht:∀cl C s₁ H₁ fp,PF (CY X scope (own++fv.map (·.2)) cl C s₁ H₁ fp) g.ifs tt)
  (hm:∀cl C s₁ H₁ fp D,DOk (CY X scope (own++fv.map (·.2)) cl C s₁ H₁ fp) D->PM (CY X scope (own++fv.map (·.2)) cl C s₁ H₁ fp) B.toAcc D (step D C cl) tm)
  (hs:∀x,foldedSetIterable g.iter X.env x=pure x) (hb:∀{s2:Shared}{H2:Hp},Inv X pj σ H2 s2->sysModules<s2.heap.objs.size) (I:Inv X pj σ H s) (h:tCo wi own.length fv B tg tt tm σ H Q)
  (fin:∀(s6:Shared) (H':Hp) (D C:Addr) (m:Str->Option Value),Inv X pj σ H' s6->HS X pj H' C->s6.heap.Ns C m->Q (.ref D) H'->compPost (model X.prog X.w) X.A X.xe use Qc (.ref D) C (.ok .next) s6) :
  wpAny (model X.prog X.w) X.A (comprehension e scope X.env pos2 newAcc false (eval g.iter X.env) use) Qc X.xe s:=by
 obtain⟨cl,hclos,hsub,hhas⟩:=OW (scope:=scope) (env:=X.env) λy hy hf=>I.ok.has y.1 (L.free y hy hf)
 have hcl:clausesOf e=g::rest:=by subst hgens;cases hc<;>rfl
 refine wpAny_comprehension_free (use:=use) hcl hs hclos L.kind L.names (thn (hi pj s σ H _ I h) λv s1 h1=>thn h1 λitv s2 h2=>?_)
 obtain⟨it,fp,tn,J,H2,e2,I2,T,st2,f2,w⟩:=h2
 subst e2
 have hfo:∀b∈fp,∃o,s2.heap.get? b=some o:=λb hb=>let ⟨o,e,_⟩:=T.obj _ _ st2 b hb;⟨o,e⟩
 rw[hnew]
 refine AX (hd:=B.sz) (wpAny_newFunctionEnv L.cell (by intro y hy;simp at hy) (λh₁ hns₁ hsb₁=>?_) L.kind)
 dsimp only at hns₁ hsb₁ ⊢
 have hCe:(s2.heap.push {cls:=.type B.cls,dict:=none,data:=B.d0}).objs.size=s2.heap.objs.size+1:=Bn _ _
 rw[hCe] at hns₁ hsb₁ ⊢
 have old:∀b o,s2.heap.get? b=some o->h₁.get? b=some o:=λb o e=>hsb₁.extBut b o (Az (Bl (An e))) (Ac _ (Ac _ e))
 have hD₁:h₁.get? s2.heap.objs.size=some {cls:=.type B.cls,dict:=none,data:=B.d0}:=hsb₁.extBut _ _ (Az (Bh _)) (Ac _ (Ag _ B.fr))
 have I4:=Np (own:=own) (tk:=s2.toks+([]:List (Str×Value)).length) I2 L f2 hfo hsub hhas hns₁ old hD₁ (B.nc _ _ B.ao0)
 have st4:tn 0 h₁:=T.keep _ _ _ st2 λb _ o e=>old b o e
 have celllt:∀x c,cl.lookup x=some c->c<s2.heap.objs.size:=λx c e=>by
  obtain⟨v,z⟩:=I2.cell x c (hsub x c e)
  exact z.lt
 have nst:s2.heap.objs.size∉frs X.stack:=λhm=>by
  rcases Ao.mp (I2.stkSub _ hm) with e|e
  ·exact absurd I2.lt (by rw[<- e];exact Bv _)
  ·exact I2.nofs (Ae _) e
 have dk:DOk (CY X scope (own++fv.map (·.2)) cl (s2.heap.objs.size+1) s2 H2 fp) s2.heap.objs.size:=⟨Ae _,Az (Bh _),nst,λx c e=>Az (celllt x c e),λp hp=>nomatch hp⟩
 have fpok:∀b∈fp,HS (CY X scope (own++fv.map (·.2)) cl (s2.heap.objs.size+1) s2 H2 fp) [] H2 b:=λb hb=>by
  obtain⟨o,eo⟩:=hfo b hb
  have blt:=An eo
  refine⟨(f2 b hb).1,Az (Bl blt),λhm=>?_,.inl hb,λx c e=>(f2 b hb).2.2.2.2.1 x c (hsub x c e),λp hp=>?_⟩
  ·obtain⟨_,f1,f3,_⟩:=f2 b hb
   rcases Ao.mp (I2.stkSub b hm) with e|e
   ·exact f1 e
   ·exact f3 e
  ·have hp':p∈([]:Zab):=by simpa[CY] using hp
   cases hp'
 have fD:∀b∈fp,s2.heap.objs.size≠b:=λb hb=>by
  obtain⟨o,eo⟩:=hfo b hb
  exact BL (An eo)
 have big:sysModules<s2.heap.objs.size:=hb I2
 have loop:=cgo (X:=CY X scope (own++fv.map (·.2)) cl (s2.heap.objs.size+1) s2 H2 fp) (R:=compPost (model X.prog X.w) X.A X.xe use Qc (.ref s2.heap.objs.size) (s2.heap.objs.size+1)) (pj:=[]) hc L.calm rfl (heq it cl (s2.heap.objs.size+1) s2.heap.objs.size) (hg cl (s2.heap.objs.size+1) s2 H2 fp) (ht cl (s2.heap.objs.size+1) s2 H2 fp) (hm cl (s2.heap.objs.size+1) s2 H2 fp _ dk) T B.ao0 I4 st4 fpok fD (λp hp=>nomatch hp) w
  λs6 a6 o6 σ6 H6 ao6 I6 q6=>by
   obtain⟨qf,qn⟩:=q6
   obtain⟨m,hn,_⟩:=I6.loc
   obtain⟨eD,nD,_⟩:=I6.pin (s2.heap.objs.size,o6) (Aq _ (Ah.mpr rfl))
   have nC:H6 (s2.heap.objs.size+1)=none:=I6.free
   have U:Un (frs X.stack) fp H2 H6 s2.heap s6.heap:=I6.base
   have ok6:HOk X.prog X.w H6 s6.heap:=I6.hok
   have J6:Inv X pj σ (upd H6 s2.heap.objs.size (B.ho s2.heap.objs.size a6)) s6:=I2.call' (s':=s6) I6.os (U.lay (Ae _) nD) (ok6.lay nD (B.lay _ _ _ _ _ _ _ ao6 qf eD big)) I6.bare λb hb=>by
    obtain⟨_,f1,_,f3,f4,f5⟩:=f2 b hb
    exact⟨f3,f1,f4,f5⟩
   exact fin s6 _ _ _ m J6 (I2.fpOk (Nat.le_succ _) (by rw[Df (BL (Bh _))];exact nC)) hn (qn _ nD)
 exact SH hc (by rw[hgens];rfl) ha loop (T.self _ 0 _ _ _ st4 loop)
end
def Tz:Mz (List V) where
 ao:=λys o=>∃its k,o={cls:=.type "list",data:=.seq its k}/\Vals ys its.toList
 nc:=λa o h v z=>by obtain⟨its,k,rfl,_⟩:=h;cases z
 cls:="list"
 d0:=.seq ([]:List Value).toArray
 a0:=[]
 ao0:=⟨#[],0,rfl,.nil⟩
 fin:=λys=>ys.length<=sizeLine
 ho:=λ_ ys=>.lst ys
 sz:=by size_fits
 fr:=rfl
 lay:=λP w H h D a o ao hf hD _=>by
  obtain⟨its,k,rfl,r⟩:=ao
  exact⟨hf,its.toList,k,r,by simpa using hD⟩
section
variable {X:Cx}{D:Addr}
def Vi {elt:Expr}{te:TE}(dk:DOk X D)(he:PE X elt te):PM X Tz.toAcc D (Qp elt (.ref D) X.env) (λa σ H Q=>te σ H λv H'=>a.length<=sizeLine/\Q (a++[v]) σ H'):=by
 intro pj s σ H Q a o ao pD I h
 unfold Qp
 refine Aa (thn (he _ s σ H _ I h) λu s1 ⟨y,H1,I1,r1,hl,q1⟩=>?_)
 obtain⟨its,k,rfl,r⟩:=ao
 obtain⟨e1,n1,l1,f1,_⟩:=I1.pin (D,_) (Aq _ (Aq _ (Ah.mpr rfl)))
 have hz:its.size<=sizeLine:=by
  have e:=r.length
  simp only[Array.length_toList] at e
  ext
 refine Aa (wpAny_list_append_plain (hsz:=hz) ⟨k,e1⟩ λh' hl' sb=>Ab ?_)
 obtain⟨k',hk'⟩:=hl'
 have I2:Inv X pj σ H1 {s1 with heap:=h'}:=(I1.pins_sub λp hp=>A0 _ hp).turned (t':=s1.toks) (it:=D) (λb o hb e=>(sb.2 b hb).trans e) n1 dk.nl (.inr dk.up) dk.cl λp hp=>by
  rcases AF.mp hp with z|z
  ·exact dk.pn p z
  ·exact pD p z
 refine⟨a++[y],_,σ,H1,⟨its.push u,k',rfl,?_⟩,I2.pins_of λp hp=>?_,q1⟩
 ·rw[BI]
  exact r.append (.cons r1 .nil)
 ·rcases AF.mp hp with z|z
  ·exact I2.pin p (Aq _ z)
  ·rw[Ah.mp z]
   exact⟨hk',n1,l1,f1,λv z=>by cases z⟩
end
end L2
namespace PV
open PySem L2 PySem.Spec PyProof.Rows
abbrev EnV (x:Int×V×V) (e:DictEntry):Prop:=e.hash=x.1/\RelV x.2.1 e.key/\RelV x.2.2 e.val
def Oq:Mz (List (Int×V×V)) where
 ao:=λxs o=>∃es ep,o={cls:=.type "dict",data:=.dict es ep}/\Paired EnV xs es.toList/\ep=es.size
 nc:=λa o h v z=>by obtain⟨es,ep,rfl,_⟩:=h;cases z
 cls:="dict"
 d0:=.dict #[]
 a0:=[]
 ao0:=⟨#[],0,rfl,.nil,rfl⟩
 fin:=λ_=>True
 ho:=λD xs=>D1 D xs
 sz:=by size_fits
 fr:=rfl
 lay:=λP w H h D a o ao hf hD hb=>by
  obtain⟨es,ep,rfl,r,ge⟩:=ao
  exact IZ ⟨by simpa using BL hb,_,es,ep,hD,⟨rfl,rfl,rfl⟩,rfl,r,ge⟩
def JO (k:D)(h:Int)(kv vv:V):List D->List (Int×V×V)->List (Int×V×V)
 |k'::ks,x::xs=>if k'=k then (x.1,x.2.1,vv)::xs else x::JO k h kv vv ks xs
 |_,xs=>xs++[(h,kv,vv)]
theorem Ha {k:D}{h:Int}{kv vv:V}:∀{ks:List D}{xs:List (Int×V×V)},k∉ks->ks.length=xs.length->JO k h kv vv ks xs=xs++[(h,kv,vv)]
 |[],_,_,_=>by unfold JO;rfl
 |_::_,[],_,e=>by simp at e
 |k'::ks,x::xs,n,e=>by
  rw[Ao,not_or] at n
  rw[JO,if_neg (λz=>n.1 z.symm),Ha n.2 (by simpa using e)]
  rfl
theorem IF {k:D}{h:Int}{kv vv:V}:∀{ks:List D}{xs:List (Int×V×V)}{j:Nat} (hj:j<xs.length),ks.Nodup->ks[j]?=some k->JO k h kv vv ks xs=xs.set j (xs[j].1,xs[j].2.1,vv)
 |[],_,_,_,_,e=>by simp at e
 |_::_,[],_,hj,_,_=>by simp at hj
 |k'::ks,x::xs,0,hj,n,e=>by simp at e;subst e;simp[JO]
 |k'::ks,x::xs,j+1,hj,n,e=>by
  rw[BX] at n
  simp at e
  have:k'≠k:=λz=>n.1 (by rw[z];exact Aj e)
  rw[JO,if_neg this,IF (by simpa using hj) n.2 e]
  rfl
section
variable {X:Cx}{D:Addr}{th:List Addr}{mu:Sto}{H:Hp}
def PL (hu:X.A.units+64<cLine){kx vx:Expr}{tk tv:TE}(dk:DOk X D)(hk:PE X kx tk)(hv:PE X vx tv):PM X Oq.toAcc D (Mf kx vx D X.env) (λa σ H Q=>tk σ H λkv H1=>tv σ H1 λvv H2 =>
  ∃th ks k,RepL X.z th H2 ks (a.map (·.2.1))/\a.map (·.1)=EL X.w ks/\KeysOk ks/\Dn k=true/\Rep X.z th H2 k kv/\ks.length<sizeLine/\Q (JO k (DK X.w k) kv vv ks a) σ H2):=by
 intro pj s σ H Q a o ao pD I h
 unfold Mf
 refine Aa (thn (hk _ s σ H _ I h) λu s1 ⟨kv,H1,I1,ru,q1⟩=>Aa (AG (thn (hv _ s1 σ H1 _ I1 q1) λr s2 ⟨vv,H2,I2,rr,q2⟩=>Aa (wpAny_standAt (AG ?_)))))
 obtain⟨th,ks,k,rk,ehs,kok,hasK',rkv,lt,q⟩:=q2
 obtain⟨es,ep,rfl,pr,ge⟩:=ao
 obtain⟨g1,n1,l1,f1,_⟩:=I2.pin (D,_) (Aq _ (Aq _ (Ah.mpr rfl)))
 dsimp only at g1 n1 l1 f1
 have hd:=Ic I2 hasK' rkv ru
 have xl:a.length=ks.length:=by have:=rk.len;simpa using this
 have en:Paired (EnK X.w s2.heap) ks es.toList:=by
  refine Nb (by rw[<- DF pr,xl]) λj k e e1 e2=>?_
  obtain⟨x,y1,y2,y3,y4⟩:=(DZ pr j).2 e e2
  have hh:(a.map (·.1))[j]?=(EL X.w ks)[j]?:=by rw[ehs]
  rw[DP,Am,Am,y1,e1] at hh
  obtain⟨v,v1,v2⟩:=rk.get e1
  rw[Am,y1] at v1
  have v1':x.2.1=v:=by simpa using v1
  exact⟨by rw[y2];simpa using hh,Ic I2 (kok.ok k (Aj e1)) v2 (by rw[<- v1'];exact y3)⟩
 have g3:({cls:=.type "dict",data:=.dict es ep}:Obj).data=.dict es ep:=rfl
 have fin:∀{h':Heap}{tk':Nat}{es':Array DictEntry}{ep':Nat},Heap.SameBut D s2.heap h'->h'.get? D=some {cls:=.type "dict",data:=.dict es' ep'}->Paired EnV (JO k (DK X.w k) kv vv ks a) es'.toList->ep'=es'.size ->
   ∃a' o' σ' H',Oq.ao a' o'/\L2.Inv X (pj++[(D,o')]) σ' H' {s2 with heap:=h',toks:=tk'}/\Q a' σ' H':=λ{h' tk' es' ep'} sb hD pr' ge'=>by
  have I3:L2.Inv X pj σ H2 {s2 with heap:=h',toks:=tk'}:=(I2.pins_sub λp hp=>A0 _ hp).turned (t':=tk') (it:=D) (λb o hb e=>(sb.2 b hb).trans e) n1 dk.nl (.inr dk.up) dk.cl λp hp=>by
   rcases AF.mp hp with z|z
   ·exact dk.pn p z
   ·exact pD p z
  refine⟨_,_,σ,H2,⟨es',ep',rfl,pr',ge'⟩,I3.pins_of λp hp=>?_,q⟩
  rcases AF.mp hp with z|z
  ·exact I3.pin p (Aq _ z)
  ·rw[Ah.mp z]
   exact⟨hD,n1,l1,f1,λv z=>by cases z⟩
 unfold dictSet
 have hu8:X.A.units+8<cLine:=by ext
 refine AG (Aa (hd.hash hu8 λtk=>?_))
 unfold dictSetHashed
 refine AG (Aa (JU (s:={s2 with toks:=tk}) hu8 hd g1 g3 en kok.nd (λz=>?_) λj ej=>?_))
 ·have hz0:es.size<=sizeLine:=by rw[<- Array.length_toList,<- DF en];ext
  refine Aa (A7 (wpAny_updateDictKeys (s:={s2 with toks:=tk}) g1 g3 (hz:=hz0) ?_))
  have so1:=AJ (Obj.mapDictKeys (·.push ⟨DK X.w k,u,r⟩)) g1 (BV (B5 g3 _))
  refine fin (es':=es.push ⟨DK X.w k,u,r⟩) (ep':=ep+1) (AD ..) so1 ?_ (by rw[Bq,ge])
  rw[Ha z xl.symm,BI]
  exact Hb pr (.cons ⟨rfl,ru,rr⟩ .nil)
 ·have hj:j<a.length:=by
   have:=(Ad.mp ej).1
   ext
  have hje:j<es.size:=by rw[<- Array.length_toList,<- DF pr];exact hj
  obtain⟨y,y1,y2,y3,y4⟩:=(DZ pr j).1 a[j] (Al hj)
  rw[Af] at y1
  refine Aa (A7 (Aa (wpAny_updateDict (s:={s2 with toks:=tk}) g1 g3 (wpAny_point ?_))))
  have so1:=AJ (Obj.mapDict (·.modify j λe=>{e with val:=r})) g1 (BV (Obj.data_mapDict g3 _))
  refine fin (es':=es.modify j λe=>{e with val:=r}) (ep':=ep) (AD ..) so1 ?_ (by rw[Array.size_modify,ge])
  have em:(es.modify j λe=>{e with val:=r}).toList=es.toList.set j {y with val:=r}:=by
   have yl:es.toList[j]?=some y:=by rw[Af];exact y1
   rw[Array.toList_modify]
   refine A6 λi=>?_
   rw[List.getElem?_modify]
   by_cases c:j=i
   ·subst c
    rw[yl,BP (by simpa using hje)]
    simp
   ·rw[Aw c]
    simp[c]
  rw[em,IF hj kok.nd ej]
  exact Ii j pr ⟨y2,y3,rr⟩
end
abbrev Mx (β:Type):=β->Ro->Sto->Rs β
def cGo {β:Type}(g:Option Nat)(m0:Sto)(tg:Gx)(tt:Tx)(st:Mx β)(ro:Ro):List D->β->Sto->Rs β
 |[],b,mu=>some (b,mu)
 |d::ds,b,mu=>bM (tg d ro mu) λro1 m1=>bM (tt ro1 m1) λc m2 =>
  if c=true then bM (st b ro1 m2) λb' m3=>EA g m0 m3 (cGo g m0 tg tt st ro ds b' m3) else EA g m0 m2 (cGo g m0 tg tt st ro ds b m2)
def stL (el:Ex):Mx (List D):=λb ro mu=>bM (el ro mu) λy m=>if b.length<sizeLine then some (b++[y],m) else none
def stD (kx vx:Ex):Mx (List D×List D):=λp ro mu=>bM (kx ro mu) λk m1=>bM (vx ro m1) λv m2=>if Dn k=true/\p.1.length<sizeLine then some (DE k v p.1 p.2,m2) else none
def stI {β:Type}(i:Ix)(tg:Gx)(tt:Tx)(st:Mx β):Mx β:=λb ro mu=>bM (i ro mu) λp m=>cGo p.2 m tg tt st ro p.1 b m
def eCo {β:Type}(i:Ix)(nc:Nat)(fvs:List Nat)(tg:Gx)(tt:Tx)(st:Mx β)(b0:β)(fin:β->Sto->D×Sto):Ex:=λro mu=>bM (i ro mu) λp m1=>bM (cGo p.2 m1 tg tt st (r0 nc fvs ro) p.1 b0 m1) λb m2=>some (fin b m2)
def finL (b:List D)(mu:Sto):D×Sto:=(.lst b,mu)
def HP (b:List D×List D)(mu:Sto):D×Sto:=(.dct b.1 b.2,mu)
def GOw (lo hi:Nat)(tg:Gx):Prop:=∀d ro mu ro' mu',tg d ro mu=some (ro',mu')->ro'.length=ro.length/\∀i,i<lo\/hi<=i->ro'[i]?=ro[i]?
def VS (lo hi:Nat)(tg:Gxs):Prop:=∀d ro mu ro' mu',tg d ro mu=some (ro',mu')->ro'.length=ro.length/\∀i,i<lo\/hi<=i->ro'[i]?=ro[i]?
def Ec {lo hi i:Nat}(h1:lo<=i:=by decide)(h:i<hi:=by decide):GOw lo hi (gNm i):=λd ro mu ro' mu' e=>by
 cases e
 exact⟨by simp,λj hj=>Aw (by ext)⟩
theorem He {lo hi:Nat}:VS lo hi C0:=λds ro mu ro' mu' e=>by
 cases ds with
 |nil=>cases e;exact⟨rfl,λ_ _=>rfl⟩
 |cons d ds=>cases e
theorem D4 {lo hi:Nat}{g:Gx}{gs:Gxs}(h1:GOw lo hi g)(h2:VS lo hi gs):VS lo hi (Cy g gs):=λds ro mu ro' mu' e=>by
 cases ds with
 |nil=>cases e
 |cons d ds =>
  obtain⟨ro1,m1,e1,e2⟩:=FE e
  obtain⟨a1,a2⟩:=h1 _ _ _ _ _ e1
  obtain⟨b1,b2⟩:=h2 _ _ _ _ _ e2
  exact⟨b1.trans a1,λi hi=>(b2 i hi).trans (a2 i hi)⟩
theorem Iz {lo hi n:Nat}{g:Gxs}(h:VS lo hi g):GOw lo hi (gTp n g):=λd ro mu ro' mu' e=>by
 cases d with
 |tup ds =>
  unfold gTp at e
  dsimp only at e
  by_cases q:ds.length=n
  ·rw[if_pos q] at e;exact h _ _ _ _ _ e
  ·rw[if_neg q] at e;cases e
 |_=>cases e
def rdM (K:Zc){α β:Type}(rp:List Addr->Hp->β->α->Prop)(ok:Ro->Prop)(st:Mx β):TM α:=λa σ H Q=>∃th mu ro b,StoOk K th mu H/\EnvOk K th H ro σ/\ok ro/\rp th H b a /\
 Tr K th H (st b ro mu) λb' th' _ H'=>∀a' σ',EnvOk K th' H' ro σ'->rp th' H' b' a'->Q a' σ' H'
def RpX {α β:Type}(rp:List Addr->Hp->β->α->Prop):Prop:=∀{th:List Addr}{H:Hp}{th':List Addr}{H':Hp}{b:β}{a:α},Ext th H th' H'->IY th H->rp th H b a->rp th' H' b a
def rpL (K:Zc)(th:List Addr)(H:Hp)(zs:List D)(ys:List V):Prop:=RepL K th H zs ys/\zs.length<=sizeLine
def rpD (K:Zc)(th:List Addr)(H:Hp)(p:List D×List D)(xs:List (Int×V×V)):Prop:=xs.map (·.1)=EL K.w p.1/\RepL K th H p.1 (xs.map (·.2.1))/\RepL K th H p.2 (xs.map (·.2.2))/\KeysOk p.1
section
variable {X:Cx}{K:Zc}{th:List Addr}{mu:Sto}{H:Hp} {α β:Type}{rp:List Addr->Hp->β->α->Prop}{ok:Ro->Prop}{st:Mx β}{tg:Gx}{tt:Tx}
def VY:RpX (rpL K):=λe t ⟨h1,h2⟩=>⟨h1.ext e t,h2⟩
def S7:RpX (rpD K):=λe t ⟨h1,h2,h3,h4⟩=>⟨h1,h2.ext e t,h3.ext e t,h4⟩
def O1 {lo hi:Nat}(ow:GOw lo hi tg)(rx:RpX rp){ro:Ro}(hro:∀i d,ro[i]?=some (some d)->i<lo\/hi<=i)(hok:∀d mu ro' mu',tg d ro mu=some (ro',mu')->ok ro'){J:It}{ds:List D}{gd:Option Nat}{a:α}{b:β}{σ:L2.St}{Q:α->L2.St->Hp->Prop}
  (io:OG K J th mu H ds gd) (so:StoOk K th mu H) (en:EnvOk K th H ro σ) (r:rp th H b a) (t:Tr K th H (cGo gd mu tg tt st ro ds b mu) λb' th' _ H'=>∀a' σ',EnvOk K th' H' ro σ'->rp th' H' b' a'->Q a' σ' H') :
  CGo J (rdG K tg) (rdT K tt) (rdM K rp ok st) a σ H Q:=by
 refine⟨λk n a' σ' H'=>n=ds.length-k/\k<=ds.length/\∃th' mu' b',StoOk K th' mu' H'/\EnvOk K th' H' ro σ'/\Ext th H th' H'/\gOk gd mu mu'/\rp th' H' b' a' /\
  Tr K th' H' (cGo gd mu tg tt st ro (ds.drop k) b' mu') λb' th' _ H'=>∀a' σ',EnvOk K th' H' ro σ'->rp th' H' b' a'->Q a' σ' H',⟨_,rfl,A5 _,th,mu,b,so,en,.refl _ _,?_,r,t⟩,?_⟩
 ·cases gd with
  |none=>exact True.intro
  |some k=>exact rfl
 rintro k n a2 st2 H2 ⟨rfl,hk,th2,mu2,b2,s2,en2,e2,g2,r2,t2⟩
 by_cases lt:k<ds.length
 ·refine .inr ?_
  have ek:ds[k]?=some ds[k]:=by simp
  obtain⟨a1,a3⟩:=io.go th2 mu2 H2 e2 s2 g2 k ds[k] ek
  refine⟨a1,λx H3 y=>?_⟩
  obtain⟨e3,s3,r3⟩:=a3 x H3 y
  rw[Bx lt] at t2
  unfold cGo at t2
  refine⟨th2,mu2,ro,ds[k],s3,en2.ext e3 s2.out,r3,?_⟩
  refine(t2.ahead e3).bindE.mono λro1 th4 mu4 H4 e4 s4 t4 st4 en4=>?_
  obtain⟨eq4,t4⟩:=t4
  obtain⟨ol,ow'⟩:=ow _ _ _ _ _ eq4
  have back:∀{th' H' σ'},EnvOk K th' H' ro1 σ'->EnvOk K th' H' ro σ':=λ{th' H' σ'} en'=>by
   refine⟨by rw[<- ol];exact en'.1,λi d e=>?_⟩
   exact en'.2 i d (by rw[ow' i (hro i d e)];exact e)
  refine⟨th4,mu4,ro1,s4,en4,t4.bind.mono λc th5 mu5 H5 e5 s5 t5=>?_⟩
  have e14:Ext th H th5 H5:=((e2.trans e3).trans e4).trans e5
  have r5:rp th5 H5 b2 a2:=rx ((e3.trans e4).trans e5) s2.out r2
  cases c with
  |false =>
   obtain⟨a,mu',q1,q2⟩:=t5
   obtain⟨go5,q1⟩:=GB q1
   exact⟨ds.length-(k+1),by ext,rfl,lt,th5,mu5,b2,s5,back (en4.ext e5 s4.out),e14,go5,r5,a,mu',q1,q2⟩
  |true =>
   refine⟨th5,mu5,ro1,b2,s5,en4.ext e5 s4.out,hok _ _ _ _ eq4,r5,Tr.mono (Tr.bind t5) λb6 th6 mu6 H6 e6 s6 t6 a6 σ6 en6 r6=>?_⟩
   obtain⟨a,mu',q1,q2⟩:=t6
   obtain⟨go6,q1⟩:=GB q1
   exact⟨ds.length-(k+1),by ext,rfl,lt,th6,mu6,b6,s6,back en6,e14.trans e6,go6,r6,a,mu',q1,q2⟩
 ·have e:k=ds.length:=by ext
  subst e
  rw[List.drop_length] at t2
  unfold cGo at t2
  exact .inl ⟨io.stop th2 mu2 H2 e2 s2 g2,t2.ret s2 a2 st2 en2 r2⟩
def WV {el:Ex}{a:List V}{σ:L2.St}{Q:List V->L2.St->Hp->Prop}(h:rdM K (rpL K) ok (stL el) a σ H Q):rdE K el σ H λv H'=>a.length<=sizeLine/\Q (a++[v]) σ H':=by
 obtain⟨th,mu,ro,b,so,en,_,⟨r,hz⟩,t⟩:=h
 refine⟨th,mu,ro,so,en,t.bind.mono λy th1 mu1 H1 e1 s1 t1 v rv=>?_⟩
 by_cases c:b.length<sizeLine
 ·rw[if_pos c] at t1
  exact⟨by rw[r.len];exact hz,t1.ret s1 _ _ (en.ext e1 so.out) ⟨(r.ext e1 so.out).app (.cons rv .nil),by rw[As];exact c⟩⟩
 ·rw[if_neg c] at t1
  exact t1.no.elim
def Td {kx vx:Ex}{a:List (Int×V×V)}{σ:L2.St}{Q:List (Int×V×V)->L2.St->Hp->Prop}(h:rdM X.z (rpD X.z) ok (stD kx vx) a σ H Q):rdE X.z kx σ H λkv H1=>rdE X.z vx σ H1 λvv H2 =>
  ∃th ks k,RepL X.z th H2 ks (a.map (·.2.1))/\a.map (·.1)=EL X.w ks/\KeysOk ks/\Dn k=true/\Rep X.z th H2 k kv/\ks.length<sizeLine/\Q (JO k (DK X.w k) kv vv ks a) σ H2:=by
 obtain⟨th,mu,ro,⟨ks,vs⟩,so,en,_,⟨r1,r2,r3,r4⟩,t⟩:=h
 dsimp only at r1 r2 r3 r4
 refine⟨th,mu,ro,so,en,t.bind.mono λk th1 mu1 H1 e1 s1 t1 kv rk=>?_⟩
 refine⟨th1,mu1,ro,s1,en.ext e1 so.out,t1.bind.mono λv th2 mu2 H2 e2 s2 t2 vv rv=>?_⟩
 by_cases c:Dn k=true/\ks.length<sizeLine
 ·rw[if_pos c] at t2
  have e12:=e1.trans e2
  have k2:=r2.ext e12 so.out
  have v2:=r3.ext e12 so.out
  have xl:ks.length=a.length:=by have:=r2.len;simpa using this.symm
  have rk2:=rk.ext e2 s1.out
  refine⟨th2,ks,k,k2,r1,r4,c.1,rk2,c.2,t2.ret s2 _ _ (en.ext e12 so.out) ?_⟩
  by_cases z:k∈ks
  ·obtain⟨j,ej⟩:=AL.mp z
   have hj:j<a.length:=by rw[<- xl];exact(Ad.mp ej).1
   rw[IF hj r4.nd ej]
   unfold DE
   rw[if_pos z,Kr r4.nd ej]
   refine⟨?_,?_,?_,r4⟩
   ·show List.map _ _=EL X.w ks
    rw[<- r1,List.map_set]
    refine A6 λi=>?_
    by_cases ci:j=i
    ·subst ci;simp[hj]
    ·rw[Aw ci]
   ·show RepL X.z th2 H2 ks _
    have:(List.map (λx=>x.2.1) (a.set j (a[j].1,a[j].2.1,vv)))=a.map (·.2.1):=by
     rw[List.map_set]
     refine A6 λi=>?_
     by_cases ci:j=i
     ·subst ci;simp[hj]
     ·rw[Aw ci]
    rw[this]
    exact k2
   ·rw[List.map_set]
    exact v2.setAt j rv
  ·rw[Ha z xl]
   unfold DE
   rw[if_neg z]
   refine⟨?_,?_,?_,?_⟩
   ·rw[AS,r1,DP,DP,AS];rfl
   ·rw[AS];exact k2.app (.cons rk2 .nil)
   ·rw[AS];exact v2.app (.cons rv .nil)
   ·refine⟨by rw[As];exact c.2,?_,λk' hk'=>?_⟩
    ·refine Bb.mpr ⟨r4.nd,by simp,λx hx y hy=>?_⟩
     rw[Ah.mp hy]
     exactλe=>z (e▸hx)
    ·rcases AF.mp hk' with w'|w'
     ·exact r4.ok k' w'
     ·rw[Ah.mp w'];exact c.1
 ·rw[if_neg c] at t2
  exact t2.no.elim
def Xa {i:Ix}{lo hi:Nat}(ow:GOw lo hi tg)(rx:RpX rp)(hl:∀ro,ok ro->∀i d,ro[i]?=some (some d)->i<lo\/hi<=i){a:α}{σ:L2.St}{Q:α->L2.St->Hp->Prop}(h:rdM K rp ok (stI i tg tt st) a σ H Q):rdI K i σ H λJ H1=>CGo J (rdG K tg) (rdT K tt) (rdM K rp (λ_=>True) st) a σ H1 Q:=by
 obtain⟨th,mu,ro,b,so,en,o,r,t⟩:=h
 refine⟨th,mu,ro,so,en,t.bind.mono λp th1 mu1 H1 e1 s1 t1 J io=>?_⟩
 exact O1 (rp:=rp) ow rx (hl ro o) (λ_ _ _ _ _=>True.intro) io s1 (en.ext e1 so.out) (rx e1 so.out r) t1
def Lo (K:Zc)(B:Mz α)(rp:List Addr->Hp->β->α->Prop)(fin:β->Sto->D×Sto):Prop:=∀{th:List Addr}{mu:Sto}{H:Hp}{b:β}{a:α},StoOk K th mu H->rp th H b a->B.fin a/\∀p,H p=none ->
 ∃th',Ext th H th' (upd H p (B.ho p a))/\StoOk K th' (fin b mu).2 (upd H p (B.ho p a))/\Rep K th' (upd H p (B.ho p a)) (fin b mu).1 (.ref p)
def R8:Lo K Tz (rpL K) finL:=λ{th mu H b a} so ⟨r,hz⟩=>⟨by show a.length<=sizeLine;rw[r.len];exact hz,λp hp=>⟨th,.new hp _,so.new hp _,Rep.newLst so hp r hz⟩⟩
def KS:Lo K Oq (rpD K) HP:=λ{th mu H b a} so ⟨r1,r2,r3,r4⟩=>⟨True.intro,λp hp=>⟨th,.new hp _,so.new hp _,by
 unfold HP
 dsimp only
 unfold Rep
 have ex:Ext th H th (upd H p (Oq.ho p a)):=.new hp _
 exact⟨p,a,rfl,so.notin hp,DX,r1,r2.ext ex so.out,r3.ext ex so.out,r4⟩⟩⟩
def Wn {i:Ix}{nc hi:Nat}{fv:List (Nat×Str)}{B:Mz α}{b0:β}{fin:β->Sto->D×Sto}{σ:L2.St}{Q:VK}(hn:hi<=nc)(ow:GOw 0 hi tg)(rx:RpX rp)(f:Lo K B rp fin)(r00:∀th H,rp th H b0 B.a0)
  (hok:∀ro d mu ro' mu',(∀i,i<nc->∀d,ro[i]?≠some (some d))->tg d ro mu=some (ro',mu')->ok ro')
  (h:rdE K (eCo i nc (fv.map (·.1)) tg tt st b0 fin) σ H Q):tCo (rdI K i) nc fv B (rdG K tg) (rdT K tt) (rdM K rp ok st) σ H Q:=by
 obtain⟨th,mu,ro,so,en,t⟩:=h
 refine⟨th,mu,ro,so,en,t.bind.mono λp th1 mu1 H1 e1 s1 t1 J io=>?_⟩
 have hno:∀i,i<nc->∀d,(r0 nc (fv.map (·.1)) ro)[i]?≠some (some d):=λi hi d e=>absurd (Lq e) (Nat.not_le.mpr hi)
 refine O1 (rp:=rp) ow rx (λi d e=>.inr (AO hn (Lq e))) (λd mu ro' mu' e=>hok _ d mu ro' mu' hno e) io s1 (Ni (en.ext e1 so.out)) (r00 _ _) (t1.bind.mono λb th2 mu2 H2 e2 s2 t2 a2 σ2 en2 r2=>?_)
 obtain⟨f1,f2⟩:=f s2 r2
 refine⟨f1,λq hq=>?_⟩
 obtain⟨th3,x3,s3,r3⟩:=f2 q hq
 exact t2.retX x3 s3 _ r3
end
section
variable {X:Cx} {α β:Type}{scope:Scope}{e:Expr}{gens rest:List Comprehension}{g:Comprehension}{newAcc:Sem Value}{pos2:Pos}{B:Mz α}{rp:List Addr->Hp->β->α->Prop}{ok:Ro->Prop}{st:Mx β}{tg:Gx}{tt:Tx}{b0:β}{fin:β->Sto->D×Sto}{i:Ix}{step:Addr->Addr->List (Str×Addr)->Sem Unit}
def PM.weak {K:Acc α}{D:Addr}{m:Sem Unit}{t t':TM α}(h:PM X K D m t)(f:∀a σ H Q,t' a σ H Q->t a σ H Q):PM X K D m t':=λpj s σ H Q a o ao pD I q=>h pj s σ H Q a o ao pD I (f a σ H Q q)
structure O3 (X:Cx) (scope:Scope) (own:List Str) (fv:List (Nat×Str)) (e:Expr) (gens:List Comprehension) (g:Comprehension) (rest:List Comprehension) (newAcc:Sem Value) (B:Mz α) (rp:List Addr->Hp->β->α->Prop) (ok:Ro->Prop) (st:Mx β) (tg:Gx) (tt:Tx) (b0:β) (fin:β->Sto->D×Sto) (i:Ix)
  (step:Addr->Addr->List (Str×Addr)->Sem Unit):Prop where
 hc:IsC e gens
 hgens:gens=g::rest
 ha:g.is_async=0
 hnew:newAcc=newObj (.type B.cls) B.d0
 L:LD X scope fv
 hi:SVI X g.target g.iter i
 ow:GOw 0 own.length tg
 rx:RpX rp
 f:Lo X.z B rp fin
 r00:∀th H,rp th H b0 B.a0
 hok:∀ro d mu ro' mu',(∀i,i<own.length->∀d,ro[i]?≠some (some d))->tg d ro mu=some (ro',mu')->ok ro'
 heq:∀it cl C D,compTurn e 0 (.ref it) (.ref D) (compEnvC scope cl C X.env)=GL g (.ref it) (compEnvC scope cl C X.env) (step D C cl) (.compLoop e 0 (.ref it) (.ref D) (compEnvC scope cl C X.env))
 hg:∀cl C s₁ H₁ fp,SVG (CY X scope (own++fv.map (·.2)) cl C s₁ H₁ fp) g.target tg
 ht:∀cl C s₁ H₁ fp,SVF (CY X scope (own++fv.map (·.2)) cl C s₁ H₁ fp) g.ifs tt
 hm:∀cl C s₁ H₁ fp D,DOk (CY X scope (own++fv.map (·.2)) cl C s₁ H₁ fp) D->PM (CY X scope (own++fv.map (·.2)) cl C s₁ H₁ fp) B.toAcc D (step D C cl) (rdM X.z rp ok st)
 hs:∀x,foldedSetIterable g.iter X.env x=pure x
def Qw (own:List Str)(fv:List (Nat×Str))(c:O3 X scope own fv e gens g rest newAcc B rp ok st tg tt b0 fin i step)(hev:eval e X.env=comprehension e scope X.env pos2 newAcc false (eval g.iter X.env)):SV X e (eCo i own.length (fv.map (·.1)) tg tt st b0 fin):=⟨λpj s σ H Q I h=>by
 rw[hev]
 refine Jf (own:=own) (fv:=fv) (B:=B) (tg:=rdG X.z tg) (tt:=rdT X.z tt) (tm:=rdM X.z rp ok st) (step:=step) (wi:=rdI X.z i) (Q:=Q) c.hc c.hgens c.ha c.hnew c.L c.hi.r c.heq (λcl C s₁ H₁ fp=>(c.hg cl C s₁ H₁ fp).r) (λcl C s₁ H₁ fp=>(c.ht cl C s₁ H₁ fp).r) c.hm c.hs (λI=>HC I) I
  (Wn (rp:=rp) (Ae _) c.ow c.rx c.f c.r00 c.hok h) λs6 H' D C m J6 fC nsC q=>?_
 exact⟨m,nsC,λh' sb=>⟨.ref D,H',J6.turnedL (ch:=[C]) (t':=s6.toks) (IE sb) (λb hb=>by rw[Ah.mp hb];exact fC),rfl,q⟩⟩⟩
def AaS (own:List Str)(fv:List (Nat×Str))(j:Nat)(c:O3 X scope own fv e gens g rest newAcc B rp ok st tg tt b0 fin i step){x:Str}{px spos:Pos}
  (hN:X.N.Nodup) (hix:X.N[j]?=some x) (hx:Loc X.env.scope x) (hf:X.fn x=true\/X.env.scope.names.lookup x=some .local)
  (hsw:swapsWith e (some (.Name x px)) spos.line X.env=pure true)
  (hev:evalThenUse e X.env (assign (.Name x px) X.env)=(do let _<-comprehension e scope X.env pos2 newAcc false (eval g.iter X.env) (some (assign (.Name x px) X.env)))) :
  SVS X (.Assign [.Name x px] e spos) (CT (eCo i own.length (fv.map (·.1)) tg tt st b0 fin) (gNm j)):=⟨λpj s σ H E I h=>by
 (rw[exec_Assign_Name_used _ _ _ _ hsw])
 refine Aa (wpAny_standAt (Aa ?_))
 rw[hev]
 have h':rdE X.z (eCo i own.length (fv.map (·.1)) tg tt st b0 fin) σ H λv H'=>E.nx (σ.set j (some v)) H':=by
  obtain⟨th,mu,ro,so,en,t⟩:=h
  refine⟨th,mu,ro,so,en,t.bind.mono λd th1 mu1 H1 e1 s1 t1 v rv=>?_⟩
  exact t1.ret s1 _ ((en.ext e1 so.out).set j rv)
 refine Aa (B1 (Jf (use:=some (assign (.Name x px) X.env)) (Qc:=λ_ s'=>SP X pj E .next s') (own:=own) (fv:=fv) (B:=B) (tg:=rdG X.z tg) (tt:=rdT X.z tt) (tm:=rdM X.z rp ok st) (step:=step) (wi:=rdI X.z i) c.hc c.hgens c.ha c.hnew c.L c.hi.r c.heq (λcl C s₁ H₁ fp=>(c.hg cl C s₁ H₁ fp).r) (λcl C s₁ H₁ fp=>(c.ht cl C s₁ H₁ fp).r) c.hm c.hs (λI=>HC I) I
  (Wn (rp:=rp) (Ae _) c.ow c.rx c.f c.r00 c.hok h') λs6 H' D C m J6 fC nsC q=>?_) (λ_ s' hq=>Ab (Ab hq)) λ_ _ e=>e)
 obtain⟨oC,es,ep,hoC,hdC,rC⟩:=id nsC
 have J7:L2.Inv X (pj++[(C,oC)]) σ H' s6:=J6.pins_of λp hp=>(AF.mp hp).elim (λz=>J6.pin p (Aq _ z)) λz=>by
  have e:p=(C,oC):=by simpa using z
  subst e
  obtain⟨f0,f1,f2,_⟩:=fC
  exact⟨hoC,f0,f1,f2,λv z=>by rw[hdC] at z;cases z⟩
 show wpAny _ X.A (assign (.Name x px) X.env (.ref D)) _ _ _
 refine wpAny_assign_Name (JB J7 hN hix hx (show RelV (.ref D) (.ref D) from rfl) (λs8 I8=>?_) hf)
 have eC:=(I8.pin (C,oC) (Aq _ (Aq _ (Ah.mpr rfl)))).1
 refine⟨m,⟨oC,es,ep,eC,hdC,rC⟩,λh' sb=>?_⟩
 exact⟨_,H',(I8.unpinned).turnedL (ch:=[C]) (t':=s8.toks) (IE sb) (λb hb=>by rw[Ah.mp hb];exact fC),q⟩⟩
end
section
variable {X:Cx}{scope:Scope}{t1 i1 t2 i2 kx vx elt:Expr}{f1 f2:List Expr}{pos:Pos}{i j:Ix}{g g2:Gx}{tt tt2:Tx}{el kk vv:Ex}{fin:List D×List D->Sto->D×Sto}
def LK (hu:X.A.units+64<cLine)(hf:Lo X.z Oq (rpD X.z) fin)(own:List Str)(fv:List (Nat×Str))(L:LD X scope fv)(hi:SVI X t1 i1 i)(ow:GOw 0 own.length g)
  (hg:∀cl C s₁ H₁ fp,SVG (CY X scope (own++fv.map (·.2)) cl C s₁ H₁ fp) t1 g)
  (ht:∀cl C s₁ H₁ fp,SVF (CY X scope (own++fv.map (·.2)) cl C s₁ H₁ fp) f1 tt)
  (hk:∀cl C s₁ H₁ fp,SV (CY X scope (own++fv.map (·.2)) cl C s₁ H₁ fp) kx kk)
  (hv:∀cl C s₁ H₁ fp,SV (CY X scope (own++fv.map (·.2)) cl C s₁ H₁ fp) vx vv)
  (hs:∀x,foldedSetIterable i1 X.env x=pure x:=by intro _;rfl) :
  O3 X scope own fv (.DictComp kx vx [⟨t1,i1,f1,0⟩] scope pos) [⟨t1,i1,f1,0⟩] ⟨t1,i1,f1,0⟩ [] newDict Oq (rpD X.z) (λ_=>True) (stD kk vv) g tt ([],[]) fin i (λD C cl=>Mf kx vx D (compEnvC scope cl C X.env)) where
 hc:=.d
 hgens:=rfl
 ha:=rfl
 hnew:=rfl
 L:=L
 hi:=hi
 ow:=ow
 rx:=S7
 f:=hf
 r00:=λ_ _=>⟨rfl,.nil,.nil,.nil⟩
 hok:=λ_ _ _ _ _ _ _=>True.intro
 heq:=λ_ _ _ _=>Uo
 hg:=hg
 ht:=ht
 hm:=λcl C s₁ H₁ fp D dk=>PM.weak (PL (X:=CY X scope (own++fv.map (·.2)) cl C s₁ H₁ fp) hu dk (hk cl C s₁ H₁ fp).r (hv cl C s₁ H₁ fp).r) λa σ H Q h=>Td (X:=CY X scope (own++fv.map (·.2)) cl C s₁ H₁ fp) h
 hs:=hs
def roN (lo hi:Nat)(ro:Ro):Prop:=∀i d,ro[i]?=some (some d)->i<lo\/hi<=i
def WN {n1 n:Nat}(ow:GOw 0 n1 g):∀ro d mu ro' mu',(∀i,i<n->∀d,ro[i]?≠some (some d))->g d ro mu=some (ro',mu')->roN n1 n ro':=λro d mu ro' mu' hn e i d' e'=>by
 rcases B4 i n1 with h|h
 ·exact .inl h
 ·refine .inr (Nat.not_lt.mp λhlt=>?_)
  rw[(ow _ _ _ _ _ e).2 i (.inr h)] at e'
  exact hn i hlt d' e'
def Sj {n1 n:Nat}(ow:GOw 0 n1 g)(h:n1<=n):GOw 0 n g:=λd ro mu ro' mu' e=>⟨(ow _ _ _ _ _ e).1,λi hi=>(ow _ _ _ _ _ e).2 i (by ext)⟩
def AaL (hu:X.A.units+64<cLine)(hf:Lo X.z Oq (rpD X.z) fin)(own:List Str)(n1:Nat)(hn1:n1<=own.length)(fv:List (Nat×Str))(L:LD X scope fv)(hi:SVI X t1 i1 i)(ow:GOw 0 n1 g)(ow2:GOw n1 own.length g2)
  (hg:∀cl C s₁ H₁ fp,SVG (CY X scope (own++fv.map (·.2)) cl C s₁ H₁ fp) t1 g)
  (ht:∀cl C s₁ H₁ fp,SVF (CY X scope (own++fv.map (·.2)) cl C s₁ H₁ fp) f1 tt)
  (hj:∀cl C s₁ H₁ fp,SVI (CY X scope (own++fv.map (·.2)) cl C s₁ H₁ fp) t2 i2 j)
  (hg2:∀cl C s₁ H₁ fp,SVG (CY X scope (own++fv.map (·.2)) cl C s₁ H₁ fp) t2 g2)
  (ht2:∀cl C s₁ H₁ fp,SVF (CY X scope (own++fv.map (·.2)) cl C s₁ H₁ fp) f2 tt2)
  (hk:∀cl C s₁ H₁ fp,SV (CY X scope (own++fv.map (·.2)) cl C s₁ H₁ fp) kx kk)
  (hv:∀cl C s₁ H₁ fp,SV (CY X scope (own++fv.map (·.2)) cl C s₁ H₁ fp) vx vv)
  (hs:∀x,foldedSetIterable i1 X.env x=pure x:=by intro _;rfl) (hs2:∀(env:Env) x,foldedSetIterable i2 env x=pure x:=by intro _ _;rfl) :
  O3 X scope own fv (.DictComp kx vx [⟨t1,i1,f1,0⟩,⟨t2,i2,f2,0⟩] scope pos) [⟨t1,i1,f1,0⟩,⟨t2,i2,f2,0⟩] ⟨t1,i1,f1,0⟩ [⟨t2,i2,f2,0⟩] newDict Oq (rpD X.z) (roN n1 own.length) (stI j g2 tt2 (stD kk vv)) g tt ([],[]) fin i
   (λD C cl=>deeper (.DictComp kx vx [⟨t1,i1,f1,0⟩,⟨t2,i2,f2,0⟩] scope pos) i2 (.ref D) (compEnvC scope cl C X.env)) where
 hc:=.d
 hgens:=rfl
 ha:=rfl
 hnew:=rfl
 L:=L
 hi:=hi
 ow:=Sj ow hn1
 rx:=S7
 f:=hf
 r00:=λ_ _=>⟨rfl,.nil,.nil,.nil⟩
 hok:=WN ow
 heq:=λ_ _ _ _=>UH
 hg:=hg
 ht:=ht
 hm:=λcl C s₁ H₁ fp D dk=>PM.weak (Qv (X:=CY X scope (own++fv.map (·.2)) cl C s₁ H₁ fp) (g2:=⟨t2,i2,f2,0⟩) (step:=Mf kx vx D (compEnvC scope cl C X.env)) .d L.calm rfl rfl rfl (hj cl C s₁ H₁ fp).r (hs2 _) (λ_=>Vl) (hg2 cl C s₁ H₁ fp).r (ht2 cl C s₁ H₁ fp).r
  (PM.weak (PL (X:=CY X scope (own++fv.map (·.2)) cl C s₁ H₁ fp) hu dk (hk cl C s₁ H₁ fp).r (hv cl C s₁ H₁ fp).r) λa σ H Q h=>Td (X:=CY X scope (own++fv.map (·.2)) cl C s₁ H₁ fp) h)) λa σ H Q h=>Xa (rp:=rpD X.z) ow2 S7 (λro o=>o) h
 hs:=hs
end
def LI:entryFor table "dict.update.loop"=some Builtin.«dict.update.loop»:=entryFor_of_tree (by kernel_rfl)
def Iu:plainId "dict.update.loop"=true:=by symm
theorem Mc {α β:Type}{F G:α->β->Prop}:∀{xs:List α}{ys:List β},Paired F xs ys->(∀x y,F x y->G x y)->Paired G xs ys
 |_,_,.nil,_=>.nil
 |_,_,.cons r t,f=>.cons (f _ _ r) (Mc t f)
def Hd.keep {h h':Heap}{d:D}{u:Value}(x:Hd h d u)(k:∀b o,h.get? b=some o->h'.get? b=some o):Hd h' d u:=by
 obtain⟨a,b,as,c⟩:=x
 exact⟨a,b,as,Reads.keeps k c⟩
def WQ (w:World)(k:D)(u r:Value)(ks:List D)(es es':List DictEntry):Prop:=(k∉ks/\es'=es++[⟨DK w k,u,r⟩])\/∃(j:Nat) (e:DictEntry),ks[j]?=some k/\es[j]?=some e/\es'=es.set j {e with val:=r}
def U5 {w:World}{h:Heap}{k:D}{u r:Value}{ks:List D}{es es':List DictEntry}(x:Hd h k u)(en:Paired (EnK w h) ks es)(p:WQ w k u r ks es es')(v:D)(ds:List D):Paired (EnK w h) (DE k v ks ds).1 es':=by
 unfold DE
 rcases p with⟨n,rfl⟩|⟨j,e,ej,ee,rfl⟩
 ·rw[if_neg n];exact Hb en (.cons ⟨rfl,x⟩ .nil)
 ·rw[if_pos (Aj ej)]
  obtain⟨e2,e3,e4⟩:=(DZ en j).1 k ej
  rw[ee] at e3
  cases e3
  have:=Ii j en (x:=k) (y:={e with val:=r}) ⟨e4.1,e4.2⟩
  have hs:ks.set j k=ks:=by
   refine A6 λi=>?_
   by_cases c:j=i
   ·subst c;rw[BP (Ad.mp ej).1,ej]
   ·rw[Aw c]
  rw[hs] at this
  exact this
def Ue {w:World}{k:D}{u r:Value}{kv vv:V}{ks:List D}{xs:List (Int×V×V)}{es es':List DictEntry}(nd:ks.Nodup)(l:ks.length=xs.length)(pr:Paired EnV xs es)(ru:RelV kv u)(rr:RelV vv r)(p:WQ w k u r ks es es'):Paired EnV (JO k (DK w k) kv vv ks xs) es':=by
 rcases p with⟨n,rfl⟩|⟨j,e,ej,ee,rfl⟩
 ·rw[Ha n l];exact Hb pr (.cons ⟨rfl,ru,rr⟩ .nil)
 ·have hj:j<xs.length:=by rw[<- l];exact(Ad.mp ej).1
  rw[IF hj nd ej]
  obtain⟨y,y1,y2,y3,y4⟩:=(DZ pr j).1 xs[j] (Al hj)
  rw[ee] at y1
  cases y1
  exact Ii j pr ⟨y2,y3,rr⟩
abbrev dOb (es:Array DictEntry) (ep:Nat):Obj:={cls:=.type "dict",data:=.dict es ep}
section
variable {prog:Program}{w:World}{A:Around}{E:Value->Zaa}{s:Shared}
def AaY {D':Addr}{es:Array DictEntry}{ep:Nat}{ks:List D}{k:D}{u r:Value}{Q:Unit->Zaa}(hu:A.units+8<cLine)(hd:Hd s.heap k u)(g1:s.heap.get? D'=some (dOb es ep))(en:Paired (EnK w s.heap) ks es.toList)(nd:ks.Nodup)(lt:ks.length<sizeLine)
  (q:∀h' tk es' ep',Heap.SameBut D' s.heap h'->h'.get? D'=some (dOb es' ep')->WQ w k u r ks es.toList es'.toList/\(ep=es.size->ep'=es'.size)->Q () {s with heap:=h',toks:=tk}):wpAny (model prog w) A (dictSet D' u r) Q E s:=by
 have g3:(dOb es ep).data=.dict es ep:=rfl
 unfold dictSet
 refine AG (Aa (hd.hash hu λtk=>?_))
 unfold dictSetHashed
 refine AG (Aa (JU (s:={s with toks:=tk}) hu hd g1 g3 en nd (λz=>?_) λj ej=>?_))
 ·have hz0:es.size<=sizeLine:=by rw[<- Array.length_toList,<- DF en];ext
  refine Aa (A7 (wpAny_updateDictKeys (s:={s with toks:=tk}) g1 g3 (hz:=hz0) ?_))
  have so1:=AJ (Obj.mapDictKeys (·.push ⟨DK w k,u,r⟩)) g1 (BV (B5 g3 _))
  refine q _ _ (es.push ⟨DK w k,u,r⟩) (ep+1) (AD ..) so1 ⟨.inl ⟨z,by rw[BI]⟩,λge=>by rw[Bq,ge]⟩
 ·have hje:j<es.size:=by rw[<- Array.length_toList,<- DF en];exact(Ad.mp ej).1
  refine Aa (A7 (Aa (wpAny_updateDict (s:={s with toks:=tk}) g1 g3 (wpAny_point ?_))))
  have so1:=AJ (Obj.mapDict (·.modify j λe=>{e with val:=r})) g1 (BV (Obj.data_mapDict g3 _))
  refine q _ _ (es.modify j λe=>{e with val:=r}) ep (AD ..) so1 ⟨.inr ⟨j,es[j],ej,by rw[Af,Av hje],?_⟩,λge=>by rw[Array.size_modify,ge]⟩
  rw[Array.toList_modify]
  refine A6 λi=>?_
  rw[List.getElem?_modify]
  by_cases c:j=i
  ·subst c
   rw[BP (by simpa using hje)]
   simp[hje]
  ·rw[Aw c]
   simp[c]
def PrV (h:Heap)(x:D×V×V)(u:Value):Prop:=∃p ku vu,u=.ref p/\h.IsTuple p #[ku,vu]/\Hd h x.1 ku/\RelV x.2.1 ku/\RelV x.2.2 vu
def IT (w:World)(a:List D×List (Int×V×V))(x:D×V×V):List D×List (Int×V×V):=((DE x.1 .non a.1 []).1,JO x.1 (DK w x.1) x.2.1 x.2.2 a.1 a.2)
def Mu {k v:D}{ks ds:List D}(n:ks.Nodup):(DE k v ks ds).1.Nodup/\(DE k v ks ds).1.length<=ks.length+1:=by
 unfold DE
 split
 ·exact⟨n,Nat.le_succ _⟩
 ·rename_i z
  refine⟨Bb.mpr ⟨n,by simp,λx hx y hy=>?_⟩,by rw[As];exact Ae _⟩
  rw[Ah.mp hy]
  exactλe=>z (e▸hx)
def Rz {a:List D×List (Int×V×V)}{x:D×V×V}(l:a.1.length=a.2.length)(n:a.1.Nodup):(IT w a x).1.length=(IT w a x).2.length:=by
 unfold IT DE
 dsimp only
 by_cases z:x.1∈a.1
 ·obtain⟨j,ej⟩:=AL.mp z
  have hj:j<a.2.length:=by rw[<- l];exact(Ad.mp ej).1
  rw[if_pos z,IF hj n ej,BF]
  exact l
 ·rw[if_neg z,Ha z l,As,As,l]
  rfl
def Uy (w:World)(h0 h:Heap)(d:Addr)(a:List D×List (Int×V×V)):Prop:=∃es ep,h.get? d=some (dOb es ep)/\Paired (EnK w h0) a.1 es.toList/\Paired EnV a.2 es.toList/\a.1.Nodup/\a.1.length=a.2.length/\ep=es.size
theorem AaO {R:Result->Zaa}(hu:A.in1.units+8<cLine){I d:Addr}{fp:List Addr}{P:Nat->Value->Prop}{St:Nat->Heap->Prop}{xs:List (D×V×V)}(W:Walks prog w A.in1 I fp [I] xs.length P St)(hdf:d∉fp){h0:Heap}(hI:h0.get? I=none)(hd:h0.get? d=none)(hval:∀i v,P i v->∃x,xs[i]?=some x/\PrV h0 x v){res:Value}(k:Nat) :
  ∀(i:Nat) (s:Shared) (a:List D×List (Int×V×V)),i+k=xs.length->a.1.length<=i->xs.length<=sizeLine->St i s.heap->(∀b o,h0.get? b=some o->s.heap.get? b=some o)->Uy w h0 s.heap d a ->
   (∀h' tk,(∀b o,b≠d->b≠I->s.heap.get? b=some o->h'.get? b=some o)->Uy w h0 h' d ((xs.drop i).foldl (IT w) a)->R (.ok (.ret res)) {s with heap:=h',toks:=tk}) ->
   codeAny (model prog w) A (Code.builtin "dict.update.loop" ⟨[.ref d,.ref I,rawInt i,res],[]⟩) R s:=by
 have nI:I∈fp:=W.sub _ (by simp)
 have ndI:d≠I:=λz=>hdf (z▸nI)
 induction k with
 |zero =>
  intro i s a e la hz st hk hD hR
  obtain rfl:i=xs.length:=by ext
  refine BM LI ?_
  rw[BE Iu _]
  refine(?_:wpAny _ A.in1 (pyNext (.ref I)>>=_) _ _ s)
  refine Aa (W.done s _ _ st λh1 tk1 k1=>?_)
  refine(?_:wpAny _ A.in1 (Builtin.Dict.addKeywords d []>>=_) _ _ _)
  refine Aa (Ab (Ab (hR h1 tk1 (λb o _ n e=>k1 b o (by simpa using n) e) ?_)))
  rw[List.drop_eq_nil_of_le (Ae _)]
  obtain⟨es,ep,g,r⟩:=hD
  exact⟨es,ep,k1 _ _ (by simpa using ndI) g,r⟩
 |succ k ih =>
  intro i s a e la hz st hk hD hR
  have lt:i<xs.length:=by ext
  refine BM LI ?_
  rw[BE Iu _]
  refine(?_:wpAny _ A.in1 (pyNext (.ref I)>>=_) _ _ s)
  refine Aa (W.item i s _ _ lt st λv h1 tk1 hP st1 k1=>?_)
  obtain⟨x,ex,p,ku,vu,ev,⟨op,p1,p2,np,p3⟩,hk1,rk,rv⟩:=hval i v hP
  subst ev
  have hk':∀b o,h0.get? b=some o->h1.get? b=some o:=λb o g=>k1 b o (by simpa using λz=>by rw[z,hI] at g;cases g) (hk b o g)
  refine(?_:wpAny _ A.in1 (holding [Value.ref p] _>>=_) _ _ _)
  have ty:(Shared.TypeIs {s with heap:=h1,toks:=tk1} (.ref p) "tuple"):=⟨op,hk' _ _ p1,p2⟩
  refine Aa (AG (Aa (wpAny_tryCatch ?_)))
  unfold Builtin.Dict.pairItems
  refine Aa (By ty ?_)
  rw[if_pos (by decide)]
  refine Aa (Bz (hk' _ _ p1) p3 (Ab ?_))
  refine(?_:wpAny _ A.in1 (holding [ku,vu] (dictSet d ku vu)) _ _ _)
  obtain⟨es,ep,g,en,pr,nd,l,ge⟩:=hD
  have g':=k1 _ _ (by simpa using ndI) g
  refine AG (AaY (s:={s with heap:=h1,toks:=tk1}) (ks:=a.1) hu (hk1.keep hk') g' (Mc en λk e q=>⟨q.1,q.2.keep hk'⟩) nd (by ext) λh2 tk2 es2 ep2 sb hD2 ⟨pe,ge2⟩=>?_)
  have dr:xs.drop i=x::xs.drop (i+1):=by
   rw[Bx lt]
   rw[Al lt] at ex
   rw[AR ex]
  have hk2:∀b o,h0.get? b=some o->h2.get? b=some o:=λb o z=>(sb.2 b λq:b=d=>by rw[q,hd] at z;cases z).trans (hk' b o z)
  have cast:rawInt ((i:Int)+1)=rawInt ((i+1:Nat):Int):=rfl
  rw[cast]
  refine Ab (And.intro (plainId_quiet Iu _) (ih (i+1) _ (IT w a x) (by ext) ?_ hz (W.frame _ h1 _ st1 λb hb o z=>(sb.2 b λq:b=d=>hdf (q▸hb)).trans z) hk2 ⟨es2,ep2,hD2,U5 hk1 en pe .non [],Ue nd l pr rk rv pe,(Mu nd).1,Rz l nd,ge2 ge⟩ λh3 tk3 k3 hS3=>hR h3 tk3 (λb o b1 b2 z=>?_) ?_))
  ·have:=(Mu (k:=x.1) (v:=.non) (ds:=[]) nd).2
   unfold IT
   dsimp only
   ext
  ·exact k3 b o b1 b2 ((sb.2 b b1).trans (k1 b o (by simpa using b2) z))
  ·rw[dr];exact hS3
end
def Vb:typeLookup (.type "tuple") "keys"=pure none:=by rw[typeLookup_type,builtinLookup_eq_fast];kernel_rfl
def UD:typeLookup (.type "list") "keys"=pure none:=by rw[typeLookup_type,builtinLookup_eq_fast];kernel_rfl
def gAL {prog:Program}{w:World}{A:Around}{E:Value->Zaa}{s:Shared}{a:Addr}{o:Obj}{xs:Array Value}{k:Nat}{Q:Option Value->Zaa}
  (g:s.heap.get? a=some o) (hc:o.cls=.type "list") (ht:o.data=.seq xs k) (hd:o.dict=none) (hA:A.handled=none)
  (q:∀h' tk,(∀b ob,s.heap.get? b=some ob->h'.get? b=some ob)->Q none {s with heap:=h',toks:=tk}):wpAny (model prog w) A (getAttr? (.ref a) "keys") Q E s:=by
 obtain⟨c,dct,dat,sl⟩:=o
 simp only at hc ht hd
 subst hc ht hd
 obtain⟨hp,gn,dr,tk,os⟩:=s
 have hT:∀tk',(⟨hp,gn,dr,tk',os⟩:Shared).TypeIs (.ref a) "list":=λ_=>⟨_,g,rfl⟩
 have f1:=sub_AttributeError
 have f3:=F.slot_list_getattribute.lookup
 have f4:=F.slot_list_getattribute.bind (.ref a)
 have f5:=am_list_getattr_none
 (unfold getAttr? getAttrBy? getAttrBy)
 repeat (any_goals (first|assumption|exact hT _|((with_reducible show wpAny _ _ (call (Value.builtin "list.__getattribute__") _ _) _ _ _);refine call_meets F.slot_list_getattribute (hT _) am_entry_list_getattribute (F.args_list_getattribute_2 _ _) (meets_getattribute_miss_list a xs k sl "keys" _ UD (by symm)) ⟨g,hA,λh' tk' e hx'=>?_⟩)|wp_step))
 obtain⟨t',u',he⟩:=hx'.there
 (show wpAny _ _ (getattributeRaised _ _ _ _ _ _ _) _ _ _)
 unfold getattributeRaised
 repeat (any_goals (first|assumption|wp_step))
 exact q _ _ hx'.keeps
def gAT {prog:Program}{w:World}{A:Around}{E:Value->Zaa}{s:Shared}{a:Addr}{o:Obj}{xs:Array Value}{k:Nat}{Q:Option Value->Zaa}
  (g:s.heap.get? a=some o) (hc:o.cls=.type "tuple") (ht:o.data=.seq xs k) (hd:o.dict=none) (hA:A.handled=none)
  (q:∀h' tk,(∀b ob,s.heap.get? b=some ob->h'.get? b=some ob)->Q none {s with heap:=h',toks:=tk}):wpAny (model prog w) A (getAttr? (.ref a) "keys") Q E s:=by
 obtain⟨c,dct,dat,sl⟩:=o
 simp only at hc ht hd
 subst hc ht hd
 obtain⟨hp,gn,dr,tk,os⟩:=s
 have hT:∀tk',(⟨hp,gn,dr,tk',os⟩:Shared).TypeIs (.ref a) "tuple":=λ_=>⟨_,g,rfl⟩
 have f1:=sub_AttributeError
 have f3:=F.slot_tuple_getattribute.lookup
 have f4:=F.slot_tuple_getattribute.bind (.ref a)
 have f5:=am_tuple_getattr_none
 (unfold getAttr? getAttrBy? getAttrBy)
 repeat (any_goals (first|assumption|exact hT _|((with_reducible show wpAny _ _ (call (Value.builtin "tuple.__getattribute__") _ _) _ _ _);refine call_meets F.slot_tuple_getattribute (hT _) am_entry_tuple_getattribute (F.args_tuple_getattribute_2 _ _) (meets_getattribute_miss_tuple a xs k sl "keys" _ Vb (by symm)) ⟨g,hA,λh' tk' e hx'=>?_⟩)|wp_step))
 obtain⟨t',u',he⟩:=hx'.there
 (show wpAny _ _ (getattributeRaised _ _ _ _ _ _ _) _ _ _)
 unfold getattributeRaised
 repeat (any_goals (first|assumption|wp_step))
 exact q _ _ hx'.keeps
def set_same {α:Type}{xs:List α}{j:Nat}(hj:j<xs.length):xs.set j xs[j]=xs:=by
 refine A6 λi=>?_
 by_cases c:j=i
 ·subst c;simp[hj]
 ·rw[Aw c]
def UN {K:Zc}{th:List Addr}{H:Hp}{ks vs:List D}{xs:List (Int×V×V)}{k v:D}{kv vv:V}(h:rpD K th H (ks,vs) xs)(hk:Dn k=true)(rk:Rep K th H k kv)(rv:Rep K th H v vv)(lt:ks.length<sizeLine):rpD K th H (DE k v ks vs) (JO k (DK K.w k) kv vv ks xs):=by
 obtain⟨r1,r2,r3,r4⟩:=h
 dsimp only at r1 r2 r3 r4
 have xl:ks.length=xs.length:=by have:=r2.len;simpa using this.symm
 by_cases z:k∈ks
 ·obtain⟨j,ej⟩:=AL.mp z
  have hj:j<xs.length:=by rw[<- xl];exact(Ad.mp ej).1
  rw[IF hj r4.nd ej]
  unfold DE
  rw[if_pos z,Kr r4.nd ej]
  have m1:(xs.set j (xs[j].1,xs[j].2.1,vv)).map (·.1)=xs.map (·.1):=by
   rw[List.map_set]
   have:=set_same (xs:=xs.map (·.1)) (j:=j) (by simpa using hj)
   simpa using this
  have m2:(xs.set j (xs[j].1,xs[j].2.1,vv)).map (·.2.1)=xs.map (·.2.1):=by
   rw[List.map_set]
   have:=set_same (xs:=xs.map (·.2.1)) (j:=j) (by simpa using hj)
   simpa using this
  refine⟨m1.trans r1,by rw[m2];exact r2,by rw[List.map_set];exact r3.setAt j rv,r4⟩
 ·rw[Ha z xl]
  unfold DE
  rw[if_neg z]
  refine⟨?_,?_,?_,?_⟩
  ·rw[AS,r1,DP,DP,AS];rfl
  ·rw[AS];exact r2.app (.cons rk .nil)
  ·rw[AS];exact r3.app (.cons rv .nil)
  ·refine⟨by rw[As];exact lt,?_,λk' hk'=>?_⟩
   ·refine Bb.mpr ⟨r4.nd,by simp,λx hx y hy=>?_⟩
    rw[Ah.mp hy]
    exactλe=>z (e▸hx)
   ·rcases AF.mp hk' with w'|w'
    ·exact r4.ok k' w'
    ·rw[Ah.mp w'];exact hk
def pairsOf:List D->Option (List (D×D))
 |[]=>some []
 |.tup [k,v]::ds=>if Dn k=true then (pairsOf ds).map ((k,v)::·) else none
 |_=>none
def Jv {d:D}{ds:List D}{ps:List (D×D)}(h:pairsOf (d::ds)=some ps):∃k v r,d=.tup [k,v]/\Dn k=true/\pairsOf ds=some r/\ps=(k,v)::r:=by
 unfold pairsOf at h
 split at h
 ·cases ‹_::_=[]›
 ·rename_i k v ds' e
  cases e
  by_cases c:Dn k=true
  ·rw[if_pos c] at h
   cases e2:pairsOf ds with
   |none=>rw[e2] at h;cases h
   |some r=>rw[e2] at h;cases h;exact⟨k,v,r,rfl,c,rfl,rfl⟩
  ·rw[if_neg c] at h;cases h
 ·cases h
theorem Kc:∀{ds:List D}{ps:List (D×D)},pairsOf ds=some ps->ps.length=ds.length
 |[],_,h=>by cases h;rfl
 |d::ds,ps,h=>by
  obtain⟨k,v,r,rfl,_,h',rfl⟩:=Jv h
  rw[List.length_cons,List.length_cons,Kc h']
def putAll (p:List D×List D)(ps:List (D×D)):List D×List D:=ps.foldl (λp x=>DE x.1 x.2 p.1 p.2) p
def dctP:Fn:=λds mu=>match sq1 ds mu with
 |some es=>match pairsOf es with
  |some ps=>some (.dct (putAll ([],[]) ps).1 (putAll ([],[]) ps).2,mu)
  |none=>none
 |none=>none
section
variable {X:Cx}{K:Zc}{th:List Addr}{mu:Sto}{H:Hp}{pj:Zab}{st:L2.St}{s:Shared}
def RN {ds:List D}{r:D×Sto}(h:dctP ds mu=some r):∃d es ps,ds=[d]/\IM mu d=some es/\pairsOf es=some ps/\r=(.dct (putAll ([],[]) ps).1 (putAll ([],[]) ps).2,mu):=by
 unfold dctP at h
 split at h
 ·rename_i es e
  split at h
  ·rename_i ps e2
   cases h
   obtain⟨d,rfl,e3⟩:=Ql e
   exact⟨d,es,ps,rfl,e3,e2,rfl⟩
  ·cases h
 ·cases h
def PrR (K:Zc)(th:List Addr)(H:Hp)(p:D×D)(x:D×V×V):Prop:=p.1=x.1/\Dn p.1=true/\Rep K th H p.1 x.2.1/\Rep K th H p.2 x.2.2
theorem JP (I:L2.Inv X pj st H s):∀{es:List D}{ps:List (D×D)}{vs:List V}{us:List Value},pairsOf es=some ps->RepL X.z th H es vs->Vals vs us->∃xs:List (D×V×V),Paired (PrR X.z th H) ps xs/\Paired (PrV s.heap) xs us
 |[],ps,vs,us,h,r,q=>by
  cases h
  rw[r.inv0] at q
  cases q
  exact⟨[],.nil,.nil⟩
 |d::ds,ps,vs,us,h,r,q=>by
  obtain⟨k,v,ps',rfl,hk,h',rfl⟩:=Jv h
  obtain⟨x,rs,rfl,rx,rr⟩:=r.inv
  cases q with
  |cons q1 q2 =>
   obtain⟨xs,a,b⟩:=JP I h' rr q2
   unfold Rep at rx
   obtain⟨p,pv,rfl,hsq,hl,hz⟩:=rx
   obtain⟨kv,vv,rfl,rk,rv⟩:=HB hl
   cases q1
   obtain⟨its,rvs,pl,hz'⟩:=I.tuple hsq
   obtain⟨ku,vu,rfl,rku,rvu⟩:=vals2 rvs
   exact⟨(k,kv,vv)::xs,.cons ⟨rfl,hk,rk,rv⟩ a,.cons ⟨p,ku,vu,rfl,let ⟨o,ho,hcl,n,hdt⟩:=pl;⟨o,ho,hcl,n,hdt⟩,Ic I hk rk rku,rku,rvu⟩ b⟩
theorem OS {ps:List (D×D)}{xs:List (D×V×V)}(hx:Paired (PrR K th H) ps xs):∀{p:List D×List D}{a:List D×List (Int×V×V)},p.1=a.1->rpD K th H p a.2->p.1.length+ps.length<=sizeLine ->
  (putAll p ps).1=(xs.foldl (IT K.w) a).1/\rpD K th H (putAll p ps) (xs.foldl (IT K.w) a).2:=by
 induction hx with
 |nil=>exactλe r _=>⟨e,r⟩
 |cons hx t ih =>
  rename_i q x ps xs
  intro p a e r l
  obtain⟨e1,e2,e3,e4⟩:=hx
  obtain⟨ks,vs⟩:=p
  obtain⟨as,ax⟩:=a
  dsimp only at e r
  subst e
  have l':ks.length+(ps.length+1)<=sizeLine:=l
  have r':=UN r e2 e3 e4 (by ext)
  unfold putAll
  rw[List.foldl_cons,List.foldl_cons]
  refine ih (p:=DE q.1 q.2 ks vs) (a:=IT K.w (ks,ax) x) ?_ ?_ ?_
  ·unfold IT DE;dsimp only;rw[e1];split<;>rfl
  ·unfold IT;dsimp only;rw[<- e1];exact r'
  ·have:=(Mu (k:=q.1) (v:=q.2) (ds:=vs) r.2.2.2.nd).2
   have this':(DE q.1 q.2 ks vs).1.length<=ks.length+1:=this
   ext
end
section
variable {prog:Program}{w:World}{A:Around}{E:Value->Zaa}{s:Shared}
def Wv {l:Addr}{ol:Obj}{T:String}{us:List Value}{xs:List (D×V×V)}{Q:Value->Zaa}(hu:A.units+16<cLine)(hbig:sysModules<s.heap.objs.size)(hz:xs.length<=sizeLine)(hol:s.heap.get? l=some ol)(hcl:ol.cls=.type T)(hT:(Value.type T != Value.type "dict")=true)
  (hga:∀(A':Around) (s1:Shared) (Q:Option Value->Zaa) (E:Value->Zaa),A'.handled=A.handled->s1.heap.get? l=some ol->(∀h' tk,(∀b ob,s1.heap.get? b=some ob->h'.get? b=some ob)->Q none {s1 with heap:=h',toks:=tk})->wpAny (model prog w) A' (getAttr? (.ref l) "keys") Q E s1)
  (hit:∀E,YieldsV prog w A E s.heap l us) (pr:Paired (PrV s.heap) xs us)
  (q:∀h' tk d',(∀b o,s.heap.get? b=some o->h'.get? b=some o)->Uy w s.heap h' s.heap.objs.size (xs.foldl (IT w) ([],[]))->Q (.ref s.heap.objs.size) {s with heap:=h',toks:=tk,drawn:=d'}) :
  wpAny (model prog w) A (call (.type "dict") [.ref l]) Q E s:=by
 refine callType_codes (Q₁:=λobj s₁=>obj=.ref s.heap.objs.size/\s₁={s with heap:=s.heap.push {cls:=.type "dict",data:=.dict #[]}}) F.kt_called_dict (F.kt_typeCall_dict_1 _) F.entry_dict_init (kt_code_dict_new _ ⟨rfl,rfl⟩) ?_
 rintro obj s₁ ⟨rfl,rfl⟩
 have gl:(s.heap.push {cls:=.type "dict",data:=.dict #[]}).get? l=some ol:=Ac _ hol
 have gd:(s.heap.push {cls:=.type "dict",data:=.dict #[]}).get? s.heap.objs.size=some (dOb #[] 0):=Ag _ rfl
 have tyd:Shared.TypeIs {s with heap:=s.heap.push {cls:=.type "dict",data:=.dict #[]}} (.ref s.heap.objs.size) "dict":=⟨_,gd,rfl⟩
 have ty:Shared.TypeIs {s with heap:=s.heap.push {cls:=.type "dict",data:=.dict #[]}} (.ref l) T:=⟨ol,gl,hcl⟩
 refine⟨tyd,F.args_dict_init_2 _ _,?_⟩
 (unfold Builtin.«dict.__init__»)
 refine Aa ?_
 (unfold Builtin.Dict.selfAndRest)
 refine Aa (B0 tyd (?_:wpAny _ _ (pure (s.heap.objs.size,[Value.ref l])) _ _ _))
 refine Ab (?_:wpAny _ _ (Builtin.Dict.updateFrom "dict.__init__" s.heap.objs.size (.ref l) [] .none) _ _ _)
 (unfold Builtin.Dict.updateFrom)
 refine Aa (By ty ?_)
 rw[if_pos hT]
 refine Aa (hga _ {s with heap:=s.heap.push {cls:=.type "dict",data:=.dict #[]}} _ _ rfl gl λh1 tk1 k1=>?_)
 rw[if_pos (by rfl)]
 refine Aa (A7 ?_)
 have k0:∀b ob,s.heap.get? b=some ob->h1.get? b=some ob:=λb ob e=>k1 _ _ (Ac _ e)
 have hnd:h1.get? s.heap.objs.size=some (dOb #[] 0):=k1 _ _ gd
 have lt1:s.heap.objs.size<h1.objs.size:=An hnd
 refine Aa (hit _ {s with heap:=h1,toks:=tk1} _ _ rfl k0 λI fp h2 d2 P St hI fpl fpn W st0 k2 hval=>?_)
 have hI':h1.objs.size<=I:=hI
 have nf:s.heap.objs.size∉fp:=λz=>by
  rcases fpn _ z with q|⟨o,q⟩
  ·exact absurd (AI lt1 q) (Bv _)
  ·exact absurd (An q) (Bv _)
 have xl:xs.length=us.length:=DF pr
 have W':Walks prog w A.in1.in1 I fp [I] xs.length P St:=by rw[xl];exact W _ rfl
 refine Ab ⟨plainId_quiet Iu _,?_⟩
 refine AaO (A:=A.in1) (by show A.units+1+1+8<cLine;ext) W' nf (h0:=s.heap) (Heap.get?_none_of_le (AO (Nat.le_of_lt lt1) hI')) (Heap.get?_none_of_le (Ae _)) (λi v hP=>?_) xs.length 0 {s with heap:=h2,toks:=tk1,drawn:=d2} ([],[]) (Br _) (A5 _) hz st0 (λb o e=>k2 _ _ (k0 b o e)) ⟨#[],0,k2 _ _ hnd,.nil,.nil,List.nodup_nil,rfl,rfl⟩ λh' tk k3 hD=>⟨rfl,q h' tk d2 (λb o e=>?_) hD⟩
 ·obtain⟨x,x1,x2⟩:=(DZ pr i).2 v (hval i v hP)
  exact⟨x,x1,x2⟩
 ·have bl:=An e
  exact k3 b o (Az bl) (Az (AI (Nat.lt_trans bl lt1) hI')) (k2 _ _ (k0 b o e))
end
def YieldsV.any {prog:Program}{w:World}{A:Around}{h:Heap}{l:Addr}{us:List Value}(y:YieldsV prog w A (λ_ _=>False) h l us)(E:Value->Zaa):YieldsV prog w A E h l us:=λs1 A' R hA hk hR=>B1 (y s1 A' R hA hk hR) (λ_ _ z=>z) λ_ _ z=>z.elim
section
variable {X:Cx}{K:Zc}{th:List Addr}{mu:Sto}{H:Hp}{pj:Zab}{st:L2.St}{s:Shared}
def J5 (hu:X.A.units+64<cLine)(hc:X.calm=true):CallV X (.type "dict") dctP:=by
 intro pj s st H xs us Q I r h
 obtain⟨th,mu,ds,so,rd,t⟩:=h
 obtain⟨a0,mu0,e0,_⟩:=id t
 obtain⟨d,es,ps,rfl,e2,e3,er⟩:=RN e0
 rw[e0] at t
 cases er
 obtain⟨x,rfl,rx⟩:=D8 rd
 obtain⟨a,vs,rfl,h1,h2,h3⟩:=JR so e2 rx
 obtain⟨u,rfl,ru⟩:=vals1 r
 cases ru
 have pl:ps.length=es.length:=Kc e3
 have fin:∀(xs:List (D×V×V)),Paired (PrR X.z th H) ps xs->∀h' tk d',(∀b o,s.heap.get? b=some o->h'.get? b=some o)->Uy X.w s.heap h' s.heap.objs.size (xs.foldl (IT X.w) ([],[]))->EP X pj st Q (.ref s.heap.objs.size) {s with heap:=h',toks:=tk,drawn:=d'}:=λxs pr h' tk d' hk hD=>by
  have hp:H s.heap.objs.size=none:=I.hok.fresh (Ae _)
  obtain⟨es',ep,g,en,pv,nd,l,ge⟩:=hD
  obtain⟨_,r1,r2,r3,r4⟩:=OS (K:=X.z) (p:=([],[])) (a:=([],[])) pr rfl ⟨rfl,.nil,.nil,.nil⟩ (by rw[pl];simpa using h3)
  have I0:L2.Inv X pj st H {s with drawn:=d'}:=⟨I.ok,I.os,I.bare,I.base,I.loc,I.cell,I.free,I.freeC,I.pin,I.hok,I.len⟩
  refine⟨.ref s.heap.objs.size,_,I0.laid (h':=h') (t':=tk) (o:=D1 s.heap.objs.size (xs.foldl (IT X.w) ([],[])).2) hk (Ae _) (IZ ⟨by simpa using BL (HC I),_,es',ep,g,⟨rfl,rfl,rfl⟩,rfl,pv,ge⟩),rfl,?_⟩
  refine t.retX (.new hp _) (so.new hp _) _ ?_
  unfold Rep
  have ex:Ext th H th (upd H s.heap.objs.size (D1 s.heap.objs.size (xs.foldl (IT X.w) ([],[])).2)):=.new hp _
  exact⟨_,_,rfl,so.notin hp,DX,r1,r2.ext ex so.out,r3.ext ex so.out,r4⟩
 have zl:∀{xs:List (D×V×V)},Paired (PrR X.z th H) ps xs->xs.length<=sizeLine:=λq=>by rw[<- DF q,pl];exact h3
 have hh:=I.ok.hd hc
 rcases h1 with h1|⟨h1,_⟩
 ·obtain⟨its,rv,pl',hz⟩:=I.list h1
  obtain⟨o,n,ho,hcl,hdd,hdt⟩:=id pl'
  obtain⟨us,q,y,_⟩:=N6 (E:=λ_ _=>False) I hc h1
  obtain⟨xs,p1,p2⟩:=JP I e3 h2 q
  refine Wv (us:=us) (xs:=xs) (by ext) (HC I) (zl p1) ho hcl (by decide) (λA' s1 Q' E' hA hg hq=>gAL hg hcl hdt hdd (hA.trans hh) hq) y.any p2 (fin xs p1)
 ·obtain⟨its,rv,pl',hz⟩:=I.tuple h1
  obtain⟨o,ho,hcl,n,hdt⟩:=id pl'
  obtain⟨o2,ho2,hdd,_⟩:=I.tupleD h1
  rw[ho] at ho2
  cases ho2
  obtain⟨us,q,y,_⟩:=Ms (E:=λ_ _=>False) I hc h1
  obtain⟨xs,p1,p2⟩:=JP I e3 h2 q
  refine Wv (us:=us) (xs:=xs) (by ext) (HC I) (zl p1) ho hcl (by decide) (λA' s1 Q' E' hA hg hq=>gAT hg hcl hdt hdd (hA.trans hh) hq) y.any p2 (fin xs p1)
end
end PV
namespace L2
open PySem PySem.Spec PyProof.Rows
def IQ {sc:Scope}{env:Env}{x:Str}(h:sc.names.lookup x=some .free):(relabel sc env).names.lookup x=some .cell\/(relabel sc env).names.lookup x=some .free:=by
 have gen:∀l:List (Str×NameKind),l.lookup x=some .free->(l.map λ(n,k)=>if (k==NameKind.free&&env.scope.kind==.function&&env.kindOf n==some .cell)=true then (n,NameKind.cell) else (n,k)).lookup x=some .cell\/(l.map λ(n,k)=>if (k==NameKind.free&&env.scope.kind==.function&&env.kindOf n==some .cell)=true then (n,NameKind.cell) else (n,k)).lookup x=some .free:=by
  intro l
  induction l with
  |nil=>intro h;cases h
  |cons y r ih =>
   intro h
   obtain⟨n,k⟩:=y
   rw[Ay]
   by_cases e:x=n
   ·subst e
    have hb:(x==x)=true:=beq_iff_eq.mpr rfl
    simp only[List.lookup,hb] at h
    cases h
    dsimp only
    split
    ·left;simp only[List.lookup,hb]
    ·right;simp only[List.lookup,hb]
   ·have hb:(x==n)=false:=Cc.mpr e
    simp only[List.lookup,hb] at h
    dsimp only
    have:=ih h
    split<;>(simp only[List.lookup,hb];exact this)
 exact gen sc.names h
theorem V5 {X:Cx}{sc1 scope:Scope}{N:List Str}{cl:List (Str×Addr)}{C:Addr}{s₁:Shared}{H₁:Hp}{fp:List Addr}{fv:List (Nat×Str)}(hc:X.calm=true)(k:scope.kind=.function)(h1:∀y∈scope.names,y.2≠.cell)
  (h2:∀y∈scope.names,y.2=.local->scope.names.lookup y.1=some .local) (h3:∀y∈scope.names,y.2=.free->sc1.names.lookup y.1=some .free) (hf:∀p∈fv,N[p.1]?=some p.2/\sc1.names.lookup p.2=some .free/\scope.names.lookup p.2=some .free) :
  LD (CY X sc1 N cl C s₁ H₁ fp) scope fv:=by
 refine⟨hc,k,h1,h2,λy hy hk=>IQ (h3 y hy hk),?_⟩
 induction fv with
 |nil=>exact True.intro
 |cons p r ih =>
  obtain⟨a,b,c⟩:=hf p List.mem_cons_self
  exact⟨⟨a,IQ b,IQ c⟩,ih λq hq=>hf q (BC _ hq)⟩
end L2
namespace PV
open PySem L2 PySem.Spec PyProof.Rows
def ZO (K:W.Frag)(mg:Str->Option Value)(x:Str)(ss:List Str):Prop:=∃a o its n,mg x=some (.ref a)/\K.lookup a=some o/\o.cls=.type "tuple"/\o.dict=none/\o.data=.seq its n/\its.size<=sizeLine/\Vals (ss.map V.str) its.toList
def Uw {X:Cx}{x:Str}{ss:List Str}{pos:Pos}(hm:ZO X.K X.mg x ss)(h:(ss.all λs=>decide (s.length<=sizeLine)&&PyData.strOk s)=true:=by symm)(hl:ss.length<=sizeLine:=by symm)(hg:Gl X x:=by rfl)(hd:(x==("__debug__":Str))=false:=by decide):SV X (.Name x pos) (eC (.tup (ss.map D.str))):=by
 obtain⟨a,o,its,n,m1,m2,m3,m4,m5,m6,m7⟩:=hm
 refine⟨PE.weak (PH (v:=.ref a) hg m1 rfl hd) λst H Q q=>?_⟩
 obtain⟨th,mu,ro,so,en,t⟩:=q
 refine t.ret so _ ?_
 unfold Rep
 refine⟨a,ss.map V.str,rfl,.inr ⟨o,its,n,m2,m3,m4,m5,m6,m7⟩,LG λs hs=>?_,by rw[Ak];exact hl⟩
 have:=AW.mp h s hs
 rw[Ai,AA] at this
 exact this
def fV:Bool->Int×V×V->V
 |true,x=>x.2.2
 |false,x=>x.2.1
def fD:Bool->List D×List D->List D
 |true,p=>p.2
 |false,p=>p.1
section
variable {X:Cx}{K:Zc}{th:List Addr}{mu:Sto}{H:Hp}
def refOf:D->Option Nat
 |.ref k=>some k
 |_=>none
theorem DcAt.len {a:Addr}{ks ds:List D}(h:DcAt K th H a ks ds):∃xs,H a=some (D1 a xs)/\xs.length=ks.length/\RepL K th H ks (xs.map (fV false))/\RepL K th H ds (xs.map (fV true))/\ks.length<=sizeLine:=by
 obtain⟨xs,h1,h2,h3,h4,h5⟩:=h
 exact⟨xs,h1,by have:=h3.len;simpa using this,h3,h4,h5.len⟩
def Rw (so:StoOk K th mu H){d:D}{p:List D×List D}{a:Addr}(q:DC mu d=some p)(rv:Rep K th H d (.ref a)){th':List Addr}{mu':Sto}{H':Hp}(e:Ext th H th' H')(so':StoOk K th' mu' H')(g:gOk (refOf d) mu mu'):DcAt K th' H' a p.1 p.2:=by
 have rv':=rv.ext e so.out
 have q':DC mu' d=some p:=by
  cases d with
  |ref k =>
   unfold DC at q ⊢
   dsimp only at q ⊢
   rw[show mu'[k]?=mu[k]? from(show mu[k]?=mu'[k]? from g).symm]
   exact q
  |_=>exact q
 obtain⟨b,e1,dc⟩:=D6 so' q' rv'
 cases e1
 exact dc
end
section
variable {prog:Program}{w:World}{A:Around}{E:Value->Zaa}{s:Shared}
def VB {it d:Addr}{i ep:Nat}{es:Array DictEntry}{x y:Value}{Q:Option Value->Zaa}(g:IsItemIter s.heap it d i es.size ep x y)(da:DAt s.heap d es ep)(hi:i<es.size)
  (q:∀h',IsItemIterOut h' it d (i+1) es.size ep es[i].key es[i].val s.heap.objs.size->h'.get? s.heap.objs.size=some (seqObj "tuple" #[es[i].key,es[i].val] 0)->h'.objs.size=s.heap.objs.size+1->(∀b o,b≠it->s.heap.get? b=some o->h'.get? b=some o)->Q (some (.ref s.heap.objs.size)) {s with heap:=h'}) :
  wpAny (model prog w) A (pyNext (.ref it)) Q E s:=by
 obtain⟨od,d1,d2⟩:=da
 have ty:s.TypeIs (.ref it) "dict_itemiterator":=⟨_,g,rfl⟩
 have own:Builtin.Dict_items.ownsTuple "dict_itemiterator"=true:=by decide
 unfold pyNext
 refine Aa (BN (AM (name:=Str.ofString "__next__") ty Bw (AE Bw ty F.entry_dict_itemiterator_next ?_ (F.args_dict_itemiterator_next_1 _))))
 refine Aa (Ab (Aa (Aa ?_)))
 refine Aa (B2 ty (Ab (Aa (wpAny_fieldsOf g rfl ?_))))
 simp only[own,if_true]
 refine(?_:wpAny _ _ (if (Value.ref d==Value.none)=true then _ else _) _ _ s)
 rw[if_neg (show ¬ ((Value.ref d==Value.none)=true) from AN)]
 refine Aa (Ab (Aa (Bc d1 d2 ?_)))
 rw[if_neg (by simp)]
 refine Aa (Ab (Aa (Bk d1 d2 ?_)))
 rw[if_neg (by simp)]
 refine Ab ?_
 simp only[show ¬ ((i:Int)<0) by ext,Bt,Int.toNat_natCast,Av hi]
 refine Aa (Aa (B2 ty (Ab ?_)))
 refine Aa (wpAny_isOneOf_itemiter ty ?_)
 refine(?_:wpAny _ _ (setField (.ref it) 3 (rawInt ((i:Int)+1))>>=_) _ _ s)
 refine Aa (Bs g (by simp) λh1 g1 s1=>?_)
 replace g1:IsItemIter h1 it d (i+1) es.size ep x y:=by
  have e:((i+1:Nat):Int)=(i:Int)+1:=by ext
  unfold IsItemIter;rw[e];simpa[rawInt] using g1
 have ty1:Shared.TypeIs {s with heap:=h1} (.ref it) "dict_itemiterator":=⟨_,g1,rfl⟩
 refine Aa (AG (Aa (wpAny_isOneOf_itemiter ty1 ?_)))
 refine(?_:wpAny _ _ (Builtin.Dict_items.isOneOf _ _>>=_) _ _ {s with heap:=h1})
 refine Aa (wpAny_isOneOf_itemiter ty1 ?_)
 refine(?_:wpAny _ _ (Builtin.Dict_items.pairFromOwner (.ref it) 6 es[i].key es[i].val) _ _ {s with heap:=h1})
 (unfold Builtin.Dict_items.pairFromOwner)
 refine Aa (wpAny_newTuple ?_)
 have g2:IsItemIter (h1.push (seqObj "tuple" #[es[i].key,es[i].val] 0)) it d (i+1) es.size ep x y:=Ac _ g1
 have t2:(h1.push (seqObj "tuple" #[es[i].key,es[i].val] 0)).get? h1.objs.size=some (seqObj "tuple" #[es[i].key,es[i].val] 0):=Ag _ rfl
 have z2:(h1.push (seqObj "tuple" #[es[i].key,es[i].val] 0)).objs.size=h1.objs.size+1:=Bn ..
 have k2:∀b o,b≠it->s.heap.get? b=some o->(h1.push (seqObj "tuple" #[es[i].key,es[i].val] 0)).get? b=some o:=λb o hb e=>Ac _ (s1.extBut b o hb e)
 have il:it<s.heap.objs.size:=An g
 refine(?_:wpAny _ _ (Builtin.Dict_items.ownedTupleIsFree (.ref it)>>=_) _ _ {s with heap:=h1.push (seqObj "tuple" #[es[i].key,es[i].val] 0)})
 generalize h1.push (seqObj "tuple" #[es[i].key,es[i].val] 0)=h2 at g2 t2 z2 k2 ⊢
 rw[s1.1] at t2 z2 ⊢
 (unfold Builtin.Dict_items.ownedTupleIsFree)
 refine Aa (Aa (Be g2 rfl (x:=.none) rfl (Ab ?_)))
 simp only[if_true]
 refine Aa (Be g2 rfl (x:=x) rfl (Aa (Be g2 rfl (x:=y) rfl ?_)))
 refine Aa (Bs g2 (by simp) λh3 g3 s3=>?_)
 refine Aa (Bs (show IsItemIter h3 it d (i+1) es.size ep es[i].key y from g3) (by simp) λh4 g4 s4=>?_)
 refine Aa (Bs (show IsItemIter h4 it d (i+1) es.size ep es[i].key es[i].val from g4) (by simp) λh5 g5 s5=>?_)
 refine Aa (Bs (show IsItemIterOut h5 it d (i+1) es.size ep es[i].key es[i].val s.heap.objs.size from g5) (by simp) λh6 g6 s6=>?_)
 have ne:s.heap.objs.size≠it:=BL il
 have kk:∀b o,b≠it->h2.get? b=some o->h6.get? b=some o:=λb o hb e=>s6.extBut b o hb (s5.extBut b o hb (s4.extBut b o hb (s3.extBut b o hb e)))
 refine Aa (wpAny_letGo (Ab (Ab ⟨_,rfl,Ab (q h6 g6 (kk _ _ ne t2) ?_ λb o hb e=>kk b o hb (k2 b o hb e))⟩)))
 rw[s6.1,s5.1,s4.1,s3.1,z2]
def VO {it d:Addr}{ep:Nat}{es:Array DictEntry}{x y:Value}{Q:Option Value->Zaa}(hh:A.handled=none)(g:IsItemIter s.heap it d es.size es.size ep x y)(da:DAt s.heap d es ep)
  (q:∀h',(∀c o,c≠it->s.heap.get? c=some o->h'.get? c=some o)->Q none {s with heap:=h'}):wpAny (model prog w) A (pyNext (.ref it)) Q E s:=by
 obtain⟨od,d1,d2⟩:=da
 have ty:s.TypeIs (.ref it) "dict_itemiterator":=⟨_,g,rfl⟩
 have own:Builtin.Dict_items.ownsTuple "dict_itemiterator"=true:=by decide
 unfold pyNext
 refine Aa (BN (AM (name:=Str.ofString "__next__") ty Bw (AE Bw ty F.entry_dict_itemiterator_next ?_ (F.args_dict_itemiterator_next_1 _))))
 refine Aa (Ab (Aa (Aa ?_)))
 refine Aa (B2 ty (Ab (Aa (wpAny_fieldsOf g rfl ?_))))
 simp only[own,if_true]
 refine(?_:wpAny _ _ (if (Value.ref d==Value.none)=true then _ else _) _ _ s)
 rw[if_neg (show ¬ ((Value.ref d==Value.none)=true) from AN)]
 refine Aa (Ab (Aa (Bc d1 d2 ?_)))
 rw[if_neg (by simp)]
 refine Aa (Ab (Aa (Bk d1 d2 ?_)))
 rw[if_neg (by simp)]
 refine Ab ?_
 simp only[show ¬ ((es.size:Int)<0) by ext,Bt,Int.toNat_natCast,AZ (Ae es.size)]
 refine Aa (Aa (B2 ty (Ab ?_)))
 refine(?_:wpAny _ _ (setField (.ref it) 2 .none>>=_) _ _ s)
 refine Aa (Bm g rfl (by simp) ?_)
 refine F3 (I:=it) hh λh' e z1 z2=>?_
 obtain⟨oe,he,hc⟩:=z2
 exact Aa (BH (T:="StopIteration") (b:=true) ⟨oe,he,hc⟩ isSubtype_stop (Ab (q h' λc o hc z=>z1 c o (((AD ..).2 c hc).trans z))))
def Q4:entryFor table "dict_itemiterator.__iter__"=some Builtin.«dict_keyiterator.__iter__»:=entryFor_alias (id':="dict_keyiterator.__iter__") (by kernel_rfl) rfl (by symm) (by kernel_rfl)
def VT {it:Addr}{Q:Value->Zaa}(st:s.TypeIs (.ref it) "dict_itemiterator")(q:Q (.ref it) s):wpAny (model prog w) A (pyIter (.ref it)) Q E s:=by
 refine BS st F.slot_dict_itemiterator_iter (AE F.slot_dict_itemiterator_iter st Q4 ?_ (F.args_dict_itemiterator_iter_1 _))
 refine(?_:wpAny _ _ (ret (.ref it)) _ _ s)
 exact Ab ⟨_,rfl,"dict_itemiterator",_,st,Bw.lookup,q⟩
def Q2 {v d:Addr}{ov o:Obj}{es:Array DictEntry}{ep:Nat}{Q:Value->Zaa}(v1:s.heap.get? v=some ov)(vc:ov.cls=.type "dict_items")(v2:ov.data=.fields #[.ref d])(d1:s.heap.get? d=some o)(d2:o.data=.dict es ep)
  (q:∀h',(∀b o,s.heap.get? b=some o->h'.get? b=some o)->IsItemIter h' s.heap.objs.size d 0 es.size ep .none .none->Q (.ref s.heap.objs.size) {s with heap:=h'}):wpAny (model prog w) A (pyIter (.ref v)) Q E s:=by
 have hT:s.TypeIs (.ref v) "dict_items":=⟨ov,v1,vc⟩
 refine BS hT F.slot_dict_items_iter (AE F.slot_dict_items_iter hT F.entry_dict_items_iter ?_ (F.args_dict_items_iter_1 _))
 unfold Builtin.«dict_items.__iter__» Builtin.Dict_items.dictOf
 refine Aa (Ab (Aa (Aa (Be v1 v2 (x:=.ref d) rfl (Ab ?_)))))
 (unfold Builtin.Dict_items.newIterator)
 refine Aa (Aa (Bc d1 d2 (Aa (Bk d1 d2 ?_))))
 simp only[show Builtin.Dict_items.ownsTuple "dict_itemiterator"=true by decide,if_true]
 refine AX (Ab ⟨_,rfl,"dict_itemiterator",_,⟨_,Ag _ rfl,rfl⟩,Bw.lookup,?_⟩)
  (by simp only[sizeOk,Builtin.Dict_items.ownedTupleFields,Ar,As,List.length_cons,List.length_nil,AH];ext)
 exact q _ (λb o e=>Ac _ e) (Ag _ rfl)
end
def ItI (d:Addr)(n:Nat):It:=
 ⟨λi H=>i<n/\∃xs,H d=some (D1 d xs)/\xs.length=n,
  λi H v H'=>∃T x,v=.ref T/\H T=none/\H'=upd H T (.tup [x.2.1,x.2.2])/\∀xs,H d=some (D1 d xs)->∃y:Int×V×V,xs[i]?=some y/\y.2.1=x.2.1/\y.2.2=(x:Int×V×V).2.2,
  λi H=>i=n/\∃xs,H d=some (D1 d xs)/\xs.length=n⟩
def tnI (d it:Addr)(n i:Nat)(h:Heap):Prop:=∃x y,IsItemIter h it d i n n x y
def VL {P:Program}{w:World}{K:W.Frag}{elts:List Expr}{k:Nat}{pos:Pos}(d it:Addr)(n:Nat):Turn P w K (.Tuple elts k pos) (ItI d n) [it] it (tnI d it n) where
 mem:=by simp
 obj:=λi h st b hb=>by
  have e:b=it:=by simpa using hb
  subst e
  obtain⟨x,y,g⟩:=st
  exact⟨_,g,λv z=>by cases z⟩
 keep:=λi h h' ⟨x,y,g⟩ k=>⟨x,y,k it (by simp) _ g⟩
 item:=by
  intro X hP hw hK hc i pj s σ H E I hf st hg
  subst hP hw hK
  obtain⟨hi,xs,hd,hl⟩:=hg
  obtain⟨⟨z,o,es,ep,g1,g2,g3,g4,ge⟩,_⟩:=(show ObjOk X.prog X.w H s.heap d (D1 d xs) from I.hok d _ hd)
  have hsz:es.size=n:=by rw[<- Array.length_toList,<- DF g4];exact hl
  obtain⟨x0,y0,g⟩:=st
  subst hsz ge
  have hie:i<es.size:=hi
  refine VB g ⟨o,g1,g3⟩ hie λh' go ht hz hk=>?_
  refine⟨_,rfl,wpAny_letOwnedTupleGo_items go λh'' gi sb=>?_⟩
  have lt:∀{c:Addr}{o:Obj},s.heap.get? c=some o->c≠s.heap.objs.size:=λe=>Az (An e)
  have nT:s.heap.objs.size≠it:=Ne.symm (lt g)
  have kk:∀b o,b∉[it]->s.heap.get? b=some o->h''.get? b=some o:=λb o hb e=>by
   have hb':b≠it:=by simpa using hb
   exact(sb.2 b hb').trans (hk b o hb' e)
  have I1:Inv X pj σ H {s with heap:=h''}:=I.turnedL (t':=s.toks) kk hf
  have hn:H s.heap.objs.size=none:=I.hok.fresh (Ae _)
  have fT:HS X pj H s.heap.objs.size:=I.fpOk (Ae _) hn
  have ex:es.toList[i]?=some es[i]:=by rw[Af];exact Av hie
  obtain⟨x,x1,_,x3,x4⟩:=(DZ g4 i).2 es[i] ex
  have I2:Inv X pj σ (upd H s.heap.objs.size (.tup [x.2.1,x.2.2])) {s with heap:=h''}:=I1.lay fT I.sz
   ⟨⟨by show 2<=sizeLine;decide,_,(sb.2 _ nT).trans ht,rfl⟩,[es[i].key,es[i].val],.cons x3 (.cons x4 .nil),⟨_,(sb.2 _ nT).trans ht,rfl,_,rfl⟩⟩
  refine⟨.ref s.heap.objs.size,_,I2,rfl,⟨_,x,rfl,hn,rfl,λys hy=>?_⟩,⟨_,_,gi⟩,λb hb=>?_⟩
  ·obtain⟨⟨_,o',es',ep',q1,q2,q3,q4,_⟩,_⟩:=(show ObjOk X.prog X.w H s.heap d (D1 d ys) from I.hok d _ hy)
   rw[g1] at q1
   cases q1
   rw[g3] at q3
   cases q3
   obtain⟨y,y1,_,y3,y4⟩:=(DZ q4 i).2 es[i] ex
   exact⟨y,y1,y3.inj x3,y4.inj x4⟩
  ·have hb':b=it:=by simpa using hb
   subst hb'
   rw[Df (lt g)]
   exact(hf b hb).1
 done:=by
  intro X hP hw hK hc i pj s σ H E I hf st hg
  subst hP hw hK
  obtain⟨hi,xs,hd,hl⟩:=hg
  obtain⟨⟨z,o,es,ep,g1,g2,g3,g4,ge⟩,_⟩:=(show ObjOk X.prog X.w H s.heap d (D1 d xs) from I.hok d _ hd)
  have hsz:es.size=n:=by rw[<- Array.length_toList,<- DF g4];exact hl
  obtain⟨x0,y0,g⟩:=st
  obtain⟨f0,f1,f2,f3,f4,f5⟩:=hf it (by simp)
  subst hi hsz
  exact VO (I.ok.hd hc) g ⟨o,g1,by rw[ge] at g3;exact g3⟩ λh' k=>⟨rfl,I.turned (t':=s.toks) (λb o hb e=>k b o hb e) f0 f1 f3 f4 f5⟩
 self:=λA i s Q E ⟨x,y,g⟩ h=>VT ⟨_,g,rfl⟩ h
def Aax (a d:Addr)(h:Heap):Prop:=∃o,h.get? a=some o/\o.cls=.type "dict_items"/\o.data=.fields #[.ref d]
def Nq (a d:Addr):HO:=.ext (Aax a d)
section
variable {X:Cx}{K:Zc}{th:List Addr}{mu:Sto}{H:Hp}
def Tv:MtR X "dict.items" (λx vs H Q=>vs=[]/\∃a xs,x=.ref a/\H a=some (D1 a xs)/\∀b,H b=none->Q (.ref b) (upd H b (Nq b a))):=by
 intro pj s st H x ys v us Q I rx rys ⟨e0,a,xs,e,hd,q⟩
 subst e e0
 cases rx
 cases rys
 obtain⟨⟨z,ob,es,ep,g1,g2,g3,g4,ge⟩,_⟩:=(show ObjOk X.prog X.w H s.heap a (D1 a xs) from I.hok a _ hd)
 have ty:s.TypeIs (.ref a) "dict":=⟨ob,g1,g2.1⟩
 have hM:MeetsIn X.prog X.w (Builtin.«dict.items» ⟨[.ref a],[]⟩) (λ_ R s=>s.heap.get? a=some ob/\R (.ok (.ret (.ref s.heap.objs.size))) {s with heap:=s.heap.push {cls:=.type "dict_items",data:=.fields #[.ref a]}}):=.of_wp λA R s ⟨g0,h⟩=>by
  refine Aa ?_
  unfold Builtin.Dict.noArgs
  refine Aa (B0 ⟨ob,g0,g2.1⟩ ?_)
  refine(?_:wpAny _ _ (pure a) _ _ s)
  refine Ab (?_:wpAny _ _ (Builtin.Dict.showsAll a>>=_) _ _ s)
  unfold Builtin.Dict.showsAll
  rw[if_neg (by rw[z];exact AN)]
  exact Aa (Ab (Aa (AX (Ab ⟨_,rfl,h⟩))))
 refine call_meetsIn F.slot_dict_items ty F.entry_dict_items (F.args_dict_items_1 _) hM ⟨g1,?_⟩
 have hp:H s.heap.objs.size=none:=I.hok.fresh (Ae _)
 refine⟨.ref s.heap.objs.size,_,I.laid (t':=s.toks) (o:=Nq s.heap.objs.size a) (λb o e=>Ac _ e) (Ae _) ⟨⟨_,Ag _ rfl,rfl,rfl⟩,⟨_,Ag _ rfl⟩,λh1 h2 ⟨o,x1,x2⟩ k=>⟨o,k o x1,x2⟩⟩,rfl,q _ hp⟩
def Aa5 (te:TE):TI:=fun σ H R=>te σ H λx H1=>∃b a xs,x=.ref b/\H1 b=some (Nq b a)/\H1 a=some (D1 a xs)/\R (ItI a xs.length) H1
def Z1 {elts:List Expr}{k:Nat}{pos:Pos}{e:Expr}{te:TE}(he:PE X e te):PI X (.Tuple elts k pos) e (Aa5 te):=by
 intro pj s σ H R I h
 refine thn (he pj s σ H _ I h) λv s1 ⟨x,H1,I1,r1,q1⟩=>?_
 obtain⟨b,a,xs,e,hv,hd,q⟩:=q1
 subst e
 cases r1
 obtain⟨⟨z,o,es,ep,g1,g2,g3,g4,ge⟩,_⟩:=(show ObjOk X.prog X.w H1 s1.heap a (D1 a xs) from I1.hok a _ hd)
 obtain⟨⟨ov,v1,v2,v3⟩,_⟩:=(show ObjOk X.prog X.w H1 s1.heap b (Nq b a) from I1.hok b _ hv)
 have hsz:es.size=xs.length:=by rw[<- Array.length_toList,<- DF g4]
 refine Q2 v1 v2 v3 g1 g3 λh' hk di=>?_
 rw[ge,hsz] at di
 refine⟨s1.heap.objs.size,[s1.heap.objs.size],_,_,H1,rfl,I1.kept (t':=s1.toks) λb o e=>hk b o e,VL a _ _,⟨_,_,di⟩,λb hb=>?_,q⟩
 have e:b=s1.heap.objs.size:=by simpa using hb
 subst e
 exact I1.fpOk (Ae _) (I1.hok.fresh (Ae _))
def Ls (p:List D×List D):List D:=(p.1.zip p.2).map λq=>.tup [q.1,q.2]
def iDi (m:Ex):Ix:=λro mu=>bM (m ro mu) λd m1=>match DC m1 d with
 |some p=>some ((Ls p,refOf d),m1)
 |none=>none
def Uj {a:Addr}{p:List D×List D}{g:Option Nat}(h:∀th' mu' H',Ext th H th' H'->StoOk K th' mu' H'->gOk g mu mu'->DcAt K th' H' a p.1 p.2)(hl:p.1.length=p.2.length)(hz:p.1.length<=sizeLine):OG K (ItI a p.1.length) th mu H (Ls p) g where
 sz:=by unfold Ls;rw[Ak,List.length_zip];ext
 go:=λth' mu' H' e s go i d ed=>by
  obtain⟨xs,h1,h2,h3,h4,_⟩:=(h th' mu' H' e s go).len
  unfold Ls at ed
  rw[Am] at ed
  cases q:(p.1.zip p.2)[i]? with
  |none=>rw[q] at ed;cases ed
  |some pr =>
   rw[q] at ed
   have ed':D.tup [pr.1,pr.2]=d:=AR ed
   subst ed'
   obtain⟨q1,q2⟩:=List.getElem?_zip_eq_some.mp q
   have hi:i<p.1.length:=(Ad.mp q1).1
   obtain⟨v,ev,rv⟩:=h3.get q1
   obtain⟨u,eu,ru⟩:=h4.get q2
   refine⟨⟨hi,xs,h1,h2⟩,λx H2 y=>?_⟩
   obtain⟨T,x',rfl,hT,rfl,f⟩:=y
   obtain⟨z,z1,z2,z3⟩:=f xs h1
   rw[Am,z1] at ev eu
   have ev':z.2.1=v:=by simpa[fV] using ev
   have eu':z.2.2=u:=by simpa[fV] using eu
   rw[z2] at ev'
   rw[z3] at eu'
   subst ev' eu'
   exact⟨.new hT _,s.new hT _,Rep.newTup s hT (.cons rv (.cons ru .nil)) (by show 2<=sizeLine;decide)⟩
 stop:=λth' mu' H' e s go=>by
  obtain⟨xs,h1,h2,_⟩:=(h th' mu' H' e s go).len
  refine⟨?_,xs,h1,h2⟩
  unfold Ls
  rw[Ak,List.length_zip]
  ext
theorem IX {elts:List Expr}{k:Nat}{pos:Pos}{o:Expr}{m:Ex}{apos cpos:Pos}(ho:SV X o m)(hbase:attributeBase o "items" X.env (eval o X.env)=eval o X.env:=by rfl)(hline:(apos.endLine==cpos.line)=true:=by rfl):SVI X (.Tuple elts k pos) (.Call (.Attribute o "items" apos) [] [] cpos) (iDi m):=
 ⟨PI.weak (Z1 (RH F.slot_dict_items F.type_dict_items Tv ho.r hbase hline)) λst H R q=>by
 obtain⟨th,mu,ro,so,en,t⟩:=q
 refine⟨th,mu,ro,so,en,t.bind.mono λd th1 mu1 H1 e1 s1 t1 v rv=>?_⟩
 cases q:DC mu1 d with
 |none=>rw[q] at t1;exact t1.no.elim
 |some p =>
  rw[q] at t1
  obtain⟨a,rfl,dc⟩:=D6 s1 q rv
  obtain⟨xs,h1,h2,h3,h4,h5⟩:=id dc.len
  have hl:p.1.length=p.2.length:=by have:=h3.len;have:=h4.len;simp at *;ext
  refine⟨⟨a,xs,rfl,h1⟩,rfl,a,xs,rfl,h1,λb hb=>⟨b,a,xs,rfl,DX,by rw[Df (Di h1 hb)];exact h1,?_⟩⟩
  have ex:Ext th1 H1 th1 (upd H1 b (Nq b a)):=.new hb _
  refine(t1.ahead ex).ret (s1.new hb _) _ ?_
  rw[h2]
  exact Uj (λth' mu' H' e s' go=>Rw s1 q rv (ex.trans e) s' go) hl h5⟩
end
section
variable {X:Cx}{K:Zc}{th:List Addr}{mu:Sto}{H:Hp}{pj:Zab}{st:L2.St}{s:Shared}
def trD:D->Option Bool
 |.bl b=>some b
 |.tup ds=>some (!ds.isEmpty)
 |.lst ds=>some (!ds.isEmpty)
 |_=>none
def tTr (a:Ex):Tx:=λro mu=>bM (a ro mu) λx m1=>(trD x).map λb=>(b,m1)
theorem Ta {ds:List D}{vs:List V}(r:RepL K th H ds vs):ds.isEmpty=vs.isEmpty:=by
 cases ds with
 |nil=>rw[r.inv0];rfl
 |cons d ds=>obtain⟨v,r',rfl,_⟩:=r.inv;rfl
theorem WK {e:Expr}{m:Ex}(h:SV X e m)(he:∀whole,isTrue e X.env whole=(do let v<-whole;standAt e.pos;holding [v] (truthy v)):=by intro _;rfl):SVT X e (tTr m):=⟨PT.weak (Ry h.r he) λst H Q q=>by
 obtain⟨th,mu,ro,so,en,t⟩:=q
 refine⟨th,mu,ro,so,en,t.bind.mono λd th1 mu1 H1 e1 s1 t1 v rv=>?_⟩
 cases d with
 |bl b=>cases (show v=_ from rv);exact⟨b,rfl,t1.ret s1⟩
 |tup ds =>
  unfold Rep at rv
  obtain⟨a,vs,rfl,h1,h2,_⟩:=rv
  exact⟨_,.inr (.inl ⟨vs,h1,by rw[Ta h2]⟩),t1.ret s1⟩
 |lst ds =>
  unfold Rep at rv
  obtain⟨a,vs,rfl,h1,h2,_⟩:=rv
  exact⟨_,.inl ⟨vs,h1.sq,by rw[Ta h2]⟩,t1.ret s1⟩
 |_=>exact t1.no.elim⟩
def VC (d:D)(xs:List D)(mu:Sto):Rs D:=match d,Gm xs with
 |.lst ds,some x=>if Dl x&&EJ ds&&decide (min (PyData.depthAll (CJ ds)) (toPy x).depth<=60) then some (.int ((CJ ds).countP λy=>PyData.eqv y (toPy x):Nat),mu) else none
 |_,_=>none
def L3 (o:Ex)(a:Exs):Ex:=λro mu=>bM (o ro mu) λd m1=>match d with
 |.lst ds=>bM (a ro m1) λxs m2=>VC (.lst ds) xs m2
 |_=>none
theorem QQ (hu:X.A.units+64<cLine):MtR X "list.count" (λx vs H Q=>∃th mu d ds,StoOk X.z th mu H/\Rep X.z th H d x/\RepL X.z th H ds vs/\Tr X.z th H (VC d ds mu) (KV' X.z Q)):=by
 intro pj s st H x xs v us Q I rx rxs h
 obtain⟨th,mu,d,ds,so,r1,r2,t⟩:=h
 cases d with
 |lst es =>
  unfold VC at t
  cases e:Gm ds with
  |none=>rw[e] at t;exact t.no.elim
  |some y =>
   rw[e] at t
   dsimp only at t
   by_cases c:(Dl y&&EJ es&&decide (min (PyData.depthAll (CJ es)) (toPy y).depth<=60))=true
   ·rw[if_pos c] at t
    rw[Ai,Ai,AA] at c
    rw[GP e] at r2
    obtain⟨yv,rfl,ry⟩:=D8 r2
    obtain⟨u,rfl,ru⟩:=vals1 rxs
    unfold Rep at r1
    obtain⟨a,vs,rfl,h1,h2,h3⟩:=r1
    cases rx
    obtain⟨its,rv,⟨o,n,g1,g2,_,g3⟩,_⟩:=I.list h1.sq
    obtain⟨as,w1,w2⟩:=Fj I es vs its c.1.2 h2 rv
    obtain⟨bs,w3,w4⟩:=EO I y yv u c.1.1 ry ru
    obtain⟨cls,dd,data,sl⟩:=o
    simp only at g2 g3
    subst g2 g3
    have he:∀z,z∈its.toArray->SeqAt.EqAt X.A.in1 s z u (PyData.eqv (SeqAt.readOf s.heap z) (toPy y)):=SeqAt.items_eqAt (A:=X.A) (by simpa using w1) w3 w2 w4 (by ext)
    have hc:=Ou (s:=s) (vs:=its.toArray) (d:=toPy y) (by simpa using w1) w2
    refine call_meets F.slot_list_count (show s.TypeIs (.ref a) "list" from⟨_,g1,rfl⟩) F.entry_list_count (F.args_list_count_2 _ _) (SeqAt.list_countAt a its.toArray n dd sl u _) ⟨g1,he,?_⟩
    rw[hc]
    exact⟨.int _,H,I.tok _,⟨_,rfl⟩,t.ret so _ rfl⟩
   ·rw[if_neg c] at t;exact t.no.elim
 |_=>exact t.no.elim
def Rk {o e:Expr}{m:Ex}{n:Exs}{apos cpos:Pos}(hu:X.A.units+64<cLine)(ho:SV X o m)(ha:SVA X [e] n)(hbase:attributeBase o "count" X.env (eval o X.env)=eval o X.env:=by rfl)
  (hfew:((backTo cpos (starEach [e] X.env)).all (λx=>!x.1)&&(backToKw cpos (keywordEach [] X.env)).all (λx=>x.1.isSome)
   && decide ([e].length+([]:List Keyword).length+(if ([]:List Keyword).isEmpty then 0 else 1)<30))=true:=by rfl)
  (hline:(apos.endLine==cpos.line)=true:=by rfl) (hs:starEach [e] X.env=(false,eval e X.env)::starEach [] X.env:=by rfl) (hplain:(backTo cpos (starEach [] X.env)).any (·.1)=false:=by rfl) :
  SV X (.Call (.Attribute o "count" apos) [e] [] cpos) (L3 m n):=
 ⟨PE.weak (We F.plainAttrs_list F.slot_list_count F.type_list_count (QQ hu) ho.r ha.1 hbase hfew hline hs hplain) λst H Q h=>by
  obtain⟨th,mu,ro,so,en,t⟩:=h
  refine⟨th,mu,ro,so,en,t.bind.mono λd th1 mu1 H1 e1 s1 t1 v rv=>?_⟩
  cases d with
  |lst ds =>
   have rv':=rv
   unfold Rep at rv'
   obtain⟨a,vs,rfl,h1,_⟩:=rv'
   refine⟨.inl ⟨rfl,vs,h1.sq⟩,th1,mu1,ro,s1,en.ext e1 so.out,?_⟩
   exact Tr.mono (Tr.bind t1) λxs th2 mu2 H2 e2 s2 t2 ws rws=>⟨th2,mu2,.lst ds,xs,s2,rv.ext e2 s1.out,rws,t2⟩
  |_=>exact t1.no.elim⟩
def PP (X:Cx)(ps:List (Sem Value×Sem Value))(t:TA):Prop:=∀(pj:Zab) (s:Shared) (σ:L2.St) (H:Hp) (Q:List V->Hp->Prop),L2.Inv X pj σ H s->t σ H Q ->
 wpAny (model X.prog X.w) X.A (evalPairs ps) (λvs s1=>∃xs H1,L2.Inv X pj σ H1 s1/\Vals xs (vs.flatMap λp=>[p.1,p.2])/\Q xs H1) X.xe s
structure RQ (X:Cx) (ps:List (Sem Value×Sem Value)) (m:Exs):Prop where
 r:PP X ps (rdA X.z m)
def US:RQ X [] Cr:=⟨λpj s σ H Q I h=>by
 obtain⟨th,mu,ro,so,en,t⟩:=h
 exact evalPairs_nil ⟨[],H,I,.nil,t.ret so _ .nil⟩⟩
def Ug {k v:Expr}{ps:List (Sem Value×Sem Value)}{tk tv:TE}{t:TA}{pos:Pos}(hk:PE X k tk)(hv:PE X v tv)(hr:PP X ps t):PP X ((eval k X.env,(do let x<-eval v X.env;standAt pos;pure x))::ps) (TL tk (TL tv t)):=λpj s σ H Q I h=>by
 refine evalPairs_cons (thn (hk pj s σ H _ I h) λu s1 ⟨x,H1,I1,r1,q1⟩=>Aa (thn (hv pj s1 σ H1 _ I1 q1) λu2 s2 ⟨y,H2,I2,r2,q2⟩=>Aa (wpAny_standAt (Ab (thn (hr pj s2 σ H2 _ I2 q2) λvs s3 ⟨xs,H3,I3,r3,q3⟩=>⟨x::y::xs,H3,I3,.cons r1 (.cons r2 r3),q3⟩)))))
def Tw {k v:Expr}{ps:List (Sem Value×Sem Value)}{a b:Ex}{m:Exs}{pos:Pos}(hk:SV X k a)(hv:SV X v b)(hr:RQ X ps m):RQ X ((eval k X.env,(do let x<-eval v X.env;standAt pos;pure x))::ps) (Co a (Co b m)):=⟨λpj s σ H Q I h=>by
 refine Ug hk.r hv.r hr.r pj s σ H Q I ?_
 obtain⟨th,mu,ro,so,en,t⟩:=h
 refine⟨th,mu,ro,so,en,t.bind.mono λx th1 mu1 H1 e1 s1 t1 v rv=>?_⟩
 have en1:=en.ext e1 so.out
 refine⟨th1,mu1,ro,s1,en1,t1.bind.bind.mono λy th2 mu2 H2 e2 s2 t2 u ru=>?_⟩
 exact⟨th2,mu2,ro,s2,en1.ext e2 s1.out,t2.bind.mono λxs th3 mu3 H3 e3 s3 t3 vs rvs=>(t3.ret s3).ret s3 _ (.cons ((rv.ext e2 s1.out).ext e3 s2.out) (.cons (ru.ext e3 s2.out) rvs))⟩⟩
def MP:List D->Option (List (D×D))
 |[]=>some []
 |k::v::r=>if Dn k=true then (MP r).map ((k,v)::·) else none
 |[_]=>none
def dnD (xs:List D)(m1:Sto):Rs D:=match MP xs with
 |some ps=>if ps.length<=15 then some (.ref m1.length,m1++[.dct (putAll ([],[]) ps).1 (putAll ([],[]) ps).2]) else none
 |none=>none
def eDN (a:Exs):Ex:=λro mu=>bM (a ro mu) dnD
def Uk (k v:D)(ks ds:List D):(DE k v ks ds).1.length<=ks.length+1:=by
 unfold DE
 split
 ·exact Nat.le_succ _
 ·simp
theorem LN {d:Addr}{m1:Sto}(hd:th[m1.length]?=some d){A:Around}{E:Value->Zaa}(hu:A.units+8<cLine):∀(vs:List (Value×Value)) (ps:List (D×D)) (xs:List V) (ds0:List D) (ks ds:List D) (H:Hp) (s:Shared) (Q:PUnit->Zaa),MP ds0=some ps->RepL X.z th H ds0 xs->Vals xs (vs.flatMap λp=>[p.1,p.2]) ->
  L2.Inv X pj st H s->DcAt X.z th H d ks ds->StoOk X.z th (m1++[.dct ks ds]) H->ks.length+ps.length<=sizeLine ->
  (∀s' H',L2.Inv X pj st H' s'->StoOk X.z th (m1++[.dct (putAll (ks,ds) ps).1 (putAll (ks,ds) ps).2]) H'->Ext th H th H'->Q PUnit.unit s') ->
  wpAny (model X.prog X.w) A (forIn vs PUnit.unit λ(x:Value×Value) (_:PUnit)=>(do dictSet d x.1 x.2;pure (ForInStep.yield PUnit.unit):Sem (ForInStep PUnit))) Q E s
 |[],ps,xs,ds0,ks,ds,H,s,Q,hp,r,q,I,dc,so,hl,hQ=>by
  cases q
  cases ds0 with
  |nil =>
   have hp':some ([]:List (D×D))=some ps:=by rw[<- hp];unfold MP;rfl
   cases hp'
   rw[List.forIn_nil]
   exact Ab (hQ s H I so (.refl _ _))
  |cons d ds=>obtain⟨_,_,e,_⟩:=r.inv;cases e
 |(u,v)::vs,ps,xs,ds0,ks,ds,H,s,Q,hp,r,q,I,dc,so,hl,hQ=>by
  rw[List.flatMap_cons] at q
  cases q with
  |cons q1 q2 =>
   cases q2 with
   |cons q2 q3 =>
    cases ds0 with
    |nil=>cases r.inv0
    |cons k r1 =>
     obtain⟨_,_,e,rk,r2⟩:=r.inv
     cases e
     cases r1 with
     |nil=>cases r2.inv0
     |cons y r1 =>
      obtain⟨_,_,e,ry,r3⟩:=r2.inv
      cases e
      have hp':(if Dn k=true then (MP r1).map ((k,y)::·) else none)=some ps:=by rw[<- hp];conv=>rhs;unfold MP
      by_cases hk:Dn k=true
      ·rw[if_pos hk] at hp'
       obtain⟨ps',e1,rfl⟩:=Option.map_eq_some_iff.mp hp'
       rw[List.length_cons] at hl
       rw[List.forIn_cons]
       refine Aa (Aa (R0 (A:=A) I dc (λxs=>.mut (Aj hd) _) so hk rk q1 ry q2 (by ext) hu λs' xs' I' dc'=>Ab ?_))
       have ex:Ext th H th (upd H d (D1 d xs')):=.mut (Aj hd) _
       have so':=so.putG hd (D1 d xs') (.dct (DE k y ks ds).1 (DE k y ks ds).2) dc'
       rw[show(m1++[MO.dct ks ds]).set m1.length (.dct (DE k y ks ds).1 (DE k y ks ds).2)=m1++[.dct (DE k y ks ds).1 (DE k y ks ds).2] by simp] at so'
       have:=Uk k y ks ds
       exact LN hd hu vs ps' _ r1 _ _ _ s' Q e1 (r3.ext ex so.out) q3 I' dc' so' (by ext) λs2 H2 I2 so2 e2=>hQ s2 H2 I2 so2 (ex.trans e2)
      ·rw[if_neg hk] at hp';cases hp'
def UE {keys:List (Option Expr)}{values:List Expr}{pos:Pos}{ps:List (Sem Value×Sem Value)}{m:Exs}(hu:X.A.units+64<cLine)(h:RQ X ps m)(h0:ps≠[])(hl:ps.length<=15)
  (hshape:(evalEachOpt keys X.env).zip ((evalEach values X.env).map λv=>do let x<-v;standAt pos;pure x)=ps.map λp=>(some p.1,p.2):=by rfl):SV X (.Dict keys values pos) (eDN m):=⟨λpj s σ H Q I q=>by
 rw[arm_eval_Dict,hshape,dictDisplay_pairs ps h0 (by ext)]
 refine Aa (wpAny_standAt (Aa ?_))
 unfold subDict
 refine Aa (wpAny_alloc (Aa (AG ?_)))
 rw[if_pos hl]
 have hd0:(s.heap.push {cls:=.type "dict",data:=.dict #[]}).get? s.heap.objs.size=some {cls:=.type "dict",data:=.dict #[]}:=Ag _ rfl
 have hn:H s.heap.objs.size=none:=I.hok.fresh (Ae _)
 have fp:=I.fpOk (Ae _) hn
 have I0:L2.Inv X pj σ H {s with heap:=s.heap.push {cls:=.type "dict",data:=.dict #[]}}:=I.kept (t':=s.toks) λb o e=>Ac _ e
 have I1:L2.Inv X (pj++[(s.heap.objs.size,{cls:=.type "dict",data:=.dict #[]})]) σ H {s with heap:=s.heap.push {cls:=.type "dict",data:=.dict #[]}}:=I0.pins_of λp hp=>by
  rcases AF.mp hp with z|z
  ·exact I0.pin p (Aq _ z)
  ·rw[Ah.mp z]
   exact⟨hd0,hn,fp.2.1,fp.2.2.1,λv z=>by cases z⟩
 obtain⟨th,mu,ro,so,en,t⟩:=q
 refine Aa (thn (h.r _ _ σ H (λvs H1=>∃th1 mu1 ds,Ext th H th1 H1/\StoOk X.z th1 mu1 H1/\Tr X.z th1 H1 (dnD ds mu1) (KV' X.z Q)/\RepL X.z th1 H1 ds vs) I1 ⟨th,mu,ro,so,en,t.bind.mono λds th1 mu1 H1 e1 s1 t1 vs rvs=>⟨th1,mu1,ds,e1,s1,t1,rvs⟩⟩) λvs s2 ⟨xs,H2,I2,rv,q⟩=>?_)
 obtain⟨th1,mu1,ds,e1,s1,t1,rvs⟩:=q
 obtain⟨ps',ep,l15⟩:∃ps',MP ds=some ps'/\ps'.length<=15:=by
  obtain⟨_,_,e,_⟩:=id t1
  unfold dnD at e
  split at e
  ·rename_i ps' ep
   split at e
   ·exact⟨ps',ep,by assumption⟩
   ·cases e
  ·cases e
 have t2:Tr X.z th1 H2 (some (.ref mu1.length,mu1++[.dct (putAll ([],[]) ps').1 (putAll ([],[]) ps').2])) (KV' X.z Q):=by
  unfold dnD at t1
  rw[ep] at t1
  dsimp only at t1
  rw[if_pos l15] at t1
  exact t1
 obtain⟨g1,n1,l1,f1,_⟩:=I2.pin (s.heap.objs.size,_) (Aq _ (Aq _ (Ah.mpr rfl)))
 dsimp only at g1 n1 l1 f1
 have I3:L2.Inv X pj σ H2 s2:=I2.pins_sub λp hp=>A0 _ hp
 have big:=HC I
 have I4:L2.Inv X pj σ (upd H2 s.heap.objs.size (D1 s.heap.objs.size [])) s2:=I3.lay ⟨n1,fp.2⟩ I.sz (IZ ⟨Cc.mpr (Ne.symm (Az big)),_,#[],0,g1,⟨rfl,rfl,rfl⟩,rfl,.nil,rfl⟩)
 have so4:StoOk X.z (th1++[s.heap.objs.size]) (mu1++[.dct [] []]) (upd H2 s.heap.objs.size (D1 s.heap.objs.size [])):=s1.newD n1
 have ex4:Ext th1 H2 (th1++[s.heap.objs.size]) (upd H2 s.heap.objs.size (D1 s.heap.objs.size [])):=.newM n1 _
 have hd:(th1++[s.heap.objs.size])[mu1.length]?=some s.heap.objs.size:=by rw[<- s1.len];simp
 have dc:DcAt X.z (th1++[s.heap.objs.size]) (upd H2 s.heap.objs.size (D1 s.heap.objs.size [])) s.heap.objs.size [] []:=so4.at' mu1.length s.heap.objs.size (.dct [] []) hd (by simp)
 refine AG (Aa (LN (E:=X.xe) hd (by ext) vs ps' xs ds [] [] _ s2 _ ep (rvs.ext ex4 s1.out) rv I4 dc so4 (by rw[AH,List.length_nil];ext) λs5 H5 I5 so5 e5=>Ab (Ab (Ab ?_))))
 refine⟨.ref s.heap.objs.size,H5,I5,rfl,t2.retX (ex4.trans e5) so5 _ ?_⟩
 unfold Rep
 exact⟨_,rfl,hd⟩⟩
structure SVD (X:Cx) (ks:List (Option Expr)) (vs:List Expr) (pos:Pos) (m:Exs):Prop where
 e:∃ps,(evalEachOpt ks X.env).zip ((evalEach vs X.env).map λv=>do let x<-v;standAt pos;pure x)=ps.map (λp=>(some p.1,p.2))/\RQ X ps m/\ps.length=vs.length
def Up {pos:Pos}:SVD X [] [] pos Cr:=⟨⟨[],rfl,US,rfl⟩⟩
def KI {k v:Expr}{ks:List (Option Expr)}{vs:List Expr}{pos:Pos}{a b:Ex}{m:Exs}(hk:SV X k a)(hv:SV X v b)(hr:SVD X ks vs pos m):SVD X (some k::ks) (v::vs) pos (Co a (Co b m)):=by
 obtain⟨ps,e,h,l⟩:=hr
 refine⟨⟨(eval k X.env,(do let x<-eval v X.env;standAt pos;pure x))::ps,?_,Tw hk hv h,by rw[List.length_cons,l,List.length_cons]⟩⟩
 rw[Ay,<- e]
 rfl
def Yi {ks:List (Option Expr)}{vs:List Expr}{pos:Pos}{m:Exs}(hu:X.A.units+64<cLine)(h:SVD X ks vs pos m)(h0:vs≠[]:=by simp)(hl:vs.length<=15:=by decide):SV X (.Dict ks vs pos) (eDN m):=by
 obtain⟨ps,e,h,l⟩:=h
 exact UE hu h (λz=>h0 (List.length_eq_zero_iff.mp (by rw[<- l,z];rfl))) (by ext) e
def range_any (bs:List Bool):((List.range bs.length).any λi=>(bs[i]?).getD false)=bs.any id:=by
 rw[Bool.eq_iff_iff,List.any_eq_true,List.any_eq_true]
 constructor
 ·rintro⟨i,hi,h⟩
  have hi':=List.mem_range.mp hi
  rw[Al hi',Option.getD_some] at h
  exact⟨_,BG hi',h⟩
 ·rintro⟨b,hb,h⟩
  obtain⟨i,e⟩:=AL.mp hb
  exact⟨i,List.mem_range.mpr (Ad.mp e).1,by rw[e];exact h⟩
def S6 (hc:X.calm=true):Hj X (.builtin "any") (λxs H Q=>∃(p:Addr) (bs:List Bool),xs=[.ref p]/\SqL X.K H p (bs.map V.bl)/\Q (.bl (bs.any id)) H):=by
 intro pj s σ H xs us Q I r h
 obtain⟨p,bs,rfl,hq,q⟩:=h
 obtain⟨u,rfl,ru⟩:=vals1 r
 cases ru
 obtain⟨its,rv,pl,hz⟩:=I.list hq
 obtain⟨m,F⟩:=I.fr
 have hlt:p<s.heap.objs.size:=by obtain⟨o,n,e,_⟩:=pl;exact An e
 refine call_any_walk (wpAny_pyIter_list pl.isList ?_)
 refine⟨s.heap.objs.size,[s.heap.objs.size,p],[s.heap.objs.size],its.toArray.size,_,_,λi=>(bs[i]?).getD false,rfl,
  Walks.list (A:=X.A.in1) (I.ok.hd hc) _ p (Az hlt) its.toArray,⟨⟨_,Ag _ rfl,rfl,rfl⟩,pl.isList.push _⟩,λi v s' Q' E' hP hQ=>?_,λh' tk hk=>?_⟩
 ·obtain⟨b,e,rfl⟩:=Qb rv (i:=i) (v:=v) (by simpa using hP)
  exact BQ (by simpa only[e,Option.getD_some] using hQ)
 ·have e:((List.range its.toArray.size).any λi=>(bs[i]?).getD false)=bs.any id:=by
   rw[Ar,<- rv.length,Ak]
   exact range_any bs
  rw[e]
  exact⟨.bl _,H,I.kept λb x e=>hk b x (λhm=>absurd (An e) (by rw[Ah.mp hm];exact Bv _)) (Ac _ e),rfl,q⟩
def JH (hc:X.calm=true):CallV X (.builtin "any") anyF:=Oo (S6 hc)
end
def nn {a b:Nat}(h:a<b\/b<a:=by ext):a≠b:=by ext
abbrev zt (l:Addr):Obj:={cls:=.type "tuple_iterator",data:=.fields #[.ref l,.int 0 0]}
section
variable {prog:Program}{w:World}{A:Around}{E:Value->Zaa}{s:Shared}
def list_dict {S:Addr}{ob:Obj}{es:Array DictEntry}{ep:Nat}{Q:Value->Zaa}(hh:A.handled=none)(hz:es.size<=sizeLine)(g1:s.heap.get? S=some ob)(gc:ob.cls=.type "dict")(ns:(S==sysModules)=false)(gd:ob.data=.dict es ep)
  (q:∀h' tk c,h'.get? s.heap.objs.size=some {cls:=.type "list",data:=.seq (es.toList.map (·.key)).toArray c}->(∀b o,s.heap.get? b=some o->h'.get? b=some o)->Q (.ref s.heap.objs.size) {s with heap:=h',toks:=tk}) :
  wpAny (model prog w) A (call (.type "list") [.ref S]) Q E s:=by
 have lS:S<s.heap.objs.size:=An g1
 have nS:s.heap.objs.size≠S:=BL lS
 refine callType_codes (Q₁:=λobj s₁=>obj=.ref s.heap.objs.size/\s₁={s with heap:=s.heap.push {cls:=.type "list",data:=.seq #[]}}) F.called_list (F.typeCall_list_1 _) F.entry_list_init (code_list_new _ ⟨rfl,rfl⟩) λobj s₁ h₁=>?_
 obtain⟨rfl,rfl⟩:=h₁
 have hS:(s.heap.push {cls:=.type "list",data:=.seq #[]}).get? s.heap.objs.size=some {cls:=.type "list",data:=.seq #[]}:=Ag _ rfl
 have kp:∀c o,s.heap.get? c=some o->(s.heap.push {cls:=.type "list",data:=.seq #[]}).get? c=some o:=λc o e=>Ac _ e
 have sz1:(s.heap.push {cls:=.type "list",data:=.seq #[]}).objs.size=s.heap.objs.size+1:=Bn ..
 refine⟨⟨_,hS,rfl⟩,F.args_list_init_2 _ _,?_⟩
 generalize s.heap.push {cls:=.type "list",data:=.seq #[]}=h1 at hS kp sz1 ⊢
 refine(?_:wpAny _ A.in1.in1 (do let old<-Builtin.List.listItems (.ref s.heap.objs.size);Builtin.List.listUpdate (.ref s.heap.objs.size) (λ_=>#[]);letGo old.toList.reverse;Builtin.List.listExtendWith (.ref s.heap.objs.size) (.ref S) .none) _ _ _)
 refine Aa ?_
 unfold Builtin.List.listItems
 refine Aa (Bz hS rfl (Ab ?_))
 refine(?_:wpAny _ A.in1.in1 (updateSeq s.heap.objs.size (λ_=>#[])>>=λ_=>letGo (#[]:Array Value).toList.reverse>>=λ_=>Builtin.List.listExtendWith (.ref s.heap.objs.size) (.ref S) .none) _ _ _)
 refine Aa (BY hS rfl ?_)
 have hS2:=AJ (Obj.mapSeq (λ_=>(#[]:Array Value))) hS rfl
 have oth2:∀c o,c≠s.heap.objs.size->h1.get? c=some o->(h1.update s.heap.objs.size (Obj.mapSeq (λ_=>(#[]:Array Value)))).get? c=some o:=λc o hb e=>(A9 _ _ hb.symm).trans e
 have sz2:(h1.update s.heap.objs.size (Obj.mapSeq (λ_=>(#[]:Array Value)))).objs.size=s.heap.objs.size+1:=by rw[<- sz1];exact(AD (a:=s.heap.objs.size) ..).1
 refine Aa (wpAny_letGo ?_)
 dsimp only
 generalize h1.update s.heap.objs.size (Obj.mapSeq (λ_=>(#[]:Array Value)))=h2 at hS2 oth2 sz2 ⊢
 have k2:∀c o,s.heap.get? c=some o->h2.get? c=some o:=λc o e=>oth2 c o (Az (An e)) (kp c o e)
 have gS:=k2 _ _ g1
 have ty:Shared.TypeIs {s with heap:=h2} (.ref S) "dict":=⟨ob,gS,gc⟩
 (unfold Builtin.List.listExtendWith)
 refine Aa (By ty ?_)
 have e1:Builtin.List.listSameRef (.ref s.heap.objs.size) (.ref S)=false:=by simp[Builtin.List.listSameRef,nS]
 simp only[e1,show(Value.type "dict"==Value.type "list")=false by decide,show(Value.type "dict"==Value.type "tuple")=false by decide,Bool.or_false,AV,Bt]
 refine Aa (Ll (s:={s with heap:=h2}) ns gS gc gd λh3 e3 k3 st=>?_)
 have ty3:Shared.TypeIs {s with heap:=h3} (.ref S) "dict":=⟨ob,k3 _ _ gS,gc⟩
 have nLI:s.heap.objs.size≠h2.objs.size:=by rw[sz2];exact Az (Bh _)
 have ndI:S≠h2.objs.size:=Az (An gS)
 refine Aa (AG ?_)
 (unfold Builtin.List.listLengthHint)
 refine Aa (wpAny_specialOf ty3 F.slot_dict_len.lookup ?_)
 refine(?_:wpAny _ A.in1.in1 (isInstance (Value.ref S) (.type "dict")>>=_) _ _ _)
 refine Aa (BH (b:=true) ty3 (by rw[isSubtype_type];kernel_rfl) ?_)
 refine(?_:wpAny _ A.in1.in1 (typeOf (Value.ref S)>>=_) _ _ _)
 refine Aa (By ty3 (Ab ?_))
 have gL2:=k3 _ _ hS2
 refine(?_:wpAny _ A.in1.in1 (rule "list.extend.makes-room">>=λ_=>Builtin.List.listTouch (.ref s.heap.objs.size)>>=λ_=>again (.builtin "list.extend.loop" ⟨[.ref s.heap.objs.size,.ref h2.objs.size,.none],[]⟩)) _ _ _)
 refine Aa (A7 (Aa ?_))
 refine(?_:wpAny _ A.in1.in1 (updateSeq s.heap.objs.size (·.push .none)>>=λ_=>updateSeq s.heap.objs.size (·.pop)) _ _ _)
 refine Aa (BY gL2 rfl ?_)
 have gL3:=AJ (Obj.mapSeq (·.push Value.none)) gL2 rfl
 refine BY gL3 rfl ?_ (by decide)
 have gL4:=AJ (Obj.mapSeq (·.pop)) gL3 rfl
 have nL:s.heap.objs.size∉[h2.objs.size,S]:=by
  simp only[Ao,Ax,Ba,not_or]
  exact⟨nLI,nS⟩
 have oth:∀b o,b≠s.heap.objs.size->h3.get? b=some o->((h3.update s.heap.objs.size (Obj.mapSeq (·.push Value.none))).update s.heap.objs.size (Obj.mapSeq (·.pop))).get? b=some o:=
  λb o hb e=>(A9 _ _ hb.symm).trans ((A9 _ _ hb.symm).trans e)
 have W:=(Iq (prog:=prog) (A:=A.in1.in1) (w:=w) (es:=es) (ep:=ep) hh ndI).toS
 refine Ab ⟨plainId_quiet F.plain_extend_loop _,codeAny_extend_loopS (A:=A.in1) W hz _ nL _ es.size 0 _ _ _ rfl (A5 _) ?_ gL4 (ItemsOf.nil _) λs' acc' c' hm hS' hacc=>?_⟩
 ·exact(Iq (prog:=prog) (A:=A.in1.in1) (w:=w) (es:=es) (ep:=ep) hh ndI).frame 0 _ _ st λb hb o e=>oth b o (λz=>nL (z▸hb)) e
 obtain⟨zh,zg,zd,zt,zo⟩:=s'
 have e4:zg=s.gens:=hm.gens
 have e5:zd=s.drawn:=hm.drawn
 have e6:zo=s.os:=hm.os
 subst e4 e5 e6
 have ac:acc'=(es.toList.map (·.key)).toArray:=by
  apply Array.toList_inj.mp
  refine A6 λi=>?_
  rw[Am,Af,Af]
  by_cases hi:i<es.size
  ·have hi':i<acc'.size:=by rw[hacc.1];exact hi
   obtain⟨e,x1,x2⟩:=hacc.2 i _ (Av hi')
   rw[Av hi',x1,<- x2]
   rfl
  ·rw[AZ (by rw[hacc.1];ext),AZ (by ext)]
   rfl
 rw[ac] at hS'
 refine⟨rfl,q zh zt c' hS' λb o e=>?_⟩
 have bl:=An e
 refine hm.heap b o ?_ (oth b o (Az bl) (k3 _ _ (k2 _ _ e)))
 simp only[Ao,Ax,Ba,not_or]
 exact⟨Az bl,Az (show b<h2.objs.size by rw[sz2];exact Bl bl)⟩
end
section
variable {X:Cx}{K:Zc}{th:List Addr}{mu:Sto}{H:Hp}{pj:Zab}{st:L2.St}{s:Shared}
def lstK:Fn:=λds mu=>match Gm ds with
 |some d=>match DC mu d with
  |some p=>some (.lst p.1,mu)
  |none=>none
 |none=>none
theorem QE (hc:X.calm=true):CallV X (.type "list") lstK:=by
 intro pj s st H xs us Q I r h
 obtain⟨th,mu,ds,so,rd,t⟩:=h
 unfold lstK at t
 cases e:Gm ds with
 |none=>rw[e] at t;exact t.no.elim
 |some d =>
  rw[e] at t
  dsimp only at t
  cases e2:DC mu d with
  |none=>rw[e2] at t;exact t.no.elim
  |some p =>
   rw[e2] at t
   have ed:=GP e
   subst ed
   obtain⟨x,rfl,rx⟩:=D8 rd
   obtain⟨a,rfl,dc⟩:=D6 so e2 rx
   obtain⟨u,rfl,ru⟩:=vals1 r
   cases ru
   obtain⟨o,es,ep,ns,g1,g2,g3,sz,⟨vs,k1,k2⟩,_⟩:=MK I dc
   have hp:H s.heap.objs.size=none:=I.hok.fresh (Ae _)
   refine list_dict (I.ok.hd hc) sz g1 g2.1 ns g3 λh' tk c hL hk=>?_
   have vl:vs.length<=sizeLine:=by
    rw[k2.length,Ak,Array.length_toList]
    exact sz
   refine⟨.ref s.heap.objs.size,_,I.laid (h':=h') (t':=tk) (o:=.lst vs) hk (Ae _) ⟨vl,_,c,k2,hL⟩,rfl,?_⟩
   exact t.retX (.new hp _) (so.new hp _) _ (Rep.newLst so hp k1 (by rw[<- k1.len];exact vl))
end
section
variable {X:Cx}{scope:Scope}{t1 i1 elt:Expr}{f1:List Expr}{pos:Pos}{i:Ix}{g:Gx}{tt:Tx}{el:Ex}{fin:List D->Sto->D×Sto}
def Wi (hf:Lo X.z Tz (rpL X.z) fin)(own:List Str)(fv:List (Nat×Str))(L:LD X scope fv)(hi:SVI X t1 i1 i)(ow:GOw 0 own.length g)
  (hg:∀cl C s₁ H₁ fp,SVG (CY X scope (own++fv.map (·.2)) cl C s₁ H₁ fp) t1 g)
  (ht:∀cl C s₁ H₁ fp,SVF (CY X scope (own++fv.map (·.2)) cl C s₁ H₁ fp) f1 tt)
  (he:∀cl C s₁ H₁ fp,SV (CY X scope (own++fv.map (·.2)) cl C s₁ H₁ fp) elt el)
  (hs:∀x,foldedSetIterable i1 X.env x=pure x:=by intro _;rfl) :
  O3 X scope own fv (.ListComp elt [⟨t1,i1,f1,0⟩] scope pos) [⟨t1,i1,f1,0⟩] ⟨t1,i1,f1,0⟩ [] (newList []) Tz (rpL X.z) (λ_=>True) (stL el) g tt [] fin i (λD C cl=>Qp elt (.ref D) (compEnvC scope cl C X.env)) where
 hc:=.l
 hgens:=rfl
 ha:=rfl
 hnew:=rfl
 L:=L
 hi:=hi
 ow:=ow
 rx:=VY
 f:=hf
 r00:=λ_ _=>⟨.nil,A5 _⟩
 hok:=λ_ _ _ _ _ _ _=>True.intro
 heq:=λ_ _ _ _=>Vt
 hg:=hg
 ht:=ht
 hm:=λcl C s₁ H₁ fp D dk=>PM.weak (Vi dk (he cl C s₁ H₁ fp).r) λa σ H Q h=>WV h
 hs:=hs
end
section
variable {X:Cx} {α β:Type}{scope:Scope}{e:Expr}{gens rest:List Comprehension}{g:Comprehension}{newAcc:Sem Value}{pos2:Pos}{B:Mz α}{rp:List Addr->Hp->β->α->Prop}{ok:Ro->Prop}{st:Mx β}{tg:Gx}{tt:Tx}{b0:β}{fin:β->Sto->D×Sto}{i:Ix}{step:Addr->Addr->List (Str×Addr)->Sem Unit}
def Zi (own:List Str)(fv:List (Nat×Str))(c:O3 X scope own fv e gens g rest newAcc B rp ok st tg tt b0 fin i step)(hev:eval e X.env=comprehension e scope X.env pos2 newAcc false (eval g.iter X.env)){mm:Ex}(hrd:∀{σ:L2.St}{H:Hp}{Q:VK},rdE X.z mm σ H Q->tCo (rdI X.z i) own.length fv B (rdG X.z tg) (rdT X.z tt) (rdM X.z rp ok st) σ H Q):SV X e mm:=⟨λpj s σ H Q I h=>by
 rw[hev]
 refine Jf (own:=own) (fv:=fv) (B:=B) (tg:=rdG X.z tg) (tt:=rdT X.z tt) (tm:=rdM X.z rp ok st) (step:=step) (wi:=rdI X.z i) (Q:=Q) c.hc c.hgens c.ha c.hnew c.L c.hi.r c.heq (λcl C s₁ H₁ fp=>(c.hg cl C s₁ H₁ fp).r) (λcl C s₁ H₁ fp=>(c.ht cl C s₁ H₁ fp).r) c.hm c.hs (λI=>HC I) I
  (hrd h) λs6 H' D C m J6 fC nsC q=>?_
 exact⟨m,nsC,λh' sb=>⟨.ref D,H',J6.turnedL (ch:=[C]) (t':=s6.toks) (IE sb) (λb hb=>by rw[Ah.mp hb];exact fC),rfl,q⟩⟩⟩
def Aag (own:List Str)(fv:List (Nat×Str))(j:Nat)(c:O3 X scope own fv e gens g rest newAcc B rp ok st tg tt b0 fin i step){x:Str}{px spos:Pos}
  (hN:X.N.Nodup) (hix:X.N[j]?=some x) (hx:Loc X.env.scope x) (hf:X.fn x=true\/X.env.scope.names.lookup x=some .local)
  (hsw:swapsWith e (some (.Name x px)) spos.line X.env=pure true)
  (hev:evalThenUse e X.env (assign (.Name x px) X.env)=(do let _<-comprehension e scope X.env pos2 newAcc false (eval g.iter X.env) (some (assign (.Name x px) X.env))))
  {mm:Ex} (hrd:∀{σ:L2.St}{H:Hp}{Q:VK},rdE X.z mm σ H Q->tCo (rdI X.z i) own.length fv B (rdG X.z tg) (rdT X.z tt) (rdM X.z rp ok st) σ H Q) :
  SVS X (.Assign [.Name x px] e spos) (CT mm (gNm j)):=⟨λpj s σ H E I h=>by
 (rw[exec_Assign_Name_used _ _ _ _ hsw])
 refine Aa (wpAny_standAt (Aa ?_))
 rw[hev]
 have h':rdE X.z mm σ H λv H'=>E.nx (σ.set j (some v)) H':=by
  obtain⟨th,mu,ro,so,en,t⟩:=h
  refine⟨th,mu,ro,so,en,t.bind.mono λd th1 mu1 H1 e1 s1 t1 v rv=>?_⟩
  exact t1.ret s1 _ ((en.ext e1 so.out).set j rv)
 refine Aa (B1 (Jf (use:=some (assign (.Name x px) X.env)) (Qc:=λ_ s'=>SP X pj E .next s') (own:=own) (fv:=fv) (B:=B) (tg:=rdG X.z tg) (tt:=rdT X.z tt) (tm:=rdM X.z rp ok st) (step:=step) (wi:=rdI X.z i) c.hc c.hgens c.ha c.hnew c.L c.hi.r c.heq (λcl C s₁ H₁ fp=>(c.hg cl C s₁ H₁ fp).r) (λcl C s₁ H₁ fp=>(c.ht cl C s₁ H₁ fp).r) c.hm c.hs (λI=>HC I) I
  (hrd h') λs6 H' D C m J6 fC nsC q=>?_) (λ_ s' hq=>Ab (Ab hq)) λ_ _ e=>e)
 obtain⟨oC,es,ep,hoC,hdC,rC⟩:=id nsC
 have J7:L2.Inv X (pj++[(C,oC)]) σ H' s6:=J6.pins_of λp hp=>(AF.mp hp).elim (λz=>J6.pin p (Aq _ z)) λz=>by
  have e:p=(C,oC):=by simpa using z
  subst e
  obtain⟨f0,f1,f2,_⟩:=fC
  exact⟨hoC,f0,f1,f2,λv z=>by rw[hdC] at z;cases z⟩
 show wpAny _ X.A (assign (.Name x px) X.env (.ref D)) _ _ _
 refine wpAny_assign_Name (JB J7 hN hix hx (show RelV (.ref D) (.ref D) from rfl) (λs8 I8=>?_) hf)
 have eC:=(I8.pin (C,oC) (Aq _ (Aq _ (Ah.mpr rfl)))).1
 refine⟨m,⟨oC,es,ep,eC,hdC,rC⟩,λh' sb=>?_⟩
 exact⟨_,H',(I8.unpinned).turnedL (ch:=[C]) (t':=s8.toks) (IE sb) (λb hb=>by rw[Ah.mp hb];exact fC),q⟩⟩
end
theorem Tt {g:Option Nat}{m0:Sto}{tg:Gx}{tt:Tx}{el:Ex}{ro:Ro}:∀(ds b:List D) (mu:Sto) (ys:List D) (m:Sto),b.length+ds.length<=sizeLine->FO g m0 tg tt el ro ds mu=some (ys,m)->cGo g m0 tg tt (stL el) ro ds b mu=some (b++ys,m)
 |[],b,mu,ys,m,_,h=>by
  unfold FO at h
  cases h
  rw[List.append_nil]
  rfl
 |d::ds,b,mu,ys,m,hl,h=>by
  rw[List.length_cons] at hl
  unfold FO at h
  obtain⟨ro1,m1,e1,h⟩:=FE h
  obtain⟨c,m2,e2,h⟩:=FE h
  unfold cGo
  rw[e1,CM,e2,CM]
  cases c with
  |true =>
   rw[if_pos rfl] at h ⊢
   obtain⟨y,m3,e3,h⟩:=FE h
   obtain⟨g3,h⟩:=GB h
   obtain⟨zs,m4,e4,h⟩:=FE h
   cases h
   have e5:stL el b ro1 m2=some (b++[y],m3):=by
    unfold stL
    rw[e3,CM,if_pos (by ext)]
   rw[e5,CM,EA,if_pos g3,Tt ds (b++[y]) m3 zs m (by rw[As,List.length_singleton];ext) e4,Bj]
   rfl
  |false =>
   rw[if_neg AN] at h ⊢
   obtain⟨g3,h⟩:=GB h
   rw[EA,if_pos g3]
   exact Tt ds b m2 ys m (by ext) h
section
variable {K:Zc}{H:Hp}{tg:Gx}{tt:Tx}{el:Ex}
def V8 {i:Ix}{nc:Nat}{fv:List (Nat×Str)}{σ:L2.St}{Q:VK}(ow:GOw 0 nc tg)(h:rdE K (eLC i nc (fv.map (·.1)) tg tt el) σ H Q):tCo (rdI K i) nc fv Tz (rdG K tg) (rdT K tt) (rdM K (rpL K) (λ_=>True) (stL el)) σ H Q:=by
 obtain⟨th,mu,ro,so,en,t⟩:=h
 refine⟨th,mu,ro,so,en,t.bind.mono λp th1 mu1 H1 e1 s1 t1 J io=>?_⟩
 have t1':Tr K th1 H1 (bM (cGo p.2 mu1 tg tt (stL el) (r0 nc (fv.map (·.1)) ro) p.1 [] mu1) λb m2=>some (finL b m2)) (KV' K Q):=by
  obtain⟨a,m',e,q⟩:=id t1
  obtain⟨ys,m2,e2,e3⟩:=FE e
  have:=Tt p.1 [] mu1 ys m2 (by simpa using io.sz) e2
  rw[List.nil_append] at this
  rw[e2,CM] at t1
  rw[this,CM]
  exact t1
 refine O1 (rp:=rpL K) ow VY (λi d e=>.inr (Lq e)) (λ_ _ _ _ _=>True.intro) io s1 (Ni (en.ext e1 so.out)) ⟨.nil,A5 _⟩ (t1'.bind.mono λb th2 mu2 H2 e2 s2 t2 a2 σ2 en2 r2=>?_)
 obtain⟨f1,f2⟩:=R8 s2 r2
 refine⟨f1,λq hq=>?_⟩
 obtain⟨th3,x3,s3,r3⟩:=f2 q hq
 exact t2.retX x3 s3 _ r3
end
section
variable {X:Cx}{tg iter elt:Expr}{ifs:List Expr}{scope:Scope}{pos:Pos}{i:Ix}{g:Gx}{tt:Tx}{el:Ex}
def GOwn.w {nc:Nat}(ow:GOwn nc g):GOw 0 nc g:=λd ro mu ro' mu' e=>⟨(ow d ro mu ro' mu' e).1,λi hi=>(ow d ro mu ro' mu' e).2 i (hi.elim (λz=>absurd z (Nat.not_lt_zero _)) id)⟩
def ED (own:List Str)(fv:List (Nat×Str))(L:LD X scope fv)(hi:SVI X tg iter i)(ow:GOwn own.length g)
  (hg:∀cl C s₁ H₁ fp,SVG (CY X scope (own++fv.map (·.2)) cl C s₁ H₁ fp) tg g)
  (ht:∀cl C s₁ H₁ fp,SVF (CY X scope (own++fv.map (·.2)) cl C s₁ H₁ fp) ifs tt)
  (he:∀cl C s₁ H₁ fp,SV (CY X scope (own++fv.map (·.2)) cl C s₁ H₁ fp) elt el)
  (hs:∀x,foldedSetIterable iter X.env x=pure x:=by intro _;rfl):SV X (.ListComp elt [⟨tg,iter,ifs,0⟩] scope pos) (eLC i own.length (fv.map (·.1)) g tt el):=
 Zi own fv (Wi R8 own fv L hi ow.w hg ht he hs) rfl (V8 ow.w)
def KP (j:Nat){x:Str}{px spos:Pos}(own:List Str)(fv:List (Nat×Str))(L:LD X scope fv)(hi:SVI X tg iter i)(ow:GOwn own.length g)
  (hg:∀cl C s₁ H₁ fp,SVG (CY X scope (own++fv.map (·.2)) cl C s₁ H₁ fp) tg g)
  (ht:∀cl C s₁ H₁ fp,SVF (CY X scope (own++fv.map (·.2)) cl C s₁ H₁ fp) ifs tt)
  (he:∀cl C s₁ H₁ fp,SV (CY X scope (own++fv.map (·.2)) cl C s₁ H₁ fp) elt el)
  (hN:X.N.Nodup) (hix:X.N[j]?=some x:=by rfl) (hx:Loc X.env.scope x:=by first|exact Or.inl rfl|exact Or.inr rfl) (hf:X.fn x=true\/X.env.scope.names.lookup x=some .local:=by first|exact .inl rfl|exact .inr rfl)
  (hsw:swapsWith (.ListComp elt [⟨tg,iter,ifs,0⟩] scope pos) (some (.Name x px)) spos.line X.env=pure true:=by rfl) (hs:∀x,foldedSetIterable iter X.env x=pure x:=by intro _;rfl) :
  SVS X (.Assign [.Name x px] (.ListComp elt [⟨tg,iter,ifs,0⟩] scope pos) spos) (CT (eLC i own.length (fv.map (·.1)) g tt el) (gNm j)):=
 Aag own fv j (Wi R8 own fv L hi ow.w hg ht he hs) hN hix hx hf hsw rfl (V8 ow.w)
end
end PV
namespace PG
open PySem L2 PV PyProof.Rows
def G8:Sx:=
  CN (IJ (EC (Cp 0)) (gTp 2 (Cy (gNm 2) (Cy (gNm 3) C0))) (sIf (tV (Cz eqD (Cp 2) (Cp 1))) (sRt (Cp 3)) (sNx))) (sRt (eC .non))
def Ew:Fn:=fnB 4 G8
def FG:Sx:=
  sRt (eCo (EC (Cp 0)) 1 [] (gNm 0) (tY) (stD (Cz ixG (Cp 0) (eC (.int 0))) (CA GA (Co (eLC (EC (Cz ixG (Cp 0) (eC (.int 1)))) 1 [] (gNm 0) (tY) (Cz ixG (Cp 0) (eC (.int 0)))) Cr))) ([],[]) HP)
def CV:Fn:=fnB 1 FG
def FP:Sx:=
  CN (CT (CA dctP (Co (Cp 1) Cr)) (gNm 2)) (sRt (CA GA (Co (eLC (EC (Cp 0)) 1 [2] (gNm 0) (tY) (Gu (Cp 1) (Co (Cp 0) (Co (Cp 0) Cr)))) Cr)))
def Dt:Fn:=fnB 3 FP
def FU:Sx:=
  sRt (Cz DR (Cp 0) (CA GA (Co (eLC (EC (Cp 1)) 1 [0] (gNm 0) (tV (Cz JV (Cp 0) (Cp 1))) (Cp 0)) Cr)))
def DG:Fn:=fnB 2 FU
def GS:Sx:=
  sRt (Pa (Cp 0) (Co (Cp 1) (Co (CA II (Co (Cp 0) Cr)) Cr)))
def CZ:Fn:=fnB 2 GS
def Ih:Sx:=
  sRt (CA GA (Co (eLC (EC (Cp 1)) 1 [0] (gNm 0) (tY) (OR (Cp 1) (Co (Cp 0) Cr))) Cr))
def DA:Fn:=fnB 2 Ih
def G7:Sx:=
  CN (CT (eLC (EC (Cp 0)) 1 [1] (gNm 0) (tV (Cz inG (Cp 0) (Cp 1))) (Cp 0)) (gNm 2)) (CN (CT (eLC (EC (Cp 1)) 1 [0] (gNm 0) (tV (Cz JV (Cp 0) (Cp 1))) (Cp 0)) (gNm 3)) (sRt (Dq (Co (CA DA (Co (Cp 0) (Co (Cp 2) Cr))) (Co (CA DA (Co (Cp 1) (Co (Cp 2) Cr))) (Co (CA DA (Co (Cp 1) (Co (Cp 3) Cr))) Cr))))))
def Eg:Fn:=fnB 4 G7
def Dc (f:Fn):Sx:=
  CN (CT (CA Ew (Co (Cp 2) (Co (Cp 3) Cr))) (gNm 4)) (CN (sIf (tV (Cz isD (Cp 4) (eC .non))) (CN (CT (Cz ixG (Cp 3) (eC (.int 0))) (gNm 5)) (CN (CT (CA f (Co (Cp 0) (Co (Cp 1) (Co (Cp 2) (Co (Cz ixG (Cp 3) (eC (.int 1))) Cr))))) (gTp 2 (Cy (gNm 6) (Cy (gNm 7) C0)))) (CN (CT (CA f (Co (Cp 0) (Co (Cp 1) (Co (Cp 2) (Co (Cz ixG (Cp 3) (eC (.int 2))) Cr))))) (gTp 2 (Cy (gNm 8) (Cy (gNm 9) C0)))) (CN (CT (eIf (tV (Cz eqD (Cp 5) (eC (.str "join")))) (Dq (Co (eC (.str "join")) (Co (Cp 7) (Co (Cp 9) (Co (CA Eg (Co (Cp 6) (Co (Cp 8) Cr))) Cr))))) (Dq (Co (Cp 5) (Co (Cp 7) (Co (Cp 9) Cr))))) (gNm 10)) (CN (CT (Dq (Co (eIf (tV (Cz eqD (Cp 5) (eC (.str "join")))) (CA DG (Co (Cp 6) (Co (Cp 8) Cr))) (Cp 6)) (Co (CA CZ (Co (Cp 1) (Co (Cp 10) Cr))) Cr))) (gNm 4)) (sEx (IL (Cp 2) (Co (Dq (Co (Cp 3) (Co (Cp 4) Cr))) Cr)))))))) (sNx)) (sRt (Cp 4)))
def Gq:Sx:=
  CN (CT (Cp 1) (gTp 3 (Cy (gNm 2) (Cy (gNm 3) (Cy (gNm 4) C0))))) (sRt (Dq (Co (Cp 2) (Co (OR (Cp 0) (Co (Cp 3) Cr)) (Co (eIf (tV (Cz inG (Cp 2) (Dq (Co (eC (.str "is")) (Co (eC (.str "not")) Cr))))) (Cp 4) (OR (Cp 0) (Co (Cp 4) Cr))) Cr)))))
def D7:Fn:=fnB 5 Gq
def FV:Sx:=
  sRt (CA GA (Co (eLC (EC (Cp 1)) 1 [0] (gNm 0) (tY) (CA D7 (Co (Cp 1) (Co (Cp 0) Cr)))) Cr))
def DV:Fn:=fnB 2 FV
def CU (f g:Fn):Sx:=
  CN (CT (Cz ixG (Cp 3) (eC (.int 0))) (gNm 4)) (CN (sIf (tV (Cz eqD (Cp 4) (eC (.str "of")))) (sRt (Dq (Co (Cz ixG (Cp 0) (Cz ixG (Cp 3) (eC (.int 1)))) (Co (CA CZ (Co (Cp 1) (Co (Cp 3) Cr))) Cr)))) (sNx)) (CN (sIf (tV (Cz inG (Cp 4) (eC (.tup ((["join","union","gap"]:List Str).map D.str))))) (sRt (CA g (Co (Cp 0) (Co (Cp 1) (Co (Cp 2) (Co (Cp 3) Cr)))))) (sNx)) (CN (CT (CA f (Co (Cp 0) (Co (Cp 1) (Co (Cp 2) (Co (Cz ixG (Cp 3) (eC (.int 1))) Cr))))) (gTp 2 (Cy (gNm 5) (Cy (gNm 6) C0)))) (CN (sIf (tV (Cz eqD (Cp 4) (eC (.str "rows")))) (sRt (Dq (Co (Cp 5) (Co (CA CZ (Co (Cp 1) (Co (Dq (Co (eC (.str "rows")) (Co (Cp 6) (Co (CA DV (Co (Cp 5) (Co (Cz ixG (Cp 3) (eC (.int 2))) Cr))) Cr)))) Cr))) Cr)))) (sNx)) (CN (sIf (tV (Cz eqD (Cp 4) (eC (.str "columns")))) (sRt (Dq (Co (Cz ixG (Cp 3) (eC (.int 2))) (Co (CA CZ (Co (Cp 1) (Co (Dq (Co (eC (.str "columns")) (Co (Cp 6) (Co (CA DA (Co (Cp 5) (Co (Cz ixG (Cp 3) (eC (.int 2))) Cr))) Cr)))) Cr))) Cr)))) (sNx)) (sRt (Dq (Co (CA Dt (Co (Cp 5) (Co (Cz ixG (Cp 3) (eC (.int 2))) Cr))) (Co (Cp 6) Cr)))))))))
def Cs:Nat->Fn
 |0=>λ_ _=>none
 |n+1=>fnB 7 (CU (Cs n) (fnB 11 (Dc (Cs n))))
def DS (n:Nat):Fn:=fnB 11 (Dc (Cs n))
def IS:Sx:=
  CN (CT Le (gNm 2)) (CN (sEx (CA (Cs 10) (Co (CA CV (Co (Cp 0) Cr)) (Co (Cp 2) (Co (GX Cr) (Co (Cp 1) Cr)))))) (sRt (CA lstK (Co (Cp 2) Cr))))
def Er:Fn:=fnG 3 IS
def Tf:Sx:=
  sRt (CA GA (Co (eLC (EC (Cp 1)) 1 [0] (gNm 0) (tY) (Cz ixG (Cp 1) (Cp 0))) Cr))
def Fw:Fn:=fnB 2 Tf
def ME:Sx:=
  CN (CT (Cp 1) (gTp 3 (Cy (gNm 2) (Cy (gNm 3) (Cy (gNm 4) C0))))) (CN (sIf (tV (Cz eqD (Cp 2) (eC (.str "is")))) (sRt (Cz eqD (Cz ixG (Cp 0) (Cp 3)) (Cp 4))) (sNx)) (CN (sIf (tV (Cz eqD (Cp 2) (eC (.str "not")))) (sRt (Cz neD (Cz ixG (Cp 0) (Cp 3)) (Cp 4))) (sNx)) (CN (CT (Cz eqD (Cz ixG (Cp 0) (Cp 3)) (Cz ixG (Cp 0) (Cp 4))) (gNm 5)) (sRt (eIf (tV (Cz eqD (Cp 2) (eC (.str "like")))) (Cp 5) (eNt (Cp 5)))))))
def Ir:Fn:=fnB 6 ME
def Ip:Sx:=
  sRt (CA Qz (Co (eLC (EC (Cp 1)) 1 [0] (gNm 0) (tY) (CA Ir (Co (Cp 1) (Co (Cp 0) Cr)))) Cr))
def Ft:Fn:=fnB 2 Ip
def Hr:Sx:=
  CN (CT Le (gNm 2)) (CN (IJ (iDi (Cp 0)) (gTp 2 (Cy (gNm 3) (Cy (gNm 4) C0))) (CN (CT (CA Fw (Co (Cp 3) (Co (Cp 1) Cr))) (gNm 5)) (sIf (tV (Cz ltG (Gu (Cp 2) (Co (Cp 5) (Co (eC (.int 0)) Cr))) (Cp 4))) (CT (Cp 4) (gIx (Cp 2) (Cp 5))) (sNx)))) (sRt (Cp 2)))
def Fy:Fn:=fnG 6 Hr
def Gp:Sx:=
  CN (CT (Cp 2) (gTp 3 (Cy (gNm 3) (Cy (gNm 4) (Cy (gNm 5) C0))))) (CN (CT Le (gNm 6)) (CN (IJ (iDi (Cp 1)) (gTp 2 (Cy (gNm 7) (Cy (gNm 8) C0))) (sEx (IL (Pa (Cp 6) (Co (CA Fw (Co (Cp 7) (Co (Cp 4) Cr))) (Co (GX Cr) Cr))) (Co (Dq (Co (CA Fw (Co (Cp 7) (Co (Cp 5) Cr))) (Co (Cp 8) Cr))) Cr)))) (sRt (eCo (iDi (Cp 0)) 4 [6,3] (gTp 2 (Cy (gNm 0) (Cy (gNm 1) C0))) (tY) (stI (EC (Gu (Cp 4) (Co (CA Fw (Co (Cp 0) (Co (Cp 5) Cr))) (Co (Li Cr) Cr)))) (gTp 2 (Cy (gNm 2) (Cy (gNm 3) C0))) (tY) (stD (Cz DR (Cp 0) (Cp 2)) (CA JY (Co (Cp 1) (Co (Cp 3) Cr))))) ([],[]) HP))))
def Et:Fn:=fnG 9 Gp
def HN:Sx:=
  CN (CT (CA dctP (Co (Cp 0) Cr)) (gNm 2)) (CN (IJ (iDi (Cp 1)) (gTp 2 (Cy (gNm 3) (Cy (gNm 4) C0))) (sIf (tV (Cz ltG (Gu (Cp 2) (Co (Cp 3) (Co (eC (.int 0)) Cr))) (Cp 4))) (CT (Cp 4) (gIx (Cp 2) (Cp 3))) (sNx))) (sRt (Cp 2)))
def Gi:Fn:=fnB 5 HN
def FZ:Sx:=
  CN (CT (eCo (iDi (Cp 0)) 2 [1] (gTp 2 (Cy (gNm 0) (Cy (gNm 1) C0))) (tY) (stD (Cp 0) (CA JY (Co (Cp 1) (Co (Cz TQ (eC (.int 3)) (Gu (Cp 2) (Co (Cp 0) (Co (eC (.int 0)) Cr)))) Cr)))) ([],[]) HP) (gNm 2)) (sRt (eCo (iDi (Cp 2)) 2 [] (gTp 2 (Cy (gNm 0) (Cy (gNm 1) C0))) (tV (Cz gtD (Cp 1) (eC (.int 0)))) (stD (Cp 0) (Cp 1)) ([],[]) HP))
def Ek:Fn:=fnB 3 FZ
def Ed:Sx:=
  CN (CT (Cz ixG (Cp 0) (eC (.int 0))) (gNm 3)) (CN (sIf (tV (Cz eqD (Cp 3) (eC (.str "of")))) (sRt (Cz ixG (Cp 2) (Cz ixG (Cp 0) (eC (.int 1))))) (sNx)) (CN (CT (Cz ixG (Cp 1) (Cz ixG (Cp 0) (eC (.int 1)))) (gNm 4)) (CN (sIf (tV (Cz eqD (Cp 3) (eC (.str "rows")))) (sRt (eCo (iDi (Cp 4)) 2 [0] (gTp 2 (Cy (gNm 0) (Cy (gNm 1) C0))) (tV (CA Ft (Co (Cp 0) (Co (Cz ixG (Cp 2) (eC (.int 2))) Cr)))) (stD (Cp 0) (Cp 1)) ([],[]) HP)) (sNx)) (CN (sIf (tV (Cz eqD (Cp 3) (eC (.str "columns")))) (sRt (CA Fy (Co (Cp 4) (Co (Cz ixG (Cp 0) (eC (.int 2))) Cr)))) (sNx)) (CN (CT (Cz ixG (Cp 1) (Cz ixG (Cp 0) (eC (.int 2)))) (gNm 5)) (CN (sIf (tV (Cz eqD (Cp 3) (eC (.str "join")))) (sRt (CA Et (Co (Cp 4) (Co (Cp 5) (Co (Cz ixG (Cp 0) (eC (.int 3))) Cr))))) (sNx)) (sRt (eIf (tV (Cz eqD (Cp 3) (eC (.str "union")))) (CA Gi (Co (Cp 4) (Co (Cp 5) Cr))) (CA Ek (Co (Cp 4) (Co (Cp 5) Cr)))))))))))
def CP:Fn:=fnB 6 Ed
def Ie:Sx:=
  CN (CT (GX Cr) (gNm 2)) (CN (IJ (EC (Cp 0)) (gNm 3) (sEx (IL (Cp 2) (Co (CA CP (Co (Cp 3) (Co (Cp 2) (Co (Cp 1) Cr)))) Cr)))) (sRt (Cp 2)))
def Fm:Fn:=fnG 4 Ie
def Io:Sx:=
  sRt (eCo (Ri (Co (Cp 0) (Co (Cp 1) Cr))) 2 [] (gTp 2 (Cy (gNm 0) (Cy (gNm 1) C0))) (tY) (stD (Cz ixG (Cp 0) (eC (.int 0))) (eCo (EC (Cp 1)) 1 [] (gNm 0) (tY) (stD (Cp 0) (eC (.int 3))) ([],[]) HP)) ([],[]) HP)
def EI:Fn:=fnB 2 Io
def Pq:Sx:=
  sRt (CA GA (Co (CA Lz (Co (Cz ixG (CA Fm (Co (CA Er (Co (Cp 0) (Co (Cp 2) Cr))) (Co (CA EI (Co (Cp 0) (Co (Cp 1) Cr))) Cr))) (e1 X7 (eC (.int 1)))) Cr)) Cr))
def EB:Fn:=fnB 3 Pq
def JA:Sx:=
  CN (IJ (EC (Cp 2)) (gTp 2 (Cy (gNm 3) (Cy (gNm 4) C0))) (sIf (tTr (CA EB (Co (Cp 0) (Co (Cp 1) (Co (Cp 4) Cr))))) (sRt (Cp 3)) (sNx))) (sRt (eC .non))
def Fc:Fn:=fnB 5 JA
def Hw:Sx:=
  CN (CT (eC (.int 0)) (gNm 2)) (CN (sIf (tV (Cz ltG (Cp 1) (CA II (Co (Cp 0) Cr)))) (CT (Cz ixG (Cp 0) (Cp 1)) (gNm 2)) (sNx)) (sRt (GX (Co (Cz G3 (Cp 2) (CA T4 (Co (Cz geD (Cp 2) (Cz Sv (eC (.int 10)) (eC (.int 18)))) Cr))) (Co (Cz DR (Cz DR (Cz Jn (Cp 2) (eC (.int 2305843009213693951))) (Cz G3 (eC (.int 7919)) (Cp 1))) (eC (.int 3))) (Co (eC (.int 0)) Cr))))))
def Fi:Fn:=fnB 3 Hw
def HD:Sx:=
  CN (sIf (tV (Cz gtD (Cz ixG (Cp 0) (eC (.int 0))) (eC (.int 0)))) (CN (CT (Cz Jn (Cz ixG (Cp 0) (eC (.int 0))) (Cp 1)) (gNm 2)) (CN (CT (Cz Ln (Cz ixG (Cp 0) (eC (.int 0))) (Cp 1)) (gIx (Cp 0) (eC (.int 0)))) (sRt (Cp 2)))) (sNx)) (CN (CT (Cz DR (Cz ixG (Cp 0) (eC (.int 2))) (eC (.int 1))) (gIx (Cp 0) (eC (.int 2)))) (CN (CT (Cz ixG (Cp 0) (eC (.int 2))) (gNm 3)) (CN (CT (Cz Jn (Cz G3 (Cz ixG (Cp 0) (eC (.int 1))) (Cz DR (Cz DR (eC (.int 48271)) (Cz G3 (Cz G3 (eC (.int 2)) (Cp 3)) (Cp 3))) (Cz G3 (eC (.int 65537)) (Cp 3)))) (eC (.int 2305843009213693921))) (gNm 4)) (CN (CT (Cz DR (Cz DR (Cz Jn (Cp 4) (eC (.int 1000003))) (Cz G3 (Cp 3) (eC (.int 99991)))) (eC (.int 11))) (gNm 5)) (CN (CT (Cz Jn (Cz G3 (Cp 4) (Cp 5)) (eC (.int 2305843009213693907))) (gNm 4)) (sRt (Cz Jn (Cz DR (Cz Ln (Cp 4) (eC (.int 97))) (Cz Ln (Cp 4) (eC (.int 1000033)))) (Cp 1))))))))
def C8:Fn:=fnB 6 HD
def HJ:Sx:=
  sRt (Cz ixG (Cp 1) (CA C8 (Co (Cp 0) (Co (CA II (Co (Cp 1) Cr)) Cr))))
def Dy:Fn:=fnB 2 HJ
def HZ:Sx:=
  CN (CT (eC (.str "abcdefghijklmnopqrstuvwxyz0123456789")) (gNm 3)) (CN (CT (Dq (Co (CA C8 (Co (Cp 0) (Co (eC (.int 36)) Cr))) (Co (CA Dy (Co (Cp 0) (Co (Li (Co (eC (.int 1)) (Co (eC (.int 5)) (Co (eC (.int 7)) (Co (eC (.int 11)) (Co (eC (.int 13)) (Co (eC (.int 17)) Cr))))))) Cr))) Cr))) (gTp 2 (Cy (gNm 4) (Cy (gNm 5) C0)))) (CN (CT (Cz G3 (Cz ixG (Cp 3) (CA C8 (Co (Cp 0) (Co (eC (.int 36)) Cr)))) (CA JY (Co (Cz TQ (Cp 2) (eC (.int 1))) (Co (CA Dy (Co (Cp 0) (Co (Li (Co (eC (.int 0)) (Co (eC (.int 1)) (Co (eC (.int 0)) (Co (eC (.int 2)) (Co (eC (.int 7)) Cr)))))) Cr))) Cr)))) (gNm 6)) (CN (CT (CA C8 (Co (Cp 0) (Co (Cz DR (CA II (Co (Cp 6) Cr)) (eC (.int 1))) Cr))) (gNm 7)) (sRt (eLC (iRg (Co (Cp 1) Cr)) 1 [6,7,3,4,5] (gNm 0) (tY) (Cz DR (Cz DR (eSl (Cp 1) (pNo) (GF (Cp 2))) (Cz ixG (Cp 3) (Cz Jn (Cz DR (Cp 4) (Cz G3 (Cp 5) (Cp 0))) (eC (.int 36))))) (eSl (Cp 1) (GF (Cp 2)) (pNo))))))))
def EN:Fn:=fnB 8 HZ
def G6:Sx:=
  CN (CT (GX Cr) (gNm 3)) (CN (IJ (EC (Cp 1)) (gTp 3 (Cy (gNm 4) (Cy (gNm 5) (Cy (gNm 6) C0)))) (CN (CT Le (gNm 7)) (CN (IJ (iRg (Co (CA C8 (Co (Cp 0) (Co (Cz DR (Cp 2) (eC (.int 1))) Cr))) Cr)) (gNm 8) (CN (CT (CA GA (Co (eLC (EC (Cp 5)) 2 [0] (gTp 2 (Cy (gNm 0) (Cy (gNm 1) C0))) (tY) (CA Dy (Co (Cp 2) (Co (Cp 1) Cr)))) Cr)) (gNm 9)) (CT (Cp 9) (gIx (Cp 7) (eSl (Cp 9) (pNo) (GF (Cp 6))))))) (sEx (IL (Cp 3) (Co (CA GA (Co (LF (Cp 7)) Cr)) Cr)))))) (sRt (CA GA (Co (Cp 3) Cr))))
def Ee:Fn:=fnG 10 G6
def Hz:Sx:=
  CN (CT (CA EN (Co (Cp 0) (Co (eC (.int 2)) (Co (eC (.int 8)) Cr)))) (gNm 1)) (CN (CT (CA EN (Co (Cp 0) (Co (eC (.int 4)) (Co (eC (.int 8)) Cr)))) (gNm 2)) (CN (CT (CA GA (Co (CA EN (Co (Cp 0) (Co (Cz DR (eC (.int 1)) (CA C8 (Co (Cp 0) (Co (eC (.int 4)) Cr)))) (Co (eC (.int 8)) Cr)))) Cr)) (gNm 3)) (CN (CT (eSl (e1 QV (Cp 3)) (pNo) (GF (Cz DR (eC (.int 1)) (CA C8 (Co (Cp 0) (Co (CA II (Co (Cp 3) Cr)) Cr)))))) (gNm 4)) (CN (CT (Dq (Co (Cz ixG (Cp 1) (eC (.int 0))) (Co (Dq (Co (Dq (Co (Cz ixG (Cp 2) (eC (.int 0))) (Co (eSl (Cp 3) (pNo) (GF (eC (.int 3)))) Cr))) (Co (Dq (Co (Cz ixG (Cp 2) (eC (.int 1))) (Co (Cp 3) Cr))) Cr))) (Co (eC (.int 1)) Cr)))) (gNm 5)) (CN (CT (Dq (Co (Cz ixG (Cp 1) (eC (.int 1))) (Co (Dq (Co (Dq (Co (Cz ixG (Cp 2) (eC (.int 2))) (Co (Cp 4) Cr))) (Co (Dq (Co (Cz ixG (Cp 2) (eC (.int 3))) (Co (eSl (Cp 3) (pNo) (GF (eC (.int 2)))) Cr))) Cr))) (Co (eC (.int 1)) Cr)))) (gNm 6)) (sRt (Dq (Co (CA GA (Co (CA Lz (Co (Li (Co (Cp 5) (Co (Cp 6) Cr))) Cr)) Cr)) (Co (Cp 1) (Co (Cp 2) Cr))))))))))
def E1:Fn:=fnB 7 Hz
def Ib:Sx:=
  CN (CT (Dq (Co (eC (.str "columns")) (Co (Dq (Co (eC (.str "of")) (Co (Cz ixG (Cp 0) (eC (.int 0))) Cr))) (Co (Dq (Co (Cz ixG (Cp 1) (eC (.int 1))) Cr)) Cr)))) (gNm 2)) (CN (CT (Dq (Co (eC (.str "called")) (Co (Dq (Co (eC (.str "columns")) (Co (Dq (Co (eC (.str "of")) (Co (Cz ixG (Cp 0) (eC (.int 1))) Cr))) (Co (Dq (Co (Cz ixG (Cp 1) (eC (.int 2))) Cr)) Cr)))) (Co (Dq (Co (Dq (Co (Cz ixG (Cp 1) (eC (.int 2))) (Co (Cz ixG (Cp 1) (eC (.int 1))) Cr))) Cr)) Cr)))) (gNm 3)) (CN (CT (Dq (Co (eC (.str "called")) (Co (Dq (Co (eC (.str "of")) (Co (Cz ixG (Cp 0) (eC (.int 0))) Cr))) (Co (Dq (Co (Dq (Co (Cz ixG (Cp 1) (eC (.int 0))) (Co (eC (.str "otherone")) Cr))) Cr)) Cr)))) (gNm 4)) (CN (CT (Dq (Co (eC (.str "rows")) (Co (Dq (Co (eC (.str "join")) (Co (Dq (Co (eC (.str "of")) (Co (Cz ixG (Cp 0) (eC (.int 0))) Cr))) (Co (Cp 4) Cr)))) (Co (Dq (Co (Dq (Co (eC (.str "unlike")) (Co (Cz ixG (Cp 1) (eC (.int 0))) (Co (eC (.str "otherone")) Cr)))) Cr)) Cr)))) (gNm 5)) (sRt (Dq (Co (Dq (Co (eC (.str "lacking")) (Co (Dq (Co (eC (.str "gap")) (Co (Cp 2) (Co (Cp 3) Cr)))) Cr))) (Co (Dq (Co (eC (.str "twice")) (Co (Cp 5) Cr))) (Co (Dq (Co (eC (.str "idle")) (Co (Dq (Co (eC (.str "gap")) (Co (Cp 3) (Co (Cp 2) Cr)))) Cr))) Cr))))))))
def Fq:Fn:=fnB 6 Ib
def J9:Sx:=
  CN (CT (CA dctP (Co (eLC (Ri (Co (Cp 0) (Co (Cp 1) Cr))) 2 [] (gTp 2 (Cy (gNm 0) (Cy (gNm 1) C0))) (tY) (Dq (Co (Cz ixG (Cp 0) (eC (.int 0))) (Co (Cp 1) Cr)))) Cr)) (gNm 3)) (CN (CT (eLC (EC (Cz ixG (Cp 3) (Cz ixG (Cp 2) (eC (.int 0))))) 1 [] (gNm 0) (tY) (Cz ixG (Cp 0) (eC (.int 1)))) (gNm 4)) (CN (CT (eLC (EC (Cz ixG (Cp 3) (Cz ixG (Cp 2) (eC (.int 1))))) 1 [] (gNm 0) (tY) (Cz ixG (Cp 0) (eC (.int 0)))) (gNm 5)) (CN (CT (CA anyF (Co (eLC (EC (Cp 4)) 1 [5] (gNm 0) (tY) (Cz JV (Cp 0) (Cp 1))) Cr)) (gNm 6)) (CN (CT (CA anyF (Co (eLC (EC (Cp 4)) 1 [4] (gNm 0) (tY) (Cz gtD (L3 (Cp 1) (Co (Cp 0) Cr)) (eC (.int 1)))) Cr)) (gNm 7)) (sRt (eDN (Co (eC (.str "lacking")) (Co (Cp 6) (Co (eC (.str "twice")) (Co (Cp 7) (Co (eC (.str "idle")) (Co (CA anyF (Co (eLC (EC (Cp 5)) 1 [4] (gNm 0) (tY) (Cz JV (Cp 0) (Cp 1))) Cr)) Cr))))))))))))
def GC:Fn:=fnG 8 J9
def HV:Sx:=
  CN (CT (CA GC (Co (Cp 0) (Co (Cp 1) (Co (Cp 2) Cr)))) (gNm 4)) (CN (IJ (EC (Cp 3)) (gNm 5) (sIf (tV (Cz neD (CA Fc (Co (Cp 0) (Co (Cp 1) (Co (Dq (Co (Cp 5) Cr)) Cr)))) (eIf (tV (Cz ixG (Cp 4) (Cz ixG (Cp 5) (eC (.int 0))))) (Cz ixG (Cp 5) (eC (.int 0))) (eC .non)))) (sRt (eC (.bl false))) (sNx))) (CN (IJ (EC (Dq (Co (Cp 3) (Co (e1 QV (Cp 3)) (Co (eSl (Cp 3) (GF (eC (.int 1))) (pNo)) Cr))))) (gNm 6) (sIf (tV (Cz neD (CA Fc (Co (Cp 0) (Co (Cp 1) (Co (Cp 6) Cr)))) (Cz ixG (Cz DR (eLC (EC (Cp 6)) 2 [4] (gTp 2 (Cy (gNm 0) (Cy (gNm 1) C0))) (tV (Cz ixG (Cp 2) (Cp 0))) (Cp 0)) (Li (Co (eC .non) Cr))) (eC (.int 0))))) (sRt (eC (.bl false))) (sNx))) (sRt (eC (.bl true)))))
def EK:Fn:=fnB 7 HV
def Gn:Sx:=
  CN (CT (CA C8 (Co (Cp 0) (Co (eC (.int 2)) Cr))) (gNm 3)) (CN (CT (CA GA (Co (eLC (EC (Cz ixG (Cz ixG (Cp 1) (Cp 3)) (eC (.int 1)))) 2 [0] (gTp 2 (Cy (gNm 0) (Cy (gNm 1) C0))) (tY) (CA Dy (Co (Cp 2) (Co (Cp 1) Cr)))) Cr)) (gNm 4)) (CN (CT (Cz DR (eLC (EC (Cz ixG (Cp 2) (Cp 3))) 1 [4] (gNm 0) (tV (Cz neD (Cz ixG (Cp 0) (eC (.int 0))) (Cz ixG (Cp 1) (eC (.int 0))))) (Cp 0)) (Li (Co (Cp 4) Cr))) (gNm 5)) (sRt (Cz DR (Cz DR (eSl (Cp 2) (pNo) (GF (Cp 3))) (Dq (Co (CA GA (Co (CA Lz (Co (Cp 5) Cr)) Cr)) Cr))) (eSl (Cp 2) (GF (Cz DR (Cp 3) (eC (.int 1)))) (pNo))))))
def DO:Fn:=fnB 6 Gn
def RC:Sx:=
  CN (IJ (iRg (Co (CA TB (Co (eC (.int 2)) (Co (CA JY (Co (eC (.int 6)) (Co (CA II (Co (Cp 0) Cr)) Cr))) Cr))) Cr)) (gNm 1) (CN (CT (CA Fi (Co (Cp 0) (Co (Cp 1) Cr))) (gNm 2)) (CN (CT (CA E1 (Co (Cp 2) Cr)) (gTp 3 (Cy (gNm 3) (Cy (gNm 4) (Cy (gNm 5) C0))))) (CN (CT (CA Fq (Co (Cp 4) (Co (Cp 5) Cr))) (gNm 6)) (CN (CT (CA Ee (Co (Cp 2) (Co (Cp 3) (Co (eC (.int 5)) Cr)))) (gNm 7)) (IJ (iRg (Co (eC (.int 5)) Cr)) (gNm 8) (CN (sIf (tNt (tV (CA EK (Co (Cp 3) (Co (Cp 7) (Co (Cp 4) (Co (Cp 6) Cr))))))) (sRt (eC (.bl false))) (sNx)) (CT (CA DO (Co (Cp 2) (Co (Cp 3) (Co (Cp 7) Cr)))) (gNm 7))))))))) (sRt (eC (.bl true)))
def LP:Fn:=fnB 9 RC
def top (i:Nat):Stmt:=PySem.Challenge.pw_lookback_k25_whole_references_kept.main.body.getD i (.Pass ⟨0,0,0,0⟩)
abbrev F6:Stmt:=top 1
abbrev Eb:Stmt:=top 4
abbrev Ej:Stmt:=top 5
abbrev En:Stmt:=top 6
abbrev GY:Stmt:=top 11
abbrev Ge:Stmt:=top 12
abbrev Ez:Stmt:=top 15
abbrev CO:Stmt:=top 10
abbrev Ff:Stmt:=top 14
abbrev Eo:Stmt:=top 13
abbrev D9:Stmt:=top 9
abbrev Hu:Stmt:=top 8
abbrev NY:Stmt:=top 16
abbrev Kt:Stmt:=top 18
abbrev Gg:Stmt:=top 17
abbrev Gz:Stmt:=top 23
abbrev Eu:Stmt:=top 24
abbrev Fh:Stmt:=top 25
abbrev DT:Stmt:=top 26
abbrev E6:Stmt:=top 22
abbrev G0:Stmt:=top 21
abbrev Gh:Stmt:=top 29
abbrev Mm:Stmt:=top 28
abbrev Jg:Stmt:=top 31
abbrev HG:Stmt:=top 33
abbrev HE:Stmt:=top 34
abbrev Hx:Stmt:=top 35
abbrev Ga:Stmt:=top 36
abbrev E8:Stmt:=top 37
abbrev Gv:Stmt:=top 38
abbrev GV:Stmt:=top 39
abbrev Ey:Stmt:=top 40
abbrev Gd:Stmt:=top 41
abbrev D5:Stmt:=top 42
abbrev KA:Stmt:=top 43
structure Tx (K:W.Frag) (mg:Str->Option Value):Prop where
 b_all:mg "all"=none
 b_any:mg "any"=none
 b_dict:mg "dict"=none
 b_int:mg "int"=none
 b_len:mg "len"=none
 b_list:mg "list"=none
 b_max:mg "max"=none
 b_min:mg "min"=none
 b_range:mg "range"=none
 b_sorted:mg "sorted"=none
 b_tuple:mg "tuple"=none
 b_zip:mg "zip"=none
 g_PAIRED:ZO K mg "PAIRED" ["join","union","gap"]
 g_SURE:∃t,mg "SURE"=some (.int 3 t)
def BO (P:Program)(w:World)(K:W.Frag)(mg:Str->Option Value)(base:Heap)(r:Nat)(x:Str)(st:Stmt)(f:Addr)(N:List Str)(m:Sx):Prop:=∀(cdv:Value) (A:Around) (outer:List Env) (s:Shared) (H:Hp) (E:XK),Room r (A.deeper (envOfC x (Cu st) s.heap.objs.size f cdv))->SVB (KL CX0 P w K mg base N x (Cu st) f cdv A outer s H E).nox (EW st) m
section
variable {P:Program}{w:World}{K:W.Frag}{mg:Str->Option Value}{base:Heap}
def GO:CL ["seen","look","other","found"] ["seen","look"] (Cu F6):=by rfl'
def KN {f:Addr}{fd:FuncData}(F:Fun K "found_again" "found_again" F6 f fd)(T:Tx K mg) :DU P w K mg base CX0 1 f fd ["seen","look"] (spF ⟨K,P,w⟩ Ew 2):=by
 have b:BO P w K mg base 0 "found_again" F6 f ["seen","look","other","found"] G8:=λcdv A outer s H E hr=>by
  exact Ct (Fg BB rfl (Dm (Cn 0)) (Du rfl (CB (Cw 2 GO.nd) (CB (Cw 3 GO.nd) De))) (CC (Em (Dg (E4 hr.units) (Cn 2) (Cn 1)) (CC (CG (Cn 3))) DN))) (CC (CG KJ))
 have c:=Dx 4 2 F GO rfl rfl b
 exact c
def Jc:CL ["schema"] ["schema"] (Cu Eb):=by rfl'
def Ja {f:Addr}{fd:FuncData}(F:Fun K "columns_by_name" "columns_by_name" Eb f fd)(T:Tx K mg) :DU P w K mg base CX0 1 f fd ["schema"] (spF ⟨K,P,w⟩ CV 1):=by
 have b:BO P w K mg base 0 "columns_by_name" Eb f ["schema"] FG:=λcdv A outer s H E hr=>by
  exact CC (CG (Qw ["table"] [] (LK hr.units KS ["table"] [] (by exact Gk (Cu Eb) rfl rfl ⟨rfl,by symm,by symm,by symm⟩ True.intro) (Dm (Cn 0)) Ec (λ_ _ _ _ _=>by exact Cw 0 (show(["table"]:List Str).Nodup by symm)) (λ_ _ _ _ _=>by exact DJ) (λ_ _ _ _ _=>by exact CI (Dd hr.units) (Cn 0) Cv) (λ_ _ _ _ _=>by exact Dp DM T.b_tuple B3 (Cm (ED ["column"] [] (by exact V5 rfl rfl (by symm) (by symm) (by symm) (by symm)) (Dm (CI (Dd hr.units) (Cn 0) Cv)) CS (λ_ _ _ _ _=>Cw 0 (show(["column"]:List Str).Nodup by symm)) (λ_ _ _ _ _=>DJ) (λ_ _ _ _ _=>CI (Dd hr.units) (Cn 0) Cv)) Cq))) rfl))
 have c:=Dx 1 1 F Jc rfl rfl b
 exact c
def G1:CL ["columns","pairs","names"] ["columns","pairs"] (Cu Ej):=by rfl'
def Jm {f:Addr}{fd:FuncData}(F:Fun K "called_columns" "called_columns" Ej f fd)(T:Tx K mg) :DU P w K mg base CX0 1 f fd ["columns","pairs"] (spF ⟨K,P,w⟩ Dt 2):=by
 have b:BO P w K mg base 0 "called_columns" Ej f ["columns","pairs","names"] FP:=λcdv A outer s H E hr=>by
  exact Ct (CF 2 G1.nd (Dp (J5 hr.units rfl) T.b_dict (by symm) (Cm (Cn 1) Cq))) (CC (CG (Dp DM T.b_tuple B3 (Cm (ED ["column"] [(2,"names")] (by exact Gk (Cu Ej) rfl rfl ⟨rfl,by symm,by symm,by symm⟩ ⟨⟨rfl,.inl rfl,.inl rfl⟩,True.intro⟩) (Dm (Cn 0)) CS (λ_ _ _ _ _=>Cw 0 (show(["column","names"]:List Str).Nodup by symm)) (λ_ _ _ _ _=>DJ) (λ_ _ _ _ _=>Jp hr.units (Cn 1) (Cm (Cn 0) (Cm (Cn 0) Cq)))) Cq))))
 have c:=Dx 3 2 F G1 rfl rfl b
 exact c
def Jj:CL ["one","other"] ["one","other"] (Cu En):=by rfl'
def Jk {f:Addr}{fd:FuncData}(F:Fun K "joined_columns" "joined_columns" En f fd)(T:Tx K mg) :DU P w K mg base CX0 1 f fd ["one","other"] (spF ⟨K,P,w⟩ DG 2):=by
 have b:BO P w K mg base 0 "joined_columns" En f ["one","other"] FU:=λcdv A outer s H E hr=>by
  exact CC (CG (CQ DB (Cn 0) (Dp DM T.b_tuple B3 (Cm (ED ["column"] [(0,"one")] (by exact Gk (Cu En) rfl rfl ⟨rfl,by symm,by symm,by symm⟩ ⟨⟨rfl,.inl rfl,.inl rfl⟩,True.intro⟩) (Dm (Cn 1)) CS (λ_ _ _ _ _=>Cw 0 (show(["column","one"]:List Str).Nodup by symm)) (λ_ _ _ _ _=>HF (Dg (Ky hr.units) (Cn 0) (Cn 1))) (λ_ _ _ _ _=>Cn 0)) Cq))))
 have c:=Dx 2 2 F Jj rfl rfl b
 exact c
def M4:CL ["numbers","step"] ["numbers","step"] (Cu GY):=by rfl'
def Nd {f:Addr}{fd:FuncData}(F:Fun K "number_of" "number_of" GY f fd)(T:Tx K mg) :DU P w K mg base CX0 1 f fd ["numbers","step"] (spF ⟨K,P,w⟩ CZ 2):=by
 have b:BO P w K mg base 0 "number_of" GY f ["numbers","step"] GS:=λcdv A outer s H E hr=>by
  exact CC (CG (TC hr.units (Cn 0) (Cm (Cn 1) (Cm (DD GD T.b_len boot_len (Cm (Cn 0) Cq)) Cq))))
 have c:=Dx 2 2 F M4 rfl rfl b
 exact c
def Nh:CL ["columns","words"] ["columns","words"] (Cu Ge):=by rfl'
def M9 {f:Addr}{fd:FuncData}(F:Fun K "places_of" "places_of" Ge f fd)(T:Tx K mg) :DU P w K mg base CX0 1 f fd ["columns","words"] (spF ⟨K,P,w⟩ DA 2):=by
 have b:BO P w K mg base 0 "places_of" Ge f ["columns","words"] Ih:=λcdv A outer s H E hr=>by
  exact CC (CG (Dp DM T.b_tuple B3 (Cm (ED ["word"] [(0,"columns")] (by exact Gk (Cu Ge) rfl rfl ⟨rfl,by symm,by symm,by symm⟩ ⟨⟨rfl,.inl rfl,.inl rfl⟩,True.intro⟩) (Dm (Cn 1)) CS (λ_ _ _ _ _=>Cw 0 (show(["word","columns"]:List Str).Nodup by symm)) (λ_ _ _ _ _=>DJ) (λ_ _ _ _ _=>Lm hr.units (Cn 1) (Cm (Cn 0) Cq))) Cq)))
 have c:=Dx 2 2 F Nh rfl rfl b
 exact c
def GK:CL ["one","other","common","more"] ["one","other"] (Cu Ez):=by rfl'
def KW {f:Addr}{fd:FuncData}(F:Fun K "join_places" "join_places" Ez f fd)(T:Tx K mg)(Fs:Cal P w K mg base 1 "places_of" DA 2):DU P w K mg base CX0 2 f fd ["one","other"] (spF ⟨K,P,w⟩ Eg 2):=by
 have b:BO P w K mg base 1 "join_places" Ez f ["one","other","common","more"] G7:=λcdv A outer s H E hr=>by
  have hr_places_of:Room 1 _:=hr.mono (by decide)
  exact Ct (KP 2 ["column"] [(1,"other")] (by exact Gk (Cu Ez) rfl rfl ⟨rfl,by symm,by symm,by symm⟩ ⟨⟨rfl,.inl rfl,.inl rfl⟩,True.intro⟩) (Dm (Cn 0)) CS (λ_ _ _ _ _=>Cw 0 (show(["column","other"]:List Str).Nodup by symm)) (λ_ _ _ _ _=>HF (Dg (Pr hr.units) (Cn 0) (Cn 1))) (λ_ _ _ _ _=>Cn 0) GK.nd) (Ct (KP 3 ["column"] [(0,"one")] (by exact Gk (Cu Ez) rfl rfl ⟨rfl,by symm,by symm,by symm⟩ ⟨⟨rfl,.inl rfl,.inl rfl⟩,True.intro⟩) (Dm (Cn 1)) CS (λ_ _ _ _ _=>Cw 0 (show(["column","one"]:List Str).Nodup by symm)) (λ_ _ _ _ _=>HF (Dg (Ky hr.units) (Cn 0) (Cn 1))) (λ_ _ _ _ _=>Cn 0) GK.nd) (CC (CG (CK (Cm (CD Fs hr_places_of (Cm (Cn 0) (Cm (Cn 2) Cq))) (Cm (CD Fs hr_places_of (Cm (Cn 1) (Cm (Cn 2) Cq))) (Cm (CD Fs hr_places_of (Cm (Cn 1) (Cm (Cn 3) Cq))) Cq)))))))
 have c:=Dx 4 2 F GK rfl rfl b
 exact c
def CH:CL ["known","numbers","seen","look","found","word","columns","one","others","other","step"] ["known","numbers","seen","look"] (Cu CO):=by rfl'
def EV:CL ["columns","test","word","column","other"] ["columns","test"] (Cu Ff):=by rfl'
def J8 {f:Addr}{fd:FuncData}(F:Fun K "test_by_place" "test_by_place" Ff f fd)(T:Tx K mg) :DU P w K mg base CX0 1 f fd ["columns","test"] (spF ⟨K,P,w⟩ D7 2):=by
 have b:BO P w K mg base 0 "test_by_place" Ff f ["columns","test","word","column","other"] Gq:=λcdv A outer s H E hr=>by
  exact Ct (EY (Cn 1) (Du rfl (CB (Cw 2 EV.nd) (CB (Cw 3 EV.nd) (CB (Cw 4 EV.nd) De))))) (CC (CG (CK (Cm (Cn 2) (Cm (Lm hr.units (Cn 0) (Cm (Cn 3) Cq)) (Cm (Hl (Dg (Pr hr.units) (Cn 2) (CK (Cm CW (Cm CW Cq)))) (Cn 4) (Lm hr.units (Cn 0) (Cm (Cn 4) Cq))) Cq))))))
 have c:=Dx 5 2 F EV rfl rfl b
 exact c
def Ji:CL ["columns","tests"] ["columns","tests"] (Cu Eo):=by rfl'
def Je {f:Addr}{fd:FuncData}(F:Fun K "tests_by_place" "tests_by_place" Eo f fd)(T:Tx K mg)(Kk:Cal P w K mg base 1 "test_by_place" D7 2):DU P w K mg base CX0 2 f fd ["columns","tests"] (spF ⟨K,P,w⟩ DV 2):=by
 have b:BO P w K mg base 1 "tests_by_place" Eo f ["columns","tests"] FV:=λcdv A outer s H E hr=>by
  have hr_test_by_place:Room 1 _:=hr.mono (by decide)
  exact CC (CG (Dp DM T.b_tuple B3 (Cm (ED ["test"] [(0,"columns")] (by exact Gk (Cu Eo) rfl rfl ⟨rfl,by symm,by symm,by symm⟩ ⟨⟨rfl,.inl rfl,.inl rfl⟩,True.intro⟩) (Dm (Cn 1)) CS (λ_ _ _ _ _=>Cw 0 (show(["test","columns"]:List Str).Nodup by symm)) (λ_ _ _ _ _=>DJ) (λ_ _ _ _ _=>CD Kk hr_test_by_place (Cm (Cn 1) (Cm (Cn 0) Cq)))) Cq)))
 have c:=Dx 2 2 F Ji rfl rfl b
 exact c
def Gs {f:Addr}{fd:FuncData}(F:Fun K "paired_columns_and_number" "paired_columns_and_number" CO f fd)(T:Tx K mg)(F8:Cal P w K mg base 1 "found_again" Ew 2)(F5:Cal P w K mg base 2 "join_places" Eg 2)(EU:Cal P w K mg base 1 "joined_columns" DG 2)(ER:Cal P w K mg base 1 "number_of" CZ 2){n k:Nat}(hk:2<=k)(Dh:Cal P w K mg base k "columns_and_number" (Cs n) 4):DU P w K mg base CX0 (k+1) f fd ["known","numbers","seen","look"] (spF ⟨K,P,w⟩ (DS n) 4):=by
 have b:∀(cdv:Value) (A:Around) (outer:List Env) (s:Shared) (H:Hp) (E:XK),Room k (A.deeper (envOfC "paired_columns_and_number" (Cu CO) s.heap.objs.size f cdv)) ->
   SVB (KL CX0 P w K mg base ["known","numbers","seen","look","found","word","columns","one","others","other","step"] "paired_columns_and_number" (Cu CO) f cdv A outer s H E).nox (EW CO) (Dc (Cs n)):=λcdv A outer s H E hr=>by
  have hr_found_again:Room 1 _:=hr.mono (by ext)
  have hr_join_places:Room 2 _:=hr.mono (by ext)
  have hr_joined_columns:Room 1 _:=hr.mono (by ext)
  have hr_number_of:Room 1 _:=hr.mono (by ext)
  have hr_columns_and_number:Room k _:=hr
  exact Ct (CF 4 CH.nd (CD F8 hr_found_again (Cm (Cn 2) (Cm (Cn 3) Cq)))) (Ct (Em (Dg Ys (Cn 4) KJ) (Ct (CF 5 CH.nd (CI (Dd hr.units) (Cn 3) Cv)) (Ct (EY (CD Dh hr_columns_and_number (Cm (Cn 0) (Cm (Cn 1) (Cm (Cn 2) (Cm (CI (Dd hr.units) (Cn 3) Cv) Cq))))) (Du rfl (CB (Cw 6 CH.nd) (CB (Cw 7 CH.nd) De)))) (Ct (EY (CD Dh hr_columns_and_number (Cm (Cn 0) (Cm (Cn 1) (Cm (Cn 2) (Cm (CI (Dd hr.units) (Cn 3) Cv) Cq))))) (Du rfl (CB (Cw 8 CH.nd) (CB (Cw 9 CH.nd) De)))) (Ct (CF 10 CH.nd (Hl (Dg (E4 hr.units) (Cn 5) CW) (CK (Cm CW (Cm (Cn 7) (Cm (Cn 9) (Cm (CD F5 hr_join_places (Cm (Cn 6) (Cm (Cn 8) Cq))) Cq))))) (CK (Cm (Cn 5) (Cm (Cn 7) (Cm (Cn 9) Cq)))))) (Ct (CF 4 CH.nd (CK (Cm (Hl (Dg (E4 hr.units) (Cn 5) CW) (CD EU hr_joined_columns (Cm (Cn 6) (Cm (Cn 8) Cq))) (Cn 6)) (Cm (CD ER hr_number_of (Cm (Cn 1) (Cm (Cn 10) Cq))) Cq)))) (CC (Ig (IB (Cn 2) (Cm (CK (Cm (Cn 3) (Cm (Cn 4) Cq))) Cq))))))))) DN) (CC (CG (Cn 4))))
 have c:=Dx 11 4 F CH rfl rfl b
 exact c
def DY:CL ["known","numbers","seen","look","word","columns","one"] ["known","numbers","seen","look"] (Cu D9):=by rfl'
theorem FK {f:Addr}{fd:FuncData}(F:Fun K "columns_and_number" "columns_and_number" D9 f fd)(hm:mg "columns_and_number"=some (.ref f))(hb:Binds K fd ["known","numbers","seen","look"] []){f':Addr}{fd':FuncData}(F':Fun K "paired_columns_and_number" "paired_columns_and_number" CO f' fd')(hm':mg "paired_columns_and_number"=some (.ref f'))(hb':Binds K fd' ["known","numbers","seen","look"] [])(T:Tx K mg)(ER:Cal P w K mg base 1 "number_of" CZ 2)(Hf:Cal P w K mg base 2 "tests_by_place" DV 2)(Fs:Cal P w K mg base 1 "places_of" DA 2)(Hk:Cal P w K mg base 1 "called_columns" Dt 2)(F8:Cal P w K mg base 1 "found_again" Ew 2)(F5:Cal P w K mg base 2 "join_places" Eg 2)(EU:Cal P w K mg base 1 "joined_columns" DG 2):∀n,DU P w K mg base CX0 (2*n+3) f fd ["known","numbers","seen","look"] (spF ⟨K,P,w⟩ (Cs n) 4)
 |0=>⟨λvs H Q E h=>by obtain⟨th,mu,ds,_,r,hl,_⟩:=h;rw[r.len];exact hl,λA outer s H args us vs Q E hr he hb hv h=>by obtain⟨th,mu,ds,_,r,hl,t⟩:=h;exact t.no.elim⟩
 |n+1=>by
  have Dh:Cal P w K mg base (2*n+3) "columns_and_number" (Cs n) 4:=Dj F hm (FK F hm hb F' hm' hb' T ER Hf Fs Hk F8 F5 EU n) hb
  have Gw:Cal P w K mg base (2*n+3+1) "paired_columns_and_number" (DS n) 4:=Dj F' hm' (Gs F' T F8 F5 EU ER (by ext) Dh) hb'
  have b:BO P w K mg base (2*n+3+1) "columns_and_number" D9 f ["known","numbers","seen","look","word","columns","one"] (CU (Cs n) (DS n)):=λcdv A outer s H E hr=>by
   have hr_number_of:Room 1 _:=hr.mono (by ext)
   have hr_tests_by_place:Room 2 _:=hr.mono (by ext)
   have hr_places_of:Room 1 _:=hr.mono (by ext)
   have hr_called_columns:Room 1 _:=hr.mono (by ext)
   have hr_columns_and_number:Room (2*n+3) _:=hr.mono (by ext)
   have hr_paired_columns_and_number:Room (2*n+3+1) _:=hr
   exact Ct (CF 4 DY.nd (CI (Dd hr.units) (Cn 3) Cv)) (Ct (Em (Dg (E4 hr.units) (Cn 4) CW) (CC (CG (CK (Cm (CI (Dd hr.units) (Cn 0) (CI (Dd hr.units) (Cn 3) Cv)) (Cm (CD ER hr_number_of (Cm (Cn 1) (Cm (Cn 3) Cq))) Cq))))) DN) (Ct (Em (Dg (Pr hr.units) (Cn 4) (Uw T.g_PAIRED)) (CC (CG (CD Gw hr_paired_columns_and_number (Cm (Cn 0) (Cm (Cn 1) (Cm (Cn 2) (Cm (Cn 3) Cq))))))) DN) (Ct (EY (CD Dh hr_columns_and_number (Cm (Cn 0) (Cm (Cn 1) (Cm (Cn 2) (Cm (CI (Dd hr.units) (Cn 3) Cv) Cq))))) (Du rfl (CB (Cw 5 DY.nd) (CB (Cw 6 DY.nd) De)))) (Ct (Em (Dg (E4 hr.units) (Cn 4) CW) (CC (CG (CK (Cm (Cn 5) (Cm (CD ER hr_number_of (Cm (Cn 1) (Cm (CK (Cm CW (Cm (Cn 6) (Cm (CD Hf hr_tests_by_place (Cm (Cn 5) (Cm (CI (Dd hr.units) (Cn 3) Cv) Cq))) Cq)))) Cq))) Cq))))) DN) (Ct (Em (Dg (E4 hr.units) (Cn 4) CW) (CC (CG (CK (Cm (CI (Dd hr.units) (Cn 3) Cv) (Cm (CD ER hr_number_of (Cm (Cn 1) (Cm (CK (Cm CW (Cm (Cn 6) (Cm (CD Fs hr_places_of (Cm (Cn 5) (Cm (CI (Dd hr.units) (Cn 3) Cv) Cq))) Cq)))) Cq))) Cq))))) DN) (CC (CG (CK (Cm (CD Hk hr_called_columns (Cm (Cn 5) (Cm (CI (Dd hr.units) (Cn 3) Cv) Cq))) (Cm (Cn 6) Cq))))))))))
  have c:=Dx 7 4 F DY rfl rfl b
  exact c
def Ka:CL ["schema","look","numbers"] ["schema","look"] (Cu Hu):=by rfl'
def NI {f:Addr}{fd:FuncData}(F:Fun K "steps_of" "steps_of" Hu f fd)(T:Tx K mg)(Dh:Cal P w K mg base 23 "columns_and_number" (Cs 10) 4)(Jz:Cal P w K mg base 1 "columns_by_name" CV 1):DU P w K mg base CX0 24 f fd ["schema","look"] (spF ⟨K,P,w⟩ Er 2):=by
 have b:BO P w K mg base 23 "steps_of" Hu f ["schema","look","numbers"] IS:=λcdv A outer s H E hr=>by
  have hr_columns_and_number:Room 23 _:=hr.mono (by decide)
  have hr_columns_by_name:Room 1 _:=hr.mono (by decide)
  exact Ct (CF 2 Ka.nd Kz) (Ct (Ig (CD Dh hr_columns_and_number (Cm (CD Jz hr_columns_by_name (Cm (Cn 0) Cq)) (Cm (Cn 2) (Cm (Jr Cq) (Cm (Cn 1) Cq)))))) (CC (CG (Dp (QE rfl) T.b_list boot_list (Cm (Cn 2) Cq)))))
 have c:=J1 3 2 F Ka rfl rfl b
 exact c
def Yq:CL ["row","places"] ["row","places"] (Cu NY):=by rfl'
def W9 {f:Addr}{fd:FuncData}(F:Fun K "cut" "cut" NY f fd)(T:Tx K mg) :DU P w K mg base CX0 1 f fd ["row","places"] (spF ⟨K,P,w⟩ Fw 2):=by
 have b:BO P w K mg base 0 "cut" NY f ["row","places"] Tf:=λcdv A outer s H E hr=>by
  exact CC (CG (Dp DM T.b_tuple B3 (Cm (ED ["place"] [(0,"row")] (by exact Gk (Cu NY) rfl rfl ⟨rfl,by symm,by symm,by symm⟩ ⟨⟨rfl,.inl rfl,.inl rfl⟩,True.intro⟩) (Dm (Cn 1)) CS (λ_ _ _ _ _=>Cw 0 (show(["place","row"]:List Str).Nodup by symm)) (λ_ _ _ _ _=>DJ) (λ_ _ _ _ _=>CI (Dd hr.units) (Cn 1) (Cn 0))) Cq)))
 have c:=Dx 2 2 F Yq rfl rfl b
 exact c
def H0:CL ["row","test","word","place","other","alike"] ["row","test"] (Cu Kt):=by rfl'
def R3 {f:Addr}{fd:FuncData}(F:Fun K "meets" "meets" Kt f fd)(T:Tx K mg) :DU P w K mg base CX0 1 f fd ["row","test"] (spF ⟨K,P,w⟩ Ir 2):=by
 have b:BO P w K mg base 0 "meets" Kt f ["row","test","word","place","other","alike"] ME:=λcdv A outer s H E hr=>by
  exact Ct (EY (Cn 1) (Du rfl (CB (Cw 2 H0.nd) (CB (Cw 3 H0.nd) (CB (Cw 4 H0.nd) De))))) (Ct (Em (Dg (E4 hr.units) (Cn 2) CW) (CC (CG (Jd (E4 hr.units) (CI (Dd hr.units) (Cn 0) (Cn 3)) (Cn 4)))) DN) (Ct (Em (Dg (E4 hr.units) (Cn 2) CW) (CC (CG (Jd (M5 hr.units) (CI (Dd hr.units) (Cn 0) (Cn 3)) (Cn 4)))) DN) (Ct (CF 5 H0.nd (Jd (E4 hr.units) (CI (Dd hr.units) (Cn 0) (Cn 3)) (CI (Dd hr.units) (Cn 0) (Cn 4)))) (CC (CG (Hl (Dg (E4 hr.units) (Cn 2) CW) (Cn 5) (Yf (Cn 5))))))))
 have c:=Dx 6 2 F H0 rfl rfl b
 exact c
def MB:CL ["row","tests"] ["row","tests"] (Cu Gg):=by rfl'
def M3 {f:Addr}{fd:FuncData}(F:Fun K "meets_all" "meets_all" Gg f fd)(T:Tx K mg)(VF:Cal P w K mg base 1 "meets" Ir 2):DU P w K mg base CX0 2 f fd ["row","tests"] (spF ⟨K,P,w⟩ Ft 2):=by
 have b:BO P w K mg base 1 "meets_all" Gg f ["row","tests"] Ip:=λcdv A outer s H E hr=>by
  have hr_meets:Room 1 _:=hr.mono (by decide)
  exact CC (CG (DD (Rj rfl) T.b_all boot_all (Cm (ED ["test"] [(0,"row")] (by exact Gk (Cu Gg) rfl rfl ⟨rfl,by symm,by symm,by symm⟩ ⟨⟨rfl,.inl rfl,.inl rfl⟩,True.intro⟩) (Dm (Cn 1)) CS (λ_ _ _ _ _=>Cw 0 (show(["test","row"]:List Str).Nodup by symm)) (λ_ _ _ _ _=>DJ) (λ_ _ _ _ _=>CD VF hr_meets (Cm (Cn 1) (Cm (Cn 0) Cq)))) Cq)))
 have c:=Dx 2 2 F MB rfl rfl b
 exact c
def Fd:CL ["rows","places","found","row","level","part"] ["rows","places"] (Cu Gz):=by rfl'
def Lv {f:Addr}{fd:FuncData}(F:Fun K "cut_levels" "cut_levels" Gz f fd)(T:Tx K mg)(NG:Cal P w K mg base 1 "cut" Fw 2):DU P w K mg base CX0 2 f fd ["rows","places"] (spF ⟨K,P,w⟩ Fy 2):=by
 have b:BO P w K mg base 1 "cut_levels" Gz f ["rows","places","found","row","level","part"] Hr:=λcdv A outer s H E hr=>by
  have hr_cut:Room 1 _:=hr.mono (by decide)
  exact Ct (CF 2 Fd.nd Kz) (Ct (Fg BB rfl (IX (Cn 0)) (Du rfl (CB (Cw 3 Fd.nd) (CB (Cw 4 Fd.nd) De))) (Ct (CF 5 Fd.nd (CD NG hr_cut (Cm (Cn 3) (Cm (Cn 1) Cq)))) (CC (Em (Dg (O7 hr.units) (Jp hr.units (Cn 2) (Cm (Cn 5) (Cm Cv Cq))) (Cn 4)) (CC (EY (Cn 4) (Lf hr.units (Cn 2) (Cn 5)))) DN)))) (CC (CG (Cn 2))))
 have c:=J1 6 2 F Fd rfl rfl b
 exact c
def DI:CL ["one","other","places","in_one","in_other","more","rests","row","level"] ["one","other","places"] (Cu Eu):=by rfl'
def JX {f:Addr}{fd:FuncData}(F:Fun K "joined_levels" "joined_levels" Eu f fd)(T:Tx K mg)(NG:Cal P w K mg base 1 "cut" Fw 2):DU P w K mg base CX0 2 f fd ["one","other","places"] (spF ⟨K,P,w⟩ Et 3):=by
 have b:BO P w K mg base 1 "joined_levels" Eu f ["one","other","places","in_one","in_other","more","rests","row","level"] Gp:=λcdv A outer s H E hr=>by
  have hr_cut:Room 1 _:=hr.mono (by decide)
  exact Ct (EY (Cn 2) (Du rfl (CB (Cw 3 DI.nd) (CB (Cw 4 DI.nd) (CB (Cw 5 DI.nd) De))))) (Ct (CF 6 DI.nd Kz) (Ct (Fg BB rfl (IX (Cn 1)) (Du rfl (CB (Cw 7 DI.nd) (CB (Cw 8 DI.nd) De))) (CC (Ig (IB (TC hr.units (Cn 6) (Cm (CD NG hr_cut (Cm (Cn 7) (Cm (Cn 4) Cq))) (Cm (Jr Cq) Cq))) (Cm (CK (Cm (CD NG hr_cut (Cm (Cn 7) (Cm (Cn 5) Cq))) (Cm (Cn 8) Cq))) Cq))))) (CC (CG (Qw ["row","level","rest","rest_level"] [(6,"rests"),(3,"in_one")] (AaL hr.units KS ["row","level","rest","rest_level"] 2 (by decide) [(6,"rests"),(3,"in_one")] (by exact Gk (Cu Eu) rfl rfl ⟨rfl,by symm,by symm,by symm⟩ ⟨⟨rfl,.inl rfl,.inl rfl⟩,⟨rfl,.inl rfl,.inl rfl⟩,True.intro⟩) (IX (Cn 0)) (Iz (D4 Ec (D4 Ec He))) (Iz (D4 Ec (D4 Ec He))) (λ_ _ _ _ _=>by exact Du rfl (CB (Cw 0 (show(["row","level","rest","rest_level","rests","in_one"]:List Str).Nodup by symm)) (CB (Cw 1 (show(["row","level","rest","rest_level","rests","in_one"]:List Str).Nodup by symm)) De))) (λ_ _ _ _ _=>by exact DJ) (λ_ _ _ _ _=>by exact Dm (Jp hr.units (Cn 4) (Cm (CD NG hr_cut (Cm (Cn 0) (Cm (Cn 5) Cq))) (Cm (JS Cq) Cq)))) (λ_ _ _ _ _=>by exact Du rfl (CB (Cw 2 (show(["row","level","rest","rest_level","rests","in_one"]:List Str).Nodup by symm)) (CB (Cw 3 (show(["row","level","rest","rest_level","rests","in_one"]:List Str).Nodup by symm)) De))) (λ_ _ _ _ _=>by exact DJ) (λ_ _ _ _ _=>by exact CQ DB (Cn 0) (Cn 2)) (λ_ _ _ _ _=>by exact DD (ID rfl) T.b_min boot_min (Cm (Cn 1) (Cm (Cn 3) Cq)))) rfl)))))
 have c:=J1 9 3 F DI rfl rfl b
 exact c
def EX:CL ["one","other","found","row","level"] ["one","other"] (Cu Fh):=by rfl'
def J4 {f:Addr}{fd:FuncData}(F:Fun K "united_levels" "united_levels" Fh f fd)(T:Tx K mg) :DU P w K mg base CX0 1 f fd ["one","other"] (spF ⟨K,P,w⟩ Gi 2):=by
 have b:BO P w K mg base 0 "united_levels" Fh f ["one","other","found","row","level"] HN:=λcdv A outer s H E hr=>by
  exact Ct (CF 2 EX.nd (Dp (J5 hr.units rfl) T.b_dict (by symm) (Cm (Cn 0) Cq))) (Ct (Fg BB rfl (IX (Cn 1)) (Du rfl (CB (Cw 3 EX.nd) (CB (Cw 4 EX.nd) De))) (CC (Em (Dg (O7 hr.units) (Jp hr.units (Cn 2) (Cm (Cn 3) (Cm Cv Cq))) (Cn 4)) (CC (EY (Cn 4) (Lf hr.units (Cn 2) (Cn 3)))) DN))) (CC (CG (Cn 2))))
 have c:=Dx 5 2 F EX rfl rfl b
 exact c
def GW:CL ["one","other","found"] ["one","other"] (Cu DT):=by rfl'
def Jh {f:Addr}{fd:FuncData}(F:Fun K "levels_without" "levels_without" DT f fd)(T:Tx K mg) :DU P w K mg base CX0 1 f fd ["one","other"] (spF ⟨K,P,w⟩ Ek 2):=by
 have b:BO P w K mg base 0 "levels_without" DT f ["one","other","found"] FZ:=λcdv A outer s H E hr=>by
  exact Ct (AaS ["row","level"] [(1,"other")] 2 (LK hr.units KS ["row","level"] [(1,"other")] (by exact Gk (Cu DT) rfl rfl ⟨rfl,by symm,by symm,by symm⟩ ⟨⟨rfl,.inl rfl,.inl rfl⟩,True.intro⟩) (IX (Cn 0)) (Iz (D4 Ec (D4 Ec He))) (λ_ _ _ _ _=>by exact Du rfl (CB (Cw 0 (show(["row","level","other"]:List Str).Nodup by symm)) (CB (Cw 1 (show(["row","level","other"]:List Str).Nodup by symm)) De))) (λ_ _ _ _ _=>by exact DJ) (λ_ _ _ _ _=>by exact Cn 0) (λ_ _ _ _ _=>by exact DD (ID rfl) T.b_min boot_min (Cm (Cn 1) (Cm (CQ PJ (P8 T.g_SURE) (Jp hr.units (Cn 2) (Cm (Cn 0) (Cm Cv Cq)))) Cq)))) GW.nd (by rfl) (by first|exact Or.inl rfl|exact Or.inr rfl) (by first|exact .inl rfl|exact .inr rfl) (by rfl) (by rfl)) (CC (CG (Qw ["row","level"] [] (LK hr.units KS ["row","level"] [] (by exact Gk (Cu DT) rfl rfl ⟨rfl,by symm,by symm,by symm⟩ True.intro) (IX (Cn 2)) (Iz (D4 Ec (D4 Ec He))) (λ_ _ _ _ _=>by exact Du rfl (CB (Cw 0 (show(["row","level"]:List Str).Nodup by symm)) (CB (Cw 1 (show(["row","level"]:List Str).Nodup by symm)) De))) (λ_ _ _ _ _=>by exact HF (Dg Pu (Cn 1) Cv)) (λ_ _ _ _ _=>by exact Cn 0) (λ_ _ _ _ _=>by exact Cn 1)) rfl)))
 have c:=Dx 3 2 F GW rfl rfl b
 exact c
def FI:CL ["step","found","tables","word","one","other"] ["step","found","tables"] (Cu E6):=by rfl'
def KG {f:Addr}{fd:FuncData}(F:Fun K "step_levels" "step_levels" E6 f fd)(T:Tx K mg)(N5:Cal P w K mg base 2 "meets_all" Ft 2)(MV:Cal P w K mg base 2 "cut_levels" Fy 2)(Kj:Cal P w K mg base 2 "joined_levels" Et 3)(Kf:Cal P w K mg base 1 "united_levels" Gi 2)(JQ:Cal P w K mg base 1 "levels_without" Ek 2):DU P w K mg base CX0 3 f fd ["step","found","tables"] (spF ⟨K,P,w⟩ CP 3):=by
 have b:BO P w K mg base 2 "step_levels" E6 f ["step","found","tables","word","one","other"] Ed:=λcdv A outer s H E hr=>by
  have hr_meets_all:Room 2 _:=hr.mono (by decide)
  have hr_cut_levels:Room 2 _:=hr.mono (by decide)
  have hr_joined_levels:Room 2 _:=hr.mono (by decide)
  have hr_united_levels:Room 1 _:=hr.mono (by decide)
  have hr_levels_without:Room 1 _:=hr.mono (by decide)
  exact Ct (CF 3 FI.nd (CI (Dd hr.units) (Cn 0) Cv)) (Ct (Em (Dg (E4 hr.units) (Cn 3) CW) (CC (CG (CI (Dd hr.units) (Cn 2) (CI (Dd hr.units) (Cn 0) Cv)))) DN) (Ct (CF 4 FI.nd (CI (Dd hr.units) (Cn 1) (CI (Dd hr.units) (Cn 0) Cv))) (Ct (Em (Dg (E4 hr.units) (Cn 3) CW) (CC (CG (Qw ["row","level"] [(0,"step")] (LK hr.units KS ["row","level"] [(0,"step")] (by exact Gk (Cu E6) rfl rfl ⟨rfl,by symm,by symm,by symm⟩ ⟨⟨rfl,.inl rfl,.inl rfl⟩,True.intro⟩) (IX (Cn 4)) (Iz (D4 Ec (D4 Ec He))) (λ_ _ _ _ _=>by exact Du rfl (CB (Cw 0 (show(["row","level","step"]:List Str).Nodup by symm)) (CB (Cw 1 (show(["row","level","step"]:List Str).Nodup by symm)) De))) (λ_ _ _ _ _=>by exact HF (Ks (CD N5 hr_meets_all (Cm (Cn 0) (Cm (CI (Dd hr.units) (Cn 2) Cv) Cq))))) (λ_ _ _ _ _=>by exact Cn 0) (λ_ _ _ _ _=>by exact Cn 1)) rfl))) DN) (Ct (Em (Dg (E4 hr.units) (Cn 3) CW) (CC (CG (CD MV hr_cut_levels (Cm (Cn 4) (Cm (CI (Dd hr.units) (Cn 0) Cv) Cq))))) DN) (Ct (CF 5 FI.nd (CI (Dd hr.units) (Cn 1) (CI (Dd hr.units) (Cn 0) Cv))) (Ct (Em (Dg (E4 hr.units) (Cn 3) CW) (CC (CG (CD Kj hr_joined_levels (Cm (Cn 4) (Cm (Cn 5) (Cm (CI (Dd hr.units) (Cn 0) Cv) Cq)))))) DN) (CC (CG (Hl (Dg (E4 hr.units) (Cn 3) CW) (CD Kf hr_united_levels (Cm (Cn 4) (Cm (Cn 5) Cq))) (CD JQ hr_levels_without (Cm (Cn 4) (Cm (Cn 5) Cq))))))))))))
 have c:=Dx 6 3 F FI rfl rfl b
 exact c
def HH:CL ["steps","tables","found","step"] ["steps","tables"] (Cu G0):=by rfl'
def MM {f:Addr}{fd:FuncData}(F:Fun K "levels_of" "levels_of" G0 f fd)(T:Tx K mg)(LA:Cal P w K mg base 3 "step_levels" CP 3):DU P w K mg base CX0 4 f fd ["steps","tables"] (spF ⟨K,P,w⟩ Fm 2):=by
 have b:BO P w K mg base 3 "levels_of" G0 f ["steps","tables","found","step"] Ie:=λcdv A outer s H E hr=>by
  have hr_step_levels:Room 3 _:=hr.mono (by decide)
  exact Ct (CF 2 HH.nd (Jr Cq)) (Ct (Fg BB rfl (Dm (Cn 0)) (Cw 3 HH.nd) (CC (Ig (IB (Cn 2) (Cm (CD LA hr_step_levels (Cm (Cn 3) (Cm (Cn 2) (Cm (Cn 1) Cq)))) Cq))))) (CC (CG (Cn 2))))
 have c:=J1 4 2 F HH rfl rfl b
 exact c
def MN:CL ["schema","filling"] ["schema","filling"] (Cu Gh):=by rfl'
def Mk {f:Addr}{fd:FuncData}(F:Fun K "tables_of" "tables_of" Gh f fd)(T:Tx K mg) :DU P w K mg base CX0 1 f fd ["schema","filling"] (spF ⟨K,P,w⟩ EI 2):=by
 have b:BO P w K mg base 0 "tables_of" Gh f ["schema","filling"] Io:=λcdv A outer s H E hr=>by
  exact CC (CG (Qw ["table","rows"] [] (LK hr.units KS ["table","rows"] [] (by exact Gk (Cu Gh) rfl rfl ⟨rfl,by symm,by symm,by symm⟩ True.intro) (NX T.b_zip (Cm (Cn 0) (Cm (Cn 1) Cq))) (Iz (D4 Ec (D4 Ec He))) (λ_ _ _ _ _=>by exact Du rfl (CB (Cw 0 (show(["table","rows"]:List Str).Nodup by symm)) (CB (Cw 1 (show(["table","rows"]:List Str).Nodup by symm)) De))) (λ_ _ _ _ _=>by exact DJ) (λ_ _ _ _ _=>by exact CI (Dd hr.units) (Cn 0) Cv) (λ_ _ _ _ _=>by exact Qw ["row"] [] (LK hr.units KS ["row"] [] (by exact V5 rfl rfl (by symm) (by symm) (by symm) (by symm)) (Dm (Cn 1)) Ec (λ_ _ _ _ _=>by exact Cw 0 (show(["row"]:List Str).Nodup by symm)) (λ_ _ _ _ _=>by exact DJ) (λ_ _ _ _ _=>by exact Cn 0) (λ_ _ _ _ _=>by exact P8 T.g_SURE)) rfl)) rfl))
 have c:=Dx 2 2 F MN rfl rfl b
 exact c
def U9:CL ["schema","filling","look"] ["schema","filling","look"] (Cu Mm):=by rfl'
def UM {f:Addr}{fd:FuncData}(F:Fun K "told" "told" Mm f fd)(T:Tx K mg)(NM:Cal P w K mg base 4 "levels_of" Fm 2)(Pj:Cal P w K mg base 24 "steps_of" Er 2)(Nj:Cal P w K mg base 1 "tables_of" EI 2):DU P w K mg base CX0 25 f fd ["schema","filling","look"] (spF ⟨K,P,w⟩ EB 3):=by
 have b:BO P w K mg base 24 "told" Mm f ["schema","filling","look"] Pq:=λcdv A outer s H E hr=>by
  have hr_levels_of:Room 4 _:=hr.mono (by decide)
  have hr_steps_of:Room 24 _:=hr.mono (by decide)
  have hr_tables_of:Room 1 _:=hr.mono (by decide)
  exact CC (CG (Dp DM T.b_tuple B3 (Cm (DD (JW hr.units rfl) T.b_sorted boot_sorted (Cm (CI (Dd hr.units) (CD NM hr_levels_of (Cm (CD Pj hr_steps_of (Cm (Cn 0) (Cm (Cn 2) Cq))) (Cm (CD Nj hr_tables_of (Cm (Cn 0) (Cm (Cn 1) Cq))) Cq))) (WA Cv)) Cq)) Cq)))
 have c:=Dx 3 3 F U9 rfl rfl b
 exact c
def JK:CL ["schema","filling","rules","word","look"] ["schema","filling","rules"] (Cu Jg):=by rfl'
def QP {f:Addr}{fd:FuncData}(F:Fun K "broken" "broken" Jg f fd)(T:Tx K mg)(Yd:Cal P w K mg base 25 "told" EB 3):DU P w K mg base CX0 26 f fd ["schema","filling","rules"] (spF ⟨K,P,w⟩ Fc 3):=by
 have b:BO P w K mg base 25 "broken" Jg f ["schema","filling","rules","word","look"] JA:=λcdv A outer s H E hr=>by
  have hr_told:Room 25 _:=hr.mono (by decide)
  exact Ct (Fg BB rfl (Dm (Cn 2)) (Du rfl (CB (Cw 3 JK.nd) (CB (Cw 4 JK.nd) De))) (CC (Em (WK (CD Yd hr_told (Cm (Cn 0) (Cm (Cn 1) (Cm (Cn 4) Cq))))) (CC (CG (Cn 3))) DN))) (CC (CG KJ))
 have c:=Dx 5 3 F JK rfl rfl b
 exact c
def HR:CL ["_law_script","_law_k","_law_cell"] ["_law_script","_law_k"] (Cu HG):=by rfl'
def Ny {f:Addr}{fd:FuncData}(F:Fun K "_law_hand" "_law_hand" HG f fd)(T:Tx K mg) :DU P w K mg base CX0 1 f fd ["_law_script","_law_k"] (spF ⟨K,P,w⟩ Fi 2):=by
 have b:BO P w K mg base 0 "_law_hand" HG f ["_law_script","_law_k","_law_cell"] Hw:=λcdv A outer s H E hr=>by
  exact Ct (CF 2 HR.nd Cv) (Ct (Em (Dg (O7 hr.units) (Cn 1) (DD GD T.b_len boot_len (Cm (Cn 0) Cq))) (CC (CF 2 HR.nd (CI (Dd hr.units) (Cn 0) (Cn 1)))) DN) (CC (CG (Jr (Cm (CQ F7 (Cn 2) (Dp QT T.b_int boot_int (Cm (Jd WJ (Cn 2) (CQ Vg Cv Cv)) Cq))) (Cm (CQ DB (CQ DB (CQ Hv (Cn 2) Cv) (CQ F7 Cv (Cn 1))) Cv) (Cm Cv Cq)))))))
 have c:=Dx 3 2 F HR rfl rfl b
 exact c
def Fo:CL ["_law_hand_here","_law_many","_law_digit","_law_turn","_law_mixed","_law_other"] ["_law_hand_here","_law_many"] (Cu HE):=by rfl'
def NB {f:Addr}{fd:FuncData}(F:Fun K "_law_take" "_law_take" HE f fd)(T:Tx K mg) :DU P w K mg base CX0 1 f fd ["_law_hand_here","_law_many"] (spF ⟨K,P,w⟩ C8 2):=by
 have b:BO P w K mg base 0 "_law_take" HE f ["_law_hand_here","_law_many","_law_digit","_law_turn","_law_mixed","_law_other"] HD:=λcdv A outer s H E hr=>by
  exact Ct (Em (Dg Pu (CI (Dd hr.units) (Cn 0) Cv) Cv) (Ct (CF 2 Fo.nd (CQ Hv (CI (Dd hr.units) (Cn 0) Cv) (Cn 1))) (Ct (EY (CQ KZ (CI (Dd hr.units) (Cn 0) Cv) (Cn 1)) (Lf hr.units (Cn 0) Cv)) (CC (CG (Cn 2))))) DN) (Ct (EY (CQ DB (CI (Dd hr.units) (Cn 0) Cv) Cv) (Lf hr.units (Cn 0) Cv)) (Ct (CF 3 Fo.nd (CI (Dd hr.units) (Cn 0) Cv)) (Ct (CF 4 Fo.nd (CQ Hv (CQ F7 (CI (Dd hr.units) (Cn 0) Cv) (CQ DB (CQ DB Cv (CQ F7 (CQ F7 Cv (Cn 3)) (Cn 3))) (CQ F7 Cv (Cn 3)))) Cv)) (Ct (CF 5 Fo.nd (CQ DB (CQ DB (CQ Hv (Cn 4) Cv) (CQ F7 (Cn 3) Cv)) Cv)) (Ct (CF 4 Fo.nd (CQ Hv (CQ F7 (Cn 4) (Cn 5)) Cv)) (CC (CG (CQ Hv (CQ DB (CQ KZ (Cn 4) Cv) (CQ KZ (Cn 4) Cv)) (Cn 1)))))))))
 have c:=Dx 6 2 F Fo rfl rfl b
 exact c
def NV:CL ["_law_hand_here","_law_some"] ["_law_hand_here","_law_some"] (Cu Hx):=by rfl'
def ND {f:Addr}{fd:FuncData}(F:Fun K "_law_pick" "_law_pick" Hx f fd)(T:Tx K mg)(DQ:Cal P w K mg base 1 "_law_take" C8 2):DU P w K mg base CX0 2 f fd ["_law_hand_here","_law_some"] (spF ⟨K,P,w⟩ Dy 2):=by
 have b:BO P w K mg base 1 "_law_pick" Hx f ["_law_hand_here","_law_some"] HJ:=λcdv A outer s H E hr=>by
  have hr_law_take:Room 1 _:=hr.mono (by decide)
  exact CC (CG (CI (Dd hr.units) (Cn 1) (CD DQ hr_law_take (Cm (Cn 0) (Cm (DD GD T.b_len boot_len (Cm (Cn 1) Cq)) Cq)))))
 have c:=Dx 2 2 F NV rfl rfl b
 exact c
def ET:CL ["_law_hand_here","_law_many","_law_most","_law_signs","_law_first","_law_step","_law_stem","_law_at"] ["_law_hand_here","_law_many","_law_most"] (Cu Ga):=by rfl'
def Mr {f:Addr}{fd:FuncData}(F:Fun K "_law_words" "_law_words" Ga f fd)(T:Tx K mg)(DQ:Cal P w K mg base 1 "_law_take" C8 2)(FY:Cal P w K mg base 2 "_law_pick" Dy 2):DU P w K mg base CX0 3 f fd ["_law_hand_here","_law_many","_law_most"] (spF ⟨K,P,w⟩ EN 3):=by
 have b:BO P w K mg base 2 "_law_words" Ga f ["_law_hand_here","_law_many","_law_most","_law_signs","_law_first","_law_step","_law_stem","_law_at"] HZ:=λcdv A outer s H E hr=>by
  have hr_law_take:Room 1 _:=hr.mono (by decide)
  have hr_law_pick:Room 2 _:=hr.mono (by decide)
  exact Ct (CF 3 ET.nd CW) (Ct (EY (CK (Cm (CD DQ hr_law_take (Cm (Cn 0) (Cm Cv Cq))) (Cm (CD FY hr_law_pick (Cm (Cn 0) (Cm (JS (Cm Cv (Cm Cv (Cm Cv (Cm Cv (Cm Cv (Cm Cv Cq))))))) Cq))) Cq))) (Du rfl (CB (Cw 4 ET.nd) (CB (Cw 5 ET.nd) De)))) (Ct (CF 6 ET.nd (CQ F7 (CI (Dd hr.units) (Cn 3) (CD DQ hr_law_take (Cm (Cn 0) (Cm Cv Cq)))) (DD (ID rfl) T.b_min boot_min (Cm (CQ PJ (Cn 2) Cv) (Cm (CD FY hr_law_pick (Cm (Cn 0) (Cm (JS (Cm Cv (Cm Cv (Cm Cv (Cm Cv (Cm Cv Cq)))))) Cq))) Cq))))) (Ct (CF 7 ET.nd (CD DQ hr_law_take (Cm (Cn 0) (Cm (CQ DB (DD GD T.b_len boot_len (Cm (Cn 6) Cq)) Cv) Cq)))) (CC (CG (ED ["_law_k"] [(6,"_law_stem"),(7,"_law_at"),(3,"_law_signs"),(4,"_law_first"),(5,"_law_step")] (by exact Gk (Cu Ga) rfl rfl ⟨rfl,by symm,by symm,by symm⟩ ⟨⟨rfl,.inl rfl,.inl rfl⟩,⟨rfl,.inl rfl,.inl rfl⟩,⟨rfl,.inl rfl,.inl rfl⟩,⟨rfl,.inl rfl,.inl rfl⟩,⟨rfl,.inl rfl,.inl rfl⟩,True.intro⟩) (Iw T.b_range (Cm (Cn 1) Cq)) CS (λ_ _ _ _ _=>Cw 0 (show(["_law_k","_law_stem","_law_at","_law_signs","_law_first","_law_step"]:List Str).Nodup by symm)) (λ_ _ _ _ _=>DJ) (λ_ _ _ _ _=>CQ DB (CQ DB (Fz (Cn 1) Fx (FA (Cn 2))) (CI (Dd hr.units) (Cn 3) (CQ Hv (CQ DB (Cn 4) (CQ F7 (Cn 5) (Cn 0))) Cv))) (Fz (Cn 1) (FA (Cn 2)) Fx))))))))
 have c:=Dx 8 3 F ET rfl rfl b
 exact c
def DL:CL ["_law_hand_here","_law_schema","_law_most","_law_found","_law_name","_law_columns","_law_keys","_law_rows","_law_k","_law_row"] ["_law_hand_here","_law_schema","_law_most"] (Cu E8):=by rfl'
def Ld {f:Addr}{fd:FuncData}(F:Fun K "_law_filling" "_law_filling" E8 f fd)(T:Tx K mg)(DQ:Cal P w K mg base 1 "_law_take" C8 2)(FY:Cal P w K mg base 2 "_law_pick" Dy 2):DU P w K mg base CX0 3 f fd ["_law_hand_here","_law_schema","_law_most"] (spF ⟨K,P,w⟩ Ee 3):=by
 have b:BO P w K mg base 2 "_law_filling" E8 f ["_law_hand_here","_law_schema","_law_most","_law_found","_law_name","_law_columns","_law_keys","_law_rows","_law_k","_law_row"] G6:=λcdv A outer s H E hr=>by
  have hr_law_take:Room 1 _:=hr.mono (by decide)
  have hr_law_pick:Room 2 _:=hr.mono (by decide)
  exact Ct (CF 3 DL.nd (Jr Cq)) (Ct (Fg BB rfl (Dm (Cn 1)) (Du rfl (CB (Cw 4 DL.nd) (CB (Cw 5 DL.nd) (CB (Cw 6 DL.nd) De)))) (Ct (CF 7 DL.nd Kz) (Ct (Fg BB rfl (Iw T.b_range (Cm (CD DQ hr_law_take (Cm (Cn 0) (Cm (CQ DB (Cn 2) Cv) Cq))) Cq)) (Cw 8 DL.nd) (Ct (CF 9 DL.nd (Dp DM T.b_tuple B3 (Cm (ED ["_law_column","_law_values"] [(0,"_law_hand_here")] (by exact Gk (Cu E8) rfl rfl ⟨rfl,by symm,by symm,by symm⟩ ⟨⟨rfl,.inl rfl,.inl rfl⟩,True.intro⟩) (Dm (Cn 5)) (JF (EM CS (EM CS IA))) (λ_ _ _ _ _=>Du rfl (CB (Cw 0 (show(["_law_column","_law_values","_law_hand_here"]:List Str).Nodup by symm)) (CB (Cw 1 (show(["_law_column","_law_values","_law_hand_here"]:List Str).Nodup by symm)) De))) (λ_ _ _ _ _=>DJ) (λ_ _ _ _ _=>CD FY hr_law_pick (Cm (Cn 2) (Cm (Cn 1) Cq)))) Cq))) (CC (EY (Cn 9) (Lf hr.units (Cn 7) (Fz (Cn 9) Fx (FA (Cn 6)))))))) (CC (Ig (IB (Cn 3) (Cm (Dp DM T.b_tuple B3 (Cm (Vw hr.units rfl T.b_sorted (Cn 7)) Cq)) Cq))))))) (CC (CG (Dp DM T.b_tuple B3 (Cm (Cn 3) Cq)))))
 have c:=J1 10 3 F DL rfl rfl b
 exact c
def Ef:CL ["_law_hand_here","_law_names","_law_words_here","_law_stock","_law_more","_law_first","_law_second"] ["_law_hand_here"] (Cu Gv):=by rfl'
def Lu {f:Addr}{fd:FuncData}(F:Fun K "_law_tables" "_law_tables" Gv f fd)(T:Tx K mg)(HY:Cal P w K mg base 3 "_law_words" EN 3)(DQ:Cal P w K mg base 1 "_law_take" C8 2):DU P w K mg base CX0 4 f fd ["_law_hand_here"] (spF ⟨K,P,w⟩ E1 1):=by
 have b:BO P w K mg base 3 "_law_tables" Gv f ["_law_hand_here","_law_names","_law_words_here","_law_stock","_law_more","_law_first","_law_second"] Hz:=λcdv A outer s H E hr=>by
  have hr_law_words:Room 3 _:=hr.mono (by decide)
  have hr_law_take:Room 1 _:=hr.mono (by decide)
  exact Ct (CF 1 Ef.nd (CD HY hr_law_words (Cm (Cn 0) (Cm Cv (Cm Cv Cq))))) (Ct (CF 2 Ef.nd (CD HY hr_law_words (Cm (Cn 0) (Cm Cv (Cm Cv Cq))))) (Ct (CF 3 Ef.nd (Dp DM T.b_tuple B3 (Cm (CD HY hr_law_words (Cm (Cn 0) (Cm (CQ DB Cv (CD DQ hr_law_take (Cm (Cn 0) (Cm Cv Cq)))) (Cm Cv Cq)))) Cq))) (Ct (CF 4 Ef.nd (Fz (SS (Cn 3)) Fx (FA (CQ DB Cv (CD DQ hr_law_take (Cm (Cn 0) (Cm (DD GD T.b_len boot_len (Cm (Cn 3) Cq)) Cq))))))) (Ct (CF 5 Ef.nd (CK (Cm (CI (Dd hr.units) (Cn 1) Cv) (Cm (CK (Cm (CK (Cm (CI (Dd hr.units) (Cn 2) Cv) (Cm (Fz (Cn 3) Fx (FA Cv)) Cq))) (Cm (CK (Cm (CI (Dd hr.units) (Cn 2) Cv) (Cm (Cn 3) Cq))) Cq))) (Cm Cv Cq))))) (Ct (CF 6 Ef.nd (CK (Cm (CI (Dd hr.units) (Cn 1) Cv) (Cm (CK (Cm (CK (Cm (CI (Dd hr.units) (Cn 2) Cv) (Cm (Cn 4) Cq))) (Cm (CK (Cm (CI (Dd hr.units) (Cn 2) Cv) (Cm (Fz (Cn 3) Fx (FA Cv)) Cq))) Cq))) (Cm Cv Cq))))) (CC (CG (CK (Cm (Dp DM T.b_tuple B3 (Cm (DD (JW hr.units rfl) T.b_sorted boot_sorted (Cm (JS (Cm (Cn 5) (Cm (Cn 6) Cq))) Cq)) Cq)) (Cm (Cn 1) (Cm (Cn 2) Cq)))))))))))
 have c:=Dx 7 1 F Ef rfl rfl b
 exact c
def FD:CL ["_law_names","_law_words_here","_law_named","_law_there","_law_other","_law_twice"] ["_law_names","_law_words_here"] (Cu GV):=by rfl'
def Mh {f:Addr}{fd:FuncData}(F:Fun K "_law_rules" "_law_rules" GV f fd)(T:Tx K mg) :DU P w K mg base CX0 1 f fd ["_law_names","_law_words_here"] (spF ⟨K,P,w⟩ Fq 2):=by
 have b:BO P w K mg base 0 "_law_rules" GV f ["_law_names","_law_words_here","_law_named","_law_there","_law_other","_law_twice"] Ib:=λcdv A outer s H E hr=>by
  exact Ct (CF 2 FD.nd (CK (Cm CW (Cm (CK (Cm CW (Cm (CI (Dd hr.units) (Cn 0) Cv) Cq))) (Cm (CK (Cm (CI (Dd hr.units) (Cn 1) Cv) Cq)) Cq))))) (Ct (CF 3 FD.nd (CK (Cm CW (Cm (CK (Cm CW (Cm (CK (Cm CW (Cm (CI (Dd hr.units) (Cn 0) Cv) Cq))) (Cm (CK (Cm (CI (Dd hr.units) (Cn 1) Cv) Cq)) Cq)))) (Cm (CK (Cm (CK (Cm (CI (Dd hr.units) (Cn 1) Cv) (Cm (CI (Dd hr.units) (Cn 1) Cv) Cq))) Cq)) Cq))))) (Ct (CF 4 FD.nd (CK (Cm CW (Cm (CK (Cm CW (Cm (CI (Dd hr.units) (Cn 0) Cv) Cq))) (Cm (CK (Cm (CK (Cm (CI (Dd hr.units) (Cn 1) Cv) (Cm CW Cq))) Cq)) Cq))))) (Ct (CF 5 FD.nd (CK (Cm CW (Cm (CK (Cm CW (Cm (CK (Cm CW (Cm (CI (Dd hr.units) (Cn 0) Cv) Cq))) (Cm (Cn 4) Cq)))) (Cm (CK (Cm (CK (Cm CW (Cm (CI (Dd hr.units) (Cn 1) Cv) (Cm CW Cq)))) Cq)) Cq))))) (CC (CG (CK (Cm (CK (Cm CW (Cm (CK (Cm CW (Cm (Cn 2) (Cm (Cn 3) Cq)))) Cq))) (Cm (CK (Cm CW (Cm (Cn 5) Cq))) (Cm (CK (Cm CW (Cm (CK (Cm CW (Cm (Cn 3) (Cm (Cn 2) Cq)))) Cq))) Cq)))))))))
 have c:=Dx 6 2 F FD rfl rfl b
 exact c
def F0:CL ["_law_schema","_law_filling_here","_law_names","_law_tables_here","_law_named","_law_there","_law_lacking","_law_twice"] ["_law_schema","_law_filling_here","_law_names"] (Cu Ey):=by rfl'
def OO {f:Addr}{fd:FuncData}(F:Fun K "_law_due" "_law_due" Ey f fd)(T:Tx K mg) :DU P w K mg base CX0 1 f fd ["_law_schema","_law_filling_here","_law_names"] (spF ⟨K,P,w⟩ GC 3):=by
 have b:BO P w K mg base 0 "_law_due" Ey f ["_law_schema","_law_filling_here","_law_names","_law_tables_here","_law_named","_law_there","_law_lacking","_law_twice"] J9:=λcdv A outer s H E hr=>by
  exact Ct (CF 3 F0.nd (Dp (J5 hr.units rfl) T.b_dict (by symm) (Cm (ED ["_law_table","_law_rows"] [] (by exact Gk (Cu Ey) rfl rfl ⟨rfl,by symm,by symm,by symm⟩ True.intro) (NX T.b_zip (Cm (Cn 0) (Cm (Cn 1) Cq))) (JF (EM CS (EM CS IA))) (λ_ _ _ _ _=>Du rfl (CB (Cw 0 (show(["_law_table","_law_rows"]:List Str).Nodup by symm)) (CB (Cw 1 (show(["_law_table","_law_rows"]:List Str).Nodup by symm)) De))) (λ_ _ _ _ _=>DJ) (λ_ _ _ _ _=>CK (Cm (CI (Dd hr.units) (Cn 0) Cv) (Cm (Cn 1) Cq)))) Cq))) (Ct (CF 4 F0.nd (ED ["_law_row"] [] (by exact Gk (Cu Ey) rfl rfl ⟨rfl,by symm,by symm,by symm⟩ True.intro) (Dm (CI (Dd hr.units) (Cn 3) (CI (Dd hr.units) (Cn 2) Cv))) CS (λ_ _ _ _ _=>Cw 0 (show(["_law_row"]:List Str).Nodup by symm)) (λ_ _ _ _ _=>DJ) (λ_ _ _ _ _=>CI (Dd hr.units) (Cn 0) Cv))) (Ct (CF 5 F0.nd (ED ["_law_row"] [] (by exact Gk (Cu Ey) rfl rfl ⟨rfl,by symm,by symm,by symm⟩ True.intro) (Dm (CI (Dd hr.units) (Cn 3) (CI (Dd hr.units) (Cn 2) Cv))) CS (λ_ _ _ _ _=>Cw 0 (show(["_law_row"]:List Str).Nodup by symm)) (λ_ _ _ _ _=>DJ) (λ_ _ _ _ _=>CI (Dd hr.units) (Cn 0) Cv))) (Ct (CF 6 F0.nd (DD (JH rfl) T.b_any boot_any (Cm (ED ["_law_one"] [(5,"_law_there")] (by exact Gk (Cu Ey) rfl rfl ⟨rfl,by symm,by symm,by symm⟩ ⟨⟨rfl,.inl rfl,.inl rfl⟩,True.intro⟩) (Dm (Cn 4)) CS (λ_ _ _ _ _=>Cw 0 (show(["_law_one","_law_there"]:List Str).Nodup by symm)) (λ_ _ _ _ _=>DJ) (λ_ _ _ _ _=>Jd (Ky hr.units) (Cn 0) (Cn 1))) Cq))) (Ct (CF 7 F0.nd (DD (JH rfl) T.b_any boot_any (Cm (ED ["_law_one"] [(4,"_law_named")] (by exact Gk (Cu Ey) rfl rfl ⟨rfl,by symm,by symm,by symm⟩ ⟨⟨rfl,.inl rfl,.inl rfl⟩,True.intro⟩) (Dm (Cn 4)) CS (λ_ _ _ _ _=>Cw 0 (show(["_law_one","_law_named"]:List Str).Nodup by symm)) (λ_ _ _ _ _=>DJ) (λ_ _ _ _ _=>Jd Pu (Rk hr.units (Cn 1) (Cm (Cn 0) Cq)) Cv)) Cq))) (CC (CG (Yi hr.units (KI CW (Cn 6) (KI CW (Cn 7) (KI CW (DD (JH rfl) T.b_any boot_any (Cm (ED ["_law_one"] [(4,"_law_named")] (by exact Gk (Cu Ey) rfl rfl ⟨rfl,by symm,by symm,by symm⟩ ⟨⟨rfl,.inl rfl,.inl rfl⟩,True.intro⟩) (Dm (Cn 5)) CS (λ_ _ _ _ _=>Cw 0 (show(["_law_one","_law_named"]:List Str).Nodup by symm)) (λ_ _ _ _ _=>DJ) (λ_ _ _ _ _=>Jd (Ky hr.units) (Cn 0) (Cn 1))) Cq)) Up))))))))))
 have c:=J1 8 3 F F0 rfl rfl b
 exact c
def Gy:CL ["_law_schema","_law_filling_here","_law_names","_law_rules_here","_law_due_here","_law_rule","_law_some"] ["_law_schema","_law_filling_here","_law_names","_law_rules_here"] (Cu Gd):=by rfl'
def MG {f:Addr}{fd:FuncData}(F:Fun K "_law_right" "_law_right" Gd f fd)(T:Tx K mg)(QF:Cal P w K mg base 1 "_law_due" GC 3)(Od:Cal P w K mg base 26 "broken" Fc 3):DU P w K mg base CX0 27 f fd ["_law_schema","_law_filling_here","_law_names","_law_rules_here"] (spF ⟨K,P,w⟩ EK 4):=by
 have b:BO P w K mg base 26 "_law_right" Gd f ["_law_schema","_law_filling_here","_law_names","_law_rules_here","_law_due_here","_law_rule","_law_some"] HV:=λcdv A outer s H E hr=>by
  have hr_law_due:Room 1 _:=hr.mono (by decide)
  have hr_broken:Room 26 _:=hr.mono (by decide)
  exact Ct (CF 4 Gy.nd (CD QF hr_law_due (Cm (Cn 0) (Cm (Cn 1) (Cm (Cn 2) Cq))))) (Ct (Fg BB rfl (Dm (Cn 3)) (Cw 5 Gy.nd) (CC (Em (Dg (M5 hr.units) (CD Od hr_broken (Cm (Cn 0) (Cm (Cn 1) (Cm (CK (Cm (Cn 5) Cq)) Cq)))) (Hl (Ks (CI (Dd hr.units) (Cn 4) (CI (Dd hr.units) (Cn 5) Cv))) (CI (Dd hr.units) (Cn 5) Cv) KJ)) (CC (CG Om)) DN))) (Ct (Fg BB rfl (Dm (CK (Cm (Cn 3) (Cm (SS (Cn 3)) (Cm (Fz (Cn 3) (FA Cv) Fx) Cq))))) (Cw 6 Gy.nd) (CC (Em (Dg (M5 hr.units) (CD Od hr_broken (Cm (Cn 0) (Cm (Cn 1) (Cm (Cn 6) Cq)))) (CI (Dd hr.units) (CQ DB (ED ["_law_word","_law_look"] [(4,"_law_due_here")] (by exact Gk (Cu Gd) rfl rfl ⟨rfl,by symm,by symm,by symm⟩ ⟨⟨rfl,.inl rfl,.inl rfl⟩,True.intro⟩) (Dm (Cn 6)) (JF (EM CS (EM CS IA))) (λ_ _ _ _ _=>Du rfl (CB (Cw 0 (show(["_law_word","_law_look","_law_due_here"]:List Str).Nodup by symm)) (CB (Cw 1 (show(["_law_word","_law_look","_law_due_here"]:List Str).Nodup by symm)) De))) (λ_ _ _ _ _=>HF (Ks (CI (Dd hr.units) (Cn 2) (Cn 0)))) (λ_ _ _ _ _=>Cn 0)) (JS (Cm KJ Cq))) Cv)) (CC (CG Om)) DN))) (CC (CG Om))))
 have c:=Dx 7 4 F Gy rfl rfl b
 exact c
def EZ:CL ["_law_hand_here","_law_schema","_law_filling_here","_law_at","_law_row","_law_rows"] ["_law_hand_here","_law_schema","_law_filling_here"] (Cu D5):=by rfl'
def J3 {f:Addr}{fd:FuncData}(F:Fun K "_law_otherwise" "_law_otherwise" D5 f fd)(T:Tx K mg)(DQ:Cal P w K mg base 1 "_law_take" C8 2)(FY:Cal P w K mg base 2 "_law_pick" Dy 2):DU P w K mg base CX0 3 f fd ["_law_hand_here","_law_schema","_law_filling_here"] (spF ⟨K,P,w⟩ DO 3):=by
 have b:BO P w K mg base 2 "_law_otherwise" D5 f ["_law_hand_here","_law_schema","_law_filling_here","_law_at","_law_row","_law_rows"] Gn:=λcdv A outer s H E hr=>by
  have hr_law_take:Room 1 _:=hr.mono (by decide)
  have hr_law_pick:Room 2 _:=hr.mono (by decide)
  exact Ct (CF 3 EZ.nd (CD DQ hr_law_take (Cm (Cn 0) (Cm Cv Cq)))) (Ct (CF 4 EZ.nd (Dp DM T.b_tuple B3 (Cm (ED ["_law_column","_law_values"] [(0,"_law_hand_here")] (by exact Gk (Cu D5) rfl rfl ⟨rfl,by symm,by symm,by symm⟩ ⟨⟨rfl,.inl rfl,.inl rfl⟩,True.intro⟩) (Dm (CI (Dd hr.units) (CI (Dd hr.units) (Cn 1) (Cn 3)) Cv)) (JF (EM CS (EM CS IA))) (λ_ _ _ _ _=>Du rfl (CB (Cw 0 (show(["_law_column","_law_values","_law_hand_here"]:List Str).Nodup by symm)) (CB (Cw 1 (show(["_law_column","_law_values","_law_hand_here"]:List Str).Nodup by symm)) De))) (λ_ _ _ _ _=>DJ) (λ_ _ _ _ _=>CD FY hr_law_pick (Cm (Cn 2) (Cm (Cn 1) Cq)))) Cq))) (Ct (CF 5 EZ.nd (CQ DB (ED ["_law_one"] [(4,"_law_row")] (by exact Gk (Cu D5) rfl rfl ⟨rfl,by symm,by symm,by symm⟩ ⟨⟨rfl,.inl rfl,.inl rfl⟩,True.intro⟩) (Dm (CI (Dd hr.units) (Cn 2) (Cn 3))) CS (λ_ _ _ _ _=>Cw 0 (show(["_law_one","_law_row"]:List Str).Nodup by symm)) (λ_ _ _ _ _=>HF (Dg (M5 hr.units) (CI (Dd hr.units) (Cn 0) Cv) (CI (Dd hr.units) (Cn 1) Cv))) (λ_ _ _ _ _=>Cn 0)) (JS (Cm (Cn 4) Cq)))) (CC (CG (CQ DB (CQ DB (Fz (Cn 2) Fx (FA (Cn 3))) (CK (Cm (Dp DM T.b_tuple B3 (Cm (DD (JW hr.units rfl) T.b_sorted boot_sorted (Cm (Cn 5) Cq)) Cq)) Cq))) (Fz (Cn 2) (FA (CQ DB (Cn 3) Cv)) Fx))))))
 have c:=Dx 6 3 F EZ rfl rfl b
 exact c
def G5:CL ["_law_script","_law_k","_law_hand_here","_law_schema","_law_names","_law_words_here","_law_rules_here","_law_filling_here","_law_turn"] ["_law_script"] (Cu KA):=by rfl'
def YJ {f:Addr}{fd:FuncData}(F:Fun K "law" "law" KA f fd)(T:Tx K mg)(OD:Cal P w K mg base 1 "_law_hand" Fi 2)(Mq:Cal P w K mg base 4 "_law_tables" E1 1)(NQ:Cal P w K mg base 1 "_law_rules" Fq 2)(LB:Cal P w K mg base 3 "_law_filling" Ee 3)(N1:Cal P w K mg base 27 "_law_right" EK 4)(Ko:Cal P w K mg base 3 "_law_otherwise" DO 3):DU P w K mg base CX0 28 f fd ["_law_script"] (spF ⟨K,P,w⟩ LP 1):=by
 have b:BO P w K mg base 27 "law" KA f ["_law_script","_law_k","_law_hand_here","_law_schema","_law_names","_law_words_here","_law_rules_here","_law_filling_here","_law_turn"] RC:=λcdv A outer s H E hr=>by
  have hr_law_hand:Room 1 _:=hr.mono (by decide)
  have hr_law_tables:Room 4 _:=hr.mono (by decide)
  have hr_law_rules:Room 1 _:=hr.mono (by decide)
  have hr_law_filling:Room 3 _:=hr.mono (by decide)
  have hr_law_right:Room 27 _:=hr.mono (by decide)
  have hr_law_otherwise:Room 3 _:=hr.mono (by decide)
  exact Ct (Fg BB rfl (Iw T.b_range (Cm (DD (QN rfl) T.b_max boot_max (Cm Cv (Cm (DD (ID rfl) T.b_min boot_min (Cm Cv (Cm (DD GD T.b_len boot_len (Cm (Cn 0) Cq)) Cq))) Cq))) Cq)) (Cw 1 G5.nd) (Ct (CF 2 G5.nd (CD OD hr_law_hand (Cm (Cn 0) (Cm (Cn 1) Cq)))) (Ct (EY (CD Mq hr_law_tables (Cm (Cn 2) Cq)) (Du rfl (CB (Cw 3 G5.nd) (CB (Cw 4 G5.nd) (CB (Cw 5 G5.nd) De))))) (Ct (CF 6 G5.nd (CD NQ hr_law_rules (Cm (Cn 4) (Cm (Cn 5) Cq)))) (Ct (CF 7 G5.nd (CD LB hr_law_filling (Cm (Cn 2) (Cm (Cn 3) (Cm Cv Cq))))) (CC (Fg BB rfl (Iw T.b_range (Cm Cv Cq)) (Cw 8 G5.nd) (Ct (Em (VJ (Ks (CD N1 hr_law_right (Cm (Cn 3) (Cm (Cn 7) (Cm (Cn 4) (Cm (Cn 6) Cq))))))) (CC (CG Om)) DN) (CC (CF 7 G5.nd (CD Ko hr_law_otherwise (Cm (Cn 2) (Cm (Cn 3) (Cm (Cn 7) Cq)))))))))))))) (CC (CG Om))
 have c:=Dx 9 1 F G5 rfl rfl b
 exact c
end
end PG
namespace PV
open PySem L2 PyProof.Rows
section
variable {α β:Type}{ro:Ro}{mu:Sto}{d e:D}{a b c:Ex}{i:Nat}{o:Option D}
@[simp] theorem Kh {x:α}{m:Sto}{f:α->Sto->Rs β}:bM (some (x,m)) f=f x m:=rfl
@[simp] theorem AbM:Cp 0 (some d::ro) mu=some (d,mu):=rfl
@[simp] theorem Abz {x1}:Cp 1 (x1::some d::ro) mu=some (d,mu):=rfl
@[simp] theorem Abb {x1 x2}:Cp 2 (x1::x2::some d::ro) mu=some (d,mu):=rfl
@[simp] theorem AaP {x1 x2 x3}:Cp 3 (x1::x2::x3::some d::ro) mu=some (d,mu):=rfl
@[simp] theorem AaZ {x1 x2 x3 x4}:Cp 4 (x1::x2::x3::x4::some d::ro) mu=some (d,mu):=rfl
@[simp] theorem AaT {x1 x2 x3 x4 x5}:Cp 5 (x1::x2::x3::x4::x5::some d::ro) mu=some (d,mu):=rfl
@[simp] theorem AbK {x1 x2 x3 x4 x5 x6}:Cp 6 (x1::x2::x3::x4::x5::x6::some d::ro) mu=some (d,mu):=rfl
@[simp] theorem Abr {x1 x2 x3 x4 x5 x6 x7}:Cp 7 (x1::x2::x3::x4::x5::x6::x7::some d::ro) mu=some (d,mu):=rfl
@[simp] theorem AbL {x1 x2 x3 x4 x5 x6 x7 x8}:Cp 8 (x1::x2::x3::x4::x5::x6::x7::x8::some d::ro) mu=some (d,mu):=rfl
@[simp] theorem AaX {x1 x2 x3 x4 x5 x6 x7 x8 x9}:Cp 9 (x1::x2::x3::x4::x5::x6::x7::x8::x9::some d::ro) mu=some (d,mu):=rfl
@[simp] theorem ZR {x1 x2 x3 x4 x5 x6 x7 x8 x9 x10}:Cp 10 (x1::x2::x3::x4::x5::x6::x7::x8::x9::x10::some d::ro) mu=some (d,mu):=rfl
@[simp] theorem AaG {x1 x2 x3 x4 x5 x6 x7 x8 x9 x10 x11}:Cp 11 (x1::x2::x3::x4::x5::x6::x7::x8::x9::x10::x11::some d::ro) mu=some (d,mu):=rfl
@[simp] theorem Zx {x1 x2 x3 x4 x5 x6 x7 x8 x9 x10 x11 x12}:Cp 12 (x1::x2::x3::x4::x5::x6::x7::x8::x9::x10::x11::x12::some d::ro) mu=some (d,mu):=rfl
@[simp] theorem Aaf {x1 x2 x3 x4 x5 x6 x7 x8 x9 x10 x11 x12 x13}:Cp 13 (x1::x2::x3::x4::x5::x6::x7::x8::x9::x10::x11::x12::x13::some d::ro) mu=some (d,mu):=rfl
@[simp] theorem ZJ {x1 x2 x3 x4 x5 x6 x7 x8 x9 x10 x11 x12 x13 x14}:Cp 14 (x1::x2::x3::x4::x5::x6::x7::x8::x9::x10::x11::x12::x13::x14::some d::ro) mu=some (d,mu):=rfl
@[simp] theorem ZE {x1 x2 x3 x4 x5 x6 x7 x8 x9 x10 x11 x12 x13 x14 x15}:Cp 15 (x1::x2::x3::x4::x5::x6::x7::x8::x9::x10::x11::x12::x13::x14::x15::some d::ro) mu=some (d,mu):=rfl
@[simp] theorem z_C:eC d ro mu=some (d,mu):=rfl
@[simp] theorem ZN {g:D->D->Sto->Rs D}:Cz g a b ro mu=bM (a ro mu) λx m1=>bM (b ro m1) λy m2=>g x y m2:=rfl
@[simp] theorem Aa9 {g:D->Sto->Rs D}:e1 g a ro mu=bM (a ro mu) λx m1=>g x m1:=rfl
@[simp] theorem Aby:tV a ro mu=bM (a ro mu) λx m1=>(asB x).map λb=>(b,m1):=rfl
@[simp] theorem Zn {x:Bool}:asB (.bl x)=some x:=rfl
@[simp] theorem Aaa {t:Tx}:tNt t ro mu=bM (t ro mu) λb m1=>some (!b,m1):=rfl
@[simp] theorem Aam {t u:Tx}:tAn t u ro mu=bM (t ro mu) λx m1=>if x=true then u ro m1 else some (false,m1):=rfl
@[simp] theorem Abo {t u:Tx}:tO t u ro mu=bM (t ro mu) λx m1=>if x=true then some (true,m1) else u ro m1:=rfl
@[simp] theorem SJ:tY ro mu=some (true,mu):=rfl
def anB (b:Ex)(ro:Ro):D->Sto->Rs D
 |.bl c,m1=>if c=true then b ro m1 else some (.bl false,m1)
 |_,_=>none
def oB (b:Ex)(ro:Ro):D->Sto->Rs D
 |.bl c,m1=>if c=true then some (.bl true,m1) else b ro m1
 |_,_=>none
def Abp:eAn a b ro mu=bM (a ro mu) (anB b ro):=by
 unfold eAn
 congr 1
 funext x m
 cases x<;>rfl
def z_o:eO a b ro mu=bM (a ro mu) (oB b ro):=by
 unfold eO
 congr 1
 funext x m
 cases x<;>rfl
@[simp] theorem Zr:eAn a b ro mu=bM (a ro mu) (anB b ro):=Abp
@[simp] theorem Aa3:eO a b ro mu=bM (a ro mu) (oB b ro):=z_o
@[simp] theorem Zb {x:Bool}:anB b ro (.bl x) mu=if x=true then b ro mu else some (.bl false,mu):=rfl
@[simp] theorem Abn {x:Bool}:oB b ro (.bl x) mu=if x=true then some (.bl true,mu) else b ro mu:=rfl
def ntB:D->Sto->Rs D
 |.bl c,m1=>some (.bl (!c),m1)
 |_,_=>none
@[simp] theorem AbO:eNt a ro mu=bM (a ro mu) ntB:=by
 unfold eNt
 congr 1
 funext x m
 cases x<;>rfl
@[simp] theorem Z3 {x:Bool}:ntB (.bl x) mu=some (.bl (!x),mu):=rfl
@[simp] theorem AbR {t:Tx}:eIf t a b ro mu=bM (t ro mu) λx m1=>if x=true then a ro m1 else b ro m1:=rfl
@[simp] theorem Us:Cr ro mu=some ([],mu):=rfl
@[simp] theorem UX {r:Exs}:Co a r ro mu=bM (a ro mu) λx m1=>bM (r ro m1) λxs m2=>some (x::xs,m2):=rfl
@[simp] theorem AaE {r:Exs}:Dq r ro mu=bM (r ro mu) λxs m1=>some (.tup xs,m1):=rfl
@[simp] theorem ZS {r:Exs}:Li r ro mu=bM (r ro mu) λxs m1=>some (.lst xs,m1):=rfl
@[simp] theorem WI {r:Exs}:GX r ro mu=bM (r ro mu) λxs m1=>some (.ref m1.length,m1++[.lst xs]):=rfl
@[simp] theorem XD:Zm ro mu=some (.dct [] [],mu):=rfl
@[simp] theorem XA:Le ro mu=some (.ref mu.length,mu++[.dct [] []]):=rfl
@[simp] theorem XH {f:Fn}{r:Exs}:CA f r ro mu=bM (r ro mu) λxs m1=>f xs m1:=rfl
@[simp] theorem Aad:sNx ro mu=some ((.nx,ro),mu):=rfl
def YX (b:Sx):Fl×Ro->Sto->Rs (Fl×Ro)
 |(.nx,ro),m1=>b ro m1
 |p,m1=>some (p,m1)
@[simp] theorem AaH {s t:Sx}:CN s t ro mu=bM (s ro mu) (YX t):=by
 unfold CN
 congr 1
 funext p m
 obtain⟨f,r⟩:=p
 cases f<;>rfl
@[simp] theorem WU {t:Sx}:YX t (.nx,ro) mu=t ro mu:=rfl
@[simp] theorem WO {t:Sx}:YX t (.rt d,ro) mu=some ((.rt d,ro),mu):=rfl
@[simp] theorem Abw:sRt a ro mu=bM (a ro mu) λd m1=>some ((.rt d,ro),m1):=rfl
@[simp] theorem XT:sEx a ro mu=bM (a ro mu) λ_ m1=>some ((.nx,ro),m1):=rfl
@[simp] theorem Ts {t:Tx}{s u:Sx}:sIf t s u ro mu=bM (t ro mu) λx m1=>if x=true then s ro m1 else u ro m1:=rfl
@[simp] theorem ZQ {i:Nat}:gNm i d ro mu=some (ro.set i (some d),mu):=rfl
@[simp] theorem Zu:C0 [] ro mu=some (ro,mu):=rfl
@[simp] theorem Aaj {g:Gx}{r:Gxs}{ds:List D}:Cy g r (d::ds) ro mu=bM (g d ro mu) λro' m1=>r ds ro' m1:=rfl
@[simp] theorem XS {r:Gxs}{x y:D}:gTp 2 r (.tup [x,y]) ro mu=r [x,y] ro mu:=rfl
@[simp] theorem YK {r:Gxs}{x y z:D}:gTp 3 r (.tup [x,y,z]) ro mu=r [x,y,z] ro mu:=rfl
@[simp] theorem Xg {r:Gxs}{x y z u:D}:gTp 4 r (.tup [x,y,z,u]) ro mu=r [x,y,z,u] ro mu:=rfl
@[simp] theorem ZG {g:Gx}:CT a g ro mu=bM (a ro mu) λd m1=>bM (g d ro m1) λro' m2=>some ((.nx,ro'),m2):=rfl
@[simp] theorem YR {i j:Nat}{r:Exs}:Abd i j r ro mu=bM (r ro mu) λds m1=>match ds with|[x,y]=>some ((.nx,(ro.set i (some x)).set j (some y)),m1)|_=>none:=rfl
@[simp] theorem WR {i j k:Nat}{r:Exs}:Zs i j k r ro mu=bM (r ro mu) λds m1=>match ds with|[x,y,z]=>some ((.nx,((ro.set i (some x)).set j (some y)).set k (some z)),m1)|_=>none:=rfl
def Xc:Fl×Ro->Sto->Rs D
 |(.rt d,_),m1=>some (d,m1)
 |(.nx,_),m1=>some (.non,m1)
 |_,_=>none
def ZT {n:Nat}{m:Sx}{ds:List D}:fnB n m ds mu=bM (m (ds.map some++List.replicate (n-ds.length) none) mu) Xc:=by
 unfold fnB
 congr 1
 funext p q
 obtain⟨f,r⟩:=p
 cases f<;>rfl
@[simp] theorem WM:Xc (.rt d,ro) mu=some (d,mu):=rfl
@[simp] theorem Xy:Xc (.nx,ro) mu=some (.non,mu):=rfl
def Z8 (m0:Sto):Fl×Ro->Sto->Rs D
 |(.rt d,_),m1=>JI m0 m1 d
 |(.nx,_),m1=>JI m0 m1 .non
 |_,_=>none
def ZL {n:Nat}{m:Sx}{ds:List D}:fnG n m ds mu=bM (m (ds.map some++List.replicate (n-ds.length) none) mu) (Z8 mu):=by
 unfold fnG
 congr 1
 funext p q
 obtain⟨f,r⟩:=p
 cases f<;>rfl
@[simp] theorem UJ {m0:Sto}:Z8 m0 (.rt d,ro) mu=JI m0 mu d:=rfl
@[simp] theorem Aar {x:Ix}{g:Gx}{s:Sx}:IJ x g s ro mu=bM (x ro mu) λp m1=>GJ p.2 m1 g s p.1 ro m1:=rfl
def HL (m1:Sto):D->Rs (List D×Option Nat)
 |.tup ds=>some ((ds,none),m1)
 |.lst ds=>some ((ds,none),m1)
 |.str x=>some ((chars x,none),m1)
 |.ref k=>match m1[k]? with
  |some (.lst ds)=>some ((ds,some k),m1)
  |_=>none
 |_=>none
@[simp] theorem Zh:EC a ro mu=bM (a ro mu) λd m1=>HL m1 d:=by
 unfold EC
 congr 1
@[simp] theorem Aba {ds:List D}:HL mu (.tup ds)=some ((ds,none),mu):=rfl
@[simp] theorem Abq {ds:List D}:HL mu (.lst ds)=some ((ds,none),mu):=rfl
@[simp] theorem AaV {x:Str}:HL mu (.str x)=some ((chars x,none),mu):=rfl
def Va {r:Exs}{n:Int}{m:Sto}(h:r ro mu=some ([.int n],m))(h0:-(2 ^ 62)<=n)(h1:n<=(sizeLine:Int)):iRg r ro mu=some ((G9 0 n.toNat,none),m):=by
 unfold iRg
 rw[h]
 simp only[bM,Sy]
 rw[if_pos ⟨h0,h1⟩]
@[simp] theorem AbN {x:Ix}{nc:Nat}{fv:List Nat}{g:Gx}{t:Tx}:eLC x nc fv g t a ro mu=bM (x ro mu) λp m1=>bM (FO p.2 m1 g t a (r0 nc fv ro) p.1 m1) λys m2=>some (.lst ys,m2):=rfl
@[simp] theorem Abx {nc:Nat}{fv:List Nat}:r0 nc fv ro=List.replicate nc none++fv.map λk=>ro.getD k none:=rfl
@[simp] theorem Uv {g g':D->D->Sto->Rs D}{c:Ex}:X6 g g' a b c ro mu=bM (a ro mu) λx m1=>bM (b ro m1) λy m2=>bM (g x y m2) λz m3=>match asB z with|none=>none|some k=>if k=true then bM (c ro m3) λw' m4=>g' y w' m4 else some (.bl false,m3):=rfl
@[simp] theorem Z7 {i j:Int}:leD (.int i) (.int j) mu=some (.bl (decide (i<=j)),mu):=rfl
@[simp] theorem Z5 {i j:Str}:leD (.str i) (.str j) mu=some (.bl (!decide (j.cps.toList<i.cps.toList)),mu):=rfl
@[simp] theorem Aai {i j:Int}:geD (.int i) (.int j) mu=some (.bl (decide (j<=i)),mu):=rfl
@[simp] theorem Zj {i j:Int}:gtD (.int i) (.int j) mu=some (.bl (decide (j<i)),mu):=rfl
@[simp] theorem Aas {i j:Int}:ltG (.int i) (.int j) mu=some (.bl (decide (i<j)),mu):=by
 unfold ltG
 rw[if_pos (by simp[toPy,PyData.depth])]
 rfl
@[simp] theorem Aaz {i j:Str}:ltG (.str i) (.str j) mu=some (.bl (decide (i.cps.toList<j.cps.toList)),mu):=by
 unfold ltG
 rw[if_pos (by simp[toPy,PyData.depth])]
 rfl
@[simp] theorem YN {i j:Int}:DR (.int i) (.int j) mu=some (.int (i+j),mu):=rfl
@[simp] theorem Xs {i j:Int}:TQ (.int i) (.int j) mu=some (.int (i-j),mu):=rfl
def M6 {i j:Int}(h:0<j):Jn (.int i) (.int j) mu=some (.int (i % j),mu):=by unfold Jn;dsimp only;rw[if_pos h]
@[simp] theorem Aal {ds:List D}:NS [.tup ds] mu=some (.int ds.length,mu):=rfl
@[simp] theorem ZF {ds:List D}:NS [.lst ds] mu=some (.int ds.length,mu):=rfl
@[simp] theorem Y6 {x:Str}:NS [.str x] mu=some (.int x.length,mu):=rfl
@[simp] theorem Xx {ds:List D}:II [.tup ds] mu=some (.int ds.length,mu):=rfl
@[simp] theorem WB {ds:List D}:II [.lst ds] mu=some (.int ds.length,mu):=rfl
@[simp] theorem YU {x:Str}:II [.str x] mu=some (.int x.length,mu):=rfl
@[simp] theorem Yh {ds:List D}:II [.set ds] mu=some (.int ds.length,mu):=rfl
@[simp] theorem Xl {ds:List D}:GA [.lst ds] mu=some (.tup ds,mu):=rfl
@[simp] theorem WS {ds:List D}:GA [.tup ds] mu=some (.tup ds,mu):=rfl
@[simp] theorem Xi {ds:List D}:Abs [.tup ds] mu=some (.lst ds,mu):=rfl
def V1 (h:eqB mu d e=some r):eqD d e mu=some (.bl r,mu):=by unfold eqD;rw[h];rfl
@[simp] theorem Wf {i j:Int}:eqD (.int i) (.int j) mu=some (.bl (decide (i=j)),mu):=by
 refine V1 ?_
 unfold eqB
 rw[if_pos (by simp[seen,Dl,toPy,PyData.depth])]
 simp only[seen,toPy,PyData.eqv]
 rfl
@[simp] theorem AaF {i j:Int}:neD (.int i) (.int j) mu=some (.bl (!decide (i=j)),mu):=by
 have:=@Wf mu i j
 unfold eqD at this
 unfold neD
 cases e:eqB mu (.int i) (.int j) with
 |none=>rw[e] at this;cases this
 |some r=>rw[e] at this;cases this;rfl
@[simp] theorem Aah {i j:Bool}:neD (.bl i) (.bl j) mu=some (.bl (i != j),mu):=by
 unfold neD eqB
 rw[if_pos (by simp[seen,Dl,toPy,PyData.depth])]
 simp only[seen,toPy,PyData.eqv]
 cases i<;>cases j<;>rfl
@[simp] theorem Y3 {i j:Str}:eqD (.str i) (.str j) mu=some (.bl (decide (i=j)),mu):=by
 refine V1 ?_
 unfold eqB
 rw[if_pos (by simp[seen,Dl,toPy,PyData.depth])]
 simp only[seen,toPy,PyData.eqv]
 rfl
@[simp] theorem WG {ds:List D}:ixG (.tup (d::ds)) (.int 0) mu=some (d,mu):=by
 have:ixD (.tup (d::ds)) (.int 0) mu=some (d,mu):=by simp[ixD,atI,ixN]
 unfold ixG
 rw[this]
@[simp] theorem T7 {ds:List D}{x:D}:ixG (.tup (x::d::ds)) (.int 1) mu=some (d,mu):=by
 have:ixD (.tup (x::d::ds)) (.int 1) mu=some (d,mu):=by
  have h:(1:Int)<((x::d::ds).length:Int):=by simp;ext
  simp only[ixD,atI,ixN,h,if_true]
  rfl
 unfold ixG
 rw[this]
@[simp] theorem Yu {ds:List D}{x y:D}:ixG (.tup (x::y::d::ds)) (.int 2) mu=some (d,mu):=by
 have:ixD (.tup (x::y::d::ds)) (.int 2) mu=some (d,mu):=by
  have h:(2:Int)<((x::y::d::ds).length:Int):=by simp;ext
  simp only[ixD,atI,ixN,h,if_true]
  rfl
 unfold ixG
 rw[this]
@[simp] theorem Xp {ds:List D}:ixG (.lst (d::ds)) (.int 0) mu=some (d,mu):=by
 have:ixD (.lst (d::ds)) (.int 0) mu=some (d,mu):=by simp[ixD,atI,ixN,DW]
 unfold ixG
 rw[this]
def Fv {ds:List D}{j:Nat}(s:D)(hs:s=.lst ds\/s=.tup ds)(h:ds[j]?=some d):ixG s (.int j) mu=some (d,mu):=by
 obtain⟨hl,e⟩:=Ad.mp h
 have a:atI ds (j:Int)=some d:=by
  unfold atI ixN
  rw[if_pos (by ext),if_pos (by ext)]
  simpa using h
 unfold ixG
 rcases hs with rfl|rfl<;>simp[ixD,DW,a]
def V3 {bs:List Bool}:Qz [.lst (bs.map D.bl)] mu=some (.bl (bs.all id),mu):=by
 have:IP (bs.map D.bl)=some bs:=by
  induction bs with
  |nil=>rfl
  |cons b bs ih=>simp[IP,ih]
 simp[Qz,quF,DW,this]
end
theorem Jx {m0:Sto}{tg:Gx}{tt:Tx}{el:Ex}{ro:Ro}{mu:Sto}(p:D->Bool)(g:D->D):∀ds:List D,(∀d∈ds,∃ro1,tg d ro mu=some (ro1,mu)/\tt ro1 mu=some (p d,mu)/\(p d=true->el ro1 mu=some (g d,mu)))->FO none m0 tg tt el ro ds mu=some ((ds.filter p).map g,mu)
 |[],_=>rfl
 |d::ds,h=>by
  obtain⟨ro1,e1,e2,e3⟩:=h d (.head _)
  have ih:=Jx (m0:=m0) p g ds λd' hd=>h d' (.tail _ hd)
  unfold FO
  rw[e1,CM,e2,CM]
  cases c:p d with
  |true=>rw[if_pos rfl,e3 c,CM,EA,if_pos (show gOk none m0 mu from True.intro),ih,CM,List.filter_cons_of_pos c,Ay]
  |false=>rw[if_neg AN,EA,if_pos (show gOk none m0 mu from True.intro),ih,List.filter_cons_of_neg (by simp[c])]
def HK {m0:Sto}{tg:Gx}{el:Ex}{ro:Ro}{mu:Sto}(g:D->D)(ds:List D)(h:∀d∈ds,∃ro1,tg d ro mu=some (ro1,mu)/\el ro1 mu=some (g d,mu)):FO none m0 tg tY el ro ds mu=some (ds.map g,mu):=by
 have:=Jx (m0:=m0) (tg:=tg) (tt:=tY) (el:=el) (ro:=ro) (mu:=mu) (λ_=>true) g ds λd hd=>by
  obtain⟨ro1,e1,e2⟩:=h d hd
  exact⟨ro1,e1,rfl,λ_=>e2⟩
 rw[this,List.filter_eq_self.mpr (λ_ _=>rfl)]
def Se {m0:Sto}{tg:Gx}{el:Ex}{ro:Ro}{mu:Sto}(g:D->Bool)(ds:List D)(h:∀d∈ds,∃ro1,tg d ro mu=some (ro1,mu)/\el ro1 mu=some (.bl (g d),mu)):FO none m0 tg tY el ro ds mu=some ((ds.map g).map D.bl,mu):=by
 rw[HK (λd=>.bl (g d)) ds h,A8]
 rfl
@[simp] theorem Xw {mu:Sto}{ds:List D}{g:D->Bool}:Qz [.lst ((ds.map g).map D.bl)] mu=some (.bl (ds.all g),mu):=by
 rw[V3,List.all_map]
 rfl
end PV
namespace K1
open PySem L2 PyProof.Rows
abbrev EF:Str:="abcdefghijklmnopqrstuvwxyz0123456789"
def Hh:EF.cps.toList.length=36:=by symm
def RV:EF.cps.toList.Nodup:=by symm
def Y7 (c:Nat)(n:Int)(h0:0<=n)(h7:n<=7):MulOk ⟨#[c]⟩ n:=by
 have e:n=0\/n=1\/n=2\/n=3\/n=4\/n=5\/n=6\/n=7:=by ext
 have l:(⟨#[c]⟩:Str).length=1:=rfl
 unfold MulOk
 rw[l]
 rcases e with rfl|rfl|rfl|rfl|rfl|rfl|rfl|rfl<;>decide
def mul_list (c:Nat)(n:Int)(h0:0<=n)(h7:n<=7):(Txt.mul ⟨#[c]⟩ n).cps.toList=List.replicate n.toNat c:=by
 have e:n=0\/n=1\/n=2\/n=3\/n=4\/n=5\/n=6\/n=7:=by ext
 rcases e with rfl|rfl|rfl|rfl|rfl|rfl|rfl|rfl<;>rfl
def TN {x:Str}{j:Int}(h0:0<=j)(h1:j<=x.length):(Txt.slice x none (some j)).cps.toList=x.cps.toList.take j.toNat:=by
 have h:=slice_closes_to (x:=x) (j:=j) ⟨h0,by simpa[Str.length] using h1⟩
 rw[eq_of_beq h]
 simp
def OV {x:Str}{j:Int}(h0:0<=j)(h1:j<=x.length):(Txt.slice x (some j) none).cps.toList=x.cps.toList.drop j.toNat:=by
 rw[slice_from_eq h0 h1 rfl]
 apply Ci
 simp[Str.length]
 ext
def wrd (A B:Str)(fi st:Int)(k:Nat):Str:=A++⟨#[EF.cps.toList.getD ((fi+st*k) % 36).toNat 0]⟩++B
def Nx (A B:Str)(fi st:Int)(k:Nat):(wrd A B fi st k).cps.toList=A.cps.toList++[EF.cps.toList.getD ((fi+st*k) % 36).toNat 0]++B.cps.toList:=by
 unfold wrd
 rw[Str.cps_append,Str.cps_append,AY,AY]
def JC {j:Int}(h0:0<=j)(h1:j<36):EF.cps.toList[j.toNat]?=some (EF.cps.toList.getD j.toNat 0):=by
 have h:j.toNat<EF.cps.toList.length:=by rw[Hh];ext
 rw[AQ,Al h]
 rfl
def Lb (st:Int):Prop:=st=1\/st=5\/st=7\/st=11\/st=13\/st=17
def TJ {fi st:Int}{j k:Nat}(hs:Lb st)(hj:j<6)(hk:k<6)(e:(fi+st*j) % 36=(fi+st*k) % 36):j=k:=by
 rcases hs with rfl|rfl|rfl|rfl|rfl|rfl<;>ext
def Vh {A B:Str}{fi st:Int}{j k:Nat}(hs:Lb st)(hj:j<6)(hk:k<6)(e:wrd A B fi st j=wrd A B fi st k):j=k:=by
 have h:=congrArg (λs:Str=>s.cps.toList) e
 simp only[Nx,List.append_cancel_right_eq,List.append_cancel_left_eq,List.cons.injEq,and_true] at h
 refine TJ (fi:=fi) hs hj hk ?_
 have a0:=Int.emod_nonneg (fi+st*j) (show(36:Int)≠0 by decide)
 have a1:=Int.emod_lt_of_pos (fi+st*j) (show(0:Int)<36 by decide)
 have b0:=Int.emod_nonneg (fi+st*k) (show(36:Int)≠0 by decide)
 have b1:=Int.emod_lt_of_pos (fi+st*k) (show(0:Int)<36 by decide)
 have e1:=JC a0 a1
 have e2:=JC b0 b1
 rw[h,<- e2] at e1
 have l1:((fi+st*j) % 36).toNat<EF.cps.toList.length:=by rw[Hh];ext
 have l2:((fi+st*k) % 36).toNat<EF.cps.toList.length:=by rw[Hh];ext
 rw[Al l1,Al l2] at e1
 have:=(List.getElem_inj RV).mp (AR e1)
 ext
def Ob (A B:Str)(fi st:Int)(n:Nat):List Str:=(List.range n).map (wrd A B fi st)
def VN {A B:Str}{fi st:Int}{n:Nat}(hs:Lb st)(hn:n<=6):(Ob A B fi st n).Nodup:=by
 unfold Ob
 rw[A3,B9]
 refine List.Pairwise.imp_of_mem (λ{a b} ha hb hne e=>hne ?_) (A3.mp List.nodup_range)
 exact Vh hs (AI (List.mem_range.mp ha) hn) (AI (List.mem_range.mp hb) hn) e
end K1
namespace PV
open PySem L2 PyProof.Rows K1
def R9 {j:Int}{mu:Sto}(h0:0<=j)(h1:j<36):ixD (.str EF) (.int j) mu=some (.str ⟨#[EF.cps.toList.getD j.toNat 0]⟩,mu):=by
 unfold ixD
 dsimp only
 have h:j.toNat<EF.cps.toList.length:=by rw[Hh];ext
 have e:ixN EF.cps.toList.length j=some j.toNat:=by unfold ixN;rw[if_pos h0,if_pos (by rw[Hh];exact h1)]
 unfold atI
 rw[e,Option.bind_some,JC h0 h1]
 rfl
def Oe {j:Int}{mu:Sto}(h0:0<=j)(h1:j<36):ixG (.str EF) (.int j) mu=some (.str ⟨#[EF.cps.toList.getD j.toNat 0]⟩,mu):=by
 unfold ixG
 rw[R9 h0 h1]
section
variable {ro:Ro}{mu:Sto}{d e:D}{a b c:Ex}
def Il (T:String)(d:D)(m1:Sto):Rs D:=if FL m1 d=true then some (.bl (isi T d),m1) else none
@[simp] theorem ZM {T:String}:Aa6 T a ro mu=bM (a ro mu) (Il T):=rfl
@[simp] theorem Ze {T:String}:Il T .non mu=some (.bl ("NoneType"==T),mu):=by simp[Il,FL,isi,tyN]
@[simp] theorem ZX {T:String}{x:Bool}:Il T (.bl x) mu=some (.bl ("bool"==T||T=="int"),mu):=by simp[Il,FL,isi,tyN]
@[simp] theorem AaN {T:String}{x:Int}:Il T (.int x) mu=some (.bl ("int"==T),mu):=by simp[Il,FL,isi,tyN]
@[simp] theorem ZK {T:String}{x:Str}:Il T (.str x) mu=some (.bl ("str"==T),mu):=by simp[Il,FL,isi,tyN]
@[simp] theorem ZA {T:String}{x:List D}:Il T (.tup x) mu=some (.bl ("tuple"==T),mu):=by simp[Il,FL,isi,tyN]
@[simp] theorem ZC {T:String}{x:List D}:Il T (.lst x) mu=some (.bl ("list"==T),mu):=by simp[Il,FL,isi,tyN]
@[simp] theorem Y5 {T:String}{x y:List D}:Il T (.dct x y) mu=some (.bl ("dict"==T),mu):=by simp[Il,FL,isi,tyN]
@[simp] theorem ZD {T:String}{x:List D}:Il T (.set x) mu=some (.bl ("set"==T),mu):=by simp[Il,FL,isi,tyN]
@[simp] theorem ZZ {x y:Bool}:isD (.bl x) (.bl y) mu=some (.bl (decide (x=y)),mu):=by cases x<;>cases y<;>rfl
@[simp] theorem XY {x y:Bool}:Aa4 (.bl x) (.bl y) mu=some (.bl (!decide (x=y)),mu):=by cases x<;>cases y<;>rfl
@[simp] theorem Abi {P:Prop} [Decidable P]{q:Bool}:(if P then some (D.bl q,mu) else some (D.bl false,mu))=some (D.bl (decide P&&q),mu):=by
 by_cases c:P<;>simp[c]
@[simp] theorem Aa2 {P:Prop} [Decidable P]{q:Bool}:(if P then some (D.bl true,mu) else some (D.bl q,mu))=some (D.bl (decide P||q),mu):=by
 by_cases c:P<;>simp[c]
@[simp] theorem Aak {P:Prop} [Decidable P]{q:Bool}:(if P then some (q,mu) else some (false,mu))=some (decide P&&q,mu):=by
 by_cases c:P<;>simp[c]
@[simp] theorem Zq {P:Prop} [Decidable P]{q:Bool}:(if P then some (true,mu) else some (q,mu))=some (decide P||q,mu):=by
 by_cases c:P<;>simp[c]
@[simp] theorem Abu {p q:Px}:eSl a p q ro mu=bM (a ro mu) λd m1=>bM (p ro m1) λlo m2=>bM (q ro m2) λhi m3=>slD d lo hi m3:=rfl
@[simp] theorem AaJ:pNo ro mu=some (none,mu):=rfl
def pB:D->Sto->Rs (Option Int)
 |.int i,m1=>some (some i,m1)
 |_,_=>none
@[simp] theorem AaU:GF a ro mu=bM (a ro mu) pB:=by
 unfold GF
 congr 1
 funext x m
 cases x<;>rfl
@[simp] theorem Aa7 {i:Int}:pB (.int i) mu=some (some i,mu):=rfl
@[simp] theorem Aan {ds:List D}{lo hi:Option Int}:slD (.tup ds) lo hi mu=some (.tup (cutD ds lo hi),mu):=rfl
@[simp] theorem Zl {ds:List D}{lo hi:Option Int}:slD (.lst ds) lo hi mu=some (.lst (cutD ds lo hi),mu):=rfl
@[simp] theorem Yc {α:Type}{xs:List α}:cutD xs (some 1) none=xs.drop 1:=by
 unfold cutD
 have:=HT.Kx xs.length 0 1
 rw[show(some (1:Int))=some ((1:Nat):Int) from rfl,this,HT.Jq]
 cases xs with
 |nil=>rfl
 |cons a r=>simp
theorem Jo {n:Nat}{ds:List D}:Ep n ds=true↔∀d∈ds,EG n d=true:=by
 induction ds with
 |nil=>simp[Ep]
 |cons d ds ih=>simp[Ep,ih]
mutual
theorem Pw {n m:Nat}(h:n<=m):∀{d:D},EG n d=true->EG m d=true
 |.non,_=>rfl
 |.bl _,_=>rfl
 |.int _,_=>rfl
 |.str _,_=>rfl
 |.ref k,e=>by
  simp only[EG,AA] at e ⊢
  ext
 |.tup ds,e=>by
  simp only[EG] at e ⊢
  exact FC h e
 |.lst ds,e=>by
  simp only[EG] at e ⊢
  exact FC h e
 |.set ds,e=>by
  simp only[EG] at e ⊢
  exact FC h e
 |.dct ks ds,e=>by
  simp only[EG,Ai] at e ⊢
  exact⟨FC h e.1,FC h e.2⟩
theorem FC {n m:Nat}(h:n<=m):∀{ds:List D},Ep n ds=true->Ep m ds=true
 |[],_=>rfl
 |d::ds,e=>by
  simp only[Ep,Ai] at e ⊢
  exact⟨Pw h e.1,FC h e.2⟩
end
end
end PV
namespace PV
open PySem L2 PyProof.Rows K1
variable {mu:Sto}
end PV
local macro_rules(kind:=Lean.Parser.Tactic.simpAutoUnfold)|s=>do
 let l:=s[4]
 let n:=@Lean.mkNullNode
 let f:=λb (s:String)=>#[.node .none `Lean.Parser.Tactic.simpLemma #[n b,n #[],Lean.mkIdent s.toName],.atom .none ","]
 return .node .none `Lean.Parser.Tactic.simp #[.atom .none "simp",s[1],s[2],n #[.atom .none "only"],l.setArg 1 (n (("Kh AbM Abz Abb AaP AaZ AaT AbK Abr AbL AaX ZR AaG Zx Aaf ZJ ZE z_C ZN Aa9 Aby Zn Aaa Aam Abo SJ Zr Aa3 Zb Abn AbO Z3 AbR Us UX AaE ZS WI XD XA XH Aad AaH WU WO Abw XT Ts ZQ Zu Aaj XS YK Xg ZG YR WR WM Xy UJ Aar Zh Aba Abq AaV AbN Abx Uv Z7 Z5 Aai Zj Aas Aaz YN Xs Aal ZF Y6 Xx WB YU Yh Xl WS Xi Wf AaF Aah Y3 WG T7 Yu Xp Xw ZM Ze ZX AaN ZK ZA ZC Y5 ZD ZZ XY Abi Aa2 Aak Zq Abu AaJ AaU Aa7 Aan Zl Yc ZT ZL if_true Bt reduceIte AV Bool.true_eq_false List.set_cons_zero List.set_cons_succ Ay List.map_nil List.length_cons List.length_nil Nat.reduceAdd Nat.reduceSub List.replicate_succ List.replicate_zero List.reduceReplicate List.cons_append List.nil_append Option.map_some Bool.not_true Bool.not_false List.getD_cons_zero List.getD_cons_succ Br decide_true decide_false Bool.decide_eq_true Bool.true_and Bool.false_and Bool.true_or Bool.false_or Bool.or_false Bool.and_true String.reduceBEq".splitOn).foldr (λs a=>f #[] s++a) (f #[.node .none `Lean.Parser.Tactic.simpPre #[.atom .none "↓"]] "reduceIte"++l[1].getArgs))),s[5]]
namespace PG
open PySem L2 PV PyProof.Rows K1
variable {mu:Sto}
def Yj (lo hi:Int):D->Bool
 |.tup ds=>decide (lo<=(ds.length:Int))&&decide ((ds.length:Int)<=hi)
 |_=>false
def lows {n:Nat}{ds:List D}(h:EG n (.tup ds)=true):∀d∈ds,EG n d=true:=Jo.mp (by simpa[EG] using h)
theorem Qt {d:D}(h:Yj 2 2 d=true):∃a b,d=.tup [a,b]:=by
 cases d with
 |tup ds =>
  simp only[Yj,Ai,AA] at h
  match ds,h with
  |[a,b],_=>exact⟨a,b,rfl⟩
  |[],h=>simp at h
  |[a],h=>simp at h
  |a::b::c::ds,h=>simp at h;ext
 |_=>simp[Yj] at h
def Zt:D->D
 |.tup (a::_)=>a
 |_=>.non
end PG
namespace PV
open PySem L2 PyProof.Rows K1
theorem Iy (ss:List Str):EJ (ss.map D.str)=true:=by
 induction ss with
 |nil=>rfl
 |cons x xs ih=>simp[EJ,Dl,ih]
def Qn (x:Str):(toPy (.str x)).depth<=60:=by simp[toPy,PySem.PyData.depth]
def UW {ss:List Str}:(ss.map D.str).Nodup↔ss.Nodup:=by
 rw[A3,A3,B9]
 constructor
 ·exactλh=>h.imp λn e=>n (by rw[e])
 ·exactλh=>h.imp λn e=>n (by injection e)
end PV
namespace PG
open PySem L2 PV PyProof.Rows K1
variable {mu:Sto}
end PG
namespace PV
open PySem L2 PyProof.Rows K1
theorem NH (ss:List Str):E3 (ss.map D.str)=true:=by
 induction ss with
 |nil=>rfl
 |cons x xs ih=>simp[E3,hsh,ih]
theorem La (ss:List Str):PyData.depthAll (CJ (ss.map D.str))<=1:=by
 induction ss with
 |nil=>simp[CJ,PyData.depthAll]
 |cons x xs ih=>simp[CJ,toPy,PyData.depthAll,PyData.depth];ext
end PV
namespace PG
open PySem L2 PV PyProof.Rows K1
variable {mu:Sto}
end PG
namespace PV
open PySem L2 PyProof.Rows K1
variable {mu:Sto}
def RX {i j:Int}(h:CMul i j):G3 (.int i) (.int j) mu=some (.int (i*j),mu):=by
 unfold G3
 dsimp only
 rw[if_pos h]
def RA {i j:Int}(h:MU i j):Ln (.int i) (.int j) mu=some (.int (i / j),mu):=by
 unfold Ln
 dsimp only
 rw[if_pos h]
theorem P0 {o i:Ex}{d:D}{ro:Ro}:gIx o i d ro mu=bM (o ro mu) λx m1=>bM (i ro m1) λe m2=>bM (putG x e d m2) λ_ m3=>some (ro,m3):=rfl
def Wl {k:Nat}{ds:List D}{v:D}{j:Nat}(h:mu[k]?=some (.lst ds))(hj:j<ds.length):putG (.ref k) (.int j) v mu=some ((),mu.set k (.lst (ds.set j v))):=by
 have e:ixN ds.length (j:Int)=some j:=by
  unfold ixN
  rw[if_pos (by ext),if_pos (by ext),Int.toNat_natCast]
 simp only[putG,h,Ve,e]
def Jl {k:Nat}{ds:List D}{d:D}{j:Nat}(h:mu[k]?=some (.lst ds))(hd:ds[j]?=some d):ixG (.ref k) (.int j) mu=some (d,mu):=by
 have:=(Ad.mp hd).1
 have e:ixN ds.length (j:Int)=some j:=by
  unfold ixN
  rw[if_pos (by ext),if_pos (by ext),Int.toNat_natCast]
 have:ixD (.ref k) (.int j) mu=some (d,mu):=by
  simp only[ixD,DW,h,atI,e,Option.bind_some,hd,Option.map_some]
 unfold ixG
 rw[this]
def E7 {k:Nat}{o o':MO}(h:mu[k]?=some o):(mu.set k o')[k]?=some o':=by
 have:=(Ad.mp h).1
 simp[this]
def HandOk (mu:Sto)(k n:Nat):Prop:=∃a b c:Int,mu[k]?=some (.lst [.int a,.int b,.int c])/\(-(2 ^ 63)<b/\b<2 ^ 63)/\0<=c/\c+n<2 ^ 40
def HandOk.mono {mu:Sto}{k n n':Nat}(h:HandOk mu k n)(l:n'<=n):HandOk mu k n':=by
 obtain⟨a,b,c,h1,h2,h3,h4⟩:=h
 exact⟨a,b,c,h1,h2,h3,by ext⟩
def HandOk.lt {k n:Nat}(h:HandOk mu k n):k<mu.length:=by
 obtain⟨a,b,c,h1,_⟩:=h
 exact(Ad.mp h1).1
def Flat (mu:Sto):Prop:=∀(j:Nat) (o:MO),mu[j]?=some o->Lw mu.length o=true
structure Fr (k n:Nat) (mu mu':Sto):Prop where
 hand:HandOk mu' k n
 keep:∀j,j≠k->mu'[j]?=mu[j]?
 len:mu'.length=mu.length
def Fr.refl {k n:Nat}{mu:Sto}(h:HandOk mu k n):Fr k n mu mu:=⟨h,λ_ _=>rfl,rfl⟩
theorem Fr.trans {k n n':Nat}{a b c:Sto}(x:Fr k n a b)(y:Fr k n' b c):Fr k n' a c:=⟨y.hand,λj hk=>(y.keep j hk).trans (x.keep j hk),y.len.trans x.len⟩
theorem Fr.mono {k n n':Nat}{a b:Sto}(x:Fr k n a b)(l:n'<=n):Fr k n' a b:=⟨x.hand.mono l,x.keep,x.len⟩
def Fr.flat {k n:Nat}{a b:Sto}(x:Fr k n a b)(h:Flat a):Flat b:=by
 intro j o e
 by_cases c:j=k
 ·subst c
  obtain⟨_,_,_,h1,_⟩:=x.hand
  rw[h1] at e
  cases e
  rfl
 ·rw[x.keep j c] at e
  rw[x.len]
  exact h j o e
def Run (r:Rs D)(k n:Nat)(mu:Sto)(P:D->Prop):Prop:=∃d mu',r=some (d,mu')/\Fr k n mu mu'/\P d
def X4 {ds:List D}{t:Int}(h0:0<=t)(h1:t<ds.length):∃d,d∈ds/\ds[t.toNat]?=some d:=by
 have h:t.toNat<ds.length:=by ext
 exact⟨ds[t.toNat],BG h,Al h⟩
def Z0 {ds:List D}{d:D}{t:Int}(s:D)(hs:s=.lst ds\/s=.tup ds)(h0:0<=t)(h:ds[t.toNat]?=some d):ixG s (.int t) mu=some (d,mu):=by
 have:=Fv (mu:=mu) s hs h
 rwa[Int.toNat_of_nonneg h0] at this
end PV
namespace PG
open PySem L2 PV PyProof.Rows K1
variable {mu:Sto}
def Gb {k n:Nat}{m:Int}(h:HandOk mu k (n+1))(m0:0<m)(m1:m<1073741824):Run (C8 [.ref k,.int m] mu) k n mu λd=>∃t:Int,d=.int t/\0<=t/\t<m:=by
 obtain⟨a,b,c,h1,h2,h3,h4⟩:=h
 have hk:k<mu.length:=(Ad.mp h1).1
 have fr:∀a' c':Int,0<=c'->c'<=c+1->Fr k n mu (mu.set k (.lst [.int a',.int b,.int c'])):=λa' c' z1 z2=>⟨⟨a',b,c',E7 h1,h2,z1,by ext⟩,λj hj=>by rw[Aw (Ne.symm hj)],by simp⟩
 have i0:ixG (.ref k) (.int 0) mu=some (.int a,mu):=Jl (j:=0) h1 rfl
 by_cases ha:0<a
 ·refine⟨.int (a % m),_,?_,fr (a / m) c h3 (by ext),a % m,rfl,Int.emod_nonneg _ (by ext),Int.emod_lt_of_pos _ m0⟩
  have cd:MU a m:=⟨m0,m1⟩
  have p0:∀v,putG (.ref k) (.int 0) v mu=some ((),mu.set k (.lst [v,.int b,.int c])):=λv=>Wl (j:=0) h1 (by simp)
  have ha':decide (0<a)=true:=by simp[ha]
  simp![C8,HD,i0,ha',M6 m0,RA cd,P0,p0]
 ·refine⟨.int (((b*(48271+2*(c+1)*(c+1)+65537*(c+1)) % 2305843009213693921*(b*(48271+2*(c+1)*(c+1)+65537*(c+1)) % 2305843009213693921 % 1000003+(c+1)*99991+11) % 2305843009213693907) / 97+(b*(48271+2*(c+1)*(c+1)+65537*(c+1)) % 2305843009213693921*(b*(48271+2*(c+1)*(c+1)+65537*(c+1)) % 2305843009213693921 % 1000003+(c+1)*99991+11) % 2305843009213693907) / 1000033) % m),_,?_,fr a (c+1) (by ext) (by ext),_,rfl,Int.emod_nonneg _ (by ext),Int.emod_lt_of_pos _ m0⟩
  have hs:∀o,(mu.set k o)[k]?=some o:=λo=>E7 h1
  have c1:CMul 2 (c+1):=.inl ⟨by decide,by decide⟩
  have c2:CMul (2*(c+1)) (c+1):=.inl ⟨by ext,by ext⟩
  have c3:CMul 65537 (c+1):=.inl ⟨by decide,by decide⟩
  have c4:∀z,CMul b z:=λz=>.inl ⟨by ext,by ext⟩
  have c5:CMul (c+1) 99991:=.inr ⟨by decide,by decide⟩
  have c6:∀y z:Int,CMul (y % 2305843009213693921) z:=λy z=>.inl ⟨by ext,by ext⟩
  have c7:∀y:Int,MU y 97:=λy=>⟨by decide,by decide⟩
  have c8:∀y:Int,MU y 1000033:=λy=>⟨by decide,by decide⟩
  have i2:ixG (.ref k) (.int 2) mu=some (.int c,mu):=Jl (j:=2) h1 rfl
  have p2:∀v,putG (.ref k) (.int 2) v mu=some ((),mu.set k (.lst [.int a,.int b,v])):=λv=>Wl (j:=2) h1 (by simp)
  have j1:∀v,ixG (.ref k) (.int 1) (mu.set k (.lst [.int a,.int b,v]))=some (.int b,mu.set k (.lst [.int a,.int b,v])):=λv=>Jl (j:=1) (hs _) rfl
  have j2:∀v,ixG (.ref k) (.int 2) (mu.set k (.lst [.int a,.int b,v]))=some (v,mu.set k (.lst [.int a,.int b,v])):=λv=>Jl (j:=2) (hs _) rfl
  have ha':decide (0<a)=false:=by simp[ha]
  simp![C8,HD,i0,ha',M6,M6 m0,RA,RX,P0,i2,p2,j1,j2,c1,c2,c3,c4,c5,c6,c7,c8,Int.reduceLT]
def pick_run {k n:Nat}{s:D}{ds:List D}(hs:s=.lst ds\/s=.tup ds)(hn:ds≠[])(hl:ds.length<1073741824)(h:HandOk mu k (n+1)):Run (Dy [.ref k,s] mu) k n mu λd=>d∈ds:=by
 have pos:0<ds.length:=List.length_pos_iff.mpr hn
 obtain⟨_,mu',e,fr,t,rfl,t0,t1⟩:=Gb (m:=ds.length) h (by ext) (by ext)
 obtain⟨d,hd,ed⟩:=X4 t0 t1
 refine⟨d,mu',?_,fr,hd⟩
 have ix:=Z0 (mu:=mu') s hs t0 ed
 rcases hs with rfl|rfl
 ·simp![Dy,HJ,e,ix]
 ·simp![Dy,HJ,e,ix]
def Sh:∀c∈EF.cps.toList,decide (c<0x110000)=true:=by symm
def K3 {x:Str}(h:∀c∈x.cps.toList,c∈EF.cps.toList):PyData.strOk x=true:=by
 unfold PyData.strOk
 rw[<- Array.all_toList,AW]
 exactλc hc=>Sh c (h c hc)
def Ua {x y:Str}(h:x.length+y.length<=sizeLine):DR (.str x) (.str y) mu=some (.str (x++y),mu):=by
 simp only[DR,h,if_true]
def V4 {x:Str}{lo hi:Option Int}(h:PyData.strOk (Txt.slice x lo hi)=true):slD (.str x) lo hi mu=some (.str (Txt.slice x lo hi),mu):=by
 simp only[slD,h,if_true]
theorem RW {A B:List Nat}{s c:Nat}(hA:∀x∈A,x=c)(hB:∀x∈B,x=c):A++[s]++B≠[111,116,104,101,114,111,110,101]:=by
 intro h
 match A,hA,h with
 |[],_,h =>
  injection h with _ h
  have h':B=[116,104,101,114,111,110,101]:=h
  have a:=hB 116 (by rw[h'];simp)
  have b:=hB 104 (by rw[h'];simp)
  ext
 |[x],hA,h =>
  injection h with h1 h
  injection h with _ h
  have h':B=[104,101,114,111,110,101]:=h
  have a:=hA x (.head _)
  have b:=hB 104 (by rw[h'];simp)
  ext
 |x::y::A,hA,h =>
  injection h with h1 h
  injection h with h2 h
  have a:=hA x (.head _)
  have b:=hA y (.tail _ (.head _))
  ext
def JN {k n:Nat}{many:Int}(m0:0<=many)(m6:many<=6)(h:HandOk mu k (n+5)):Run (EN [.ref k,.int many,.int 8] mu) k n mu λd=>∃ws:List Str,d=.lst (ws.map D.str)/\(ws.length:Int)=many/\ws.Nodup/\∀x∈ws,x≠"otherone":=by
 obtain⟨_,mu1,e1,f1,fi,rfl,a0,a1⟩:=Gb (m:=36) (n:=n+4) h (by decide) (by decide)
 obtain⟨st,mu2,e2,f2,hst⟩:=pick_run (s:=.lst [.int 1,.int 5,.int 7,.int 11,.int 13,.int 17]) (n:=n+3) (.inl rfl) (by simp) (by decide) f1.hand
 obtain⟨_,mu3,e3,f3,si,rfl,b0,b1⟩:=Gb (m:=36) (n:=n+2) f2.hand (by decide) (by decide)
 obtain⟨mv,mu4,e4,f4,hmv⟩:=pick_run (s:=.lst [.int 0,.int 1,.int 0,.int 2,.int 7]) (n:=n+1) (.inl rfl) (by simp) (by decide) f3.hand
 obtain⟨s',rfl,hs⟩:∃s':Int,st=.int s'/\Lb s':=by
  simp only[Ao,Ax,Ba] at hst
  unfold Lb
  rcases hst with rfl|rfl|rfl|rfl|rfl|rfl<;>exact⟨_,rfl,by decide⟩
 obtain⟨v,rfl,v0,v7⟩:∃v:Int,mv=.int v/\0<=v/\v<=7:=by
  simp only[Ao,Ax,Ba] at hmv
  rcases hmv with rfl|rfl|rfl|rfl|rfl<;>exact⟨_,rfl,by decide,by decide⟩
 have hmin:JY [.int 7,.int v] mu4=some (.int v,mu4):=by
  have:(if v<7 then v else 7)=v:=by split<;>ext
  simp only[JY,PV.ints2,Option.map_some,this]
 obtain⟨ch,hc,ix3⟩:∃ch,ch∈EF.cps.toList/\ixG (.str (Str.ofString "abcdefghijklmnopqrstuvwxyz0123456789")) (.int si) mu3=some (.str ⟨#[ch]⟩,mu3):=⟨_,Aj (JC b0 b1),Oe b0 b1⟩
 have len:(Txt.mul ⟨#[ch]⟩ v).length=v.toNat:=by
  have:=congrArg List.length (mul_list (ch) v v0 v7)
  simpa[Str.length] using this
 generalize hst:Txt.mul ⟨#[ch]⟩ v=stem at len
 have stl:stem.cps.toList=List.replicate v.toNat (ch):=by rw[<- hst];exact mul_list _ v v0 v7
 have stAll:∀x∈stem.cps.toList,x=ch:=λx hx=>by rw[stl] at hx;exact(List.mem_replicate.mp hx).2
 obtain⟨_,mu5,e5,f5,at',rfl,c0,c1⟩:=Gb (m:=(stem.length:Int)+1) (n:=n) f4.hand (by ext) (by ext)
 have at2:at'<=stem.length:=by ext
 have sl1:=TN (x:=stem) c0 at2
 have sl2:=OV (x:=stem) c0 at2
 have allA:∀x∈(Txt.slice stem none (some at')).cps.toList,x=ch:=λx hx=>stAll x (by rw[sl1] at hx;exact List.mem_of_mem_take hx)
 have allB:∀x∈(Txt.slice stem (some at') none).cps.toList,x=ch:=λx hx=>stAll x (by rw[sl2] at hx;exact List.mem_of_mem_drop hx)
 have lens:(Txt.slice stem none (some at')).length+(Txt.slice stem (some at') none).length<=7:=by
  have l1:=congrArg List.length sl1
  have l2:=congrArg List.length sl2
  simp only[Array.length_toList,AU,Cj] at l1 l2
  have ls:stem.cps.size=v.toNat:=len
  unfold Str.length
  ext
 refine⟨.lst ((Ob (Txt.slice stem none (some at')) (Txt.slice stem (some at') none) fi s' many.toNat).map D.str),mu5,?_,(((f1.trans f2).trans f3).trans f4).trans f5,_,rfl,by simp[Ob];ext,VN hs (by ext),λx hx=>?_⟩
 ·have mo:MulOk ⟨#[ch]⟩ v:=Y7 _ v v0 v7
  have okm:PyData.strOk stem=true:=K3 λc h=>by rw[stAll c h];exact hc
  have okA:PyData.strOk (Txt.slice stem none (some at'))=true:=K3 λc h=>by rw[allA c h];exact hc
  have okB:PyData.strOk (Txt.slice stem (some at') none)=true:=K3 λc h=>by rw[allB c h];exact hc
  have zl:stem.length<=sizeLine:=by rw[AH];ext
  have lc:FO none mu5 (gNm 0) tY (Cz DR (Cz DR (eSl (Cp 1) pNo (GF (Cp 2))) (Cz ixG (Cp 3) (Cz Jn (Cz DR (Cp 4) (Cz G3 (Cp 5) (Cp 0))) (eC (.int 36))))) (eSl (Cp 1) (GF (Cp 2)) pNo)) [none,some (.str stem),some (.int at'),some (.str EF),some (.int fi),some (.int s')] (G9 0 many.toNat) mu5=some ((Ob (Txt.slice stem none (some at')) (Txt.slice stem (some at') none) fi s' many.toNat).map D.str,mu5):=by
   have ew:(Ob (Txt.slice stem none (some at')) (Txt.slice stem (some at') none) fi s' many.toNat).map D.str=(G9 0 many.toNat).map λd=>match d with|.int i=>.str (wrd (Txt.slice stem none (some at')) (Txt.slice stem (some at') none) fi s' i.toNat)|_=>.non:=by
    unfold Ob G9
    rw[A8,A8]
    refine Cf λj _=>?_
    simp
   rw[ew]
   refine HK _ _ λd hd=>⟨_,rfl,?_⟩
   unfold G9 at hd
   obtain⟨j,hj,rfl⟩:=AK.mp hd
   have i0:=Int.emod_nonneg (fi+s'*(j:Int)) (show(36:Int)≠0 by decide)
   have i1:=Int.emod_lt_of_pos (fi+s'*(j:Int)) (show(0:Int)<36 by decide)
   have ix:=Oe (mu:=mu5) i0 i1
   have cm:CMul s' (j:Int):=.inl (by rcases hs with rfl|rfl|rfl|rfl|rfl|rfl<;>exact⟨by decide,by decide⟩)
   have z1:(Txt.slice stem none (some at')).length+(⟨#[EF.cps.toList.getD ((fi+s'*(j:Int)) % 36).toNat 0]⟩:Str).length<=sizeLine:=by
    rw[AH,show(⟨#[EF.cps.toList.getD ((fi+s'*(j:Int)) % 36).toNat 0]⟩:Str).length=1 from rfl]
    ext
   have z2:(Txt.slice stem none (some at')++(⟨#[EF.cps.toList.getD ((fi+s'*(j:Int)) % 36).toNat 0]⟩:Str)).length+(Txt.slice stem (some at') none).length<=sizeLine:=by
    rw[AH,PySem.Str.length_append,show(⟨#[EF.cps.toList.getD ((fi+s'*(j:Int)) % 36).toNat 0]⟩:Str).length=1 from rfl]
    ext
   simp![V4 okA,V4 okB,RX cm,M6,Int.reduceLT,Int.zero_add,ix,Ua z1,Ua z2,Int.toNat_natCast]
   rfl
  have mm:G3 (.str ⟨#[ch]⟩) (.int v) mu4=some (.str stem,mu4):=by
   unfold G3
   dsimp only
   rw[hst,if_pos ⟨mo,zl,okm⟩]
  have rg:=Va (mu:=mu5) (ro:=[some (.ref k),some (.int many),some (.int 8),some (.str EF),some (.int fi),some (.int s'),some (.str stem),some (.int at')]) (r:=Co (Cp 1) Cr) (n:=many) (m:=mu5) rfl (by ext) (by rw[AH];ext)
  have rg':iRg (Co (Cp 1) Cr) [some (.ref k),some (.int many),some (.int 8),some (.str (Str.ofString "abcdefghijklmnopqrstuvwxyz0123456789")),some (.int fi),some (.int s'),some (.str stem),some (.int at')] mu5=some ((G9 0 many.toNat,none),mu5):=rg
  simp![EN,HZ,e1,e2,e3,ix3,Int.reduceSub,e4,hmin,mm,e5,rg',lc]
 ·unfold Ob at hx
  obtain⟨j,_,rfl⟩:=AK.mp hx
  intro e
  have h:=congrArg (λs:Str=>s.cps.toList) e
  simp only[Nx] at h
  exact RW allA allB (h.trans (by symm))
def SN {k n:Nat}{ns:List Int}(hk:k<64)(hn:n<2 ^ 39):∃o,Fi [.lst (ns.map D.int),.int k] mu=some (.ref mu.length,mu++[o])/\HandOk (mu++[o]) mu.length n:=by
 have fin:∀c:Int,∃a b:Int,sRt (GX (Co (Cz G3 (Cp 2) (CA T4 (Co (Cz geD (Cp 2) (Cz Sv (eC (.int 10)) (eC (.int 18)))) Cr))) (Co (Cz DR (Cz DR (Cz Jn (Cp 2) (eC (.int 2305843009213693951))) (Cz G3 (eC (.int 7919)) (Cp 1))) (eC (.int 3))) (Co (eC (.int 0)) Cr)))) [some (.lst (ns.map D.int)),some (.int k),some (.int c)] mu=some ((.rt (.ref mu.length),[some (.lst (ns.map D.int)),some (.int k),some (.int c)]),mu++[.lst [.int a,.int b,.int 0]])/\(-(2 ^ 63)<b/\b<2 ^ 63):=by
  intro c
  refine⟨c*(if (1000000000000000000:Int)<=c then 1 else 0),c % 2305843009213693951+7919*(k:Int)+3,?_,?_⟩
  ·have p1:QB 10 18:=⟨by decide,by decide,by decide⟩
   have p3:CMul 7919 (k:Int):=.inl ⟨by decide,by decide⟩
   have p4:CMul c (if (1000000000000000000:Int)<=c then 1 else 0):=.inr (by split<;>exact⟨by decide,by decide⟩)
   simp[sRt,GX,Co,Cr,Cz,Cp,CA,eC,bM,geD,RJ,Sv,p1,T4,intOf,G3,p3,DR,Jn,p4]
  ·have:=Int.emod_nonneg c (show(2305843009213693951:Int)≠0 by decide)
   have:=Int.emod_lt_of_pos c (show(0:Int)<2305843009213693951 by decide)
   ext
 have done:∀(a b:Int),(-(2 ^ 63)<b/\b<2 ^ 63)->HandOk (mu++[.lst [.int a,.int b,.int 0]]) mu.length n:=λa b hb=>⟨a,b,0,by simp,hb,Int.le_refl _,by ext⟩
 by_cases c:k<ns.length
 ·have e:ixG (.lst (ns.map D.int)) (.int k) mu=some (.int ns[k],mu):=Fv _ (.inl rfl) (by simp[c])
  obtain⟨a,b,e2,hb⟩:=fin ns[k]
  refine⟨_,?_,done a b hb⟩
  have c':decide ((k:Int)<((ns.map D.int).length:Int))=true:=by simp[c]
  generalize hR:sRt (GX _)=R at e2
  simp only[Fi,Hw,hR]
  simp![c',e,e2]
 ·obtain⟨a,b,e2,hb⟩:=fin 0
  refine⟨_,?_,done a b hb⟩
  have c':decide ((k:Int)<((ns.map D.int).length:Int))=false:=by simp[c]
  generalize hR:sRt (GX _)=R at e2
  simp only[Fi,Hw,hR]
  simp![c',e2]
end PG
namespace PV
open PySem L2 PyProof.Rows K1
variable {mu:Sto}
theorem F9 {m0:Sto}{tg:Gx}{body:Sx}(Inv:Nat->Ro->Sto->Prop):∀(ds:List D) (i:Nat) (ro:Ro) (mu:Sto),Inv i ro mu->(∀j d ro mu,ds[j]?=some d->Inv (i+j) ro mu->∃ro1 m1 ro2 m2,tg d ro mu=some (ro1,m1)/\body ro1 m1=some ((.nx,ro2),m2)/\Inv (i+j+1) ro2 m2) ->
  ∃ro' mu',GJ none m0 tg body ds ro mu=some ((.nx,ro'),mu')/\Inv (i+ds.length) ro' mu'
 |[],i,ro,mu,h,_=>⟨ro,mu,rfl,h⟩
 |d::ds,i,ro,mu,h,st=>by
  obtain⟨ro1,m1,ro2,m2,e1,e2,h2⟩:=st 0 d ro mu rfl h
  obtain⟨ro',mu',e3,h3⟩:=F9 (m0:=m0) (tg:=tg) (body:=body) Inv ds (i+1) ro2 m2 h2 λj d' ro mu ed hi=>by
   have:=st (j+1) d' ro mu (by simpa using ed) (by rw[show i+(j+1)=i+1+j by ext];exact hi)
   rw[show i+(j+1)+1=i+1+j+1 by ext] at this
   exact this
  refine⟨ro',mu',?_,by rw[List.length_cons,show i+(ds.length+1)=i+1+ds.length by ext];exact h3⟩
  unfold GJ
  rw[e1,CM,e2,CM]
  dsimp only
  rw[EA,if_pos (show gOk none m0 m2 from True.intro),e3]
theorem OL {n j:Nat}{d:D}(h:(G9 0 n)[j]?=some d):d=.int j/\j<n:=by
 unfold G9 at h
 rw[Am] at h
 cases q:(List.range n)[j]? with
 |none=>rw[q] at h;cases h
 |some k =>
  rw[q] at h
  obtain⟨hj,e⟩:=Ad.mp q
  rw[List.length_range] at hj
  rw[List.getElem_range] at e
  subst e
  exact⟨by simpa using h.symm,hj⟩
def UU (n:Nat):(G9 0 n).length=n:=by simp[G9]
def append_at {mu':Sto}{r:Nat}{ds ds0:List D}{y:D}(h0:mu[r]?=some (.lst ds0))(h:mu'[r]?=some (.lst ds))(hl:ds.length<sizeLine){ro:Ro}{i:Nat}{e:Ex}(h1:Cp i ro mu=some (.ref r,mu))(h2:e ro mu=some (y,mu')):IL (Cp i) (Co e Cr) ro mu=some (.non,mu'.set r (.lst (ds++[y]))):=by
 have ok:FL mu (.ref r)=true:=by simp[FL,h0]
 have a1:Gm [y]=some y:=rfl
 simp only[IL,h1,Kh,ok,if_true,UX,Us,h2,a1,h,hl]
end PV
namespace PG
open PySem L2 PV PyProof.Rows K1
variable {mu:Sto}
end PG
namespace PV
open PySem L2 PyProof.Rows K1
variable {mu:Sto}
def HandOk.app {k n:Nat}{os:Sto}(h:HandOk mu k n):HandOk (mu++os) k n:=by
 have hk:=h.lt
 obtain⟨a,b,c',q,r⟩:=h
 exact⟨a,b,c',by rw[Ap hk];exact q,r⟩
theorem HandOk.set {k n j:Nat}{o:MO}(h:HandOk mu k n)(hj:j≠k):HandOk (mu.set j o) k n:=by
 obtain⟨a,b,c',q,r⟩:=h
 exact⟨a,b,c',by rw[Aw hj];exact q,r⟩
theorem M1 {o:MO}{n m:Nat}(l:n<=m)(h:Lw n o=true):Lw m o=true:=by
 cases o with
 |lst ds=>exact FC l h
 |dct ks ds =>
  simp only[Lw,Ai] at h ⊢
  exact⟨FC l h.1,FC l h.2⟩
def MT {m:Sto}{d:D}(hd:EG 0 d=true)(hf:Flat (m.take mu.length)):JI mu m d=some (d,m.take mu.length):=by
 have e:frz mu.length m 3 d=some d:=by
  unfold frz
  rw[if_pos (Pw (A5 _) hd)]
 have al:(m.take mu.length).all (Lw mu.length)=true:=by
  rw[AW]
  intro o ho
  obtain⟨j,hj⟩:=AL.mp ho
  exact M1 (by rw[AU];ext) (hf j o hj)
 unfold JI
 rw[e]
 dsimp only
 rw[if_pos al]
end PV
namespace PG
open PySem L2 PV PyProof.Rows K1
variable {mu:Sto}
def Ye {R:Nat}{cs:List D}(h:mu[R]?=some (.lst cs)):GA [.ref R] mu=some (.tup cs,mu):=by
 simp only[GA,sq1,Gm,IM,DW,h,Option.map_some]
end PG
namespace PV
open PySem L2 PyProof.Rows K1
variable {mu:Sto}
theorem Tc {m0:Sto}{tg:Gx}{el:Ex}{ro:Ro}(Inv:Nat->Sto->Prop)(P:Nat->D->Prop):∀(ds:List D) (i:Nat) (mu:Sto),Inv i mu->(∀j d mu,ds[j]?=some d->Inv (i+j) mu->∃ro1 y m1,tg d ro mu=some (ro1,mu)/\el ro1 mu=some (y,m1)/\P (i+j) y/\Inv (i+j+1) m1) ->
  ∃ys mu',FO none m0 tg tY el ro ds mu=some (ys,mu')/\Inv (i+ds.length) mu'/\ys.length=ds.length/\∀j y,ys[j]?=some y->P (i+j) y
 |[],i,mu,h,_=>⟨[],mu,rfl,h,rfl,λj y e=>by simp at e⟩
 |d::ds,i,mu,h,st=>by
  obtain⟨ro1,y,m1,e1,e2,p,h2⟩:=st 0 d mu rfl h
  obtain⟨ys,mu',e3,h3,h4,h5⟩:=Tc (m0:=m0) (tg:=tg) (el:=el) (ro:=ro) Inv P ds (i+1) m1 h2 λj d' mu ed hi=>by
   have:=st (j+1) d' mu (by simpa using ed) (by rw[show i+(j+1)=i+1+j by ext];exact hi)
   rw[show i+(j+1)+1=i+1+j+1 by ext,show i+(j+1)=i+1+j by ext] at this
   exact this
  refine⟨y::ys,mu',?_,by rw[List.length_cons,show i+(ds.length+1)=i+1+ds.length by ext];exact h3,by simp[h4],λj z e=>?_⟩
  ·unfold FO
   rw[e1,CM]
   simp only[SJ,Kh,if_true]
   rw[e2,CM,EA,if_pos (show gOk none m0 m1 from True.intro),e3]
   rfl
  ·cases j with
   |zero=>cases e;exact p
   |succ j=>have:=h5 j z (by simpa using e);rw[show i+(j+1)=i+1+j by ext];exact this
def Abt {d e:D}(hd:Dn d=true)(he:Dn e=true):eqB mu d e=some (decide (d=e)):=by
 have a:=E5 hd
 have b:=E5 he
 have sd:seen mu d=d:=by cases d<;>first|rfl|(simp[Dn,hsh] at hd)
 have se:seen mu e=e:=by cases e<;>first|rfl|(simp[Dn,hsh] at he)
 unfold eqB
 rw[sd,se,Hg a.1,Hg b.1,if_pos,GU a.1 b.1]
 rw[KD a.1,KD b.1]
 simp only[Bool.true_and,AA]
 ext
def Wt {d e:D}(hd:Dn d=true)(he:Dn e=true):neD d e mu=some (.bl (!decide (d=e)),mu):=by unfold neD;rw[Abt hd he];rfl
def QO (ss:List Str):Gf (ss.map D.str)<=1:=by
 rw[<- Kw (NH ss)]
 exact La ss
def QH (ss:List Str):Dn (.tup (ss.map D.str))=true:=by
 unfold Dn
 rw[Ai,AA]
 refine⟨by unfold hsh;exact NH ss,?_⟩
 have:=QO ss
 unfold dpt
 ext
end PV
namespace PG
open PySem L2 PV PyProof.Rows K1
variable {mu:Sto}
structure Tb where
 nm:Str
 cs:List (Str×List Str)
 ks:Nat
def clD (p:Str×List Str):D:=.tup [.str p.1,.tup (p.2.map D.str)]
def tbD (t:Tb):D:=.tup [.str t.nm,.tup (t.cs.map clD),.int t.ks]
structure Kg (t:Tb):Prop where
 c1:1<=t.cs.length
 c4:t.cs.length<=4
 k1:1<=t.ks
 k4:t.ks<=t.cs.length
 vs:∀p∈t.cs,p.2≠[]/\p.2.length<=4
structure SOk (ts:List Tb):Prop where
 l1:1<=ts.length
 l4:ts.length<=4
 ok:∀t∈ts,Kg t
 nd:(ts.map Tb.nm).Nodup
structure RwOk (t:Tb) (r:List Str):Prop where
 len:r.length=t.cs.length
 at':∀(i:Nat) x p,r[i]?=some x->t.cs[i]?=some p->x∈p.2
def rwD (r:List Str):D:=.tup (r.map D.str)
theorem Aaq {ds:List D}(h:∀(j:Nat) (d:D),ds[j]?=some d->∃x,d=D.str x):∃ss:List Str,ds=ss.map D.str:=by
 induction ds with
 |nil=>exact⟨[],rfl⟩
 |cons d ds ih =>
  obtain⟨x,rfl⟩:=h 0 d rfl
  obtain⟨ss,rfl⟩:=ih λj d e=>h (j+1) d (by simpa using e)
  exact⟨x::ss,rfl⟩
def Pz {k n:Nat}{t:Tb}(ht:Kg t){m0:Sto}(h:HandOk mu k (n+4)):∃r mu',FO none m0 (gTp 2 (Cy (gNm 0) (Cy (gNm 1) C0))) tY (CA Dy (Co (Cp 2) (Co (Cp 1) Cr))) [none,none,some (.ref k)] (t.cs.map clD) mu=some (r.map D.str,mu')/\Fr k n mu mu'/\RwOk t r:=by
 obtain⟨ys,mu',e,fr,hl,hp⟩:=Tc (m0:=m0) (tg:=gTp 2 (Cy (gNm 0) (Cy (gNm 1) C0))) (el:=CA Dy (Co (Cp 2) (Co (Cp 1) Cr))) (ro:=[none,none,some (.ref k)]) (λi m=>Fr k (n+4-i) mu m) (λi d=>∃x,d=D.str x/\∀p,t.cs[i]?=some p->x∈p.2) (t.cs.map clD) 0 mu (.refl h) λj d m ed fr=>by
  rw[Am] at ed
  cases q:t.cs[j]? with
  |none=>rw[q] at ed;cases ed
  |some p =>
   rw[q] at ed
   have ed':clD p=d:=AR ed
   subst ed'
   have hj:=(Ad.mp q).1
   have hm:p∈t.cs:=Aj q
   have c4:=ht.c4
   obtain⟨y,m1,e1,f1,hy⟩:=pick_run (s:=.tup (p.2.map D.str)) (n:=n+4-(0+j+1)) (.inr rfl) (by simpa using (ht.vs p hm).1) (by rw[Ak];have:=(ht.vs p hm).2;ext) (fr.hand.mono (by ext))
   obtain⟨x,hx,rfl⟩:=AK.mp hy
   refine⟨_,.str x,m1,rfl,?_,⟨x,rfl,λp' hp'=>?_⟩,fr.trans f1⟩
   ·simp![clD,e1]
   ·rw[Br,q] at hp'
    cases hp'
    exact hx
 obtain⟨r,rfl⟩:=Aaq λj d ed=>by
  obtain⟨x,hx,_⟩:=hp j d ed
  exact⟨x,hx⟩
 refine⟨r,mu',e,fr.mono ?_,⟨by simpa using hl,λi x p hx hpp=>?_⟩⟩
 ·rw[Ak]
  have:=ht.c4
  ext
 ·obtain⟨y,ey,h2⟩:=hp i (.str x) (by rw[Am,hx];rfl)
  cases ey
  exact h2 p (by rw[Br];exact hpp)
def Mt {α:Type}{xs:List α}{j:Nat}(h:j<=xs.length):PV.cutD xs none (some (j:Int))=xs.take j:=by
 unfold PV.cutD
 rw[HT.Jq,HT.Kx]
 simp[Nat.min_eq_left h]
def Sk {α:Type}{xs:List α}{j:Nat}(h:j<=xs.length):PV.cutD xs (some (j:Int)) none=xs.drop j:=by
 unfold PV.cutD
 rw[HT.Jq,HT.Kx]
 rw[Nat.min_eq_left h]
 apply Ci
 simp
end PG
namespace PV
open PySem L2 PyProof.Rows K1
variable {mu:Sto}
theorem NN (k v:D):∀ks ds:List D,(IH k v ks ds).length=ds.length
 |[],_=>rfl
 |_::_,[]=>rfl
 |_::ks,_::ds=>by rw[IH,List.length_cons,List.length_cons,NN k v ks ds]
theorem N0 (k v:D):∀ks ds:List D,∀d∈IH k v ks ds,d∈ds\/d=v
 |[],_,d,h=>.inl h
 |_::_,[],d,h=>.inl h
 |k'::ks,e::ds,d,h=>by
  rw[IH] at h
  rcases Ao.mp h with h|h
  ·split at h
   ·exact .inr h
   ·exact .inl (by rw[h];exact .head _)
  ·rcases N0 k v ks ds d h with h|h
   ·exact .inl (.tail _ h)
   ·exact .inr h
structure DictOk (ks ds:List D) (n:Nat):Prop where
 len:ks.length<=n
 eq:ds.length=ks.length
 nd:ks.Nodup
def DictOk.put {ks ds:List D}{n:Nat}(h:DictOk ks ds n)(k v:D):DictOk (DE k v ks ds).1 (DE k v ks ds).2 (n+1)/\(∀d∈(DE k v ks ds).2,d∈ds\/d=v)/\∀d∈(DE k v ks ds).1,d∈ks\/d=k:=by
 unfold DE
 by_cases c:k∈ks
 ·rw[if_pos c]
  exact⟨⟨by have:=h.len;show ks.length<=n+1;ext,by rw[NN];exact h.eq,h.nd⟩,N0 k v ks ds,λd hd=>.inl hd⟩
 ·rw[if_neg c]
  refine⟨⟨by have:=h.len;simp;ext,by simp[h.eq],?_⟩,λd hd=>?_,λd hd=>?_⟩
  ·rw[Bb]
   exact⟨h.nd,by simp,λa ha b hb e=>by rw[Ah.mp hb] at e;rw[e] at ha;exact c ha⟩
  ·rcases AF.mp hd with hd|hd
   ·exact .inl hd
   ·exact .inr (Ah.mp hd)
  ·rcases AF.mp hd with hd|hd
   ·exact .inl hd
   ·exact .inr (Ah.mp hd)
def Tu {k:Nat}{ks ds:List D}{e v:D}(h:mu[k]?=some (.dct ks ds))(he:Dn e=true)(hl:ks.length<sizeLine):putG (.ref k) e v mu=some ((),mu.set k (.dct (DE e v ks ds).1 (DE e v ks ds).2)):=by
 simp only[putG,h,he,hl,and_self,if_true]
theorem Nn:∀xs ys:List Str,(GG (xs.map D.str) (ys.map D.str)).isSome=true
 |[],[]=>rfl
 |[],_::_=>rfl
 |_::_,[]=>rfl
 |x::xs,y::ys=>by
  have ih:=Nn xs ys
  rw[Ay,Ay,GG]
  simp only[Dl,Bool.and_self,if_true]
  split
  ·exact ih
  ·rfl
theorem Ov (ss:List Str):FJ (ss.map D.str)=true:=by
 induction ss with
 |nil=>rfl
 |cons x xs ih=>simp[FJ,Fu,ih]
end PV
namespace PG
open PySem L2 PV PyProof.Rows K1
variable {mu:Sto}
def Ml {rs:List (List Str)}(h64:rs.length<4096)(hne:∀r∈rs,r≠[]):ES (rs.map rwD)=true:=by
 unfold ES
 simp only[Ai,AA,Ak,AW,Bool.or_eq_true,L9]
 refine⟨⟨⟨by ext,λd hd=>?_⟩,λd hd e he=>?_⟩,.inr λd hd=>?_⟩
 ·obtain⟨r,_,rfl⟩:=AK.mp hd
  unfold rwD Fu
  exact Ov r
 ·obtain⟨r,_,rfl⟩:=AK.mp hd
  obtain⟨q,_,rfl⟩:=AK.mp he
  unfold rwD ltB
  exact Nn r q
 ·obtain⟨r,hr,rfl⟩:=AK.mp hd
  cases r with
  |nil=>exact(hne _ hr rfl).elim
  |cons x xs =>
   have d1:=La xs
   simp only[rwD,Ay,tupS,Iy,Bool.true_and,AA]
   ext
theorem P1 {t:Tb}{ds:List D}(h:∀d∈ds,∃r,d=rwD r/\RwOk t r):∃rs:List (List Str),ds=rs.map rwD/\∀r∈rs,RwOk t r:=by
 induction ds with
 |nil=>exact⟨[],rfl,λ_ h=>nomatch h⟩
 |cons d ds ih =>
  obtain⟨r,rfl,hr⟩:=h d (.head _)
  obtain⟨rs,rfl,hs⟩:=ih λd hd=>h d (.tail _ hd)
  refine⟨r::rs,rfl,λq hq=>?_⟩
  rcases Ao.mp hq with rfl|hq
  ·exact hr
  ·exact hs q hq
def RwOk.ne {t:Tb}{r:List Str}(ht:Kg t)(h:RwOk t r):r≠[]:=λe=>by
 have:=h.len
 rw[e] at this
 have:=ht.c1
 simp at *
 ext
def tkD (n:Nat):D->D
 |.tup ds=>.tup (ds.take n)
 |d=>d
theorem NA (n:Nat)(v:D):∀ds:List D,(IH (tkD n v) v (ds.map (tkD n)) ds).map (tkD n)=ds.map (tkD n)
 |[]=>rfl
 |d::ds=>by
  rw[Ay,IH,Ay,NA n v ds]
  split
  ·rename_i h
   rw[h]
  ·rfl
def RF {n:Nat}{v:D}{ks ds:List D}(h:ks=ds.map (tkD n)):(DE (tkD n v) v ks ds).1=(DE (tkD n v) v ks ds).2.map (tkD n):=by
 subst h
 unfold DE
 split
 ·exact(NA n v ds).symm
 ·simp
structure Y1 (t:Tb) (rs:List (List Str)):Prop where
 len:rs.length<=16
 ok:∀r∈rs,RwOk t r
 nd:((rs.map rwD).map (tkD t.ks)).Nodup
structure Ut (t:Tb) (rs:List (List Str)):Prop extends Y1 t rs where
 up:(rs.map rwD).Pairwise λa b=>ltT a b=true
def flD (rs:List (List Str)):D:=.tup (rs.map rwD)
def NL:Sx:=(CN (CT (CA GA (Co (eLC (EC (Cp 5)) 2 [0] (gTp 2 (Cy (gNm 0) (Cy (gNm 1) C0))) (tY) (CA Dy (Co (Cp 2) (Co (Cp 1) Cr)))) Cr)) (gNm 9)) (CT (Cp 9) (gIx (Cp 7) (eSl (Cp 9) (pNo) (GF (Cp 6))))))
def SW {k n Dk c w:Nat}{t:Tb}(ht:Kg t){sc fnd:D}{x4 x8 x9:Option D}(hc:c<=16)(hD:mu[Dk]?=some (.dct [] []))(hkD:Dk≠k)(h:HandOk mu k (n+4*c)){m0:Sto} :
  ∃y8 y9 m' ks rs,GJ none m0 (gNm 8) NL (G9 0 c) [some (.ref k),some sc,some (.int w),some fnd,x4,some (.tup (t.cs.map clD)),some (.int t.ks),some (.ref Dk),x8,x9] mu=some ((.nx,[some (.ref k),some sc,some (.int w),some fnd,x4,some (.tup (t.cs.map clD)),some (.int t.ks),some (.ref Dk),y8,y9]),m') /\
   m'[Dk]?=some (.dct ks (rs.map rwD))/\Y1 t rs/\HandOk m' k n/\(∀j,j≠k->j≠Dk->m'[j]?=mu[j]?)/\m'.length=mu.length:=by
 obtain⟨ro',m',e,⟨y8,y9,rfl⟩,⟨ks,ds,a1,a2,a3,ak⟩,a4,a5,a6⟩:=F9 (m0:=m0) (tg:=gNm 8) (body:=NL) (λi ro m=>(∃y8 y9,ro=[some (.ref k),some sc,some (.int w),some fnd,x4,some (.tup (t.cs.map clD)),some (.int t.ks),some (.ref Dk),y8,y9])/\(∃ks ds,m[Dk]?=some (.dct ks ds)/\DictOk ks ds i/\(∀d∈ds,∃r,d=rwD r/\RwOk t r)/\ks=ds.map (tkD t.ks))/\HandOk m k (n+4*(c-i))/\(∀j,j≠k->j≠Dk->m[j]?=mu[j]?)/\m.length=mu.length) (G9 0 c) 0 _ mu ⟨⟨x8,x9,rfl⟩,⟨[],[],hD,⟨Ae _,rfl,List.nodup_nil⟩,λ_ h=>(nomatch h),rfl⟩,h,λ_ _ _=>rfl,rfl⟩ λj d ro m ed hi=>by
   obtain⟨⟨y8,y9,rfl⟩,⟨ks,ds,a1,a2,a3,ak⟩,hh,hk,hl⟩:=hi
   obtain⟨rfl,hj⟩:=OL ed
   obtain⟨r,m1,e1,f1,hr⟩:=Pz (n:=n+4*(c-(0+j+1))) ht (m0:=m) (hh.mono (by ext))
   have a1':m1[Dk]?=some (.dct ks ds):=(f1.keep Dk hkD).trans a1
   have kl:t.ks<=(r.map D.str).length:=by rw[Ak,hr.len];exact ht.k4
   have ct:=Mt kl
   have hK:Dn (.tup ((r.map D.str).take t.ks))=true:=by rw[<- List.map_take];exact QH _
   obtain⟨p1,p2,_⟩:=a2.put (.tup ((r.map D.str).take t.ks)) (rwD r)
   have z:=Tu (v:=rwD r) a1' hK (by have:=a2.len;rw[AH];ext)
   refine⟨_,m,_,_,rfl,?_,⟨some (.int j),some (rwD r),rfl⟩,⟨_,_,E7 a1',by rw[show 0+j+1=0+j+1 from rfl];exact p1,λd hd=>?_,RF (v:=rwD r) ak⟩,(f1.hand.mono (by ext)).set hkD,λi hik hiD=>?_,?_⟩
   ·unfold NL
    have rw':rwD r=.tup (r.map D.str):=rfl
    rw[rw'] at z
    simp![e1,P0,ct,z]
    rfl
   ·rcases p2 d hd with hd|rfl
    ·exact a3 d hd
    ·exact⟨r,rfl,hr⟩
   ·rw[Aw hiD.symm,f1.keep i hik,hk i hik hiD]
   ·rw[BF,f1.len,hl]
 rw[UU] at a2 a4
 obtain⟨rs,rfl,hr⟩:=P1 a3
 refine⟨y8,y9,m',ks,rs,e,a1,⟨?_,hr,ak▸a2.nd⟩,a4.mono (by ext),a5,a6⟩
 have:=a2.eq
 have:=a2.len
 simp at *
 ext
end PG
namespace PV
open PySem L2 PyProof.Rows K1
variable {mu:Sto}
theorem WW {ds:List D}(ho:∀d∈ds,Fu d=true)(nd:ds.Nodup):(FF ds).Pairwise λa b=>ltT a b=true:=by
 have p:=D3 ds
 have up:=MF ds
 have ne:=A3.mp (p.nodup_iff.mpr nd)
 refine List.Pairwise.imp_of_mem (λ{a b} ha hb ⟨l,n⟩=>?_) (up.and ne)
 cases c:ltT a b with
 |true=>rfl
 |false =>
  unfold leT at l
  exact(n (lt_eq a b (ho a (p.mem_iff.mp ha)) (ho b (p.mem_iff.mp hb)) c (by simpa using l))).elim
def LY {α β:Type}{f:α->β}{l:List α}(h:(l.map f).Nodup):l.Nodup:=by
 rw[A3] at h ⊢
 exact(B9.mp h).imp λh e=>h (congrArg f e)
end PV
namespace PG
open PySem L2 PV PyProof.Rows K1
variable {mu:Sto}
def fBody:Sx:=(CN (CT Le (gNm 7)) (CN (IJ (iRg (Co (CA C8 (Co (Cp 0) (Co (Cz DR (Cp 2) (eC (.int 1))) Cr))) Cr)) (gNm 8) NL) (sEx (IL (Cp 3) (Co (CA GA (Co (LF (Cp 7)) Cr)) Cr)))))
def WD {k:Nat}{ks ds:List D}{e:Ex}{ro:Ro}{m1:Sto}(he:e ro mu=some (.ref k,m1))(h:m1[k]?=some (.dct ks ds))(ok:ES ds=true):LF e ro mu=some (.lst (FF ds),m1):=by
 unfold LF
 rw[he]
 simp only[Kh,DC,h,ok,if_true]
def UC {k n F w:Nat}(hw:w<=16){t:Tb}(ht:Kg t){sc:D}{fs:List D}{x7 x8 x9:Option D}(hF:mu[F]?=some (.lst fs))(hfs:fs.length<=100)(hkF:F≠k)(h:HandOk mu k (n+70)) :
  ∃y7 y8 y9 m' rs,fBody [some (.ref k),some sc,some (.int w),some (.ref F),some (.str t.nm),some (.tup (t.cs.map clD)),some (.int t.ks),x7,x8,x9] mu=some ((.nx,[some (.ref k),some sc,some (.int w),some (.ref F),some (.str t.nm),some (.tup (t.cs.map clD)),some (.int t.ks),y7,y8,y9]),m') /\
   m'[F]?=some (.lst (fs++[flD rs]))/\Ut t rs/\HandOk m' k n/\(∀j,j<mu.length->j≠k->j≠F->m'[j]?=mu[j]?)/\mu.length<=m'.length:=by
 have hFl:F<mu.length:=(Ad.mp hF).1
 have hkl:=h.lt
 have h0:HandOk (mu++[MO.dct [] []]) k (n+70):=h.app
 obtain⟨_,m1,e1,f1,t1,rfl,a0,a1⟩:=Gb (m:=w+1) (n:=n+69) h0 (by ext) (by ext)
 obtain⟨c,rfl⟩:∃c:Nat,t1=(c:Int):=⟨t1.toNat,by ext⟩
 have w1:(w:Int)+1=((w+1:Nat):Int):=by ext
 have l1:=f1.len
 simp only[As,List.length_cons,List.length_nil] at l1
 have hD:m1[mu.length]?=some (.dct [] []):=by
  rw[f1.keep _ (by ext)]
  simp
 obtain⟨y8,y9,m2,ks,rs,e2,g1,g2,g3,g4,g5⟩:=SW (mu:=m1) (k:=k) (n:=n) (Dk:=mu.length) (c:=c) (w:=w) (t:=t) ht (sc:=sc) (fnd:=.ref F) (x4:=some (.str t.nm)) (x8:=x8) (x9:=x9) (by ext) hD (by ext) (f1.hand.mono (by ext)) (m0:=m1)
 have F2:m2[F]?=some (.lst fs):=by
  rw[g4 F hkF (by ext),f1.keep F hkF,Ap hFl,hF]
 have ok:=Ml (rs:=rs) (by have:=g2.len;ext) λr hr=>(g2.ok r hr).ne ht
 obtain⟨rs',er,hr'⟩:=P1 (t:=t) (ds:=FF (rs.map rwD)) λd hd=>by
  obtain⟨r,hr,rfl⟩:=AK.mp ((D3 _).mem_iff.mp hd)
  exact⟨r,rfl,g2.ok r hr⟩
 have ll:rs'.length<=16:=by
  have:=congrArg List.length er
  rw[(D3 _).length_eq,Ak,Ak] at this
  have:=g2.len
  ext
 have nd':((rs'.map rwD).map (tkD t.ks)).Nodup:=by
  rw[<- er]
  exact((D3 _).map _).nodup_iff.mpr g2.nd
 have up':(rs'.map rwD).Pairwise λa b=>ltT a b=true:=by
  rw[<- er]
  exact WW (LO ok) (LY g2.nd)
 have ap:=append_at (ro:=[some (.ref k),some sc,some (.int w),some (.ref F),some (.str t.nm),some (.tup (t.cs.map clD)),some (.int t.ks),some (.ref mu.length),y8,y9]) (i:=3) F2 F2 (y:=flD rs') (by rw[AH];ext) rfl (e:=(CA GA (Co (LF (Cp 7)) Cr))) (by
  have z:=WD (mu:=m2) (e:=Cp 7) (ro:=[some (.ref k),some sc,some (.int w),some (.ref F),some (.str t.nm),some (.tup (t.cs.map clD)),some (.int t.ks),some (.ref mu.length),y8,y9]) rfl g1 ok
  rw[er] at z
  simp![z]
  rfl)
 have rg:=Va (mu:=mu++[MO.dct [] []]) (ro:=[some (.ref k),some sc,some (.int w),some (.ref F),some (.str t.nm),some (.tup (t.cs.map clD)),some (.int t.ks),some (.ref mu.length),x8,x9]) (r:=(Co (CA C8 (Co (Cp 0) (Co (Cz DR (Cp 2) (eC (.int 1))) Cr))) Cr)) (n:=c) (m:=m1) (by simp![e1]) (by ext) (by rw[AH];ext)
 rw[Int.toNat_natCast] at rg
 refine⟨some (.ref mu.length),y8,y9,_,rs',?_,E7 F2,⟨⟨ll,hr',nd'⟩,up'⟩,g3.set hkF,λi hi hik hiF=>?_,?_⟩
 ·unfold fBody
  simp![rg,e2,ap]
 ·rw[Aw hiF.symm,g4 i hik (by ext),f1.keep i hik,Ap hi]
 ·rw[BF]
  ext
structure XC (ts:List Tb) (gs:List (List (List Str))):Prop where
 len:gs.length=ts.length
 ok:∀(j:Nat) rs t,gs[j]?=some rs->ts[j]?=some t->Ut t rs
def Sz (gs:List (List (List Str))):EG 0 (.tup (gs.map flD))=true:=by
 have hs:∀ss:List Str,Ep 0 (ss.map D.str)=true:=λss=>by
  rw[Jo]
  intro d hd
  obtain⟨x,_,rfl⟩:=AK.mp hd
  rfl
 have hr:∀rs:List (List Str),Ep 0 (rs.map rwD)=true:=λrs=>by
  rw[Jo]
  intro d hd
  obtain⟨x,_,rfl⟩:=AK.mp hd
  simpa[rwD,EG] using hs x
 simp only[EG]
 rw[Jo]
 intro d hd
 obtain⟨x,_,rfl⟩:=AK.mp hd
 simpa[flD,EG] using hr x
def Ol {k n w:Nat}(hw:w<=16){ts:List Tb}(hS:SOk ts)(hfl:Flat mu)(h:HandOk mu k (n+280)):Run (Ee [.ref k,.tup (ts.map tbD),.int w] mu) k n mu λd=>∃gs,d=.tup (gs.map flD)/\XC ts gs:=by
 have hkl:=h.lt
 have s4:=hS.l4
 obtain⟨ro',m5,e5,⟨_,_,_,_,_,_,rfl⟩,⟨gs,b1,b2,b3⟩,b6,b7,b8⟩:=F9 (m0:=mu++[MO.lst []]) (tg:=(gTp 3 (Cy (gNm 4) (Cy (gNm 5) (Cy (gNm 6) C0))))) (body:=fBody) (λi ro m=>(∃y4 y5 y6 y7 y8 y9,ro=[some (.ref k),some (.tup (ts.map tbD)),some (.int w),some (.ref mu.length),y4,y5,y6,y7,y8,y9]) /\
   (∃gs:List (List (List Str)),m[mu.length]?=some (.lst (gs.map flD))/\gs.length=i/\∀(j:Nat) rs t,gs[j]?=some rs->ts[j]?=some t->Ut t rs)/\HandOk m k (n+70*(ts.length-i))/\(∀j,j<mu.length->j≠k->m[j]?=mu[j]?)/\mu.length<m.length) (ts.map tbD) 0
   [some (.ref k),some (.tup (ts.map tbD)),some (.int w),some (.ref mu.length),none,none,none,none,none,none] (mu++[MO.lst []])
   ⟨⟨_,_,_,_,_,_,rfl⟩,⟨[],by simp,rfl,λj rs t e=>by simp at e⟩,(h.app).mono (by ext),λj hj _=>Ap hj,by simp⟩ λj d ro m ed hi=>by
  obtain⟨⟨y4,y5,y6,y7,y8,y9,rfl⟩,⟨gs,hF,gl,gk⟩,hh,hkeep,hlen⟩:=hi
  rw[Am] at ed
  cases q:ts[j]? with
  |none=>rw[q] at ed;cases ed
  |some t =>
   rw[q] at ed
   have ed':tbD t=d:=AR ed
   subst ed'
   have hj:=(Ad.mp q).1
   obtain⟨z7,z8,z9,m',rs,g1,g2,g3,g4,g5,g6⟩:=UC hw (n:=n+70*(ts.length-(0+j+1))) (hS.ok t (Aj q)) (sc:=.tup (ts.map tbD)) (x7:=y7) (x8:=y8) (x9:=y9) hF (by rw[Ak];ext) (by ext) (hh.mono (by ext))
   refine⟨[some (.ref k),some (.tup (ts.map tbD)),some (.int w),some (.ref mu.length),some (.str t.nm),some (.tup (t.cs.map clD)),some (.int t.ks),y7,y8,y9],m,_,m',rfl,g1,⟨_,_,_,_,_,_,rfl⟩,⟨gs++[rs],by rw[g2,AS];rfl,by simp[gl],λi r t' hr ht'=>?_⟩,g4,λi hi hik=>?_,by ext⟩
   ·by_cases c:i<gs.length
    ·rw[Ap c] at hr
     exact gk i r t' hr ht'
    ·have hil:=(Ad.mp hr).1
     simp only[As,List.length_cons,List.length_nil] at hil
     have:i=gs.length:=by ext
     subst this
     rw[A1 (Ae _),Nat.sub_self] at hr
     cases hr
     rw[gl,Br,q] at ht'
     cases ht'
     exact g3
   ·rw[g5 i (by ext) hik (by ext),hkeep i hi hik]
 rw[Ak,Br] at b2 b6
 have f5:Fr k n mu (m5.take mu.length):=by
  refine⟨?_,λj hj=>?_,by rw[AU];ext⟩
  ·obtain⟨x,y,z,q,r1,r2,r3⟩:=b6
   exact⟨x,y,z,by rw[Bg (by ext)];exact q,r1,r2,by ext⟩
  ·by_cases hj':j<mu.length
   ·rw[Bg hj',b7 j hj' hj]
   ·rw[BJ (by rw[AU];ext),BJ (by ext)]
 refine⟨.tup (gs.map flD),m5.take mu.length,?_,f5,gs,rfl,⟨b2,b3⟩⟩
 unfold fBody NL at e5
 simp![Ee,G6,e5,Ye b1]
 exact MT (Sz gs) (f5.flat hfl)
end PG
namespace PV
open PySem L2 PyProof.Rows K1
variable {mu:Sto}
theorem Nz (x:Str)(ss:List Str):((CJ (ss.map D.str)).any λy=>PyData.eqv y (toPy (.str x)))=decide (x∈ss):=by
 induction ss with
 |nil=>simp[CJ]
 |cons y ys ih =>
  rw[Ay,CJ,List.any_cons,ih]
  simp only[toPy,PyData.eqv,Ao]
  by_cases c:x=y
  ·subst c;simp
  ·have:(y==x)=false:=by simpa using λe:y=x=>c e.symm
   simp[c,this]
def MR {x:Str}{ss:List Str}{s:D}(hs:s=.tup (ss.map D.str)\/s=.lst (ss.map D.str)):inB mu (.str x) s=some (decide (x∈ss)):=by
 have p:=Iy ss
 have d:=La ss
 rcases hs with rfl|rfl
 ·simp only[inB,seen,Dl,p,Bool.and_self,Bool.true_and]
  rw[if_pos (by rw[AA];ext),Nz]
 ·simp only[inB,seen,Dl,p,Bool.and_self,Bool.true_and]
  rw[if_pos (by rw[AA];ext),Nz]
def SU {x:Str}{ss:List Str}:inG (.str x) (.tup (ss.map D.str)) mu=some (.bl (decide (x∈ss)),mu):=by simp only[inG,inD,MR (.inl rfl),Option.map_some]
def Yv {x:Str}{ss:List Str}:JV (.str x) (.tup (ss.map D.str)) mu=some (.bl (!decide (x∈ss)),mu):=by simp only[JV,R1,MR (.inl rfl),Option.map_some]
def YH {x a b:Str}:inG (.str x) (.tup [.str a,.str b]) mu=some (.bl (decide (x∈[a,b])),mu):=SU (ss:=[a,b])
def Es (x:Str):Dn (.str x)=true:=by simp[Dn,hsh,dpt]
def K4 {x:Str}{ks ds:List D}{v:D}(h:Dv (.str x) ks ds=some v):ixG (.dct ks ds) (.str x) mu=some (v,mu):=by
 have:ixD (.dct ks ds) (.str x) mu=none:=by simp[ixD,DW]
 simp only[ixG,this,ixC,DC,Es,if_true,h,Option.map_some]
def isN:D->Bool
 |.non=>true
 |_=>false
def Wc {d:D}:isD d .non mu=some (.bl (isN d),mu):=by cases d<;>rfl
def prD (p:Str×Str):D:=.tup [.str p.1,.str p.2]
def prK (p:Str×Str):D×D:=(.str p.1,.str p.2)
theorem Of (ps:List (Str×Str)):pairsOf (ps.map prD)=some (ps.map prK):=by
 induction ps with
 |nil=>rfl
 |cons p ps ih =>
  rw[Ay,Ay]
  unfold prD
  rw[pairsOf,if_pos (Es _)]
  unfold prD at ih
  rw[ih]
  rfl
theorem FR:∀(ps:List (D×D)) (ks vs:List D),ks.length=vs.length->(ks++ps.map (·.1)).Nodup->putAll (ks,vs) ps=(ks++ps.map (·.1),vs++ps.map (·.2))
 |[],ks,vs,_,_=>by simp[putAll]
 |p::ps,ks,vs,l,n=>by
  have h1:p.1∉ks:=λh=>by
   rw[Ay,Bb] at n
   exact n.2.2 p.1 h p.1 (.head _) rfl
  have:putAll (ks,vs) (p::ps)=putAll (ks++[p.1],vs++[p.2]) ps:=by
   unfold putAll
   rw[List.foldl_cons]
   congr 1
   unfold DE
   rw[if_neg h1]
  rw[this,FR ps (ks++[p.1]) (vs++[p.2]) (by simp[l]) (by simpa using n)]
  simp
def LC:List (Str×Str)->Str->Str
 |[],c=>c
 |p::r,c=>if p.1=c then p.2 else LC r c
theorem S4 (ps:List (Str×Str))(c:Str):(Dv (.str c) ((ps.map prK).map (·.1)) ((ps.map prK).map (·.2))).getD (.str c)=.str (LC ps c):=by
 induction ps with
 |nil=>rfl
 |cons p ps ih =>
  rw[Ay,Ay,Ay,Dv]
  unfold LC prK
  dsimp only
  by_cases e:p.1=c
  ·rw[if_pos (by rw[e]),if_pos e]
   rfl
  ·rw[if_neg (λz=>e (by injection z)),if_neg e]
   exact ih
def U6 {ps:List (Str×Str)}(h:(ps.map (·.1)).Nodup):(([]:List D)++(ps.map prK).map (·.1)).Nodup:=by
 have e:(ps.map prK).map (·.1)=(ps.map (·.1)).map D.str:=by
  rw[A8,A8]
  rfl
 rw[List.nil_append,e]
 exact UW.mpr h
def Aao {ps:List (Str×Str)}{s:D}(hs:s=.tup (ps.map prD)\/s=.lst (ps.map prD))(h:(ps.map (·.1)).Nodup):dctP [s] mu=some (.dct ((ps.map prK).map (·.1)) ((ps.map prK).map (·.2)),mu):=by
 have e:=FR (ps.map prK) [] [] rfl (U6 h)
 rw[List.nil_append,List.nil_append] at e
 rcases hs with rfl|rfl<;>simp only[dctP,sq1,Gm,IM,DW,Of,e]
def Yt {ps:List (Str×Str)}{o:Ex}{a:Exs}{ro:Ro}{c:Str}{m1 m2:Sto}(ho:o ro mu=some (.dct ((ps.map prK).map (·.1)) ((ps.map prK).map (·.2)),m1))(ha:a ro m1=some ([.str c,.str c],m2)):Gu o a ro mu=some (.str (LC ps c),m2):=by
 simp only[Gu,ho,Kh,DC,Option.isSome_some,if_true,ha,NW,Es,S4]
def S8 {xs ys:List D}(h:xs.length+ys.length<=sizeLine):DR (.lst xs) (.lst ys) mu=some (.lst (xs++ys),mu):=by
 simp only[DR,DW,h,if_true]
def Pb {xs ys:List D}(h:xs.length+ys.length<=sizeLine):DR (.tup xs) (.tup ys) mu=some (.tup (xs++ys),mu):=by
 simp only[DR,h,if_true]
theorem NZ {ds:List D}:E3 ds=true↔∀d∈ds,hsh d=true:=by
 induction ds with
 |nil=>simp[E3]
 |cons d ds ih=>simp[E3,ih]
theorem RS {n:Nat}{ds:List D}(h:∀d∈ds,dpt d<=n):Gf ds<=n:=by
 induction ds with
 |nil=>simp[Gf]
 |cons d ds ih =>
  have a:=h d (.head _)
  have b:=ih λd hd=>h d (.tail _ hd)
  simp only[Gf]
  ext
def Hn (n:Nat)(d:D):Prop:=hsh d=true/\dpt d<=n
theorem Hn.tup {n:Nat}{ds:List D}(h:∀d∈ds,Hn n d):Hn (n+1) (.tup ds):=by
 refine⟨by unfold hsh;exact NZ.mpr λd hd=>(h d hd).1,?_⟩
 have:=RS λd hd=>(h d hd).2
 unfold dpt
 ext
def Hn.up {n m:Nat}{d:D}(h:Hn n d)(l:n<=m):Hn m d:=⟨h.1,AO h.2 l⟩
def Hn.K {n:Nat}{d:D}(h:Hn n d)(l:n<=8):Dn d=true:=by
 unfold Dn
 rw[h.1,Bool.true_and,AA]
 exact AO h.2 l
theorem Hn.str (x:Str):Hn 1 (.str x):=⟨rfl,by simp[dpt]⟩
def Hn.strs (ss:List Str):Hn 2 (.tup (ss.map D.str)):=Hn.tup λd hd=>by
 obtain⟨x,_,rfl⟩:=AK.mp hd
 exact .str x
def Ow {o:MO}(h:Flat mu)(ho:Lw (mu.length+1) o=true):Flat (mu++[o]):=by
 intro j q hq
 rw[As,List.length_singleton]
 by_cases c:j<mu.length
 ·rw[Ap c] at hq
  exact M1 (Nat.le_succ _) (h j q hq)
 ·rw[A1 (by ext)] at hq
  cases e:j-mu.length with
  |zero=>rw[e] at hq;cases hq;exact ho
  |succ i=>rw[e] at hq;simp at hq
theorem To (n:Nat)(ss:List Str):Ep n (ss.map D.str)=true:=by
 induction ss with
 |nil=>rfl
 |cons x xs ih=>rw[Ay,Ep,ih];rfl
def SM {a:Ex}{r:Exs}{ro:Ro}{k:Nat}{ds:List D}{y:D}{m:Sto}(e1:a ro mu=some (.ref k,m))(h:m[k]?=some (.lst ds))(e2:r ro m=some ([y],m))(hl:ds.length<sizeLine):IL a r ro mu=some (.non,m.set k (.lst (ds++[y]))):=by
 unfold IL
 rw[e1,CM]
 dsimp only
 have ok:FL m (.ref k)=true:=by simp only[FL,h]
 rw[if_pos ok,e2,CM,h]
 dsimp only[Gm]
 rw[if_pos hl]
def Sf {o:Ex}{a:Exs}{ro:Ro}{d:Nat}{ks ds:List D}{k y:D}{m2:Sto}(eo:o ro mu=some (.ref d,mu))(h:mu[d]?=some (.dct ks ds))(ea:a ro mu=some ([k,y],m2))(h2:m2[d]?=some (.dct ks ds))(hk:Dn k=true)(l:ks.length<sizeLine) :
  Pa o a ro mu=match Dv k ks ds with
   |some v=>some (v,m2)
   |none=>some (y,m2.set d (.dct (ks++[k]) (ds++[y]))):=by
 unfold Pa
 rw[eo,CM,if_pos (show(DC mu (.ref d)).isSome=true by simp only[DC,h];rfl),ea,CM]
 unfold Um
 dsimp only
 rw[h2]
 dsimp only
 rw[if_pos ⟨hk,l⟩]
 all_goals cases Dv k ks ds<;>rfl
theorem P4 (vs:List Str):CJ (vs.map D.str)=vs.map PyData.str:=by
 induction vs with
 |nil=>rfl
 |cons v vs ih=>rw[Ay,CJ,ih];rfl
def Ub {vs:List Str}{x:Str}(h:x∈vs):E9 (vs.map D.str) (.str x)<(CJ (vs.map D.str)).length:=by
 unfold E9
 refine List.findIdx_lt_length_of_exists ⟨.str x,?_,?_⟩
 ·rw[P4]
  exact List.mem_map_of_mem h
 ·simp[toPy,PyData.eqv]
def Mw {vs:List Str}{x:Str}(h:x∈vs):ON (.tup (vs.map D.str)) [.str x] mu=some (.int (E9 (vs.map D.str) (.str x):Nat),mu):=by
 have hd:min (PyData.depthAll (CJ (vs.map D.str))) (toPy (.str x)).depth<=60:=AO (Nat.min_le_right _ _) (Qn x)
 have hp:Dl (.str x)=true:=rfl
 have hl:=Ub h
 simp only[ON,Gm,hp,Iy,hd,hl,decide_true,Bool.and_self,if_true]
def idB (a:Exs)(ro:Ro):D->Sto->Rs D
 |.tup ds,m1=>bM (a ro m1) λxs m2=>ON (.tup ds) xs m2
 |_,_=>none
def V9 {a:Ex}{e:Exs}{ro:Ro}:OR a e ro mu=bM (a ro mu) (idB e ro):=by
 unfold OR
 congr 1
 funext x m
 cases x<;>rfl
theorem Ww {e:Exs}{ro:Ro}{ds:List D}:idB e ro (.tup ds) mu=bM (e ro mu) λxs m2=>ON (.tup ds) xs m2:=rfl
theorem QM {β:Type}{i:Ix}{nc:Nat}{fvs:List Nat}{tg:Gx}{tt:Tx}{st:Mx β}{b0:β}{fin:β->Sto->D×Sto}{ro:Ro}:eCo i nc fvs tg tt st b0 fin ro mu=bM (i ro mu) λp m1=>bM (cGo p.2 m1 tg tt st (r0 nc fvs ro) p.1 b0 m1) λb m2=>some (fin b m2):=rfl
def NF (k v:D)(ks ds:List D):(DE k v ks ds).1.length<=ks.length+1:=by
 unfold DE
 split
 ·exact Nat.le_succ _
 ·rw[As];exact Ae _
theorem H8 {m0:Sto}{tg:Gx}{kk vv:Ex}{ro:Ro}(g:D->D×D):∀(ds:List D) (p:List D×List D),(∀d∈ds,∃ro1,tg d ro mu=some (ro1,mu)/\kk ro1 mu=some ((g d).1,mu)/\vv ro1 mu=some ((g d).2,mu)/\Dn (g d).1=true)->p.1.length+ds.length<=sizeLine->cGo none m0 tg tY (stD kk vv) ro ds p mu=some (putAll p (ds.map g),mu)
 |[],p,_,_=>rfl
 |d::ds,p,h,l=>by
  obtain⟨ro1,e1,e2,e3,e4⟩:=h d (.head _)
  rw[List.length_cons] at l
  have ih:=H8 (m0:=m0) (tg:=tg) (kk:=kk) (vv:=vv) (ro:=ro) g ds (DE (g d).1 (g d).2 p.1 p.2) (λd' hd=>h d' (.tail _ hd)) (by have:=NF (g d).1 (g d).2 p.1 p.2;ext)
  unfold cGo
  rw[e1,CM]
  simp only[SJ,Kh,if_true,stD,e2,e3]
  rw[if_pos ⟨e4,by ext⟩,CM,EA,if_pos (show gOk none m0 mu from True.intro),ih]
  rfl
end PV
namespace PG
open PySem L2 PV PyProof.Rows K1
variable {mu:Sto}
def UB (cs:List Str):D->Bool
 |.str x=>decide (x∈cs)
 |_=>false
def csD (cs:List Str):D:=.tup (cs.map D.str)
def Lj {cs:List Str}{ps:List (Str×Str)}(h:(ps.map (·.1)).Nodup):Dt [csD cs,.tup (ps.map prD)] mu=some (csD (cs.map (LC ps)),mu):=by
 have al:=HK (m0:=mu) (tg:=gNm 0) (el:=Gu (Cp 1) (Co (Cp 0) (Co (Cp 0) Cr))) (ro:=[none,some (.dct ((ps.map prK).map (·.1)) ((ps.map prK).map (·.2)))]) (mu:=mu) (λd=>match d with|.str c=>.str (LC ps c)|_=>.non) (cs.map D.str) (λd hd=>by
  obtain⟨c,_,rfl⟩:=AK.mp hd
  exact⟨_,rfl,Yt rfl rfl⟩)
 have e:(cs.map D.str).map (λd=>match d with|.str c=>D.str (LC ps c)|_=>.non)=(cs.map (LC ps)).map D.str:=by
  rw[A8,A8]
  rfl
 rw[e] at al
 simp![Dt,FP,csD,Aao (.inl rfl) h,al]
def VP (one other:List Str):List Str:=one++other.filter λc=>!decide (c∈one)
def Sw {m0:Sto}(one other:List Str):FO none m0 (gNm 0) (tV (Cz JV (Cp 0) (Cp 1))) (Cp 0) [none,some (csD one)] (other.map D.str) mu=some ((other.filter λc=>!decide (c∈one)).map D.str,mu):=by
 have:=Jx (m0:=m0) (tg:=gNm 0) (tt:=tV (Cz JV (Cp 0) (Cp 1))) (el:=Cp 0) (ro:=[none,some (csD one)]) (mu:=mu) (λd=>!UB one d) id (other.map D.str) (λd hd=>by
  obtain⟨c,_,rfl⟩:=AK.mp hd
  refine⟨_,rfl,?_,λ_=>rfl⟩
  have i:JV (.str c) (csD one) mu=some (.bl (!UB one (.str c)),mu):=Yv
  simp![i])
 rw[this,List.map_id,List.filter_map]
 rfl
def Pf {one other:List Str}(h:one.length+other.length<=4000):DG [csD one,csD other] mu=some (csD (VP one other),mu):=by
 have l:=Bp (λc=>!decide (c∈one)) other
 have za:DR (.tup (one.map D.str)) (.tup ((other.filter λc=>!decide (c∈one)).map D.str)) mu=some (csD (VP one other),mu):=by
  unfold DR
  dsimp only
  rw[if_pos (by simp only[Ak,AH];ext)]
  simp[csD,VP]
 have lc:=Sw (m0:=mu) (mu:=mu) one other
 unfold csD at lc ⊢
 unfold csD at za
 simp![DG,FU,lc,za]
def Hn.row (r:List Str):Hn 2 (rwD r):=Hn.strs r
def M0 {a b:List Str}:rwD a=rwD b↔a=b:=by
 constructor
 ·intro h
  have h':a.map D.str=b.map D.str:=by unfold rwD at h;injection h
  exact(List.map_inj_right (λx y e=>by injection e)).mp h'
 ·rintro rfl;rfl
theorem Nl (n:Nat)(rs:List (List Str)):Ep n (rs.map rwD)=true:=by
 induction rs with
 |nil=>rfl
 |cons x xs ih =>
  rw[Ay,Ep,ih]
  show(Ep n (x.map D.str)&&true)=true
  rw[To]
  rfl
def Mj {ks:List (List Str)}(h:ks.Nodup):(ks.map rwD).Nodup:=by
 rw[A3,B9]
 exact(A3.mp h).imp λn e=>n (M0.mp e)
end PG
namespace PV
open PySem L2 PyProof.Rows K1
variable {mu:Sto}
def IV {v:Str}{vs:List Str}:E9 ((v::vs).map D.str) (.str v)=0:=by
 unfold E9
 rw[Ay,CJ,List.findIdx_cons]
 simp[toPy,PyData.eqv]
def K9 {v:Str}{vs:List Str}{x:Str}(h:x≠v):E9 ((v::vs).map D.str) (.str x)=E9 (vs.map D.str) (.str x)+1:=by
 have:¬ v=x:=λz=>h z.symm
 unfold E9
 rw[Ay,CJ,List.findIdx_cons]
 simp[toPy,PyData.eqv]
 rw[beq_false_of_ne this]
 rfl
def nums (S:List D):MO:=.dct S ((List.range S.length).map λ(i:Nat)=>D.int i)
def P7 {a:Nat}{ks ds:List D}(h:mu[a]?=some (.dct ks ds)):II [.ref a] mu=some (.int ks.length,mu):=by
 have e:NS [.ref a] mu=none:=by simp[NS,Xm,DW,h,Gm]
 unfold II
 rw[e]
 simp[RP,Gm,DC,h]
end PV
namespace PG
open PySem L2 PV PyProof.Rows K1
variable {mu:Sto}
def VW {a:Nat}{S:List D}{st:D}(h:mu[a]?=some (nums S))(hn:st∉S)(hk:Dn st=true)(hl:S.length<=100):CZ [.ref a,st] mu=some (.int S.length,mu.set a (nums (S++[st]))):=by
 have ln:=P7 h
 have ea:(Co (Cp 1) (Co (CA II (Co (Cp 0) Cr)) Cr)) [some (.ref a),some st] mu=some ([st,.int S.length],mu):=by simp![ln]
 have sd:=Sf (mu:=mu) (o:=Cp 0) (ro:=[some (.ref a),some st]) (d:=a) rfl h ea h hk (by rw[AH];ext)
 rw[F1 hn] at sd
 have e:nums (S++[st])=.dct (S++[st]) ((List.range S.length).map (λ(i:Nat)=>D.int i)++[.int S.length]):=by
  unfold nums
  rw[As,List.length_singleton,List.range_succ,AS]
  rfl
 rw[e]
 simp![CZ,GS,sd]
def VR {a i:Nat}{S:List D}{st:D}(h:mu[a]?=some (nums S))(nd:S.Nodup)(hi:S[i]?=some st)(hk:Dn st=true)(hl:S.length<=100):CZ [.ref a,st] mu=some (.int i,mu):=by
 have ln:=P7 h
 have il:=(Ad.mp hi).1
 have ea:(Co (Cp 1) (Co (CA II (Co (Cp 0) Cr)) Cr)) [some (.ref a),some st] mu=some ([st,.int S.length],mu):=by simp![ln]
 have sd:=Sf (mu:=mu) (o:=Cp 0) (ro:=[some (.ref a),some st]) (d:=a) rfl h ea h hk (by rw[AH];ext)
 rw[GZ nd hi,Am,List.getElem?_range il] at sd
 simp![CZ,GS,sd,Option.map_some]
def GN {cs ws:List Str}{s:D}(hs:s=.tup (ws.map D.str)\/s=.lst (ws.map D.str))(h:∀w∈ws,w∈cs):DA [csD cs,s] mu=some (.tup (ws.map λw=>D.int (E9 (cs.map D.str) (.str w):Nat)),mu):=by
 have lc:=HK (m0:=mu) (tg:=gNm 0) (el:=(OR (Cp 1) (Co (Cp 0) Cr))) (ro:=[none,some (csD cs)]) (mu:=mu) (λd=>D.int (E9 (cs.map D.str) d:Nat)) (ws.map D.str) (λd hd=>by
  obtain⟨w,hw,rfl⟩:=AK.mp hd
  refine⟨_,rfl,?_⟩
  have ix:=Mw (mu:=mu) (h w hw)
  unfold csD
  simp![V9,Ww,ix])
 rw[A8] at lc
 rcases hs with rfl|rfl<;>simp![DA,Ih,lc]<;>rfl
def Lh {b:Nat}{look:D}(h:mu[b]?=some (.lst [])):Ew [.ref b,look] mu=some (.non,mu):=by
 have w:HL mu (.ref b)=some (([],some b),mu):=by
  show(match mu[b]? with|some (.lst ds)=>_|_=>_)=_
  rw[h]
 simp![Ew,G8,w,GJ]
def Sm {w:Str}{b:Bool}(h:decide (w∈(["join","union","gap"]:List Str))=b):inG (.str w) (.tup [.str "join",.str "union",.str "gap"]) mu=some (.bl b,mu):=by rw[<- h];exact SU (ss:=["join","union","gap"])
def LV {n a i:Nat}{b:D}{ks vs:List D}{nm:Str}{c:D}{m1:Sto}(g:Dv (.str nm) ks vs=some c)(num:CZ [.ref a,.tup [.str "of",.str nm]] mu=some (.int i,m1)):Cs (n+1) [.dct ks vs,.ref a,b,.tup [.str "of",.str nm]] mu=some (.tup [c,.int i],m1):=by
 have ix:=K4 (mu:=mu) g
 have d1:decide (Str.ofString "of"=Str.ofString "of")=true:=by simp
 simp![Cs,CU,d1,ix,num]
def Hq {n a i j:Nat}{b kn L ws p:D}{cs:List Str}{m1 m2:Sto}(e1:Cs n [kn,.ref a,b,L] mu=some (.tup [csD cs,.int i],m1))(pl:DA [csD cs,ws] m1=some (p,m1))(num:CZ [.ref a,.tup [.str "columns",.int i,p]] m1=some (.int j,m2)):Cs (n+1) [kn,.ref a,b,.tup [.str "columns",L,ws]] mu=some (.tup [ws,.int j],m2):=by
 have d1:decide (Str.ofString "columns"=Str.ofString "of")=false:=by symm
 have d2:=Sm (mu:=mu) (w:="columns") (b:=false) (by symm)
 have d3:decide (Str.ofString "columns"=Str.ofString "rows")=false:=by symm
 have d4:decide (Str.ofString "columns"=Str.ofString "columns")=true:=by simp
 simp![Cs,CU,d1,d2,d3,d4,e1,pl,num]
def U1 {n a i j:Nat}{b kn L ts p:D}{cs:List Str}{m1 m2:Sto}(e1:Cs n [kn,.ref a,b,L] mu=some (.tup [csD cs,.int i],m1))(pl:DV [csD cs,ts] m1=some (p,m1))(num:CZ [.ref a,.tup [.str "rows",.int i,p]] m1=some (.int j,m2)):Cs (n+1) [kn,.ref a,b,.tup [.str "rows",L,ts]] mu=some (.tup [csD cs,.int j],m2):=by
 have d1:decide (Str.ofString "rows"=Str.ofString "of")=false:=by symm
 have d2:=Sm (mu:=mu) (w:="rows") (b:=false) (by symm)
 have d3:decide (Str.ofString "rows"=Str.ofString "rows")=true:=by simp
 simp![Cs,CU,d1,d2,d3,e1,pl,num]
def JZ {n a i:Nat}{b kn L ps c:D}{cs:List Str}{m1:Sto}(e1:Cs n [kn,.ref a,b,L] mu=some (.tup [csD cs,.int i],m1))(pl:Dt [csD cs,ps] m1=some (c,m1)):Cs (n+1) [kn,.ref a,b,.tup [.str "called",L,ps]] mu=some (.tup [c,.int i],m1):=by
 have d1:decide (Str.ofString "called"=Str.ofString "of")=false:=by symm
 have d2:=Sm (mu:=mu) (w:="called") (b:=false) (by symm)
 have d3:decide (Str.ofString "called"=Str.ofString "rows")=false:=by symm
 have d4:decide (Str.ofString "called"=Str.ofString "columns")=false:=by symm
 simp![Cs,CU,d1,d2,d3,d4,e1,pl]
def Ox {b:Nat}{x y:D}{ro:Ro}(h:mu[b]?=some (.lst []))(hx:(Co (Dq (Co (Cp 3) (Co (Cp 4) Cr))) Cr) ro mu=some ([y],mu))(hb:Cp 2 ro mu=some (.ref b,mu)):IL (Cp 2) (Co (Dq (Co (Cp 3) (Co (Cp 4) Cr))) Cr) ro mu=some (.non,mu.set b (.lst [y])):=SM hb h hx (by rw[AH];decide)
def R7 {n a b i j l:Nat}{kn L M c1 c2:D}{m1 m2 m3:Sto}(hb:mu[b]?=some (.lst []))(e1:Cs n [kn,.ref a,.ref b,L] mu=some (.tup [c1,.int i],m1))(e2:Cs n [kn,.ref a,.ref b,M] m1=some (.tup [c2,.int j],m2))(num:CZ [.ref a,.tup [.str "gap",.int i,.int j]] m2=some (.int l,m3))(hb3:m3[b]?=some (.lst [])) :
  ∃o,Cs (n+1) [kn,.ref a,.ref b,.tup [.str "gap",L,M]] mu=some (.tup [c1,.int l],m3.set b o):=by
 refine⟨.lst [.tup [.tup [.str "gap",L,M],.tup [c1,.int l]]],?_⟩
 have d1:decide (Str.ofString "gap"=Str.ofString "of")=false:=by symm
 have d2:=Sm (mu:=mu) (w:="gap") (b:=true) (by symm)
 have d3:decide (Str.ofString "gap"=Str.ofString "join")=false:=by symm
 have fa:=Lh (mu:=mu) (look:=.tup [.str "gap",L,M]) hb
 have ap:=Ox (mu:=m3) (x:=.non) (y:=.tup [.tup [.str "gap",L,M],.tup [c1,.int l]]) (ro:=[some kn,some (.ref a),some (.ref b),some (.tup [.str "gap",L,M]),some (.tup [c1,.int l]),some (.str "gap"),some c1,some (.int i),some c2,some (.int j),some (.tup [.str "gap",.int i,.int j])]) hb3 rfl rfl
 have ii:isN .non=true:=rfl
 generalize hE:IL (Cp 2) (Co (Dq (Co (Cp 3) (Co (Cp 4) Cr))) Cr)=E at ap
 simp![Cs,CU,Dc,hE,d1,d2,d3,fa,Wc,ii,e1,e2,num,ap]
def Vv {n a b i j l:Nat}{kn L M p c:D}{c1 c2:D}{m1 m2 m3:Sto}(hb:mu[b]?=some (.lst []))(e1:Cs n [kn,.ref a,.ref b,L] mu=some (.tup [c1,.int i],m1))(e2:Cs n [kn,.ref a,.ref b,M] m1=some (.tup [c2,.int j],m2))(jp:Eg [c1,c2] m2=some (p,m2))(jc:DG [c1,c2] m2=some (c,m2))(num:CZ [.ref a,.tup [.str "join",.int i,.int j,p]] m2=some (.int l,m3))(hb3:m3[b]?=some (.lst [])) :
  ∃o,Cs (n+1) [kn,.ref a,.ref b,.tup [.str "join",L,M]] mu=some (.tup [c,.int l],m3.set b o):=by
 refine⟨.lst [.tup [.tup [.str "join",L,M],.tup [c,.int l]]],?_⟩
 have d1:decide (Str.ofString "join"=Str.ofString "of")=false:=by symm
 have d2:=Sm (mu:=mu) (w:="join") (b:=true) (by symm)
 have d3:decide (Str.ofString "join"=Str.ofString "join")=true:=by simp
 have fa:=Lh (mu:=mu) (look:=.tup [.str "join",L,M]) hb
 have ap:=Ox (mu:=m3) (x:=.non) (y:=.tup [.tup [.str "join",L,M],.tup [c,.int l]]) (ro:=[some kn,some (.ref a),some (.ref b),some (.tup [.str "join",L,M]),some (.tup [c,.int l]),some (.str "join"),some c1,some (.int i),some c2,some (.int j),some (.tup [.str "join",.int i,.int j,p])]) hb3 rfl rfl
 have ii:isN .non=true:=rfl
 generalize hE:IL (Cp 2) (Co (Dq (Co (Cp 3) (Co (Cp 4) Cr))) Cr)=E at ap
 simp![Cs,CU,Dc,hE,d1,d2,d3,fa,Wc,ii,e1,e2,jp,jc,num,ap]
def Aau {m0:Sto}(one other:List Str):FO none m0 (gNm 0) (tV (Cz inG (Cp 0) (Cp 1))) (Cp 0) [none,some (csD one)] (other.map D.str) mu=some ((other.filter λc=>decide (c∈one)).map D.str,mu):=by
 have:=Jx (m0:=m0) (tg:=gNm 0) (tt:=tV (Cz inG (Cp 0) (Cp 1))) (el:=Cp 0) (ro:=[none,some (csD one)]) (mu:=mu) (UB one) id (other.map D.str) (λd hd=>by
  obtain⟨c,_,rfl⟩:=AK.mp hd
  refine⟨_,rfl,?_,λ_=>rfl⟩
  have i:inG (.str c) (csD one) mu=some (.bl (UB one (.str c)),mu):=SU
  simp![i])
 rw[this,List.map_id,List.filter_map]
 rfl
def Oh {one other:List Str}:Eg [csD one,csD other] mu=some (.tup [.tup ((one.filter λc=>decide (c∈other)).map λw=>D.int (E9 (one.map D.str) (.str w):Nat)),.tup ((one.filter λc=>decide (c∈other)).map λw=>D.int (E9 (other.map D.str) (.str w):Nat)),.tup ((other.filter λc=>!decide (c∈one)).map λw=>D.int (E9 (other.map D.str) (.str w):Nat))],mu):=by
 have l1:=Aau (m0:=mu) (mu:=mu) other one
 have l2:=Sw (m0:=mu) (mu:=mu) one other
 have w1:HL mu (csD one)=some ((one.map D.str,none),mu):=rfl
 have w2:HL mu (csD other)=some ((other.map D.str,none),mu):=rfl
 have p1:=GN (mu:=mu) (cs:=one) (ws:=one.filter λc=>decide (c∈other)) (.inr rfl) (λw hw=>(Bd.mp hw).1)
 have p2:=GN (mu:=mu) (cs:=other) (ws:=one.filter λc=>decide (c∈other)) (.inr rfl) (λw hw=>by simpa using (Bd.mp hw).2)
 have p3:=GN (mu:=mu) (cs:=other) (ws:=other.filter λc=>!decide (c∈one)) (.inr rfl) (λw hw=>(Bd.mp hw).1)
 simp![Eg,G7,w1,w2,l1,l2,p1,p2,p3]
def QR {cs:List Str}{x y:Str}(hx:x∈cs)(hy:y∈cs):DV [csD cs,.tup [.tup [.str "unlike",.str x,.str y]]] mu=some (.tup [.tup [.str "unlike",.int (E9 (cs.map D.str) (.str x):Nat),.int (E9 (cs.map D.str) (.str y):Nat)]],mu):=by
 have ix:=Mw (mu:=mu) hx
 have iy:=Mw (mu:=mu) hy
 have inn:inG (.str "unlike") (.tup [.str "is",.str "not"]) mu=some (.bl false,mu):=by
  rw[YH]
  rw[show decide (Str.ofString "unlike"∈[Str.ofString "is",Str.ofString "not"])=false by symm]
 have tb:D7 [csD cs,.tup [.str "unlike",.str x,.str y]] mu=some (.tup [.str "unlike",.int (E9 (cs.map D.str) (.str x):Nat),.int (E9 (cs.map D.str) (.str y):Nat)],mu):=by
  unfold csD
  simp![D7,Gq,V9,Ww,ix,iy,inn]
 have lc:=HK (m0:=mu) (tg:=gNm 0) (el:=(CA D7 (Co (Cp 1) (Co (Cp 0) Cr)))) (ro:=[none,some (csD cs)]) (mu:=mu) (λ_=>.tup [.str "unlike",.int (E9 (cs.map D.str) (.str x):Nat),.int (E9 (cs.map D.str) (.str y):Nat)]) [.tup [.str "unlike",.str x,.str y]] (λd hd=>by
  rw[Ah.mp hd]
  refine⟨_,rfl,?_⟩
  simp![tb])
 simp![DV,FV,lc,Ay,List.map_nil]
structure St (a b:Nat) (mu:Sto) (S:List D) (x:MO) (m:Sto):Prop where
 na:m[a]?=some (nums S)
 nb:m[b]?=some x
 tk:m.take mu.length=mu
 al:mu.length<=a
 bl:mu.length<=b
 ab:a≠b
def take_set {α:Type}{l:List α}{i n:Nat}{x:α}(h:n<=i):(l.set i x).take n=l.take n:=by
 apply A6
 intro j
 by_cases c:j<n
 ·rw[Bg c,Bg c,Aw (by ext)]
 ·rw[BJ (by rw[AU];ext),BJ (by rw[AU];ext)]
def St.num {a b:Nat}{S:List D}{x:MO}{m:Sto}{st:D}(h:St a b mu S x m)(hn:st∉S)(hk:Dn st=true)(hl:S.length<=100):∃m',CZ [.ref a,st] m=some (.int S.length,m')/\St a b mu (S++[st]) x m':=
 ⟨_,VW h.na hn hk hl,E7 h.na,by rw[Aw h.ab];exact h.nb,by rw[take_set h.al];exact h.tk,h.al,h.bl,h.ab⟩
def St.setb {a b:Nat}{S:List D}{x y:MO}{m:Sto}(h:St a b mu S x m):St a b mu S y (m.set b y):=
 ⟨by rw[Aw h.ab.symm];exact h.na,E7 h.nb,by rw[take_set h.bl];exact h.tk,h.al,h.bl,h.ab⟩
def St.new:St mu.length (mu.length+1) mu [] (.lst []) (mu++[MO.dct [] []]++[MO.lst []]):=
 ⟨by simp[nums],by simp,by simp,Ae _,Nat.le_succ _,by ext⟩
def JM {sch look:D}{kn:D}{S:List D}{x:MO}{r:D}{m:Sto}(hfl:Flat mu)(bn:∀m:Sto,CV [sch] m=some (kn,m))(cn:Cs 10 [kn,.ref mu.length,.ref (mu.length+1),look] (mu++[MO.dct [] []]++[MO.lst []])=some (r,m))(h:St mu.length (mu.length+1) mu S x m)(hS:Ep 0 S=true):Er [sch,look] mu=some (.lst S,mu):=by
 have lk:lstK [.ref mu.length] m=some (.lst S,m):=by
  have:=h.na
  unfold nums at this
  simp only[lstK,Gm,DC,this]
 have ct:=MT (mu:=mu) (m:=m) (d:=.lst S) (by show Ep 0 S=true;exact hS) (by rw[h.tk];exact hfl)
 rw[h.tk] at ct
 have ln:(mu++[MO.dct [] []]).length=mu.length+1:=by simp
 simp![Er,IS,bn,ln,cn,lk,ct]
def lkN (n0 w1:Str):D:=.tup [.str "columns",.tup [.str "of",.str n0],.tup [.str w1]]
def lkT (n1 w1 w2:Str):D:=.tup [.str "called",.tup [.str "columns",.tup [.str "of",.str n1],.tup [.str w2]],.tup [.tup [.str w2,.str w1]]]
def lkO (n0 w0:Str):D:=.tup [.str "called",.tup [.str "of",.str n0],.tup [.tup [.str w0,.str "otherone"]]]
def KC (n0 n1 w1 w2:Str):D:=.tup [.str "gap",lkN n0 w1,lkT n1 w1 w2]
def KR (n0 n1 w1 w2:Str):D:=.tup [.str "gap",lkT n1 w1 w2,lkN n0 w1]
def Nv (n0 w0:Str):D:=.tup [.str "rows",.tup [.str "join",.tup [.str "of",.str n0],lkO n0 w0],.tup [.tup [.str "unlike",.str w0,.str "otherone"]]]
def EE (n:Str):D:=.tup [.str "of",.str n]
def Ei (i p:Nat):D:=.tup [.str "columns",.int i,.tup [.int p]]
def GR (i j:Nat):D:=.tup [.str "gap",.int i,.int j]
def Gj:D:=.tup [.str "join",.int (0:Nat),.int (0:Nat),.tup [.tup [.int (1:Nat)],.tup [.int (1:Nat)],.tup [.int (0:Nat)]]]
def FT:D:=.tup [.str "rows",.int (1:Nat),.tup [.tup [.str "unlike",.int (0:Nat),.int (2:Nat)]]]
structure Kn (kn:D) (n0 n1 w0 w1 w2 w3:Str):Prop where
 k:∃ks vs,kn=.dct ks vs/\Dv (.str n0) ks vs=some (csD [w0,w1])/\Dv (.str n1) ks vs=some (csD [w2,w3])
 n:n0≠n1
 w01:w0≠w1
 o0:w0≠"otherone"
 o1:w1≠"otherone"
section
variable {kn sch:D}{n0 n1 w0 w1 w2 w3:Str}
def Zf {m:Sto}(h:w0≠w1):DA [csD [w0,w1],.tup [.str w1]] m=some (.tup [.int (1:Nat)],m):=by
 have p:=GN (mu:=m) (cs:=[w0,w1]) (ws:=[w1]) (.inl rfl) (by simp)
 have e:E9 ([w0,w1].map D.str) (.str w1)=1:=by rw[K9 (vs:=[w1]) (λe=>h e.symm),IV]
 have e':([w1].map λw=>D.int (E9 ([w0,w1].map D.str) (.str w):Nat))=[D.int (1:Nat)]:=by rw[List.map_singleton,e]
 rw[e'] at p
 exact p
def Za {m:Sto}:DA [csD [w2,w3],.tup [.str w2]] m=some (.tup [.int (0:Nat)],m):=by
 have p:=GN (mu:=m) (cs:=[w2,w3]) (ws:=[w2]) (.inl rfl) (by simp)
 have e':([w2].map λw=>D.int (E9 ([w2,w3].map D.str) (.str w):Nat))=[D.int (0:Nat)]:=by rw[List.map_singleton,IV]
 rw[e'] at p
 exact p
def Wy {m:Sto}{a b c:Str}:Dt [csD [a],.tup [.tup [.str a,.str b]]] m=some (csD [b],m):=by
 have:=Lj (mu:=m) (cs:=[a]) (ps:=[(a,b)]) (by simp)
 simpa[LC,prD] using this
def ZU {m:Sto}{a b c:Str}(h:a≠b):Dt [csD [a,b],.tup [.tup [.str a,.str c]]] m=some (csD [c,b],m):=by
 have:=Lj (mu:=m) (cs:=[a,b]) (ps:=[(a,c)]) (by simp)
 simpa[LC,prD,h,Ne.symm h] using this
def Pt (K:Kn kn n0 n1 w0 w1 w2 w3)(hfl:Flat mu)(bn:∀m:Sto,CV [sch] m=some (kn,m)):Er [sch,KC n0 n1 w1 w2] mu=some (.lst [EE n0,Ei 0 1,EE n1,Ei 2 0,GR 1 3],mu):=by
 obtain⟨ks,vs,rfl,g0,g1⟩:=K.k
 have n1':=K.n
 have s0:=St.new (mu:=mu)
 obtain⟨m1,e1,s1⟩:=s0.num (st:=EE n0) (by simp) (by simp[Dn,EE,hsh,E3,dpt,Gf]) (by simp)
 obtain⟨m2,e2,s2⟩:=s1.num (st:=Ei 0 1) (by simp[EE,Ei]) (by simp[Dn,Ei,hsh,E3,dpt,Gf]) (by simp)
 obtain⟨m3,e3,s3⟩:=s2.num (st:=EE n1) (by simp[EE,Ei];exactλe=>n1' e.symm) (by simp[Dn,EE,hsh,E3,dpt,Gf]) (by simp)
 obtain⟨m4,e4,s4⟩:=s3.num (st:=Ei 2 0) (by simp[EE,Ei]) (by simp[Dn,Ei,hsh,E3,dpt,Gf]) (by simp)
 obtain⟨m5,e5,s5⟩:=s4.num (st:=GR 1 3) (by simp[EE,Ei,GR]) (by simp[Dn,GR,hsh,E3,dpt,Gf]) (by simp)
 have c1:=LV (n:=7) (b:=.ref (mu.length+1)) g0 e1
 have c2:=Hq (cs:=[w0,w1]) c1 (Zf K.w01) e2
 have c3:=LV (n:=6) (b:=.ref (mu.length+1)) g1 e3
 have c4:=Hq (cs:=[w2,w3]) c3 Za e4
 have c5:=JZ (cs:=[w2]) c4 (Wy (b:=w1) (c:=w1))
 obtain⟨o,c6⟩:=R7 s0.nb c2 c5 e5 s5.nb
 exact JM hfl bn c6 s5.setb (by simp[Ep,EG,EE,Ei,GR])
def Ph (K:Kn kn n0 n1 w0 w1 w2 w3)(hfl:Flat mu)(bn:∀m:Sto,CV [sch] m=some (kn,m)):Er [sch,KR n0 n1 w1 w2] mu=some (.lst [EE n1,Ei 0 0,EE n0,Ei 2 1,GR 1 3],mu):=by
 obtain⟨ks,vs,rfl,g0,g1⟩:=K.k
 have n1':=K.n
 have s0:=St.new (mu:=mu)
 obtain⟨m1,e1,s1⟩:=s0.num (st:=EE n1) (by simp) (by simp[Dn,EE,hsh,E3,dpt,Gf]) (by simp)
 obtain⟨m2,e2,s2⟩:=s1.num (st:=Ei 0 0) (by simp[EE,Ei]) (by simp[Dn,Ei,hsh,E3,dpt,Gf]) (by simp)
 obtain⟨m3,e3,s3⟩:=s2.num (st:=EE n0) (by simp[EE,Ei];exactλe=>n1' e) (by simp[Dn,EE,hsh,E3,dpt,Gf]) (by simp)
 obtain⟨m4,e4,s4⟩:=s3.num (st:=Ei 2 1) (by simp[EE,Ei]) (by simp[Dn,Ei,hsh,E3,dpt,Gf]) (by simp)
 obtain⟨m5,e5,s5⟩:=s4.num (st:=GR 1 3) (by simp[EE,Ei,GR]) (by simp[Dn,GR,hsh,E3,dpt,Gf]) (by simp)
 have c1:=LV (n:=6) (b:=.ref (mu.length+1)) g1 e1
 have c2:=Hq (cs:=[w2,w3]) c1 Za e2
 have c3:=JZ (cs:=[w2]) c2 (Wy (b:=w1) (c:=w1))
 have c4:=LV (n:=7) (b:=.ref (mu.length+1)) g0 e3
 have c5:=Hq (cs:=[w0,w1]) c4 (Zf K.w01) e4
 obtain⟨o,c6⟩:=R7 s0.nb c3 c5 e5 s5.nb
 exact JM hfl bn c6 s5.setb (by simp[Ep,EG,EE,Ei,GR])
def Rg (K:Kn kn n0 n1 w0 w1 w2 w3)(hfl:Flat mu)(bn:∀m:Sto,CV [sch] m=some (kn,m)):Er [sch,Nv n0 w0] mu=some (.lst [EE n0,Gj,FT],mu):=by
 obtain⟨ks,vs,rfl,g0,g1⟩:=K.k
 have s0:=St.new (mu:=mu)
 have k0:Dn (EE n0)=true:=by simp[Dn,EE,hsh,E3,dpt,Gf]
 obtain⟨m1,e1,s1⟩:=s0.num (st:=EE n0) (by simp) k0 (by simp)
 have e2:=VR (mu:=m1) (i:=0) (st:=EE n0) s1.na (by simp) rfl k0 (by simp)
 obtain⟨m2,e3,s2⟩:=s1.num (st:=Gj) (by simp[EE,Gj]) (by simp[Dn,Gj,hsh,E3,dpt,Gf]) (by simp)
 have w10:¬ w1=w0:=λe=>K.w01 e.symm
 have w1o:¬ w1="otherone":=K.o1
 have w0o:¬ w0="otherone":=K.o0
 have wo1:¬ Str.ofString "otherone"=w1:=λe=>K.o1 e.symm
 have wo0:¬ Str.ofString "otherone"=w0:=λe=>K.o0 e.symm
 have sp1:E9 ([w0,w1].map D.str) (.str w1)=1:=by rw[K9 w10,IV]
 have sp2:E9 ([Str.ofString "otherone",w1].map D.str) (.str w1)=1:=by rw[K9 w1o,IV]
 have sp3:E9 ([Str.ofString "otherone",w1].map D.str) (.str "otherone")=0:=IV
 have sp4:E9 ([w0,w1,Str.ofString "otherone"].map D.str) (.str "otherone")=2:=by rw[K9 wo0,K9 wo1,IV]
 have sp5:E9 ([w0,w1,Str.ofString "otherone"].map D.str) (.str w0)=0:=IV
 have f1:([w0,w1].filter λc=>decide (c∈[Str.ofString "otherone",w1]))=[w1]:=by simp[List.filter,w0o,K.w01]
 have f2:([Str.ofString "otherone",w1].filter λc=>!decide (c∈[w0,w1]))=[Str.ofString "otherone"]:=by simp[List.filter,wo0,wo1]
 have c1:=LV (n:=7) (b:=.ref (mu.length+1)) g0 e1
 have c2:=LV (n:=6) (b:=.ref (mu.length+1)) g0 e2
 have c3:=JZ (cs:=[w0,w1]) c2 (ZU (c:="otherone") K.w01)
 have jp:=Oh (mu:=m1) (one:=[w0,w1]) (other:=["otherone",w1])
 rw[f1,f2] at jp
 simp only[Ay,List.map_nil] at jp sp1 sp2 sp3
 rw[sp1,sp2,sp3] at jp
 have jc:=Pf (mu:=m1) (one:=[w0,w1]) (other:=["otherone",w1]) (by simp)
 unfold VP at jc
 rw[f2] at jc
 obtain⟨o,c4⟩:=Vv s0.nb c1 c3 jp jc e3 s2.nb
 have s3:=s2.setb (y:=o)
 obtain⟨m3,e4,s4⟩:=s3.num (st:=FT) (by simp[EE,Gj,FT]) (by simp[Dn,FT,hsh,E3,dpt,Gf]) (by simp)
 have tr:=QR (mu:=m2.set (mu.length+1) o) (cs:=[w0,w1,"otherone"]) (x:=w0) (y:="otherone") (by simp) (by simp)
 rw[sp4,sp5] at tr
 have c5:=U1 (cs:=[w0,w1,"otherone"]) c4 tr e4
 exact JM hfl bn c5 s4 (by simp[Ep,EG,EE,Gj,FT])
end
end PG
namespace PV
open PySem L2 PyProof.Rows K1
variable {mu:Sto}
def Wx {m:Exs}{ro:Ro}{xs ys:List D}{m1:Sto}(h:m ro mu=some ([.tup xs,.tup ys],m1)):Ri m ro mu=some ((HQ xs ys,none),m1):=by
 simp only[Ri,orI,iZp,XB,h,Kh,SG,Qt,Option.map_none,Option.map_some]
def QS {o:Ex}{ro:Ro}{ks vs:List D}{m1:Sto}(h:o ro mu=some (.dct ks vs,m1)):iDi o ro mu=some ((Ls (ks,vs),none),m1):=by
 unfold iDi
 rw[h]
 rfl
def O6 {o x y:Ex}{ro:Ro}{c k d:D}{p:List D×List D}(ho:o ro mu=some (c,mu))(hc:DC mu c=some p)(hx:x ro mu=some (k,mu))(hy:y ro mu=some (d,mu))(hk:Dn k=true):Gu o (Co x (Co y Cr)) ro mu=some ((Dv k p.1 p.2).getD d,mu):=by
 simp only[Gu,ho,Kh,hc,Option.isSome_some,if_true,UX,Us,hx,hy,NW,hk]
theorem IC {m0:Sto}{tg:Gx}{tt:Tx}{kk vv:Ex}{ro:Ro}(t:D->Bool)(g:D->D×D):∀(ds:List D) (p:List D×List D),(∀d∈ds,∃ro1,tg d ro mu=some (ro1,mu)/\tt ro1 mu=some (t d,mu)/\(t d=true->kk ro1 mu=some ((g d).1,mu)/\vv ro1 mu=some ((g d).2,mu)/\Dn (g d).1=true))->p.1.length+ds.length<=sizeLine->cGo none m0 tg tt (stD kk vv) ro ds p mu=some (putAll p ((ds.filter t).map g),mu)
 |[],p,_,_=>rfl
 |d::ds,p,h,l=>by
  obtain⟨ro1,e1,e2,e3⟩:=h d (.head _)
  rw[List.length_cons] at l
  unfold cGo
  rw[e1,CM,e2,CM,List.filter_cons]
  cases c:t d with
  |true =>
   obtain⟨e4,e5,e6⟩:=e3 c
   have ih:=IC (m0:=m0) (tg:=tg) (tt:=tt) (kk:=kk) (vv:=vv) (ro:=ro) t g ds (DE (g d).1 (g d).2 p.1 p.2) (λd' hd=>h d' (.tail _ hd)) (by have:=NF (g d).1 (g d).2 p.1 p.2;ext)
   rw[if_pos rfl]
   simp only[stD,e4,e5,Kh]
   rw[if_pos ⟨e6,by ext⟩,CM,FX,ih]
   rfl
  |false =>
   have ih:=IC (m0:=m0) (tg:=tg) (tt:=tt) (kk:=kk) (vv:=vv) (ro:=ro) t g ds p (λd' hd=>h d' (.tail _ hd)) (by ext)
   rw[if_neg (by simp),FX,ih]
   rfl
theorem Na {n f:Nat}{m:Sto}:∀{ds:List D},Ep 0 ds=true->JL (frz n m f) ds=some ds
 |[],_=>rfl
 |d::ds,h=>by
  unfold Ep at h
  rw[Ai] at h
  have e:frz n m f d=some d:=by
   cases f<;>(unfold frz;rw[if_pos (Pw (A5 _) h.1)])
  unfold JL
  rw[e,Na h.2]
def Qi {m:Sto}(hf:Flat (m.take mu.length)):(m.take mu.length).all (Lw mu.length)=true:=by
 rw[AW]
 intro o ho
 obtain⟨j,hj⟩:=AL.mp ho
 exact M1 (by rw[AU];ext) (hf j o hj)
def Qs {m:Sto}{k:Nat}{ks ds:List D}(hk:mu.length<=k)(h:m[k]?=some (.dct ks ds))(h1:Ep 0 ks=true)(h2:Ep 0 ds=true)(hf:Flat (m.take mu.length)):JI mu m (.ref k)=some (.dct ks ds,m.take mu.length):=by
 have e:frz mu.length m 3 (.ref k)=some (.dct ks ds):=by
  have:¬ EG mu.length (.ref k)=true:=by simp only[EG,AA];ext
  unfold frz
  rw[if_neg this]
  dsimp only
  rw[h]
  dsimp only
  rw[if_pos (FC (A5 _) h1),Na h2]
  rfl
 unfold JI
 rw[e]
 dsimp only
 rw[if_pos (Qi hf)]
def UZ {m:Sto}{k:Nat}{ds:List D}(hk:mu.length<=k)(h:m[k]?=some (.lst ds))(h2:Ep 0 ds=true)(hf:Flat (m.take mu.length)):JI mu m (.ref k)=some (.lst ds,m.take mu.length):=by
 have e:frz mu.length m 3 (.ref k)=some (.lst ds):=by
  have:¬ EG mu.length (.ref k)=true:=by simp only[EG,AA];ext
  unfold frz
  rw[if_neg this]
  dsimp only
  rw[h]
  dsimp only
  rw[Na h2]
  rfl
 unfold JI
 rw[e]
 dsimp only
 rw[if_pos (Qi hf)]
end PV
namespace PG
open PySem L2 PV PyProof.Rows K1
variable {mu:Sto}
def lvp (gs:List (List Str)):List D×List D:=(gs.map rwD,gs.map λ_=>D.int 3)
def lv (gs:List (List Str)):D:=.dct (gs.map rwD) (gs.map λ_=>D.int 3)
def ins (gs:List (List Str))(x:List Str):List (List Str):=if x∈gs then gs else gs++[x]
def DH (gs xs:List (List Str)):List (List Str):=xs.foldl ins gs
theorem Aab (k:D)(gs:List (List Str)):IH k (.int 3) (gs.map rwD) (gs.map λ_=>D.int 3)=gs.map λ_=>D.int 3:=by
 induction gs with
 |nil=>rfl
 |cons g gs ih =>
  rw[Ay,Ay,IH,ih]
  split<;>rfl
def RK {x:List Str}{gs:List (List Str)}:rwD x∈gs.map rwD↔x∈gs:=by
 constructor
 ·intro h
  obtain⟨y,hy,e⟩:=AK.mp h
  rw[M0.mp e] at hy
  exact hy
 ·exactλh=>AK.mpr ⟨x,h,rfl⟩
def Pk (gs:List (List Str))(x:List Str):DE (rwD x) (.int 3) (gs.map rwD) (gs.map λ_=>D.int 3)=lvp (ins gs x):=by
 unfold DE ins lvp
 by_cases c:x∈gs
 ·rw[if_pos (RK.mpr c),if_pos c,Aab]
 ·rw[if_neg (λh=>c (RK.mp h)),if_neg c,AS,AS]
  rfl
theorem J0 (xs gs:List (List Str)):putAll (lvp gs) (xs.map λx=>(rwD x,D.int 3))=lvp (DH gs xs):=by
 induction xs generalizing gs with
 |nil=>rfl
 |cons x xs ih =>
  show putAll (DE (rwD x) (.int 3) (gs.map rwD) (gs.map λ_=>D.int 3)) _=lvp (DH (ins gs x) xs)
  rw[Pk,ih]
def UL {gs:List (List Str)}{x y:List Str}:y∈ins gs x↔y∈gs\/y=x:=by
 unfold ins
 split
 ·rename_i h
  exact⟨.inl,λh'=>h'.elim id λe=>e▸h⟩
 ·simp
theorem HW {xs gs:List (List Str)}{y:List Str}:y∈DH gs xs↔y∈gs\/y∈xs:=by
 induction xs generalizing gs with
 |nil=>simp[DH]
 |cons x xs ih =>
  show y∈DH (ins gs x) xs↔_
  rw[ih,UL,Ao,or_assoc]
def Yr {gs:List (List Str)}{x:List Str}(h:gs.Nodup):(ins gs x).Nodup:=by
 unfold ins
 split
 ·exact h
 ·rename_i c
  rw[Bb]
  exact⟨h,by simp,λa ha b hb e=>by rw[Ah.mp hb] at e;rw[e] at ha;exact c ha⟩
theorem MX {xs gs:List (List Str)}(h:gs.Nodup):(DH gs xs).Nodup:=by
 induction xs generalizing gs with
 |nil=>exact h
 |cons x xs ih=>exact ih (Yr h)
theorem JG {xs gs:List (List Str)}:(DH gs xs).length<=gs.length+xs.length:=by
 induction xs generalizing gs with
 |nil=>exact Ae _
 |cons x xs ih =>
  have:=ih (gs:=ins gs x)
  have h:(ins gs x).length<=gs.length+1:=by
   unfold ins
   split<;>simp
  show(DH (ins gs x) xs).length<=_
  rw[List.length_cons]
  ext
theorem MS {xs gs:List (List Str)}(h:(gs++xs).Nodup):DH gs xs=gs++xs:=by
 induction xs generalizing gs with
 |nil=>simp[DH]
 |cons x xs ih =>
  have h':=h
  rw[Bb] at h'
  have e:ins gs x=gs++[x]:=by
   unfold ins
   rw[if_neg λc=>h'.2.2 x c x (.head _) rfl]
  show DH (ins gs x) xs=_
  rw[e,ih (by simpa using h)]
  simp
def N2 {xs ys gs:List (List Str)}:DH gs (xs++ys)=DH (DH gs xs) ys:=by
 unfold DH
 rw[List.foldl_append]
theorem Sd (x:List Str)(gs:List (List Str)):Dv (rwD x) (gs.map rwD) (gs.map λ_=>D.int 3)=if x∈gs then some (.int 3) else none:=by
 induction gs with
 |nil=>rfl
 |cons g gs ih =>
  rw[Ay,Ay,Dv,ih]
  by_cases c:g=x
  ·rw[if_pos (by rw[c]),if_pos (by rw[c];exact .head _)]
  ·have:x∈g::gs↔x∈gs:=by
    rw[Ao]
    exact⟨λh=>h.elim (λe=>(c e.symm).elim) id,.inr⟩
   rw[if_neg (λe=>c (M0.mp e))]
   simp only[this]
theorem MD (gs:List (List Str)):Ls (lvp gs)=gs.map λx=>.tup [rwD x,.int 3]:=by
 unfold Ls lvp
 induction gs with
 |nil=>rfl
 |cons g gs ih =>
  rw[Ay,Ay,List.zip_cons_cons,Ay,ih]
  rfl
theorem Ws (n:Nat)(gs:List (List Str)):Ep n (gs.map λ_=>D.int 3)=true:=by
 induction gs with
 |nil=>rfl
 |cons g gs ih=>rw[Ay,Ep,ih];rfl
def MJ (n:Nat)(gs:List (List Str)):EG n (lv gs)=true:=by
 show(Ep n _&&Ep n _)=true
 rw[Nl,Ws]
 rfl
def at' (p:Nat)(r:List Str):Str:=r.getD p ⟨#[]⟩
def Ux {r:List Str}{p:Nat}(h:p<r.length):Fw [rwD r,.tup [.int (p:Nat)]] mu=some (rwD [at' p r],mu):=by
 have e:r[p]?=some (at' p r):=by
  unfold at'
  rw[AQ,Al h]
  rfl
 have lc:=HK (m0:=mu) (tg:=gNm 0) (el:=(Cz ixG (Cp 1) (Cp 0))) (ro:=[none,some (rwD r)]) (mu:=mu) (λ_=>D.str (at' p r)) [.int (p:Nat)] (λd hd=>by
  rw[Ah.mp hd]
  refine⟨_,rfl,?_⟩
  have ix:ixG (.tup (r.map D.str)) (.int (p:Nat)) mu=some (.str (at' p r),mu):=Fv _ (.inr rfl) (by rw[Am,e];rfl)
  unfold rwD
  simp![ix])
 simp![Fw,Tf,lc,Ay,List.map_nil]
 rfl
def cB:Sx:=(CN (CT (CA Fw (Co (Cp 3) (Co (Cp 1) Cr))) (gNm 5)) (sIf (tV (Cz ltG (Gu (Cp 2) (Co (Cp 5) (Co (eC (.int 0)) Cr))) (Cp 4))) (CT (Cp 4) (gIx (Cp 2) (Cp 5))) (sNx)))
def RI {rs:List (List Str)}{p:Nat}(hp:∀r∈rs,p<r.length)(hl:rs.length<=300)(hfl:Flat mu):Fy [lv rs,.tup [.int (p:Nat)]] mu=some (lv (DH [] (rs.map λr=>[at' p r])),mu):=by
 obtain⟨ro',m',e,⟨y3,y4,y5,rfl⟩,a1,a2⟩:=F9 (m0:=mu++[MO.dct [] []]) (tg:=(gTp 2 (Cy (gNm 3) (Cy (gNm 4) C0)))) (body:=cB) (λi ro m=>(∃y3 y4 y5,ro=[some (lv rs),some (.tup [.int (p:Nat)]),some (.ref mu.length),y3,y4,y5])/\m[mu.length]?=some (.dct (lvp (DH [] ((rs.take i).map λr=>[at' p r]))).1 (lvp (DH [] ((rs.take i).map λr=>[at' p r]))).2)/\m.take mu.length=mu) (rs.map λx=>.tup [rwD x,.int 3]) 0 [some (lv rs),some (.tup [.int (p:Nat)]),some (.ref mu.length),none,none,none] (mu++[MO.dct [] []]) ⟨⟨_,_,_,rfl⟩,by simp[DH,lvp],by simp⟩ λj d ro m ed hi=>by
  obtain⟨⟨y3,y4,y5,rfl⟩,a1,a2⟩:=hi
  rw[Am] at ed
  cases q:rs[j]? with
  |none=>rw[q] at ed;cases ed
  |some r =>
   rw[q] at ed
   have ed':D.tup [rwD r,.int 3]=d:=AR ed
   subst ed'
   rw[Br] at a1
   have cu:=Ux (mu:=m) (hp r (Aj q))
   have et:DH [] ((rs.take (0+j+1)).map λr=>[at' p r])=ins (DH [] ((rs.take j).map λr=>[at' p r])) [at' p r]:=by
    rw[Br,List.take_add_one,q,AS,N2]
    rfl
   have gl:(DH [] ((rs.take j).map λr=>[at' p r])).length<=300:=by
    have:=JG (xs:=(rs.take j).map λr=>[at' p r]) (gs:=[])
    rw[Ak,AU,List.length_nil] at this
    ext
   rw[et]
   generalize DH [] ((rs.take j).map λr=>[at' p r])=gs at a1 gl
   have hk:=(Hn.row [at' p r]).K (by decide)
   have g2:=O6 (mu:=m) (o:=Cp 2) (x:=Cp 5) (y:=eC (.int 0)) (ro:=[some (lv rs),some (.tup [.int (p:Nat)]),some (.ref mu.length),some (rwD r),some (.int 3),some (rwD [at' p r])]) (c:=.ref mu.length) (k:=rwD [at' p r]) (d:=.int 0) (p:=lvp gs) rfl (by simp only[DC,a1]) rfl rfl hk
   have gv:=Sd [at' p r] gs
   have e1:(lvp gs).1=gs.map rwD:=rfl
   have e2:(lvp gs).2=gs.map λ_=>D.int 3:=rfl
   rw[e1,e2,gv] at g2
   generalize hG:Gu (Cp 2) (Co (Cp 5) (Co (eC (.int 0)) Cr))=G at g2
   by_cases c:[at' p r]∈gs
   ·rw[if_pos c] at g2
    refine⟨_,m,[some (lv rs),some (.tup [.int (p:Nat)]),some (.ref mu.length),some (rwD r),some (.int 3),some (rwD [at' p r])],m,rfl,?_,⟨_,_,_,rfl⟩,?_,a2⟩
    ·have d3:decide ((3:Int)<3)=false:=rfl
     unfold cB
     simp![hG,cu,g2,Option.getD_some,d3]
    ·unfold ins
     rw[if_pos c]
     exact a1
   ·rw[if_neg c] at g2
    have z:=Tu (mu:=m) (e:=rwD [at' p r]) (v:=.int 3) a1 hk (by rw[AH];show(gs.map rwD).length<_;rw[Ak];ext)
    rw[e1,e2,Pk] at z
    refine⟨_,m,[some (lv rs),some (.tup [.int (p:Nat)]),some (.ref mu.length),some (rwD r),some (.int 3),some (rwD [at' p r])],_,rfl,?_,⟨_,_,_,rfl⟩,E7 a1,by rw[take_set (Ae _)];exact a2⟩
    have d3:decide ((0:Int)<3)=true:=rfl
    unfold cB
    simp![hG,cu,g2,Option.getD_none,d3,P0,z]
    all_goals rfl
 rw[Ak,Br,List.take_length] at a1
 have di:=QS (mu:=mu++[MO.dct [] []]) (o:=Cp 0) (ro:=[some (lv rs),some (.tup [.int (p:Nat)]),some (.ref mu.length),none,none,none]) (ks:=(lvp rs).1) (vs:=(lvp rs).2) (m1:=mu++[MO.dct [] []]) rfl
 have it:=MD rs
 have ct:=Qs (mu:=mu) (Ae _) a1 (Nl _ _) (Ws _ _) (by rw[a2];exact hfl)
 rw[a2] at ct
 rw[show((lvp rs).1,(lvp rs).2)=lvp rs from rfl,it] at di
 unfold cB at e
 simp![Fy,Hr,di,e,ct]
 all_goals rfl
def lw (os:List (List Str))(x:List Str):D:=.int (if x∈os then 0 else 3)
theorem Yp (os gs:List (List Str)):Ls (gs.map rwD,gs.map (lw os))=gs.map λx=>.tup [rwD x,lw os x]:=by
 unfold Ls
 induction gs with
 |nil=>rfl
 |cons g gs ih =>
  dsimp only at ih ⊢
  rw[Ay,Ay,List.zip_cons_cons,Ay,ih]
  rfl
def GQ:D->List Str
 |.tup ds=>ds.map λd=>match d with|.str x=>x|_=>⟨#[]⟩
 |_=>[]
def F4 (x:List Str):GQ (rwD x)=x:=by
 unfold rwD GQ
 dsimp only
 rw[A8]
 exact List.map_id' _
def Nk {os gs:List (List Str)}(nd:gs.Nodup)(hl:gs.length<=300):Ek [lv gs,lv os] mu=some (lv (gs.filter λx=>!decide (x∈os)),mu):=by
 have d1:=QS (mu:=mu) (o:=Cp 0) (ro:=[some (lv gs),some (lv os),none]) (ks:=(lvp gs).1) (vs:=(lvp gs).2) (m1:=mu) rfl
 rw[show((lvp gs).1,(lvp gs).2)=lvp gs from rfl,MD] at d1
 have c1:=H8 (m0:=mu) (mu:=mu) (tg:=(gTp 2 (Cy (gNm 0) (Cy (gNm 1) C0)))) (kk:=Cp 0) (vv:=(CA JY (Co (Cp 1) (Co (Cz TQ (eC (.int 3)) (Gu (Cp 2) (Co (Cp 0) (Co (eC (.int 0)) Cr)))) Cr)))) (ro:=[none,none,some (lv os)]) (λd=>match d with|.tup [k,_]=>(k,lw os (GQ k))|_=>(.non,.non)) (gs.map λx=>.tup [rwD x,.int 3]) ([],[]) (λd hd=>by
  obtain⟨x,hx,rfl⟩:=AK.mp hd
  refine⟨[some (rwD x),some (.int 3),some (lv os)],rfl,rfl,?_,(Hn.row x).K (by decide)⟩
  have g2:=O6 (mu:=mu) (o:=Cp 2) (x:=Cp 0) (y:=eC (.int 0)) (ro:=[some (rwD x),some (.int 3),some (lv os)]) (c:=lv os) (k:=rwD x) (d:=.int 0) (p:=lvp os) rfl rfl rfl rfl ((Hn.row x).K (by decide))
  rw[show(lvp os).1=os.map rwD from rfl,show(lvp os).2=os.map λ_=>D.int 3 from rfl,Sd] at g2
  generalize hG:Gu (Cp 2) (Co (Cp 0) (Co (eC (.int 0)) Cr))=G at g2
  dsimp only
  rw[F4]
  unfold lw
  by_cases c:x∈os
  ·rw[if_pos c] at g2
   simp![g2,Option.getD_some,if_pos c]
   rfl
  ·rw[if_neg c] at g2
   simp![g2,Option.getD_none,if_neg c]
   rfl) (by rw[Ak,AH,List.length_nil];ext)
 have em:(gs.map λx=>D.tup [rwD x,.int 3]).map (λd=>match d with|.tup [k,_]=>(k,lw os (GQ k))|_=>((.non:D),(.non:D)))=gs.map λx=>(rwD x,lw os x):=by
  rw[A8]
  refine Cf λx _=>?_
  show(rwD x,lw os (GQ (rwD x)))=_
  rw[F4]
 have ek:(gs.map λx=>(rwD x,lw os x)).map (·.1)=gs.map rwD:=by rw[A8];rfl
 have ev:(gs.map λx=>(rwD x,lw os x)).map (·.2)=gs.map (lw os):=by rw[A8];rfl
 rw[em,FR _ [] [] rfl (by rw[ek];exact Mj nd),ek,ev] at c1
 have d2:=QS (mu:=mu) (o:=Cp 2) (ro:=[some (lv gs),some (lv os),some (.dct (gs.map rwD) (gs.map (lw os)))]) (ks:=gs.map rwD) (vs:=gs.map (lw os)) (m1:=mu) rfl
 rw[Yp] at d2
 have c2:=IC (m0:=mu) (mu:=mu) (tg:=(gTp 2 (Cy (gNm 0) (Cy (gNm 1) C0)))) (tt:=(tV (Cz gtD (Cp 1) (eC (.int 0))))) (kk:=Cp 0) (vv:=Cp 1) (ro:=[none,none]) (λd=>match d with|.tup [_,.int v]=>decide (0<v)|_=>false) (λd=>match d with|.tup [k,v]=>(k,v)|_=>(.non,.non)) (gs.map λx=>.tup [rwD x,lw os x]) ([],[]) (λd hd=>by
  obtain⟨x,hx,rfl⟩:=AK.mp hd
  refine⟨[some (rwD x),some (lw os x)],rfl,?_,λ_=>⟨rfl,rfl,(Hn.row x).K (by decide)⟩⟩
  unfold lw
  simp![]
  all_goals rfl) (by rw[Ak,AH,List.length_nil];ext)
 have ef:((gs.map λx=>D.tup [rwD x,lw os x]).filter (λd=>match d with|.tup [_,.int v]=>decide (0<v)|_=>false)).map (λd=>match d with|.tup [k,v]=>(k,v)|_=>((.non:D),(.non:D)))=(gs.filter λx=>!decide (x∈os)).map λx=>(rwD x,D.int 3):=by
  rw[List.filter_map,A8]
  have:((λd=>match d with|.tup [_,.int v]=>decide (0<v)|_=>false)∘λx=>D.tup [rwD x,lw os x])=λx=>!decide (x∈os):=by
   funext x
   show decide ((0:Int)<if x∈os then 0 else 3)=_
   by_cases c:x∈os<;>simp[c]
  rw[this]
  refine Cf λx hx=>?_
  have hx':=(Bd.mp hx).2
  simp only[BU,Ca] at hx'
  show(rwD x,D.int (if x∈os then 0 else 3))=_
  rw[if_neg hx']
 have pl:=J0 (gs.filter λx=>!decide (x∈os)) []
 rw[MS (by rw[List.nil_append];exact nd.sublist List.filter_sublist),List.nil_append] at pl
 have pl':putAll ([],[]) ((gs.filter λx=>!decide (x∈os)).map λx=>(rwD x,D.int 3))=lvp (gs.filter λx=>!decide (x∈os)):=pl
 rw[ef,pl'] at c2
 simp![Ek,FZ,QM,d1,c1,List.nil_append,HP,d2,c2]
 all_goals rfl
def YM {fs:List (List Str)}(nd:fs.Nodup)(hl:fs.length<=32){m0:Sto}:cGo none m0 (gNm 0) tY (stD (Cp 0) (eC (.int 3))) [none] (fs.map rwD) ([],[]) mu=some (lvp fs,mu):=by
 have c:=H8 (m0:=m0) (mu:=mu) (tg:=gNm 0) (kk:=Cp 0) (vv:=eC (.int 3)) (ro:=[none]) (λd=>(d,.int 3)) (fs.map rwD) ([],[]) (λd hd=>by
  obtain⟨x,hx,rfl⟩:=AK.mp hd
  exact⟨_,rfl,rfl,rfl,(Hn.row x).K (by decide)⟩) (by rw[Ak,AH,List.length_nil];ext)
 rw[A8] at c
 have pl:=J0 fs []
 rw[MS (by rw[List.nil_append];exact nd),List.nil_append] at pl
 have pl':putAll ([],[]) (fs.map λx=>(rwD x,D.int 3))=lvp fs:=pl
 have e:fs.map ((λd=>(d,D.int 3))∘rwD)=fs.map λx=>(rwD x,D.int 3):=rfl
 rw[e,pl'] at c
 exact c
def KH {ta tb:Tb}{fa fb:List (List Str)}(hn:ta.nm≠tb.nm)(na:fa.Nodup)(nb:fb.Nodup)(la:fa.length<=32)(lb:fb.length<=32):EI [.tup [tbD ta,tbD tb],.tup [flD fa,flD fb]] mu=some (.dct [.str ta.nm,.str tb.nm] [lv fa,lv fb],mu):=by
 have zp:=Wx (mu:=mu) (m:=(Co (Cp 0) (Co (Cp 1) Cr))) (ro:=[some (.tup [tbD ta,tbD tb]),some (.tup [flD fa,flD fb])]) (xs:=[tbD ta,tbD tb]) (ys:=[flD fa,flD fb]) (m1:=mu) rfl
 have zd:HQ [tbD ta,tbD tb] [flD fa,flD fb]=[.tup [tbD ta,flD fa],.tup [tbD tb,flD fb]]:=rfl
 rw[zd] at zp
 have one:∀(t:Tb) (fs:List (List Str)),fs.Nodup->fs.length<=32->(eCo (EC (Cp 1)) 1 [] (gNm 0) (tY) (stD (Cp 0) (eC (.int 3))) ([],[]) HP) [some (tbD t),some (flD fs)] mu=some (lv fs,mu):=λt fs nd hl=>by
  have w:HL mu (flD fs)=some ((fs.map rwD,none),mu):=rfl
  simp![QM,w,YM nd hl,HP]
  rfl
 have c:=H8 (m0:=mu) (mu:=mu) (tg:=(gTp 2 (Cy (gNm 0) (Cy (gNm 1) C0)))) (kk:=(Cz ixG (Cp 0) (eC (.int 0)))) (vv:=(eCo (EC (Cp 1)) 1 [] (gNm 0) (tY) (stD (Cp 0) (eC (.int 3))) ([],[]) HP)) (ro:=[none,none]) (λd=>if d=.tup [tbD ta,flD fa] then (.str ta.nm,lv fa) else (.str tb.nm,lv fb)) [.tup [tbD ta,flD fa],.tup [tbD tb,flD fb]] ([],[]) (λd hd=>by
  simp only[Ao,Ax,Ba] at hd
  rcases hd with rfl|rfl
  ·rw[if_pos rfl]
   refine⟨_,rfl,?_,one ta fa na la,Es _⟩
   unfold tbD
   simp![]
  ·have ne:¬ D.tup [tbD tb,flD fb]=.tup [tbD ta,flD fa]:=λe=>by
    injection e with e
    injection e with e _
    unfold tbD at e
    injection e with e
    injection e with e _
    injection e with e
    exact hn e.symm
   rw[if_neg ne]
   refine⟨_,rfl,?_,one tb fb nb lb,Es _⟩
   unfold tbD
   simp![]) (by rw[AH];simp)
 have ne:¬ D.tup [tbD tb,flD fb]=.tup [tbD ta,flD fa]:=λe=>by
  injection e with e
  injection e with e _
  unfold tbD at e
  injection e with e
  injection e with e _
  injection e with e
  exact hn e.symm
 have pa:putAll ([],[]) ([D.tup [tbD ta,flD fa],.tup [tbD tb,flD fb]].map λd=>if d=.tup [tbD ta,flD fa] then (D.str ta.nm,lv fa) else (.str tb.nm,lv fb))=([.str ta.nm,.str tb.nm],[lv fa,lv fb]):=by
  rw[Ay,Ay,List.map_nil,if_pos rfl,if_neg ne,FR _ [] [] rfl (by simp[hn])]
  rfl
 rw[pa] at c
 generalize hE:(eCo (EC (Cp 1)) 1 [] (gNm 0) (tY) (stD (Cp 0) (eC (.int 3))) ([],[]) HP:Ex)=E at c
 simp![EI,Io,hE,QM,zp,c,HP]
def KO {ta tb:Tb}(hn:ta.nm≠tb.nm):CV [.tup [tbD ta,tbD tb]] mu=some (.dct [.str ta.nm,.str tb.nm] [csD (ta.cs.map (·.1)),csD (tb.cs.map (·.1))],mu):=by
 have lc:∀t:Tb,FO none mu (gNm 0) tY (Cz ixG (Cp 0) (eC (.int 0))) [none] (t.cs.map clD) mu=some ((t.cs.map (·.1)).map D.str,mu):=λt=>by
  have:=HK (m0:=mu) (tg:=gNm 0) (el:=Cz ixG (Cp 0) (eC (.int 0))) (ro:=[none]) (mu:=mu) Zt (t.cs.map clD) (λd hd=>by
   obtain⟨p,_,rfl⟩:=AK.mp hd
   exact⟨_,rfl,by simp![clD,Zt]⟩)
  rw[this,A8,A8]
  rfl
 have ne:¬ tbD tb=tbD ta:=λe=>by
  unfold tbD at e
  injection e with e
  injection e with e _
  injection e with e
  exact hn e.symm
 have cg:=H8 (m0:=mu) (mu:=mu) (tg:=gNm 0) (kk:=Cz ixG (Cp 0) (eC (.int 0))) (vv:=CA GA (Co (eLC (EC (Cz ixG (Cp 0) (eC (.int 1)))) 1 [] (gNm 0) (tY) (Cz ixG (Cp 0) (eC (.int 0)))) Cr)) (ro:=[none]) (λd=>if d=tbD ta then (.str ta.nm,csD (ta.cs.map (·.1))) else (.str tb.nm,csD (tb.cs.map (·.1)))) [tbD ta,tbD tb] ([],[]) (λd hd=>by
  simp only[Ao,Ax,Ba] at hd
  rcases hd with rfl|rfl
  ·rw[if_pos rfl]
   exact⟨_,rfl,by simp![tbD],by simp![tbD,lc];rfl,Es _⟩
  ·rw[if_neg ne]
   exact⟨_,rfl,by simp![tbD],by simp![tbD,lc];rfl,Es _⟩) (by rw[AH];simp)
 have pa:putAll ([],[]) ([tbD ta,tbD tb].map λd=>if d=tbD ta then (D.str ta.nm,csD (ta.cs.map (·.1))) else (.str tb.nm,csD (tb.cs.map (·.1))))=([.str ta.nm,.str tb.nm],[csD (ta.cs.map (·.1)),csD (tb.cs.map (·.1))]):=by
  rw[Ay,Ay,List.map_nil,if_pos rfl,if_neg ne,FR _ [] [] rfl (by simp[hn])]
  rfl
 rw[pa] at cg
 simp![CV,FG,QM,cg,HP]
def kf (r:List Str):List Str:=[at' 1 r]
def yf (r:List Str):D:=.tup [rwD [at' 0 r],.int 3]
def pI:Option D:=some (.tup [.int (1:Nat)])
def pO:Option D:=some (.tup [.int (0:Nat)])
def gB:Sx:=(sEx (IL (Pa (Cp 6) (Co (CA Fw (Co (Cp 7) (Co (Cp 4) Cr))) (Co (GX Cr) Cr))) (Co (Dq (Co (CA Fw (Co (Cp 7) (Co (Cp 5) Cr))) (Co (Cp 8) Cr))) Cr)))
structure UO (dk:Nat) (P ks:List (List Str)) (cs:List Nat) (m:Sto):Prop where
 at':m[dk]?=some (.dct (ks.map rwD) (cs.map D.ref))
 len:cs.length=ks.length
 kl:ks.length<=P.length
 nd:ks.Nodup
 cd:cs.Nodup
 lt:∀c∈cs,dk<c/\c<m.length
 mem:∀r∈P,kf r∈ks
 row:∀(j:Nat) k c,ks[j]?=some k->cs[j]?=some c->m[c]?=some (.lst ((P.filter (λr=>decide (kf r=k))).map yf))
def X1 {dk:Nat}{P:List (List Str)}(hP:∀r∈P,r.length=2)(hl:P.length<=1000)(hd:mu[dk]?=some (.dct [] [])){m0:Sto}{x0 x1 x2 x3 x7 x8:Option D} :
  ∃y7 y8 m' ks cs,GJ none m0 (gTp 2 (Cy (gNm 7) (Cy (gNm 8) C0))) gB (P.map λx=>.tup [rwD x,.int 3]) [x0,x1,x2,x3,pI,pO,some (.ref dk),x7,x8] mu=some ((.nx,[x0,x1,x2,x3,pI,pO,some (.ref dk),y7,y8]),m')/\UO dk P ks cs m'/\(∀j,j<dk->m'[j]?=mu[j]?):=by
 obtain⟨ro',m',e,⟨y7,y8,rfl⟩,⟨ks,cs,b⟩,a2⟩:=F9 (m0:=m0) (tg:=gTp 2 (Cy (gNm 7) (Cy (gNm 8) C0))) (body:=gB) (λi ro m=>(∃y7 y8,ro=[x0,x1,x2,x3,pI,pO,some (.ref dk),y7,y8])/\(∃ks cs,UO dk (P.take i) ks cs m)/\(∀j,j<dk->m[j]?=mu[j]?)) (P.map λx=>.tup [rwD x,.int 3]) 0 _ mu ⟨⟨x7,x8,rfl⟩,⟨[],[],hd,rfl,Ae _,.nil,.nil,λc h=>(nomatch h),λr h=>(by simp at h),λj k c h=>(by simp at h)⟩,λ_ _=>rfl⟩ λj d ro m ed hi=>by
  obtain⟨⟨y7,y8,rfl⟩,⟨ks,cs,b⟩,a2⟩:=hi
  rw[Am] at ed
  cases q:P[j]? with
  |none=>rw[q] at ed;cases ed
  |some r =>
   rw[q] at ed
   have ed':D.tup [rwD r,.int 3]=d:=AR ed
   subst ed'
   rw[Br] at b
   have rm:=hP r (Aj q)
   have jl:j<P.length:=(Ad.mp q).1
   have et:P.take (0+j+1)=P.take j++[r]:=by rw[Br,List.take_add_one,q];rfl
   have dl:dk<m.length:=(Ad.mp b.at').1
   have kl:ks.length<=1000:=by have:=b.kl;rw[AU] at this;ext
   have d1:(m++[MO.lst []])[dk]?=some (.dct (ks.map rwD) (cs.map D.ref)):=by rw[Ap dl];exact b.at'
   have new:(m++[MO.lst []])[m.length]?=some (.lst []):=by simp
   have cr:=Ux (mu:=m) (r:=r) (p:=1) (by ext)
   have ea:(Co (CA Fw (Co (Cp 7) (Co (Cp 4) Cr))) (Co (GX Cr) Cr)) [x0,x1,x2,x3,pI,pO,some (.ref dk),some (rwD r),some (.int 3)] m=some ([rwD (kf r),.ref m.length],m++[MO.lst []]):=by unfold pI;simp![cr];all_goals rfl
   have sd:=Sf (mu:=m) (o:=Cp 6) (ro:=[x0,x1,x2,x3,pI,pO,some (.ref dk),some (rwD r),some (.int 3)]) (d:=dk) rfl b.at' ea d1 ((Hn.row _).K (by decide)) (by rw[Ak,AH];ext)
   have go:∀(c:Nat) (m2:Sto) (ds:List D),Pa (Cp 6) (Co (CA Fw (Co (Cp 7) (Co (Cp 4) Cr))) (Co (GX Cr) Cr)) [x0,x1,x2,x3,pI,pO,some (.ref dk),some (rwD r),some (.int 3)] m=some (.ref c,m2)->m2[c]?=some (.lst ds)->ds.length<sizeLine->gB [x0,x1,x2,x3,pI,pO,some (.ref dk),some (rwD r),some (.int 3)] m=some ((.nx,[x0,x1,x2,x3,pI,pO,some (.ref dk),some (rwD r),some (.int 3)]),m2.set c (.lst (ds++[yf r]))):=λc m2 ds h1 h2 h3=>by
    have cr2:=Ux (mu:=m2) (r:=r) (p:=0) (by ext)
    have e2:(Co (Dq (Co (CA Fw (Co (Cp 7) (Co (Cp 5) Cr))) (Co (Cp 8) Cr))) Cr) [x0,x1,x2,x3,pI,pO,some (.ref dk),some (rwD r),some (.int 3)] m2=some ([yf r],m2):=by unfold pO;simp![cr2];all_goals rfl
    have ap:=SM (mu:=m) (r:=(Co (Dq (Co (CA Fw (Co (Cp 7) (Co (Cp 5) Cr))) (Co (Cp 8) Cr))) Cr)) h1 h2 (y:=yf r) e2 h3
    unfold gB
    rw[XT,ap,CM]
   by_cases hk:kf r∈ks
   ·obtain⟨i,ei⟩:=AL.mp hk
    have il:i<cs.length:=by rw[b.len];exact(Ad.mp ei).1
    obtain⟨c,ec⟩:∃c,cs[i]?=some c:=⟨cs[i],Al il⟩
    have cm:=b.lt c (Aj ec)
    have g:Dv (rwD (kf r)) (ks.map rwD) (cs.map D.ref)=some (.ref c):=by
     rw[GZ (Mj b.nd) (by rw[Am,ei];rfl),Am,ec]
     rfl
    rw[g] at sd
    have rc:=b.row i _ c ei ec
    have rc1:(m++[MO.lst []])[c]?=some (.lst (((P.take j).filter (λr'=>decide (kf r'=kf r))).map yf)):=by rw[Ap cm.2];exact rc
    have fl2:((P.take j).filter (λr'=>decide (kf r'=kf r))).length<=1000:=AO (Bp _ _) (by rw[AU];ext)
    refine⟨_,m,_,_,rfl,go c _ _ sd rc1 (by rw[Ak,AH];ext),⟨_,_,rfl⟩,⟨ks,cs,?_⟩,λi' hi'=>?_⟩
    ·rw[et]
     refine⟨by rw[Aw (by ext)];exact d1,b.len,by rw[As];have:=b.kl;ext,b.nd,b.cd,λc' hc'=>?_,λr' hr'=>?_,λj' k' c' ek ec'=>?_⟩
     ·have:=b.lt c' hc'
      rw[BF,As]
      exact⟨this.1,by ext⟩
     ·rcases AF.mp hr' with h|h
      ·exact b.mem r' h
      ·rw[Ah.mp h];exact hk
     ·by_cases z:c'=c
      ·subst z
       have jj:j'=i:=by
        have h1:=(Ad.mp ec').1
        exact(List.getElem?_inj h1 b.cd).mp (by rw[ec',ec])
       subst jj
       cases ei.symm.trans ek
       rw[E7 rc1,List.filter_append,AS]
       simp
      ·have c'm:=b.lt c' (Aj ec')
       have kn:kf r≠k':=λe=>by
        subst e
        have h1:=(Ad.mp ek).1
        have:j'=i:=(List.getElem?_inj h1 b.nd).mp (by rw[ek,ei])
        subst this
        exact z (AR (ec'.symm.trans ec))
       rw[Aw (Ne.symm z),Ap c'm.2,b.row j' k' c' ek ec',List.filter_append,List.filter_cons_of_neg (by simpa using kn)]
       simp
    ·rw[Aw (by ext),Ap (by ext),a2 i' hi']
   ·have g:Dv (rwD (kf r)) (ks.map rwD) (cs.map D.ref)=none:=F1 λh=>by
     obtain⟨k,h1,h2⟩:=AK.mp h
     rw[M0.mp h2] at h1
     exact hk h1
    rw[g] at sd
    have n2:((m++[MO.lst []]).set dk (.dct (ks.map rwD++[rwD (kf r)]) (cs.map D.ref++[.ref m.length])))[m.length]?=some (.lst []):=by rw[Aw (by ext)];exact new
    have nf:(P.take j).filter (λr'=>decide (kf r'=kf r))=[]:=by
     rw[List.filter_eq_nil_iff]
     intro r' hr' z
     exact hk (by rw[<- of_decide_eq_true z];exact b.mem r' hr')
    refine⟨_,m,_,_,rfl,go m.length _ _ sd n2 (by rw[AH];decide),⟨_,_,rfl⟩,⟨ks++[kf r],cs++[m.length],?_⟩,λi' hi'=>?_⟩
    ·rw[et]
     refine⟨?_,by rw[As,As,b.len];rfl,by rw[As,As];exact Nat.add_le_add_right b.kl 1,?_,?_,λc' hc'=>?_,λr' hr'=>?_,λj' k' c' ek ec'=>?_⟩
     ·rw[Aw (by ext),E7 d1,AS,AS]
      rfl
     ·exact Bb.mpr ⟨b.nd,by simp,λx hx y hy e=>hk (by rw[<- Ah.mp hy,<- e];exact hx)⟩
     ·exact Bb.mpr ⟨b.cd,by simp,λx hx y hy e=>by have:=(b.lt x hx).2;rw[Ah.mp hy] at e;ext⟩
     ·rw[BF,BF,As,List.length_singleton]
      rcases AF.mp hc' with h|h
      ·have:=b.lt c' h;exact⟨this.1,by ext⟩
      ·rw[Ah.mp h];exact⟨dl,by ext⟩
     ·rcases AF.mp hr' with h|h
      ·exact A0 _ (b.mem r' h)
      ·rw[Ah.mp h];simp
     ·by_cases z:j'<ks.length
      ·rw[Ap z] at ek
       rw[Ap (by rw[b.len];exact z)] at ec'
       have c'm:=b.lt c' (Aj ec')
       have kn:kf r≠k':=λe=>hk (by rw[e];exact Aj ek)
       rw[Aw (by ext),Aw (by ext),Ap c'm.2,b.row j' k' c' ek ec',List.filter_append,List.filter_cons_of_neg (by simpa using kn)]
       simp
      ·rw[A1 (by ext)] at ek
       rw[A1 (by rw[b.len];ext),b.len] at ec'
       have z0:j'-ks.length=0:=by
        have:=(Ad.mp ek).1
        simp at this
        ext
       rw[z0] at ek ec'
       cases ek
       cases ec'
       rw[E7 n2,List.filter_append,nf]
       simp
    ·rw[Aw (by ext),Aw (by ext),Ap (by ext),a2 i' hi']
 rw[Ak,Br,List.take_length] at b
 exact⟨y7,y8,m',ks,cs,e,b,a2⟩
def iS:Mx (List D×List D):=stD (Cz DR (Cp 0) (Cp 2)) (CA JY (Co (Cp 1) (Co (Cp 3) Cr)))
theorem SY {c:Nat}{r:List Str}{z4 z5:Option D}(hr:r.length=2):∀(xs gs:List (List Str)),gs.length+xs.length<=100000->cGo (some c) mu (gTp 2 (Cy (gNm 2) (Cy (gNm 3) C0))) tY iS [some (rwD r),some (.int 3),none,none,z4,z5] (xs.map yf) (lvp gs) mu=some (lvp (DH gs (xs.map λr'=>r++[at' 0 r'])),mu)
 |[],gs,_=>rfl
 |x::xs,gs,hl=>by
  rw[List.length_cons] at hl
  have ih:=SY (c:=c) (r:=r) (z4:=z4) (z5:=z5) hr xs (ins gs (r++[at' 0 x])) (by
   have:(ins gs (r++[at' 0 x])).length<=gs.length+1:=by unfold ins;split<;>simp
   ext)
  have za:DR (.tup (r.map D.str)) (.tup [.str (at' 0 x)]) mu=some (.tup (r.map D.str++[.str (at' 0 x)]),mu):=Pb (by rw[AH,Ak];simp;ext)
  have er:D.tup (r.map D.str++[.str (at' 0 x)])=rwD (r++[at' 0 x]):=by unfold rwD;rw[AS];rfl
  rw[er] at za
  have za':DR (rwD r) (rwD [at' 0 x]) mu=some (rwD (r++[at' 0 x]),mu):=za
  have mn:JY [.int 3,.int 3] mu=some (.int 3,mu):=rfl
  have tg:gTp 2 (Cy (gNm 2) (Cy (gNm 3) C0)) (yf x) [some (rwD r),some (.int 3),none,none,z4,z5] mu=some ([some (rwD r),some (.int 3),some (rwD [at' 0 x]),some (.int 3),z4,z5],mu):=rfl
  have st:iS (lvp gs) [some (rwD r),some (.int 3),some (rwD [at' 0 x]),some (.int 3),z4,z5] mu=some (lvp (ins gs (r++[at' 0 x])),mu):=by
   unfold iS stD
   simp![za',mn]
   rw[if_pos ⟨(Hn.row _).K (by decide),by rw[AH];show(gs.map rwD).length<_;rw[Ak];ext⟩]
   show some (DE _ _ (gs.map rwD) (gs.map λ_=>D.int 3),mu)=_
   rw[Pk]
  rw[Ay]
  unfold cGo
  rw[tg,CM,SJ,CM,if_pos rfl,st,CM,EA,if_pos (show gOk (some c) mu mu from rfl),ih]
  rfl
def oS:Mx (List D×List D):=PV.stI (EC (Gu (Cp 4) (Co (CA Fw (Co (Cp 0) (Co (Cp 5) Cr))) (Co (Li Cr) Cr)))) (gTp 2 (Cy (gNm 2) (Cy (gNm 3) C0))) (tY) iS
def jn (P:List (List Str))(r:List Str):List (List Str):=(P.filter λr'=>decide (kf r'=kf r)).map λr'=>r++[at' 0 r']
def SQ (P:List (List Str))(r:List Str):(jn P r).length<=P.length:=by
 unfold jn
 rw[Ak]
 exact Bp _ _
def X8 {dk:Nat}{P ks gs:List (List Str)}{cs:List Nat}{r:List Str}(b:UO dk P ks cs mu)(hr:r∈P)(h2:r.length=2)(hl:gs.length+P.length<=100000):oS (lvp gs) [some (rwD r),some (.int 3),none,none,some (.ref dk),pI] mu=some (lvp (DH gs (jn P r)),mu):=by
 obtain⟨i,ei⟩:=AL.mp (b.mem r hr)
 have il:i<cs.length:=by rw[b.len];exact(Ad.mp ei).1
 obtain⟨c,ec⟩:∃c,cs[i]?=some c:=⟨cs[i],Al il⟩
 have g:Dv (rwD (kf r)) (ks.map rwD) (cs.map D.ref)=some (.ref c):=by
  rw[GZ (Mj b.nd) (by rw[Am,ei];rfl),Am,ec]
  rfl
 have cu:Fw [rwD r,.tup [.int (1:Nat)]] mu=some (rwD (kf r),mu):=Ux (by ext)
 have g2:=O6 (mu:=mu) (o:=Cp 4) (x:=(CA Fw (Co (Cp 0) (Co (Cp 5) Cr)))) (y:=Li Cr) (ro:=[some (rwD r),some (.int 3),none,none,some (.ref dk),pI]) (c:=.ref dk) (k:=rwD (kf r)) (d:=.lst []) (p:=(ks.map rwD,cs.map D.ref)) rfl (by simp only[DC,b.at']) (by unfold pI;simp![cu]) rfl ((Hn.row _).K (by decide))
 rw[g] at g2
 have rc:=b.row i _ c ei ec
 have w:HL mu (.ref c)=some (((P.filter (λr'=>decide (kf r'=kf r))).map yf,some c),mu):=by
  show(match mu[c]? with|some (.lst ds)=>_|_=>_)=_
  rw[rc]
 have ci:=SY (mu:=mu) (c:=c) (r:=r) (z4:=some (.ref dk)) (z5:=pI) h2 (P.filter (λr'=>decide (kf r'=kf r))) gs (by have:=Bp (λr'=>decide (kf r'=kf r)) P;ext)
 unfold oS PV.stI
 rw[Zh,g2,CM,Option.getD_some,w,CM]
 exact ci
theorem Qg {dk:Nat}{P ks:List (List Str)}{cs:List Nat}(b:UO dk P ks cs mu)(h2:∀r∈P,r.length=2)(hP:P.length<=100){m0:Sto}:∀(rs gs:List (List Str)),(∀r∈rs,r∈P)->gs.length+rs.length*100<=50000->cGo none m0 (gTp 2 (Cy (gNm 0) (Cy (gNm 1) C0))) tY oS [none,none,none,none,some (.ref dk),pI] (rs.map λx=>.tup [rwD x,.int 3]) (lvp gs) mu=some (lvp (DH gs (rs.flatMap (jn P))),mu)
 |[],gs,_,_=>rfl
 |r::rs,gs,hr,hl=>by
  rw[List.length_cons] at hl
  have rP:=hr r (.head _)
  have st:=X8 (gs:=gs) b rP (h2 r rP) (by ext)
  have ih:=Qg b h2 hP (m0:=m0) rs (DH gs (jn P r)) (λr hr'=>hr r (.tail _ hr')) (by
   have:=JG (xs:=jn P r) (gs:=gs)
   have:=SQ P r
   ext)
  have tg:gTp 2 (Cy (gNm 0) (Cy (gNm 1) C0)) (.tup [rwD r,.int 3]) [none,none,none,none,some (.ref dk),pI] mu=some ([some (rwD r),some (.int 3),none,none,some (.ref dk),pI],mu):=rfl
  rw[Ay,List.flatMap_cons,N2]
  unfold cGo
  rw[tg,CM,SJ,CM,if_pos rfl,st,CM,FX,ih]
def QU {P:List (List Str)}(h2:∀r∈P,r.length=2)(hP:P.length<=32)(hfl:Flat mu):Et [lv P,lv P,.tup [.tup [.int (1:Nat)],.tup [.int (1:Nat)],.tup [.int (0:Nat)]]] mu=some (lv (DH [] (P.flatMap (jn P))),mu):=by
 have hd:(mu++[MO.dct [] []])[mu.length]?=some (.dct [] []):=by simp
 obtain⟨y7,y8,m',ks,cs,e,b,a2⟩:=X1 (mu:=mu++[MO.dct [] []]) (dk:=mu.length) (P:=P) h2 (by ext) hd (m0:=mu++[MO.dct [] []]) (x0:=some (lv P)) (x1:=some (lv P)) (x2:=some (.tup [.tup [.int (1:Nat)],.tup [.int (1:Nat)],.tup [.int (0:Nat)]])) (x3:=pI) (x7:=none) (x8:=none)
 have d1:=QS (mu:=mu++[MO.dct [] []]) (o:=Cp 1) (ro:=[some (lv P),some (lv P),some (.tup [.tup [.int (1:Nat)],.tup [.int (1:Nat)],.tup [.int (0:Nat)]]),pI,pI,pO,some (.ref mu.length),none,none]) (ks:=(lvp P).1) (vs:=(lvp P).2) (m1:=mu++[MO.dct [] []]) rfl
 have d2:=QS (mu:=m') (o:=Cp 0) (ro:=[some (lv P),some (lv P),some (.tup [.tup [.int (1:Nat)],.tup [.int (1:Nat)],.tup [.int (0:Nat)]]),pI,pI,pO,some (.ref mu.length),y7,y8]) (ks:=(lvp P).1) (vs:=(lvp P).2) (m1:=m') rfl
 rw[show((lvp P).1,(lvp P).2)=lvp P from rfl,MD] at d1 d2
 have co:=Qg b h2 (by ext) (m0:=m') P [] (λ_ h=>h) (by simp;ext)
 have tk:m'.take mu.length=mu:=by
  have dl:=(Ad.mp b.at').1
  apply A6
  intro i
  by_cases h:i<mu.length
  ·rw[Bg h,a2 i h,Ap h]
  ·rw[BJ (by rw[AU];ext),BJ (by ext)]
 have ct:=MT (mu:=mu) (m:=m') (d:=lv (DH [] (P.flatMap (jn P)))) (MJ _ _) (by rw[tk];exact hfl)
 rw[tk] at ct
 have co':cGo none m' (gTp 2 (Cy (gNm 0) (Cy (gNm 1) C0))) tY oS [none,none,none,none,some (.ref mu.length),pI] (P.map λx=>.tup [rwD x,.int 3]) ([],[]) m'=_:=co
 unfold gB at e
 unfold oS iS at co'
 unfold pI pO at e d1 d2
 unfold pI at co'
 simp![Et,Gp,QM,d1,e,d2,co',HP]
 exact ct
def Oa {n:Str}{x:D}{tk tv:List D}{v:D}(g:Dv (.str n) tk tv=some v):CP [EE n,x,.dct tk tv] mu=some (v,mu):=by
 have ix:=K4 (mu:=mu) g
 have d1:decide (Str.ofString "of"=Str.ofString "of")=true:=by simp
 unfold EE
 simp![CP,Ed,d1,ix]
def Mo {i p F:Nat}{T:D}{ds:List D}{rs:List (List Str)}(h:mu[F]?=some (.lst ds))(hi:ds[i]?=some (lv rs))(hp:∀r∈rs,p<r.length)(hl:rs.length<=300)(hfl:Flat mu):CP [Ei i p,.ref F,T] mu=some (lv (DH [] (rs.map λr=>[at' p r])),mu):=by
 have ix:=Jl (mu:=mu) h hi
 have d1:decide (Str.ofString "columns"=Str.ofString "of")=false:=by symm
 have d2:decide (Str.ofString "columns"=Str.ofString "rows")=false:=by symm
 have d3:decide (Str.ofString "columns"=Str.ofString "columns")=true:=by simp
 have cu:=RI (mu:=mu) hp hl hfl
 unfold Ei
 simp![CP,Ed,d1,d2,d3,ix,cu]
def T5 {i j F:Nat}{T:D}{ds:List D}{gs os:List (List Str)}(h:mu[F]?=some (.lst ds))(hi:ds[i]?=some (lv gs))(hj:ds[j]?=some (lv os))(nd:gs.Nodup)(hl:gs.length<=300):CP [GR i j,.ref F,T] mu=some (lv (gs.filter λx=>!decide (x∈os)),mu):=by
 have ix:=Jl (mu:=mu) h hi
 have iy:=Jl (mu:=mu) h hj
 have d1:decide (Str.ofString "gap"=Str.ofString "of")=false:=by symm
 have d2:decide (Str.ofString "gap"=Str.ofString "rows")=false:=by symm
 have d3:decide (Str.ofString "gap"=Str.ofString "columns")=false:=by symm
 have d4:decide (Str.ofString "gap"=Str.ofString "join")=false:=by symm
 have d5:decide (Str.ofString "gap"=Str.ofString "union")=false:=by symm
 have wo:=Nk (mu:=mu) (os:=os) nd hl
 unfold GR
 simp![CP,Ed,d1,d2,d3,d4,d5,ix,iy,wo]
def Vx {F:Nat}{T:D}{ds:List D}{P:List (List Str)}(h:mu[F]?=some (.lst ds))(hi:ds[0]?=some (lv P))(h2:∀r∈P,r.length=2)(hP:P.length<=32)(hfl:Flat mu):CP [Gj,.ref F,T] mu=some (lv (DH [] (P.flatMap (jn P))),mu):=by
 have ix:=Jl (mu:=mu) (j:=0) h hi
 have d1:decide (Str.ofString "join"=Str.ofString "of")=false:=by symm
 have d2:decide (Str.ofString "join"=Str.ofString "rows")=false:=by symm
 have d3:decide (Str.ofString "join"=Str.ofString "columns")=false:=by symm
 have d4:decide (Str.ofString "join"=Str.ofString "join")=true:=by simp
 have jr:=QU (mu:=mu) h2 hP hfl
 have i3:ixG Gj (.int 3) mu=some (.tup [.tup [.int (1:Nat)],.tup [.int (1:Nat)],.tup [.int (0:Nat)]],mu):=Fv (j:=3) _ (.inr rfl) rfl
 have i0:ixG Gj (.int 0) mu=some (.str "join",mu):=Fv (j:=0) _ (.inr rfl) rfl
 have i1:ixG Gj (.int 1) mu=some (.int (0:Nat),mu):=Fv (j:=1) _ (.inr rfl) rfl
 have i2:ixG Gj (.int 2) mu=some (.int (0:Nat),mu):=Fv (j:=2) _ (.inr rfl) rfl
 simp![CP,Ed,i0,i1,i2,i3,d1,d2,d3,d4,ix,jr]
theorem Q5 {x:List Str}(h:x.length=3):Ft [rwD x,.tup [.tup [.str "unlike",.int (0:Nat),.int (2:Nat)]]] mu=some (.bl (!decide (at' 0 x=at' 2 x)),mu):=by
 match x,h with
 |[a,b,c],_ =>
  have d1:decide (Str.ofString "unlike"=Str.ofString "is")=false:=by symm
  have d2:decide (Str.ofString "unlike"=Str.ofString "not")=false:=by symm
  have d3:decide (Str.ofString "unlike"=Str.ofString "like")=false:=by symm
  have i0:ixG (rwD [a,b,c]) (.int (0:Nat)) mu=some (.str a,mu):=Fv (j:=0) _ (.inr rfl) rfl
  have i2:ixG (rwD [a,b,c]) (.int (2:Nat)) mu=some (.str c,mu):=Fv (j:=2) _ (.inr rfl) rfl
  have me:Ir [rwD [a,b,c],.tup [.str "unlike",.int (0:Nat),.int (2:Nat)]] mu=some (.bl (!decide (a=c)),mu):=by
   simp![Ir,ME,d1,d2,d3,i0,i2]
  have lc:=Se (m0:=mu) (tg:=gNm 0) (el:=(CA Ir (Co (Cp 1) (Co (Cp 0) Cr)))) (ro:=[none,some (rwD [a,b,c])]) (mu:=mu) (λ_=>!decide (a=c)) [.tup [.str "unlike",.int (0:Nat),.int (2:Nat)]] (λd hd=>by
   rw[Ah.mp hd]
   refine⟨_,rfl,?_⟩
   simp![me])
  have al:Qz [.lst [.bl (!decide (a=c))]] mu=some (.bl (!decide (a=c)),mu):=by
   have:=V3 (bs:=[!decide (a=c)]) (mu:=mu)
   simpa using this
  simp![Ft,Ip,lc,al]
  rfl
def UK {F:Nat}{T:D}{ds:List D}{gs:List (List Str)}(h:mu[F]?=some (.lst ds))(hi:ds[1]?=some (lv gs))(h3:∀x∈gs,x.length=3)(nd:gs.Nodup)(hl:gs.length<=2000):CP [FT,.ref F,T] mu=some (lv (gs.filter λx=>!decide (at' 0 x=at' 2 x)),mu):=by
 have ix:=Jl (mu:=mu) (j:=1) h hi
 have d1:decide (Str.ofString "rows"=Str.ofString "of")=false:=by symm
 have d2:decide (Str.ofString "rows"=Str.ofString "rows")=true:=by simp
 have i0:ixG FT (.int 0) mu=some (.str "rows",mu):=Fv (j:=0) _ (.inr rfl) rfl
 have i1:ixG FT (.int 1) mu=some (.int (1:Nat),mu):=Fv (j:=1) _ (.inr rfl) rfl
 have i2:ixG FT (.int 2) mu=some (.tup [.tup [.str "unlike",.int (0:Nat),.int (2:Nat)]],mu):=Fv (j:=2) _ (.inr rfl) rfl
 have di:=QS (mu:=mu) (o:=Cp 4) (ro:=[some FT,some (.ref F),some T,some (.str "rows"),some (lv gs),none]) (ks:=(lvp gs).1) (vs:=(lvp gs).2) (m1:=mu) rfl
 rw[show((lvp gs).1,(lvp gs).2)=lvp gs from rfl,MD] at di
 have c2:=IC (m0:=mu) (mu:=mu) (tg:=(gTp 2 (Cy (gNm 0) (Cy (gNm 1) C0)))) (tt:=(tV (CA Ft (Co (Cp 0) (Co (Cz ixG (Cp 2) (eC (.int 2))) Cr))))) (kk:=Cp 0) (vv:=Cp 1) (ro:=[none,none,some FT]) (λd=>match d with|.tup [k,_]=>!decide (at' 0 (GQ k)=at' 2 (GQ k))|_=>false) (λd=>match d with|.tup [k,v]=>(k,v)|_=>(.non,.non)) (gs.map λx=>.tup [rwD x,.int 3]) ([],[]) (λd hd=>by
  obtain⟨x,hx,rfl⟩:=AK.mp hd
  refine⟨[some (rwD x),some (.int 3),some FT],rfl,?_,λ_=>⟨rfl,rfl,(Hn.row x).K (by decide)⟩⟩
  have me:=Q5 (mu:=mu) (h3 x hx)
  dsimp only
  rw[F4]
  simp![i2,me]
  all_goals rfl) (by rw[Ak,AH,List.length_nil];ext)
 have ef:((gs.map λx=>D.tup [rwD x,.int 3]).filter (λd=>match d with|.tup [k,_]=>!decide (at' 0 (GQ k)=at' 2 (GQ k))|_=>false)).map (λd=>match d with|.tup [k,v]=>(k,v)|_=>((.non:D),(.non:D)))=(gs.filter λx=>!decide (at' 0 x=at' 2 x)).map λx=>(rwD x,D.int 3):=by
  rw[List.filter_map,A8]
  have:((λd=>match d with|.tup [k,_]=>!decide (at' 0 (GQ k)=at' 2 (GQ k))|_=>false)∘λx=>D.tup [rwD x,.int 3])=λx=>!decide (at' 0 x=at' 2 x):=by
   funext x
   show(!decide (at' 0 (GQ (rwD x))=at' 2 (GQ (rwD x))))=_
   rw[F4]
  rw[this]
  rfl
 have pl:=J0 (gs.filter λx=>!decide (at' 0 x=at' 2 x)) []
 rw[MS (by rw[List.nil_append];exact nd.sublist List.filter_sublist),List.nil_append] at pl
 have pl':putAll ([],[]) ((gs.filter λx=>!decide (at' 0 x=at' 2 x)).map λx=>(rwD x,D.int 3))=lvp (gs.filter λx=>!decide (at' 0 x=at' 2 x)):=pl
 rw[ef,pl'] at c2
 simp![CP,Ed,i0,i1,d1,d2,ix,QM,di,c2,HP]
 all_goals rfl
def MA {S vs:List D}{T:D}(hl:vs.length=S.length)(h10:S.length<=10)(low:∀v∈vs,EG 0 v=true)(hfl:Flat mu)(st:∀(j:Nat) s v (m:Sto),S[j]?=some s->vs[j]?=some v->Flat m->m[mu.length]?=some (.lst (vs.take j))->CP [s,.ref mu.length,T] m=some (v,m)):Fm [.lst S,T] mu=some (.lst vs,mu):=by
 have lows:∀us:List D,(∀v∈us,EG 0 v=true)->Ep 0 us=true:=λus h=>Jo.mpr h
 obtain⟨ro',m',e,⟨y3,rfl⟩,rfl⟩:=F9 (m0:=mu++[MO.lst []]) (tg:=gNm 3) (body:=(sEx (IL (Cp 2) (Co (CA CP (Co (Cp 3) (Co (Cp 2) (Co (Cp 1) Cr)))) Cr)))) (λi ro m=>(∃y3,ro=[some (.lst S),some T,some (.ref mu.length),y3])/\m=mu++[MO.lst (vs.take i)]) S 0 [some (.lst S),some T,some (.ref mu.length),none] (mu++[MO.lst []]) ⟨⟨none,rfl⟩,by simp⟩ λj s ro m ed hi=>by
  obtain⟨⟨y3,rfl⟩,rfl⟩:=hi
  have jl:j<vs.length:=by rw[hl];exact(Ad.mp ed).1
  obtain⟨v,ev⟩:∃v,vs[j]?=some v:=⟨vs[j],Al jl⟩
  rw[Br]
  have hF:(mu++[MO.lst (vs.take j)])[mu.length]?=some (.lst (vs.take j)):=by simp
  have fl:Flat (mu++[MO.lst (vs.take j)]):=Ow hfl (by
   show Ep _ _=true
   exact FC (A5 _) (lows _ λv hv=>low v (List.mem_of_mem_take hv)))
  have se:=st j s v _ ed ev fl hF
  have ap:=append_at (ro:=[some (.lst S),some T,some (.ref mu.length),some s]) (i:=2) (e:=(CA CP (Co (Cp 3) (Co (Cp 2) (Co (Cp 1) Cr))))) hF hF (y:=v) (by rw[AH,AU];ext) rfl (by simp![se])
  generalize hE:IL (Cp 2) (Co (CA CP (Co (Cp 3) (Co (Cp 2) (Co (Cp 1) Cr)))) Cr)=E at ap
  refine⟨_,_,[some (.lst S),some T,some (.ref mu.length),some s],_,rfl,?_,⟨_,rfl⟩,rfl⟩
  have ap':E [some (.lst S),some T,some (.ref mu.length),some s] (mu++[MO.lst (vs.take j)])=some (.non,mu++[MO.lst (vs.take (j+1))]):=by
   rw[ap,List.take_add_one,ev]
   simp
  rw[XT]
  show bM (E [some (.lst S),some T,some (.ref mu.length),some s] _) _=_
  rw[ap',CM]
  all_goals rfl
 rw[Br,<- hl,List.take_length] at e
 have hF:(mu++[MO.lst vs])[mu.length]?=some (.lst vs):=by simp
 have tk:(mu++[MO.lst vs]).take mu.length=mu:=by simp
 have ct:=UZ (mu:=mu) (Ae _) hF (lows _ low) (by rw[tk];exact hfl)
 rw[tk] at ct
 simp![Fm,Ie,e,ct]
def Lg {sch fil look T:D}{S vs:List D}{gs:List (List Str)}(e1:Er [sch,look] mu=some (.lst S,mu))(e2:EI [sch,fil] mu=some (T,mu))(e3:Fm [.lst S,T] mu=some (.lst vs,mu))(hv:ixG (.lst vs) (.int (-1)) mu=some (lv gs,mu))(hl:gs.length<=2000)(hne:∀r∈gs,r≠[]):∃ds,EB [sch,fil,look] mu=some (.tup ds,mu)/\trD (.tup ds)=some (!gs.isEmpty):=by
 refine⟨FF (gs.map rwD),?_,?_⟩
 ·have ok:=Ml (rs:=gs) (by ext) hne
  have sr:Lz [lv gs] mu=some (.lst (FF (gs.map rwD)),mu):=by
   have u:M7 [lv gs] mu=none:=rfl
   unfold Lz
   rw[u]
   show(match DC mu (lv gs) with|some p=>_|none=>none)=_
   show(if ES (gs.map rwD)=true then _ else _)=_
   rw[if_pos ok]
  have ng:X7 (.int 1) mu=some (.int (-1),mu):=rfl
  simp![EB,Pq,e1,e2,e3,ng,hv,sr]
 ·have:(FF (gs.map rwD)).isEmpty=gs.isEmpty:=by
   have:=(D3 (gs.map rwD)).length_eq
   rw[Ak] at this
   cases gs with
   |nil=>exact List.isEmpty_iff.mpr (List.length_eq_zero_iff.mp this)
   |cons g gs =>
    cases c:FF ((g::gs).map rwD) with
    |nil=>rw[c] at this;cases this
    |cons x xs=>rfl
  simp only[trD,this]
structure R2 (f:List (List Str)):Prop where
 len:f.length<=32
 two:∀r∈f,r.length=2
 key:(f.map (at' 0)).Nodup
def R2.nd {f:List (List Str)}(h:R2 f):f.Nodup:=LY h.key
def Jw (f1 f2:List (List Str)):Bool:=(f1.map (at' 1)).any λb=>!decide (b∈f2.map (at' 0))
def Ju (f1 f2:List (List Str)):Bool:=(f2.map (at' 0)).any λb=>!decide (b∈f1.map (at' 1))
def K0 (f1:List (List Str)):Bool:=(f1.map (at' 1)).any λb=>decide (1<(f1.map (at' 1)).countP λy=>decide (y=b))
def Qq {c d:List (List Str)}{g h:List Str->Str}:(!((DH [] (c.map λr=>[g r])).filter λx=>!decide (x∈DH [] (d.map λr=>[h r]))).isEmpty)=(c.map g).any λb=>!decide (b∈d.map h):=by
 have mm:∀b:Str,[b]∈DH [] (d.map λr=>[h r])↔b∈d.map h:=λb=>by
  rw[HW]
  simp
 rw[Bool.eq_iff_iff,List.any_eq_true,BU,List.isEmpty_eq_false_iff_exists_mem]
 constructor
 ·rintro⟨x,hx⟩
  obtain⟨h1,h2⟩:=Bd.mp hx
  rw[HW] at h1
  simp only[Ax,false_or,AK] at h1
  obtain⟨r,hr,rfl⟩:=h1
  refine⟨g r,AK.mpr ⟨r,hr,rfl⟩,?_⟩
  simp only[BU,Ca] at h2 ⊢
  exactλc=>h2 ((mm _).mpr c)
 ·rintro⟨b,hb,h2⟩
  obtain⟨r,hr,rfl⟩:=AK.mp hb
  refine⟨[g r],Bd.mpr ⟨by rw[HW];exact .inr (AK.mpr ⟨r,hr,rfl⟩),?_⟩⟩
  simp only[BU,Ca] at h2 ⊢
  exactλc=>h2 ((mm _).mp c)
theorem RE (f:List (List Str)):∀rs:List (List Str),(rs.flatMap (jn f)).length<=rs.length*f.length
 |[]=>by simp
 |r::rs=>by
  have:=RE f rs
  have:=SQ f r
  rw[List.flatMap_cons,As,List.length_cons,Nat.succ_mul]
  ext
def SI {f:List (List Str)}{x:List Str}:x∈DH [] (f.flatMap (jn f))↔∃r∈f,∃r'∈f,at' 1 r'=at' 1 r/\x=r++[at' 0 r']:=by
 rw[HW,List.mem_flatMap]
 simp only[Ax,false_or,jn,AK,Bd,AA,kf,List.cons.injEq,and_true]
 constructor
 ·rintro⟨r,hr,r',⟨h1,h2⟩,rfl⟩
  exact⟨r,hr,r',h1,h2,rfl⟩
 ·rintro⟨r,hr,r',h1,h2,rfl⟩
  exact⟨r,hr,r',⟨h1,h2⟩,rfl⟩
theorem Si {r:List Str}{y:Str}(h:r.length=2):at' 0 (r++[y])=at' 0 r/\at' 2 (r++[y])=y:=by
 match r,h with
 |[a,b],_=>exact⟨rfl,rfl⟩
def Vs {f:List (List Str)}(h:R2 f):(!((DH [] (f.flatMap (jn f))).filter λx=>!decide (at' 0 x=at' 2 x)).isEmpty)=K0 f:=by
 rw[Bool.eq_iff_iff,BU,List.isEmpty_eq_false_iff_exists_mem]
 have nc:=@List.nodup_iff_count Str instBEqOfDecidableEq inferInstance (f.map (at' 1))
 unfold K0
 rw[List.any_eq_true]
 constructor
 ·rintro⟨x,hx⟩
  obtain⟨h1,h2⟩:=Bd.mp hx
  obtain⟨r,hr,r',hr',e,rfl⟩:=SI.mp h1
  have aa:=Si (y:=at' 0 r') (h.two r hr)
  rw[aa.1,aa.2] at h2
  simp only[BU,Ca] at h2
  have nn:¬ (f.map (at' 1)).Nodup:=λnd=>by
   rw[A3,B9,BZ] at nd
   obtain⟨i,hi,rfl⟩:=List.mem_iff_getElem.mp hr
   obtain⟨j,hj,rfl⟩:=List.mem_iff_getElem.mp hr'
   rcases Nat.lt_trichotomy i j with c|c|c
   ·exact nd i j hi hj c e.symm
   ·subst c
    exact h2 rfl
   ·exact nd j i hj hi c e
  rw[nc] at nn
  obtain⟨b,hb⟩:=Classical.not_forall.mp nn
  have hb':1<(f.map (at' 1)).countP (λy=>decide (y=b)):=by
   have:List.count b (f.map (at' 1))=(f.map (at' 1)).countP (λy=>decide (y=b)):=rfl
   ext
  refine⟨b,?_,BK hb'⟩
  obtain⟨y,hy,e⟩:=List.countP_pos_iff.mp (Nat.lt_trans Nat.zero_lt_one hb')
  rw[<- of_decide_eq_true e]
  exact hy
 ·rintro⟨b,hb,hc⟩
  have hc:=of_decide_eq_true hc
  have nn:¬ (f.map (at' 1)).Nodup:=λnd=>by
   have:=nc.mp nd b
   have e:List.count b (f.map (at' 1))=(f.map (at' 1)).countP (λy=>decide (y=b)):=rfl
   ext
  apply Classical.byContradiction
  intro hn
  apply nn
  have key:=h.key
  rw[A3,B9] at key ⊢
  refine key.imp_of_mem λ{r r'} hr hr' ne e=>hn ⟨r++[at' 0 r'],Bd.mpr ⟨SI.mpr ⟨r,hr,r',hr',e.symm,rfl⟩,?_⟩⟩
  have aa:=Si (y:=at' 0 r') (h.two r hr)
  rw[aa.1,aa.2]
  simpa using ne
section
variable {kn sch fil:D}{n0 n1 w0 w1 w2 w3:Str}{f1 f2:List (List Str)}
structure Pl (mu:Sto) (sch fil:D) (kn:D) (n0 n1 w0 w1 w2 w3:Str) (f1 f2:List (List Str)):Prop where
 k:Kn kn n0 n1 w0 w1 w2 w3
 bn:∀m:Sto,CV [sch] m=some (kn,m)
 tb:∃tk tv,EI [sch,fil] mu=some (.dct tk tv,mu)/\Dv (.str n0) tk tv=some (lv f1)/\Dv (.str n1) tk tv=some (lv f2)
 r1:R2 f1
 r2:R2 f2
def Nf {c:List (List Str)}{g:List Str->Str}(h:c.length<=32):(DH [] (c.map λr=>[g r])).length<=32:=by
 have:=JG (xs:=c.map λr=>[g r]) (gs:=[])
 rw[Ak,List.length_nil] at this
 ext
def V0 {c:List (List Str)}{g:List Str->Str}{p:List Str->Bool}:∀r∈(DH [] (c.map λr=>[g r])).filter p,r≠[]:=λr hr e=>by
 have:=(Bd.mp hr).1
 rw[HW] at this
 simp[e] at this
def L4 (h:Pl mu sch fil kn n0 n1 w0 w1 w2 w3 f1 f2)(hfl:Flat mu):∃ds,EB [sch,fil,KC n0 n1 w1 w2] mu=some (.tup ds,mu)/\trD (.tup ds)=some (Jw f1 f2):=by
 obtain⟨tk,tv,et,g0,g1⟩:=h.tb
 have es:=Pt h.k hfl h.bn
 have el:=MA (mu:=mu) (S:=[EE n0,Ei 0 1,EE n1,Ei 2 0,GR 1 3]) (T:=.dct tk tv) (vs:=[lv f1,lv (DH [] (f1.map λr=>[at' 1 r])),lv f2,lv (DH [] (f2.map λr=>[at' 0 r])),lv ((DH [] (f1.map λr=>[at' 1 r])).filter λx=>!decide (x∈DH [] (f2.map λr=>[at' 0 r])))]) rfl (by simp) (λv hv=>by
   simp only[Ao,Ax,Ba] at hv
   rcases hv with rfl|rfl|rfl|rfl|rfl<;>exact MJ _ _) hfl λj s v m e1 e2 fl hF=>by
  match j,e1,e2,hF with
  |0,e1,e2,hF=>cases e1;cases e2;exact Oa g0
  |1,e1,e2,hF=>cases e1;cases e2;exact Mo hF rfl (λr hr=>by rw[h.r1.two r hr];decide) (by have:=h.r1.len;ext) fl
  |2,e1,e2,hF=>cases e1;cases e2;exact Oa g1
  |3,e1,e2,hF=>cases e1;cases e2;exact Mo hF rfl (λr hr=>by rw[h.r2.two r hr];decide) (by have:=h.r2.len;ext) fl
  |4,e1,e2,hF=>cases e1;cases e2;exact T5 hF rfl rfl (MX .nil) (by have:=Nf (g:=at' 1) h.r1.len;ext)
  |n+5,e1,e2,hF=>simp at e1
 have te:=Lg es et el (gs:=(DH [] (f1.map λr=>[at' 1 r])).filter λx=>!decide (x∈DH [] (f2.map λr=>[at' 0 r]))) rfl (AO (Bp _ _) (by have:=Nf (g:=at' 1) h.r1.len;ext)) V0
 rw[Qq] at te
 exact te
def Me (h:Pl mu sch fil kn n0 n1 w0 w1 w2 w3 f1 f2)(hfl:Flat mu):∃ds,EB [sch,fil,KR n0 n1 w1 w2] mu=some (.tup ds,mu)/\trD (.tup ds)=some (Ju f1 f2):=by
 obtain⟨tk,tv,et,g0,g1⟩:=h.tb
 have es:=Ph h.k hfl h.bn
 have el:=MA (mu:=mu) (S:=[EE n1,Ei 0 0,EE n0,Ei 2 1,GR 1 3]) (T:=.dct tk tv) (vs:=[lv f2,lv (DH [] (f2.map λr=>[at' 0 r])),lv f1,lv (DH [] (f1.map λr=>[at' 1 r])),lv ((DH [] (f2.map λr=>[at' 0 r])).filter λx=>!decide (x∈DH [] (f1.map λr=>[at' 1 r])))]) rfl (by simp) (λv hv=>by
   simp only[Ao,Ax,Ba] at hv
   rcases hv with rfl|rfl|rfl|rfl|rfl<;>exact MJ _ _) hfl λj s v m e1 e2 fl hF=>by
  match j,e1,e2,hF with
  |0,e1,e2,hF=>cases e1;cases e2;exact Oa g1
  |1,e1,e2,hF=>cases e1;cases e2;exact Mo hF rfl (λr hr=>by rw[h.r2.two r hr];decide) (by have:=h.r2.len;ext) fl
  |2,e1,e2,hF=>cases e1;cases e2;exact Oa g0
  |3,e1,e2,hF=>cases e1;cases e2;exact Mo hF rfl (λr hr=>by rw[h.r1.two r hr];decide) (by have:=h.r1.len;ext) fl
  |4,e1,e2,hF=>cases e1;cases e2;exact T5 hF rfl rfl (MX .nil) (by have:=Nf (g:=at' 0) h.r2.len;ext)
  |n+5,e1,e2,hF=>simp at e1
 have te:=Lg es et el (gs:=(DH [] (f2.map λr=>[at' 0 r])).filter λx=>!decide (x∈DH [] (f1.map λr=>[at' 1 r]))) rfl (AO (Bp _ _) (by have:=Nf (g:=at' 0) h.r2.len;ext)) V0
 rw[Qq] at te
 exact te
def N7 (h:Pl mu sch fil kn n0 n1 w0 w1 w2 w3 f1 f2)(hfl:Flat mu):∃ds,EB [sch,fil,Nv n0 w0] mu=some (.tup ds,mu)/\trD (.tup ds)=some (K0 f1):=by
 obtain⟨tk,tv,et,g0,g1⟩:=h.tb
 have es:=Rg h.k hfl h.bn
 have l1:(DH [] (f1.flatMap (jn f1))).length<=2000:=by
  have a:=JG (xs:=f1.flatMap (jn f1)) (gs:=[])
  have b:=RE f1 f1
  have c:f1.length*f1.length<=32*32:=Nat.mul_le_mul h.r1.len h.r1.len
  rw[List.length_nil] at a
  ext
 have h3:∀x∈DH [] (f1.flatMap (jn f1)),x.length=3:=λx hx=>by
  obtain⟨r,hr,r',_,_,rfl⟩:=SI.mp hx
  rw[As,h.r1.two r hr]
  rfl
 have el:=MA (mu:=mu) (S:=[EE n0,Gj,FT]) (T:=.dct tk tv) (vs:=[lv f1,lv (DH [] (f1.flatMap (jn f1))),lv ((DH [] (f1.flatMap (jn f1))).filter λx=>!decide (at' 0 x=at' 2 x))]) rfl (by simp) (λv hv=>by
   simp only[Ao,Ax,Ba] at hv
   rcases hv with rfl|rfl|rfl<;>exact MJ _ _) hfl λj s v m e1 e2 fl hF=>by
  match j,e1,e2,hF with
  |0,e1,e2,hF=>cases e1;cases e2;exact Oa g0
  |1,e1,e2,hF=>cases e1;cases e2;exact Vx hF rfl h.r1.two h.r1.len fl
  |2,e1,e2,hF=>cases e1;cases e2;exact UK hF rfl h3 (MX .nil) l1
  |n+3,e1,e2,hF=>simp at e1
 have te:=Lg es et el (gs:=(DH [] (f1.flatMap (jn f1))).filter λx=>!decide (at' 0 x=at' 2 x)) rfl (AO (Bp _ _) l1) (λr hr e=>by
  have:=h3 r (Bd.mp hr).1
  rw[e] at this
  cases this)
 rw[Vs h.r1] at te
 exact te
end
end PG
namespace PV
open PySem L2 PyProof.Rows K1
variable {mu:Sto}
def Xk {x:Str}{ss:List Str}:JV (.str x) (.lst (ss.map D.str)) mu=some (.bl (!decide (x∈ss)),mu):=by simp only[JV,R1,MR (.inr rfl),Option.map_some]
def Zw {bs:List Bool}:anyF [.lst (bs.map D.bl)] mu=some (.bl (bs.any id),mu):=by
 have e:IP (bs.map D.bl)=some bs:=by
  induction bs with
  |nil=>rfl
  |cons b bs ih=>rw[Ay];simp[IP,ih]
 unfold anyF quF
 simp only[DW,e,Option.map_some]
def RY {ds:List D}{g:D->Bool}:anyF [.lst ((ds.map g).map D.bl)] mu=some (.bl (ds.any g),mu):=by
 rw[Zw,List.any_map]
 rfl
def Ya {o:Ex}{x:Ex}{ro:Ro}{ss:List Str}{y:Str}(ho:o ro mu=some (.lst (ss.map D.str),mu))(hx:x ro mu=some (.str y,mu)):L3 o (Co x Cr) ro mu=some (.int (ss.countP λz=>decide (z=y):Nat),mu):=by
 unfold L3
 rw[ho,CM]
 dsimp only
 have hd:min (PyData.depthAll (CJ (ss.map D.str))) (toPy (.str y)).depth<=60:=AO (Nat.min_le_right _ _) (Qn y)
 have hp:Dl (.str y)=true:=rfl
 have ec:((CJ (ss.map D.str)).countP λz=>PyData.eqv z (toPy (.str y)))=ss.countP λz=>decide (z=y):=by
  rw[P4,List.countP_map]
  rfl
 simp only[UX,Us,hx,Kh,VC,Gm,hp,Iy,hd,decide_true,Bool.and_self,if_true,ec]
def RD:Dn .non=true:=by simp[Dn,hsh,dpt]
end PV
namespace PG
open PySem L2 PV PyProof.Rows K1
variable {mu:Sto}
abbrev Ru:=Str×D×Bool
def ruD (t:Ru):D:=.tup [.str t.1,t.2.1]
def brk (R:List Ru):D:=match R.find? (·.2.2) with
 |some t=>.str t.1
 |none=>.non
def bB:Sx:=(sIf (tTr (CA EB (Co (Cp 0) (Co (Cp 1) (Co (Cp 4) Cr))))) (sRt (Cp 3)) (sNx))
theorem Tn {sch fil rl:D}{m0:Sto}:∀(R:List Ru) (x3 x4:Option D),(∀t∈R,∃ds,EB [sch,fil,t.2.1] mu=some (.tup ds,mu)/\trD (.tup ds)=some t.2.2)->∃ro',GJ none m0 (gTp 2 (Cy (gNm 3) (Cy (gNm 4) C0))) bB (R.map ruD) [some sch,some fil,some rl,x3,x4] mu=some ((match R.find? (·.2.2) with|some t=>.rt (.str t.1)|none=>.nx,ro'),mu)
 |[],x3,x4,_=>⟨_,rfl⟩
 |t::R,x3,x4,h=>by
  obtain⟨ds,e1,e2⟩:=h t (.head _)
  have tg:gTp 2 (Cy (gNm 3) (Cy (gNm 4) C0)) (ruD t) [some sch,some fil,some rl,x3,x4] mu=some ([some sch,some fil,some rl,some (.str t.1),some t.2.1],mu):=rfl
  have tt:tTr (CA EB (Co (Cp 0) (Co (Cp 1) (Co (Cp 4) Cr)))) [some sch,some fil,some rl,some (.str t.1),some t.2.1] mu=some (t.2.2,mu):=by
   unfold tTr
   simp![e1,e2,Option.map_some]
  rw[Ay,List.find?_cons]
  unfold GJ
  cases c:t.2.2 with
  |true =>
   rw[c] at tt
   have b1:bB [some sch,some fil,some rl,some (.str t.1),some t.2.1] mu=some ((.rt (.str t.1),[some sch,some fil,some rl,some (.str t.1),some t.2.1]),mu):=by
    unfold bB
    rw[Ts,tt]
    rfl
   refine⟨[some sch,some fil,some rl,some (.str t.1),some t.2.1],?_⟩
   rw[tg,CM,b1,CM]
  |false =>
   rw[c] at tt
   have b1:bB [some sch,some fil,some rl,some (.str t.1),some t.2.1] mu=some ((.nx,[some sch,some fil,some rl,some (.str t.1),some t.2.1]),mu):=by
    unfold bB
    rw[Ts,tt]
    rfl
   obtain⟨ro',ih⟩:=Tn (m0:=m0) R (some (.str t.1)) (some t.2.1) λt ht=>h t (.tail _ ht)
   refine⟨ro',?_⟩
   rw[tg,CM,b1,CM]
   dsimp only
   rw[FX,ih]
theorem PC {sch fil:D}{R:List Ru}(h:∀t∈R,∃ds,EB [sch,fil,t.2.1] mu=some (.tup ds,mu)/\trD (.tup ds)=some t.2.2):Fc [sch,fil,.tup (R.map ruD)] mu=some (brk R,mu):=by
 obtain⟨ro',e⟩:=Tn (rl:=.tup (R.map ruD)) (m0:=mu) R none none h
 unfold brk
 unfold bB at e
 cases c:R.find? (·.2.2) with
 |none =>
  rw[c] at e
  simp![Fc,JA,e]
 |some t =>
  rw[c] at e
  simp![Fc,JA,e]
theorem S9 (R:List Ru):∃ds,(R.filter (·.2.2)).map (λt=>D.str t.1)++[.non]=brk R::ds:=by
 induction R with
 |nil=>exact⟨[],rfl⟩
 |cons t R ih =>
  unfold brk at ih ⊢
  rw[List.filter_cons,List.find?_cons]
  cases c:t.2.2 with
  |true=>exact⟨_,rfl⟩
  |false=>exact ih
def V7 (R:List Ru):Dn (brk R)=true:=by
 unfold brk
 split
 ·exact Es _
 ·exact RD
def Vr (b1 b2 b3:Bool):D:=.dct [.str "lacking",.str "twice",.str "idle"] [.bl b1,.bl b2,.bl b3]
def PN {ta tb:Tb}{fa fb f1 f2:List (List Str)}{n0 n1:Str}(hn:ta.nm≠tb.nm)(g0:Dv (.str n0) [.str ta.nm,.str tb.nm] [flD fa,flD fb]=some (flD f1))(g1:Dv (.str n1) [.str ta.nm,.str tb.nm] [flD fa,flD fb]=some (flD f2))(h1:R2 f1)(h2:R2 f2)(hfl:Flat mu):GC [.tup [tbD ta,tbD tb],.tup [flD fa,flD fb],.lst [.str n0,.str n1]] mu=some (Vr (Jw f1 f2) (K0 f1) (Ju f1 f2),mu):=by
 have zp:∀x3 x4 x5 x6 x7:Option D,Ri (Co (Cp 0) (Co (Cp 1) Cr)) [some (.tup [tbD ta,tbD tb]),some (.tup [flD fa,flD fb]),some (.lst [.str n0,.str n1]),x3,x4,x5,x6,x7] mu=some (([.tup [tbD ta,flD fa],.tup [tbD tb,flD fb]],none),mu):=λx3 x4 x5 x6 x7=>Wx (xs:=[tbD ta,tbD tb]) (ys:=[flD fa,flD fb]) rfl
 have l1:=HK (m0:=mu) (tg:=(gTp 2 (Cy (gNm 0) (Cy (gNm 1) C0)))) (el:=(Dq (Co (Cz ixG (Cp 0) (eC (.int 0))) (Co (Cp 1) Cr)))) (ro:=[none,none]) (mu:=mu) (λd=>match d with|.tup [.tup (n::_),r]=>.tup [n,r]|_=>.non) [.tup [tbD ta,flD fa],.tup [tbD tb,flD fb]] (λd hd=>by
  simp only[Ao,Ax,Ba] at hd
  rcases hd with rfl|rfl
  ·refine⟨_,rfl,?_⟩
   unfold tbD
   simp![]
  ·refine⟨_,rfl,?_⟩
   unfold tbD
   simp![])
 have l1':FO none mu (gTp 2 (Cy (gNm 0) (Cy (gNm 1) C0))) tY (Dq (Co (Cz ixG (Cp 0) (eC (.int 0))) (Co (Cp 1) Cr))) [none,none] [.tup [tbD ta,flD fa],.tup [tbD tb,flD fb]] mu=some ([.tup [.str ta.nm,flD fa],.tup [.str tb.nm,flD fb]],mu):=l1
 have dp:dctP [.lst [.tup [.str ta.nm,flD fa],.tup [.str tb.nm,flD fb]]] mu=some (.dct [.str ta.nm,.str tb.nm] [flD fa,flD fb],mu):=by
  have po:PV.pairsOf [.tup [.str ta.nm,flD fa],.tup [.str tb.nm,flD fb]]=some [(.str ta.nm,flD fa),(.str tb.nm,flD fb)]:=by simp[PV.pairsOf,Es]
  have sq:sq1 [.lst [.tup [.str ta.nm,flD fa],.tup [.str tb.nm,flD fb]]] mu=some [.tup [.str ta.nm,flD fa],.tup [.str tb.nm,flD fb]]:=rfl
  unfold dctP
  rw[sq]
  dsimp only
  rw[po]
  dsimp only
  rw[FR _ [] [] rfl (by simp[hn])]
  rfl
 have lcs:∀(p:Nat) (f:List (List Str)),R2 f->p<2->FO none mu (gNm 0) tY (Cz ixG (Cp 0) (eC (.int (p:Nat)))) [none] (f.map rwD) mu=some ((f.map (at' p)).map D.str,mu):=λp f hf hp=>by
  have:=HK (m0:=mu) (tg:=gNm 0) (el:=(Cz ixG (Cp 0) (eC (.int (p:Nat))))) (ro:=[none]) (mu:=mu) (λd=>.str (at' p (GQ d))) (f.map rwD) (λd hd=>by
   obtain⟨r,hr,rfl⟩:=AK.mp hd
   refine⟨_,rfl,?_⟩
   rw[F4]
   have e:r[p]?=some (at' p r):=by
    unfold at'
    rw[AQ,Al (by rw[hf.two r hr];exact hp)]
    rfl
   have ix:ixG (rwD r) (.int (p:Nat)) mu=some (.str (at' p r),mu):=Fv _ (.inr rfl) (by rw[Am,e];rfl)
   simp![ix])
  rw[this,A8,A8]
  congr 2
  exact Cf λr _=>by show D.str (at' p (GQ (rwD r)))=_;rw[F4];rfl
 have lN:FO none mu (gNm 0) tY (Cz ixG (Cp 0) (eC (.int 1))) [none] (f1.map rwD) mu=_:=lcs 1 f1 h1 (by decide)
 have lT:FO none mu (gNm 0) tY (Cz ixG (Cp 0) (eC (.int 0))) [none] (f2.map rwD) mu=_:=lcs 0 f2 h2 (by decide)
 have anyN:∀(xs ys:List Str),anyF [.lst (((xs.map D.str).map λd=>match d with|.str x=>!decide (x∈ys)|_=>false).map D.bl)] mu=some (.bl (xs.any λb=>!decide (b∈ys)),mu):=λxs ys=>by
  rw[RY,List.any_map]
  rfl
 have lcn:∀(xs ys:List Str),FO none mu (gNm 0) tY (Cz JV (Cp 0) (Cp 1)) [none,some (.lst (ys.map D.str))] (xs.map D.str) mu=some (((xs.map D.str).map λd=>match d with|.str x=>!decide (x∈ys)|_=>false).map D.bl,mu):=λxs ys=>Se (λd=>match d with|.str x=>!decide (x∈ys)|_=>false) (xs.map D.str) (λd hd=>by
  obtain⟨x,hx,rfl⟩:=AK.mp hd
  refine⟨_,rfl,?_⟩
  have nn:=Xk (mu:=mu) (x:=x) (ss:=ys)
  simp![nn])
 have lcc:∀(xs:List Str),FO none mu (gNm 0) tY (Cz gtD (L3 (Cp 1) (Co (Cp 0) Cr)) (eC (.int 1))) [none,some (.lst (xs.map D.str))] (xs.map D.str) mu=some (((xs.map D.str).map λd=>match d with|.str x=>decide (1<xs.countP λz=>decide (z=x))|_=>false).map D.bl,mu):=λxs=>Se (λd=>match d with|.str x=>decide (1<xs.countP λz=>decide (z=x))|_=>false) (xs.map D.str) (λd hd=>by
  obtain⟨x,hx,rfl⟩:=AK.mp hd
  refine⟨_,rfl,?_⟩
  have cc:=Ya (mu:=mu) (o:=Cp 1) (x:=Cp 0) (ro:=[some (.str x),some (.lst (xs.map D.str))]) (ss:=xs) (y:=x) rfl rfl
  have dd:decide ((1:Int)<((xs.countP λz=>decide (z=x):Nat):Int))=decide (1<xs.countP λz=>decide (z=x)):=by
   rw[Bool.eq_iff_iff,AA,AA]
   ext
  generalize hC:L3 (Cp 1) (Co (Cp 0) Cr)=C at cc
  have cc':C [some (.str x),some (.lst (xs.map D.str))] mu=_:=cc
  show(Cz gtD C (eC (.int 1))) [some (.str x),some (.lst (xs.map D.str))] mu=_
  simp![cc',dd])
 have anyC:anyF [.lst ((((f1.map (at' 1)).map D.str).map λd=>match d with|.str x=>decide (1<(f1.map (at' 1)).countP λz=>decide (z=x))|_=>false).map D.bl)] mu=some (.bl (K0 f1),mu):=by
  rw[RY,List.any_map]
  rfl
 have aN1:anyF _ mu=some (.bl (Jw f1 f2),mu):=anyN (f1.map (at' 1)) (f2.map (at' 0))
 have aN2:anyF _ mu=some (.bl (Ju f1 f2),mu):=anyN (f2.map (at' 0)) (f1.map (at' 1))
 have lc1:=lcn (f1.map (at' 1)) (f2.map (at' 0))
 have lc2:=lcn (f2.map (at' 0)) (f1.map (at' 1))
 have lc3:=lcc (f1.map (at' 1))
 have ix0:=K4 (mu:=mu) g0
 have ix1:=K4 (mu:=mu) g1
 have in0:ixG (.lst [.str n0,.str n1]) (.int 0) mu=some (.str n0,mu):=Fv (j:=0) _ (.inl rfl) rfl
 have in1:ixG (.lst [.str n0,.str n1]) (.int 1) mu=some (.str n1,mu):=Fv (j:=1) _ (.inl rfl) rfl
 have w1:HL mu (flD f1)=some ((f1.map rwD,none),mu):=rfl
 have w2:HL mu (flD f2)=some ((f2.map rwD,none),mu):=rfl
 have ne1:¬ Str.ofString "lacking"=Str.ofString "twice":=by symm
 have ne2:¬ Str.ofString "lacking"=Str.ofString "idle":=by symm
 have ne3:¬ Str.ofString "twice"=Str.ofString "idle":=by symm
 have dn:dnD [.str "lacking",.bl (Jw f1 f2),.str "twice",.bl (K0 f1),.str "idle",.bl (Ju f1 f2)] mu=some (.ref mu.length,mu++[.dct [.str "lacking",.str "twice",.str "idle"] [.bl (Jw f1 f2),.bl (K0 f1),.bl (Ju f1 f2)]]):=by
  have po:MP [.str "lacking",.bl (Jw f1 f2),.str "twice",.bl (K0 f1),.str "idle",.bl (Ju f1 f2)]=some [(.str "lacking",.bl (Jw f1 f2)),(.str "twice",.bl (K0 f1)),(.str "idle",.bl (Ju f1 f2))]:=by simp[MP,Es]
  unfold dnD
  rw[po]
  dsimp only
  rw[if_pos (by simp),FR _ [] [] rfl (by simp[ne1,ne2,ne3])]
  rfl
 have tk:(mu++[MO.dct [.str "lacking",.str "twice",.str "idle"] [.bl (Jw f1 f2),.bl (K0 f1),.bl (Ju f1 f2)]]).take mu.length=mu:=by simp
 have ct:=Qs (mu:=mu) (m:=mu++[MO.dct [.str "lacking",.str "twice",.str "idle"] [.bl (Jw f1 f2),.bl (K0 f1),.bl (Ju f1 f2)]]) (k:=mu.length) (Ae _) (by rw[A1 (Ae _),Nat.sub_self];rfl) rfl rfl (by rw[tk];exact hfl)
 rw[tk] at ct
 have ed:∀{a:Exs}{ro:Ro},eDN a ro mu=bM (a ro mu) dnD:=rfl
 simp![GC,J9,ed,zp,l1',dp,in0,in1,ix0,ix1,w1,w2,lN,lT,lc1,lc2,lc3,aN1,aN2,anyC,dn]
 exact ct
def q1B:Sx:=(sIf (tV (Cz neD (CA Fc (Co (Cp 0) (Co (Cp 1) (Co (Dq (Co (Cp 5) Cr)) Cr)))) (eIf (tV (Cz ixG (Cp 4) (Cz ixG (Cp 5) (eC (.int 0))))) (Cz ixG (Cp 5) (eC (.int 0))) (eC .non)))) (sRt (eC (.bl false))) (sNx))
def q2B:Sx:=(sIf (tV (Cz neD (CA Fc (Co (Cp 0) (Co (Cp 1) (Co (Cp 6) Cr)))) (Cz ixG (Cz DR (eLC (EC (Cp 6)) 2 [4] (gTp 2 (Cy (gNm 0) (Cy (gNm 1) C0))) (tV (Cz ixG (Cp 2) (Cp 0))) (Cp 0)) (Li (Co (eC .non) Cr))) (eC (.int 0))))) (sRt (eC (.bl false))) (sNx))
def PD {d:D}(h:Dn d=true):neD d d mu=some (.bl false,mu):=by
 rw[Wt h h]
 simp
theorem XZ {sch fil nm rl due:D}{t:Ru}{x6:Option D}(ht:∃ds,EB [sch,fil,t.2.1] mu=some (.tup ds,mu)/\trD (.tup ds)=some t.2.2)(hd:ixG due (.str t.1) mu=some (.bl t.2.2,mu)):q1B [some sch,some fil,some nm,some rl,some due,some (ruD t),x6] mu=some ((.nx,[some sch,some fil,some nm,some rl,some due,some (ruD t),x6]),mu):=by
 have br:=PC (mu:=mu) (R:=[t]) (sch:=sch) (fil:=fil) (λu hu=>by rw[Ah.mp hu];exact ht)
 have br':Fc [sch,fil,.tup [ruD t]] mu=some (brk [t],mu):=br
 have i0:ixG (ruD t) (.int 0) mu=some (.str t.1,mu):=Fv (j:=0) _ (.inr rfl) rfl
 have nn:=PD (mu:=mu) (V7 [t])
 unfold brk at nn br'
 rw[List.find?_cons] at nn br'
 unfold q1B
 cases c:t.2.2 with
 |true =>
  rw[c] at nn br' hd
  simp![br',i0,hd,nn]
  all_goals rfl
 |false =>
  rw[c] at nn br' hd
  simp![br',i0,hd]
  have nn':neD .non .non mu=some (.bl false,mu):=nn
  simp![List.find?_nil,nn']
  all_goals rfl
def OH {sch fil nm rl due:D}{R:List Ru}{x5:Option D}(hl:R.length<=3)(ht:∀t∈R,∃ds,EB [sch,fil,t.2.1] mu=some (.tup ds,mu)/\trD (.tup ds)=some t.2.2)(hd:∀t∈R,ixG due (.str t.1) mu=some (.bl t.2.2,mu)):q2B [some sch,some fil,some nm,some rl,some due,x5,some (.tup (R.map ruD))] mu=some ((.nx,[some sch,some fil,some nm,some rl,some due,x5,some (.tup (R.map ruD))]),mu):=by
 have br:=PC (mu:=mu) (sch:=sch) (fil:=fil) ht
 have lcs:∀(R:List Ru),(∀t∈R,ixG due (.str t.1) mu=some (.bl t.2.2,mu))->FO none mu (gTp 2 (Cy (gNm 0) (Cy (gNm 1) C0))) (tV (Cz ixG (Cp 2) (Cp 0))) (Cp 0) [none,none,some due] (R.map ruD) mu=some ((R.filter (·.2.2)).map (λt=>D.str t.1),mu):=by
  intro R
  induction R with
  |nil=>exactλ_=>rfl
  |cons t R ih =>
   intro h
   have ih:=ih λt ht=>h t (.tail _ ht)
   have tg:gTp 2 (Cy (gNm 0) (Cy (gNm 1) C0)) (ruD t) [none,none,some due] mu=some ([some (.str t.1),some t.2.1,some due],mu):=rfl
   have tt:tV (Cz ixG (Cp 2) (Cp 0)) [some (.str t.1),some t.2.1,some due] mu=some (t.2.2,mu):=by
    have:=h t (.head _)
    simp![this]
   have v0:Cp 0 [some (.str t.1),some t.2.1,some due] mu=some (.str t.1,mu):=rfl
   rw[Ay]
   unfold FO
   rw[tg,CM,tt,CM,List.filter_cons]
   cases c:t.2.2 with
   |true=>simp only[v0,Kh,FX,ih,if_true,Ay]
   |false=>simp only[v0,Kh,FX,ih,Bt,AV]
 have lc:=lcs R hd
 have fl:=Bp (λt:Ru=>t.2.2) R
 have ad:DR (.lst ((R.filter (·.2.2)).map (λt=>D.str t.1))) (.lst [.non]) mu=some (.lst ((R.filter (·.2.2)).map (λt=>D.str t.1)++[.non]),mu):=S8 (by rw[AH,Ak];simp;ext)
 obtain⟨ds,eh⟩:=S9 R
 rw[eh] at ad
 have nn:=PD (mu:=mu) (V7 R)
 unfold q2B
 simp![br,lc,ad,nn]
 all_goals rfl
def Ma {sch fil nm:D}{b1 b2 b3:Bool}{l1 l2 l3:D}(du:GC [sch,fil,nm] mu=some (Vr b1 b2 b3,mu))(h1:∃ds,EB [sch,fil,l1] mu=some (.tup ds,mu)/\trD (.tup ds)=some b1)(h2:∃ds,EB [sch,fil,l2] mu=some (.tup ds,mu)/\trD (.tup ds)=some b2)(h3:∃ds,EB [sch,fil,l3] mu=some (.tup ds,mu)/\trD (.tup ds)=some b3) :
  EK [sch,fil,nm,.tup [.tup [.str "lacking",l1],.tup [.str "twice",l2],.tup [.str "idle",l3]]] mu=some (.bl true,mu):=by
 have ne1:¬ Str.ofString "lacking"=Str.ofString "twice":=by symm
 have ne2:¬ Str.ofString "lacking"=Str.ofString "idle":=by symm
 have ne3:¬ Str.ofString "twice"=Str.ofString "idle":=by symm
 have dl:∀t∈([("lacking",l1,b1),("twice",l2,b2),("idle",l3,b3)]:List Ru),ixG (Vr b1 b2 b3) (.str t.1) mu=some (.bl t.2.2,mu):=by
  intro t ht
  simp only[Ao,Ax,Ba] at ht
  rcases ht with rfl|rfl|rfl
  ·exact K4 (by simp[Dv])
  ·exact K4 (by simp[Dv,ne1])
  ·exact K4 (by simp[Dv,ne2,ne3])
 have tl:∀t∈([("lacking",l1,b1),("twice",l2,b2),("idle",l3,b3)]:List Ru),∃ds,EB [sch,fil,t.2.1] mu=some (.tup ds,mu)/\trD (.tup ds)=some t.2.2:=by
  intro t ht
  simp only[Ao,Ax,Ba] at ht
  rcases ht with rfl|rfl|rfl
  ·exact h1
  ·exact h2
  ·exact h3
 have er:D.tup [.tup [.str "lacking",l1],.tup [.str "twice",l2],.tup [.str "idle",l3]]=.tup (([("lacking",l1,b1),("twice",l2,b2),("idle",l3,b3)]:List Ru).map ruD):=rfl
 rw[er]
 generalize hR:([("lacking",l1,b1),("twice",l2,b2),("idle",l3,b3)]:List Ru)=R at dl tl
 have rl:R.length=3:=by rw[<- hR];rfl
 generalize Vr b1 b2 b3=due at du dl
 obtain⟨ro',m',e,⟨y5,rfl⟩,rfl⟩:=F9 (m0:=mu) (tg:=gNm 5) (body:=q1B) (λi ro m=>(∃y5,ro=[some sch,some fil,some nm,some (.tup (R.map ruD)),some due,y5,none])/\m=mu) (R.map ruD) 0 [some sch,some fil,some nm,some (.tup (R.map ruD)),some due,none,none] mu ⟨⟨none,rfl⟩,rfl⟩ λj d ro m ed hi=>by
  obtain⟨⟨y5,rfl⟩,rfl⟩:=hi
  obtain⟨t,ht,rfl⟩:=AK.mp (Aj ed)
  exact⟨_,m,_,m,rfl,XZ (tl t ht) (dl t ht),⟨_,rfl⟩,rfl⟩
 obtain⟨ro2,m2,e2,⟨y6,rfl⟩,rfl⟩:=F9 (m0:=m') (tg:=gNm 6) (body:=q2B) (λi ro m=>(∃y6,ro=[some sch,some fil,some nm,some (.tup (R.map ruD)),some due,y5,y6])/\m=m') [.tup (R.map ruD),.tup (R.reverse.map ruD),.tup ((R.drop 1).map ruD)] 0 [some sch,some fil,some nm,some (.tup (R.map ruD)),some due,y5,none] m' ⟨⟨none,rfl⟩,rfl⟩ λj d ro m ed hi=>by
  obtain⟨⟨y6,rfl⟩,rfl⟩:=hi
  have hd:=Aj ed
  simp only[Ao,Ax,Ba] at hd
  rcases hd with rfl|rfl|rfl
  ·exact⟨_,m,_,m,rfl,OH (by ext) tl dl,⟨_,rfl⟩,rfl⟩
  ·exact⟨_,m,_,m,rfl,OH (by rw[Ce];ext) (λt ht=>tl t (List.mem_reverse.mp ht)) (λt ht=>dl t (List.mem_reverse.mp ht)),⟨_,rfl⟩,rfl⟩
  ·exact⟨_,m,_,m,rfl,OH (by rw[Cj];ext) (λt ht=>tl t (List.mem_of_mem_drop ht)) (λt ht=>dl t (List.mem_of_mem_drop ht)),⟨_,rfl⟩,rfl⟩
 have rv:QV (.tup (R.map ruD)) m2=some (.tup (R.reverse.map ruD),m2):=by
  show some (D.tup (R.map ruD).reverse,m2)=_
  rw[List.map_reverse]
 have dp:(R.map ruD).drop 1=(R.drop 1).map ruD:=by rw[List.map_drop]
 unfold q1B at e
 unfold q2B at e2
 simp![EK,HV,du,e,rv,dp,e2]
end PG
namespace PV
open PySem L2 PyProof.Rows K1
variable {mu:Sto}
theorem Nr:∀(xs:List D),(∀d∈xs,hsh d=true)->(GG xs xs).isSome=true
 |[],_=>by simp[GG]
 |x::xs,h=>by
  have p:=Hg (h x (.head _))
  have e:=GU (h x (.head _)) (h x (.head _))
  rw[BK rfl] at e
  rw[GG,p,e]
  exact Nr xs λd hd=>h d (.tail _ hd)
end PV
namespace PG
open PySem L2 PV PyProof.Rows K1
variable {mu:Sto}
def Hn.cl (p:Str×List Str):Hn 3 (clD p):=Hn.tup λd hd=>by
 simp only[Ao,Ax,Ba] at hd
 rcases hd with rfl|rfl
 ·exact(Hn.str _).up (by decide)
 ·exact Hn.strs _
def Hn.cls (t:Tb):Hn 4 (.tup (t.cs.map clD)):=Hn.tup λd hd=>by
 obtain⟨p,_,rfl⟩:=AK.mp hd
 exact Hn.cl p
def YY (t:Tb):Fu (tbD t)=true:=by
 have o1:∀cs:List (Str×List Str),FJ (cs.map clD)=true:=λcs=>by
  induction cs with
  |nil=>rfl
  |cons p cs ih=>simp[FJ,clD,Fu,Ov,ih]
 simp[tbD,Fu,FJ,o1]
def Wj {a b:Tb}(h:a.nm≠b.nm):(ltB (tbD a) (tbD b)).isSome=true:=by
 have e:=GU (d:=.str a.nm) (e:=.str b.nm) rfl rfl
 have ne:¬ D.str a.nm=.str b.nm:=λe=>by injection e with e;exact h e
 rw[Bi ne] at e
 have:ltB (tbD a) (tbD b)=some (decide (a.nm.cps.toList<b.nm.cps.toList)):=by
  unfold tbD
  simp only[ltB,GG,e,Dl,Bool.and_self,if_true,AV,Bt]
 rw[this]
 rfl
def Zz (a:Tb):(ltB (tbD a) (tbD a)).isSome=true:=by
 unfold tbD
 rw[ltB]
 refine Nr _ λd hd=>?_
 simp only[Ao,Ax,Ba] at hd
 rcases hd with rfl|rfl|rfl
 ·rfl
 ·exact(Hn.cls a).1
 ·rfl
def Xb {a b:Tb}(h:a.nm≠b.nm):ES [tbD a,tbD b]=true:=by
 have ts:∀t:Tb,tupS (tbD t)=true:=λt=>by
  have hh:E3 [.tup (t.cs.map clD),.int t.ks]=true:=NZ.mpr λd hd=>by
   simp only[Ao,Ax,Ba] at hd
   rcases hd with rfl|rfl
   ·exact(Hn.cls t).1
   ·rfl
  have dd:=Kw hh
  have d4:=(Hn.cls t).2
  have pp:EJ [.tup (t.cs.map clD),.int t.ks]=true:=by
   have:=Hg (Hn.cls t).1
   simp[EJ,this,Dl]
   simpa[Dl] using this
  simp only[tbD,tupS,pp,Bool.true_and,AA]
  rw[dd]
  simp only[Gf]
  have:dpt (.int t.ks)<=1:=by simp[dpt]
  ext
 unfold ES L9
 simp[YY,Wj h,Wj (Ne.symm h),Zz,ts]
def tA (n0 w0 w1:Str)(st:List Str):Tb:=⟨n0,[(w0,st.take 3),(w1,st)],1⟩
def tB (n1 w2 w3:Str)(mo st:List Str):Tb:=⟨n1,[(w2,mo),(w3,st.take 2)],1⟩
structure Dr (ta tb:Tb) (n0 n1 w0 w1 w2 w3:Str):Prop where
 na:ta.nm=n0
 nb:tb.nm=n1
 ca:ta.cs.map (·.1)=[w0,w1]
 cb:tb.cs.map (·.1)=[w2,w3]
 oa:Kg ta
 ob:Kg tb
 ka:ta.ks=1
 kb:tb.ks=1
 n:n0≠n1
 w01:w0≠w1
 o0:w0≠"otherone"
 o1:w1≠"otherone"
def Oc {k n:Nat}(h:HandOk mu k (n+20)):∃m ta tb tx ty n0 n1 w0 w1 w2 w3,E1 [.ref k] mu=some (.tup [.tup [tbD tx,tbD ty],.lst [.str n0,.str n1],.lst [.str w0,.str w1,.str w2,.str w3]],m)/\Fr k n mu m/\Dr ta tb n0 n1 w0 w1 w2 w3/\((tx=ta/\ty=tb)\/(tx=tb/\ty=ta)):=by
 obtain⟨_,m1,e1,f1,nm,rfl,nl,nd,nW⟩:=JN (many:=2) (n:=n+15) (by decide) (by decide) h
 obtain⟨_,m2,e2,f2,ws,rfl,wl,wd,wW⟩:=JN (many:=4) (n:=n+10) (by decide) (by decide) f1.hand
 obtain⟨_,m3,e3,f3,t3,rfl,a0,a1⟩:=Gb (m:=4) (n:=n+9) f2.hand (by decide) (by decide)
 obtain⟨_,m4,e4,f4,st,rfl,sl,sd,sW⟩:=JN (many:=1+t3) (n:=n+4) (by ext) (by ext) f3.hand
 obtain⟨_,m5,e5,f5,t5,rfl,b0,b1⟩:=Gb (m:=(st.length:Int)) (n:=n+3) f4.hand (by ext) (by ext)
 obtain⟨n0,n1,rfl⟩:∃n0 n1,nm=[n0,n1]:=by
  match nm,nl with
  |[a,b],_=>exact⟨a,b,rfl⟩
 obtain⟨w0,w1,w2,w3,rfl⟩:∃w0 w1 w2 w3,ws=[w0,w1,w2,w3]:=by
  match ws,wl with
  |[a,b,c,d],_=>exact⟨a,b,c,d,rfl⟩
 obtain⟨j,rfl⟩:∃j:Nat,t5=(j:Int):=⟨t5.toNat,by ext⟩
 have nn:n0≠n1:=by simpa using nd
 have wn:w0≠w1:=by
  simp only[BX,Ao,not_or] at wd
  exact wd.1.1
 have s1:1<=st.length:=by ext
 have s4:st.length<=4:=by ext
 have mol:(st.reverse.take (1+j)).length=1+j:=by rw[AU,Ce];ext
 have tko:∀i,1<=i->st.take i≠[]/\(st.take i).length<=4:=λi hi=>by
  have:(st.take i).length<=4:=by rw[AU];ext
  refine⟨λe=>?_,this⟩
  have:=congrArg List.length e
  rw[AU,List.length_nil] at this
  ext
 have dr:Dr (tA n0 w0 w1 st) (tB n1 w2 w3 (st.reverse.take (1+j)) st) n0 n1 w0 w1 w2 w3:=by
  refine⟨rfl,rfl,rfl,rfl,⟨by simp[tA],by simp[tA],by simp[tA],by simp[tA],λp hp=>?_⟩,⟨by simp[tB],by simp[tB],by simp[tB],by simp[tB],λp hp=>?_⟩,rfl,rfl,nn,wn,wW w0 (by simp),wW w1 (by simp)⟩
  ·simp only[tA,Ao,Ax,Ba] at hp
   rcases hp with rfl|rfl
   ·exact tko 3 (by decide)
   ·exact⟨λe=>by have e:st=[]:=e;rw[e] at s1;simp at s1,s4⟩
  ·simp only[tB,Ao,Ax,Ba] at hp
   rcases hp with rfl|rfl
   ·refine⟨λe=>?_,by show(st.reverse.take (1+j)).length<=4;ext⟩
    have e:st.reverse.take (1+j)=[]:=e
    rw[e] at mol
    simp at mol
    ext
   ·exact tko 2 (by decide)
 generalize hta:tA n0 w0 w1 st=ta at dr
 generalize htb:tB n1 w2 w3 (st.reverse.take (1+j)) st=tb at dr
 have nab:ta.nm≠tb.nm:=by rw[dr.na,dr.nb];exact dr.n
 have ok:=Xb nab
 have sr:Lz [.lst [tbD ta,tbD tb]] m5=some (.lst (FF [tbD ta,tbD tb]),m5):=by
  have u:M7 [.lst [tbD ta,tbD tb]] m5=some (.lst (FF [tbD ta,tbD tb]),m5):=by simp only[M7,Gm,SF,IM,DW,ok,if_true]
  unfold Lz
  rw[u]
 obtain⟨tx,ty,ex,hxy⟩:∃tx ty,FF [tbD ta,tbD tb]=[tbD tx,tbD ty]/\((tx=ta/\ty=tb)\/(tx=tb/\ty=ta)):=by
  have p:=D3 [tbD ta,tbD tb]
  have ne:tbD ta≠tbD tb:=λe=>by
   unfold tbD at e
   injection e with e
   injection e with e _
   injection e with e
   exact nab e
  match FF [tbD ta,tbD tb],p with
  |[],p=>exact absurd p.length_eq (by simp)
  |[_],p=>exact absurd p.length_eq (by simp)
  |_::_::_::_,p=>exact absurd p.length_eq (by simp)
  |[x,y],p =>
   have hx:=p.mem_iff.mp (.head _:x∈[x,y])
   have hy:=p.mem_iff.mp (.tail _ (.head _):y∈[x,y])
   have nd:=p.nodup_iff.mpr (by simp[ne]:[tbD ta,tbD tb].Nodup)
   simp only[Ao,Ax,Ba] at hx hy
   have nxy:x≠y:=by simpa using nd
   rcases hx with rfl|rfl
   ·rcases hy with rfl|rfl
    ·exact(nxy rfl).elim
    ·exact⟨ta,tb,rfl,.inl ⟨rfl,rfl⟩⟩
   ·rcases hy with rfl|rfl
    ·exact⟨tb,ta,rfl,.inr ⟨rfl,rfl⟩⟩
    ·exact(nxy rfl).elim
 rw[ex] at sr
 refine⟨m5,ta,tb,tx,ty,n0,n1,w0,w1,w2,w3,?_,((((f1.trans f2).trans f3).trans f4).trans f5).mono (by ext),dr,hxy⟩
 have rv:QV (.tup (st.map D.str)) m4=some (.tup (st.reverse.map D.str),m4):=by
  show some (D.tup (st.map D.str).reverse,m4)=_
  rw[List.map_reverse]
 have ctm:PV.cutD (st.reverse.map D.str) none (some (1+(j:Int)))=(st.reverse.take (1+j)).map D.str:=by
  have c1:(1:Int)+(j:Int)=((1+j:Nat):Int):=by ext
  rw[c1,Mt (by rw[Ak,Ce];ext),List.map_take]
 have ct:∀i:Nat,PV.cutD (st.map D.str) none (some (i:Int))=(st.take i).map D.str:=λi=>by
  by_cases c:i<=st.length
  ·rw[Mt (by rw[Ak];exact c),List.map_take]
  ·unfold PV.cutD
   rw[HT.Jq,HT.Kx]
   rw[List.map_take]
   simp
   all_goals ext
 have ct3:PV.cutD (st.map D.str) none (some 3)=(st.take 3).map D.str:=ct 3
 have ct2:PV.cutD (st.map D.str) none (some 2)=(st.take 2).map D.str:=ct 2
 have ea:D.tup [.str n0,.tup [.tup [.str w0,.tup ((st.take 3).map D.str)],.tup [.str w1,.tup (st.map D.str)]],.int 1]=tbD ta:=by rw[<- hta];rfl
 have eb:D.tup [.str n1,.tup [.tup [.str w2,.tup ((st.reverse.take (1+j)).map D.str)],.tup [.str w3,.tup ((st.take 2).map D.str)]],.int 1]=tbD tb:=by rw[<- htb];rfl
 have i0:ixG (.lst [.str n0,.str n1]) (.int 0) m5=some (.str n0,m5):=Fv (j:=0) _ (.inl rfl) rfl
 have i1:ixG (.lst [.str n0,.str n1]) (.int 1) m5=some (.str n1,m5):=Fv (j:=1) _ (.inl rfl) rfl
 have v0:ixG (.lst [.str w0,.str w1,.str w2,.str w3]) (.int 0) m5=some (.str w0,m5):=Fv (j:=0) _ (.inl rfl) rfl
 have v1:ixG (.lst [.str w0,.str w1,.str w2,.str w3]) (.int 1) m5=some (.str w1,m5):=Fv (j:=1) _ (.inl rfl) rfl
 have v2:ixG (.lst [.str w0,.str w1,.str w2,.str w3]) (.int 2) m5=some (.str w2,m5):=Fv (j:=2) _ (.inl rfl) rfl
 have v3:ixG (.lst [.str w0,.str w1,.str w2,.str w3]) (.int 3) m5=some (.str w3,m5):=Fv (j:=3) _ (.inl rfl) rfl
 simp only[Ay,List.map_nil] at e1 e2
 simp![E1,Hz,e1,e2,e3,e4,Ak,e5,rv,ctm,ct3,ct2,i0,i1,v0,v1,v2,v3,ea,eb,sr]
def Qy {n0 n1 w0 w1 w2 w3:Str}:Fq [.lst [.str n0,.str n1],.lst [.str w0,.str w1,.str w2,.str w3]] mu=some (.tup [.tup [.str "lacking",KC n0 n1 w1 w2],.tup [.str "twice",Nv n0 w0],.tup [.str "idle",KR n0 n1 w1 w2]],mu):=by
 have i0:ixG (.lst [.str n0,.str n1]) (.int 0) mu=some (.str n0,mu):=Fv (j:=0) _ (.inl rfl) rfl
 have i1:ixG (.lst [.str n0,.str n1]) (.int 1) mu=some (.str n1,mu):=Fv (j:=1) _ (.inl rfl) rfl
 have v0:ixG (.lst [.str w0,.str w1,.str w2,.str w3]) (.int 0) mu=some (.str w0,mu):=Fv (j:=0) _ (.inl rfl) rfl
 have v1:ixG (.lst [.str w0,.str w1,.str w2,.str w3]) (.int 1) mu=some (.str w1,mu):=Fv (j:=1) _ (.inl rfl) rfl
 have v2:ixG (.lst [.str w0,.str w1,.str w2,.str w3]) (.int 2) mu=some (.str w2,mu):=Fv (j:=2) _ (.inl rfl) rfl
 simp![Fq,Ib,i0,i1,v0,v1,v2]
 all_goals rfl
def Q6 {xs:List (List Str)}{ds:List D}(p:ds.Perm (xs.map rwD)):∃us:List (List Str),ds=us.map rwD/\us.Perm xs:=by
 refine⟨ds.map GQ,?_,?_⟩
 ·rw[A8]
  have:ds.map (rwD∘GQ)=ds.map id:=Cf λd hd=>by
   obtain⟨x,_,rfl⟩:=AK.mp (p.mem_iff.mp hd)
   show rwD (GQ (rwD x))=_
   rw[F4]
   rfl
  rw[this,List.map_id]
 ·have q:=p.map GQ
  rw[A8] at q
  have:xs.map (GQ∘rwD)=xs.map id:=Cf λx _=>F4 x
  rw[this,List.map_id] at q
  exact q
def Kl (f:List (List Str))(r:List Str):List (List Str):=f.filter (λx=>!decide (at' 0 x=at' 0 r))++[r]
def XJ {f us:List (List Str)}{r:List Str}(h:R2 f)(hl:f.length+1<=32)(hr:r.length=2)(p:us.Perm (Kl f r)):R2 us/\us.length<=f.length+1:=by
 have l:us.length<=f.length+1:=by
  rw[p.length_eq]
  unfold Kl
  have:=Bp (λx=>!decide (at' 0 x=at' 0 r)) f
  rw[As,List.length_singleton]
  ext
 refine⟨⟨by ext,λx hx=>?_,?_⟩,l⟩
 ·rcases AF.mp (p.mem_iff.mp hx) with c|c
  ·exact h.two x (Bd.mp c).1
  ·rw[Ah.mp c]
   exact hr
 ·rw[(p.map _).nodup_iff]
  unfold Kl
  rw[AS,Bb]
  refine⟨h.key.sublist (List.Sublist.map _ List.filter_sublist),by simp,λa ha b hb e=>?_⟩
  obtain⟨x,hx,rfl⟩:=AK.mp ha
  have hx':=(Bd.mp hx).2
  simp only[BU,Ca] at hx'
  rw[List.map_singleton,Ah] at hb
  exact hx' (e.trans hb)
theorem VZ {r:List Str}(h:r.length=2):ixG (rwD r) (.int 0) mu=some (.str (at' 0 r),mu):=by
 match r,h with
 |[a,b],_=>exact Fv (j:=0) _ (.inr rfl) rfl
def Vn {f:List (List Str)}{r:List Str}(h:R2 f)(hr:r.length=2){m0:Sto}:FO none m0 (gNm 0) (tV (Cz neD (Cz ixG (Cp 0) (eC (.int 0))) (Cz ixG (Cp 1) (eC (.int 0))))) (Cp 0) [none,some (rwD r)] (f.map rwD) mu=some ((f.filter (λx=>!decide (at' 0 x=at' 0 r))).map rwD,mu):=by
 have ir:=VZ (mu:=mu) hr
 have:=Jx (m0:=m0) (tg:=gNm 0) (tt:=(tV (Cz neD (Cz ixG (Cp 0) (eC (.int 0))) (Cz ixG (Cp 1) (eC (.int 0)))))) (el:=Cp 0) (ro:=[none,some (rwD r)]) (mu:=mu) (λd=>!decide (at' 0 (GQ d)=at' 0 r)) id (f.map rwD) (λd hd=>by
  obtain⟨x,hx,rfl⟩:=AK.mp hd
  refine⟨_,rfl,?_,λ_=>rfl⟩
  have ix:=VZ (mu:=mu) (h.two x hx)
  have ne:neD (.str (at' 0 x)) (.str (at' 0 r)) mu=some (.bl (!decide (at' 0 x=at' 0 r)),mu):=by
   have dd:decide (D.str (at' 0 x)=D.str (at' 0 r))=decide (at' 0 x=at' 0 r):=by
    rw[Bool.eq_iff_iff,AA,AA]
    exact⟨λe=>by injection e,λe=>by rw[e]⟩
   rw[Wt (Es _) (Es _),dd]
  rw[F4]
  simp![ix,ir,ne])
 rw[this,List.map_id,List.filter_map]
 congr 3
 congr 1
 funext x
 show(!decide (at' 0 (GQ (rwD x))=at' 0 r))=_
 rw[F4]
theorem Rl {k n:Nat}{tx ty:Tb}(hx:Kg tx)(hy:Kg ty)(x2:tx.cs.length=2)(y2:ty.cs.length=2){fa fb:List (List Str)}{L:Nat}(ha:R2 fa)(hb:R2 fb)(la:fa.length<=L)(lb:fb.length<=L)(hL:L+1<=32)(h:HandOk mu k (n+5)) :
  ∃m fa' fb',DO [.ref k,.tup [tbD tx,tbD ty],.tup [flD fa,flD fb]] mu=some (.tup [flD fa',flD fb'],m)/\Fr k n mu m/\R2 fa'/\R2 fb'/\fa'.length<=L+1/\fb'.length<=L+1:=by
 obtain⟨_,m1,e1,f1,t1,rfl,a0,a1⟩:=Gb (m:=2) (n:=n+4) h (by decide) (by decide)
 obtain⟨j,rfl⟩:∃j:Nat,t1=(j:Int):=⟨t1.toNat,by ext⟩
 have j2:j<2:=by ext
 obtain⟨t,f,et,ef,ht,t2,hf,lf⟩:∃t f,[tx,ty][j]?=some t/\[fa,fb][j]?=some f/\Kg t/\t.cs.length=2/\R2 f/\f.length<=L:=by
  match j,j2 with
  |0,_=>exact⟨tx,fa,rfl,rfl,hx,x2,ha,la⟩
  |1,_=>exact⟨ty,fb,rfl,rfl,hy,y2,hb,lb⟩
 obtain⟨r,m2,e2,f2,hr⟩:=Pz (n:=n) ht (m0:=m1) f1.hand
 have r2:r.length=2:=hr.len.trans t2
 have is:ixG (.tup [tbD tx,tbD ty]) (.int j) m1=some (tbD t,m1):=Fv _ (.inr rfl) (by
  have:[tbD tx,tbD ty]=[tx,ty].map tbD:=rfl
  rw[this,Am,et]
  rfl)
 have iF:ixG (.tup [flD fa,flD fb]) (.int j) m2=some (flD f,m2):=Fv _ (.inr rfl) (by
  have:[flD fa,flD fb]=[fa,fb].map flD:=rfl
  rw[this,Am,ef]
  rfl)
 have i1:ixG (tbD t) (.int 1) m1=some (.tup (t.cs.map clD),m1):=T7
 have pr:=Vn (mu:=m2) (m0:=m2) hf r2
 have w:HL m2 (flD f)=some ((f.map rwD,none),m2):=rfl
 have fl:=Bp (λx=>!decide (at' 0 x=at' 0 r)) f
 have ad:DR (.lst ((f.filter (λx=>!decide (at' 0 x=at' 0 r))).map rwD)) (.lst [rwD r]) m2=some (.lst ((Kl f r).map rwD),m2):=by
  rw[S8 (by rw[AH,Ak,List.length_singleton];ext)]
  unfold Kl
  rw[AS]
  rfl
 have pl:(Kl f r).length<=32:=by
  unfold Kl
  rw[As,List.length_singleton]
  ext
 have ok:=Ml (rs:=Kl f r) (by ext) (λx hx e=>by
  rcases AF.mp hx with c|c
  ·have:=hf.two x (Bd.mp c).1
   rw[e] at this
   cases this
  ·rw[Ah.mp c] at e
   rw[e] at r2
   cases r2)
 obtain⟨us,eu,pu⟩:=Q6 (D3 ((Kl f r).map rwD))
 obtain⟨ru,lu⟩:=XJ hf (by ext) r2 pu
 have sr:Lz [.lst ((Kl f r).map rwD)] m2=some (.lst (us.map rwD),m2):=by
  have u:M7 [.lst ((Kl f r).map rwD)] m2=some (.lst (FF ((Kl f r).map rwD)),m2):=by simp only[M7,Gm,SF,IM,DW,ok,if_true]
  unfold Lz
  rw[u,eu]
 have c1:(j:Int)+1=((j+1:Nat):Int):=by ext
 have ct:=Mt (xs:=[flD fa,flD fb]) (j:=j) (by simp;ext)
 have cf:=Sk (xs:=[flD fa,flD fb]) (j:=j+1) (by simp;ext)
 have ad1:DR (.tup ([flD fa,flD fb].take j)) (.tup [.tup (us.map rwD)]) m2=some (.tup ([flD fa,flD fb].take j++[.tup (us.map rwD)]),m2):=Pb (by rw[AH,AU];simp;ext)
 have ad2:DR (.tup ([flD fa,flD fb].take j++[.tup (us.map rwD)])) (.tup ([flD fa,flD fb].drop (j+1))) m2=some (.tup ([flD fa,flD fb].take j++[.tup (us.map rwD)]++[flD fa,flD fb].drop (j+1)),m2):=Pb (by rw[AH,As,AU,Cj];simp;ext)
 have run:DO [.ref k,.tup [tbD tx,tbD ty],.tup [flD fa,flD fb]] mu=some (.tup ([flD fa,flD fb].take j++[.tup (us.map rwD)]++[flD fa,flD fb].drop (j+1)),m2):=by
  have er:D.tup (r.map D.str)=rwD r:=rfl
  simp![DO,Gn,e1,is,i1,e2,er,iF,w,pr,ad,sr,c1,ct,cf,ad1,ad2]
 match j,j2,run,ef with
 |0,_,run,ef =>
  have ef:some fa=some f:=ef
  cases ef
  exact⟨m2,us,fb,run,f1.trans f2,ru,hb,by ext,by ext⟩
 |1,_,run,ef =>
  have ef:some fb=some f:=ef
  cases ef
  exact⟨m2,fa,us,run,f1.trans f2,ha,ru,by ext,by ext⟩
def O9 {ta tb tx ty:Tb}{n0 n1 w0 w1 w2 w3:Str}(dr:Dr ta tb n0 n1 w0 w1 w2 w3)(hxy:(tx=ta/\ty=tb)\/(tx=tb/\ty=ta)){fx fy:List (List Str)}(hx:R2 fx)(hy:R2 fy)(hfl:Flat mu) :
  EK [.tup [tbD tx,tbD ty],.tup [flD fx,flD fy],.lst [.str n0,.str n1],.tup [.tup [.str "lacking",KC n0 n1 w1 w2],.tup [.str "twice",Nv n0 w0],.tup [.str "idle",KR n0 n1 w1 w2]]] mu=some (.bl true,mu):=by
 have n':=dr.n
 have hn:ta.nm≠tb.nm:=by rw[dr.na,dr.nb];exact dr.n
 rcases hxy with⟨rfl,rfl⟩|⟨rfl,rfl⟩
 ·have P:Pl mu (.tup [tbD tx,tbD ty]) (.tup [flD fx,flD fy]) (.dct [.str tx.nm,.str ty.nm] [csD [w0,w1],csD [w2,w3]]) n0 n1 w0 w1 w2 w3 fx fy:=by
   refine⟨⟨⟨_,_,rfl,?_,?_⟩,dr.n,dr.w01,dr.o0,dr.o1⟩,λm=>?_,⟨_,_,KH hn hx.nd hy.nd hx.len hy.len,?_,?_⟩,hx,hy⟩
   ·simp[Dv,dr.na]
   ·simp[Dv,dr.na,dr.nb,n']
   ·rw[KO hn,dr.ca,dr.cb]
   ·simp[Dv,dr.na]
   ·simp[Dv,dr.na,dr.nb,n']
  exact Ma (PN hn (by simp[Dv,dr.na]) (by simp[Dv,dr.na,dr.nb,n']) hx hy hfl) (L4 P hfl) (N7 P hfl) (Me P hfl)
 ·have hn':=Ne.symm hn
  have n'':=Ne.symm n'
  have P:Pl mu (.tup [tbD tx,tbD ty]) (.tup [flD fx,flD fy]) (.dct [.str tx.nm,.str ty.nm] [csD [w2,w3],csD [w0,w1]]) n0 n1 w0 w1 w2 w3 fy fx:=by
   refine⟨⟨⟨_,_,rfl,?_,?_⟩,dr.n,dr.w01,dr.o0,dr.o1⟩,λm=>?_,⟨_,_,KH hn' hx.nd hy.nd hx.len hy.len,?_,?_⟩,hy,hx⟩
   ·simp[Dv,dr.na,dr.nb,n'']
   ·simp[Dv,dr.nb]
   ·rw[KO hn',dr.ca,dr.cb]
   ·simp[Dv,dr.na,dr.nb,n'']
   ·simp[Dv,dr.nb]
  exact Ma (PN hn' (by simp[Dv,dr.na,dr.nb,n'']) (by simp[Dv,dr.nb]) hy hx hfl) (L4 P hfl) (N7 P hfl) (Me P hfl)
theorem Wu {t:Tb}{rs:List (List Str)}(h:Ut t rs)(k1:t.ks=1)(c2:t.cs.length=2):R2 rs/\rs.length<=16:=by
 refine⟨⟨by have:=h.len;ext,λr hr=>(h.ok r hr).len.trans c2,?_⟩,h.len⟩
 have nd:=h.nd
 rw[k1,A8] at nd
 rw[A3,B9] at nd ⊢
 refine nd.imp_of_mem λ{a b} ha hb ne e=>ne ?_
 have la:=(h.ok a ha).len.trans c2
 have lb:=(h.ok b hb).len.trans c2
 match a,b,la,lb with
 |[x,y],[z,w],_,_ =>
  have e':x=z:=e
  show D.tup [.str x]=.tup [.str z]
  rw[e']
def iB:Sx:=(CN (sIf (tNt (tV (CA EK (Co (Cp 3) (Co (Cp 7) (Co (Cp 4) (Co (Cp 6) Cr))))))) (sRt (eC (.bl false))) (sNx)) (CT (CA DO (Co (Cp 2) (Co (Cp 3) (Co (Cp 7) Cr)))) (gNm 7)))
def PR:Sx:=(CN (CT (CA Fi (Co (Cp 0) (Co (Cp 1) Cr))) (gNm 2)) (CN (CT (CA E1 (Co (Cp 2) Cr)) (gTp 3 (Cy (gNm 3) (Cy (gNm 4) (Cy (gNm 5) C0))))) (CN (CT (CA Fq (Co (Cp 4) (Co (Cp 5) Cr))) (gNm 6)) (CN (CT (CA Ee (Co (Cp 2) (Co (Cp 3) (Co (eC (.int 5)) Cr)))) (gNm 7)) (IJ (iRg (Co (eC (.int 5)) Cr)) (gNm 8) iB)))))
def Xj {i:Nat}{ns:List Int}{x2 x3 x4 x5 x6 x7 x8:Option D}(hi:i<64)(hfl:Flat mu) :
  ∃y2 y3 y4 y5 y6 y7 y8 m',PR [some (.lst (ns.map D.int)),some (.int i),x2,x3,x4,x5,x6,x7,x8] mu=some ((.nx,[some (.lst (ns.map D.int)),some (.int i),y2,y3,y4,y5,y6,y7,y8]),m')/\Flat m':=by
 obtain⟨o,e1,h1⟩:=SN (mu:=mu) (k:=i) (n:=2000) (ns:=ns) hi (by decide)
 have fl1:Flat (mu++[o]):=Ow hfl (by
  obtain⟨_,_,_,h,_⟩:=h1
  rw[A1 (Ae _),Nat.sub_self] at h
  cases h
  rfl)
 obtain⟨m2,ta,tb,tx,ty,n0,n1,w0,w1,w2,w3,e2,f2,dr,hxy⟩:=Oc (n:=1500) (h1.mono (by decide))
 have fl2:=f2.flat fl1
 have e3:=Qy (mu:=m2) (n0:=n0) (n1:=n1) (w0:=w0) (w1:=w1) (w2:=w2) (w3:=w3)
 have ca2:ta.cs.length=2:=by have:=congrArg List.length dr.ca;simpa using this
 have cb2:tb.cs.length=2:=by have:=congrArg List.length dr.cb;simpa using this
 have hn:ta.nm≠tb.nm:=by rw[dr.na,dr.nb];exact dr.n
 obtain⟨ox,oy,cx,cy,kx,ky,hS⟩:Kg tx/\Kg ty/\tx.cs.length=2/\ty.cs.length=2/\tx.ks=1/\ty.ks=1/\SOk [tx,ty]:=by
  rcases hxy with⟨rfl,rfl⟩|⟨rfl,rfl⟩
  ·exact⟨dr.oa,dr.ob,ca2,cb2,dr.ka,dr.kb,by simp,by simp,λt ht=>by
    simp only[Ao,Ax,Ba] at ht
    rcases ht with rfl|rfl
    ·exact dr.oa
    ·exact dr.ob,by simp[hn]⟩
  ·exact⟨dr.ob,dr.oa,cb2,ca2,dr.kb,dr.ka,by simp,by simp,λt ht=>by
    simp only[Ao,Ax,Ba] at ht
    rcases ht with rfl|rfl
    ·exact dr.ob
    ·exact dr.oa,by simp[Ne.symm hn]⟩
 obtain⟨_,m3,e4,f3,gs,rfl,fo⟩:=Ol (w:=5) (n:=1000) (by decide) hS fl2 (f2.hand.mono (by decide))
 have fl3:=f3.flat fl2
 obtain⟨fx,fy,rfl⟩:∃fx fy,gs=[fx,fy]:=by
  match gs,fo.len with
  |[a,b],_=>exact⟨a,b,rfl⟩
 have rx:=Wu (fo.ok 0 fx tx rfl rfl) kx cx
 have ry:=Wu (fo.ok 1 fy ty rfl rfl) ky cy
 generalize hRL:D.tup [.tup [.str "lacking",KC n0 n1 w1 w2],.tup [.str "twice",Nv n0 w0],.tup [.str "idle",KR n0 n1 w1 w2]]=RL at e3
 obtain⟨ro',m4,e5,⟨gx,gy,y8,rfl,_⟩,_,fl4⟩:=F9 (m0:=m3) (tg:=gNm 8) (body:=iB) (λi' ro m=>(∃fx fy y8,ro=[some (.lst (ns.map D.int)),some (.int i),some (.ref mu.length),some (.tup [tbD tx,tbD ty]),some (.lst [.str n0,.str n1]),some (.lst [.str w0,.str w1,.str w2,.str w3]),some RL,some (.tup [flD fx,flD fy]),y8]/\R2 fx/\R2 fy/\fx.length<=16+i'/\fy.length<=16+i')/\HandOk m mu.length (1000-5*i')/\Flat m) (G9 0 5) 0 [some (.lst (ns.map D.int)),some (.int i),some (.ref mu.length),some (.tup [tbD tx,tbD ty]),some (.lst [.str n0,.str n1]),some (.lst [.str w0,.str w1,.str w2,.str w3]),some RL,some (.tup [flD fx,flD fy]),x8] m3 ⟨⟨fx,fy,x8,rfl,rx.1,ry.1,rx.2,ry.2⟩,f3.hand,fl3⟩ λj d ro m ed hi'=>by
  obtain⟨⟨fx,fy,y8,rfl,r1,r2,l1,l2⟩,hh,fl⟩:=hi'
  obtain⟨rfl,hj⟩:=OL ed
  have rr:=O9 (mu:=m) dr hxy r1 r2 fl
  rw[hRL] at rr
  obtain⟨m',fx',fy',eo,fr,r1',r2',l1',l2'⟩:=Rl (mu:=m) (k:=mu.length) (n:=1000-5*(0+j+1)) ox oy cx cy r1 r2 l1 l2 (by ext) (hh.mono (by ext))
  refine⟨_,m,[some (.lst (ns.map D.int)),some (.int i),some (.ref mu.length),some (.tup [tbD tx,tbD ty]),some (.lst [.str n0,.str n1]),some (.lst [.str w0,.str w1,.str w2,.str w3]),some RL,some (.tup [flD fx',flD fy']),some (.int j)],m',rfl,?_,⟨fx',fy',_,rfl,r1',r2',by ext,by ext⟩,fr.hand,fr.flat fl⟩
  unfold iB
  simp![rr,eo]
  all_goals rfl
 have rg:=Va (mu:=m3) (ro:=[some (.lst (ns.map D.int)),some (.int i),some (.ref mu.length),some (.tup [tbD tx,tbD ty]),some (.lst [.str n0,.str n1]),some (.lst [.str w0,.str w1,.str w2,.str w3]),some RL,some (.tup [flD fx,flD fy]),x8]) (r:=(Co (eC (.int 5)) Cr)) (n:=5) (m:=m3) rfl (by decide) (by rw[AH];decide)
 have rg':iRg (Co (eC (.int 5)) Cr) [some (.lst (ns.map D.int)),some (.int i),some (.ref mu.length),some (.tup [tbD tx,tbD ty]),some (.lst [.str n0,.str n1]),some (.lst [.str w0,.str w1,.str w2,.str w3]),some RL,some (.tup [flD fx,flD fy]),x8] m3=some ((G9 0 5,none),m3):=rg
 have e4':Ee [.ref mu.length,.tup [tbD tx,tbD ty],.int 5] m2=some (.tup [flD fx,flD fy],m3):=e4
 refine⟨some (.ref mu.length),some (.tup [tbD tx,tbD ty]),some (.lst [.str n0,.str n1]),some (.lst [.str w0,.str w1,.str w2,.str w3]),some RL,some (.tup [flD gx,flD gy]),y8,m4,?_,fl4⟩
 unfold PR
 simp![e1,e2,e3,e4',rg',e5]
def Vq (ns:List Int):∃mu',LP [.lst (ns.map .int)] []=some (.bl true,mu'):=by
 obtain⟨N,hN,h2,h6⟩:∃N:Nat,(if (if (ns.length:Int)<6 then (ns.length:Int) else 6) > 2 then (if (ns.length:Int)<6 then (ns.length:Int) else 6) else 2)=(N:Int)/\2<=N/\N<=6:=by
  refine⟨(if (if (ns.length:Int)<6 then (ns.length:Int) else 6) > 2 then (if (ns.length:Int)<6 then (ns.length:Int) else 6) else 2).toNat,?_,?_,?_⟩<;>split<;>split<;>ext
 obtain⟨ro',mu',e,⟨y1,y2,y3,y4,y5,y6,y7,y8,rfl⟩,_⟩:=F9 (m0:=[]) (tg:=gNm 1) (body:=PR) (λi ro m=>(∃y1 y2 y3 y4 y5 y6 y7 y8,ro=[some (.lst (ns.map D.int)),y1,y2,y3,y4,y5,y6,y7,y8])/\Flat m) (G9 0 N) 0 [some (.lst (ns.map D.int)),none,none,none,none,none,none,none,none] [] ⟨⟨_,_,_,_,_,_,_,_,rfl⟩,λj o h=>by simp at h⟩ λj d ro m ed hi=>by
   obtain⟨⟨y1,y2,y3,y4,y5,y6,y7,y8,rfl⟩,fl⟩:=hi
   obtain⟨rfl,hj⟩:=OL ed
   obtain⟨z2,z3,z4,z5,z6,z7,z8,m',e,fl'⟩:=Xj (mu:=m) (i:=j) (ns:=ns) (x2:=y2) (x3:=y3) (x4:=y4) (x5:=y5) (x6:=y6) (x7:=y7) (x8:=y8) (by ext) fl
   exact⟨_,m,_,m',rfl,e,⟨_,_,_,_,_,_,_,_,rfl⟩,fl'⟩
 refine⟨mu',?_⟩
 have mn:JY [.int 6,.int (ns.length:Int)] []=some (.int (if (ns.length:Int)<6 then (ns.length:Int) else 6),[]):=rfl
 have mx:TB [.int 2,.int (if (ns.length:Int)<6 then (ns.length:Int) else 6)] []=some (.int N,[]):=by
  rw[<- hN]
  rfl
 have rg:=Va (mu:=[]) (ro:=[some (.lst (ns.map D.int)),none,none,none,none,none,none,none,none]) (r:=(Co (CA TB (Co (eC (.int 2)) (Co (CA JY (Co (eC (.int 6)) (Co (CA II (Co (Cp 0) Cr)) Cr))) Cr))) Cr)) (n:=N) (m:=[]) (by simp![Ak,mn,mx]) (by ext) (by rw[AH];ext)
 rw[Int.toNat_natCast] at rg
 unfold PR iB at e
 simp![LP,RC,rg,e]
end PG
namespace PG
open PySem L2 PV PyProof.Rows
@[elab_as_elim] theorem Aap {P:List Value->Prop}(us:List Value)(hl:us.length=1)(h:∀a0,P [a0]):P us:=by
 match us,hl with
 |[_],_=>exact h _
@[elab_as_elim] theorem G4 {P:List Value->Prop}(us:List Value)(hl:us.length=2)(h:∀a0 a1,P [a0,a1]):P us:=by
 match us,hl with
 |[_,_],_=>exact h _ _
@[elab_as_elim] theorem NK {P:List Value->Prop}(us:List Value)(hl:us.length=3)(h:∀a0 a1 a2,P [a0,a1,a2]):P us:=by
 match us,hl with
 |[_,_,_],_=>exact h _ _ _
@[elab_as_elim] theorem YA {P:List Value->Prop}(us:List Value)(hl:us.length=4)(h:∀a0 a1 a2 a3,P [a0,a1,a2,a3]):P us:=by
 match us,hl with
 |[_,_,_,_],_=>exact h _ _ _ _
def FH (K:W.Frag)(x:Str)(st:Stmt):Prop:=∃(f:Addr) (oc kV dc pm cd ct:Value) (od an:Option Addr) (sl:Array (Option Value)),W.nsIn K mainGlobals x=some (some (.ref f))/\K.lookup f=some ⟨oc,od,.func (W.fnOf x x (Hm st) (EW st) (Cu st) .none kV dc pm an cd ct),sl⟩/\W.codeIn K cd x=true/\W.keepIn K (.ref f)=true
def fh {K:W.Frag}{x:Str}{st:Stmt}{f:Addr}{oc kV dc pm cd ct:Value}{od an:Option Addr}{sl:Array (Option Value)}(a:W.nsIn K mainGlobals x=some (some (.ref f)))(l:K.lookup f=some ⟨oc,od,.func (W.fnOf x x (Hm st) (EW st) (Cu st) .none kV dc pm an cd ct),sl⟩)(c:W.codeIn K cd x=true)(k:W.keepIn K (.ref f)=true):FH K x st:=⟨f,oc,kV,dc,pm,cd,ct,od,an,sl,a,l,c,k⟩
def FH.go {K:W.Frag}{x:Str}{st:Stmt}{h:Heap}{mg:Str->Option Value}(H:FH K x st)(X:K.In h)(G:h.Ns mainGlobals mg):∃f fd,Fun K x x st f fd/\mg x=some (.ref f):=by
 obtain⟨_,_,_,_,_,_,_,_,_,_,a,l,c,k⟩:=H
 exact⟨_,_,Sb l c k,W.mg_of X G a⟩
set_option maxHeartbeats 0 in
def all_mk {l:W.OpenLaw}{w:World}{K:W.Frag}{h:Heap}{mg:Str->Option Value}{fa:Addr}(X:K.In h)(G:h.Ns mainGlobals mg)(hfa:mg "law"=some (.ref fa)){t1:Tok}{p1:Addr}{pn1:Nat}{ps1:Array (Option Value)}{pt1_0 pt1_1 pt1_2:Tok}
  (h1:FH K "found_again" F6) (h2:FH K "columns_by_name" Eb) (h3:FH K "called_columns" Ej) (h4:FH K "joined_columns" En) (h5:FH K "number_of" GY) (h6:FH K "places_of" Ge) (h7:FH K "join_places" Ez) (h8:FH K "paired_columns_and_number" CO) (h9:FH K "test_by_place" Ff) (h10:FH K "tests_by_place" Eo) (h11:FH K "columns_and_number" D9) (h12:FH K "steps_of" Hu) (h13:FH K "cut" NY) (h14:FH K "meets" Kt) (h15:FH K "meets_all" Gg) (h16:FH K "cut_levels" Gz) (h17:FH K "joined_levels" Eu) (h18:FH K "united_levels" Fh) (h19:FH K "levels_without" DT) (h20:FH K "step_levels" E6) (h21:FH K "levels_of" G0) (h22:FH K "tables_of" Gh) (h23:FH K "told" Mm) (h24:FH K "broken" Jg) (h25:FH K "_law_hand" HG) (h26:FH K "_law_take" HE) (h27:FH K "_law_pick" Hx) (h28:FH K "_law_words" Ga) (h29:FH K "_law_filling" E8) (h30:FH K "_law_tables" Gv) (h31:FH K "_law_rules" GV) (h32:FH K "_law_due" Ey) (h33:FH K "_law_right" Gd) (h34:FH K "_law_otherwise" D5) (h35:FH K "law" KA)
  (z1:W.nsIn K mainGlobals "all"=some none) (z2:W.nsIn K mainGlobals "any"=some none) (z3:W.nsIn K mainGlobals "dict"=some none) (z4:W.nsIn K mainGlobals "int"=some none) (z5:W.nsIn K mainGlobals "len"=some none) (z6:W.nsIn K mainGlobals "list"=some none) (z7:W.nsIn K mainGlobals "max"=some none) (z8:W.nsIn K mainGlobals "min"=some none) (z9:W.nsIn K mainGlobals "range"=some none) (z10:W.nsIn K mainGlobals "sorted"=some none) (z11:W.nsIn K mainGlobals "tuple"=some none) (z12:W.nsIn K mainGlobals "zip"=some none)
  (g1:W.nsIn K mainGlobals "SURE"=some (some (.int 3 t1))) (q1:W.nsIn K mainGlobals "PAIRED"=some (some (.ref p1))) (m1:K.lookup p1=some ⟨.type "tuple",none,.seq #[.str "join" pt1_0,.str "union" pt1_1,.str "gap" pt1_2] pn1,ps1⟩) :
  ∃fd:FuncData,(∀(s:Shared) (v:Value),BindsTo s fd ⟨[v],[]⟩ [("_law_script",v)])/\∀base:Heap,K.In base->base.Ns mainGlobals mg->DU l.prog w K mg base CX0 28 fa fd ["_law_script"] (spF ⟨K,l.prog,w⟩ LP 1):=by
 have T:Tx K mg:=⟨Bo X G z1,Bo X G z2,Bo X G z3,Bo X G z4,Bo X G z5,Bo X G z6,Bo X G z7,Bo X G z8,Bo X G z9,Bo X G z10,Bo X G z11,Bo X G z12,⟨p1,_,_,_,W.mg_of X G q1,m1,rfl,rfl,rfl,(show(3:Nat)<=sizeLine by rw[AH];decide),.cons ⟨pt1_0,rfl⟩ (.cons ⟨pt1_1,rfl⟩ (.cons ⟨pt1_2,rfl⟩ (.nil)))⟩,⟨t1,W.mg_of X G g1⟩⟩
 obtain⟨_,_,kV,dc,pm,cd,ct,_,an,_,a,lk,c,k⟩:=h35
 cases hfa.symm.trans (W.mg_of X G a)
 refine⟨W.fnOf "law" "law" (Hm KA) (EW KA) (Cu KA) .none kV dc pm an cd ct,λs v=>.of_eq rfl,λbase _ _=>?_⟩
 obtain⟨_,_,F,m⟩:=h1.go X G
 have C1:=Dj (P:=l.prog) (w:=w) (base:=base) F m (KN F T ) (F.binds λ_ _ _ _ _ _ us hl=>G4 us hl λ_ _=>rfl)
 obtain⟨_,_,F,m⟩:=h2.go X G
 have C2:=Dj (P:=l.prog) (w:=w) (base:=base) F m (Ja F T ) (F.binds λ_ _ _ _ _ _ us hl=>Aap us hl λ_=>rfl)
 obtain⟨_,_,F,m⟩:=h3.go X G
 have C3:=Dj (P:=l.prog) (w:=w) (base:=base) F m (Jm F T ) (F.binds λ_ _ _ _ _ _ us hl=>G4 us hl λ_ _=>rfl)
 obtain⟨_,_,F,m⟩:=h4.go X G
 have C4:=Dj (P:=l.prog) (w:=w) (base:=base) F m (Jk F T ) (F.binds λ_ _ _ _ _ _ us hl=>G4 us hl λ_ _=>rfl)
 obtain⟨_,_,F,m⟩:=h5.go X G
 have C5:=Dj (P:=l.prog) (w:=w) (base:=base) F m (Nd F T ) (F.binds λ_ _ _ _ _ _ us hl=>G4 us hl λ_ _=>rfl)
 obtain⟨_,_,F,m⟩:=h6.go X G
 have C6:=Dj (P:=l.prog) (w:=w) (base:=base) F m (M9 F T ) (F.binds λ_ _ _ _ _ _ us hl=>G4 us hl λ_ _=>rfl)
 obtain⟨_,_,F,m⟩:=h7.go X G
 have C7:=Dj (P:=l.prog) (w:=w) (base:=base) F m (KW F T C6) (F.binds λ_ _ _ _ _ _ us hl=>G4 us hl λ_ _=>rfl)
 obtain⟨_,_,F,m⟩:=h9.go X G
 have C9:=Dj (P:=l.prog) (w:=w) (base:=base) F m (J8 F T ) (F.binds λ_ _ _ _ _ _ us hl=>G4 us hl λ_ _=>rfl)
 obtain⟨_,_,F,m⟩:=h10.go X G
 have C10:=Dj (P:=l.prog) (w:=w) (base:=base) F m (Je F T C9) (F.binds λ_ _ _ _ _ _ us hl=>G4 us hl λ_ _=>rfl)
 obtain⟨_,_,F,m⟩:=h11.go X G
 obtain⟨_,_,F',m'⟩:=h8.go X G
 have b':=F'.binds (ps:=["known","numbers","seen","look"]) λ_ _ _ _ _ _ us hl=>YA us hl λ_ _ _ _=>rfl
 have b:=F.binds (ps:=["known","numbers","seen","look"]) λ_ _ _ _ _ _ us hl=>YA us hl λ_ _ _ _=>rfl
 have C11:=Dj (P:=l.prog) (w:=w) (base:=base) F m (FK F m b F' m' b' T C5 C10 C6 C3 C1 C7 C4 10) b
 obtain⟨_,_,F,m⟩:=h12.go X G
 have C12:=Dj (P:=l.prog) (w:=w) (base:=base) F m (NI F T C11 C2) (F.binds λ_ _ _ _ _ _ us hl=>G4 us hl λ_ _=>rfl)
 obtain⟨_,_,F,m⟩:=h13.go X G
 have C13:=Dj (P:=l.prog) (w:=w) (base:=base) F m (W9 F T ) (F.binds λ_ _ _ _ _ _ us hl=>G4 us hl λ_ _=>rfl)
 obtain⟨_,_,F,m⟩:=h14.go X G
 have C14:=Dj (P:=l.prog) (w:=w) (base:=base) F m (R3 F T ) (F.binds λ_ _ _ _ _ _ us hl=>G4 us hl λ_ _=>rfl)
 obtain⟨_,_,F,m⟩:=h15.go X G
 have C15:=Dj (P:=l.prog) (w:=w) (base:=base) F m (M3 F T C14) (F.binds λ_ _ _ _ _ _ us hl=>G4 us hl λ_ _=>rfl)
 obtain⟨_,_,F,m⟩:=h16.go X G
 have C16:=Dj (P:=l.prog) (w:=w) (base:=base) F m (Lv F T C13) (F.binds λ_ _ _ _ _ _ us hl=>G4 us hl λ_ _=>rfl)
 obtain⟨_,_,F,m⟩:=h17.go X G
 have C17:=Dj (P:=l.prog) (w:=w) (base:=base) F m (JX F T C13) (F.binds λ_ _ _ _ _ _ us hl=>NK us hl λ_ _ _=>rfl)
 obtain⟨_,_,F,m⟩:=h18.go X G
 have C18:=Dj (P:=l.prog) (w:=w) (base:=base) F m (J4 F T ) (F.binds λ_ _ _ _ _ _ us hl=>G4 us hl λ_ _=>rfl)
 obtain⟨_,_,F,m⟩:=h19.go X G
 have C19:=Dj (P:=l.prog) (w:=w) (base:=base) F m (Jh F T ) (F.binds λ_ _ _ _ _ _ us hl=>G4 us hl λ_ _=>rfl)
 obtain⟨_,_,F,m⟩:=h20.go X G
 have C20:=Dj (P:=l.prog) (w:=w) (base:=base) F m (KG F T C15 C16 C17 C18 C19) (F.binds λ_ _ _ _ _ _ us hl=>NK us hl λ_ _ _=>rfl)
 obtain⟨_,_,F,m⟩:=h21.go X G
 have C21:=Dj (P:=l.prog) (w:=w) (base:=base) F m (MM F T C20) (F.binds λ_ _ _ _ _ _ us hl=>G4 us hl λ_ _=>rfl)
 obtain⟨_,_,F,m⟩:=h22.go X G
 have C22:=Dj (P:=l.prog) (w:=w) (base:=base) F m (Mk F T ) (F.binds λ_ _ _ _ _ _ us hl=>G4 us hl λ_ _=>rfl)
 obtain⟨_,_,F,m⟩:=h23.go X G
 have C23:=Dj (P:=l.prog) (w:=w) (base:=base) F m (UM F T C21 C12 C22) (F.binds λ_ _ _ _ _ _ us hl=>NK us hl λ_ _ _=>rfl)
 obtain⟨_,_,F,m⟩:=h24.go X G
 have C24:=Dj (P:=l.prog) (w:=w) (base:=base) F m (QP F T C23) (F.binds λ_ _ _ _ _ _ us hl=>NK us hl λ_ _ _=>rfl)
 obtain⟨_,_,F,m⟩:=h25.go X G
 have C25:=Dj (P:=l.prog) (w:=w) (base:=base) F m (Ny F T ) (F.binds λ_ _ _ _ _ _ us hl=>G4 us hl λ_ _=>rfl)
 obtain⟨_,_,F,m⟩:=h26.go X G
 have C26:=Dj (P:=l.prog) (w:=w) (base:=base) F m (NB F T ) (F.binds λ_ _ _ _ _ _ us hl=>G4 us hl λ_ _=>rfl)
 obtain⟨_,_,F,m⟩:=h27.go X G
 have C27:=Dj (P:=l.prog) (w:=w) (base:=base) F m (ND F T C26) (F.binds λ_ _ _ _ _ _ us hl=>G4 us hl λ_ _=>rfl)
 obtain⟨_,_,F,m⟩:=h28.go X G
 have C28:=Dj (P:=l.prog) (w:=w) (base:=base) F m (Mr F T C26 C27) (F.binds λ_ _ _ _ _ _ us hl=>NK us hl λ_ _ _=>rfl)
 obtain⟨_,_,F,m⟩:=h29.go X G
 have C29:=Dj (P:=l.prog) (w:=w) (base:=base) F m (Ld F T C26 C27) (F.binds λ_ _ _ _ _ _ us hl=>NK us hl λ_ _ _=>rfl)
 obtain⟨_,_,F,m⟩:=h30.go X G
 have C30:=Dj (P:=l.prog) (w:=w) (base:=base) F m (Lu F T C28 C26) (F.binds λ_ _ _ _ _ _ us hl=>Aap us hl λ_=>rfl)
 obtain⟨_,_,F,m⟩:=h31.go X G
 have C31:=Dj (P:=l.prog) (w:=w) (base:=base) F m (Mh F T ) (F.binds λ_ _ _ _ _ _ us hl=>G4 us hl λ_ _=>rfl)
 obtain⟨_,_,F,m⟩:=h32.go X G
 have C32:=Dj (P:=l.prog) (w:=w) (base:=base) F m (OO F T ) (F.binds λ_ _ _ _ _ _ us hl=>NK us hl λ_ _ _=>rfl)
 obtain⟨_,_,F,m⟩:=h33.go X G
 have C33:=Dj (P:=l.prog) (w:=w) (base:=base) F m (MG F T C32 C24) (F.binds λ_ _ _ _ _ _ us hl=>YA us hl λ_ _ _ _=>rfl)
 obtain⟨_,_,F,m⟩:=h34.go X G
 have C34:=Dj (P:=l.prog) (w:=w) (base:=base) F m (J3 F T C26 C27) (F.binds λ_ _ _ _ _ _ us hl=>NK us hl λ_ _ _=>rfl)
 exact YJ (Sb lk c k) T C25 C30 C31 C29 C33 C34
theorem Oj {K:Zc}{th:List Addr}{H:Hp}:∀ns:List Int,RepL K th H (ns.map D.int) (ns.map V.int)
 |[]=>.nil
 |i::ns=>.cons rfl (Oj ns)
def walk {l:W.OpenLaw}{q:Program}{loose:List Str}{XP:(Str->Option Value)->Heap->Prop}{YP:World->Heap->Prop}{d:DefRec}{K:Params->W.Frag}(hn:l.most=some 63)(hdf:d.params.defaults=[])
  (hY:∀(w:World) (h:Heap),YP w h->(K w.params).In h)
  (F:∀(w:World) (mg:Str->Option Value) (fa:Addr) (h:Heap),(K w.params).In h->h.Ns mainGlobals mg->mg d.name=some (.ref fa) ->
   ∃fd:FuncData,(∀(s:Shared) (u:Value),BindsTo s fd ⟨[u],[]⟩ [("_law_script",u)])/\∀base:Heap,(K w.params).In base->base.Ns mainGlobals mg->DU l.prog w (K w.params) mg base CX0 28 fa fd ["_law_script"] (spF ⟨K w.params,l.prog,w⟩ LP 1)) :
  W.WalkO q loose XP YP l.row.toRowW d [] (λf vs=>PySem.call f vs):=
 L2.U0 (n:=63) (k:=28) (x:="_law_script") (CX:=λ_=>CX0) (sp:=λw=>spF ⟨K w.params,l.prog,w⟩ LP 1) hn (by decide) hdf ⟨rfl,by decide,by decide,rfl⟩ hY F (λw H a ns hl _ hS=>by
  obtain⟨mu',e⟩:=Vq ns
  refine⟨[],[],[.lst (ns.map D.int)],⟨rfl,List.nodup_nil,λk a o e=>by simp at e⟩,.cons ?_ .nil,rfl,.bl true,mu',e,λth' H' _ _ v rv=>rv⟩
  unfold Rep
  refine⟨a,ns.map V.int,rfl,?_,Oj ns,by rw[Ak];exact AO hl (by decide)⟩
  rcases hS with hS|hS
  ·exact .inl ⟨by simp,hS⟩
  ·exact .inr hS) λ_ _ _ _ _ z=>z
end PG
local macro_rules(kind:=Lean.Parser.Term.structInst)|s=>do
 let g:=s[2][0]
 let x:=g[10]
 let y:=x[1]
 if x[0][0].getId.eraseMacroScopes != `frame||y[2][2].getNumArgs<1 then Lean.Macro.throwUnsupported
 return s.setArg 2 (s[2].setArg 0 (g.setArg 10 (x.setArg 1 (y.setArg 2 (y[2].setArg 2 (Lean.mkIdent `none))))))
open PySem PySem.W PyProof.Rows
set_option maxRecDepth 100000 in
set_option maxHeartbeats 0 in
theorem PySem.Challenge.cw_lookback_k25_whole_references_kept_holds : PySem.Challenge.rw_lookback_k25_whole_references_kept.Holds := by
 w_on;o_law;k_head;(case hw=>w_witness2)
 k_fill
 refine PG.walk (l:=PySem.Challenge.rw_lookback_k25_whole_references_kept) rfl rfl (λw h Y=>W.kIn_of Y) ?F
 case F =>
  intro w mg fa h KX G hmg
  refine' PG.all_mk KX G hmg ?h1 ?h2 ?h3 ?h4 ?h5 ?h6 ?h7 ?h8 ?h9 ?h10 ?h11 ?h12 ?h13 ?h14 ?h15 ?h16 ?h17 ?h18 ?h19 ?h20 ?h21 ?h22 ?h23 ?h24 ?h25 ?h26 ?h27 ?h28 ?h29 ?h30 ?h31 ?h32 ?h33 ?h34 ?h35 ?z1 ?z2 ?z3 ?z4 ?z5 ?z6 ?z7 ?z8 ?z9 ?z10 ?z11 ?z12 ?g1 ?q1 ?m1
  case h1|h2|h3|h4|h5|h6|h7|h8|h9|h10|h11|h12|h13|h14|h15|h16|h17|h18|h19|h20|h21|h22|h23|h24|h25|h26|h27|h28|h29|h30|h31|h32|h33|h34|h35=>(refine' PG.fh ?a ?l ?c ?k;(case a=>k_is);(case l=>k_is);(case c=>k_is);(case k=>k_is))
  (case z1=>k_is);(case z2=>k_is);(case z3=>k_is);(case z4=>k_is);(case z5=>k_is);(case z6=>k_is)
  (case z7=>k_is);(case z8=>k_is);(case z9=>k_is);(case z10=>k_is);(case z11=>k_is);(case z12=>k_is)
  (case g1=>k_is);(case q1=>k_is);(case m1=>k_is)
