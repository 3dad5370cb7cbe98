import PyProof.Rows.All
import Wide.All
import OpenK.AllK
import Wide.FinOn
import Lean
import PyProof.EqAt
import PyProof.EqKinds
import PyProof.TupleCall
import PySem.Challenge.RW_lookback_k05_looks_let
set_option Elab.async false
set_option linter.all false
set_option compiler.extract_closed false
set_option maxRecDepth 100000
def Aa:=@PySem.wpAny_bind
def Ab:=@Bool.and_eq_true
def Ac:=@PySem.wpAny_pure
def Ad:=@PySem.Heap.get?_push_of_some
def Ae:=@decide_eq_true_eq
def Af:=@List.getElem?_eq_some_iff
def Ag:=@List.length_map
def Ah:=@Nat.le_refl
def Ai:=@PySem.Heap.get?_push_size
def Aj:=@PySem.Heap.lt_size
def Ak:=@List.size_toArray
def Al:=@List.mem_append_right
def Am:=@List.mem_cons
def An:=@List.mem_singleton
def Ao:=@List.getElem?_eq_getElem
def Ap:=@Nat.ne_of_lt
def Aq:=@List.all_eq_true
def Ar:=@List.mem_of_getElem?
def As:=@Array.getElem?_eq_getElem
def Au:=@Nat.lt_of_lt_of_le
def Av:=@List.getElem?_map
def Aw:=@PySem.Heap.SameBut.update
def Ax:=@List.getElem?_append_left
def Ay:=@List.mem_map
def Az:=@List.length_append
def AA:=@Nat.le_trans
def AB:=@Array.getElem?_toList
def AD:=@PySem.wpAny_holding
def AE:=@Option.some.inj
def AF:=@Bool.false_ne_true
def AG:=@List.getElem?_set_ne
def AH:=@PySem.Heap.get?_update_self
def AI:=@List.map_map
def AJ:=@List.getD_eq_getElem?_getD
def AK:=@PySem.wpAny_callSpecial?_slot
def AL:=@List.map_cons
def AM:=@PySem.wpAny_call_entry
def AN:=@Bool.false_eq_true
def AO:=@PySem.sizeLine_eq
def AQ:=@List.not_mem_nil
def AR:=@List.mem_append
def AS:=@Nat.lt_succ_self
def AU:=@PySem.wpAny_newObj_type
def AV:=@List.map_append
def AW:=@PyProof.Rows.slot_tuple_getitem
def AX:=@Nat.zero_le
def AY:=@Nat.lt_succ_of_lt
def AZ:=@List.nodup_iff_pairwise_ne
def A0:=@PySem.W.mg_none_of
def A1:=@decide_eq_false
def A3:=@List.mem_append_left
def A4:=@Bool.and_self
def A5:=@if_false
def A6:=@PySem.wpAny_field
def A7:=@List.ext_getElem?
def A8:=@Nat.lt_irrefl
def A9:=@List.mem_iff_getElem?
def Ba:=@PySem.Heap.get?_update_other
def Bb:=@PySem.Around.under_plainId
def Bc:=@List.length_take
def Bd:=@PySem.W.kia_one
def Be:=@PySem.Heap.size_push
def Bf:=@PySem.wpAny_rule
def Bh:=@PySem.codeAny_builtin
def Bi:=@Nat.le_succ
def Bj:=@PySem.wpAny_seqItems
def Bk:=@List.getElem?_append_right
def Bl:=@Array.getElem?_eq_none
def Bm:=@Int.emod_lt_of_pos
def Bn:=@List.nodup_cons
def Bo:=@PySem.wpAny_setField
def Bp:=@PySem.F.slot_dict_keyiterator_next
def Bq:=@List.mem_cons_of_mem
def Br:=@Nat.pow_le_pow_right
def Bs:=@Int.emod_nonneg
def Bt:=@Nat.ne_of_gt
def Bu:=@PySem.wpAny_truthy_bool
def Bv:=@List.nodup_append
def Bw:=@PySem.wpAny_setState_of
def Bx:=@List.getElem?_take_of_lt
def By:=@PySem.wpAny_typeOf
def Bz:=@PySem.wpAny_updateSeq
def BA:=@List.getElem?_replicate
def BB:=@or_false
def BC:=@Bool.and_true
def BD:=@List.getElem?_set_self
def BE:=@decide_eq_true
def BF:=@PySem.wpAny_dictEpoch
def BG:=@List.drop_eq_getElem_cons
def BH:=@List.length_replicate
def BI:=@PySem.builtinLookup_eq_fast
def BJ:=@List.length_drop
def BK:=@PySem.wpAny_setField_rec
def BL:=@PyProof.Rows.boot_tuple
def BM:=@PySem.plainId_quiet
def BN:=@List.mem_range
def BP:=@PySem.wpAny_typeNameOfWhole_keyiter
def BQ:=@Array.toList_push
def BR:=@PySem.wpAny_dictEntries
def BS:=@PySem.wpAny_mono
def BU:=@PySem.wpAny_loadPart'
def BV:=@List.forIn_cons
def BW:=@PySem.F.slot_zip_next
def BX:=@PySem.PassesOwn.never
def BY:=@beq_eq_false_iff_ne
def BZ:=@PySem.mem_of_lookup
def B0:=@PySem.Obj.isFreed_of_dict
def B3:=@PySem.F.plain_extend_loop
def B4:=@PyProof.Rows.F.plain_set_update_loop
def B5:=@PyProof.Rows.callWith_type1
def B6:=@List.take_of_length_le
def B7:=@List.getElem_mem
def B8:=@PySem.wpAny_isInstance
def B9:=@PySem.F.slot_tuple_iterator_next
namespace L2
open PySem PySem.Spec PyProof.Rows
noncomputable abbrev Key:=Sum Int Str
noncomputable def WN:Key->Value->Bool
 | .inl k,v=>Value.isInt k v
 | .inr x,v=>Value.isStrOf x v
noncomputable def Abd (w:World):Key->Int
 | .inl k=>hashInt k
 | .inr x=>hashStr w x
theorem DW:∀ {k:Key} {v:Value},WN k v=true->(∃ i t,k=Sum.inl i∧v=Value.int i t)∨(∃ x t,k=Sum.inr x∧v=Value.str x t)
 | .inl i,v,h=>by
  obtain ⟨t,e⟩:=Value.isInt_shape (k:=i) (v:=v) h
  exact .inl ⟨i,t,rfl,e⟩
 | .inr x,v,h=>by
  obtain ⟨t,e⟩:=Value.isStrOf_shape (x:=x) (v:=v) h
  exact .inr ⟨x,t,rfl,e⟩
theorem Yf (a b:Int):decide ((Sum.inl a:Key)=Sum.inl b)=(a==b):=by
 by_cases e:a=b
 ·subst e;simp
 ·have h:¬ (Sum.inl a:Key)=Sum.inl b:=λq=>e (Sum.inl.inj q)
  rw [A1 h]
  exact (BY.mpr e).symm
theorem Xt (a b:Str):decide ((Sum.inr a:Key)=Sum.inr b)=decide (a=b):=by
 by_cases e:a=b
 ·subst e;simp
 ·have h:¬ (Sum.inr a:Key)=Sum.inr b:=λq=>e (Sum.inr.inj q)
  rw [A1 h,A1 e]
theorem Yq (a:Int)(b:Str):decide ((Sum.inl a:Key)=Sum.inr b)=false:=A1 (λq=>nomatch q)
theorem XA (a:Str)(b:Int):decide ((Sum.inr a:Key)=Sum.inl b)=false:=A1 (λq=>nomatch q)
noncomputable def Qi (prog:Program)(w:World):PySem.KeyKind prog w Key where
 is:=WN
 hash:=Abd w
 inj:=λv a b ha hb=>by
  rcases DW ha with ⟨i,t,rfl,rfl⟩|⟨x,t,rfl,rfl⟩
  ·rcases DW hb with ⟨j,u,rfl,e⟩|⟨y,u,rfl,e⟩
   ·injection e with e1 _;rw [e1]
   ·exact nomatch e
  ·rcases DW hb with ⟨j,u,rfl,e⟩|⟨y,u,rfl,e⟩
   ·exact nomatch e
   ·injection e with e1 _;rw [e1]
 byValue:=λk v h=>by
  rcases DW h with ⟨i,t,rfl,rfl⟩|⟨x,t,rfl,rfl⟩<;>rfl
 pyHash:=λhv h=>by
  rcases DW hv with ⟨i,t,rfl,rfl⟩|⟨x,t,rfl,rfl⟩
  ·exact wpAny_pyHash_int h
  ·exact wpAny_pyHash_str h
 eqBool:=λhu hv h=>by
  rcases DW hu with ⟨i,t,rfl,rfl⟩|⟨x,t,rfl,rfl⟩
  ·rcases DW hv with ⟨j,u,rfl,rfl⟩|⟨y,u,rfl,rfl⟩
   ·rw [Yf] at h;exact wpAny_eqBool_int h
   ·rw [Yq] at h;exact SeqAt.EqAt.int_str i t y u _ _ _ _ h
  ·rcases DW hv with ⟨j,u,rfl,rfl⟩|⟨y,u,rfl,rfl⟩
   ·rw [XA] at h;exact SeqAt.EqAt.str_int x t j u _ _ _ _ h
   ·rw [Xt] at h;exact wpAny_eqBool_str h
 «strs»:=λk x t v h=>by
  rcases DW h with ⟨i,u,rfl,e⟩|⟨y,u,rfl,e⟩
  ·exact nomatch e
  ·injection e with e1 _
   subst e1
   cases v<;>rfl
inductive V where
 | non|bl (b:Bool)|int (i:Int)|str (x:Str)|byt (b:Array UInt8)|flt (b:UInt64)|ref (a:Addr)|ty (n:String)
 deriving DecidableEq
noncomputable def RelV:V->Value->Prop
 | .non,u=>u=Value.none
 | .bl b,u=>u=Value.bool b
 | .int i,u=>∃ t,u=Value.int i t
 | .str x,u=>∃ t,u=Value.str x t
 | .byt b,u=>∃ t,u=Value.bytes b t
 | .flt b,u=>∃ t,u=Value.float b t
 | .ref a,u=>u=Value.ref a
 | .ty n,u=>u=Value.type n
noncomputable abbrev Vals:List V->List Value->Prop:=Paired RelV
theorem Vals.length {xs:List V}{us:List Value}(r:Vals xs us):xs.length=us.length:=Paired.length r
theorem Vals.get:∀ {xs:List V} {us:List Value} {i:Nat} {x:V},Vals xs us->xs[i]? = some x->∃ u,us[i]? = some u∧RelV x u
 | _,_,_,_,.nil,e=>by simp at e
 | _,_,0,_,.cons r _,e=>by simp at e;subst e;exact ⟨_,rfl,r⟩
 | _,_,i+1,x,.cons _ t,e=>by
  obtain ⟨u,h1,h2⟩:=Vals.get (i:=i) (x:=x) t (by simpa using e)
  exact ⟨u,by simpa using h1,h2⟩
theorem Vals.set {x:V}{u:Value}(r:RelV x u):∀ {xs:List V} {us:List Value} (i:Nat),Vals xs us->Vals (xs.set i x) (us.set i u)
 | _,_,_,.nil=>.nil
 | _,_,0,.cons _ t=>.cons r t
 | _,_,i+1,.cons q t=>.cons q (Vals.set r i t)
theorem Vals.append:∀ {xs ys:List V} {us ws:List Value},Vals xs us->Vals ys ws->Vals (xs++ys) (us++ws)
 | _,_,_,_,.nil,s=>s
 | _,_,_,_,.cons r t,s=>.cons r (Vals.append t s)
theorem Vals.take:∀ {xs:List V} {us:List Value} (n:Nat),Vals xs us->Vals (xs.take n) (us.take n)
 | _,_,0,_=>.nil
 | _,_,_+1,.nil=>.nil
 | _,_,n+1,.cons r t=>.cons r (Vals.take n t)
theorem Vals.drop:∀ {xs:List V} {us:List Value} (n:Nat),Vals xs us->Vals (xs.drop n) (us.drop n)
 | _,_,0,r=>r
 | _,_,_+1,.nil=>.nil
 | _,_,n+1,.cons _ t=>Vals.drop n t
noncomputable def YE:Option V->Option Value->Prop
 | some v,some u=>RelV v u
 | none,none=>True
 | _,_=>False
noncomputable def KV {κ:Type}:List (κ×V)->List (κ×Value)->Prop:=Paired λ(p:κ×V) (q:κ×Value)=>p.1=q.1∧RelV p.2 q.2
noncomputable def kV:Key->V
 | .inl i=>.int i
 | .inr x=>.str x
inductive HO where
  | lst (xs:List V)
  | tup (xs:List V)
  | dK (kvs:List (Key×V))|dT (kvs:List (List Key×V))
  | set (S:Int->Bool) (n:Nat)
  | ins (C dx:Addr) (fs:List (Str×V))
  | own (x:Addr)
  | xd (fs:List (Str×V))
  | met (f x:Addr)
  | rng (lo hi:Int)
  | frz (o:Obj) (u:HO)
  | tbl (ps:Array Value)
  | ext (φ:Heap->Prop)
noncomputable abbrev Hp:=Addr->Option HO
noncomputable def upd (H:Hp)(a:Addr)(o:HO):Hp:=λb=>if b=a then some o else H b
theorem El {H:Hp}{a:Addr}{o:HO}:upd H a o a=some o:=by unfold upd;rw [if_pos rfl]
theorem CY {H:Hp}{a b:Addr}{o:HO}(h:b≠a):upd H a o b=H b:=by unfold upd;rw [if_neg h]
theorem CT {H:Hp}{a b:Addr}{o:HO}(h:H a=some o)(h':H b=none):a≠b:=by
 intro e;subst e;rw [h] at h';cases h'
section
variable (P:Program) (w:World)
noncomputable def ObjOk (H:Hp)(h:Heap)(a:Addr):HO->Prop
 | .lst xs=>xs.length≤sizeLine∧∃ (its:List Value) (n:Nat),Vals xs its∧h.get? a=some { cls:=.type "list",data:=.seq its.toArray n }
 | .tup xs=>(xs.length≤sizeLine∧∃ o,h.get? a=some o∧o.dict=none)∧∃ its:List Value,Vals xs its∧IsTup h a its.toArray
 | .dK kvs=>kvs.length≤sizeLine∧(a==sysModules)=false∧∃ vs,KV kvs vs∧h.DictOf (Qi P w) a vs
 | .dT kvs=>kvs.length≤sizeLine∧(a==sysModules)=false∧∃ xs:List (List Key×Addr×Value),
   Paired (λ(p:List Key×V) (q:List Key×Addr×Value)=>p.1=q.1∧H q.2.1=some (.tup (p.1.map kV))∧RelV p.2 q.2.2) kvs xs ∧
   ∃ o es ep,h.get? a=some o∧o.ExactDict∧o.data=.dict es ep∧es.toList=xs.map (entryOfKey (tupleKind (Qi P w)))∧(xs.map (·.1)).Nodup
 | .set S n=>h.SetOf (intKind P w) a S n
 | .ins C dx fs=>H dx=some (.own a)∧fs.length≤1000∧dx≠a∧h.get? a=some (PySem.W.instObj C dx) ∧
   ∃ mA,h.Ns1 dx mA∧(∀ f,YE (fs.lookup f) (mA f))∧PySem.Within mA (fs.map (·.1))
 | .own _=>∃ o,h.get? a=some o
 | .xd fs=>∃ mA,h.Ns1 a mA∧∀ f,YE (fs.lookup f) (mA f)
 | .rng lo hi=>∃ t u v,h.get? a=some { cls:=.type "range",data:=.fields #[.int lo t,.int hi u,.int 1 v] }
 | .frz o u=>h.get? a=some o∧ObjOk H h a u
 | .tbl ps=>h.get? a=some { cls:=.none,data:=.fields ps }
 | .met f x=>h.get? a=some (PySem.W.methodObj (.ref f) (.ref x))
 | .ext φ=>φ h∧(∃ o,h.get? a=some o)∧∀ h1 h2:Heap,φ h1->(∀ o,h1.get? a=some o->h2.get? a=some o)->φ h2
noncomputable def HOk (H:Hp)(h:Heap):Prop:=∀ a o,H a=some o->ObjOk P w H h a o
end
section
variable {P:Program} {w:World} {H H':Hp} {h h':Heap} {a:Addr} {o:HO}
theorem ObjOk.lt (x:ObjOk P w H h a o):a<h.objs.size:=by
 cases o with
 | lst xs=>obtain ⟨_,_,_,_,e⟩:=x;exact Aj e
 | tup xs=>obtain ⟨_,_,_,p⟩:=x;exact p.lt
 | dK kvs=>obtain ⟨_,_,_,_,o,_,_,e,_⟩:=x;exact Aj e
 | dT kvs=>obtain ⟨_,_,_,_,o,_,_,e,_⟩:=x;exact Aj e
 | set S n=>obtain ⟨o,_,_,_,e,_⟩:=x;exact Aj e
 | ins C dx fs=>obtain ⟨_,_,_,e,_⟩:=x;exact Aj e
 | own y=>obtain ⟨_,e⟩:=x;exact Aj e
 | xd fs=>obtain ⟨_,⟨_,_,_,e,_⟩,_⟩:=x;exact Aj e
 | rng lo hi=>obtain ⟨_,_,_,e⟩:=x;exact Aj e
 | frz ob u=>obtain ⟨e,_⟩:=x;exact Aj e
 | tbl ps=>exact Aj (show h.get? a=some _ from x)
 | met f y=>exact Aj (show h.get? a=some _ from x)
 | ext φ=>obtain ⟨_,⟨_,e⟩,_⟩:=x;exact Aj e
theorem Paired.mapP {α β:Type}{F G:α->β->Prop}:∀ {l₁:List α} {l₂:List β},Paired F l₁ l₂->(∀ a b,F a b->G a b)->Paired G l₁ l₂
 | _,_,.nil,_=>.nil
 | _,_,.cons r t,f=>.cons (f _ _ r) (Paired.mapP t f)
theorem ObjOk.stay (x:ObjOk P w H h a o)(k:∀ b u,(b=a∨H b=some (.own a))->h.get? b=some u->h'.get? b=some u)
  (ho:∀ b,H b=some (.own a)->H' b=some (.own a)) (ht:∀ b xs,H b=some (.tup xs)->H' b=some (.tup xs)):ObjOk P w H' h' a o:=by
 induction o with
 | lst xs=>obtain ⟨z,its,n,r,e⟩:=x;exact ⟨z,its,n,r,k _ _ (.inl rfl) e⟩
 | tup xs=>obtain ⟨⟨z,o1,z1,z2⟩,its,r,ob,e,c⟩:=x;exact ⟨⟨z,o1,k _ _ (.inl rfl) z1,z2⟩,its,r,ob,k _ _ (.inl rfl) e,c⟩
 | dK kvs=>obtain ⟨z,y,vs,r,ob,es,ep,e,c⟩:=x;exact ⟨z,y,vs,r,ob,es,ep,k _ _ (.inl rfl) e,c⟩
 | dT kvs =>
  obtain ⟨z,y,xs,r,ob,es,ep,e,c⟩:=x
  exact ⟨z,y,xs,Paired.mapP r λp q z=>⟨z.1,ht _ _ z.2.1,z.2.2⟩,ob,es,ep,k _ _ (.inl rfl) e,c⟩
 | set S n=>obtain ⟨ob,es,ep,t,e,c⟩:=x;exact ⟨ob,es,ep,t,k _ _ (.inl rfl) e,c⟩
 | ins C dx fs =>
  obtain ⟨d,z,ne,e,mA,⟨od,es,ep,e2,c⟩,r⟩:=x
  exact ⟨ho _ d,z,ne,k _ _ (.inl rfl) e,mA,⟨od,es,ep,k _ _ (.inr d) e2,c⟩,r⟩
 | own y=>obtain ⟨ob,e⟩:=x;exact ⟨ob,k _ _ (.inl rfl) e⟩
 | xd fs=>obtain ⟨mA,⟨od,es,ep,e,c⟩,r⟩:=x;exact ⟨mA,⟨od,es,ep,k _ _ (.inl rfl) e,c⟩,r⟩
 | rng lo hi=>obtain ⟨t,u,v,e⟩:=x;exact ⟨t,u,v,k _ _ (.inl rfl) e⟩
 | frz ob u ih=>obtain ⟨e,q⟩:=x;exact ⟨k _ _ (.inl rfl) e,ih q⟩
 | tbl ps =>
  have e:h.get? a=some { cls:=.none,data:=.fields ps }:=x
  show h'.get? a=some { cls:=.none,data:=.fields ps }
  exact k a _ (.inl rfl) e
 | met f y =>
  have e:h.get? a=some (PySem.W.methodObj (.ref f) (.ref y)):=x
  show h'.get? a=some (PySem.W.methodObj (.ref f) (.ref y))
  exact k a _ (.inl rfl) e
 | ext φ=>obtain ⟨p,⟨o,e⟩,st⟩:=x;exact ⟨st _ _ p λo q=>k _ _ (.inl rfl) q,⟨o,k _ _ (.inl rfl) e⟩,st⟩
theorem HOk.lt (x:HOk P w H h)(e:H a=some o):a<h.objs.size:=(x a o e).lt
theorem HOk.fresh (x:HOk P w H h)(e:h.objs.size≤a):H a=none:=by
 cases q:H a with
 | none=>rfl
 | some u=>exact absurd (Au (x.lt q) e) (A8 _)
theorem HOk.kept (x:HOk P w H h)(k:∀ b u,h.get? b=some u->h'.get? b=some u):HOk P w H h':=λa o e =>
 (x a o e).stay (λb u _ q=>k b u q) (λ_ q=>q) λ_ _ q=>q
theorem HOk.laid (x:HOk P w H h)(k:∀ b u,h.get? b=some u->h'.get? b=some u)(hp:h.objs.size≤a)(new:ObjOk P w (upd H a o) h' a o):HOk P w (upd H a o) h':=λb u e=>by
 have hn:=x.fresh hp
 by_cases hb:b=a
 ·subst hb;rw [El] at e;cases e;exact new
 ·rw [CY hb] at e
  exact (x b u e).stay (λc v _ q=>k c v q) (λc q=>by rw [CY (CT q hn)];exact q) λc xs q=>by rw [CY (CT q hn)];exact q
end
noncomputable def Rd (H:Hp)(a:Addr)(u:HO):Prop:=H a=some u∨∃ o,H a=some (.frz o u)
theorem Rd.ok {P:Program}{w:World}{H:Hp}{h:Heap}{a:Addr}{u:HO}(r:Rd H a u)(x:HOk P w H h):ObjOk P w H h a u:=by
 rcases r with r|⟨o,r⟩
 ·exact x a u r
 ·obtain ⟨_,q⟩:=x a _ r
  exact q
noncomputable def Mut:Option HO->Prop
 | some (.lst _)=>True
 | some (.dK _)=>True
 | some (.dT _)=>True
 | some (.set _ _)=>True
 | some (.ins _ _ _)=>True
 | some (.ext _)=>True
 | _=>False
section
variable {P:Program} {w:World} {H:Hp} {h h':Heap} {x e:Addr} {o':HO}
theorem HOk.write (ok:HOk P w H h)(mu:Mut (H x))(he:e=x∨H e=some (.own x))(k:∀ b u,b≠e->h.get? b=some u->h'.get? b=some u)(heo:∃ u,h'.get? e=some u)
  (new:ObjOk P w (upd H x o') h' x o'):HOk P w (upd H x o') h':=λb u q=>by
 have nown:∀ c y,H c=some (.own y)->c≠x:=λc y r z=>by subst z;rw [r] at mu;exact mu
 have ntup:∀ c xs,H c=some (.tup xs)->c≠x:=λc xs r z=>by subst z;rw [r] at mu;exact mu
 by_cases hb:b=x
 ·subst hb;rw [El] at q;cases q;exact new
 ·rw [CY hb] at q
  by_cases hbe:b=e
  ·have q':H b=some (.own x):=by
    rcases he with z|z
    ·exact absurd (hbe.trans z) hb
    ·rw [hbe];exact z
   rw [q] at q';cases q'
   obtain ⟨v,hv⟩:=heo
   exact ⟨v,by rw [hbe];exact hv⟩
  ·refine (ok b u q).stay (λc v hc r=>k c v ?_ r) (λc r=>by rw [CY (nown c b r)];exact r) λc xs r=>by rw [CY (ntup c xs r)];exact r
   rcases hc with rfl|hc
   ·exact hbe
   ·rintro rfl
    rcases he with z|z
    ·exact nown c b hc z
    ·rw [hc] at z;cases z;exact hb rfl
end
structure Un (fs ex:List Addr) (H H':Hp) (h h':Heap):Prop where
 keep:∀ b o,h.get? b=some o->H b=none->b∉fs->b∉ex->h'.get? b=some o
 slot:∀ b o,h.get? b=some o->H b=none->b∈fs->b∉ex->∃ sl,h'.get? b=some { o with slots:=sl }
 free:∀ b o,h.get? b=some o->H b=none->b∉ex->H' b=none
 there:∀ b o,h.get? b=some o->b∉ex->∃ o',h'.get? b=some o'
 tups:∀ b xs,H b=some (.tup xs)->H' b=some (.tup xs)
 frzs:∀ b o u,H b=some (.frz o u)->H' b=some (.frz o u)
 tbls:∀ b ps,H b=some (.tbl ps)->∃ more,H' b=some (.tbl (ps++more))
section
variable {fs fs' ex ex':List Addr} {H H1 H2:Hp} {h h1 h2 h':Heap} {a x e:Addr} {o:HO}
theorem Un.any (u:Un fs ex H H1 h h1){b:Addr}{ob:Obj}(q:h.get? b=some ob)(n:H b=none)(hx:b∉ex):∃ sl,h1.get? b=some { ob with slots:=sl }:=by
 by_cases hb:b∈fs
 ·exact u.slot b ob q n hb hx
 ·exact ⟨ob.slots,u.keep b ob q n hb hx⟩
theorem Un.kept (k:∀ b u,h.get? b=some u->h'.get? b=some u):Un fs ex H H h h':=
 ⟨λb ob q _ _ _=>k b ob q,λb ob q _ _ _=>⟨ob.slots,k b ob q⟩,λ_ _ _ n _=>n,λb ob q _=>⟨ob,k b ob q⟩,λ_ _ q=>q,λ_ _ _ q=>q,λ_ ps q=>⟨#[],by rw [q];simp⟩⟩
theorem Un.refl:Un fs ex H H h h:=Un.kept λ_ _ q=>q
theorem Un.laid (k:∀ b u,h.get? b=some u->h'.get? b=some u)(hp:h.objs.size≤a)(hn:H a=none):Un fs ex H (upd H a o) h h' where
 keep:=λb u q _ _ _=>k b u q
 slot:=λb u q _ _ _=>⟨u.slots,k b u q⟩
 free:=λb u q n _=>by rw [CY (Ap (Au (Aj q) hp))];exact n
 there:=λb u q _=>⟨u,k b u q⟩
 tups:=λb xs q=>by rw [CY (CT q hn)];exact q
 frzs:=λb u xs q=>by rw [CY (CT q hn)];exact q
 tbls:=λb ps q=>⟨#[],by rw [CY (CT q hn),q];simp⟩
theorem Un.write (mu:Mut (H x))(he:e=x∨H e=some (.own x))(k:∀ b u,b≠e->h.get? b=some u->h'.get? b=some u)(heo:∃ u,h'.get? e=some u):Un fs ex H (upd H x o) h h':=by
 have hx:∀ b,H b=none->b≠x:=λb n z=>by subst z;rw [n] at mu;exact mu
 have hb:∀ b,H b=none->b≠e:=λb n z=>by
  subst z
  rcases he with r|r
  ·exact hx b n r
  ·rw [n] at r;cases r
 have hm:∀ b u,H b=some u->¬ Mut (some u)->b≠x:=λb u q nm z=>by subst z;rw [q] at mu;exact nm mu
 refine ⟨λb u q n _ _=>k b u (hb b n) q,λb u q n _ _=>⟨u.slots,k b u (hb b n) q⟩,λb u q n _=>by rw [CY (hx b n)];exact n,λb u q _=>?_,
  λb xs q=>by rw [CY (hm b _ q λz=>z)];exact q,λb u xs q=>by rw [CY (hm b _ q λz=>z)];exact q,λb ps q=>⟨#[],by rw [CY (hm b _ q λz=>z),q];simp⟩⟩
 by_cases hbe:b=e
 ·subst hbe;exact heo
 ·exact ⟨u,k b u hbe q⟩
end
noncomputable def trk (h:Heap)(H:Hp):List Addr:=(List.range h.objs.size).filter λa=>(H a).isSome
noncomputable def MM (h:Heap)(H:Hp):Heap:=PySem.W.hideAll h (trk h H)
theorem QV (h:Heap)(H:Hp):(MM h H).objs.size=h.objs.size:=PySem.W.hideAll_size _ _
theorem Tp {h:Heap}{H:Hp}{b:Addr}{o:Obj}(e:h.get? b=some o)(n:H b=none):(MM h H).get? b=some o:=
 PySem.W.hideAll_get _ e λhm=>by
  have q:(H b).isSome=true:=(List.mem_filter.mp hm).2
  rw [n] at q;simp at q
theorem VV {h:Heap}{H:Hp}{b:Addr}{o:Obj}(e:(MM h H).get? b=some o):h.get? b=some o∧H b=none:=by
 have e':h.get? b=some o:=PySem.W.of_hideAll (trk h H) e
 refine ⟨e',?_⟩
 cases q:H b with
 | none=>rfl
 | some x =>
  have hm:b∈trk h H:=List.mem_filter.mpr ⟨BN.mpr (Aj e'),by simp [q]⟩
  have z:(MM h H).get? b=none:=PySem.W.hideAll_none (trk h H) hm
  rw [z] at e;cases e
noncomputable def VF (g h:Heap)(L:Addr):List (Addr×Obj):=(List.range h.objs.size).filterMap λa=>if a=L∨(g.get? a).isSome=true then none else (h.get? a).map λo=>(a,o)
noncomputable def rest (g h:Heap)(L d:Addr):List (Addr×Obj):=(VF g h L).filter λp=>decide (p.1≠d)
structure Mod (K:PySem.W.Frag) (mg:Str->Option Value) (base:Heap):Prop where
 kin:K.In base
 glob:base.Ns mainGlobals mg
 blt:∃ mb,base.Ns builtinsNs mb∧∀ x:Str,x≠"__name__"->mb x=bootBuiltins x
 nolimit:base.NoLimit
structure Cx where
 prog:Program
 w:World
 K:PySem.W.Frag
 mg:Str->Option Value
 base:Heap
 A:Around
 N:List Str
 s₀:Shared
 H₀:Hp
 env:Env
 outer:List Env
 stack:List Env
 ex:List Addr
 fn:Str->Bool
 calm:Bool
 pn:List (Addr×Obj)
 xe:Value->Shared->Prop
noncomputable def frs (l:List Env):List Addr:=l.filterMap (·.frame)
noncomputable abbrev Cx.fs (X:Cx):List Addr:=frs X.outer
noncomputable def Vis (sc:Scope)(x:Str):Prop:=sc.names.lookup x=some .local∨sc.names.lookup x=some .cell∨sc.names.lookup x=some .free
noncomputable def Loc (sc:Scope)(x:Str):Prop:=sc.names.lookup x=some .local∨sc.names.lookup x=some .cell
noncomputable def Look (env:Env)(h:Heap)(m:Str->Option Value)(x:Str)(u:Value):Prop:=
 (env.kindOf x=some .local∧m x=some u)∨((env.kindOf x=some .cell∨env.kindOf x=some .free)∧∃ c,env.cells.lookup x=some c∧h.IsCell c (some u))
structure Cx.Ok (X:Cx):Prop where
 mod:Mod X.K X.mg X.base
 kind:X.env.scope.kind=.function
 glob:X.env.globals=mainGlobals
 blt:X.env.builtins=builtinsNs
 above:X.s₀.heap.objs.size≤X.env.locals
 inj:∀ x y c,X.env.cells.lookup x=some c->X.env.cells.lookup y=some c->x=y
 has:∀ x,(X.env.kindOf x=some .cell∨X.env.kindOf x=some .free)->∃ c,X.env.cells.lookup x=some c
 cab:∀ x c,X.fn x=true->X.env.cells.lookup x=some c->X.s₀.heap.objs.size≤c
 hd:X.calm=true->X.A.handled=none
 frames:X.A.frames=some X.stack
 stk:X.stack=X.outer∨(X.stack=X.env::X.outer∧X.env.frame=some X.env.locals)
 exf:∀ b∈X.ex,b≠X.env.locals∧∀ x c,X.env.cells.lookup x=some c->c≠b
 bs:∀ b o,X.base.get? b=some o->X.s₀.heap.get? b=some o∧X.H₀ b=none
 bsz:X.base.objs.size≤X.s₀.heap.objs.size
 noex:∀ b o,X.base.get? b=some o->b∉X.ex
 exfs:∀ b∈X.ex,b∉X.fs
 funs:X.s₀.heap.FunFrames X.base X.outer
 frf:∀ b∈X.fs,X.H₀ b=none
structure Inv (X:Cx) (pins:List (Addr×Obj)) (σ:List (Option V)) (H:Hp) (s:Shared):Prop where
 ok:X.Ok
 os:s.os=X.s₀.os
 bare:AllBare s.gens
 base:Un X.fs X.ex X.H₀ H X.s₀.heap s.heap
 loc:∃ m,s.heap.Ns X.env.locals m∧∀ (i:Nat) (x:Str) (v:V),X.N[i]? = some x->σ[i]? = some (some v)->Vis X.env.scope x->∃ u,RelV v u∧Look X.env s.heap m x u
 cell:∀ x c,X.env.cells.lookup x=some c->∃ v,s.heap.IsCell c v
 free:H X.env.locals=none
 freeC:∀ x c,X.env.cells.lookup x=some c->H c=none
 pin:∀ p∈X.pn++pins,s.heap.get? p.1=some p.2∧H p.1=none∧p.1≠X.env.locals∧p.1∉X.fs∧∀ v,p.2.data≠.cell v
 hok:HOk X.prog X.w H s.heap
 len:σ.length=X.N.length
section
variable {X:Cx} {pins:List (Addr×Obj)} {σ:List (Option V)} {H H':Hp} {s:Shared} {h':Heap}
theorem Cx.Ok.nofr (ok:X.Ok){b:Addr}{o:Obj}(e:X.base.get? b=some o):b∉X.fs:=λhb=>by
 have:=(ok.funs.mem hb).1
 rw [e] at this;cases this
theorem Inv.bs (I:Inv X pins σ H s):∀ b o,X.base.get? b=some o->s.heap.get? b=some o∧H b=none:=λb o e =>
 ⟨I.base.keep b o (I.ok.bs b o e).1 (I.ok.bs b o e).2 (I.ok.nofr e) (I.ok.noex b o e),I.base.free b o (I.ok.bs b o e).1 (I.ok.bs b o e).2 (I.ok.noex b o e)⟩
theorem Inv.bk (I:Inv X pins σ H s):∀ b o,X.base.get? b=some o->s.heap.get? b=some o:=λb o e=>(I.bs b o e).1
theorem Inv.mod (I:Inv X pins σ H s):Mod X.K X.mg X.base:=I.ok.mod
theorem Inv.kIn (I:Inv X pins σ H s):X.K.In s.heap:=I.ok.mod.kin.keeps I.bk
theorem Inv.fr (I:Inv X pins σ H s):∃ m,Fr X.base X.env.locals s.heap m:=
 let ⟨m,hn,_⟩:=I.loc
 ⟨m,hn,I.bk,AA I.ok.bsz I.ok.above⟩
theorem Inv.lt (I:Inv X pins σ H s):X.env.locals<s.heap.objs.size:=let ⟨_,hn,_⟩:=I.loc;hn.lt
theorem Inv.sz (I:Inv X pins σ H s):X.s₀.heap.objs.size≤s.heap.objs.size:=AA I.ok.above (Nat.le_of_lt I.lt)
theorem Inv.nofs (I:Inv X pins σ H s){a:Addr}(h:s.heap.objs.size≤a):a∉X.fs:=λhb=>by
 obtain ⟨_,o,ho,_⟩:=I.ok.funs.mem hb
 exact absurd (Au (Aj ho) (AA I.sz h)) (A8 _)
theorem Inv.cne (I:Inv X pins σ H s):∀ x c,X.env.cells.lookup x=some c->c≠X.env.locals:=λx c e z=>by
 obtain ⟨v,o,ho,hd⟩:=I.cell x c e
 obtain ⟨m,⟨o',es,ep,ho',hd',_⟩,_⟩:=I.loc
 rw [z,ho'] at ho;cases ho;rw [hd'] at hd;cases hd
theorem Inv.funs (I:Inv X pins σ H s):s.heap.FunFrames X.base X.outer:=by
 have all:∀ (l:List Env),(∀ b∈frs l,b∈X.fs)->X.s₀.heap.FunFrames X.base l->s.heap.FunFrames X.base l:=by
  intro l
  induction l with
  | nil=>intro _ _;trivial
  | cons env r ih =>
   intro hs hl
   obtain ⟨hk,⟨L,o,hf,hn,ho,hd⟩,hr⟩:=hl
   have hL:L∈X.fs:=hs L (by unfold frs;rw [List.filterMap_cons,hf];exact List.mem_cons_self)
   obtain ⟨sl,e⟩:=I.base.slot L o ho (I.ok.frf L hL) hL λz=>I.ok.exfs L z hL
   exact ⟨hk,⟨L,_,hf,hn,e,hd⟩,ih (λb hb=>hs b (by unfold frs;rw [List.filterMap_cons,hf];exact Bq _ hb)) hr⟩
 exact all X.outer (λ_ hb=>hb) I.ok.funs
theorem Inv.stack (I:Inv X pins σ H s):s.heap.FunFrames X.base X.stack:=by
 rcases I.ok.stk with e|⟨e,hf⟩
 ·rw [e];exact I.funs
 ·rw [e]
  obtain ⟨m,hn,_⟩:=I.loc
  refine .cons (by rw [I.ok.kind];decide) hf hn ?_ I.funs
  exact Heap.get?_none_of_le (AA I.ok.bsz I.ok.above)
theorem Inv.stkSub (I:Inv X pins σ H s):∀ b∈frs X.stack,b∈X.env.locals::X.fs:=λb hb=>by
 rcases I.ok.stk with e|⟨e,hf⟩
 ·rw [e] at hb;exact Bq _ hb
 ·rw [e] at hb
  unfold frs at hb
  rw [List.filterMap_cons,hf] at hb
  exact hb
theorem Inv.stkFree (I:Inv X pins σ H s):∀ b∈frs X.stack,H b=none:=λb hb=>by
 rcases Am.mp (I.stkSub b hb) with e|hb
 ·rw [e];exact I.free
 ·obtain ⟨_,o,ho,_⟩:=I.ok.funs.mem hb
  exact I.base.free b o ho (I.ok.frf b hb) λz=>I.ok.exfs b z hb
theorem Inv.step {g':Array GenState}{t':Nat}{d':Drawn}{ch:List Addr}(I:Inv X pins σ H s)
  (hch:∀ b∈ch,(b∈X.ex∨X.s₀.heap.objs.size≤b)∧b≠X.env.locals∧(∀ x c,X.env.cells.lookup x=some c->c≠b)∧∀ p∈X.pn++pins,p.1≠b)
  (keep:∀ b o,b≠X.env.locals->b∉X.fs->b∉ch->s.heap.get? b=some o->H b=none->h'.get? b=some o)
  (slot:∀ b o,b≠X.env.locals->b∈X.fs->b∉ch->s.heap.get? b=some o->H b=none->∃ sl,h'.get? b=some { o with slots:=sl }) (free:∀ b o,b∉ch->s.heap.get? b=some o->H b=none->H' b=none)
  (there:∀ b o,b∉ch->s.heap.get? b=some o->∃ o',h'.get? b=some o')
  (tups:∀ b xs,H b=some (.tup xs)->H' b=some (.tup xs)) (frzs:∀ b o u,H b=some (.frz o u)->H' b=some (.frz o u)) (tbls:∀ b ps,H b=some (.tbl ps)->∃ more,H' b=some (.tbl (ps++more)))
  (ns:∀ m,s.heap.Ns X.env.locals m->h'.Ns X.env.locals m) (hok:HOk X.prog X.w H' h') (hg:AllBare g') :
  Inv X pins σ H' { s with heap:=h',gens:=g',drawn:=d',toks:=t' }:=by
 have neL:∀ b o,X.s₀.heap.get? b=some o->b≠X.env.locals:=λb o e=>Ap (Au (Aj e) I.ok.above)
 have neC:∀ b o,X.s₀.heap.get? b=some o->b∉X.ex->b∉ch:=λb o e hx hb=>by
  rcases (hch b hb).1 with z|z
  ·exact hx z
  ·exact absurd (Au (Aj e) z) (A8 _)
 have cellK:∀ x c,X.env.cells.lookup x=some c->∀ v,s.heap.IsCell c v->h'.IsCell c v:=λx c e v ⟨o,ho,hd⟩=>by
  have nch:c∉ch:=λz=>(hch c z).2.2.1 x c e rfl
  by_cases hc:c∈X.fs
  ·obtain ⟨sl,q⟩:=slot c o (I.cne x c e) hc nch ho (I.freeC x c e)
   exact ⟨_,q,hd⟩
  ·exact ⟨o,keep c o (I.cne x c e) hc nch ho (I.freeC x c e),hd⟩
 refine ⟨I.ok,I.os,hg,⟨λb o e n hb hx=>?_,λb o e n hb hx=>?_,λb o e n hx=>?_,λb o e hx=>?_,λb xs e=>tups b xs (I.base.tups b xs e),λb o xs e=>frzs b o xs (I.base.frzs b o xs e),λb ps e=>?_⟩,?_,λx c e=>?_,?_,λx c e=>?_,λp hp=>?_,hok,I.len⟩
 ·exact keep b o (neL b o e) hb (neC b o e hx) (I.base.keep b o e n hb hx) (I.base.free b o e n hx)
 ·obtain ⟨sl,e1⟩:=I.base.slot b o e n hb hx
  obtain ⟨sl',e2⟩:=slot b _ (neL b o e) hb (neC b o e hx) e1 (I.base.free b o e n hx)
  exact ⟨sl',e2⟩
 ·obtain ⟨o',e1⟩:=I.base.there b o e hx
  exact free b o' (neC b o e hx) e1 (I.base.free b o e n hx)
 ·obtain ⟨o',e1⟩:=I.base.there b o e hx
  exact there b o' (neC b o e hx) e1
 ·obtain ⟨m1,e1⟩:=I.base.tbls b ps e
  obtain ⟨m2,e2⟩:=tbls b _ e1
  exact ⟨m1++m2,by rw [e2,Array.append_assoc]⟩
 ·obtain ⟨m,hn,hl⟩:=I.loc
  refine ⟨m,ns m hn,λi x v e1 e2 e3=>?_⟩
  obtain ⟨u,r,l⟩:=hl i x v e1 e2 e3
  refine ⟨u,r,?_⟩
  rcases l with l|⟨k,c,e,z⟩
  ·exact .inl l
  ·exact .inr ⟨k,c,e,cellK x c e _ z⟩
 ·obtain ⟨v,z⟩:=I.cell x c e
  exact ⟨v,cellK x c e v z⟩
 ·obtain ⟨m,⟨o,_,_,ho,_⟩,_⟩:=I.loc
  exact free _ o (λz=>(hch _ z).2.1 rfl) ho I.free
 ·obtain ⟨v,o,ho,hd⟩:=I.cell x c e
  exact free c o (λz=>(hch c z).2.2.1 x c e rfl) ho (I.freeC x c e)
 ·obtain ⟨e,n,ne,nf,d⟩:=I.pin p hp
  have nch:p.1∉ch:=λz=>(hch p.1 z).2.2.2 p hp rfl
  exact ⟨keep p.1 p.2 ne nf nch e n,free p.1 p.2 nch e n,ne,nf,d⟩
theorem Inv.un {t':Nat}(I:Inv X pins σ H s)(u:Un X.fs [] H H' s.heap h')(hok:HOk X.prog X.w H' h'):Inv X pins σ H' { s with heap:=h',toks:=t' }:=by
 obtain ⟨m,⟨o,es,ep,ho,r⟩,_⟩:=id I.loc
 obtain ⟨sl,hL⟩:=u.any ho I.free (by simp)
 exact I.step (g':=s.gens) (d':=s.drawn) (ch:=[]) (λ_ z=>nomatch z) (λb o _ hb _ e n=>u.keep b o e n hb (by simp)) (λb o _ hb _ e n=>u.slot b o e n hb (by simp)) (λb o _ e n=>u.free b o e n (by simp)) (λb o _ e=>u.there b o e (by simp)) u.tups u.frzs u.tbls (λm' hm=>by
  obtain ⟨o',es',ep',ho',r'⟩:=hm
  rw [ho] at ho';cases ho'
  exact ⟨_,es',ep',hL,r'⟩) hok I.bare
theorem Inv.call {g':Array GenState}{t':Nat}{d':Drawn}{ch:List Addr}(I:Inv X pins σ H s)(u:Un (frs X.stack) ch H H' s.heap h')(hok:HOk X.prog X.w H' h')(hg:AllBare g')
  (hch:∀ b∈ch,(b∈X.ex∨X.s₀.heap.objs.size≤b)∧b≠X.env.locals∧(∀ x c,X.env.cells.lookup x=some c->c≠b)∧∀ p∈X.pn++pins,p.1≠b) :
  Inv X pins σ H' { s with heap:=h',gens:=g',drawn:=d',toks:=t' }:=by
 obtain ⟨m,⟨o,es,ep,ho,r⟩,_⟩:=id I.loc
 obtain ⟨sl,hL⟩:=u.any ho I.free λz=>(hch _ z).2.1 rfl
 exact I.step (ch:=ch) hch (λb o hL hb hc e n=>u.keep b o e n (λz=>(Am.mp (I.stkSub b z)).elim hL hb) hc) (λb o _ _ hc e n=>u.any e n hc) (λb o hc e n=>u.free b o e n hc) (λb o hc e=>u.there b o e hc) u.tups u.frzs u.tbls (λm' hm=>by
  obtain ⟨o',es',ep',ho',r'⟩:=hm
  rw [ho] at ho';cases ho'
  exact ⟨_,es',ep',hL,r'⟩) hok hg
theorem Inv.turned {t':Nat}{it:Addr}(I:Inv X pins σ H s)(k:∀ b o,b≠it->s.heap.get? b=some o->h'.get? b=some o)(hn:H it=none)(hL:it≠X.env.locals)
  (h1:it∈X.ex∨X.s₀.heap.objs.size≤it) (h2:∀ x c,X.env.cells.lookup x=some c->c≠it) (h3:∀ p∈X.pn++pins,p.1≠it):Inv X pins σ H { s with heap:=h',toks:=t' }:=by
 have nit:∀ b u,H b=some u->b≠it:=λb u e z=>by rw [z,hn] at e;cases e
 refine I.step (g':=s.gens) (d':=s.drawn) (ch:=[it]) (λb hb=>?_) (λb o _ _ hc e _=>k b o (λz=>hc (by simp [z])) e) (λb o _ _ hc e _=>⟨o.slots,k b o (λz=>hc (by simp [z])) e⟩) (λ_ _ _ _ n=>n)
  (λb o hc e=>⟨o,k b o (λz=>hc (by simp [z])) e⟩) (λ_ _ e=>e) (λ_ _ _ e=>e) (λb ps e=>⟨#[],by rw [e];simp⟩) (λm hm=>?_) (λb u e=>?_) I.bare
 ·have e:b=it:=by simpa using hb
  subst e
  exact ⟨h1,hL,h2,h3⟩
 ·obtain ⟨o,es,ep,ho,r⟩:=hm
  exact ⟨o,es,ep,k _ o (Ne.symm hL) ho,r⟩
 ·refine (I.hok b u e).stay (λc v hc q=>k c v ?_ q) (λ_ q=>q) λ_ _ q=>q
  rcases hc with z|z
  ·rw [z];exact nit b u e
  ·exact nit c _ z
theorem Inv.tok (I:Inv X pins σ H s)(t:Nat):Inv X pins σ H { s with toks:=t }:=I.un (h':=s.heap) (t':=t) Un.refl I.hok
theorem Inv.kept {t':Nat}(I:Inv X pins σ H s)(k:∀ b u,s.heap.get? b=some u->h'.get? b=some u):Inv X pins σ H { s with heap:=h',toks:=t' }:=I.un (Un.kept k) (I.hok.kept k)
theorem Inv.laid {a:Addr}{o:HO}{t':Nat}(I:Inv X pins σ H s)(k:∀ b u,s.heap.get? b=some u->h'.get? b=some u)(hp:s.heap.objs.size≤a)(new:ObjOk X.prog X.w (upd H a o) h' a o) :
  Inv X pins σ (upd H a o) { s with heap:=h',toks:=t' }:=I.un (Un.laid k hp (I.hok.fresh hp)) (I.hok.laid k hp new)
theorem Inv.write {x e:Addr}{o:HO}{t':Nat}(I:Inv X pins σ H s)(mu:Mut (H x))(he:e=x∨H e=some (.own x))(k:∀ b u,b≠e->s.heap.get? b=some u->h'.get? b=some u)(heo:∃ u,h'.get? e=some u)
  (new:ObjOk X.prog X.w (upd H x o) h' x o):Inv X pins σ (upd H x o) { s with heap:=h',toks:=t' }:=I.un (Un.write mu he k heo) (I.hok.write mu he k heo new)
theorem Inv.pins_of {pins':List (Addr×Obj)}(I:Inv X pins σ H s)(h:∀ p∈pins',s.heap.get? p.1=some p.2∧H p.1=none∧p.1≠X.env.locals∧p.1∉X.fs∧∀ v,p.2.data≠.cell v):Inv X pins' σ H s:=
 ⟨I.ok,I.os,I.bare,I.base,I.loc,I.cell,I.free,I.freeC,λp hp=>(AR.mp hp).elim (λz=>I.pin p (A3 _ z)) (h p),I.hok,I.len⟩
theorem Ox {N:List Str}(hN:N.Nodup){i j:Nat}{x:Str}(a:N[i]? = some x)(b:N[j]? = some x):i=j:=by
 obtain ⟨h1,e1⟩:=Af.mp a
 obtain ⟨h2,e2⟩:=Af.mp b
 exact (List.getElem_inj hN).mp (e1.trans e2.symm)
theorem Ra {M:Model}{A:Around}{E:Value->Shared->Prop}{i:Nat}{x:Str}{v:V}{u:Value}{Q:Unit->Shared->Prop}(I:Inv X pins σ H s)(hN:X.N.Nodup)(hi:X.N[i]? = some x)(hx:Loc X.env.scope x)(r:RelV v u)
  (h:∀ s',Inv X pins (σ.set i (some v)) H s'->(∃ a,Heap.SameBut a s.heap s'.heap∧(a=X.env.locals∨X.env.cells.lookup x=some a))->Q () s') (hf:X.fn x=true∨X.env.scope.names.lookup x=some .local:=by first|exact .inl rfl|exact .inr rfl|assumption):wpAny M A (storeName X.env x u) Q E s:=by
 obtain ⟨m,hn,hl⟩:=id I.loc
 have hcls:(X.env.scope.kind==.class||(X.env.scope.kind==.module&&X.env.locals != X.env.globals))=false:=by rw [I.ok.kind];rfl
 have hiσ:i<σ.length:=by rw [I.len];exact (Af.mp hi).1
 have cne:=I.cne
 have tracked:∀ {a:Addr} {h':Heap},(∃ o,s.heap.get? a=some o∧H a=none)->Heap.SameBut a s.heap h'->HOk X.prog X.w H h':=λ{a h'} ha hs b ob e=>by
  obtain ⟨_,_,hfree⟩:=ha
  refine (I.hok b ob e).stay (λc w' hc q=>(hs.2 c ?_).trans q) (λ_ q=>q) λ_ _ q=>q
  rintro rfl
  rcases hc with rfl|hc
  ·rw [hfree] at e;cases e
  ·rw [hfree] at hc;cases hc
 rcases hx with hk|hk
 ·refine wpAny_storeName_local hk hn (λh' hn' hs=>?_) hcls
  obtain ⟨oL,_,_,hoL,_⟩:=id hn
  refine h _ ⟨I.ok,I.os,I.bare,⟨λb o e n hb hx=>?_,λb o e n hb hx=>?_,I.base.free,λb o e hx=>?_,I.base.tups,I.base.frzs,I.base.tbls⟩,⟨_,hn',λj y v' e1 e2 e3=>?_⟩,λy c e=>?_,I.free,I.freeC,λp hp=>?_,tracked ⟨oL,hoL,I.free⟩ hs,by simpa using I.len⟩ ⟨_,hs,.inl rfl⟩
  ·exact (hs.2 b (Ap (Au (Aj e) I.ok.above))).trans (I.base.keep b o e n hb hx)
  ·obtain ⟨sl,e1⟩:=I.base.slot b o e n hb hx
   exact ⟨sl,(hs.2 b (Ap (Au (Aj e) I.ok.above))).trans e1⟩
  ·obtain ⟨o',e1⟩:=I.base.there b o e hx
   exact ⟨o',(hs.2 b (Ap (Au (Aj e) I.ok.above))).trans e1⟩
  ·by_cases hj:j=i
   ·subst hj
    rw [hi] at e1;cases e1
    rw [BD hiσ] at e2
    cases e2
    exact ⟨u,r,.inl ⟨hk,by simp⟩⟩
   ·rw [AG (Ne.symm hj)] at e2
    obtain ⟨u',r',q⟩:=hl j y v' e1 e2 e3
    refine ⟨u',r',?_⟩
    rcases q with ⟨k,e⟩|⟨k,c,e,z⟩
    ·refine .inl ⟨k,?_⟩
     have:y≠x:=λe=>hj (Ox hN e1 (e▸hi))
     simp [this,e]
    ·exact .inr ⟨k,c,e,z.sameBut hs (cne y c e)⟩
  ·obtain ⟨w',z⟩:=I.cell y c e
   exact ⟨w',z.sameBut hs (cne y c e)⟩
  ·obtain ⟨e,n,ne,nf,d⟩:=I.pin p hp
   exact ⟨(hs.2 p.1 ne).trans e,n,ne,nf,d⟩
 ·have hfn:X.fn x=true:=by
   rcases hf with z|z
   ·exact z
   ·rw [z] at hk;cases hk
  obtain ⟨c,hc⟩:=I.ok.has x (.inl hk)
  obtain ⟨w',z⟩:=I.cell x c hc
  refine wpAny_storeName_cell I.ok.kind hk hc z (λh' hc' hs=>?_)
  obtain ⟨oc,hoc,hocd⟩:=id z
  refine h { s with heap:=h' } ⟨I.ok,I.os,I.bare,⟨λb o e n hb hx=>?_,λb o e n hb hx=>?_,I.base.free,λb o e hx=>?_,I.base.tups,I.base.frzs,I.base.tbls⟩,⟨m,hn.sameBut hs (Ne.symm (cne x c hc)),λj y v' e1 e2 e3=>?_⟩,λy c' e=>?_,I.free,I.freeC,λp hp=>?_,tracked ⟨oc,hoc,I.freeC x c hc⟩ hs,by simpa using I.len⟩ ⟨c,hs,.inr hc⟩
  ·exact (hs.2 b (Ap (Au (Aj e) (I.ok.cab x c hfn hc)))).trans (I.base.keep b o e n hb hx)
  ·obtain ⟨sl,e1⟩:=I.base.slot b o e n hb hx
   exact ⟨sl,(hs.2 b (Ap (Au (Aj e) (I.ok.cab x c hfn hc)))).trans e1⟩
  ·obtain ⟨o',e1⟩:=I.base.there b o e hx
   exact ⟨o',(hs.2 b (Ap (Au (Aj e) (I.ok.cab x c hfn hc)))).trans e1⟩
  ·by_cases hj:j=i
   ·subst hj
    rw [hi] at e1;cases e1
    rw [BD hiσ] at e2
    cases e2
    exact ⟨u,r,.inr ⟨.inl hk,c,hc,hc'⟩⟩
   ·rw [AG (Ne.symm hj)] at e2
    obtain ⟨u',r',q⟩:=hl j y v' e1 e2 e3
    refine ⟨u',r',?_⟩
    rcases q with q|⟨k,c',e,z'⟩
    ·exact .inl q
    ·refine .inr ⟨k,c',e,z'.sameBut hs ?_⟩
     rintro rfl
     exact hj (Ox hN e1 (I.ok.inj _ _ _ e hc▸hi))
  ·by_cases hcc:c'=c
   ·subst hcc;exact ⟨_,hc'⟩
   ·obtain ⟨w2,z2⟩:=I.cell y c' e
    exact ⟨w2,z2.sameBut hs hcc⟩
  ·obtain ⟨e,n,ne,nf,d⟩:=I.pin p hp
   refine ⟨(hs.2 p.1 ?_).trans e,n,ne,nf,d⟩
   intro q
   rw [q,hoc] at e
   have q':oc=p.2:=AE e
   exact d w' (by rw [← q'];exact hocd)
theorem G1 {M:Model}{A:Around}{E:Value->Shared->Prop}{i:Nat}{x:Str}{v:V}{u:Value}{Q:Unit->Shared->Prop}(I:Inv X pins σ H s)(hN:X.N.Nodup)(hi:X.N[i]? = some x)(hx:Loc X.env.scope x)(r:RelV v u)
  (h:∀ s',Inv X pins (σ.set i (some v)) H s'->Q () s') (hf:X.fn x=true∨X.env.scope.names.lookup x=some .local:=by first|exact .inl rfl|exact .inr rfl|assumption):wpAny M A (storeName X.env x u) Q E s:=
 Ra I hN hi hx r (λs' I' _=>h s' I') hf
theorem Inv.call' {s':Shared}{ch:List Addr}(I:Inv X pins σ H s)(ho:s'.os=s.os)(u:Un (frs X.stack) ch H H' s.heap s'.heap)(hok:HOk X.prog X.w H' s'.heap)(hg:AllBare s'.gens)
  (hch:∀ b∈ch,(b∈X.ex∨X.s₀.heap.objs.size≤b)∧b≠X.env.locals∧(∀ x c,X.env.cells.lookup x=some c->c≠b)∧∀ p∈X.pn++pins,p.1≠b):Inv X pins σ H' s':=by
 obtain ⟨h',g',d',t',o'⟩:=s'
 have e:o'=s.os:=ho
 subst e
 exact I.call (g':=g') (t':=t') (d':=d') u hok hg hch
end
noncomputable abbrev XK:=Value->Option Addr->Hp->Prop
noncomputable abbrev St:=List (Option V)
noncomputable abbrev VK:=V->Hp->Prop
noncomputable abbrev TE:=St->Hp->VK->Prop
noncomputable abbrev TT:=St->Hp->(Bool->Hp->Prop)->Prop
noncomputable abbrev TA:=St->Hp->(List V->Hp->Prop)->Prop
structure Ends where
 nx:St->Hp->Prop
 rt:VK
 bk:St->Hp->Prop:=λ_ _=>False
 ct:St->Hp->Prop:=λ_ _=>False
noncomputable abbrev TS:=Ends->St->Hp->Prop
noncomputable def EP (X:Cx)(pins:List (Addr×Obj))(σ:St)(Q:VK)(u:Value)(s':Shared):Prop:=∃ v H',Inv X pins σ H' s'∧RelV v u∧Q v H'
noncomputable def TP (X:Cx)(pins:List (Addr×Obj))(σ:St)(Q:Bool->Hp->Prop)(b:Bool)(s':Shared):Prop:=∃ H',Inv X pins σ H' s'∧Q b H'
noncomputable def AP (X:Cx)(pins:List (Addr×Obj))(σ:St)(Q:List V->Hp->Prop)(us:List Value)(s':Shared):Prop:=∃ vs H',Inv X pins σ H' s'∧Vals vs us∧Q vs H'
noncomputable def SP (X:Cx)(pins:List (Addr×Obj))(D:Ends)(f:Flow)(s':Shared):Prop:=
 match f with
 | .next=>∃ σ' H',Inv X pins σ' H' s'∧D.nx σ' H'
 | .brk=>∃ σ' H',Inv X pins σ' H' s'∧D.bk σ' H'
 | .cont=>∃ σ' H',Inv X pins σ' H' s'∧D.ct σ' H'
 | .ret u=>∃ v σ' H',Inv X pins σ' H' s'∧RelV v u∧D.rt v H'
noncomputable def PE (X:Cx)(e:Expr)(t:TE):Prop:=
 ∀ (pins:List (Addr×Obj)) (s:Shared) (σ:St) (H:Hp) (Q:VK),Inv X pins σ H s->t σ H Q->wpAny (model X.prog X.w) X.A (eval e X.env) (EP X pins σ Q) X.xe s
noncomputable def PT (X:Cx)(e:Expr)(t:TT):Prop:=
 ∀ (pins:List (Addr×Obj)) (s:Shared) (σ:St) (H:Hp) (Q:Bool->Hp->Prop),Inv X pins σ H s->t σ H Q->wpAny (model X.prog X.w) X.A (isTrue e X.env (eval e X.env)) (TP X pins σ Q) X.xe s
noncomputable def PW (X:Cx)(e:Expr)(t:TT):Prop:=
 ∀ (whole:Sem Value) (pins:List (Addr×Obj)) (s:Shared) (σ:St) (H:Hp) (Q:Bool->Hp->Prop),Inv X pins σ H s->t σ H Q->wpAny (model X.prog X.w) X.A (isTrue e X.env whole) (TP X pins σ Q) X.xe s
theorem PW.pt {X:Cx}{e:Expr}{t:TT}(h:PW X e t):PT X e t:=h _
noncomputable def PA (X:Cx)(es:List Expr)(t:TA):Prop:=
 ∀ (pos:Pos) (pins:List (Addr×Obj)) (s:Shared) (σ:St) (H:Hp) (Q:List V->Hp->Prop),Inv X pins σ H s->t σ H Q->wpAny (model X.prog X.w) X.A (spliced (backTo pos (starEach es X.env))) (AP X pins σ Q) X.xe s
noncomputable def PS (X:Cx)(st:Stmt)(t:TS):Prop:=
 ∀ (pins:List (Addr×Obj)) (s:Shared) (σ:St) (H:Hp) (D:Ends),Inv X pins σ H s->t D σ H->wpAny (model X.prog X.w) X.A (exec st X.env) (SP X pins D) X.xe s
noncomputable def PSs (X:Cx)(st:List Stmt)(t:TS):Prop:=
 ∀ (pins:List (Addr×Obj)) (s:Shared) (σ:St) (H:Hp) (D:Ends),Inv X pins σ H s->t D σ H->wpAny (model X.prog X.w) X.A (execs st X.env) (SP X pins D) X.xe s
theorem thn {α:Type}{t:Sem α}{Q Q':α->Shared->Prop}{M:Model}{A:Around}{E:Value->Shared->Prop}{s:Shared}(h:wpAny M A t Q E s)(hQ:∀ a s,Q a s->Q' a s):wpAny M A t Q' E s:=BS h hQ λ_ _ x=>x
section
variable {X:Cx}
noncomputable def Aac (i:Nat):TE:=fun σ H Q=>∃ v,σ[i]? = some (some v)∧Q v H
noncomputable def tC (v:V):TE:=λ_ H Q=>Q v H
theorem RR {i:Nat}{x:Str}{pos:Pos}(hN:X.N[i]? = some x)(hv:Vis X.env.scope x)(hd:(x==("__debug__":Str))=false:=by decide)(hcd:(x==("__classdict__":Str))=false:=by decide):PE X (.Name x pos) (Aac i):=by
 intro pins s σ H Q I h
 obtain ⟨v,e,h⟩:=h
 obtain ⟨m,hn,hl⟩:=I.loc
 obtain ⟨u,r,l⟩:=hl i x v hN e hv
 have fin:EP X pins σ Q u s:=⟨v,H,I,r,h⟩
 rcases l with ⟨hk,hm⟩|⟨hk,c,hc,hcell⟩
 ·exact wpAny_Name (wpAny_loadName_local I.ok.kind hk hn hm fin) hd
 ·rcases hk with hk|hk
  ·exact wpAny_Name (wpAny_loadName_cell I.ok.kind hk hc hcell fin) hd
  ·exact wpAny_Name (wpAny_loadName_free I.ok.kind hk hc hcell fin hcd) hd
theorem UG {i j pos}:PE X (.Constant (.int i) j pos) (tC (.int i)):=λ_ _ _ H _ I h=>wpAny_Constant_int ⟨.int i,H,I.tok _,⟨_,rfl⟩,h⟩
theorem ZA {b j pos}:PE X (.Constant (.bool b) j pos) (tC (.bl b)):=λ_ _ _ H _ I h=>Constant_bool ⟨.bl b,H,I,rfl,h⟩
theorem XB {j pos}:PE X (.Constant .none j pos) (tC .non):=λ_ _ _ H _ I h=>Constant_none ⟨.non,H,I,rfl,h⟩
theorem X8 {x j pos}:PE X (.Constant (.str x) j pos) (tC (.str x)):=λ_ _ _ H _ I h=>Calls.Constant_str ⟨.str x,H,I.tok _,⟨_,rfl⟩,h⟩
noncomputable def Gl (X:Cx)(x:Str):Prop:=X.env.kindOf x=some .globalImplicit
theorem Qf {E:Value->Shared->Prop}{pins:List (Addr×Obj)}{s:Shared}{σ:St}{H:Hp}{x:Str}{u:Value}{pos:Pos}{Q:Value->Shared->Prop}(I:Inv X pins σ H s)(hg:Gl X x)(hm:X.mg x=some u)(h:Q u s)
  (hd:(x==("__debug__":Str))=false:=by decide):wpAny (model X.prog X.w) X.A (eval (.Name x pos) X.env) Q E s:=
 Calls.Name_function_global I.ok.kind hg (Calls.loadGlobal_global (by rw [I.ok.glob];exact I.mod.glob.keeps I.bk) hm h) hd
theorem J8 {E:Value->Shared->Prop}{pins:List (Addr×Obj)}{s:Shared}{σ:St}{H:Hp}{x:Str}{u:Value}{pos:Pos}{Q:Value->Shared->Prop}(I:Inv X pins σ H s)(hg:Gl X x)(hm:X.mg x=none)(hv:bootBuiltins x=some u)(h:Q u s)
  (hn:x≠"__name__":=by decide) (hd:(x==("__debug__":Str))=false:=by decide):wpAny (model X.prog X.w) X.A (eval (.Name x pos) X.env) Q E s:=by
 obtain ⟨mb,h1,h2⟩:=I.mod.blt
 exact Calls.Name_function_global I.ok.kind hg (Calls.loadGlobal_builtin (by rw [I.ok.glob];exact I.mod.glob.keeps I.bk) hm (by rw [I.ok.blt];exact h1.keeps I.bk) ((h2 x hn).trans hv) h) hd
theorem Nl {x:Str}{v:V}{u:Value}{pos:Pos}(hg:Gl X x)(hm:X.mg x=some u)(r:RelV v u)(hd:(x==("__debug__":Str))=false:=by decide):PE X (.Name x pos) (tC v):=
 λ_ _ _ H _ I h=>Qf I hg hm ⟨v,H,I,r,h⟩ hd
theorem Wi {x:Str}{v:V}{u:Value}{pos:Pos}(hg:Gl X x)(hm:X.mg x=none)(hv:bootBuiltins x=some u)(r:RelV v u)(hn:x≠"__name__":=by decide)(hd:(x==("__debug__":Str))=false:=by decide):PE X (.Name x pos) (tC v):=
 λ_ _ _ H _ I h=>J8 I hg hm hv ⟨v,H,I,r,h⟩ hn hd
variable {a b:Expr} {ta tb:TE} {pos:Pos}
noncomputable def tB (t:TE):TT:=fun σ H Q=>t σ H λx H1=>∃ c,x=.bl c∧Q c H1
theorem WZ {e:Expr}{t:TE}(h:PE X e t)(he:∀ whole,isTrue e X.env whole=(do let v←whole;standAt e.pos;holding [v] (truthy v)):=by intro _;rfl):PT X e (tB t):=by
 intro pins s σ H Q I hw
 refine isTrue_plain (thn (h pins s σ H _ I hw) λv s1 ⟨x,H1,I1,r1,q1⟩=>?_) (he _)
 obtain ⟨d,rfl,q⟩:=q1
 cases r1
 exact Bu ⟨H1,I1,q⟩
variable {tA tB':TT} {rest:List Expr}
noncomputable def AbN (t u:TT):TT:=fun σ H Q=>t σ H λc H1=>if c=true then u σ H1 Q else Q false H1
noncomputable def tOr (t u:TT):TT:=fun σ H Q=>t σ H λc H1=>if c=true then Q true H1 else u σ H1 Q
noncomputable def AbW (t:TT):TT:=fun σ H Q=>t σ H λc H1=>Q (!c) H1
theorem VU (ha:PT X a tA):PW X (.BoolOp .And [a] pos) tA:=by
 intro wh pins s σ H Q I h
 refine isTrue_and (thn (ha pins s σ H Q I h) λc s1 e=>?_)
 cases c with
 | true=>exact isTrue_and_nil e
 | false=>exact e
theorem WR (ha:PT X a tA):PW X (.BoolOp .Or [a] pos) tA:=by
 intro wh pins s σ H Q I h
 refine isTrue_or (thn (ha pins s σ H Q I h) λc s1 e=>?_)
 cases c with
 | false=>exact isTrue_or_nil e
 | true=>exact e
theorem Xe (ha:PT X a tA)(hb:PW X (.BoolOp .And (b::rest) pos) tB'):PW X (.BoolOp .And (a::b::rest) pos) (AbN tA tB'):=by
 intro wh pins s σ H Q I h
 refine isTrue_and (thn (ha pins s σ H _ I h) λc s1 ⟨H1,I1,q1⟩=>?_)
 cases c with
 | true=>exact hb wh pins s1 σ H1 Q I1 q1
 | false=>exact ⟨H1,I1,q1⟩
theorem Zp (ha:PT X a tA)(hb:PW X (.BoolOp .Or (b::rest) pos) tB'):PW X (.BoolOp .Or (a::b::rest) pos) (tOr tA tB'):=by
 intro wh pins s σ H Q I h
 refine isTrue_or (thn (ha pins s σ H _ I h) λc s1 ⟨H1,I1,q1⟩=>?_)
 cases c with
 | true=>exact ⟨H1,I1,q1⟩
 | false=>exact hb wh pins s1 σ H1 Q I1 q1
theorem YO (ha:PT X a tA):PT X (.UnaryOp .Not a pos) (AbW tA):=by
 intro pins s σ H Q I h
 exact isTrue_not (ha pins s σ H (λc H1=>Q (!c) H1) I h)
noncomputable def Zg (ta tb:TE):TE:=fun σ H Q=>ta σ H λx H1=>∃ c,x=.bl c∧if c=true then tb σ H1 Q else Q (.bl false) H1
theorem Yb {op}{t:TE}(h:PE X a t):PE X (.BoolOp op [a] pos) t:=λpins s σ H Q I hw=>BoolOp_one (h pins s σ H Q I hw)
theorem Yc (ha:PE X a ta)(hb:PE X (.BoolOp .And (b::rest) pos) tb):PE X (.BoolOp .And (a::b::rest) pos) (Zg ta tb):=by
 intro pins s σ H Q I h
 refine BoolOp_and (thn (ha pins s σ H _ I h) λv s1 ⟨x,H1,I1,r1,q1⟩=>?_)
 obtain ⟨c,rfl,q1⟩:=q1
 cases r1
 refine Bu ?_
 cases c with
 | true=>exact hb pins s1 σ H1 Q I1 q1
 | false=>exact ⟨.bl false,H1,I1,rfl,q1⟩
noncomputable def tIf (t:TT)(ta tb:TE):TE:=fun σ H Q=>t σ H λc H1=>if c=true then ta σ H1 Q else tb σ H1 Q
theorem T7 {c:Expr}(hc:PT X c tA)(ha:PE X a ta)(hb:PE X b tb):PE X (.IfExp c a b pos) (tIf tA ta tb):=by
 intro pins s σ H Q I h
 refine wpAny_IfExp (thn (hc pins s σ H _ I h) λd s1 ⟨H1,I1,q1⟩=>?_)
 cases d with
 | true=>exact ha pins s1 σ H1 Q I1 q1
 | false=>exact hb pins s1 σ H1 Q I1 q1
end
noncomputable def SqL (K:PySem.W.Frag)(H:Hp)(a:Addr)(xs:List V):Prop:=
 Rd H a (.lst xs) ∨
  ∃ (o:Obj) (its:Array Value) (n:Nat),K.lookup a=some o∧o.cls=.type "list"∧o.dict=none∧o.data=.seq its n∧its.size≤sizeLine∧Vals xs its.toList
noncomputable def SqT (K:PySem.W.Frag)(H:Hp)(a:Addr)(xs:List V):Prop:=
 Rd H a (.tup xs) ∨
  ∃ (o:Obj) (its:Array Value) (n:Nat),K.lookup a=some o∧o.cls=.type "tuple"∧o.dict=none∧o.data=.seq its n∧its.size≤sizeLine∧Vals xs its.toList
noncomputable def Abu:Value->Option V
 | .none=>some .non
 | .bool b=>some (.bl b)
 | .int i _=>some (.int i)
 | .str x _=>some (.str x)
 | .bytes b _=>some (.byt b)
 | .float b _=>some (.flt b)
 | .ref a=>some (.ref a)
 | .type n=>some (.ty n)
 | _=>none
theorem RelV.abs {x:V}{u:Value}(r:RelV x u):Abu u=some x:=by
 cases x with
 | non=>cases r;rfl
 | bl _=>cases r;rfl
 | int _=>obtain ⟨t,rfl⟩:=r;rfl
 | str _=>obtain ⟨t,rfl⟩:=r;rfl
 | byt _=>obtain ⟨t,rfl⟩:=r;rfl
 | flt _=>obtain ⟨t,rfl⟩:=r;rfl
 | ref _=>cases r;rfl
 | ty _=>cases r;rfl
theorem RelV.inj {x y:V}{u:Value}(r:RelV x u)(q:RelV y u):x=y:=AE (r.abs.symm.trans q.abs)
theorem Vals.inj:∀ {xs ys:List V} {us:List Value},Vals xs us->Vals ys us->xs=ys
 | _,_,_,.nil,.nil=>rfl
 | _,_,_,.cons r t,.cons r' t'=>by rw [r.inj r',Vals.inj t t']
section
variable {X:Cx} {pins:List (Addr×Obj)} {σ:St} {H:Hp} {s:Shared} {a:Addr} {xs ys:List V}
theorem SqL.of {K:PySem.W.Frag}(h:H a=some (.lst xs)):SqL K H a xs:=.inl (.inl h)
theorem SqT.of {K:PySem.W.Frag}(h:H a=some (.tup xs)):SqT K H a xs:=.inl (.inl h)
theorem Inv.list (I:Inv X pins σ H s)(h:SqL X.K H a xs):∃ its:List Value,Vals xs its∧PlainL s.heap a its.toArray∧xs.length≤sizeLine:=by
 rcases h with h|⟨o,its,n,hk,hc,hd,hs,hz,r⟩
 ·obtain ⟨z,its,n,r,e⟩:=h.ok I.hok
  exact ⟨its,r,⟨_,n,e,rfl,rfl,rfl⟩,z⟩
 ·refine ⟨its.toList,r,⟨o,n,I.kIn a o hk,hc,hd,by simpa using hs⟩,?_⟩
  have e:=r.length
  simp only [Array.length_toList] at e
  omega
theorem Inv.tupleD (I:Inv X pins σ H s)(h:SqT X.K H a xs):∃ o,s.heap.get? a=some o∧o.dict=none∧o.cls=.type "tuple":=by
 rcases h with h|⟨o,its,n,hk,hc,hd,hs,hz,r⟩
 ·obtain ⟨⟨z,o,g1,g2⟩,its,r,o',g3,g4,_⟩:=h.ok I.hok
  rw [g1] at g3
  cases g3
  exact ⟨o,g1,g2,g4⟩
 ·exact ⟨o,I.kIn a o hk,hd,hc⟩
theorem Inv.tuple (I:Inv X pins σ H s)(h:SqT X.K H a xs):∃ its:List Value,Vals xs its∧IsTup s.heap a its.toArray∧xs.length≤sizeLine:=by
 rcases h with h|⟨o,its,n,hk,hc,_,hs,hz,r⟩
 ·obtain ⟨⟨z,_⟩,its,r,p⟩:=h.ok I.hok
  exact ⟨its,r,p,z⟩
 ·refine ⟨its.toList,r,⟨o,I.kIn a o hk,hc,n,by simpa using hs⟩,?_⟩
  have e:=r.length
  simp only [Array.length_toList] at e
  omega
theorem Inv.list_inj (I:Inv X pins σ H s)(h:SqL X.K H a xs)(h':SqL X.K H a ys):xs=ys:=by
 obtain ⟨its,r,⟨o,n,e,_,_,d⟩,_⟩:=I.list h
 obtain ⟨its',r',⟨o',n',e',_,_,d'⟩,_⟩:=I.list h'
 rw [e] at e';cases e'
 rw [d] at d'
 injection d' with d1 _
 have:its=its':=by simpa using congrArg Array.toList d1
 subst this
 exact r.inj r'
theorem Inv.tuple_inj (I:Inv X pins σ H s)(h:SqT X.K H a xs)(h':SqT X.K H a ys):xs=ys:=by
 obtain ⟨its,r,⟨o,e,_,n,d⟩,_⟩:=I.tuple h
 obtain ⟨its',r',⟨o',e',_,n',d'⟩,_⟩:=I.tuple h'
 rw [e] at e';cases e'
 rw [d] at d'
 injection d' with d1 _
 have:its=its':=by simpa using congrArg Array.toList d1
 subst this
 exact r.inj r'
end
noncomputable abbrev Cx.wish (X:Cx) (E:Value->Shared->Prop):Cx:={ X with xe:=E }
noncomputable abbrev Cx.nox (X:Cx):Cx:=X.wish λ_ _=>False
theorem Cx.Ok.wish {X:Cx}(ok:X.Ok)(E:Value->Shared->Prop):(X.wish E).Ok:=
 ⟨ok.mod,ok.kind,ok.glob,ok.blt,ok.above,ok.inj,ok.has,ok.cab,ok.hd,ok.frames,ok.stk,ok.exf,ok.bs,ok.bsz,ok.noex,ok.exfs,ok.funs,ok.frf⟩
theorem Cx.Ok.unwish {X:Cx}{E:Value->Shared->Prop}(ok:(X.wish E).Ok):X.Ok:=
 ⟨ok.mod,ok.kind,ok.glob,ok.blt,ok.above,ok.inj,ok.has,ok.cab,ok.hd,ok.frames,ok.stk,ok.exf,ok.bs,ok.bsz,ok.noex,ok.exfs,ok.funs,ok.frf⟩
section
variable {X:Cx} {pins:List (Addr×Obj)} {σ:St} {H:Hp} {s:Shared} {E:Value->Shared->Prop}
theorem Inv.wish (I:Inv X pins σ H s)(E:Value->Shared->Prop):Inv (X.wish E) pins σ H s:=⟨I.ok.wish E,I.os,I.bare,I.base,I.loc,I.cell,I.free,I.freeC,I.pin,I.hok,I.len⟩
theorem Inv.unwish (I:Inv (X.wish E) pins σ H s):Inv X pins σ H s:=⟨I.ok.unwish,I.os,I.bare,I.base,I.loc,I.cell,I.free,I.freeC,I.pin,I.hok,I.len⟩
theorem SP.unwish {D:Ends}{f:Flow}{s':Shared}(h:SP (X.wish E) pins D f s'):SP X pins D f s':=by
 cases f with
 | next=>obtain ⟨σ',H',I,q⟩:=h;exact ⟨σ',H',I.unwish,q⟩
 | brk=>obtain ⟨σ',H',I,q⟩:=h;exact ⟨σ',H',I.unwish,q⟩
 | cont=>obtain ⟨σ',H',I,q⟩:=h;exact ⟨σ',H',I.unwish,q⟩
 | ret u=>obtain ⟨v,σ',H',I,r,q⟩:=h;exact ⟨v,σ',H',I.unwish,r,q⟩
theorem PSs.nox {st:List Stmt}{t:TS}(h:PSs X.nox st t):PSs X st t:=λpins s σ H D I hw =>
 BS (h pins s σ H D (I.wish _) hw) (λ_ _ q=>q.unwish) λ_ _ z=>False.elim z
end
section
variable {X:Cx} {st:Stmt} {rest:List Stmt} {t u:TS} {e:Expr} {te:TE} {pos:Pos}
noncomputable def ZW:TS:=λD σ H=>D.nx σ H
noncomputable def AaY (t u:TS):TS:=λD σ H=>t { D with nx:=u D } σ H
theorem Ws:PSs X [] ZW:=λ_ _ σ H _ I h=>wpAny_execs_nil ⟨σ,H,I,h⟩
theorem T5 (h1:PS X st t)(h2:PSs X rest u):PSs X (st::rest) (AaY t u):=by
 intro pins s σ H D I h
 refine wpAny_execs_cons (thn (h1 pins s σ H { D with nx:=u D } I h) λf s1 q=>?_)
 cases f with
 | next =>
  obtain ⟨σ',H',I',q⟩:=q
  exact h2 pins s1 σ' H' D I' q
 | ret v=>exact q
 | brk=>exact q
 | cont=>exact q
theorem VX (h1:PS X st t):PSs X [st] t:=by
 intro pins s σ H D I h
 refine wpAny_execs_cons (thn (h1 pins s σ H D I h) λf s1 q=>?_)
 cases f with
 | next=>exact wpAny_execs_nil q
 | ret v=>exact q
 | brk=>exact q
 | cont=>exact q
theorem Inv.quiet {pins:List (Addr×Obj)}{σ:St}{H:Hp}{s:Shared}(I:Inv X pins σ H s):interactive X.env=false:=by simp [interactive,I.ok.kind]
noncomputable def AaC (te:TE):TS:=λD σ H=>te σ H λ_ H1=>D.nx σ H1
theorem VS (he:PE X e te)(hs:swapsWith e none pos.line X.env=pure false:=by rfl):PS X (.Expr e pos) (AaC te):=by
 intro pins s σ H D I h
 exact wpAny_Expr_any (thn (he pins s σ H _ I h) λv s1 ⟨x,H1,I1,r1,q1⟩=>⟨σ,H1,I1,q1⟩) I.quiet hs
noncomputable def Abg (te:TE):TS:=λD σ H=>te σ H D.rt
theorem W6 (he:PE X e te):PS X (.Return (some e) pos) (Abg te):=by
 intro pins s σ H D I h
 exact wpAny_Return_some (thn (he pins s σ H _ I h) λv s1 ⟨x,H1,I1,r1,q1⟩=>⟨x,σ,H1,I1,r1,q1⟩)
noncomputable def AbE (c:TT)(t u:TS):TS:=λD σ H=>c σ H λb H1=>if b=true then t D σ H1 else u D σ H1
theorem Aaw {c:Expr}{a b:List Stmt}{tc:TT}(hc:PT X c tc)(ha:PSs X a t)(hb:PSs X b u):PS X (.If c a b pos) (AbE tc t u):=by
 intro pins s σ H D I h
 refine wpAny_If (thn (hc pins s σ H _ I h) λd s1 ⟨H1,I1,q1⟩=>?_)
 cases d with
 | true=>exact ha pins s1 σ H1 D I1 q1
 | false=>exact hb pins s1 σ H1 D I1 q1
end
noncomputable abbrev TG:=V->St->Hp->(St->Hp->Prop)->Prop
noncomputable abbrev TGs:=List V->St->Hp->(St->Hp->Prop)->Prop
noncomputable def PG (X:Cx)(target:Expr)(t:TG):Prop:=
 ∀ (pins:List (Addr×Obj)) (s:Shared) (σ:St) (H:Hp) (v:V) (u:Value) (Q:St->Hp->Prop),Inv X pins σ H s->RelV v u->t v σ H Q ->
  wpAny (model X.prog X.w) X.A (assign target X.env u) (λ_ s'=>∃ σ' H',Inv X pins σ' H' s'∧Q σ' H') X.xe s
noncomputable def PGs (X:Cx)(ts:List Expr)(t:TGs):Prop:=
 ∀ (pins:List (Addr×Obj)) (s:Shared) (σ:St) (H:Hp) (vs:List V) (us:List Value) (Q:St->Hp->Prop),Inv X pins σ H s->Vals vs us->t vs σ H Q ->
  wpAny (model X.prog X.w) X.A (assignInOrder ((assignEach ts X.env).map (·.2)) us) (λ_ s'=>∃ σ' H',Inv X pins σ' H' s'∧Q σ' H') X.xe s
noncomputable abbrev Sw:=V->V->V->Hp->(Hp->Prop)->Prop
noncomputable def Wn (X:Cx)(t:Sw):Prop:=
 ∀ (pins:List (Addr×Obj)) (s:Shared) (σ:St) (H:Hp) (o i v:V) (ov iv u:Value) (Q:Hp->Prop),Inv X pins σ H s->RelV o ov->RelV i iv->RelV v u->t o i v H Q ->
  wpAny (model X.prog X.w) X.A (setItem ov iv u) (λ_ s'=>∃ H',Inv X pins σ H' s'∧Q H') X.xe s
section
variable {X:Cx} {pos:Pos}
noncomputable def TR (i:Nat):TG:=λv σ H Q=>Q (σ.set i (some v)) H
theorem VT {i:Nat}{x:Str}(hN:X.N.Nodup)(hi:X.N[i]? = some x)(hx:Loc X.env.scope x)(hf:X.fn x=true∨X.env.scope.names.lookup x=some .local:=by first|exact .inl rfl|exact .inr rfl|assumption):PG X (.Name x pos) (TR i):=by
 intro pins s σ H v u Q I r h
 exact wpAny_assign_Name (G1 I hN hi hx r (λs' I'=>⟨_,H,I',h⟩) hf)
noncomputable def AbV:TGs:=λvs σ H Q=>vs=[]∧Q σ H
noncomputable def ZG (t:TG)(u:TGs):TGs:=λvs σ H Q=>∃ v r,vs=v::r∧t v σ H fun σ' H'=>u r σ' H' Q
theorem V6:PGs X [] AbV:=by
 intro pins s σ H vs us Q I r h
 obtain ⟨e,h⟩:=h
 subst e
 cases r
 exact assignInOrder_nil ⟨σ,H,I,h⟩
theorem Sk {e:Expr}{es:List Expr}{t:TG}{u:TGs}(h1:PG X e t)(h2:PGs X es u)
  (hs:(assignEach (e::es) X.env).map (·.2)=assign e X.env::(assignEach es X.env).map (·.2):=by rfl):PGs X (e::es) (ZG t u):=by
 intro pins s σ H vs us Q I r h
 obtain ⟨v,vr,e1,h⟩:=h
 subst e1
 cases r with
 | cons r rr =>
  rw [hs]
  refine assignInOrder_cons (thn (h1 pins s σ H _ _ _ I r h) λ_ s1 ⟨σ1,H1,I1,q1⟩=>?_)
  exact h2 pins s1 σ1 H1 _ _ Q I1 rr q1
noncomputable def Abf (K:PySem.W.Frag)(n:Nat)(t:TGs):TG:=λv σ H Q=>∃ a xs,v=.ref a∧SqT K H a xs∧xs.length=n∧t xs σ H Q
theorem Yr {es:List Expr}{k:Nat}{t:TGs}{n:Nat}(hc:X.calm=true)(h:PGs X es t)
  (hn:(assignEach es X.env).length=n:=by rfl) (hst:(assignEach es X.env).findIdx? (·.1)=none:=by rfl):PG X (.Tuple es k pos) (Abf X.K n t):=by
 intro pins s σ H v u Q I r hw
 obtain ⟨a,xs,e1,hq,hl,hw⟩:=hw
 subst e1
 cases r
 obtain ⟨its,rv,ht,hz⟩:=I.tuple hq
 refine assign_Tuple_tuple (I.ok.hd hc) ht (by simp [hn,← hl,rv.length]) hst λh' hx=>?_
 have I1:Inv X pins σ H { s with heap:=h' }:=I.kept (t':=s.toks) λb o e=>hx b o (Ap (Aj e)) e
 exact h pins _ σ H xs _ Q I1 (by simpa using rv) hw
noncomputable def Aa9 (to ti:TE)(t:Sw):TG:=λv σ H Q=>to σ H λo H1=>ti σ H1 λi H2=>t o i v H2 λH3=>Q σ H3
theorem Yz {o i:Expr}{to ti:TE}{t:Sw}(ho:PE X o to)(hi:PE X i ti)(hs:Wn X t)
  (ha:∀ v,assign (.Subscript o i pos) X.env v=(do
   let ov←holding [v] (eval o X.env)
   let iv←holding [v,ov] (eval i X.env)
   standAt pos
   holding [v,ov,iv] (setItem ov iv v)
   release [v,ov,iv] []):=by intro _;rfl):PG X (.Subscript o i pos) (Aa9 to ti t):=by
 intro pins s σ H v u Q I r h
 rw [ha]
 refine Aa (AD (thn (ho pins s σ H _ I h) λov s1 ⟨x,H1,I1,r1,q1⟩=>?_))
 refine Aa (AD (thn (hi pins s1 σ H1 _ I1 q1) λiv s2 ⟨y,H2,I2,r2,q2⟩=>?_))
 refine Aa (wpAny_standAt (Aa (AD (thn (hs pins s2 σ H2 x y v ov iv u _ I2 r1 r2 r q2) λ_ s3 ⟨H3,I3,q3⟩=>?_))))
 exact wpAny_release ⟨σ,H3,I3,q3⟩
noncomputable def Vl (te:TE)(g:TG):TS:=λD σ H=>te σ H λx H1=>g x σ H1 D.nx
theorem Xq {tg e:Expr}{te:TE}{g:TG}(he:PE X e te)(hg:PG X tg g)(hs:swapsWithSole [tg] e pos.line X.env=pure false:=by rfl)(hw:swappedStores [tg] e X.env=pure none:=by rfl)
  (h1:(assignEach [tg] X.env).map (·.2)=[assign tg X.env]:=by rfl):PS X (.Assign [tg] e pos) (Vl te g):=by
 intro pins s σ H D I h
 refine wpAny_Assign_stores (thn (he pins s σ H _ I h) λv s1 ⟨x,H1,I1,r1,q1⟩=>?_) hs hw
 rw [h1]
 exact thn (hg pins s1 σ H1 x v _ I1 r1 q1) λ_ s2 q=>q
theorem Xr {i:Nat}{x:Str}{e:Expr}{te:TE}{pos':Pos}(hN:X.N.Nodup)(hi:X.N[i]? = some x)(hx:Loc X.env.scope x)(he:PE X e te)(hs:swapsWith e (some (.Name x pos')) pos.line X.env=pure false:=by rfl)(hf:X.fn x=true∨X.env.scope.names.lookup x=some .local:=by first|exact .inl rfl|exact .inr rfl|assumption) :
  PS X (.Assign [.Name x pos'] e pos) (Vl te (TR i)):=by
 intro pins s σ H D I h
 refine wpAny_Assign_Name (thn (he pins s σ H _ I h) λv s1 ⟨y,H1,I1,r1,q1⟩=>?_) hs
 exact G1 I1 hN hi hx r1 (λs2 I2=>⟨_,H1,I2,q1⟩) hf
end
structure It where
 go:Nat->Hp->Prop
 yld:Nat->Hp->V->Hp->Prop
 stop:Nat->Hp->Prop
noncomputable def HQ (X:Cx)(pins:List (Addr×Obj))(H:Hp)(b:Addr):Prop:=
 H b=none∧b≠X.env.locals∧b∉X.fs∧(b∈X.ex∨X.s₀.heap.objs.size≤b)∧(∀ x c,X.env.cells.lookup x=some c->c≠b)∧∀ p∈X.pn++pins,p.1≠b
theorem Inv.fpOk {X:Cx}{pins:List (Addr×Obj)}{σ:St}{H H':Hp}{s:Shared}{b:Addr}(I:Inv X pins σ H s)(hb:s.heap.objs.size≤b)(hn:H' b=none):HQ X pins H' b:=by
 refine ⟨hn,Bt (Au I.lt hb),I.nofs hb,.inr (AA I.sz hb),λx c e z=>?_,λp hp z=>?_⟩
 ·obtain ⟨v,q⟩:=I.cell x c e
  exact absurd (Au q.lt (by rw [z];exact hb)) (A8 _)
 ·exact absurd (Au (Aj (I.pin p hp).1) (by rw [z];exact hb)) (A8 _)
structure Turn (P:Program) (w:World) (K:PySem.W.Frag) (tg:Expr) (J:It) (fp:List Addr) (it:Addr) (tn:Nat->Heap->Prop):Prop where
 mem:it∈fp
 obj:∀ i h,tn i h->∀ b∈fp,∃ o,h.get? b=some o∧∀ v,o.data≠.cell v
 keep:∀ i h h',tn i h->(∀ b∈fp,∀ o,h.get? b=some o->h'.get? b=some o)->tn i h'
 item:∀ (X:Cx),X.prog=P->X.w=w->X.K=K->X.calm=true->∀ (i:Nat) (pins:List (Addr×Obj)) (s:Shared) (σ:St) (H:Hp) (E:Value->Shared->Prop),Inv X pins σ H s->(∀ b∈fp,HQ X pins H b)->tn i s.heap->J.go i H ->
  wpAny (model P w) X.A (pyNext (.ref it)) (λr s1=>∃ u,r=some u ∧
   wpAny (model P w) X.A (letOwnedTupleGo tg (.ref it) u) (λ_ s2=>∃ x H',Inv X pins σ H' s2∧RelV x u∧J.yld i H x H'∧tn (i+1) s2.heap∧∀ b∈fp,H' b=none) E s1) E s
 done:∀ (X:Cx),X.prog=P->X.w=w->X.K=K->X.calm=true->∀ (i:Nat) (pins:List (Addr×Obj)) (s:Shared) (σ:St) (H:Hp) (E:Value->Shared->Prop),Inv X pins σ H s->(∀ b∈fp,HQ X pins H b)->tn i s.heap->J.stop i H ->
  wpAny (model P w) X.A (pyNext (.ref it)) (λr s1=>r=none∧Inv X pins σ H s1) E s
 self:∀ (A:Around) (i:Nat) (s:Shared) (Q:Value->Shared->Prop) (E:Value->Shared->Prop),tn i s.heap->Q (.ref it) s->wpAny (model P w) A (pyIter (.ref it)) Q E s
noncomputable abbrev TI:=St->Hp->(It->Hp->Prop)->Prop
noncomputable def PIE (X:Cx)(pins:List (Addr×Obj))(σ:St)(tg:Expr)(R:It->Hp->Prop)(itv:Value)(s2:Shared):Prop:=
 ∃ (it:Addr) (fp:List Addr) (tn:Nat->Heap->Prop) (J:It) (H':Hp),itv=.ref it∧Inv X pins σ H' s2∧Turn X.prog X.w X.K tg J fp it tn∧tn 0 s2.heap∧(∀ b∈fp,HQ X pins H' b)∧R J H'
noncomputable def PI (X:Cx)(tg iter:Expr)(wi:TI):Prop:=
 ∀ (pins:List (Addr×Obj)) (s:Shared) (σ:St) (H:Hp) (R:It->Hp->Prop),Inv X pins σ H s->wi σ H R ->
  wpAny (model X.prog X.w) X.A (eval iter X.env) (λv s1=>wpAny (model X.prog X.w) X.A (pyIter v) (PIE X pins σ tg R) X.xe s1) X.xe s
theorem QC {M:Model}{A:Around}{E:Value->Shared->Prop}{s:Shared}{tg:Expr}{it:Addr}{u:Value}{o:Obj}{n:String}{vs:Array Value}{Q:Unit->Shared->Prop}(ho:s.heap.get? it=some o)(hc:o.cls=.type n)(hd:o.data=.fields vs)
  (hn:["enumerate","zip","dict_itemiterator","dict_reverseitemiterator","odict_iterator","itertools.zip_longest","itertools.pairwise"].contains n=false) (hQ:Q () s):wpAny M A (letOwnedTupleGo tg (.ref it) u) Q E s:=by
 unfold letOwnedTupleGo
 cases tg<;>first
  | exact Ac hQ
  | (cases u<;>first
    | exact Ac hQ
    | (refine Aa (wpAny_load ho ?_);rw [hc,hd];show wpAny M A (if (["enumerate","zip","dict_itemiterator","dict_reverseitemiterator","odict_iterator","itertools.zip_longest","itertools.pairwise"].contains n&&vs[0]?==some (rawInt _))=true then _ else _) Q E s;rw [if_neg (by intro h;rw [hn,Bool.false_and] at h;cases h)];exact Ac hQ))
noncomputable def Itl (K:PySem.W.Frag)(a:Addr):It:=
 ⟨λi H=>∃ xs x,SqL K H a xs∧xs[i]? = some x,λi H x H'=>H'=H∧∀ xs,SqL K H a xs->xs[i]? = some x,λi H=>∃ xs,SqL K H a xs∧xs.length≤i⟩
noncomputable def Itt (K:PySem.W.Frag)(a:Addr):It:=
 ⟨λi H=>∃ xs x,SqT K H a xs∧xs[i]? = some x,λi H x H'=>H'=H∧∀ xs,SqT K H a xs->xs[i]? = some x,λi H=>∃ xs,SqT K H a xs∧xs.length≤i⟩
noncomputable def Itr (lo:Int)(n:Nat):It:=⟨λi _=>i<n,λi H x H'=>H'=H∧x=.int (lo+i),λi _=>n≤i⟩
theorem RF {P:Program}{w:World}{K:PySem.W.Frag}{tg:Expr}(a it:Addr):Turn P w K tg (Itl K a) [it] it (λi h=>h.IsListIter it a i) where
 mem:=by simp
 obj:=λi h st b hb=>by
  have e:b=it:=by simpa using hb
  subst e
  obtain ⟨o,e,c,d⟩:=st
  exact ⟨o,e,λv z=>by rw [d] at z;cases z⟩
 keep:=λi h h' st k=>st.at λo e=>k it (by simp) o e
 item:=by
  intro X hP hw hK hc i pins s σ H E I hf st hg
  subst hP hw hK
  obtain ⟨xs,x,hq,hx⟩:=hg
  obtain ⟨its,rv,p,hz⟩:=I.list hq
  obtain ⟨u,hu,ru⟩:=rv.get hx
  obtain ⟨f0,f1,f2,f3,f4,f5⟩:=hf it (by simp)
  refine wpAny_pyNext_list_item st p.isList (x:=u) (by simpa using hu) λh' st' sb=>?_
  have I1:Inv X pins σ H { s with heap:=h' }:=I.turned (t':=s.toks) (λb o hb e=>(sb.2 b hb).trans e) f0 f1 f3 f4 f5
  obtain ⟨o,e,c,d⟩:=id st'
  exact ⟨u,rfl,QC (s:={ s with heap:=h' }) e c d (by decide) ⟨x,H,I1,ru,⟨rfl,λys hy=>by rw [I.list_inj hy hq];exact hx⟩,st',λb hb=>(hf b hb).1⟩⟩
 done:=by
  intro X hP hw hK hc i pins s σ H E I hf st hg
  subst hP hw hK
  obtain ⟨xs,hq,hx⟩:=hg
  obtain ⟨its,rv,p,hz⟩:=I.list hq
  obtain ⟨f0,f1,f2,f3,f4,f5⟩:=hf it (by simp)
  have hl:=rv.length
  exact wpAny_pyNext_list_end (I.ok.hd hc) st p.isList (by simp;omega) λh' eb=>⟨rfl,I.turned (t':=s.toks) (λb o hb e=>eb b o hb e) f0 f1 f3 f4 f5⟩
 self:=λ_ _ _ _ _ st h=>wpAny_pyIter_listiter st h
theorem OP {P:Program}{w:World}{K:PySem.W.Frag}{tg:Expr}(a it:Addr):Turn P w K tg (Itt K a) [it] it (λi h=>h.IsTupleIter it a i) where
 mem:=by simp
 obj:=λi h st b hb=>by
  have e:b=it:=by simpa using hb
  subst e
  obtain ⟨o,e,c,d⟩:=st
  exact ⟨o,e,λv z=>by rw [d] at z;cases z⟩
 keep:=λi h h' st k=>st.at λo e=>k it (by simp) o e
 item:=by
  intro X hP hw hK hc i pins s σ H E I hf st hg
  subst hP hw hK
  obtain ⟨xs,x,hq,hx⟩:=hg
  obtain ⟨its,rv,p,hz⟩:=I.tuple hq
  obtain ⟨u,hu,ru⟩:=rv.get hx
  obtain ⟨f0,f1,f2,f3,f4,f5⟩:=hf it (by simp)
  refine wpAny_pyNext_tuple_item st (show s.heap.IsTuple a its.toArray from p) (x:=u) (by simpa using hu) λh' st' sb=>?_
  have I1:Inv X pins σ H { s with heap:=h' }:=I.turned (t':=s.toks) (λb o hb e=>(sb.2 b hb).trans e) f0 f1 f3 f4 f5
  obtain ⟨o,e,c,d⟩:=id st'
  exact ⟨u,rfl,QC (s:={ s with heap:=h' }) e c d (by decide) ⟨x,H,I1,ru,⟨rfl,λys hy=>by rw [I.tuple_inj hy hq];exact hx⟩,st',λb hb=>(hf b hb).1⟩⟩
 done:=by
  intro X hP hw hK hc i pins s σ H E I hf st hg
  subst hP hw hK
  obtain ⟨xs,hq,hx⟩:=hg
  obtain ⟨its,rv,p,hz⟩:=I.tuple hq
  obtain ⟨f0,f1,f2,f3,f4,f5⟩:=hf it (by simp)
  have hl:=rv.length
  exact wpAny_pyNext_tuple_end (I.ok.hd hc) st (show s.heap.IsTuple a its.toArray from p) (by simp;omega) λh' eb=>⟨rfl,I.turned (t':=s.toks) (λb o hb e=>eb b o hb e) f0 f1 f3 f4 f5⟩
 self:=λ_ _ _ _ _ st h=>wpAny_pyIter_tupleiter st h
theorem OV {P:Program}{w:World}{K:PySem.W.Frag}{tg:Expr}(it:Addr)(lo:Int)(n:Nat):Turn P w K tg (Itr lo n) [it] it (λi h=>IsRangeIter h it (lo+(i:Nat)*1) ((n:Int)-(i:Nat)) 1) where
 mem:=by simp
 obj:=λi h st b hb=>by
  have e:b=it:=by simpa using hb
  subst e
  exact ⟨_,st,λv z=>by
   have z':Data.fields _=Data.cell v:=z
   cases z'⟩
 keep:=λi h h' st k=>k it (by simp) _ st
 item:=by
  intro X hP hw hK hc i pins s σ H E I hf st hg
  subst hP hw hK
  obtain ⟨f0,f1,f2,f3,f4,f5⟩:=hf it (by simp)
  have W:=Walks.range (prog:=X.prog) (w:=X.w) (I.ok.hd hc) it lo 1 n
  refine W.item i s _ _ hg st λv h' tk hv st' kk=>?_
  obtain ⟨t,rfl⟩:=hv
  have I1:Inv X pins σ H { s with heap:=h',toks:=tk }:=I.turned (λb o hb e=>kk b o (by simpa using hb) e) f0 f1 f3 f4 f5
  refine ⟨_,rfl,QC (s:={ s with heap:=h',toks:=tk }) (n:="range_iterator") st' rfl rfl (by decide) ⟨.int (lo+i),H,I1,⟨t,?_⟩,⟨rfl,rfl⟩,st',λb hb=>(hf b hb).1⟩⟩
  rw [Int.mul_one]
 done:=by
  intro X hP hw hK hc i pins s σ H E I hf st hg
  subst hP hw hK
  obtain ⟨f0,f1,f2,f3,f4,f5⟩:=hf it (by simp)
  exact wpAny_pyNext_range_end (I.ok.hd hc) st (by have:n≤i:=hg;omega) λh' eb=>⟨rfl,I.turned (t':=s.toks) (λb o hb e=>eb b o hb e) f0 f1 f3 f4 f5⟩
 self:=λ_ _ _ _ _ st h=>wpAny_pyIter_rangeiter st h
section
variable {X:Cx} {tg:Expr}
noncomputable def ZI (K:PySem.W.Frag)(tl:TE):TI:=fun σ H R=>tl σ H λx H1=>∃ a,x=.ref a∧(∃ xs,SqL K H1 a xs)∧R (Itl K a) H1
noncomputable def Abn (K:PySem.W.Frag)(tl:TE):TI:=fun σ H R=>tl σ H λx H1=>∃ a,x=.ref a∧(∃ xs,SqT K H1 a xs)∧R (Itt K a) H1
theorem P1 {l:Expr}{tl:TE}(hl:PE X l tl):PI X tg l (ZI X.K tl):=by
 intro pins s σ H R I h
 refine thn (hl pins s σ H _ I h) λv s1 ⟨x,H1,I1,r1,q1⟩=>?_
 obtain ⟨a,e,⟨xs,hq⟩,q⟩:=q1
 subst e
 cases r1
 obtain ⟨its,rv,p,hz⟩:=I1.list hq
 refine wpAny_pyIter_list p.isList ?_
 refine ⟨s1.heap.objs.size,[s1.heap.objs.size],_,_,H1,rfl,I1.kept (t':=s1.toks) λb o e=>Ad _ e,RF a _,⟨_,Ai _ rfl,rfl,rfl⟩,λb hb=>?_,q⟩
 have e:b=s1.heap.objs.size:=by simpa using hb
 subst e
 exact I1.fpOk (Ah _) (I1.hok.fresh (Ah _))
theorem Ye {l:Expr}{tl:TE}(hl:PE X l tl):PI X tg l (Abn X.K tl):=by
 intro pins s σ H R I h
 refine thn (hl pins s σ H _ I h) λv s1 ⟨x,H1,I1,r1,q1⟩=>?_
 obtain ⟨a,e,⟨xs,hq⟩,q⟩:=q1
 subst e
 cases r1
 obtain ⟨its,rv,p,hz⟩:=I1.tuple hq
 refine wpAny_pyIter_tuple (show s1.heap.IsTuple a its.toArray from p) ?_
 refine ⟨s1.heap.objs.size,[s1.heap.objs.size],_,_,H1,rfl,I1.kept (t':=s1.toks) λb o e=>Ad _ e,OP a _,⟨_,Ai _ rfl,rfl,rfl⟩,λb hb=>?_,q⟩
 have e:b=s1.heap.objs.size:=by simpa using hb
 subst e
 exact I1.fpOk (Ah _) (I1.hok.fresh (Ah _))
theorem RY {pins:List (Addr×Obj)}{σ:St}{H:Hp}{s:Shared}{R:It->Hp->Prop}{E:Value->Shared->Prop}{lo hi:Int}{t u v:Tok}{tk:Nat}(I:Inv X pins σ H s)(h1:-(2 ^ 62)≤lo)(h2:lo<2 ^ 62)(h3:-(2 ^ 62)≤hi)(h4:hi<2 ^ 62)
  (q:R (Itr lo (hi-lo).toNat) H):wpAny (model X.prog X.w) X.A (pyIter (.ref s.heap.objs.size)) (PIE X pins σ tg R) E { s with heap:=s.heap.push { cls:=.type "range",data:=.fields #[.int lo t,.int hi u,.int 1 v] },toks:=tk }:=by
 refine wpAny_pyIter_range (IsRange.new ..) (small_one h1 h2 h3 h4) ?_
 have I1:Inv X pins σ H { s with heap:=s.heap.push { cls:=.type "range",data:=.fields #[.int lo t,.int hi u,.int 1 v] },toks:=tk }:=I.kept λb o e=>Ad _ e
 refine ⟨(s.heap.push { cls:=.type "range",data:=.fields #[.int lo t,.int hi u,.int 1 v] }).objs.size,[(s.heap.push { cls:=.type "range",data:=.fields #[.int lo t,.int hi u,.int 1 v] }).objs.size],_,_,H,rfl,
  I1.kept (t':=tk) λb o e=>Ad _ e,OV _ lo (hi-lo).toNat,?_,λb hb=>?_,q⟩
 ·have e1:lo+((0:Nat):Int)*1=lo:=by simp
  have e2:(((hi-lo).toNat:Nat):Int)-((0:Nat):Int)=Builtin.Range.rangeSize lo hi 1:=by rw [rangeSize_one];split<;>omega
  show IsRangeIter _ _ (lo+((0:Nat):Int)*1) ((((hi-lo).toNat:Nat):Int)-((0:Nat):Int)) 1
  rw [e1,e2]
  exact Ai _ rfl
 ·have e:b=(s.heap.push { cls:=.type "range",data:=.fields #[.int lo t,.int hi u,.int 1 v] }).objs.size:=by simpa using hb
  subst e
  exact I1.fpOk (Ah _) (I1.hok.fresh (Ah _))
noncomputable def AaF (ta:TA):TI:=fun σ H R=>ta σ H λvs H1=>∃ j:Int,vs=[.int j]∧-(2 ^ 62)≤j∧j<2 ^ 62∧R (Itr 0 j.toNat) H1
theorem RG {a:Expr}{ta:TA}{p pos:Pos}(hg:Gl X "range")(hm:X.mg "range"=none)(ha:PA X [a] ta)(hs:starEach [a] X.env=[(false,eval a X.env)]:=by rfl):PI X tg (.Call (.Name "range" p) [a] [] pos) (AaF ta):=by
 intro pins s σ H R I h
 refine Call_ (J8 I hg hm boot_range (B5 (thn (ha pos pins s σ H _ I h) λus s1 ⟨vs,H1,I1,r1,q1⟩=>?_) hs rfl))
 obtain ⟨j,e,q1,q2,q⟩:=q1
 subst e
 cases r1 with
 | cons r rr =>
  cases rr
  obtain ⟨t,rfl⟩:=r
  exact call_range_1 (RY I1 (by omega) (by omega) q1 q2 (by simpa using q))
noncomputable def Abr (wi:TI)(g:TG)(tb:TS):TS:=λD σ H=>wi σ H λJ H1=>∃ W:Nat->Nat->St->Hp->Prop,(∃ m,W 0 m σ H1)∧∀ i m σ H,W i m σ H ->
 (J.stop i H∧D.nx σ H)∨(J.go i H∧∃ N:St->Hp->Prop,(∀ σ' H',N σ' H'->∃ m',m'<m∧W (i+1) m' σ' H')∧∀ x H',J.yld i H x H'->g x σ H' fun σ2 H2=>tb { D with nx:=N,ct:=N,bk:=D.nx } σ2 H2)
noncomputable def HG (fp:List Addr)(h:Heap):List (Addr×Obj):=fp.filterMap λb=>(h.get? b).map λo=>(b,o)
theorem EC {fp:List Addr}{h:Heap}{b:Addr}{o:Obj}(hb:b∈fp)(e:h.get? b=some o):(b,o)∈HG fp h:=List.mem_filterMap.mpr ⟨b,hb,by rw [e];rfl⟩
theorem Mq {fp:List Addr}{h:Heap}{p:Addr×Obj}(hp:p∈HG fp h):p.1∈fp∧h.get? p.1=some p.2:=by
 obtain ⟨b,hb,e⟩:=List.mem_filterMap.mp hp
 cases q:h.get? b with
 | none=>rw [q] at e;cases e
 | some o =>
  rw [q] at e
  have e':(b,o)=p:=AE e
  subst e'
  exact ⟨hb,q⟩
theorem Inv.pinned {pins:List (Addr×Obj)}{σ:St}{H:Hp}{s:Shared}{fp:List Addr}(I:Inv X pins σ H s)(hf:∀ b∈fp,HQ X pins H b)(ho:∀ b∈fp,∃ o,s.heap.get? b=some o∧∀ v,o.data≠.cell v):Inv X (pins++HG fp s.heap) σ H s:=
 I.pins_of λp hp=>(AR.mp hp).elim (λz=>I.pin p (Al _ z)) λz=>by
  obtain ⟨hb,e⟩:=Mq z
  obtain ⟨f0,f1,f2,_⟩:=hf p.1 hb
  obtain ⟨o,e',d⟩:=ho p.1 hb
  rw [e] at e';cases e'
  exact ⟨e,f0,f1,f2,d⟩
theorem Inv.unpinned {pins pl:List (Addr×Obj)}{σ:St}{H:Hp}{s:Shared}(I:Inv X (pins++pl) σ H s):Inv X pins σ H s:=I.pins_of λp hp=>I.pin p (Al _ (A3 _ hp))
theorem Xa {iter:Expr}{body:List Stmt}{wi:TI}{g:TG}{tb:TS}{pos:Pos}(hp:PassesOwn (model X.prog X.w) X.A X.env X.xe)(hc:X.calm=true)(hi:PI X tg iter wi)(hg:PG X tg g)(hb:PSs X body tb)
  (hs:∀ x,foldedSetIterable iter X.env x=pure x:=by intro _;rfl):PS X (.For tg iter body [] pos) (Abr wi g tb):=by
 intro pins s σ H D I h
 refine wpAny_For (thn (hi pins s σ H _ I h) λv s1 h1=>thn h1 λitv s2 h2=>?_) hs
 obtain ⟨it,fp,tn,J,H2,e,I2,T,st2,f2,W,⟨m0,w0⟩,turn⟩:=h2
 subst e
 have stat:∀ {H':Hp},(∀ b∈fp,H' b=none)->∀ b∈fp,HQ X pins H' b:=λhn b hb=>⟨hn b hb,(f2 b hb).2⟩
 refine codeAny_forLoop_any (λn s'=>∃ i σ' H',Inv X pins σ' H' s'∧tn i s'.heap∧(∀ b∈fp,H' b=none)∧W i n σ' H') ?_ m0 ⟨0,σ,H2,I2,st2,λb hb=>(f2 b hb).1,w0⟩
 rintro n s3 ⟨i,σ3,H3,I3,st3,fr3,w3⟩
 rcases turn i n σ3 H3 w3 with ⟨stop,qn⟩|⟨go,N,hN,step⟩
 ·refine wpAny_passesOwn hp (thn (T.done X rfl rfl rfl hc i pins s3 σ3 H3 X.xe I3 (stat fr3) st3 stop) λr s4 ⟨hr,I4⟩=>?_)
  subst hr
  exact wpAny_execs_nil ⟨σ3,H3,I4,qn⟩
 ·refine wpAny_passesOwn hp (thn (T.item X rfl rfl rfl hc i pins s3 σ3 H3 X.xe I3 (stat fr3) st3 go) λr s4 ⟨u,hr,h4⟩=>?_)
  subst hr
  refine wpAny_passesOwn hp (thn h4 λ_ s5 ⟨x,H5,I5,r5,y5,st5,fr5⟩=>?_)
  have I5':=I5.pinned (stat fr5) (T.obj _ _ st5)
  refine wpAny_passesOwn hp (thn (hg _ s5 σ3 H5 x u _ I5' r5 (step x H5 y5)) λ_ s6 ⟨σ6,H6,I6,q6⟩=>?_)
  refine wpAny_passesOwn hp (thn (hb _ s6 σ6 H6 _ I6 q6) λf s7 q7=>?_)
  have again:∀ {σ7:St} {H7:Hp},Inv X (pins++HG fp s5.heap) σ7 H7 s7->N σ7 H7->∃ m,m<n∧∃ i σ' H',Inv X pins σ' H' s7∧tn i s7.heap∧(∀ b∈fp,H' b=none)∧W i m σ' H':=λ{σ7 H7} I7 n7=>by
   obtain ⟨m',hm,w7⟩:=hN σ7 H7 n7
   refine ⟨m',hm,i+1,σ7,H7,I7.unpinned,T.keep _ _ _ st5 λb hb o e=>(I7.pin (b,o) (Al _ (Al _ (EC hb e)))).1,λb hb=>?_,w7⟩
   obtain ⟨o,e,d⟩:=T.obj _ _ st5 b hb
   exact (I7.pin (b,o) (Al _ (Al _ (EC hb e)))).2.1
  cases f with
  | next=>obtain ⟨σ7,H7,I7,n7⟩:=q7;exact again I7 n7
  | cont=>obtain ⟨σ7,H7,I7,n7⟩:=q7;exact again I7 n7
  | brk=>obtain ⟨σ7,H7,I7,q7⟩:=q7;exact ⟨σ7,H7,I7.unpinned,q7⟩
  | ret v=>obtain ⟨x7,σ7,H7,I7,r7,q7⟩:=q7;exact ⟨x7,σ7,H7,I7.unpinned,r7,q7⟩
end
noncomputable abbrev R2:=V->V->Hp->VK->Prop
noncomputable def OpR (X:Cx)(f:Value->Value->Sem Value)(r:R2):Prop:=
 ∀ (pins:List (Addr×Obj)) (s:Shared) (σ:St) (H:Hp) (x y:V) (v u:Value) (Q:VK),Inv X pins σ H s->RelV x v->RelV y u->r x y H Q ->
  wpAny (model X.prog X.w) X.A (f v u) (EP X pins σ Q) X.xe s
noncomputable def UnR (X:Cx)(f:Value->Sem Value)(r:V->Hp->VK->Prop):Prop:=
 ∀ (pins:List (Addr×Obj)) (s:Shared) (σ:St) (H:Hp) (x:V) (v:Value) (Q:VK),Inv X pins σ H s->RelV x v->r x H Q ->
  wpAny (model X.prog X.w) X.A (f v) (EP X pins σ Q) X.xe s
noncomputable def GW (X:Cx)(f:Value)(r:List V->Hp->VK->Prop):Prop:=
 ∀ (pins:List (Addr×Obj)) (s:Shared) (σ:St) (H:Hp) (xs:List V) (us:List Value) (Q:VK),Inv X pins σ H s->Vals xs us->r xs H Q ->
  wpAny (model X.prog X.w) X.A (call f us) (EP X pins σ Q) X.xe s
noncomputable def tOp (r:R2)(ta tb:TE):TE:=fun σ H Q=>ta σ H λx H1=>tb σ H1 λy H2=>r x y H2 Q
noncomputable def tUn (r:V->Hp->VK->Prop)(ta:TE):TE:=fun σ H Q=>ta σ H λx H1=>r x H1 Q
noncomputable def rI (C:Int->Int->Prop)(g:Int->Int->V):R2:=λx y H Q=>∃ i j,x=.int i∧y=.int j∧C i j∧Q (g i j) H
noncomputable def rI0 (g:Int->Int->V):R2:=λx y H Q=>∃ i j,x=.int i∧y=.int j∧Q (g i j) H
noncomputable def rU (g:Int->V):V->Hp->VK->Prop:=λx H Q=>∃ i,x=.int i∧Q (g i) H
section
variable {X:Cx} {a b c:Expr} {ta tb tc:TE} {pos:Pos}
theorem XM (ha:PE X a ta)(hb:PE X b tb){pins:List (Addr×Obj)}{s:Shared}{σ:St}{H:Hp}{R:V->V->Hp->Prop}(I:Inv X pins σ H s)
  (h:ta σ H λx H1=>tb σ H1 λy H2=>R x y H2) {Q:Value->Shared->Prop} {f:Value->Value->Sem Value}
  (hf:∀ v u s2 x y H2,Inv X pins σ H2 s2->RelV x v->RelV y u->R x y H2->wpAny (model X.prog X.w) X.A (f v u) Q X.xe s2) :
  wpAny (model X.prog X.w) X.A (eval a X.env) (λv s₁=>wpAny (model X.prog X.w) X.A (eval b X.env) (λu s₂=>wpAny (model X.prog X.w) X.A (f v u) Q X.xe s₂) X.xe s₁) X.xe s:=by
 refine thn (ha pins s σ H _ I h) λv s1 ⟨x,H1,I1,r1,q1⟩=>?_
 refine thn (hb pins s1 σ H1 _ I1 q1) λu s2 ⟨y,H2,I2,r2,q2⟩=>?_
 exact hf v u s2 x y H2 I2 r1 r2 q2
theorem Zh {op:Operator}{r:R2}(ho:OpR X (binaryOp op) r)(ha:PE X a ta)(hb:PE X b tb):PE X (.BinOp a op b pos) (tOp r ta tb):=by
 intro pins s σ H Q I h
 exact wpAny_BinOp (XM ha hb I h λv u s2 x y H2 I2 rx ry q=>ho pins s2 σ H2 x y v u Q I2 rx ry q)
theorem WD {op:UnaryOp}{r:V->Hp->VK->Prop}(ho:UnR X (unaryOp op) r)(ha:PE X a ta):PE X (.UnaryOp op a pos) (tUn r ta):=by
 intro pins s σ H Q I h
 exact UnaryOp_ (thn (ha pins s σ H _ I h) λv s1 ⟨x,H1,I1,r1,q1⟩=>ho pins s1 σ H1 x v Q I1 r1 q1)
theorem opI {f:Value->Value->Sem Value}{C:Int->Int->Prop}{g:Int->Int->Int}
  (rule:∀ (i j:Int) (t u:Tok) (s:Shared) (Q:Value->Shared->Prop) (E:Value->Shared->Prop),C i j->Q (.int (g i j) s.toks) { s with toks:=s.toks+1 }->wpAny (model X.prog X.w) X.A (f (.int i t) (.int j u)) Q E s) :
  OpR X f (rI C λi j=>.int (g i j)):=by
 intro pins s σ H x y v u Q I rx ry h
 obtain ⟨i,j,rfl,rfl,hc,q⟩:=h
 obtain ⟨t,rfl⟩:=rx
 obtain ⟨t',rfl⟩:=ry
 exact rule i j t t' s _ _ hc ⟨.int (g i j),H,I.tok _,⟨_,rfl⟩,q⟩
theorem Zi {f:Value->Value->Sem Value}{g:Int->Int->Int}
  (rule:∀ (i j:Int) (t u:Tok) (s:Shared) (Q:Value->Shared->Prop) (E:Value->Shared->Prop),Q (.int (g i j) s.toks) { s with toks:=s.toks+1 }->wpAny (model X.prog X.w) X.A (f (.int i t) (.int j u)) Q E s) :
  OpR X f (rI0 λi j=>.int (g i j)):=by
 intro pins s σ H x y v u Q I rx ry h
 obtain ⟨i,j,rfl,rfl,q⟩:=h
 obtain ⟨t,rfl⟩:=rx
 obtain ⟨t',rfl⟩:=ry
 exact rule i j t t' s _ _ ⟨.int (g i j),H,I.tok _,⟨_,rfl⟩,q⟩
theorem XY {f:Value->Value->Sem Value}{g:Int->Int->Bool}
  (rule:∀ (i j:Int) (t u:Tok) (s:Shared) (Q:Value->Shared->Prop) (E:Value->Shared->Prop),Q (.bool (g i j)) s->wpAny (model X.prog X.w) X.A (f (.int i t) (.int j u)) Q E s) :
  OpR X f (rI0 λi j=>.bl (g i j)):=by
 intro pins s σ H x y v u Q I rx ry h
 obtain ⟨i,j,rfl,rfl,q⟩:=h
 obtain ⟨t,rfl⟩:=rx
 obtain ⟨t',rfl⟩:=ry
 exact rule i j t t' s _ _ ⟨.bl (g i j),H,I,rfl,q⟩
noncomputable def MN (i j:Int):Prop:=0<j∧j<1073741824
noncomputable def QN (i j:Int):Prop:=0≤j∧j≤1000000∧i.natAbs<2 ^ 64
noncomputable def CMul (i j:Int):Prop:=(-(2 ^ 64)<i∧i<2 ^ 64)∨(-(2 ^ 64)<j∧j<2 ^ 64)
theorem CMul.ok {i j:Int}(h:CMul i j):IntMulOk i j:=by
 rcases h with ⟨h1,h2⟩|⟨h1,h2⟩
 ·exact .of_left (intBits_le_64 h1 h2)
 ·exact .of_right (intBits_le_64 h1 h2)
theorem W4:OpR X (binaryOp .Add) (rI0 λi j=>.int (i+j)):=Zi λ_ _ _ _ _ _ _ q=>add_int q
theorem Yu:OpR X (binaryOp .Sub) (rI0 λi j=>.int (i-j)):=Zi λ_ _ _ _ _ _ _ q=>sub_int q
theorem YZ:OpR X (binaryOp .Mult) (rI CMul λi j=>.int (i*j)):=opI λ_ _ _ _ _ _ _ hc q=>mul_int q hc.ok
theorem Wb:OpR X (binaryOp .FloorDiv) (rI MN λi j=>.int (i / j)):=opI λi j _ _ _ _ _ hc q=>by
 have h1:(0:Int)<j:=hc.1
 have h2:j<1073741824:=hc.2
 exact floordiv_int (by omega) (by rw [Int.fdiv_eq_ediv_of_nonneg i (by omega)];exact q) (.inl (PyProof.noPylong_small (by omega)))
theorem W5:OpR X (binaryOp .Mod) (rI (λ_ j=>0<j) λi j=>.int (i % j)):=opI λi j _ _ _ _ _ hc q=>by
 have h1:(0:Int)<j:=hc
 exact mod_int' (by omega) (by rw [Int.fmod_eq_emod_of_nonneg i (by omega)];exact q)
theorem YV:OpR X (binaryOp .Pow) (rI QN λi j=>.int (i ^ j.toNat)):=opI λ_ _ _ _ _ _ _ hc q=>pow_int_small hc.1 hc.2.1 hc.2.2 q
theorem unI {f:Value->Sem Value}{g:Int->Int}
  (rule:∀ (i:Int) (t:Tok) (s:Shared) (Q:Value->Shared->Prop) (E:Value->Shared->Prop),Q (.int (g i) s.toks) { s with toks:=s.toks+1 }->wpAny (model X.prog X.w) X.A (f (.int i t)) Q E s) :
  UnR X f (rU λi=>.int (g i)):=by
 intro pins s σ H x v Q I rx h
 obtain ⟨i,rfl,q⟩:=h
 obtain ⟨t,rfl⟩:=rx
 exact rule i t s _ _ ⟨.int (g i),H,I.tok _,⟨_,rfl⟩,q⟩
theorem Ug:UnR X (unaryOp .USub) (rU λi=>.int (-i)):=unI λ_ _ _ _ _ q=>neg_int q
theorem JP {pins:List (Addr×Obj)}{σ:St}{H:Hp}{s:Shared}{Q:VK}{k k':Bool}(I:Inv X pins σ H s)(q:Q (.bl k) H)(e:k=k'):EP X pins σ Q (.bool k') s:=by
 subst e
 exact ⟨.bl k,H,I,rfl,q⟩
theorem Zk:OpR X (compareOp .LtE) (rI0 λi j=>.bl (decide (i≤j))):=XY λ_ _ _ _ _ _ _ q=>le_int q
theorem Zu:OpR X (compareOp .Gt) (rI0 λi j=>.bl (decide (j<i))):=XY λ_ _ _ _ _ _ _ q=>gt_int q
theorem Zl:OpR X (compareOp .GtE) (rI0 λi j=>.bl (decide (j≤i))):=XY λ_ _ _ _ _ _ _ q=>ge_int q
theorem Rq:OpR X (compareOp .In) (λx y H Q=>∃ i j,x=.str i∧y=.str j∧Q (.bl (!(Builtin.Str.occurrences j i 0 j.length 1).isEmpty)) H):=by
 intro pins s σ H x y v u Q I rx ry h
 obtain ⟨i,j,rfl,rfl,q⟩:=h
 obtain ⟨t,rfl⟩:=rx
 obtain ⟨t',rfl⟩:=ry
 exact in_str (JP I q rfl)
theorem Xk:OpR X (compareOp .Is) (λx y H Q=>y=.non∧Q (.bl (decide (x=.non))) H):=by
 intro pins s σ H x y v u Q I rx ry h
 obtain ⟨rfl,q⟩:=h
 cases ry
 refine is_none_gen (JP I q ?_)
 cases x<;>first
  | (cases rx;rfl)
  | (obtain ⟨t,rfl⟩:=rx;rfl)
theorem VP:OpR X (compareOp .IsNot) (λx y H Q=>y=.non∧Q (.bl (!decide (x=.non))) H):=by
 intro pins s σ H x y v u Q I rx ry h
 obtain ⟨rfl,q⟩:=h
 cases ry
 refine isnot_none_gen (JP I q ?_)
 cases x<;>first
  | (cases rx;rfl)
  | (obtain ⟨t,rfl⟩:=rx;rfl)
theorem NA:OpR X (compareOp .NotIn) (λx y H Q=>∃ i j,x=.str i∧y=.str j∧Q (.bl (!(!(Builtin.Str.occurrences j i 0 j.length 1).isEmpty))) H):=by
 intro pins s σ H x y v u Q I rx ry h
 obtain ⟨i,j,rfl,rfl,q⟩:=h
 obtain ⟨t,rfl⟩:=rx
 obtain ⟨t',rfl⟩:=ry
 exact notIn_str (JP I q rfl)
theorem Ta (b:Expr){op:CmpOp}(h:op≠.In:=by decide)(h2:op≠.NotIn:=by decide):behindInMarks op b=false:=by
 have e1:(op==CmpOp.In)=false:=by cases op<;>first|rfl|exact absurd rfl h
 have e2:(op==CmpOp.NotIn)=false:=by cases op<;>first|rfl|exact absurd rfl h2
 cases b<;>simp [behindInMarks,e1,e2]
theorem Ve {op:CmpOp}{r:R2}(ho:OpR X (compareOp op) r)(ha:PE X a ta)(hb:PE X b tb)(hm:behindInMarks op b=false):PE X (.Compare a [op] [b] pos) (tOp r ta tb):=by
 intro pins s σ H Q I h
 exact wpAny_Compare1 (XM ha hb I h λv u s2 x y H2 I2 rx ry q=>ho pins s2 σ H2 x y v u Q I2 rx ry q) hm
noncomputable def Tz (t:TE):TT:=fun σ H Q=>t σ H λx H'=>∃ k,x=.bl k∧Q k H'
theorem UX {op:CmpOp}{r:R2}(ho:OpR X (compareOp op) r)(ha:PE X a ta)(hb:PE X b tb)(hm:behindInMarks op b=false):PT X (.Compare a [op] [b] pos) (Tz (tOp r ta tb)):=by
 intro pins s σ H Q I h
 refine wpAny_isTrue_Compare1 (thn (ha pins s σ H _ I h) λv s1 ⟨x,H1,I1,r1,q1⟩=>thn (hb pins s1 σ H1 _ I1 q1) λu s2 ⟨y,H2,I2,r2,q2⟩ =>
  thn (ho pins s2 σ H2 x y v u _ I2 r1 r2 q2) λc s3 ⟨z,H3,I3,r3,k,e,q3⟩=>?_) hm
 subst e
 cases r3
 exact Bu ⟨H3,I3,q3⟩
noncomputable def O3 (r r':R2)(ta tb tc:TE):TE:=fun σ H Q=>ta σ H λx H1=>tb σ H1 λy H2=>r x y H2 λz H3=>∃ k,z=.bl k ∧
 (if k=true then tc σ H3 λw' H4=>r' y w' H4 Q else Q (.bl false) H3)
theorem TX {op op':CmpOp}{r r':R2}(ho:OpR X (compareOp op) r)(ho':OpR X (compareOp op') r')(ha:PE X a ta)(hb:PE X b tb)(hc:PE X c tc)
  (hm:lastMarks [op,op'] [b,c]=false:=by with_unfolding_all rfl):PE X (.Compare a [op,op'] [b,c] pos) (O3 r r' ta tb tc):=by
 intro pins s σ H Q I h
 refine Compare_chain (thn (ha pins s σ H _ I h) λv s1 ⟨x,H1,I1,r1,q1⟩=>chain_link (thn (hb pins s1 σ H1 _ I1 q1) λu s2 ⟨y,H2,I2,r2,q2⟩ =>
  thn (ho pins s2 σ H2 x y v u _ I2 r1 r2 q2) λd s3 ⟨z,H3,I3,r3,k,e,q3⟩=>?_)) hm
 subst e
 cases r3
 refine Bu ?_
 cases k with
 | false=>exact ite_ff ⟨.bl false,H3,I3,rfl,q3⟩
 | true=>exact ite_tt (chain_last (thn (hc pins s3 σ H3 _ I3 q3) λw' s4 ⟨z',H4,I4,r4,q4⟩=>ho' pins s4 σ H4 y z' u w' Q I4 r2 r4 q4))
theorem UR {op op':CmpOp}{r r':R2}(ho:OpR X (compareOp op) r)(ho':OpR X (compareOp op') r')(ha:PE X a ta)(hb:PE X b tb)(hc:PE X c tc)
  (hm:lastMarks [op,op'] [b,c]=false:=by with_unfolding_all rfl):PT X (.Compare a [op,op'] [b,c] pos) (Tz (O3 r r' ta tb tc)):=by
 intro pins s σ H Q I h
 refine isTrue_chain (thn (ha pins s σ H _ I h) λv s1 ⟨x,H1,I1,r1,q1⟩=>test_link (thn (hb pins s1 σ H1 _ I1 q1) λu s2 ⟨y,H2,I2,r2,q2⟩ =>
  thn (ho pins s2 σ H2 x y v u _ I2 r1 r2 q2) λd s3 ⟨z,H3,I3,r3,k,e,q3⟩=>?_)) hm
 subst e
 cases r3
 refine Bu ?_
 cases k with
 | false =>
  obtain ⟨k',e',q'⟩:=q3
  cases e'
  exact ite_ff ⟨H3,I3,q'⟩
 | true =>
  refine ite_tt (test_last (thn (hc pins s3 σ H3 _ I3 q3) λw' s4 ⟨z',H4,I4,r4,q4⟩=>thn (ho' pins s4 σ H4 y z' u w' _ I4 r2 r4 q4) λd' s5 ⟨z2,H5,I5,r5,k2,e2,q5⟩=>?_))
  subst e2
  cases r5
  exact Bu ⟨H5,I5,q5⟩
theorem JX:(sizeLine:Nat)<2 ^ 63:=by rw [AO];decide
theorem PJ:OpR X (binaryOp .Add) (λx y H Q=>∃ i j,x=.str i∧y=.str j∧i.length+j.length≤sizeLine∧Q (.str (i++j)) H):=by
 intro pins s σ H x y v u Q I rx ry h
 obtain ⟨i,j,rfl,rfl,hz,q⟩:=h
 obtain ⟨t,rfl⟩:=rx
 obtain ⟨t',rfl⟩:=ry
 exact add_str (λt' tk=>⟨.str (i++j),H,I.tok _,⟨_,rfl⟩,q⟩) hz
theorem vals1 {x:V}{us:List Value}(r:Vals [x] us):∃ u,us=[u]∧RelV x u:=by
 cases r with
 | cons r1 r2=>cases r2;exact ⟨_,rfl,r1⟩
theorem vals2 {x y:V}{us:List Value}(r:Vals [x,y] us):∃ u w',us=[u,w']∧RelV x u∧RelV y w':=by
 cases r with
 | cons r1 r2 =>
  cases r2 with
  | cons r3 r4=>cases r4;exact ⟨_,_,rfl,r1,r3⟩
theorem Rm (hc:X.calm=true):GW X (.builtin "max") (λxs H Q=>∃ i j,xs=[.int i,.int j]∧Q (.int (if j > i then j else i)) H):=by
 intro pins s σ H xs us Q I r h
 obtain ⟨i,j,rfl,q⟩:=h
 obtain ⟨u,w',rfl,⟨t,rfl⟩,⟨t',rfl⟩⟩:=vals2 r
 refine max_two_ints (I.ok.hd hc) λh' tk k=>⟨_,H,I.kept k,?_,q⟩
 by_cases hj:j > i
 ·rw [if_pos hj,if_pos hj];exact ⟨_,rfl⟩
 ·rw [if_neg hj,if_neg hj];exact ⟨_,rfl⟩
theorem Rj (hc:X.calm=true):GW X (.builtin "min") (λxs H Q=>∃ i j,xs=[.int i,.int j]∧Q (.int (if j<i then j else i)) H):=by
 intro pins s σ H xs us Q I r h
 obtain ⟨i,j,rfl,q⟩:=h
 obtain ⟨u,w',rfl,⟨t,rfl⟩,⟨t',rfl⟩⟩:=vals2 r
 refine min_two_ints (I.ok.hd hc) λh' tk k=>⟨_,H,I.kept k,?_,q⟩
 by_cases hj:j<i
 ·rw [if_pos hj,if_pos hj];exact ⟨_,rfl⟩
 ·rw [if_neg hj,if_neg hj];exact ⟨_,rfl⟩
theorem Me:GW X (.type "int") (λxs H Q=>(∃ i,xs=[.int i]∧Q (.int i) H)∨∃ k,xs=[.bl k]∧Q (.int (if k then 1 else 0)) H):=by
 intro pins s σ H xs us Q I r h
 rcases h with ⟨i,rfl,q⟩|⟨k,rfl,q⟩
 ·obtain ⟨u,rfl,t,rfl⟩:=vals1 r
  exact call_int_int ⟨.int i,H,I,⟨_,rfl⟩,q⟩
 ·obtain ⟨u,rfl,r1⟩:=vals1 r
  cases r1
  exact call_int_bool ⟨.int (if k then 1 else 0),H,I.tok _,⟨_,rfl⟩,q⟩
end
structure ObjM (h:Heap) (x dx C:Addr) (mA:Str->Option Value):Prop where
 obj:h.get? x=some (PySem.W.instObj C dx)
 ns:h.Ns1 dx mA
 ne:dx≠x
theorem QO {h:Heap}{dx:Addr}{mA:Str->Option Value}(n:h.Ns1 dx mA):∃ od,h.get? dx=some od∧∀ name,PySem.W.lookIn name od=some (mA name):=by
 obtain ⟨o,es,ep,ho,hd,hk,_,hm⟩:=n
 refine ⟨o,ho,λname=>?_⟩
 have e:=hm name
 unfold nsFind findBy at e
 rw [← Array.find?_toList] at e
 unfold PySem.W.lookIn
 rw [hd]
 dsimp only
 split
 ·rename_i y q
  rw [q] at e
  exact congrArg some e
 ·rename_i q
  rw [q] at e
  have a:es.toList.any (·.refKey)=false:=by
   rw [List.any_eq_false]
   intro y hy
   obtain ⟨z,t,hkey⟩:=hk y (Array.mem_toList_iff.mp hy)
   simp [DictEntry.refKey,hkey]
  have a':¬ es.toList.any (·.refKey)=true:=by rw [a];exact AF
  rw [if_neg a']
  exact congrArg some e
theorem ObjM.look {h:Heap}{x dx C:Addr}{mA:Str->Option Value}(I:ObjM h x dx C mA):∃ od,PySem.W.InstAt h x (PySem.W.instObj C dx) C (some od)∧∀ name,PySem.W.lookIn name od=some (mA name):=
 let ⟨od,ho,hl⟩:=QO I.ns
 ⟨od,⟨I.obj,rfl,rfl,ho⟩,hl⟩
section
variable {P:Program} {w:World} {H H':Hp} {h h':Heap} {a C dx:Addr} {fs fs':List (Str×V)}
theorem U7 (hok:HOk P w H h)(e:H a=some (.ins C dx fs)):∃ mA,ObjM h a dx C mA∧(∀ f,YE (fs.lookup f) (mA f))∧PySem.Within mA (fs.map (·.1))∧fs.length≤1000∧H dx=some (.own a):=by
 obtain ⟨d,z,ne,ob,mA,n,r,q⟩:=(show ObjOk P w H h a (.ins C dx fs) from hok a _ e)
 exact ⟨mA,⟨ob,n,ne⟩,r,q,z,d⟩
end
structure Cls (K:PySem.W.Frag) (C:Addr):Prop where
 pg:PySem.W.plainGet K C Str.empty=true
 hd:PySem.W.hasDictIn K C=true
 po:PySem.W.plainOver K C=true
 sa:PySem.W.findIn K (.ref C) "__setattr__"=some (some (.builtin "object.__setattr__"))
theorem Cls.get {K:PySem.W.Frag}{C:Addr}(c:Cls K C)(f:Str):PySem.W.plainGet K C f=true:=c.pg
section
variable {X:Cx} {pins:List (Addr×Obj)} {σ:St} {H:Hp} {s:Shared} {A:Around} {E:Value->Shared->Prop} {Q:Value->Shared->Prop} {c:Value} {b:Bool}
inductive J1 (K:PySem.W.Frag) (H:Hp):V->Value->Prop where
 | non:J1 K H .non (.type "NoneType")
 | bl (x:Bool):J1 K H (.bl x) (.type "bool")
 | int (i:Int):J1 K H (.int i) (.type "int")
 | str (x:Str):J1 K H (.str x) (.type "str")
 | flt (x:UInt64):J1 K H (.flt x) (.type "float")
 | lst {a:Addr} {xs:List V} (e:H a=some (.lst xs)):J1 K H (.ref a) (.type "list")
 | frz {a:Addr} {o:Obj} {xs:List V} (e:H a=some (.frz o (.lst xs))):J1 K H (.ref a) (.type "list")
 | tup {a:Addr} {xs:List V} (e:H a=some (.tup xs)):J1 K H (.ref a) (.type "tuple")
 | dK {a:Addr} {kvs:List (Key×V)} (e:H a=some (.dK kvs)):J1 K H (.ref a) (.type "dict")
 | dT {a:Addr} {kvs:List (List Key×V)} (e:H a=some (.dT kvs)):J1 K H (.ref a) (.type "dict")
 | ins {a C dx:Addr} {fs:List (Str×V)} (e:H a=some (.ins C dx fs)) (cl:Cls K C) (ha:PySem.W.findIn K (.ref C) "__class__"=some (some (.builtin "object.__class__")))
   (hn:PySem.W.specialIn K (.builtin "object.__class__") "__get__"=some (some (.builtin "getset_descriptor.__get__"))) (htk:PySem.W.takesIn K (.builtin "object.__class__")=some true)
   (hm:PySem.W.mroIn K C (.type "object")=some true):J1 K H (.ref a) (.ref C)
theorem G8 {x:V}{u t:Value}(I:Inv X pins σ H s)(rx:RelV x u)(ty:J1 X.K H x t)(e:PySem.W.kitOne X.K t c=some b)(h:∀ tk,Q (.bool b) { s with toks:=tk }) :
  wpAny (model X.prog X.w) A (call (.builtin "isinstance") [u,c]) Q E s:=by
 cases ty with
 | non=>cases (show u=Value.none from rx);exact Bd PySem.W.kitx_none I.kIn True.intro e (λz=>nomatch z) h
 | bl y=>cases (show u=Value.bool y from rx);exact Bd PySem.W.kitx_bool I.kIn True.intro e (λz=>nomatch z) h
 | int i=>obtain ⟨t,q⟩:=(show ∃ t,u=Value.int i t from rx);cases q;exact Bd PySem.W.kitx_int I.kIn True.intro e (λz=>nomatch z) h
 | str y=>obtain ⟨t,q⟩:=(show ∃ t,u=Value.str y t from rx);cases q;exact Bd PySem.W.kitx_str I.kIn True.intro e (λz=>nomatch z) h
 | flt y=>obtain ⟨t,q⟩:=(show ∃ t,u=Value.float y t from rx);cases q;exact Bd PySem.W.kitx_float I.kIn True.intro e (λz=>nomatch z) h
 | @lst a xs ea =>
  cases (show u=Value.ref a from rx)
  obtain ⟨_,_,n,_,h1⟩:=(show ObjOk X.prog X.w H s.heap a (.lst xs) from I.hok a _ ea)
  exact Bd PySem.W.kitx_list I.kIn ⟨_,h1,rfl⟩ e (λz=>nomatch z) h
 | @frz a ob xs ea =>
  cases (show u=Value.ref a from rx)
  obtain ⟨_,_,_,n,_,h1⟩:=(show ObjOk X.prog X.w H s.heap a (.frz ob (.lst xs)) from I.hok a _ ea)
  exact Bd PySem.W.kitx_list I.kIn ⟨_,h1,rfl⟩ e (λz=>nomatch z) h
 | @tup a xs ea =>
  cases (show u=Value.ref a from rx)
  obtain ⟨_,_,_,p⟩:=(show ObjOk X.prog X.w H s.heap a (.tup xs) from I.hok a _ ea)
  obtain ⟨o,h1,h2,_⟩:=p
  exact Bd PySem.W.kitx_tuple I.kIn ⟨o,h1,h2⟩ e (λz=>nomatch z) h
 | @dK a kvs ea =>
  cases (show u=Value.ref a from rx)
  obtain ⟨_,_,vs,_,p⟩:=(show ObjOk X.prog X.w H s.heap a (.dK kvs) from I.hok a _ ea)
  obtain ⟨o,es,ep,h1,h2,_⟩:=p
  exact Bd PySem.W.kitx_dict I.kIn ⟨o,h1,h2.1⟩ e (λz=>nomatch z) h
 | @dT a kvs ea =>
  cases (show u=Value.ref a from rx)
  obtain ⟨_,_,xs,_,o,es,ep,h1,h2,_⟩:=(show ObjOk X.prog X.w H s.heap a (.dT kvs) from I.hok a _ ea)
  exact Bd PySem.W.kitx_dict I.kIn ⟨o,h1,h2.1⟩ e (λz=>nomatch z) h
 | @ins a C dx fs ea cl ha hn htk hm =>
  cases (show u=Value.ref a from rx)
  obtain ⟨mA,O,_⟩:=U7 I.hok ea
  obtain ⟨od,J,_⟩:=O.look
  exact Bd (PySem.W.kitx_own (cl.get _) cl.hd ha hn htk hm) I.kIn J e (λz=>nomatch z) h
end
structure Room (k:Nat) (A:Around):Prop where
 hd:A.handled=none
 dp:A.depth+3*k+5<recursionLimit
 un:A.units+16*k+200<cLine
 gd:A.guards=some []
theorem Room.mono {j k:Nat}{A:Around}(r:Room k A)(h:j≤k):Room j A:=⟨r.hd,by have:=r.dp;omega,by have:=r.un;omega,r.gd⟩
theorem Room.deeper {k:Nat}{A:Around}(r:Room (k+1) A)(env:Env):Room k (A.deeper env):=
 ⟨r.hd,by have:=r.dp;show A.depth+1+3*k+5<_;omega,by have:=r.un;show A.units+3+16*k+200<_;omega,r.gd⟩
theorem Room.depth {k:Nat}{A:Around}(r:Room k A):A.depth<recursionLimit:=by have:=r.dp;omega
theorem Room.units {k:Nat}{A:Around}(r:Room k A):A.units+64<cLine:=by have:=r.un;omega
noncomputable def AbC:TA:=λ_ H Q=>Q [] H
noncomputable def AaD (ta:TE)(tr:TA):TA:=fun σ H Q=>ta σ H λx H1=>tr σ H1 λxs H2=>Q (x::xs) H2
section
variable {X:Cx} {e:Expr} {es:List Expr} {te:TE} {t:TA} {pos:Pos}
theorem R6:PA X [] AbC:=λ_ _ _ _ H Q I h=>Calls.spliced_nil ⟨[],H,I,.nil,h⟩
theorem MW (ha:PE X e te)(hr:PA X es t)(hs:starEach (e::es) X.env=(false,eval e X.env)::starEach es X.env:=by rfl):PA X (e::es) (AaD te t):=by
 intro pos pins s σ H Q I h
 rw [hs]
 show wpAny _ _ (spliced ((false,eval e X.env)::backTo pos (starEach es X.env))) _ _ s
 refine Calls.spliced_cons (thn (ha pins s σ H _ I h) λu s1 ⟨x,H1,I1,r1,q1⟩=>?_)
 exact thn (hr pos pins s1 σ H1 _ I1 q1) λus s2 ⟨xs,H2,I2,r2,q2⟩=>⟨x::xs,H2,I2,.cons r1 r2,q2⟩
noncomputable def AbF (t:TA):TE:=fun σ H Q=>t σ H λxs H1=>xs.length≤sizeLine∧∀ p,H1 p=none->Q (.ref p) (upd H1 p (.tup xs))
noncomputable def AbO (t:TA):TE:=fun σ H Q=>t σ H λxs H1=>xs.length≤sizeLine∧∀ p,H1 p=none->Q (.ref p) (upd H1 p (.lst xs))
theorem XJ {x1}(h:PA X es t):PE X (.Tuple es x1 pos) (AbF t):=by
 intro pins s σ H Q I hq
 refine wpAny_Tuple_spliced (thn (h pos pins s σ H _ I hq) λus s1 ⟨xs,H1,I1,r,z,q⟩=>⟨by rw [← r.length];exact z,?_⟩)
 have hf:H1 s1.heap.objs.size=none:=I1.hok.fresh (Ah _)
 refine ⟨.ref s1.heap.objs.size,upd H1 s1.heap.objs.size (.tup xs),I1.laid (t':=s1.toks) (λb u e=>Ad _ e) (Ah _) ?_,rfl,q _ hf⟩
 exact ⟨⟨z,⟨_,Ai _ rfl,rfl⟩⟩,us,r,⟨_,Ai _ rfl,rfl,_,rfl⟩⟩
theorem TH (h:PA X es t):PE X (.List es pos) (AbO t):=by
 intro pins s σ H Q I hq
 refine wpAny_List_spliced (thn (h pos pins s σ H _ I hq) λus s1 ⟨xs,H1,I1,r,z,q⟩=>⟨by rw [← r.length];exact z,?_⟩)
 have hf:H1 s1.heap.objs.size=none:=I1.hok.fresh (Ah _)
 refine ⟨.ref s1.heap.objs.size,upd H1 s1.heap.objs.size (.lst xs),I1.laid (t':=s1.toks) (λb u e=>Ad _ e) (Ah _) ?_,rfl,q _ hf⟩
 exact ⟨z,us,0,r,Ai _ rfl⟩
end
noncomputable abbrev Sp:=List V->Hp->VK->XK->Prop
noncomputable abbrev CXT:=List Env->Hp->Shared->XK->Value->Shared->Prop
structure VL (P:Program) (w:World) (K:PySem.W.Frag) (mg:Str->Option Value) (base:Heap) (A:Around) (outer:List Env) (s:Shared) (H:Hp):Prop where
 frames:A.frames=some outer
 mod:Mod K mg base
 bs:∀ b o,base.get? b=some o->s.heap.get? b=some o∧H b=none
 bsz:base.objs.size≤s.heap.objs.size
 funs:s.heap.FunFrames base outer
 frf:∀ b∈frs outer,H b=none
 hok:HOk P w H s.heap
 bare:AllBare s.gens
noncomputable def CE (outer:List Env)(P:Program)(w:World)(H:Hp)(s:Shared)(Q:VK)(u:Value)(s':Shared):Prop:=
 ∃ v H',s'.os=s.os∧AllBare s'.gens∧Un (frs outer) [] H H' s.heap s'.heap∧HOk P w H' s'.heap∧RelV v u∧Q v H'
noncomputable def CR (CX:CXT)(outer:List Env)(P:Program)(w:World)(H:Hp)(s:Shared)(Q:VK)(E:XK)(r:Result)(s':Shared):Prop:=
 match r with
 | .ok (.ret u)=>CE outer P w H s Q u s'
 | .ok _=>False
 | .error e=>CX outer H s E e s'
structure DS (P:Program) (w:World) (K:PySem.W.Frag) (mg:Str->Option Value) (base:Heap) (CX:CXT) (k:Nat) (f:Addr) (fd:FuncData) (ps:List Str) (sp:Sp):Prop where
 len:∀ vs H Q E,sp vs H Q E->vs.length=ps.length
 run:∀ (A:Around) (outer:List Env) (s:Shared) (H:Hp) (args:Args) (us:List Value) (vs:List V) (Q:VK) (E:XK),Room k A->VL P w K mg base A outer s H->BindsTo s fd args (ps.zip us)->Vals vs us->sp vs H Q E ->
  codeAny (model P w) A (.call (.ref f) args) (CR CX outer P w H s Q E) s
section
variable {X:Cx} {pins:List (Addr×Obj)} {σ:St} {H:Hp} {s s':Shared}
theorem Inv.env0 (I:Inv X pins σ H s):VL X.prog X.w X.K X.mg X.base X.A X.stack s H:=
 ⟨I.ok.frames,I.ok.mod,I.bs,AA I.ok.bsz I.sz,I.stack,I.stkFree,I.hok,I.bare⟩
theorem Inv.after {Q:VK}{u:Value}(I:Inv X pins σ H s)(h:CE X.stack X.prog X.w H s Q u s'):EP X pins σ Q u s':=by
 obtain ⟨v,H',os,bare,un,hok,r,q⟩:=h
 obtain ⟨hh,g,d,t,os'⟩:=s'
 obtain rfl:os'=s.os:=os
 exact ⟨v,H',I.call (h':=hh) (g':=g) (d':=d) (t':=t) (ch:=[]) un hok bare (λb z=>absurd z (by simp)),r,q⟩
end
noncomputable def ZN (sp:Sp)(dvs:List V)(E:XK)(t:TA):TE:=fun σ H Q=>t σ H λvs H1=>sp (vs++dvs) H1 Q E
noncomputable def Binds (K:PySem.W.Frag)(fd:FuncData)(ps:List Str)(ds:List Value):Prop:=
 ∀ (s:Shared) (us:List Value),K.In s.heap->(us++ds).length=ps.length->BindsTo s fd ⟨us,[]⟩ (ps.zip (us++ds))
theorem Binds.all {K:PySem.W.Frag}{fd:FuncData}{ps:List Str}(h:∀ us:List Value,us.length=ps.length->bindArgs fd ⟨us,[]⟩=pure (ps.zip us)):Binds K fd ps []:=λs us _ hl=>by
 rw [List.append_nil] at hl ⊢
 exact .of_eq (h us hl)
noncomputable def Passes (CX:CXT)(X:Cx)(E:XK):Prop:=∀ (pins:List (Addr×Obj)) (σ:St) (H:Hp) (s:Shared) (e:Value) (s':Shared),Inv X pins σ H s->CX X.stack H s E e s'->X.xe e s'
section
variable {X:Cx} {CX:CXT} {k:Nat} {f C:Addr} {fd:FuncData} {ps:List Str} {sp:Sp} {dvs:List V} {ds:List Value} {E:XK} {x m:Str} {p pos apos:Pos} {e o:Expr} {es:List Expr} {ta:TE} {t:TA}
theorem XQ {pins:List (Addr×Obj)}{σ:St}{H:Hp}{s:Shared}{Q:VK}{us:List Value}{vs:List V}(F:DS X.prog X.w X.K X.mg X.base CX k f fd ps sp)(hr:Room k X.A)(hb:Binds X.K fd ps ds)(hd:Vals dvs ds)(hx:Passes CX X E)
  (I:Inv X pins σ H s) (r:Vals vs us) (h:sp (vs++dvs) H Q E):wpAny (model X.prog X.w) X.A (call (.ref f) us) (EP X pins σ Q) X.xe s:=by
 have r2:Vals (vs++dvs) (us++ds):=r.append hd
 have hl:(us++ds).length=ps.length:=by rw [← r2.length];exact F.len _ _ _ _ h
 refine wpAny_call (codeAny_mono (F.run X.A X.stack s H ⟨us,[]⟩ (us++ds) (vs++dvs) Q E hr I.env0 (hb s us I.kIn hl) r2 h) λr s' hq=>?_)
 cases r with
 | error e=>exact hx pins σ H s e s' I hq
 | ok fl =>
  cases fl with
  | ret u=>exact I.after hq
  | next=>exact False.elim hq
  | brk=>exact False.elim hq
  | cont=>exact False.elim hq
theorem Wq (F:DS X.prog X.w X.K X.mg X.base CX k f fd ps sp)(hr:Room k X.A)(hg:Gl X x)(hm:X.mg x=some (.ref f))(hk:PySem.W.keepIn X.K (.ref f)=true)(hb:Binds X.K fd ps ds)(hd:Vals dvs ds)(hx:Passes CX X E)
  (ha:PA X (e::es) t) (hdb:(x==("__debug__":Str))=false:=by decide) (he:starEach (e::es) X.env=(false,eval e X.env)::starEach es X.env:=by rfl) (hpl:(backTo pos (starEach es X.env)).any (·.1)=false:=by rfl) :
  PE X (.Call (.Name x p) (e::es) [] pos) (ZN sp dvs E t):=by
 intro pins s σ H Q I h
 refine wpAny_Call_Name_kw (Qf I hg hm ?_ hdb)
 refine PySem.W.callWith_K (h₀:=X.base) I.ok.mod.kin hk (thn (ha pos pins s σ H _ I h) λus s1 ⟨vs,H1,I1,r,q⟩=>⟨I1.kIn,?_⟩) he hpl
 exact XQ F hr hb hd hx I1 r q
end
structure Cw (N P:List Str) (sc:Scope):Prop where
 kind:sc.kind=.function
 co:sc.isCoroutine=false
 gen:sc.isGenerator=false
 nd:N.Nodup
 pre:N.take P.length=P
 par:∀ x∈P,sc.names.lookup x=some .local∨sc.names.lookup x=some .cell
 nofree:∀ y∈sc.names,y.2≠.free
theorem Mw {kindOf:Str->Option NameKind}{x:Str}:∀ {binds:List (Str×Value)} {m:Str->Option Value},(∀ v,(x,v)∉binds)->bindL kindOf binds m x=m x
 | [],_,_=>rfl
 | (n,v)::r,m,h=>by
  unfold bindL
  rw [Mw λw hw=>h w (Bq _ hw)]
  split
  ·have:x≠n:=by rintro rfl;exact h v List.mem_cons_self
   simp [this]
  ·rfl
theorem LY {kindOf:Str->Option NameKind}{x:Str}:∀ {binds:List (Str×Value)} {m:Str->Option Value},(∀ v,(x,v)∉binds)->bindC kindOf binds m x=m x
 | [],_,_=>rfl
 | (n,v)::r,m,h=>by
  unfold bindC
  rw [LY λw hw=>h w (Bq _ hw)]
  split
  ·rfl
  ·have:x≠n:=by rintro rfl;exact h v List.mem_cons_self
   simp [this]
theorem L5 {kindOf:Str->Option NameKind}{x:Str}{v:Value}:∀ {P:List Str} {vs:List Value} {i:Nat} {m:Str->Option Value},P.Nodup->P[i]? = some x->vs[i]? = some v->kindOf x=some .local ->
  bindL kindOf (P.zip vs) m x=some v
 | [],_,_,_,_,h,_,_=>by simp at h
 | _::_,[],_,_,_,_,h,_=>by simp at h
 | p::P,w::vs,0,m,nd,h1,h2,hk=>by
  simp at h1 h2;subst h1;subst h2
  show bindL kindOf ((p,w)::P.zip vs) m p=_
  unfold bindL
  rw [Mw λv hv=>(Bn.mp nd).1 (List.of_mem_zip hv).1,if_pos hk]
  simp
 | p::P,w::vs,i+1,m,nd,h1,h2,hk=>by
  show bindL kindOf ((p,w)::P.zip vs) m x=_
  unfold bindL
  exact L5 (i:=i) (Bn.mp nd).2 (by simpa using h1) (by simpa using h2) hk
theorem Mf {kindOf:Str->Option NameKind}{x:Str}{v:Value}:∀ {P:List Str} {vs:List Value} {i:Nat} {m:Str->Option Value},P.Nodup->P[i]? = some x->vs[i]? = some v->kindOf x≠some .local ->
  bindC kindOf (P.zip vs) m x=some v
 | [],_,_,_,_,h,_,_=>by simp at h
 | _::_,[],_,_,_,_,h,_=>by simp at h
 | p::P,w::vs,0,m,nd,h1,h2,hk=>by
  simp at h1 h2;subst h1;subst h2
  show bindC kindOf ((p,w)::P.zip vs) m p=_
  unfold bindC
  rw [LY λv hv=>(Bn.mp nd).1 (List.of_mem_zip hv).1,if_neg hk]
  simp
 | p::P,w::vs,i+1,m,nd,h1,h2,hk=>by
  show bindC kindOf ((p,w)::P.zip vs) m x=_
  unfold bindC
  exact Mf (i:=i) (Bn.mp nd).2 (by simpa using h1) (by simpa using h2) hk
noncomputable def start (N:List Str)(vs:List V):St:=vs.map some++List.replicate (N.length-vs.length) none
noncomputable def Lr (CX:CXT)(P:Program)(w:World)(K:PySem.W.Frag)(mg:Str->Option Value)(base:Heap)(N:List Str)(qual:Str)(scope:Scope)(f:Addr)(cd:Value)(A:Around)(outer:List Env)(s:Shared)(H:Hp)(E:XK):Cx where
 prog:=P
 w:=w
 K:=K
 mg:=mg
 base:=base
 A:=A.deeper (envOfC qual scope s.heap.objs.size f cd)
 N:=N
 s₀:=s
 H₀:=H
 env:=envOfC qual scope s.heap.objs.size f cd
 outer:=outer
 stack:=envOfC qual scope s.heap.objs.size f cd::outer
 ex:=[]
 calm:=true
 fn:=λ_=>true
 pn:=[]
 xe:=λe s'=>wpAny (model P w) (A.deeper (envOfC qual scope s.heap.objs.size f cd)) (leaving (envOfC qual scope s.heap.objs.size f cd) e) (λ_ s''=>CX outer H s E e s'') (λe' s''=>CX outer H s E e' s'') s'
theorem NI {sc:Scope}{n:Nat}{x:Str}(h:sc.names.lookup x=some .cell):∃ c,(cellsFrom n sc.names []).lookup x=some c:=by
 have q:=PySem.W.cellsFrom_some sc.names n [] (.inl h)
 exact Option.isSome_iff_exists.mp q
theorem RQ {CX:CXT}{P:Program}{w:World}{K:PySem.W.Frag}{mg:Str->Option Value}{base:Heap}{N ps:List Str}{qual:Str}{scope:Scope}{f:Addr}{cd:Value}{A:Around}{outer:List Env}{s s1:Shared}{H:Hp}{E:XK}{us:List Value}{vs:List V}
  (S:Cw N ps scope) (hd:A.handled=none) (e0:VL P w K mg base A outer s H) (hl:vs.length=ps.length) (r:Vals vs us)
  (x:InCallC s s.heap.objs.size (bindL (envOfC qual scope s.heap.objs.size f cd).kindOf (ps.zip us) λ_=>none) (cellsFrom (s.heap.objs.size+1) scope.names []) (bindC (envOfC qual scope s.heap.objs.size f cd).kindOf (ps.zip us) λ_=>none) s1) :
  Inv (Lr CX P w K mg base N qual scope f cd A outer s H E) [] (start N vs) H s1:=by
 have hpl:ps.length≤N.length:=by have:=congrArg List.length S.pre;rw [Bc] at this;omega
 obtain ⟨h1,tk,rfl,hk⟩:=x.done
 have noA:∀ b:Addr,b∉(Lr CX P w K mg base N qual scope f cd A outer s H E).ex:=λb z=>absurd (show b∈([]:List Addr) from z) (by simp)
 refine ⟨⟨e0.mod,S.kind,rfl,rfl,Ah _,λy z c h1 h2=>?_,λy hy=>?_,λy c _ h=>?_,λ_=>hd,Around.frames_deeper e0.frames,.inr ⟨rfl,rfl⟩,λb z=>absurd z (noA b),e0.bs,e0.bsz,λb _ _=>noA b,λb z=>absurd z (noA b),e0.funs,e0.frf⟩,
  rfl,e0.bare,Un.kept hk,⟨_,x.toInCall.ns,λi y v h1 h2 h3=>?_⟩,λy c h=>⟨_,x.cell y c h⟩,e0.hok.fresh (Ah _),λy c h=>?_,λp hp=>absurd (show p∈([]:List (Addr×Obj)) from hp) (by simp),e0.hok.kept hk,?_⟩
 ·exact name_of_addr x.apart (BZ h1) (BZ h2)
 ·have hy:scope.names.lookup y=some .cell∨scope.names.lookup y=some .free:=hy
  rcases hy with hy|hy
  ·exact NI hy
  ·exact absurd rfl (S.nofree _ (BZ hy))
 ·exact Nat.le_of_lt (x.above y c (BZ h))
 ·have hi:i<vs.length:=by
   unfold start at h2
   by_cases hi:i<vs.length
   ·exact hi
   ·rw [Bk (by simpa using hi)] at h2
    rw [BA] at h2
    split at h2<;>cases h2
  have ha:vs[i]? = some v:=by
   unfold start at h2
   rw [Ax (by simpa using hi),Av] at h2
   cases e:vs[i]? with
   | none=>rw [e] at h2;cases h2
   | some a=>rw [e] at h2;cases h2;rfl
  obtain ⟨u,hu,rv⟩:=r.get ha
  have hp:ps[i]? = some y:=by
   rw [← S.pre,Bx (by omega)];exact h1
  have ndP:ps.Nodup:=by rw [← S.pre];exact S.nd.sublist (List.take_sublist _ _)
  refine ⟨u,rv,?_⟩
  rcases S.par y (Ar hp) with k|k
  ·exact .inl ⟨k,L5 ndP hp hu k⟩
  ·obtain ⟨c,e⟩:=NI (n:=s.heap.objs.size+1) k
   refine .inr ⟨.inl k,c,e,?_⟩
   have q:=x.cell y c e
   rw [Mf ndP hp hu (by show scope.names.lookup y≠_;rw [k];decide)] at q
   exact q
 ·exact e0.hok.fresh (Nat.le_of_lt (x.above y c (BZ h)))
 ·unfold start
  show _=N.length
  rw [Az,Ag,BH]
  omega
theorem Aad {CX:CXT}{P:Program}{w:World}{K:PySem.W.Frag}{mg:Str->Option Value}{base:Heap}{k:Nat}{f:Addr}{name qual:Str}{params:Arguments}{body:List Stmt}{scope:Scope}{dV kV doc pm cdv ct oc:Value}{an od:Option Addr}
  {osl:Array (Option Value)} {N ps:List Str} {sp:Sp} (lk:K.lookup f=some ⟨oc,od,.func (PySem.W.fnOf name qual params body scope dV kV doc pm an cdv ct),osl⟩) (hcd:PySem.W.codeIn K cdv qual=true) (S:Cw N ps scope)
  (len:∀ vs H Q E,sp vs H Q E->vs.length=ps.length)
  (hbody:∀ (A:Around) (outer:List Env) (s:Shared) (H:Hp) (vs:List V) (Q:VK) (E:XK),Room k (A.deeper (envOfC qual scope s.heap.objs.size f cdv))->sp vs H Q E ->
   ∃ t,PSs (Lr CX P w K mg base N qual scope f cdv A outer s H E) body t∧t { nx:=λ_ H'=>Q .non H',rt:=Q } (start N vs) H) :
  DS P w K mg base CX (k+1) f (PySem.W.fnOf name qual params body scope dV kV doc pm an cdv ct) ps sp:=by
 refine ⟨len,λA outer s H args us vs Q E hr e0 hb r hsp=>?_⟩
 have hl:=len _ _ _ _ hsp
 have KX:K.In s.heap:=e0.mod.kin.keeps λb o e=>(e0.bs b o e).1
 have lim:s.heap.NoLimit:=e0.mod.nolimit.keeps λb o e=>(e0.bs b o e).1
 have hkind:∀ y∈ps.zip us,scope.names.lookup y.1=some .local∨(scope.names.lookup y.1=some .cell∧((cellsFrom (s.heap.objs.size+1) scope.names []).lookup y.1).isSome=true):=λ⟨n,v⟩ hy=>by
  rcases S.par n (List.of_mem_zip hy).1 with q|q
  ·exact .inl q
  ·exact .inr ⟨q,PySem.W.cellsFrom_some _ _ _ (.inl q)⟩
 refine codeAny_call_function hr.depth (KX _ _ lk) rfl S.co S.gen rfl (PySem.W.codeRec_of KX hcd) (hb _ _ _ _ ?_)
 refine wpAny_newFunctionEnv_cells S.kind hkind λenv he s1 x=>?_
 subst he
 refine ⟨lim.keeps x.toInCall.keep,codeAny_func ?_⟩
 obtain ⟨t,ht,hq⟩:=hbody A outer s H vs Q E (hr.deeper _) hsp
 have I:Inv (Lr CX P w K mg base N qual scope f cdv A outer s H E) [] (start N vs) H s1:=RQ S hr.hd e0 hl r x
 refine BS (ht [] s1 (start N vs) H _ I hq) (λfl s' hs=>?_) λe s' hs=>hs
 have fin:∀ {σ':St} {H':Hp} {v:V} {u:Value},Inv (Lr CX P w K mg base N qual scope f cdv A outer s H E) [] σ' H' s'->RelV v u->Q v H'->CE outer P w H s Q u s':=
  λ{σ' H' v u} J rv q=>⟨v,H',J.os,J.bare,J.base,J.hok,rv,q⟩
 cases fl with
 | ret u =>
  obtain ⟨v,σ',H',J,rv,q⟩:=hs
  exact fin J rv q
 | next =>
  obtain ⟨σ',H',J,q⟩:=hs
  exact fin (v:=V.non) (u:=Value.none) J rfl q
 | brk =>
  obtain ⟨_,_,_,q⟩:=hs
  exact False.elim q
 | cont =>
  obtain ⟨_,_,_,q⟩:=hs
  exact False.elim q
section
variable {X:Cx} {x:Str} {p pos:Pos} {e:Expr} {es:List Expr} {t:TA} {id T:String} {r:List V->Hp->VK->Prop}
noncomputable def tCB (r:List V->Hp->VK->Prop)(t:TA):TE:=fun σ H Q=>t σ H λvs H1=>r vs H1 Q
theorem OA (hc:GW X (.builtin id) r)(hg:Gl X x)(hm:X.mg x=none)(hv:bootBuiltins x=some (.builtin id))(ha:PA X (e::es) t)(hn:x≠"__name__":=by decide)(hdb:(x==("__debug__":Str))=false:=by decide)
  (he:starEach (e::es) X.env=(false,eval e X.env)::starEach es X.env:=by rfl) (hpl:(backTo pos (starEach es X.env)).any (·.1)=false:=by rfl):PE X (.Call (.Name x p) (e::es) [] pos) (tCB r t):=by
 intro pins s σ H Q I h
 refine wpAny_Call_Name_kw (J8 I hg hm hv ?_ hn hdb)
 exact PyProof.Rows.callWith_builtin1 (thn (ha pos pins s σ H _ I h) λus s1 ⟨vs,H1,I1,r1,q1⟩=>hc pins s1 σ H1 vs us Q I1 r1 q1) he hpl
theorem QQ (hc:GW X (.type T) r)(hg:Gl X x)(hm:X.mg x=none)(hv:bootBuiltins x=some (.type T))(ha:PA X (e::es) t)(hn:x≠"__name__":=by decide)(hdb:(x==("__debug__":Str))=false:=by decide)
  (he:starEach (e::es) X.env=(false,eval e X.env)::starEach es X.env:=by rfl) (hpl:(backTo pos (starEach es X.env)).any (·.1)=false:=by rfl):PE X (.Call (.Name x p) (e::es) [] pos) (tCB r t):=by
 intro pins s σ H Q I h
 refine wpAny_Call_Name_kw (J8 I hg hm hv ?_ hn hdb)
 exact B5 (thn (ha pos pins s σ H _ I h) λus s1 ⟨vs,H1,I1,r1,q1⟩=>hc pins s1 σ H1 vs us Q I1 r1 q1) he hpl
end
end L2
namespace HT
open PySem PyProof.Rows
section
open PySem.SeqAt
open PySem.AutoSeq1 (wpAny_loadPart')
open PySem.MeetsSeq PySem.MeetsSeq2 PySem.MeetsSeq3
end
section
variable {prog:Program} {w:World} {A:Around} {E:Value->Shared->Prop} {s:Shared}
theorem Vq {t b:Addr}{vs ws:List Value}{Q:Value->Shared->Prop}(ht:IsTup s.heap t vs.toArray)(hb:IsTup s.heap b ws.toArray)(hv:vs≠[])
  (h1:ws=[]->Q (.ref t) s) (h2:ws≠[]->Q (.ref s.heap.objs.size) { s with heap:=s.heap.push { cls:=.type "tuple",data:=.seq (vs++ws).toArray } })
  (hsz:vs.length+ws.length≤sizeLine):wpAny (model prog w) A (binaryOp .Add (.ref t) (.ref b)) Q E s:=by
 obtain ⟨⟨cls,dd,data,sl⟩,ho,hc,n,hd⟩:=id ht
 obtain ⟨⟨cls2,dd2,data2,sl2⟩,ho2,hc2,n2,hd2⟩:=id hb
 simp only at hc hd hc2 hd2
 subst hc hd hc2 hd2
 have e:vs.toArray++ws.toArray=(vs++ws).toArray:=by simp
 by_cases hw:ws=[]
 ·exact concat_meets ⟨_,ho,rfl⟩ ⟨_,ho2,rfl⟩ noFill_tuple_add seq_tuple_add PySem.F.slot_tuple_add PySem.F.entry_tuple_add (PySem.F.args_tuple_add_2 _ _)
   (tuple_addW1 t b vs.toArray ws.toArray n n2 dd dd2 sl sl2 (by simpa using hv) (by simp [hw])) ⟨ho,ho2,h1 hw⟩
 ·refine concat_meets ⟨_,ho,rfl⟩ ⟨_,ho2,rfl⟩ noFill_tuple_add seq_tuple_add PySem.F.slot_tuple_add PySem.F.entry_tuple_add (PySem.F.args_tuple_add_2 _ _)
   (tuple_addW2 t b vs.toArray ws.toArray n n2 dd dd2 sl sl2 (by simpa using hv) (by simpa using hw) (by rw [Ak,Ak];exact hsz)) ⟨ho,ho2,?_⟩
  rw [e]
  exact h2 hw
noncomputable def sIx (n d:Nat):Option Int->Nat
 | none=>d
 | some v=>if v<0 then (v+(n:Int)).toNat else min v.toNat n
theorem K8 (n d:Nat):sIx n d none=d:=rfl
theorem MD (n d k:Nat):sIx n d (some (k:Int))=min k n:=by
 show (if (k:Int)<0 then ((k:Int)+(n:Int)).toNat else min (k:Int).toNat n)=min k n
 rw [if_neg (by omega),Int.toNat_natCast]
theorem YU (n d:Nat)(hd:d≤n)(o:Option Int):sIx n d o≤n:=by
 cases o with
 | none=>exact hd
 | some v =>
  show (if v<0 then (v+(n:Int)).toNat else min v.toNat n)≤n
  by_cases hv:v<0
  ·rw [if_pos hv];omega
  ·rw [if_neg hv];exact Nat.min_le_right _ _
theorem P8 (v:Int)(n d:Nat):(if v<0 then max (v+(n:Int)) 0 else min v (n:Int))=((sIx n d (some v):Nat):Int):=by
 show (if v<0 then max (v+(n:Int)) 0 else min v (n:Int))=(((if v<0 then (v+(n:Int)).toNat else min v.toNat n):Nat):Int)
 by_cases hv:v<0
 ·simp only [if_pos hv];omega
 ·simp only [if_neg hv];omega
theorem Pq (lo hi:Option Int)(n:Nat):Builtin.Slice.sliceAdjust lo hi 1 (n:Int)=(((sIx n 0 lo:Nat):Int),((sIx n n hi:Nat):Int)):=by
 have h1:¬ ((1:Int)<0):=by omega
 unfold Builtin.Slice.sliceAdjust
 simp only [h1,A5]
 refine Prod.ext ?_ ?_
 ·cases lo with
  | none=>rfl
  | some v=>exact P8 v n 0
 ·cases hi with
  | none=>rfl
  | some v=>exact P8 v n n
theorem Pj (i j:Nat):Builtin.Slice.slicePlaces (i:Int) (j:Int) 1=j-i:=by
 unfold Builtin.Slice.slicePlaces
 have h1:(1:Int) > 0:=by omega
 simp only [h1,if_true,Int.ediv_one]
 split<;>omega
theorem Gz {v:Value}{o:Option Int}{Q:Option Int->Shared->Prop}(p:IsPart v o)(h:Q o s):wpAny (model prog w) A (Builtin.Slice.slicePartIndex v) Q E s:=by
 cases p with
 | none=>exact slicePart_none h
 | int i t=>exact slicePart_int h
theorem G5 {sl:Addr}{vl vu:Value}{lo hi:Option Int}{n:Nat}{Q:Int×Int×Nat->Shared->Prop}(hs:s.heap.IsSliceOf sl vl vu .none)(pl:IsPart vl lo)(pu:IsPart vu hi)
  (h:Q (((sIx n 0 lo:Nat):Int),1,sIx n n hi-sIx n 0 lo) s):wpAny (model prog w) A (Builtin.Slice.sliceApplied (.ref sl) (pure (n:Int))) Q E s:=by
 obtain ⟨os,hos,hcs,hds⟩:=id hs
 unfold Builtin.Slice.sliceApplied Builtin.Slice.sliceFields
 refine Aa (Aa (A6 hos hds (x:=vl) rfl (Aa (A6 hos hds (x:=vu) rfl (Aa (A6 hos hds (x:=.none) rfl (Ac ?_)))))))
 refine Aa (slicePart_none ?_)
 show wpAny _ _ (if ((1:Int)==0)=true then _ else _) _ _ s
 rw [if_neg (by decide)]
 refine Aa (Gz pl (Aa (Gz pu (Aa (Ac ?_)))))
 show wpAny _ _ (match Builtin.Slice.sliceAdjust lo hi 1 (n:Int) with|(lo,hi)=>pure (lo,(1:Int),Builtin.Slice.slicePlaces lo hi 1)) _ _ s
 rw [Pq lo hi n]
 show wpAny _ _ (pure (((sIx n 0 lo:Nat):Int),(1:Int),Builtin.Slice.slicePlaces ((sIx n 0 lo:Nat):Int) ((sIx n n hi:Nat):Int) 1)) _ _ s
 rw [Pj]
 exact Ac h
theorem Tf (xs:Array Value)(i k:Nat):((List.range k).filterMap λ(m:Nat)=>xs[((i:Int)+(m:Int)*1).toNat]?).toArray=((xs.toList.drop i).take k).toArray:=by
 have e:(λ(m:Nat)=>xs[((i:Int)+(m:Int)*1).toNat]?)=λm=>xs[i+m]?:=by
  funext m
  have:((i:Int)+(m:Int)*1).toNat=i+m:=by omega
  rw [this]
 rw [e]
 have:=pick_run xs i k
 rw [List.filterMap_map] at this
 have e2:((λx=>xs[x]?)∘λx=>i+x)=λm=>xs[i+m]?:=rfl
 rw [e2] at this
 rw [this]
theorem JK {t sl:Addr}{items:Array Value}{vl vu:Value}{lo hi:Option Int}{Q:Value->Shared->Prop}(ht:IsTup s.heap t items)(hs:s.heap.IsSliceOf sl vl vu .none)(pl:IsPart vl lo)(pu:IsPart vu hi)
  (hw:¬ (sIx items.size 0 lo=0∧sIx items.size items.size hi=items.size))
  (h:Q (.ref s.heap.objs.size) { s with heap:=s.heap.push { cls:=.type "tuple",data:=.seq ((items.toList.drop (sIx items.size 0 lo)).take (sIx items.size items.size hi-sIx items.size 0 lo)).toArray } })
  (hsz:items.size≤sizeLine):wpAny (model prog w) A (getItem (.ref t) (.ref sl)) Q E s:=by
 have htake:sizeOk (.seq ((items.toList.drop (sIx items.size 0 lo)).take (sIx items.size items.size hi-sIx items.size 0 lo)).toArray):=by
  show ((items.toList.drop (sIx items.size 0 lo)).take (sIx items.size items.size hi-sIx items.size 0 lo)).toArray.size≤sizeLine
  rw [Ak,Bc,BJ,Array.length_toList]
  omega
 have hj:sIx items.size items.size hi≤items.size:=YU _ _ (Ah _) hi
 obtain ⟨os,hos,hcs,hds⟩:=id hs
 have hTs:s.TypeIs (.ref sl) "slice":=⟨os,hos,hcs⟩
 unfold getItem
 try with_reducible refine AD ?_
 first|refine Aa (Ac ?_)|skip
 refine Aa (wpAny_sequenceKey ht.typeIs (by decide) ?_)
 refine Aa (AK (name:=Str.ofString "__getitem__") ht.typeIs AW
  (AM AW ht.typeIs entry_tuple_getitem ?_ (args_tuple_getitem _ _)))
 show wpAny _ _ (Builtin.Tuple.tupleItemsOf (.ref t) >>= _) _ _ s
 refine Aa (tupleItemsOf_ ht ?_)
 refine Aa (By hTs ?_)
 rw [if_pos (by decide)]
 refine Aa (G5 hs pl pu ?_)
 have hno:¬ ((((sIx items.size 0 lo:Nat):Int)==0&&(1:Int)==1&&(sIx items.size items.size hi-sIx items.size 0 lo)==items.size)=true):=by
  intro q
  rw [Ab,Ab] at q
  have q1:((sIx items.size 0 lo:Nat):Int)=0:=eq_of_beq q.1.1
  have q2:sIx items.size items.size hi-sIx items.size 0 lo=items.size:=eq_of_beq q.2
  exact hw ⟨by omega,by omega⟩
 show wpAny _ _ (if (((sIx items.size 0 lo:Nat):Int)==0&&(1:Int)==1&&(sIx items.size items.size hi-sIx items.size 0 lo)==items.size)=true then _ else _) _ _ s
 rw [if_neg hno,Tf]
 first
  | exact Aa (m:=Builtin.Tuple.tupleExact _) (AU (Ac ⟨_,rfl,Ac h⟩) htake)
  | exact Aa (m:=Builtin.Tuple.tupleExact _) (AU (Aa (Ac (Ac ⟨_,rfl,Ac h⟩))) htake)
  | exact Aa (Aa (m:=Builtin.Tuple.tupleExact _) (AU (Ac (Ac ⟨_,rfl,Ac h⟩)) htake))
  | exact Aa (Aa (m:=Builtin.Tuple.tupleExact _) (AU (Ac ⟨_,rfl,Ac h⟩) htake))
end
end HT
namespace L2
open PySem PySem.Spec PyProof.Rows
noncomputable abbrev TO:=St->Hp->(Option Int->Hp->Prop)->Prop
noncomputable def PO (X:Cx)(e:Option Expr)(t:TO):Prop:=
 ∀ (pins:List (Addr×Obj)) (s:Shared) (σ:St) (H:Hp) (Q:Option Int->Hp->Prop),Inv X pins σ H s->t σ H Q ->
  wpAny (model X.prog X.w) X.A (evalPart e X.env) (λu s'=>∃ o H',Inv X pins σ H' s'∧IsPart u o∧Q o H') X.xe s
noncomputable def We:TO:=λ_ H Q=>Q none H
noncomputable def Aaj (t:TE):TO:=fun σ H Q=>t σ H λx H1=>∃ i,x=.int i∧Q (some i) H1
section
variable {X:Cx} {e:Expr} {te:TE} {lo hi:Option Expr} {tl th:TO} {pos p2:Pos}
theorem Wk:PO X none We:=by
 intro pins s σ H Q I h
 rw [evalPart_none]
 exact Ac ⟨none,H,I,.none,h⟩
theorem VB (h:PE X e te):PO X (some e) (Aaj te):=by
 intro pins s σ H Q I hw
 rw [evalPart_some]
 refine thn (h pins s σ H _ I hw) λu s1 ⟨x,H1,I1,r1,q1⟩=>?_
 obtain ⟨i,rfl,q⟩:=q1
 obtain ⟨t,rfl⟩:=r1
 exact ⟨some i,H1,I1,.int i t,q⟩
noncomputable def SlR (X:Cx)(r:V->Option Int->Option Int->Hp->VK->Prop):Prop:=
 ∀ (pins:List (Addr×Obj)) (s:Shared) (σ:St) (H:Hp) (x:V) (v vl vu:Value) (lo hi:Option Int) (sl:Addr) (Q:VK),Inv X pins σ H s->RelV x v->s.heap.IsSliceOf sl vl vu .none->IsPart vl lo->IsPart vu hi->r x lo hi H Q ->
  ∃ T id,typeLookup (.type T) "__getitem__"=pure (some (.builtin id))∧s.TypeIs v T∧wpAny (model X.prog X.w) X.A (getItem v (.ref sl)) (EP X pins σ Q) X.xe s
noncomputable def tSl (r:V->Option Int->Option Int->Hp->VK->Prop)(te:TE)(tl th:TO):TE:=fun σ H Q=>te σ H λx H1=>tl σ H1 λl H2=>th σ H2 λu H3=>r x l u H3 Q
theorem Tc {r:V->Option Int->Option Int->Hp->VK->Prop}(hr:SlR X r)(he:PE X e te)(hl:PO X lo tl)(hu:PO X hi th):PE X (.Subscript e (.Slice lo hi none p2) pos) (tSl r te tl th):=by
 intro pins s σ H Q I h
 refine Subscript_ (thn (he pins s σ H _ I h) λv s1 ⟨x,H1,I1,r1,q1⟩=>?_)
 refine wpAny_Slice (thn (hl pins s1 σ H1 _ I1 q1) λvl s2 ⟨l,H2,I2,pl,q2⟩=>thn (hu pins s2 σ H2 _ I2 q2) λvu s3 ⟨u,H3,I3,pu,q3⟩=>?_)
 rw [evalPart_none]
 refine Ac ?_
 have I4:Inv X pins σ H3 { s3 with heap:=s3.heap.push { cls:=.type "slice",data:=.fields #[vl,vu,.none] } }:=I3.kept (t':=s3.toks) λb ob q=>Ad _ q
 obtain ⟨T,id,hT,ht,hg⟩:=hr pins { s3 with heap:=s3.heap.push { cls:=.type "slice",data:=.fields #[vl,vu,.none] } } σ H3 x v vl vu l u s3.heap.objs.size Q I4 r1 (Heap.IsSliceOf.new ..) pl pu q3
 show wpAny (model X.prog X.w) X.A (subscriptTail e (.Slice lo hi none p2) v (.ref s3.heap.objs.size)) (EP X pins σ Q) X.xe { s3 with heap:=s3.heap.push { cls:=.type "slice",data:=.fields #[vl,vu,.none] } }
 exact tail_any (ops:=[.ref s3.heap.objs.size,v]) ht hT hg (by with_unfolding_all rfl)
noncomputable def NS (xs:List V)(lo hi:Option Int):List V:=(xs.drop (HT.sIx xs.length 0 lo)).take (HT.sIx xs.length xs.length hi-HT.sIx xs.length 0 lo)
theorem Kj (xs:List V)(lo hi:Option Int):(NS xs lo hi).length≤xs.length:=by
 unfold NS
 rw [Bc,BJ]
 omega
noncomputable def Aby (K:PySem.W.Frag):V->Option Int->Option Int->Hp->VK->Prop:=λx lo hi H Q=>∃ a xs,x=.ref a∧SqT K H a xs ∧
 ¬ (HT.sIx xs.length 0 lo=0∧HT.sIx xs.length xs.length hi=xs.length)∧∀ p,H p=none->Q (.ref p) (upd H p (.tup (NS xs lo hi)))
theorem YS:SlR X (Aby X.K):=by
 intro pins s σ H x v vl vu lo hi sl Q I rx hs pl pu h
 obtain ⟨a,xs,rfl,hx,hw,q⟩:=h
 cases rx
 obtain ⟨its,r,ht,hz⟩:=I.tuple hx
 have hlen:its.toArray.size=xs.length:=by rw [Ak];exact r.length.symm
 refine ⟨"tuple",_,AW.lookup,ht.typeIs,?_⟩
 refine HT.JK ht hs pl pu (by rw [hlen];exact hw) ?_ (by rw [hlen];exact hz)
 rw [hlen]
 refine ⟨.ref s.heap.objs.size,_,I.laid (t':=s.toks) (o:=.tup (NS xs lo hi)) (λb ob q=>Ad _ q) (Ah _) ?_,rfl,q _ (I.hok.fresh (Ah _))⟩
 exact ⟨⟨AA (Kj xs lo hi) hz,⟨_,Ai _ rfl,rfl⟩⟩,_,(r.drop (HT.sIx xs.length 0 lo)).take (HT.sIx xs.length xs.length hi-HT.sIx xs.length 0 lo),IsTup.new _ _⟩
noncomputable def Z4 (K:PySem.W.Frag):R2:=λx y H Q=>∃ a b xs ys,x=.ref a∧y=.ref b∧SqT K H a xs∧SqT K H b ys∧xs≠[]∧xs.length+ys.length≤sizeLine ∧
 (ys=[]->Q (.ref a) H)∧(ys≠[]->∀ p,H p=none->Q (.ref p) (upd H p (.tup (xs++ys))))
theorem Vals.nil_iff {xs:List V}{us:List Value}(r:Vals xs us):us=[] ↔ xs=[]:=by
 cases r with
 | nil=>simp
 | cons _ _=>simp
theorem VZ:OpR X (binaryOp .Add) (Z4 X.K):=by
 intro pins s σ H x y v u Q I rx ry h
 obtain ⟨a,b,xs,ys,rfl,rfl,ha,hb,hx,hz,q1,q2⟩:=h
 cases rx
 cases ry
 obtain ⟨its,r1,p1,_⟩:=I.tuple ha
 obtain ⟨its2,r2,p2,_⟩:=I.tuple hb
 refine HT.Vq p1 p2 (λz=>hx (r1.nil_iff.mp z)) (λz=>⟨.ref a,H,I,rfl,q1 (r2.nil_iff.mp z)⟩) (λz=>?_) (by rw [← r1.length,← r2.length];exact hz)
 refine ⟨.ref s.heap.objs.size,_,I.laid (t':=s.toks) (o:=.tup (xs++ys)) (λb ob q=>Ad _ q) (Ah _) ?_,rfl,q2 (λw=>z (r2.nil_iff.mpr w)) _ (I.hok.fresh (Ah _))⟩
 exact ⟨⟨by rw [Az];exact hz,⟨_,Ai _ rfl,rfl⟩⟩,_,r1.append r2,IsTup.new _ _⟩
end
noncomputable def ixN (n:Nat)(i:Int):Option Nat:=if 0≤i then (if i<n then some i.toNat else none) else if -(n:Int)≤i then some (i+n).toNat else none
noncomputable def atI {α:Type}(xs:List α)(i:Int):Option α:=(ixN xs.length i).bind λj=>xs[j]?
theorem QB {n:Nat}{i:Int}{j:Nat}(h:ixN n i=some j):seqIndex? i n=some j∧j<n∧-(n:Int)≤i∧i<n:=by
 unfold ixN at h
 by_cases h0:0≤i
 ·rw [if_pos h0] at h
  by_cases h1:i<n
  ·rw [if_pos h1] at h
   have e:i.toNat=j:=AE h
   exact ⟨by rw [seqIndex_of h0 h1,e],by omega,by omega,h1⟩
  ·rw [if_neg h1] at h;cases h
 ·rw [if_neg h0] at h
  by_cases h1:-(n:Int)≤i
  ·rw [if_pos h1] at h
   have e:(i+n).toNat=j:=AE h
   exact ⟨by rw [seqIndex_neg (by omega) h1,e],by omega,h1,by omega⟩
  ·rw [if_neg h1] at h;cases h
theorem Kz {α:Type}{xs:List α}{i:Int}{v:α}(h:atI xs i=some v):∃ j,seqIndex? i xs.length=some j∧xs[j]? = some v∧j<xs.length∧-(xs.length:Int)≤i∧i<xs.length:=by
 unfold atI at h
 cases e:ixN xs.length i with
 | none=>rw [e] at h;cases h
 | some j =>
  rw [e] at h
  obtain ⟨h1,h2,h3,h4⟩:=QB e
  exact ⟨j,h1,h,h2,h3,h4⟩
noncomputable def QI (b:Expr):Prop:=∀ o i,subscripted b false o i=operate [o,i] (getItem o i)
noncomputable def IxR (X:Cx)(r:R2):Prop:=
 ∀ (value slice:Expr) (pins:List (Addr×Obj)) (s:Shared) (σ:St) (H:Hp) (x y:V) (v u:Value) (Q:VK),Inv X pins σ H s->RelV x v->RelV y u->r x y H Q ->
  subscripted slice false v u=operate [v,u] (getItem v u)->wpAny (model X.prog X.w) X.A (subscriptTail value slice v u) (EP X pins σ Q) X.xe s
noncomputable def MtR (X:Cx)(id:String)(r:V->List V->Hp->VK->Prop):Prop:=
 ∀ (pins:List (Addr×Obj)) (s:Shared) (σ:St) (H:Hp) (x:V) (xs:List V) (v:Value) (us:List Value) (Q:VK),Inv X pins σ H s->RelV x v->Vals xs us->r x xs H Q ->
  wpAny (model X.prog X.w) X.A (call (.builtin id) (v::us)) (EP X pins σ Q) X.xe s
section
variable {X:Cx} {a b:Expr} {ta tb:TE} {pos:Pos}
theorem IxR.or {r r':R2}(h:IxR X r)(h':IxR X r'):IxR X (λx y H Q=>r x y H Q∨r' x y H Q):=by
 intro value slice pins s σ H x y v u Q I rx ry q hs
 rcases q with q|q
 ·exact h value slice pins s σ H x y v u Q I rx ry q hs
 ·exact h' value slice pins s σ H x y v u Q I rx ry q hs
theorem Aas {r:R2}(hr:IxR X r)(ha:PE X a ta)(hb:PE X b tb)(hs:QI b):PE X (.Subscript a b pos) (tOp r ta tb):=by
 intro pins s σ H Q I h
 exact Subscript_ (XM ha hb I h λv u s2 x y H2 I2 rx ry q=>hr a b pins s2 σ H2 x y v u Q I2 rx ry q (hs _ _))
noncomputable def X9 (K:PySem.W.Frag):R2:=λx y H Q=>∃ p xs i v,x=.ref p∧y=.int i∧SqL K H p xs∧atI xs i=some v∧Q v H
noncomputable def ZU (K:PySem.W.Frag):R2:=λx y H Q=>∃ p xs i v,x=.ref p∧y=.int i∧SqT K H p xs∧atI xs i=some v∧Q v H
noncomputable def Aag:R2:=λx y H Q=>∃ z i c,x=.str z∧y=.int i∧z.length≤sizeLine∧atI z.cps.toList i=some c∧Q (.str ⟨#[c]⟩) H
theorem U6:IxR X (X9 X.K):=by
 intro value slice pins s σ H x y v u Q I rx ry h hs
 obtain ⟨p,xs,i,z,rfl,rfl,hq,he,q⟩:=h
 cases rx
 obtain ⟨t,rfl⟩:=ry
 obtain ⟨its,r,pl,hz⟩:=I.list hq
 obtain ⟨j,h1,h2,h3,h4,h5⟩:=Kz he
 obtain ⟨w,ew,rw'⟩:=r.get h2
 have hl:=r.length
 have hn:=JX
 have fin:EP X pins σ Q w s:=⟨z,H,I,rw',q⟩
 by_cases h0:0≤i
 ·have hj:i.toNat=j:=by
   rw [seqIndex_of h0 h5] at h1
   exact AE h1
  exact item_listR pl.isList h0 (by omega) (by rw [hj];simpa using ew) fin hs
 ·have hj:(i+(its.toArray.size:Int)).toNat=j:=by
   rw [seqIndex_neg (by omega) h4] at h1
   rw [Ak,← hl]
   exact AE h1
  exact subscriptTail_builtinR (x:=w) pl.isList.typeIs slot_list_getitem.lookup
   (wpAny_getItem_list_neg (Q:=λr s'=>r=w∧EP X pins σ Q r s') pl.isList (by omega) (by rw [Ak]<;>omega) (by omega) (by rw [hj];simpa using ew) ⟨rfl,fin⟩) hs
theorem W7:IxR X (ZU X.K):=by
 intro value slice pins s σ H x y v u Q I rx ry h hs
 obtain ⟨p,xs,i,z,rfl,rfl,hq,he,q⟩:=h
 cases rx
 obtain ⟨t,rfl⟩:=ry
 obtain ⟨its,r,pl,hz⟩:=I.tuple hq
 obtain ⟨j,h1,h2,h3,h4,h5⟩:=Kz he
 obtain ⟨w,ew,rw'⟩:=r.get h2
 have hl:=r.length
 have hn:=JX
 have fin:EP X pins σ Q w s:=⟨z,H,I,rw',q⟩
 exact subscriptTail_builtinR (x:=w) pl.typeIs slot_tuple_getitem.lookup
  (getItem_tuple (j:=j) (Q:=λr s'=>r=w∧EP X pins σ Q r s') pl (by omega) (by omega) (by rw [Ak,← hl];exact h1) (by simpa using ew) ⟨rfl,fin⟩) hs
theorem XI:IxR X Aag:=by
 intro value slice pins s σ H x y v u Q I rx ry h hs
 obtain ⟨z,i,c,rfl,rfl,hz,he,q⟩:=h
 obtain ⟨t,rfl⟩:=rx
 obtain ⟨t',rfl⟩:=ry
 obtain ⟨j,h1,h2,h3,h4,h5⟩:=Kz he
 have hl:z.cps.toList.length=z.length:=by simp [Str.length]
 rw [hl] at h1 h4 h5
 have hn:=JX
 exact tail_any (typeIs_str s z t) slot_str_getitem.lookup (getItem_str (c:=c) (by
  have e1:decide (i < -(2 ^ 63:Int))=false:=A1 (by omega)
  have e2:decide (i ≥ 2 ^ 63)=false:=A1 (by omega)
  rw [e1,e2,Bool.or_false]) (by rw [h1];simpa using h2) ⟨.str ⟨#[c]⟩,H,I.tok _,⟨_,rfl⟩,q⟩) hs
noncomputable def rIx (K:PySem.W.Frag):R2:=λx y H Q=>X9 K x y H Q∨ZU K x y H Q∨Aag x y H Q
theorem Yo:IxR X (rIx X.K):=U6.or (W7.or XI)
theorem Pp (its:List Value)(n j:Nat)(u:Value):Obj.mapSeq (·.setIfInBounds j u) { cls:=.type "list",data:=.seq its.toArray n }={ cls:=.type "list",data:=.seq (its.set j u).toArray n }:=by
 simp [Obj.mapSeq]
theorem Inv.lst {pins:List (Addr×Obj)}{σ:St}{H:Hp}{s:Shared}{p:Addr}{xs:List V}(I:Inv X pins σ H s)(h:H p=some (.lst xs)) :
  ∃ (its:List Value) (n:Nat),Vals xs its∧s.heap.get? p=some { cls:=.type "list",data:=.seq its.toArray n }∧xs.length≤sizeLine:=by
 obtain ⟨z,its,n,r,e⟩:=I.hok p _ h
 exact ⟨its,n,r,e,z⟩
theorem Inv.lstUpd {pins:List (Addr×Obj)}{σ:St}{H:Hp}{s:Shared}{p:Addr}{xs ys:List V}{its its':List Value}{n n':Nat}{f:Obj->Obj}(I:Inv X pins σ H s)(h:H p=some (.lst xs))
  (ho:s.heap.get? p=some { cls:=.type "list",data:=.seq its.toArray n }) (hf:f { cls:=.type "list",data:=.seq its.toArray n }={ cls:=.type "list",data:=.seq its'.toArray n' }) (r:Vals ys its') (hz:ys.length≤sizeLine) (t:Nat) :
  Inv X pins σ (upd H p (.lst ys)) { s with heap:=s.heap.update p f,toks:=t }:=by
 have e:(s.heap.update p f).get? p=some { cls:=.type "list",data:=.seq its'.toArray n' }:=by
  rw [AH f ho (by rw [hf]<;>rfl),hf]
 refine I.write (x:=p) (e:=p) (by rw [h];trivial) (.inl rfl) (λb u hb q=>(Ba _ _ (Ne.symm hb)).trans q) ⟨_,e⟩ ?_
 exact ⟨hz,its',n',r,e⟩
noncomputable def AaN:V->V->V->Hp->(Hp->Prop)->Prop:=λo i v H Q=>∃ p xs k j,o=.ref p∧i=.int k∧H p=some (.lst xs)∧ixN xs.length k=some j∧Q (upd H p (.lst (xs.set j v)))
theorem set_list:Wn X AaN:=by
 intro pins s σ H o i v ov iv u Q I ro ri rv h
 obtain ⟨p,xs,k,j,rfl,rfl,hp,hj,q⟩:=h
 cases ro
 obtain ⟨t,rfl⟩:=ri
 obtain ⟨its,n,r,ho,hz⟩:=I.lst hp
 obtain ⟨h1,h2,h3,h4⟩:=QB hj
 have hl:=r.length
 have hn:=JX
 have I':Inv X pins σ (upd H p (.lst (xs.set j v))) { s with heap:=s.heap.update p (Obj.mapSeq (·.setIfInBounds j u)) }:=
  I.lstUpd hp ho (Pp its n j u) (r.set rv j) (by rw [List.length_set];exact hz) s.toks
 by_cases h0:0≤k
 ·have hk:k.toNat=j:=by
   rw [seqIndex_of h0 h4] at h1
   exact AE h1
  exact PySem.W.ki_setAt ho h0 (by omega) (by rw [Ak,← hl];exact h4) (by rw [hk];exact ⟨_,I',q⟩)
 ·have hk:(k+(its.toArray.size:Int)).toNat=j:=by
   rw [seqIndex_neg (by omega) h3] at h1
   rw [Ak,← hl]
   exact AE h1
  exact PySem.W.ki_setBack ho (by omega) (by rw [Ak,← hl];exact h3) (by omega) (by rw [hk];exact ⟨_,I',q⟩)
theorem MT (lo hi:Option Int)(n:Nat):(sliceBounds lo hi none n).1=((HT.sIx n 0 lo:Nat):Int)∧(sliceBounds lo hi none n).2.1=((HT.sIx n n hi:Nat):Int)∧(sliceBounds lo hi none n).2.2=1:=by
 refine ⟨?_,?_,rfl⟩
 ·cases lo with
  | none=>simp [sliceBounds,HT.sIx]
  | some i =>
   simp only [sliceBounds,HT.sIx,Option.getD_none,show (1:Int) > 0 by decide,if_true]
   by_cases h:i<0
   ·simp only [h,if_true]<;>omega
   ·simp only [h,A5]<;>omega
 ·cases hi with
  | none=>simp [sliceBounds,HT.sIx]
  | some i =>
   simp only [sliceBounds,HT.sIx,Option.getD_none,show (1:Int) > 0 by decide,if_true]
   by_cases h:i<0
   ·simp only [h,if_true]<;>omega
   ·simp only [h,A5]<;>omega
theorem LR (its:List Value)(lo hi:Option Int):slicePick its.toArray lo hi none=((its.drop (HT.sIx its.length 0 lo)).take (HT.sIx its.length its.length hi-HT.sIx its.length 0 lo)).toArray:=by
 obtain ⟨h1,h2,h3⟩:=MT lo hi its.toArray.size
 unfold slicePick
 rw [h1,h2,h3]
 simp only [sliceRange_one,pick_run,Ak]<;>rfl
noncomputable def Aab (K:PySem.W.Frag):V->Option Int->Option Int->Hp->VK->Prop:=λx lo hi H Q=>∃ a xs,x=.ref a∧SqL K H a xs∧∀ p,H p=none->Q (.ref p) (upd H p (.lst (NS xs lo hi)))
theorem V8:SlR X (Aab X.K):=by
 intro pins s σ H x v vl vu lo hi sl Q I rx hs pl pu h
 obtain ⟨a,xs,rfl,hx,q⟩:=h
 cases rx
 obtain ⟨its,r,ht,hz⟩:=I.list hx
 have hlen:=r.length
 refine ⟨"list",_,slot_list_getitem.lookup,ht.isList.typeIs,?_⟩
 refine wpAny_getItem_list_slice ht.isList hs pl pu .none (by simp) ?_ (by rw [Ak]<;>omega)
 rw [LR,← hlen]
 refine ⟨.ref s.heap.objs.size,_,I.laid (t':=s.toks) (o:=.lst (NS xs lo hi)) (λb ob q=>Ad _ q) (Ah _) ?_,rfl,q _ (I.hok.fresh (Ah _))⟩
 exact ⟨AA (Kj xs lo hi) hz,_,0,(r.drop (HT.sIx xs.length 0 lo)).take (HT.sIx xs.length xs.length hi-HT.sIx xs.length 0 lo),Ai _ rfl⟩
theorem Hr:GW X (.builtin "len") (λxs H Q=>∃ p ys,xs=[.ref p]∧(SqL X.K H p ys∨SqT X.K H p ys)∧Q (.int ys.length) H):=by
 intro pins s σ H xs us Q I r h
 obtain ⟨p,ys,rfl,hq,q⟩:=h
 obtain ⟨u,rfl,rx⟩:=vals1 r
 cases rx
 have hn:=JX
 rcases hq with hq|hq
 ·obtain ⟨its,r',pl,hz⟩:=I.list hq
  have hlen:=r'.length
  exact Calls.call_len_list pl.isList (by simp only [Ak]<;>omega) ⟨.int ys.length,H,I.tok _,⟨s.toks+1,by rw [Ak,hlen]⟩,q⟩
 ·obtain ⟨its,r',pl,hz⟩:=I.tuple hq
  have hlen:=r'.length
  exact len_tuple pl (by simp only [Ak]<;>omega) ⟨.int ys.length,H,I.tok _,⟨s.toks+1,by rw [Ak,hlen]⟩,q⟩
theorem MH:GW X (.builtin "len") (λxs H Q=>∃ z,xs=[.str z]∧z.length≤sizeLine∧Q (.int z.length) H):=by
 intro pins s σ H xs us Q I r h
 obtain ⟨z,rfl,hz,q⟩:=h
 obtain ⟨u,rfl,t,rfl⟩:=vals1 r
 have hn:=JX
 exact len_str (by omega) ⟨.int z.length,H,I.tok _,⟨_,rfl⟩,q⟩
theorem MY:GW X (.type "list") (λxs H Q=>∃ p ys,xs=[.ref p]∧(SqL X.K H p ys∨SqT X.K H p ys)∧∀ l,H l=none->Q (.ref l) (upd H l (.lst ys))):=by
 intro pins s σ H xs us Q I r h
 obtain ⟨p,ys,rfl,hq,q⟩:=h
 obtain ⟨u,rfl,rx⟩:=vals1 r
 cases rx
 have fin:∀ (its:List Value),Vals ys its->ys.length≤sizeLine->∀ (h':Heap) (c':Nat),(∀ b o',s.heap.get? b=some o'->h'.get? b=some o') ->
   h'.get? s.heap.objs.size=some { cls:=.type "list",dict:=none,data:=.seq its.toArray c',slots:=#[] }->EP X pins σ Q (.ref s.heap.objs.size) { s with heap:=h' }:=λits r' hz h' c' kp e =>
  ⟨.ref s.heap.objs.size,_,I.laid (t':=s.toks) kp (Ah _) (show ObjOk X.prog X.w _ h' _ (.lst ys) from ⟨hz,its,c',r',e⟩),rfl,q _ (I.hok.fresh (Ah _))⟩
 rcases hq with hq|hq
 ·obtain ⟨its,r',pl,hz⟩:=I.list hq
  have hlen:=r'.length
  obtain ⟨o,ho,hc,n,hd⟩:=pl.isList
  exact call_list_seq p (.inl rfl) ho hc hd (λh' c' kp e=>fin its r' hz h' c' kp e) (by simp only [Ak]<;>omega)
 ·obtain ⟨its,r',pl,hz⟩:=I.tuple hq
  have hlen:=r'.length
  obtain ⟨o,ho,hc,n,hd⟩:=pl
  exact call_list_seq p (.inr rfl) ho hc hd (λh' c' kp e=>fin its r' hz h' c' kp e) (by simp only [Ak]<;>omega)
theorem LJ:GW X (.type "tuple") (λxs H Q=>∃ p ys,xs=[.ref p]∧((SqL X.K H p ys∧∀ l,H l=none->Q (.ref l) (upd H l (.tup ys)))∨(SqT X.K H p ys∧Q (.ref p) H))):=by
 intro pins s σ H xs us Q I r h
 obtain ⟨p,ys,rfl,h⟩:=h
 obtain ⟨u,rfl,rx⟩:=vals1 r
 cases rx
 rcases h with ⟨hq,q⟩|⟨hq,q⟩
 ·obtain ⟨its,r',pl,hz⟩:=I.list hq
  have hlen:=r'.length
  refine call_tuple_list pl.isList (λh' kp=>?_) (by simp only [Ak]<;>omega)
  have I1:Inv X pins σ H { s with heap:=h' }:=I.kept (t':=s.toks) kp
  have I2:Inv X pins σ (upd H h'.objs.size (.tup ys)) { s with heap:=h'.push { cls:=.type "tuple",data:=.seq its.toArray } }:=
   I1.laid (t':=s.toks) (λb o e=>Ad _ e) (Ah _) (show ObjOk X.prog X.w _ _ _ (.tup ys) from ⟨⟨hz,⟨_,Ai _ rfl,rfl⟩⟩,its,r',IsTup.new _ _⟩)
  exact ⟨.ref h'.objs.size,_,I2,rfl,q _ (I1.hok.fresh (Ah _))⟩
 ·obtain ⟨its,r',pl,hz⟩:=I.tuple hq
  exact call_tuple_same pl ⟨.ref p,H,I,rfl,q⟩
noncomputable def tyV (K:PySem.W.Frag)(T:String)(x:V)(H:Hp):Prop:=match x with
 | .str _=>T="str"
 | .int _=>T="int"
 | .ref p=>(T="list"∧∃ xs,SqL K H p xs)∨(T="tuple"∧∃ o,K.lookup p=some o∧o.cls=.type "tuple"∧o.dict=none) ∨
   (T="dict"∧((∃ kvs,H p=some (.dK kvs))∨∃ kvs,H p=some (.dT kvs)))∨(T="set"∧∃ S n,H p=some (.set S n))
 | _=>False
theorem Xm {pins:List (Addr×Obj)}{σ:St}{H:Hp}{s:Shared}{T:String}{x:V}{v:Value}(I:Inv X pins σ H s)(r:RelV x v)(ty:tyV X.K T x H) :
  s.TypeIs v T∧∀ a,v=.ref a->∃ ob,s.heap.get? a=some ob∧ob.dict=none:=by
 cases x with
 | str z =>
  obtain ⟨t,rfl⟩:=r
  cases (show T="str" from ty)
  exact ⟨typeIs_str s z t,λ_ e=>nomatch e⟩
 | int i =>
  obtain ⟨t,rfl⟩:=r
  cases (show T="int" from ty)
  exact ⟨typeIs_int s i t,λ_ e=>nomatch e⟩
 | ref p =>
  cases r
  rcases ty with ⟨rfl,xs,hq⟩|⟨rfl,o,hk,hc,hd⟩|⟨rfl,hk⟩|⟨rfl,S,n,hk⟩
  ·obtain ⟨its,_,pl,_⟩:=I.list hq
   refine ⟨pl.isList.typeIs,λa e=>?_⟩
   cases e
   obtain ⟨o,n,e,c,hd,_⟩:=pl
   exact ⟨o,e,hd⟩
  ·refine ⟨⟨o,I.kIn p o hk,hc⟩,λa e=>?_⟩
   cases e
   exact ⟨o,I.kIn _ o hk,hd⟩
  ·have z:∃ o,s.heap.get? p=some o∧o.ExactDict:=by
    rcases hk with ⟨kvs,hk⟩|⟨kvs,hk⟩
    ·obtain ⟨_,_,_,_,o,_,_,e,ex,_⟩:=I.hok p _ hk
     exact ⟨o,e,ex⟩
    ·obtain ⟨_,_,_,_,o,_,_,e,ex,_⟩:=I.hok p _ hk
     exact ⟨o,e,ex⟩
   obtain ⟨o,e,ex⟩:=z
   refine ⟨⟨o,e,ex.1⟩,λa e2=>?_⟩
   cases e2
   exact ⟨o,e,ex.2.1⟩
  ·obtain ⟨o,_,_,_,e,ex,_⟩:=I.hok p _ hk
   refine ⟨⟨o,e,ex.1⟩,λa e2=>?_⟩
   cases e2
   exact ⟨o,e,ex.2.1⟩
 | _=>exact False.elim ty
noncomputable def tBM (K:PySem.W.Frag)(T:String)(r:V->List V->Hp->VK->Prop)(to:TE)(t:TA):TE:=fun σ H Q=>to σ H λx H1=>tyV K T x H1∧t σ H1 λxs H2=>r x xs H2 Q
variable {o e:Expr} {es:List Expr} {to:TE} {t:TA} {name:Str} {apos cpos:Pos} {T id:String} {r:V->List V->Hp->VK->Prop}
theorem Wt (pa:PlainAttrs T)(slot:Slot T name id)(hty:typeOf (.builtin id)=pure (.type "method_descriptor"))(hm:MtR X id r)(ho:PE X o to)(ha:PA X (e::es) t)
  (hbase:attributeBase o name X.env (eval o X.env)=eval o X.env:=by rfl)
  (hfew:((backTo cpos (starEach (e::es) X.env)).all (λx=>!x.1)&&(backToKw cpos (keywordEach [] X.env)).all (λx=>x.1.isSome)
   && decide ((e::es).length+([]:List Keyword).length+(if ([]:List Keyword).isEmpty then 0 else 1)<30))=true:=by rfl)
  (hline:(apos.endLine==cpos.line)=true:=by rfl) (hs:starEach (e::es) X.env=(false,eval e X.env)::starEach es X.env:=by rfl) (hplain:(backTo cpos (starEach es X.env)).any (·.1)=false:=by rfl) :
  PE X (.Call (.Attribute o name apos) (e::es) [] cpos) (tBM X.K T r to t):=by
 intro pins s σ H Q I h
 refine wpAny_Call_method_late hbase hfew hline rfl (thn (ho pins s σ H _ I h) λv s1 ⟨x,H1,I1,r1,ty,q1⟩=>?_)
 obtain ⟨h1,h2⟩:=Xm I1 r1 ty
 refine ⟨T,id,pa,slot,hty,h1,h2,?_⟩
 have hA:=ha cpos pins s1 σ H1 _ I1 q1
 rw [hs] at hA ⊢
 refine Calls.callWith_builtin (by show (false||(backTo cpos (starEach es X.env)).any (·.1))=false;rw [hplain]<;>rfl) (Calls.evalArgs_plain ?_)
 exact thn hA λus s2 ⟨vs,H2,I2,r2,q2⟩=>hm pins s2 σ H2 x vs v us Q I2 r1 r2 q2
end
noncomputable def MtM (X:Cx)(id:String)(r:V->List V->Hp->VK->Prop):Prop:=
 ∀ (pins:List (Addr×Obj)) (s:Shared) (σ:St) (H:Hp) (x:V) (xs:List V) (v:Value) (us:List Value) (Q:VK),Inv X pins σ H s->RelV x v->Vals xs us->r x xs H Q ->
  wpAny (model X.prog X.w) X.A (call (.builtin id) (v::us)) (EP X pins σ Q) X.xe s
theorem Vals.one:∀ {x:V} {us:List Value},Vals [x] us->∃ u,us=[u]∧RelV x u
 | _,_,.cons r .nil=>⟨_,rfl,r⟩
theorem Vals.reverse {xs:List V}{us:List Value}(h:Vals xs us):Vals xs.reverse us.reverse:=by
 induction h with
 | nil=>exact .nil
 | cons r t ih=>rw [List.reverse_cons,List.reverse_cons];exact Vals.append ih (.cons r .nil)
theorem Vals.rep {xs:List V}{us:List Value}(h:Vals xs us):∀ k:Nat,Vals (List.replicate k xs).flatten (List.replicate k us).flatten
 | 0=>.nil
 | k+1=>by
  rw [List.replicate_succ,List.replicate_succ,List.flatten_cons,List.flatten_cons]
  exact Vals.append h (Vals.rep h k)
theorem foldl_rep (its:List Value):∀ (k:Nat) (acc:List Value),
  List.foldl (λx1 x2=>x1++x2) acc.toArray (List.replicate k its.toArray)=(acc++(List.replicate k its).flatten).toArray
 | 0,acc=>by simp
 | k+1,acc=>by
  have e:acc.toArray++its.toArray=(acc++its).toArray:=by simp
  have e2:(acc++its)++(List.replicate k its).flatten=acc++(List.replicate (k+1) its).flatten:=by
   rw [List.replicate_succ,List.flatten_cons,List.append_assoc]
  rw [← e2,← foldl_rep its k (acc++its),← e,List.replicate_succ,List.foldl_cons]
section
variable {X:Cx} {pins:List (Addr×Obj)} {σ:St} {H:Hp} {s:Shared} {l b:Addr} {xs ys zs:List V}
theorem Inv.lset {its its':List Value}{n:Nat}{f:Array Value->Array Value}{t':Nat}(I:Inv X pins σ H s)(hH:H l=some (.lst xs))
  (e:s.heap.get? l=some { cls:=.type "list",data:=.seq its.toArray n }) (hf:f its.toArray=its'.toArray) (hv:Vals ys its') (hz:ys.length≤sizeLine) :
  Inv X pins σ (upd H l (.lst ys)) { s with heap:=s.heap.update l (Obj.mapSeq f),toks:=t' }:=by
 have q:=PySem.IsL.update e f
 rw [hf] at q
 refine I.write (x:=l) (e:=l) (by rw [hH];exact trivial) (.inl rfl) (λb' u hb hu=>(Ba s.heap (Obj.mapSeq f) (Ne.symm hb)).trans hu) ⟨_,q⟩ ?_
 exact ⟨hz,its',_,hv,q⟩
theorem Inv.lstM (I:Inv X pins σ H s)(hH:H l=some (.lst xs)):xs.length≤sizeLine∧∃ (its:List Value) (n:Nat),Vals xs its∧xs.length=its.length∧s.heap.get? l=some { cls:=.type "list",data:=.seq its.toArray n }:=by
 obtain ⟨z,its,n,r,e⟩:=I.hok l _ hH
 exact ⟨z,its,n,r,r.length,e⟩
theorem RT {n:Nat}(h:n≤sizeLine):Builtin.List.listTooLong n=false:=by
 unfold Builtin.List.listTooLong
 exact A1 (by omega)
end
section
variable {X:Cx}
noncomputable def Vz:V->List V->Hp->VK->Prop:=λx vs H Q=>∃ l xs y,x=.ref l∧vs=[y]∧H l=some (.lst xs)∧xs.length<sizeLine∧Q .non (upd H l (.lst (xs++[y])))
theorem RI:MtM X "list.append" Vz:=by
 intro pins s σ H x vs v us Q I rx rv h
 obtain ⟨l,xs,y,rfl,rfl,hH,hz,q⟩:=h
 cases rx
 obtain ⟨u,rfl,ru⟩:=rv.one
 obtain ⟨z,its,n,r,hl,e⟩:=I.lstM hH
 refine call_meets F.slot_list_append ⟨_,e,rfl⟩ F.entry_list_append (F.args_list_append_2 _ _) (PySem.list_append l its.toArray n u (by rw [Ak];omega)) ⟨e,?_⟩
 refine ⟨.non,_,I.lset (its':=its++[u]) hH e (by simp) (r.append (.cons ru .nil)) ?_,rfl,q⟩
 rw [Az,List.length_singleton]
 omega
theorem len_rep {α:Type}(xs:List α)(k:Nat):(List.replicate k xs).flatten.length=k*xs.length:=by
 induction k with
 | zero=>simp
 | succ k ih=>rw [List.replicate_succ,List.flatten_cons,Az,ih,Nat.succ_mul,Nat.add_comm]
end
end L2
namespace Att
open PySem PySem.W PySem.Calls PyProof.Rows
theorem Ks {P:Params}{h:Heap}:∀ (ns:List Int) (vs:List Value),WellAll P h vs (ns.map WData.int)->IntsAre vs ns:=by
 intro ns
 induction ns with
 | nil =>
  intro vs w
  rw [List.map_nil] at w
  cases w
  exact .nil
 | cons n ns ih =>
  intro vs w
  rw [AL] at w
  cases w with
  | cons a b =>
   cases a
   exact .cons _ _ (ih _ b)
theorem Rt {l:OpenLaw}{n:Nat}(hn:l.most=some n){P:Params}{h:Heap}{args:List WData}{vals:List Value}
  (hpre:l.row.toRowW.claim.pre args=true) (hwl:WellAll P h vals args) :
  ∃ a vs ns,vals=[Value.ref a]∧args=[WData.list (ns.map WData.int)]∧h.get? a=some { cls:=.type "list",data:=.seq vs.toArray }∧IntsAre vs ns∧ns.length≤n:=by
 have hsh:WShape.hasAll [] args [.list .int]=true:=(pre_splitW hpre).1
 have hc:l.pre.holds [] { args:=args }=true:=(pre_splitW hpre).2
 obtain ⟨d,r,rfl,h1,h2⟩:=hasAllW_cons hsh
 obtain rfl:=hasAllW_nil h2
 obtain ⟨xs,rfl,h3⟩:=hasW_list h1
 obtain ⟨ns,rfl⟩:=items_int h3
 have hlen:ns.length≤n:=by
  unfold OpenLaw.pre at hc
  have h4:(WTm.not (.lt (.lit (.int (n:Int))) (.len (.arg 0)))).holds [] { args:=[.list (ns.map .int)] }=true:=by
   have h4:=(holds_andW hc).1
   rw [hn] at h4
   exact h4
  have h5:=condW_of h4 (w_not (w_lt w_lit (w_len_list (w_arg rfl))))
  rw [Ag] at h5
  refine Nat.le_of_not_lt λq=>?_
  have q':(n:Int)<((ns.length:Nat):Int):=by omega
  first
   | (rw [BE q'] at h5;exact absurd h5 (by decide))
   | (simp at h5;omega)
 cases hwl with
 | cons w1 w2 =>
  cases w2
  cases w1 with
  | list ho hall=>exact ⟨_,_,ns,rfl,rfl,ho,Ks ns _ hall,hlen⟩
theorem Rg (l:OpenLaw)(args:List WData):l.row.toRowW.claim.post args (.bool true) args=true:=
 postW_of (r:=l.row.toRowW) (X:=(true==true))
  (show WShape.has [] (.bool true) .bool=true by first|rfl|decide|simp [WShape.has,WShape.arms,WShape.armsAll])
  (show (WTm.eq .res (.lit (.bool true))).value [] { args:=args,res:=some (.bool true),after:=args }=some (.bool (true==true)) from w_eq_bool (w_res rfl) w_lit) rfl
theorem OD {l:OpenLaw}{n:Nat}{q:Program}{loose:List Str}{XP:(Str->Option Value)->Heap->Prop}{YP:World->Heap->Prop}{d:DefRec}
  (hn:l.most=some n) (hdf:d.params.defaults=[])
  (call:∀ (w:World) (s₀ s₁:Shared) (mg mb:Str->Option Value) (fa:Addr) (o:Obj) (pm cd doc:Value) (a:Addr) (vs:List Value) (ns:List Int),
   Ground q loose [] XP w s₀ mg mb s₁.heap->YP w s₁.heap ->
   s₁.heap.get? fa=some o->o.data=.func (docDef d.name d.params d.body d.scope pm cd doc)->s₁.heap.CodeRec cd d.name->mg d.name=some (.ref fa) ->
   s₁.heap.get? a=some { cls:=.type "list",data:=.seq vs.toArray }->IntsAre vs ns->ns.length≤n->s₁.gens=#[] ->
   codeAny (model l.prog w) callerA (.call (.ref fa) ⟨[.ref a],[]⟩) (λr s'=>r=.ok (.ret (.bool true))∧OldK s₁.heap s'.heap∧s'.os=s₁.os∧AllBare s'.gens) s₁) :
  WalkO q loose XP YP l.row.toRowW d [] (λf vs=>PySem.call f vs):=by
 intro w s₀ s₁ mg mb G Y fa o pm cd doc dV kV ho hd hcd hD hmg hg args vals as hpre hlay hrd hwl hlo
 obtain rfl:dV=.none:=Dflts.none hD hdf
 obtain rfl:kV=.none:=Dflts.noKw hD
 obtain ⟨a,vs,ns,rfl,rfl,hobj,hints,hlen⟩:=Rt hn hpre hwl
 refine enter_call (codeAny_mono (call w s₀ s₁ mg mb fa o pm cd doc a vs ns G Y ho (fd_plain hd) hcd hmg hobj hints hlen hg) λr s' hq=>?_)
 obtain ⟨rfl,h2,h3,h4⟩:=hq
 exact ⟨.inl ⟨.bool true,.bool true,[],rfl,λ_=>rfl,.bool true,Rg l _,λ_=>⟨List.Pairwise.nil,λ_ hm=>(nomatch hm)⟩⟩,h2,h3,h4⟩
end Att
namespace L2
open PySem PySem.Spec PyProof.Rows
theorem MA:∀ {vs:List Value} {ns:List Int},IntsAre vs ns->Vals (ns.map V.int) vs
 | _,_,.nil=>.nil
 | _,_,.cons n t h=>.cons ⟨t,rfl⟩ (MA h)
noncomputable def Y7 (H:Hp):Prop:=∀ b,H b=none∨∃ o xs,H b=some (.frz o (.lst xs))
theorem S6 {P:Program}{w:World}{K:PySem.W.Frag}{mg mb:Str->Option Value}{CX:CXT}{k:Nat}{fa a:Addr}{fd:FuncData}{x:Str}{sp:Sp}{s₁:Shared}{vs:List Value}{ns:List Int}
  (KX:K.In s₁.heap) (hns:s₁.heap.Ns mainGlobals mg) (hb:s₁.heap.Ns builtinsNs mb) (hbb:∀ x:Str,x≠"__name__"->mb x=bootBuiltins x) (hlim:s₁.heap.NoLimit) (hg:s₁.gens=#[])
  (ha:s₁.heap.get? a=some { cls:=.type "list",data:=.seq vs.toArray }) (hi:IntsAre vs ns) (hl:ns.length≤sizeLine) (hr:Room k callerA)
  (F:∀ base:Heap,K.In base->base.Ns mainGlobals mg->DS P w K mg base CX k fa fd [x] sp) (hbind:∀ (s:Shared) (u:Value),BindsTo s fd ⟨[u],[]⟩ [(x,u)])
  (hsp:∀ H:Hp,Y7 H->SqL K H a (ns.map V.int)->sp [.ref a] H (λv _=>v=.bl true) λ_ _ _=>False)
  (hCX:∀ H e s',CX [] H s₁ (λ_ _ _=>False) e s'->False) :
  codeAny (model P w) callerA (.call (.ref fa) ⟨[.ref a],[]⟩) (λr s'=>r=.ok (.ret (.bool true))∧OldK s₁.heap s'.heap∧s'.os=s₁.os∧AllBare s'.gens) s₁:=by
 have rv:=MA hi
 have lenV:=hi.length
 have core:∀ H:Hp,Y7 H->SqL K H a (ns.map V.int)->HOk P w H s₁.heap->(∀ b,H b≠none->b=a)->(H a≠none->K.lookup a=none) ->
   codeAny (model P w) callerA (.call (.ref fa) ⟨[.ref a],[]⟩) (λr s'=>r=.ok (.ret (.bool true))∧OldK s₁.heap s'.heap∧s'.os=s₁.os∧AllBare s'.gens) s₁:=by
  intro H hO hS hok hA hK
  have base_of:∀ {b:Addr} {o:Obj},s₁.heap.get? b=some o->H b=none->(MM s₁.heap H).get? b=some o:=λe n=>Tp e n
  have noA:∀ {b:Addr} {o:Obj} {es:Array DictEntry} {ep:Nat},s₁.heap.get? b=some o->o.data=.dict es ep->H b=none:=λ{b o es ep} e d=>by
   cases q:H b with
   | none=>rfl
   | some u =>
    have e':b=a:=hA b (by rw [q];simp)
    subst e'
    rw [ha] at e;cases e
    have d':Data.seq vs.toArray _=Data.dict es ep:=d
    cases d'
  have nsK:∀ {b:Addr} {m:Str->Option Value},s₁.heap.Ns b m->(MM s₁.heap H).Ns b m:=λ{b m} ⟨o,es,ep,e,d,r⟩=>⟨o,es,ep,base_of e (noA e d),d,r⟩
  have hKb:K.In (MM s₁.heap H):=λb o e=>base_of (KX b o e) (by
   cases q:H b with
   | none=>rfl
   | some u =>
    have e':b=a:=hA b (by rw [q];simp)
    subst e'
    rw [hK (by rw [q];simp)] at e;cases e)
  have hM:Mod K mg (MM s₁.heap H):=⟨hKb,nsK hns,⟨mb,nsK hb,hbb⟩,let ⟨mc,h1,h2⟩:=hlim;⟨mc,nsK h1,h2⟩⟩
  have e0:VL P w K mg (MM s₁.heap H) callerA [] s₁ H:=⟨rfl,hM,λb o e=>VV e,Nat.le_of_eq (QV _ _),trivial,λb hb=>absurd (show b∈([]:List Addr) from hb) (by simp),hok,.of_eq hg⟩
  refine codeAny_mono ((F _ hKb (nsK hns)).run callerA [] s₁ H ⟨[.ref a],[]⟩ [.ref a] [.ref a] _ _ hr e0 (hbind s₁ (.ref a)) (.cons rfl .nil) (hsp H hO hS)) λr s' h=>?_
  cases r with
  | error e=>exact (hCX H e s' h).elim
  | ok fl =>
   cases fl with
   | next=>exact False.elim h
   | brk=>exact False.elim h
   | cont=>exact False.elim h
   | ret u =>
    obtain ⟨v,H',os,bare,un,hok',r',q⟩:=h
    have q':v=.bl true:=q
    subst q'
    obtain rfl:u=Value.bool true:=r'
    refine ⟨rfl,OldK.of_keep λb o e=>?_,os,bare⟩
    cases q:H b with
    | none=>exact un.keep b o e q (by intro z;exact absurd (show b∈([]:List Addr) from z) (by simp)) (by simp)
    | some u =>
     rcases hO b with z|⟨ob,xs,z⟩
     ·rw [q] at z;cases z
     ·have z2:=un.frzs b ob _ z
      obtain ⟨e1,_⟩:=hok b _ z
      obtain ⟨e2,_⟩:=hok' b _ z2
      rw [e] at e1;cases e1
      exact e2
 cases hk:K.lookup a with
 | some o =>
  have e:=KX a o hk
  rw [ha] at e
  cases e
  refine core (λ_=>none) (λ_=>.inl rfl) (.inr ⟨_,vs.toArray,_,hk,rfl,rfl,rfl,by rw [Ak,lenV];exact hl,by simpa using rv⟩) (λb u z=>by have z':(none:Option HO)=some u:=z;cases z') (λb z=>absurd rfl z) λz=>absurd rfl z
 | none =>
  refine core (λb=>if b=a then some (.frz { cls:=.type "list",data:=.seq vs.toArray } (.lst (ns.map V.int))) else none) (λb=>?_) (.inl (.inr ⟨{ cls:=.type "list",data:=.seq vs.toArray },if_pos rfl⟩)) (λb u z=>?_) (λb z=>?_) λ_=>hk
  ·by_cases hb:b=a
   ·exact .inr ⟨_,_,if_pos hb⟩
   ·exact .inl (if_neg hb)
  ·by_cases hb:b=a
   ·have z':=(if_pos hb).symm.trans z
    cases z'
    subst hb
    exact ⟨ha,by rw [Ag];exact hl,vs,_,rv,ha⟩
   ·have z':=(if_neg hb).symm.trans z
    cases z'
  ·by_cases hb:b=a
   ·exact hb
   ·exact absurd (if_neg hb) z
theorem Wo {l:PySem.W.OpenLaw}{n k:Nat}{q:Program}{loose:List Str}{XP:(Str->Option Value)->Heap->Prop}{YP:World->Heap->Prop}{d:DefRec}{K:Params->PySem.W.Frag}{CX:World->CXT}{sp:World->Sp}{x:Str}
  (hn:l.most=some n) (hn2:n≤sizeLine) (hdf:d.params.defaults=[]) (hr:Room k callerA)
  (hY:∀ (w:World) (h:Heap),YP w h->(K w.params).In h)
  (F:∀ (w:World) (mg:Str->Option Value) (fa:Addr) (h:Heap),(K w.params).In h->h.Ns mainGlobals mg->mg d.name=some (.ref fa) ->
   ∃ fd:FuncData,(∀ (s:Shared) (u:Value),BindsTo s fd ⟨[u],[]⟩ [(x,u)]) ∧
    ∀ base:Heap,(K w.params).In base->base.Ns mainGlobals mg->DS l.prog w (K w.params) mg base (CX w) k fa fd [x] (sp w))
  (hsp:∀ (w:World) (H:Hp) (a:Addr) (ns:List Int),ns.length≤n->Y7 H->SqL (K w.params) H a (ns.map V.int)->sp w [.ref a] H (λv _=>v=.bl true) λ_ _ _=>False)
  (hCX:∀ (w:World) (H:Hp) (s:Shared) (e:Value) (s':Shared),CX w [] H s (λ_ _ _=>False) e s'->False) :
  PySem.W.WalkO q loose XP YP l.row.toRowW d [] (λf vs=>PySem.call f vs):=by
 refine Att.OD hn hdf λw s₀ s₁ mg mb fa o pm cd doc a vs ns G Y ho hd hcd hmg hobj hints hlen hg=>?_
 have KX:=hY w _ Y
 obtain ⟨fd,hb,hF⟩:=F w mg fa _ KX G.T.g hmg
 exact S6 KX G.T.g G.T.b G.T.builtins G.T.nolimit hg hobj hints (AA hlen hn2) hr hF hb (λH hO hS=>hsp w H a ns hlen hO hS) λH e s'=>hCX w H s₁ e s'
noncomputable def HE (s:Stmt):Arguments:=match s with
 | .FunctionDef _ a _ _ _ _ _ _ _ _=>a
 | _=>{ posonlyargs:=[],args:=[],vararg:=none,kwonlyargs:=[],kw_defaults:=[],kwarg:=none,defaults:=[] }
noncomputable def EG (s:Stmt):List Stmt:=match s with
 | .FunctionDef _ _ b _ _ _ _ _ _ _=>b
 | _=>[]
noncomputable def Cn (s:Stmt):Scope:=match s with
 | .FunctionDef _ _ _ _ _ _ sc _ _ _=>sc
 | _=>{ kind:=.function,names:=[],isGenerator:=false,isCoroutine:=false }
noncomputable abbrev CX0:CXT:=λ_ _ _ _ _ _=>False
noncomputable abbrev E0:XK:=λ_ _ _=>False
theorem Z2 {X:Cx}:Passes CX0 X E0:=λ_ _ _ _ _ _ _ h=>h.elim
structure Fun (K:PySem.W.Frag) (x qual:Str) (st:Stmt) (f:Addr) (fd:FuncData):Prop where
 ex:∃ (oc:Value) (od:Option Addr) (kV doc pm:Value) (an:Option Addr) (cdv ct:Value) (osl:Array (Option Value)),
  fd=PySem.W.fnOf x qual (HE st) (EG st) (Cn st) .none kV doc pm an cdv ct∧K.lookup f=some ⟨oc,od,.func fd,osl⟩∧PySem.W.codeIn K cdv qual=true
 kp:PySem.W.keepIn K (.ref f)=true
section
variable {P:Program} {w:World} {K:PySem.W.Frag} {mg:Str->Option Value} {base:Heap}
theorem Fun.ok {x qual:Str}{st:Stmt}{f:Addr}{fd:FuncData}{N ps:List Str}{k:Nat}{sp:Sp}(F:Fun K x qual st f fd)(S:Cw N ps (Cn st))(len:∀ vs H Q E,sp vs H Q E->vs.length=ps.length)
  (hbody:∀ (cdv:Value) (A:Around) (outer:List Env) (s:Shared) (H:Hp) (vs:List V) (Q:VK) (E:XK),Room k (A.deeper (envOfC qual (Cn st) s.heap.objs.size f cdv))->sp vs H Q E ->
   ∃ t,PSs (Lr CX0 P w K mg base N qual (Cn st) f cdv A outer s H E).nox (EG st) t∧t { nx:=λ_ H'=>Q .non H',rt:=Q } (start N vs) H):DS P w K mg base CX0 (k+1) f fd ps sp:=by
 obtain ⟨oc,od,kV,doc,pm,an,cdv,ct,osl,rfl,lk,hcd⟩:=F.ex
 refine Aad lk hcd S len λA outer s H vs Q E hr hsp=>?_
 obtain ⟨t,h,q⟩:=hbody cdv A outer s H vs Q E hr hsp
 exact ⟨t,h.nox,q⟩
theorem Fun.binds {x qual:Str}{st:Stmt}{f:Addr}{fd:FuncData}{ps:List Str}(F:Fun K x qual st f fd)
  (h:∀ (kV doc pm:Value) (an:Option Addr) (cdv ct:Value) (us:List Value),us.length=ps.length->bindArgs (PySem.W.fnOf x qual (HE st) (EG st) (Cn st) .none kV doc pm an cdv ct) ⟨us,[]⟩=pure (ps.zip us)):Binds K fd ps []:=by
 obtain ⟨oc,od,kV,doc,pm,an,cdv,ct,osl,rfl,lk,hcd⟩:=F.ex
 exact .all (h kV doc pm an cdv ct)
theorem So {x qual:Str}{st:Stmt}{f:Addr}{oc:Value}{od an:Option Addr}{osl:Array (Option Value)}{kV doc pm cdv ct:Value}(l:K.lookup f=some ⟨oc,od,.func (PySem.W.fnOf x qual (HE st) (EG st) (Cn st) .none kV doc pm an cdv ct),osl⟩)
  (c:PySem.W.codeIn K cdv qual=true) (k:PySem.W.keepIn K (.ref f)=true):Fun K x qual st f (PySem.W.fnOf x qual (HE st) (EG st) (Cn st) .none kV doc pm an cdv ct):=⟨⟨oc,od,kV,doc,pm,an,cdv,ct,osl,rfl,l,c⟩,k⟩
end
section
variable {X:Cx}
theorem pv (i:Nat){x:Str}{pos:Pos}(hN:X.N[i]? = some x:=by rfl)(hv:Vis X.env.scope x:=by first|exact Or.inl rfl|exact Or.inr (Or.inl rfl)|exact Or.inr (Or.inr rfl))(hd:(x==("__debug__":Str))=false:=by decide)
  (hcd:(x==("__classdict__":Str))=false:=by decide):PE X (.Name x pos) (Aac i):=RR hN hv hd hcd
end
noncomputable abbrev Go (prog:Program) (w:World) (A:Around) {α:Type} (t:Sem α) (Q:α->Shared->Prop) (s:Shared):Prop:=wpAny (model prog w) A t Q (λ_ _=>False) s
noncomputable def tests (env:Env)(ifs:List Expr):Sem Bool:=forIn ifs true λc r =>
 if r=true then (isTrue c env (eval c env) >>= λok=>pure (ForInStep.yield ok)) else pure (ForInStep.yield r)
noncomputable def VN (prog:Program)(w:World)(A:Around)(target elt:Expr)(ifs:List Expr)(it acc:Value)(env:Env)(fin:Shared->Prop)(v:Value)(s:Shared):Prop:=
 Go prog w A (letOwnedTupleGo target it v) (λ_ s1=>Go prog w A (assign target env v) (λ_ s2=>Go prog w A (tests env ifs) (λok s3 =>
  if ok=true then Go prog w A (eval elt env) (λx s4=>Go prog w A (call (.builtin "list.append") [acc,x]) (λ_ s5=>fin s5) s4) s3 else fin s3) s2) s1) s
theorem Kr {prog:Program}{w:World}{A:Around}{R:Result->Shared->Prop}{s:Shared}{elt target iter:Expr}{ifs:List Expr}{scope:Scope}{pos:Pos}{it acc:Value}{env:Env}(J:Nat->Shared->Prop)
  (turn:∀ (n:Nat) (z:Shared),J n z->Go prog w A (pyNext it) (λr z1=>match r with
   | .none=>R (.ok .next) z1
   | .some v=>VN prog w A target elt ifs it acc env (λz2=>∃ m,m<n∧J m z2) v z1) z) (n:Nat) (h:J n s) :
  codeAny (model prog w) A (Code.compLoop (Expr.ListComp elt [⟨target,iter,ifs,0⟩] scope pos) 0 it acc env) R s:=by
 have step:∀ (n:Nat) (z:Shared),J n z->Go prog w A (compTurn (Expr.ListComp elt [⟨target,iter,ifs,0⟩] scope pos) 0 it acc env)
   (λfin z'=>match fin with
    | .done f=>R (.ok f) z'
    | .again c'=>c'=Code.compLoop (Expr.ListComp elt [⟨target,iter,ifs,0⟩] scope pos) 0 it acc env∧∃ m,m<n∧J m z') z:=by
  intro n z hz
  rw [compTurn_list]
  refine Aa (wpAny_standAt (Aa (thn (turn n z hz) λr z1 h1=>?_)))
  cases r with
  | none=>exact Ac h1
  | some v =>
   refine Aa (thn h1 λ_ z2 h2=>Aa (thn h2 λ_ z3 h3=>Aa (thn h3 λok z4 h4=>?_)))
   cases ok with
   | false=>exact Ac (And.intro rfl h4)
   | true=>exact Aa (Aa (thn h4 λx z5 h5=>Aa (thn h5 λ_ z6 h6=>Ac (Ac (And.intro rfl h6)))))
 refine codeAny_loop rfl J (λn z hz=>?_) n h
 exact wpAny_noted (BS (step n z hz) (λ_ _ q=>q) λ_ _ q=>q.elim)
theorem Jj {scope:Scope}{env:Env}(h:∀ y∈scope.names,y.2=.free->∃ c,env.cells.lookup y.1=some c) :
  ∃ cl,closureFor scope env=pure cl∧(∀ x c,cl.lookup x=some c->env.cells.lookup x=some c)∧∀ y∈scope.names,y.2=.free->∃ c,cl.lookup y.1=some c:=by
 have gen:∀ (l:List (Str×NameKind)) (acc:List (Str×Addr)),(∀ y∈l,y.2=.free->∃ c,env.cells.lookup y.1=some c)->(∀ x c,acc.lookup x=some c->env.cells.lookup x=some c) ->
   ∃ cl,(forIn l acc λ(x:Str×NameKind) (r:List (Str×Addr))=>if (x.2==NameKind.free)=true then do let c←cellOf env x.1;pure (ForInStep.yield ((x.1,c)::r)) else pure (ForInStep.yield r))=(pure cl:Sem (List (Str×Addr))) ∧
    (∀ x c,cl.lookup x=some c->env.cells.lookup x=some c)∧(∀ y∈l,y.2=.free->∃ c,cl.lookup y.1=some c)∧∀ x c,acc.lookup x=some c->∃ c',cl.lookup x=some c':=by
  intro l
  induction l with
  | nil=>intro acc _ ha;exact ⟨acc,rfl,ha,λ_ z=>(nomatch z),λx c e=>⟨c,e⟩⟩
  | cons y r ih =>
   intro acc hl ha
   obtain ⟨n,k⟩:=y
   by_cases hk:k=.free
   ·subst hk
    obtain ⟨c,hc⟩:=hl (n,.free) List.mem_cons_self rfl
    have ha':∀ x c',((n,c)::acc).lookup x=some c'->env.cells.lookup x=some c':=λx c' e=>by
     by_cases hx:x=n
     ·subst hx
      have hb:(x==x)=true:=beq_iff_eq.mpr rfl
      simp only [List.lookup,hb] at e
      cases e;exact hc
     ·have hb:(x==n)=false:=BY.mpr hx
      simp only [List.lookup,hb] at e
      exact ha x c' e
    obtain ⟨cl,h1,h2,h3,h4⟩:=ih ((n,c)::acc) (λy hy=>hl y (Bq _ hy)) ha'
    refine ⟨cl,?_,h2,λy hy hf=>?_,λx c' e=>?_⟩
    ·rw [BV]
     have e:cellOf env n=pure c:=by unfold cellOf;rw [hc]
     simp only [beq_self_eq_true,if_true,e,pure_bind]
     exact h1
    ·refine (Am.mp hy).elim (λz=>?_) λhy=>?_
     ·subst z
      have hb:(n==n)=true:=beq_iff_eq.mpr rfl
      exact h4 n c (by simp only [List.lookup,hb])
     ·exact h3 y hy hf
    ·by_cases hx:x=n
     ·subst hx
      have hb:(x==x)=true:=beq_iff_eq.mpr rfl
      exact h4 x c (by simp only [List.lookup,hb])
     ·have hb:(x==n)=false:=BY.mpr hx
      exact h4 x c' (by simp only [List.lookup,hb];exact e)
   ·obtain ⟨cl,h1,h2,h3,h4⟩:=ih acc (λy hy=>hl y (Bq _ hy)) ha
    refine ⟨cl,?_,h2,λy hy hf=>?_,h4⟩
    ·rw [BV]
     have e:(k==NameKind.free)=false:=by simpa using hk
     simp only [e,AN,A5,pure_bind]
     exact h1
    ·refine (Am.mp hy).elim (λz=>?_) λhy=>?_
     ·subst z
      exact absurd hf hk
     ·exact h3 y hy hf
 obtain ⟨cl,h1,h2,h3,_⟩:=gen scope.names [] h (λx c e=>by simp at e)
 refine ⟨cl,?_,h2,h3⟩
 unfold closureFor
 rw [← h1]
 simp only [bind_pure]
noncomputable def CH (X:Cx)(scope:Scope)(N:List Str)(cl:List (Str×Addr))(C:Addr)(s₁:Shared)(H₁:Hp)(fp:List Addr):Cx where
 prog:=X.prog
 w:=X.w
 K:=X.K
 mg:=X.mg
 base:=X.base
 A:=X.A
 N:=N
 s₀:=s₁
 H₀:=H₁
 env:=compEnvC scope cl C X.env
 outer:=X.stack
 stack:=X.stack
 ex:=fp
 fn:=λ_=>false
 calm:=X.calm
 pn:=[]
 xe:=λ_ _=>False
noncomputable def PF (X:Cx)(ifs:List Expr)(t:TT):Prop:=
 ∀ (pins:List (Addr×Obj)) (s:Shared) (σ:St) (H:Hp) (Q:Bool->Hp->Prop),Inv X pins σ H s->t σ H Q ->
  wpAny (model X.prog X.w) X.A (tests X.env ifs) (TP X pins σ Q) X.xe s
noncomputable def AbQ:TT:=λ_ H Q=>Q true H
theorem Yd {X:Cx}:PF X [] AbQ:=λ_ _ _ H _ I h=>wpAny_tests_nil ⟨H,I,h⟩
theorem XE {X:Cx}{c:Expr}{t:TT}(h:PT X c t):PF X [c] t:=λpins s σ H Q I q=>wpAny_tests_one (h pins s σ H Q I q)
noncomputable def FvOk (X:Cx)(sc:Scope):List (Nat×Str)->Prop
 | []=>True
 | p::r=>(X.N[p.1]? = some p.2∧(X.env.scope.names.lookup p.2=some .cell∨X.env.scope.names.lookup p.2=some .free)∧(sc.names.lookup p.2=some .cell∨sc.names.lookup p.2=some .free))∧FvOk X sc r
theorem FvOk.get {X:Cx}{sc:Scope}:∀ {l:List (Nat×Str)} {k:Nat} {p:Nat×Str},FvOk X sc l->l[k]? = some p ->
  X.N[p.1]? = some p.2∧(X.env.scope.names.lookup p.2=some .cell∨X.env.scope.names.lookup p.2=some .free)∧(sc.names.lookup p.2=some .cell∨sc.names.lookup p.2=some .free)
 | [],_,_,_,h=>(by simp at h)
 | _::_,0,_,hf,h=>by simp at h;subst h;exact hf.1
 | _::_,k+1,_,hf,h=>FvOk.get (k:=k) hf.2 (by simpa using h)
noncomputable def st0 (nc:Nat)(fv:List (Nat×Str))(σ:St):St:=List.replicate nc none++fv.map λp=>σ.getD p.1 none
noncomputable def Aa1 (J:It)(st:St)(g:TG)(tt:TT)(te:TE)(Q:VK)(H1:Hp):Prop:=
 ∃ W:Nat->Nat->List V->St->Hp->Prop,(∃ m,W 0 m [] st H1)∧∀ i m ys σ' H',W i m ys σ' H'->ys.length≤sizeLine ∧
  ((J.stop i H'∧∀ p,H' p=none->Q (.ref p) (upd H' p (.lst ys))) ∨
   (J.go i H'∧∀ x H2,J.yld i H' x H2->g x σ' H2 fun σ3 H3=>tt σ3 H3 λb H4 =>
    if b=true then te σ3 H4 λv H5=>∃ m',m'<m∧W (i+1) m' (ys++[v]) σ3 H5 else ∃ m',m'<m∧W (i+1) m' ys σ3 H4))
noncomputable def tLC (wi:TI)(nc:Nat)(fv:List (Nat×Str))(g:TG)(tt:TT)(te:TE):TE:=fun σ H Q=>wi σ H λJ H1=>Aa1 J (st0 nc fv σ) g tt te Q H1
theorem GL {scope:Scope}{env:Env}{x:Str}(hcell:∀ y∈scope.names,y.2≠.cell)
  (h:(relabel scope env).names.lookup x=some .cell∨(relabel scope env).names.lookup x=some .free):(x,NameKind.free)∈scope.names:=by
 have key:∀ k,(relabel scope env).names.lookup x=some k->k=.cell∨k=.free->(x,NameKind.free)∈scope.names:=λk hk hkk=>by
  have hm:=BZ hk
  obtain ⟨⟨n,k'⟩,hy,e⟩:=Ay.mp hm
  dsimp only at e
  by_cases hc:(k'==NameKind.free&&env.scope.kind==.function&&env.kindOf n==some .cell)=true
  ·rw [if_pos hc] at e
   cases e
   have:k'=.free:=by
    rw [Ab,Ab] at hc
    exact beq_iff_eq.mp hc.1.1
   subst this
   exact hy
  ·rw [if_neg hc] at e
   cases e
   rcases hkk with e|e
   ·subst e;exact absurd rfl (hcell _ hy)
   ·subst e;exact hy
 rcases h with h|h
 ·exact key _ h (.inl rfl)
 ·exact key _ h (.inr rfl)
theorem Un.lay {fs ex:List Addr}{H H':Hp}{h h':Heap}{D:Addr}{o:HO}(u:Un fs ex H H' h h')(hD:h.objs.size≤D)(hn:H' D=none):Un fs ex H (upd H' D o) h h' where
 keep:=u.keep
 slot:=u.slot
 free:=λb ob q n hx=>by
  rw [CY (Ap (Au (Aj q) hD))]
  exact u.free b ob q n hx
 there:=u.there
 tups:=λb xs q=>by have:=u.tups b xs q;rw [CY (CT this hn)];exact this
 frzs:=λb ob xs q=>by have:=u.frzs b ob xs q;rw [CY (CT this hn)];exact this
 tbls:=λb ps q=>by
  obtain ⟨m,e⟩:=u.tbls b ps q
  exact ⟨m,by rw [CY (CT e hn)];exact e⟩
theorem HOk.lay {P:Program}{w:World}{H:Hp}{h:Heap}{D:Addr}{o:HO}(x:HOk P w H h)(hn:H D=none)(new:ObjOk P w (upd H D o) h D o):HOk P w (upd H D o) h:=λb u e=>by
 by_cases hb:b=D
 ·subst hb;rw [El] at e;cases e;exact new
 ·rw [CY hb] at e
  exact (x b u e).stay (λc v _ q=>q) (λc q=>by rw [CY (CT q hn)];exact q) λc xs q=>by rw [CY (CT q hn)];exact q
theorem Un.same {fs ex:List Addr}{H H':Hp}{h h1 h2:Heap}{C:Addr}(u:Un fs ex H H' h h1)(hC:h.objs.size≤C)(sb:Heap.SameBut C h1 h2):Un fs ex H H' h h2:=by
 have ne:∀ b o,h.get? b=some o->b≠C:=λb o e=>Ap (Au (Aj e) hC)
 refine ⟨λb o q n hb hx=>(sb.2 b (ne b o q)).trans (u.keep b o q n hb hx),λb o q n hb hx=>?_,u.free,λb o q hx=>?_,u.tups,u.frzs,u.tbls⟩
 ·obtain ⟨sl,e⟩:=u.slot b o q n hb hx
  exact ⟨sl,(sb.2 b (ne b o q)).trans e⟩
 ·obtain ⟨o',e⟩:=u.there b o q hx
  exact ⟨o',(sb.2 b (ne b o q)).trans e⟩
theorem HOk.same {P:Program}{w:World}{H:Hp}{h1 h2:Heap}{C:Addr}(x:HOk P w H h1)(hn:H C=none)(sb:Heap.SameBut C h1 h2):HOk P w H h2:=λb u e=>by
 refine (x b u e).stay (λc v hc q=>(sb.2 c ?_).trans q) (λ_ q=>q) λ_ _ q=>q
 rcases hc with rfl|hc
 ·exact CT e hn
 ·exact CT hc hn
section
variable {X:Cx} {tg iter elt:Expr} {ifs:List Expr} {scope:Scope} {pos:Pos} {wi:TI} {own:List Str} {fv:List (Nat×Str)} {g:TG} {tt:TT} {te:TE}
structure Kx (X:Cx) (scope:Scope) (fv:List (Nat×Str)):Prop where
 calm:X.calm=true
 kind:scope.kind=.function
 cell:∀ y∈scope.names,y.2≠.cell
 names:∀ y∈scope.names,y.2=.local->scope.names.lookup y.1=some .local
 free:∀ y∈scope.names,y.2=.free->X.env.kindOf y.1=some .cell∨X.env.kindOf y.1=some .free
 fv:FvOk X (relabel scope X.env) fv
theorem K9 {pins:List (Addr×Obj)}{σ:St}{H:Hp}{s:Shared}{fp:List Addr}{cl:List (Str×Addr)}{h₁:Heap}{own:List Str}(I:Inv X pins σ H s)(L:Kx X scope fv)(hf:∀ b∈fp,HQ X pins H b)(hfo:∀ b∈fp,∃ o,s.heap.get? b=some o)
  (hsub:∀ x c,cl.lookup x=some c->X.env.cells.lookup x=some c) (hhas:∀ y∈scope.names,y.2=.free->∃ c,cl.lookup y.1=some c)
  (hns:h₁.Ns (s.heap.objs.size+1) (λx=>([]:List (Str×Value)).reverse.lookup x)) (hold:∀ b o,s.heap.get? b=some o->h₁.get? b=some o) (hD:h₁.get? s.heap.objs.size=some { cls:=.type "list",data:=.seq #[] 0 }) {tk:Nat} :
  Inv (CH X scope (own++fv.map (·.2)) cl (s.heap.objs.size+1) s H fp) [(s.heap.objs.size,{ cls:=.type "list",data:=.seq #[] 0 })] (st0 own.length fv σ) H { s with heap:=h₁,toks:=tk }:=by
 have nst:∀ b,s.heap.objs.size≤b->b∉frs X.stack:=λb hb hm=>by
  rcases Am.mp (I.stkSub b hm) with e|e
  ·exact absurd I.lt (by rw [← e];exact Nat.not_lt.mpr hb)
  ·exact I.nofs hb e
 have fpst:∀ b∈fp,b∉frs X.stack:=λb hb hm=>by
  obtain ⟨_,f1,f2,_⟩:=hf b hb
  rcases Am.mp (I.stkSub b hm) with e|e
  ·exact f1 e
  ·exact f2 e
 have celllt:∀ x c,cl.lookup x=some c->c<s.heap.objs.size:=λx c e=>by
  obtain ⟨v,z⟩:=I.cell x c (hsub x c e)
  exact z.lt
 refine ⟨⟨I.ok.mod,L.kind,I.ok.glob,I.ok.blt,Bi _,λx y c h1 h2=>I.ok.inj x y c (hsub _ _ h1) (hsub _ _ h2),λx hx=>hhas (x,.free) (GL L.cell hx) rfl,λ_ _ z=>Bool.noConfusion z,I.ok.hd,I.ok.frames,.inl rfl,
   λb hb=>⟨?_,λx c e z=>?_⟩,I.bs,AA I.ok.bsz I.sz,λb o e hb=>?_,fpst,I.stack,I.stkFree⟩,
  rfl,I.bare,Un.kept hold,⟨_,hns,λi x v e1 e2 e3=>?_⟩,λx c e=>?_,I.hok.fresh (Bi _),λx c e=>I.freeC x c (hsub x c e),λp hp=>?_,I.hok.kept hold,?_⟩
 ·obtain ⟨o,e⟩:=hfo b hb
  exact Ap (AY (Aj e))
 ·exact (hf b hb).2.2.2.2.1 x c (hsub x c e) z
 ·obtain ⟨_,_,_,f3,_⟩:=hf b hb
  rcases f3 with f3|f3
  ·exact I.ok.noex b o e f3
  ·exact absurd (Au (Aj e) (AA I.ok.bsz f3)) (A8 _)
 ·-- a name that is read
  have e1':(own++fv.map (·.2))[i]? = some x:=e1
  unfold st0 at e2
  by_cases hi:i<own.length
  ·rw [Ax (by simpa using hi),BA] at e2
   split at e2<;>cases e2
  ·rw [Bk (by simpa using hi),BH,Av] at e2
   rw [Bk (by simpa using hi),Av] at e1'
   cases hp:fv[i-own.length]? with
   | none=>rw [hp] at e1';cases e1'
   | some p =>
    rw [hp] at e1' e2
    have ex:p.2=x:=AE e1'
    have ev:σ.getD p.1 none=some v:=AE e2
    obtain ⟨q1,q2,q3⟩:=L.fv.get hp
    rw [ex] at q1 q2 q3
    have hσ:σ[p.1]? = some (some v):=by
     rw [AJ] at ev
     cases q:σ[p.1]? with
     | none=>rw [q] at ev;cases ev
     | some w=>rw [q] at ev;exact congrArg some ev
    obtain ⟨m,_,hl⟩:=I.loc
    obtain ⟨u,r,l⟩:=hl p.1 x v q1 hσ (by rcases q2 with z|z;exact .inr (.inl z);exact .inr (.inr z))
    refine ⟨u,r,.inr ⟨q3,?_⟩⟩
    rcases l with ⟨k,_⟩|⟨_,c,ec,z⟩
    ·exfalso
     have k':X.env.scope.names.lookup x=some .local:=k
     rcases q2 with z|z<;>rw [k'] at z<;>cases z
    ·obtain ⟨c',ec'⟩:=hhas (x,.free) (GL L.cell q3) rfl
     have:c'=c:=AE ((hsub x c' ec').symm.trans ec)
     subst this
     obtain ⟨o,ho,hd⟩:=z
     exact ⟨c',ec',o,hold _ _ ho,hd⟩
 ·obtain ⟨v,o,ho,hd⟩:=I.cell x c (hsub x c e)
  exact ⟨v,o,hold _ _ ho,hd⟩
 ·have e:p=(s.heap.objs.size,{ cls:=.type "list",data:=.seq #[] 0 }):=by simpa [CH] using hp
  subst e
  exact ⟨hD,I.hok.fresh (Ah _),Ap (AS _),nst _ (Ah _),λv z=>by cases z⟩
 ·show (st0 own.length fv σ).length=(own++fv.map (·.2)).length
  unfold st0
  simp
theorem AaM (L:Kx X scope fv)(hi:PI X tg iter wi)
  (hg:∀ cl C s₁ H₁ fp,PG (CH X scope (own++fv.map (·.2)) cl C s₁ H₁ fp) tg g)
  (ht:∀ cl C s₁ H₁ fp,PF (CH X scope (own++fv.map (·.2)) cl C s₁ H₁ fp) ifs tt)
  (he:∀ cl C s₁ H₁ fp,PE (CH X scope (own++fv.map (·.2)) cl C s₁ H₁ fp) elt te)
  (hs:∀ x,foldedSetIterable iter X.env x=pure x:=by intro _;rfl) :
  PE X (.ListComp elt [⟨tg,iter,ifs,0⟩] scope pos) (tLC wi own.length fv g tt te):=by
 intro pins s σ H Q I h
 rw [eval_ListComp]
 obtain ⟨cl,hclos,hsub,hhas⟩:=Jj (scope:=scope) (env:=X.env) λy hy hf=>I.ok.has y.1 (L.free y hy hf)
 refine wpAny_comprehension_free (use:=none) rfl hs hclos L.kind L.names (thn (hi pins s σ H _ I h) λv s1 h1=>thn h1 λitv s2 h2=>?_)
 obtain ⟨it,fp,tn,J,H2,e,I2,T,st2,f2,W,⟨m0,w0⟩,turn⟩:=h2
 subst e
 have hfo:∀ b∈fp,∃ o,s2.heap.get? b=some o:=λb hb=>let ⟨o,e,_⟩:=T.obj _ _ st2 b hb;⟨o,e⟩
 refine AU (wpAny_newFunctionEnv L.cell (by intro y hy;simp at hy) (λh₁ hns₁ hsb₁=>?_) L.kind)
 dsimp only at hns₁ hsb₁ ⊢
 have hCe:(s2.heap.push { cls:=.type "list",dict:=none,data:=.seq ([]:List Value).toArray }).objs.size=s2.heap.objs.size+1:=Be _ _
 rw [hCe] at hns₁ hsb₁ ⊢
 have old:∀ b o,s2.heap.get? b=some o->h₁.get? b=some o:=λb o e=>hsb₁.extBut b o (Ap (AY (Aj e))) (Ad _ (Ad _ e))
 have hD₁:h₁.get? s2.heap.objs.size=some { cls:=.type "list",data:=.seq #[] 0 }:=hsb₁.extBut _ _ (Ap (AS _)) (Ad _ (Ai _ rfl))
 have I4:=K9 (own:=own) (tk:=s2.toks+([]:List (Str×Value)).length) I2 L f2 hfo hsub hhas hns₁ old hD₁
 generalize hXc:CH X scope (own++fv.map (·.2)) cl (s2.heap.objs.size+1) s2 H2 fp=Xc at I4
 have hg':=hg cl (s2.heap.objs.size+1) s2 H2 fp
 have ht':=ht cl (s2.heap.objs.size+1) s2 H2 fp
 have he':=he cl (s2.heap.objs.size+1) s2 H2 fp
 have st4:tn 0 h₁:=T.keep _ _ _ st2 λb _ o e=>old b o e
 have celllt:∀ x c,cl.lookup x=some c->c<s2.heap.objs.size:=λx c e=>by
  obtain ⟨v,z⟩:=I2.cell x c (hsub x c e)
  exact z.lt
 have nst:s2.heap.objs.size∉frs X.stack:=λhm=>by
  rcases Am.mp (I2.stkSub _ hm) with e|e
  ·exact absurd I2.lt (by rw [← e];exact A8 _)
  ·exact I2.nofs (Ah _) e
 rw [hXc] at hg' ht' he'
 have loop:∀ s4:Shared,s4={ s2 with heap:=h₁,toks:=s2.toks+([]:List (Str×Value)).length } ->
   codeAny (model X.prog X.w) X.A (.compLoop (.ListComp elt [⟨tg,iter,ifs,0⟩] scope pos) 0 (.ref it) (.ref s2.heap.objs.size) (compEnvC scope cl (s2.heap.objs.size+1) X.env))
    (compPost (model X.prog X.w) X.A X.xe none (EP X pins σ Q) (.ref s2.heap.objs.size) (s2.heap.objs.size+1)) s4:=by
  rintro s4 rfl
  have fpok:∀ {pl:List (Addr×Obj)} {H':Hp},(∀ p∈pl,p.1=s2.heap.objs.size)->(∀ b∈fp,H' b=none)->∀ b∈fp,HQ Xc pl H' b:=λ{pl H'} hpl hn b hb=>by
   obtain ⟨o,eo⟩:=hfo b hb
   have blt:=Aj eo
   subst hXc
   refine ⟨hn b hb,Ap (AY blt),λhm=>?_,.inl hb,λx c e=>(f2 b hb).2.2.2.2.1 x c (hsub x c e),λp hp=>?_⟩
   ·obtain ⟨_,f1,f3,_⟩:=f2 b hb
    rcases Am.mp (I2.stkSub b hm) with e|e
    ·exact f1 e
    ·exact f3 e
   ·have hp':p∈pl:=by simpa [CH] using hp
    rw [hpl p hp']
    exact Bt blt
  have xP:Xc.prog=X.prog:=by subst hXc;rfl
  have xw:Xc.w=X.w:=by subst hXc;rfl
  have xK:Xc.K=X.K:=by subst hXc;rfl
  have xA:Xc.A=X.A:=by subst hXc;rfl
  have xc:Xc.calm=true:=by subst hXc;exact L.calm
  have xx:Xc.xe=λ_ _=>False:=by subst hXc;rfl
  have xe:Xc.env=compEnvC scope cl (s2.heap.objs.size+1) X.env:=by subst hXc;rfl
  have xs:Xc.s₀=s2:=by subst hXc;rfl
  have xH:Xc.H₀=H2:=by subst hXc;rfl
  have xf:Xc.fs=frs X.stack:=by subst hXc;rfl
  have xex:Xc.ex=fp:=by subst hXc;rfl
  have xpn:Xc.pn=[]:=by subst hXc;rfl
  refine Kr (λn s'=>∃ i ys its k σ' H',Inv Xc [(s2.heap.objs.size,{ cls:=.type "list",data:=.seq its k })] σ' H' s'∧Vals ys its.toList∧tn i s'.heap∧(∀ b∈fp,H' b=none)∧W i n ys σ' H') ?_ m0
   ⟨0,[],#[],0,_,H2,I4,.nil,st4,λb hb=>(f2 b hb).1,w0⟩
  rintro n s5 ⟨i,ys,its,k,σ5,H5,I5,r5,st5,fr5,w5⟩
  obtain ⟨hlen,hst⟩:=turn i n ys σ5 H5 w5
  have hf5:=fpok (pl:=[(s2.heap.objs.size,{ cls:=.type "list",data:=.seq its k })]) (λp hp=>by simp at hp;rw [hp]) fr5
  rcases hst with ⟨stop,qn⟩|⟨go,step⟩
  ·-- the end
   have d:=T.done Xc xP xw xK xc i _ s5 σ5 H5 (λ_ _=>False) I5 hf5 st5 stop
   rw [xA] at d
   refine thn d λr s6 ⟨hr,I6⟩=>?_
   subst hr
   obtain ⟨m,hn,_⟩:=I6.loc
   rw [xe] at hn
   refine ⟨m,hn,λh' sb=>?_⟩
   obtain ⟨eD,nD,_⟩:=I6.pin (s2.heap.objs.size,_) (Al _ (An.mpr rfl))
   have nC:H5 (s2.heap.objs.size+1)=none:=by have:=I6.free;rw [xe] at this;exact this
   refine ⟨.ref s2.heap.objs.size,upd H5 s2.heap.objs.size (.lst ys),?_,rfl,qn _ nD⟩
   have U:Un (frs X.stack) fp H2 H5 s2.heap s6.heap:=by have:=I6.base;rw [xf,xex,xs,xH] at this;exact this
   have ok6:HOk X.prog X.w H5 s6.heap:=by have:=I6.hok;rw [xP,xw] at this;exact this
   have eD':h'.get? s2.heap.objs.size=some { cls:=.type "list",data:=.seq its k }:=(sb.2 _ (Ap (AS _))).trans eD
   refine I2.call' (s':={ s6 with heap:=h' }) (by have:=I6.os;rw [xs] at this;exact this) ((U.same (Bi _) sb).lay (Ah _) nD) ((ok6.same nC sb).lay nD ?_) I6.bare λb hb=>?_
   ·exact ⟨hlen,its.toList,k,r5,by simpa using eD'⟩
   ·obtain ⟨_,f1,_,f3,f4,f5⟩:=f2 b hb
    exact ⟨f3,f1,f4,f5⟩
  ·have d:=T.item Xc xP xw xK xc i _ s5 σ5 H5 (λ_ _=>False) I5 hf5 st5 go
   rw [xA] at d
   refine thn d λr s6 ⟨u,hr,h6⟩=>?_
   subst hr
   refine thn h6 λ_ s7 ⟨x,H7,I7,r7,y7,st7,fr7⟩=>?_
   have I7':=I7.pinned (fpok (pl:=[(s2.heap.objs.size,{ cls:=.type "list",data:=.seq its k })]) (λp hp=>by simp at hp;rw [hp]) fr7) (T.obj _ _ st7)
   have a:=hg' _ s7 σ5 H7 x u _ I7' r7 (step x H7 y7)
   rw [xP,xw,xA,xx,xe] at a
   refine thn a λ_ s8 ⟨σ8,H8,I8,q8⟩=>?_
   have b:=ht' _ s8 σ8 H8 _ I8 q8
   rw [xP,xw,xA,xx,xe] at b
   refine thn b λok s9 ⟨H9,I9,q9⟩=>?_
   have back:∀ {s':Shared} {σ':St} {H':Hp},Inv Xc ([(s2.heap.objs.size,{ cls:=.type "list",data:=.seq its k })]++HG fp s7.heap) σ' H' s' ->
     tn (i+1) s'.heap∧(∀ b∈fp,H' b=none)∧s'.heap.get? s2.heap.objs.size=some { cls:=.type "list",data:=.seq its k }∧H' s2.heap.objs.size=none:=λ{s' σ' H'} J'=>by
    refine ⟨T.keep _ _ _ st7 λb hb o e=>(J'.pin (b,o) (Al _ (Al _ (EC hb e)))).1,λb hb=>?_,?_,?_⟩
    ·obtain ⟨o,e,_⟩:=T.obj _ _ st7 b hb
     exact (J'.pin (b,o) (Al _ (Al _ (EC hb e)))).2.1
    ·exact (J'.pin (s2.heap.objs.size,_) (Al _ (A3 _ (An.mpr rfl)))).1
    ·exact (J'.pin (s2.heap.objs.size,_) (Al _ (A3 _ (An.mpr rfl)))).2.1
   cases ok with
   | false =>
    rw [if_neg AF] at q9 ⊢
    obtain ⟨m',hm,w9⟩:=q9
    obtain ⟨b1,b2,_,_⟩:=back I9
    exact ⟨m',hm,i+1,ys,its,k,σ8,H9,I9.unpinned,r5,b1,b2,w9⟩
   | true =>
    rw [if_pos rfl] at q9 ⊢
    have c:=he' _ s9 σ8 H9 _ I9 q9
    rw [xP,xw,xA,xx,xe] at c
    refine thn c λu' s10 ⟨y,H10,I10,r10,m',hm,w10⟩=>?_
    obtain ⟨b1,b2,b3,b4⟩:=back I10
    have hz:its.size≤sizeLine:=by
     have e:=r5.length
     simp only [Array.length_toList] at e
     omega
    refine wpAny_list_append_plain (hsz:=hz) ⟨k,b3⟩ λh' hl' sb=>?_
    obtain ⟨k',hk'⟩:=hl'
    have I11:Inv Xc [] σ8 H10 s10:=I10.pins_of λp hp=>nomatch hp
    have nDL:s2.heap.objs.size≠Xc.env.locals:=by rw [xe];exact Ap (AS _)
    have I12:Inv Xc [] σ8 H10 { s10 with heap:=h' }:=I11.turned (t':=s10.toks) (it:=s2.heap.objs.size) (λb o hb e=>(sb.2 b hb).trans e) b4 nDL
     (.inr (by rw [xs];exact Ah _)) (λx c e=>by rw [xe] at e;exact Ap (celllt x c e)) (λp hp=>by rw [xpn] at hp;exact nomatch hp)
    have I13:Inv Xc [(s2.heap.objs.size,{ cls:=.type "list",data:=.seq (its.push u') k' })] σ8 H10 { s10 with heap:=h' }:=I12.pins_of λp hp=>by
     have e:p=(s2.heap.objs.size,{ cls:=.type "list",data:=.seq (its.push u') k' }):=by simpa using hp
     subst e
     exact ⟨hk',b4,nDL,by rw [xf];exact nst,λv z=>by cases z⟩
    refine ⟨m',hm,i+1,ys++[y],its.push u',k',σ8,H10,I13,?_,T.keep _ _ _ b1 λb hb o e=>(sb.2 b ?_).trans e,b2,w10⟩
    ·rw [BQ]
     exact r5.append (.cons r10 .nil)
    ·obtain ⟨o',eo⟩:=hfo b hb
     exact Ap (Aj eo)
 exact codeAny_compStart_list (loop _ rfl) (T.self _ 0 _ _ _ st4 (loop _ rfl))
end
section
variable {X:Cx}
theorem Ud:OpR X (compareOp .Is) (λx y H Q=>∃ a b,x=.bl a∧y=.bl b∧Q (.bl (a==b)) H):=by
 intro pins s σ H x y v u Q I rx ry h
 obtain ⟨a,b,rfl,rfl,q⟩:=h
 cases rx
 cases ry
 exact is_bool (JP I q rfl)
theorem N3:OpR X (compareOp .IsNot) (λx y H Q=>∃ a b,x=.bl a∧y=.bl b∧Q (.bl (a != b)) H):=by
 intro pins s σ H x y v u Q I rx ry h
 obtain ⟨a,b,rfl,rfl,q⟩:=h
 cases rx
 cases ry
 exact isnot_bool (JP I q rfl)
theorem US {bs:List Bool}{us:List Value}(r:Vals (bs.map V.bl) us){i:Nat}{v:Value}(e:us[i]? = some v):∃ b,bs[i]? = some b∧v=.bool b:=by
 have hl:=r.length
 rw [Ag] at hl
 have hi:i<us.length:=(Af.mp e).1
 obtain ⟨u,hu,ru⟩:=r.get (i:=i) (x:=V.bl (bs[i]'(by omega))) (by simp)
 rw [e] at hu
 cases hu
 exact ⟨_,by simp,ru⟩
theorem PN (bs:List Bool):((List.range bs.length).all λi=>(bs[i]?).getD true)=bs.all id:=by
 refine Bool.eq_iff_iff.mpr ⟨λh=>Aq.mpr λb hb=>?_,λh=>Aq.mpr λi hi=>?_⟩
 ·obtain ⟨k,lk,rfl⟩:=List.mem_iff_getElem.mp hb
  simpa [lk] using Aq.mp h k (BN.mpr lk)
 ·have lk:i<bs.length:=BN.mp hi
  simpa [lk] using Aq.mp h bs[i] (B7 lk)
theorem SQ (hc:X.calm=true):GW X (.builtin "all") (λxs H Q=>∃ (p:Addr) (bs:List Bool),xs=[.ref p]∧SqL X.K H p (bs.map V.bl)∧Q (.bl (bs.all id)) H):=by
 intro pins s σ H xs us Q I r h
 obtain ⟨p,bs,rfl,hq,q⟩:=h
 obtain ⟨u,rfl,ru⟩:=vals1 r
 cases ru
 obtain ⟨its,rv,pl,hz⟩:=I.list hq
 obtain ⟨m,F⟩:=I.fr
 have hlt:p<s.heap.objs.size:=by obtain ⟨o,n,e,_⟩:=pl;exact Aj e
 refine call_all_walk (wpAny_pyIter_list pl.isList ?_)
 refine ⟨s.heap.objs.size,[s.heap.objs.size,p],[s.heap.objs.size],its.toArray.size,_,_,λi=>(bs[i]?).getD true,rfl,
  Walks.list (A:=X.A.in1) (I.ok.hd hc) _ p (Ap hlt) its.toArray,⟨⟨_,Ai _ rfl,rfl,rfl⟩,pl.isList.push _⟩,λi v s' Q' E' hP hQ=>?_,λh' tk hk=>?_⟩
 ·obtain ⟨b,e,rfl⟩:=US rv (i:=i) (v:=v) (by simpa using hP)
  exact Bu (by simpa only [e,Option.getD_some] using hQ)
 ·have e:((List.range its.toArray.size).all λi=>(bs[i]?).getD true)=bs.all id:=by
   rw [Ak,← rv.length,Ag]
   exact PN bs
  rw [e]
  exact ⟨.bl _,H,I.kept λb x e=>hk b x (λhm=>absurd (Aj e) (by rw [An.mp hm];exact A8 _)) (Ad _ e),rfl,q⟩
theorem OW:OpR X (binaryOp .Mult) (λx y H Q=>∃ (z:Str) (n:Int),x=.str z∧y=.int n∧MulOk z n∧Q (.str (Txt.mul z n)) H):=by
 intro pins s σ H x y v u Q I rx ry h
 obtain ⟨z,n,rfl,rfl,hok,q⟩:=h
 obtain ⟨t,rfl⟩:=rx
 obtain ⟨t',rfl⟩:=ry
 exact SB.mul hok λt' k=>⟨.str _,H,I.tok _,⟨_,rfl⟩,q⟩
theorem part_of {v:Value}{o:Option Int}(p:IsPart v o):∃ l:Option (Int×Tok),v=partValue l∧l.map (·.1)=o:=by
 cases p with
 | none=>exact ⟨none,rfl,rfl⟩
 | int i t=>exact ⟨some (i,t),rfl,rfl⟩
theorem YK:SlR X (λx lo hi H Q=>∃ z:Str,x=.str z∧z.length≤sizeLine∧Q (.str (Txt.slice z lo hi)) H):=by
 intro pins s σ H x v vl vu lo hi sl Q I rx hs pl pu h
 obtain ⟨z,rfl,hz,q⟩:=h
 obtain ⟨t,rfl⟩:=rx
 obtain ⟨l,rfl,rfl⟩:=part_of pl
 obtain ⟨u,rfl,rfl⟩:=part_of pu
 refine ⟨"str",_,PySem.F.slot_str_getitem.lookup,typeIs_str _ _ _,?_⟩
 refine wpAny_getItem_str_slice (l:=l) (u:=u) (st:=none) hs rfl (post_val_or_str ⟨AA (Txt.slice_le z _ _) hz,λt' k=>?_⟩)
 exact ⟨.str _,H,I.tok _,⟨_,rfl⟩,q⟩
end
section
variable {X:Cx} {pins:List (Addr×Obj)} {σ:St} {H:Hp} {s:Shared} {h':Heap}
theorem Inv.turnedL {t':Nat}{ch:List Addr}(I:Inv X pins σ H s)(k:∀ b o,b∉ch->s.heap.get? b=some o->h'.get? b=some o)(hf:∀ b∈ch,HQ X pins H b):Inv X pins σ H { s with heap:=h',toks:=t' }:=by
 have nit:∀ b u,H b=some u->b∉ch:=λb u e z=>by rw [(hf b z).1] at e;cases e
 refine I.step (g':=s.gens) (d':=s.drawn) (ch:=ch) (λb hb=>?_) (λb o _ _ hc e _=>k b o hc e) (λb o _ _ hc e _=>⟨o.slots,k b o hc e⟩) (λ_ _ _ _ n=>n) (λb o hc e=>⟨o,k b o hc e⟩)
  (λ_ _ e=>e) (λ_ _ _ e=>e) (λb ps e=>⟨#[],by rw [e];simp⟩) (λm hm=>?_) (λb u e=>?_) I.bare
 ·obtain ⟨_,f1,_,f3,f4,f5⟩:=hf b hb
  exact ⟨f3,f1,f4,f5⟩
 ·obtain ⟨o,es,ep,ho,r⟩:=hm
  exact ⟨o,es,ep,k _ o (λz=>(hf _ z).2.1 rfl) ho,r⟩
 ·refine (I.hok b u e).stay (λc v hc q=>k c v ?_ q) (λ_ q=>q) λ_ _ q=>q
  rcases hc with z|z
  ·rw [z];exact nit b u e
  ·exact nit c _ z
theorem Inv.lay {T:Addr}{o:HO}(I:Inv X pins σ H s)(hf:HQ X pins H T)(hs:X.s₀.heap.objs.size≤T)(new:ObjOk X.prog X.w (upd H T o) s.heap T o):Inv X pins σ (upd H T o) s:=by
 obtain ⟨f0,f1,f2,f3,f4,f5⟩:=hf
 refine ⟨I.ok,I.os,I.bare,I.base.lay hs f0,I.loc,I.cell,?_,λx c e=>?_,λp hp=>?_,I.hok.lay f0 new,I.len⟩
 ·rw [CY (Ne.symm f1)];exact I.free
 ·rw [CY (f4 x c e)];exact I.freeC x c e
 ·obtain ⟨e,n,r⟩:=I.pin p hp
  exact ⟨e,by rw [CY (f5 p hp)];exact n,r⟩
end
noncomputable def Its (x:Str):It:=⟨λi _=>i<x.cps.size,λi H v H'=>H'=H∧∃ c,x.cps[i]? = some c∧v=.str ⟨#[c]⟩,λi _=>i=x.cps.size⟩
theorem T2 {P:Program}{w:World}{K:PySem.W.Frag}{tg:Expr}{ty:String}(x:Str)(t:Tok)(it:Addr)
  (W:∀ A:Around,A.handled=none->Walks P w A it [it] [it] x.cps.size (SignAt x) (λi h=>h.IsStrIter it ty x t i)) (W0:∀ A:Around,∀ i (s:Shared) (Q:Value->Shared->Prop) (E:Value->Shared->Prop),s.heap.IsStrIter it ty x t i->Q (.ref it) s->wpAny (model P w) A (pyIter (.ref it)) Q E s)
  (hn:["enumerate","zip","dict_itemiterator","dict_reverseitemiterator","odict_iterator","itertools.zip_longest","itertools.pairwise"].contains ty=false):Turn P w K tg (Its x) [it] it (λi h=>h.IsStrIter it ty x t i) where
 mem:=by simp
 obj:=λi h st b hb=>by
  have e:b=it:=by simpa using hb
  subst e
  obtain ⟨o,e,c,d⟩:=st
  exact ⟨o,e,λv z=>by rw [d] at z;cases z⟩
 keep:=λi h h' st k=>by
  obtain ⟨o,e,r⟩:=st
  exact ⟨o,k it (by simp) o e,r⟩
 item:=by
  intro X hP hw hK hc i pins s σ H E I hf st hg
  subst hP hw hK
  refine (W X.A (I.ok.hd hc)).item i s _ _ hg st λv h' tk hv st' kk=>?_
  obtain ⟨c,u,hc',rfl⟩:=hv
  have I1:Inv X pins σ H { s with heap:=h',toks:=tk }:=I.turnedL kk hf
  obtain ⟨o,e,c2,d⟩:=id st'
  exact ⟨_,rfl,QC (s:={ s with heap:=h',toks:=tk }) e c2 d hn ⟨.str ⟨#[c]⟩,H,I1,⟨u,rfl⟩,⟨rfl,c,hc',rfl⟩,st',λb hb=>(hf b hb).1⟩⟩
 done:=by
  intro X hP hw hK hc i pins s σ H E I hf st hg
  subst hP hw hK
  have e:i=x.cps.size:=hg
  subst e
  exact (W X.A (I.ok.hd hc)).done s _ _ st λh' tk kk=>⟨rfl,I.turnedL kk hf⟩
 self:=λA i s Q E st h=>W0 A i s Q E st h
noncomputable def AbM (tl:TE):TI:=fun σ H R=>tl σ H λx H1=>∃ z,x=.str z∧R (Its z) H1
theorem XG {X:Cx}{tg l:Expr}{tl:TE}(hl:PE X l tl):PI X tg l (AbM tl):=by
 intro pins s σ H R I h
 refine thn (hl pins s σ H _ I h) λv s1 ⟨x,H1,I1,r1,q1⟩=>?_
 obtain ⟨z,e,q⟩:=q1
 subst e
 obtain ⟨t,rfl⟩:=r1
 have fin:∀ ty:String,(∀ A:Around,A.handled=none->Walks X.prog X.w A s1.heap.objs.size [s1.heap.objs.size] [s1.heap.objs.size] z.cps.size (SignAt z) (λi h=>h.IsStrIter s1.heap.objs.size ty z t i)) ->
   (∀ A:Around,∀ i (s:Shared) (Q:Value->Shared->Prop) (E:Value->Shared->Prop),s.heap.IsStrIter s1.heap.objs.size ty z t i->Q (.ref s1.heap.objs.size) s->wpAny (model X.prog X.w) A (pyIter (.ref s1.heap.objs.size)) Q E s) ->
   ["enumerate","zip","dict_itemiterator","dict_reverseitemiterator","odict_iterator","itertools.zip_longest","itertools.pairwise"].contains ty=false ->
   PIE X pins σ tg R (.ref s1.heap.objs.size) { s1 with heap:=s1.heap.push { cls:=.type ty,data:=.fields #[.str z t,.int 0 0] } }:=λty W W0 hn=>by
  refine ⟨s1.heap.objs.size,[s1.heap.objs.size],_,_,H1,rfl,I1.kept (t':=s1.toks) λb o e=>Ad _ e,T2 z t _ W W0 hn,⟨_,Ai _ rfl,rfl,rfl⟩,λb hb=>?_,q⟩
  have e:b=s1.heap.objs.size:=by simpa using hb
  subst e
  exact I1.fpOk (Ah _) (I1.hok.fresh (Ah _))
 cases ha:z.cps.all (·<128)
 ·exact wpAny_pyIter_wide ha (fin _ (λA hA=>Walks.strWide hA _ z t) (λA i s Q E st h=>wpAny_pyIter_striter_wide st h) (by decide))
 ·exact wpAny_pyIter_ascii ha (fin _ (λA hA=>Walks.strAscii hA _ z t) (λA i s Q E st h=>wpAny_pyIter_striter_ascii st h) (by decide))
theorem Xu {a b:Nat}(h:a<b∨b<a):a≠b:=by omega
theorem TN (n a b:Nat)(h1:a<n)(h2:b<n):ZipApart (n+4) (n+2) (n+3) n (n+1) a b:=by
 constructor<;>(refine Xu ?_;omega)
section
variable {prog:Program} {w:World} {A:Around} {E:Value->Shared->Prop} {s:Shared}
theorem VY:isSubtype (.type "tuple") (.type "set")=pure false:=(by rw [isSubtype_type];kernel_rfl)
theorem OU:isSubtype (.type "tuple") (.type "frozenset")=pure false:=(by rw [isSubtype_type];kernel_rfl)
noncomputable abbrev Jf (led:Bool):Obj:={ cls:=.type "set",dict:=none,data:=.set #[] 0 (.fresh 0 0 led) }
theorem call_cls {T nw ini:String}{args:List Value}{Q Q1:Value->Shared->Prop}(ft:TypeCalled T nw ini)(hct:checkTypeCall T ⟨args,[]⟩=pure ())
  (hn:codeAny (model prog w) A.in1 (.call (.builtin nw) ⟨.type T::args,[]⟩) (wants Q1 E) s)
  (hi:∀ obj z,Q1 obj z->z.TypeIs obj T∧codeAny (model prog w) A.in1 (.call (.builtin ini) ⟨obj::args,[]⟩) (wants (λr z'=>r=.none∧Q obj z') E) z) :
  wpAny (model prog w) A (PySem.call (.type T) args) Q E s:=by
 have m1:=ft.made
 have m2:=ft.sub
 have m3:=ft.notType
 have m4:=ft.canCreate
 obtain ⟨_,_,m5⟩:=ft.mro
 have cl:wpAny (model prog w) A.in1 (callAny (.type T) ⟨args,[]⟩) (λfin z=>match fin with
   | .done f=>wants Q E (.ok f) z
   | .again c'=>c'.quiet=true∧codeAny (model prog w) A c' (wants Q E) z) (λe z=>wants Q E (.error e) z) s:=by
  refine Ac (And.intro (Code.quiet_builtin _ (by decide +kernel)) (Bh PySem.F.entry_type_call ?_))
  rw [Around.under_plain (weight_type_call_type T args []) (by rfl)]
  repeat (any_goals (first|wp_step|assumption))
  refine codeAny_mono hn λr z hz=>?_
  cases r with
  | error e=>exact hz
  | ok fl =>
   cases fl<;>first|exact hz.elim|skip
   rename_i obj
   obtain ⟨hT,hc⟩:=hi _ _ hz
   have m6:=ft.init.lookup
   have m7:=ft.init.bind obj
   repeat (any_goals (first|wp_step|assumption))
   refine codeAny_mono hc λr2 z2 h2=>?_
   cases r2 with
   | error e=>exact h2
   | ok f2 =>
    cases f2<;>first|exact h2.elim|skip
    obtain ⟨e0,hq⟩:=h2
    subst e0
    repeat (any_goals (first|wp_step|assumption))
 exact wpAny_call (codeAny_of_tree cl)
end
structure LcS (esc scope:Scope):Prop where
 kind:scope.kind=.function
 cell:∀ y∈scope.names,y.2≠.cell
 names:∀ y∈scope.names,y.2=.local->scope.names.lookup y.1=some .local
 free:∀ y∈scope.names,y.2=.free->esc.names.lookup y.1=some .cell∨esc.names.lookup y.1=some .free
theorem Hg {X:Cx}{scope:Scope}{fv:List (Nat×Str)}(esc:Scope)(he:X.env.scope=esc)(hc:X.calm=true)(h:LcS esc scope)(hf:FvOk X (relabel scope X.env) fv):Kx X scope fv:=
 ⟨hc,h.kind,h.cell,h.names,λy hy hk=>by subst he;exact h.free y hy hk,hf⟩
end L2
namespace PV
open PySem L2 PySem.Spec PyProof.Rows
structure Zc where
 K:PySem.W.Frag
 P:Program
 w:World
noncomputable abbrev _root_.L2.Cx.z (X:Cx):Zc:=⟨X.K,X.prog,X.w⟩
inductive D where
 | non|bl (b:Bool)|int (i:Int)|str (x:Str)|tup (ds:List D)|lst (ds:List D)|dct (ks vs:List D)|set (ds:List D)|ref (k:Nat)
noncomputable instance:DecidableEq D:=λa b=>Classical.propDecidable (a=b)
inductive MO where
 | lst (ds:List D)|dct (ks ds:List D)
noncomputable abbrev Sto:=List MO
noncomputable abbrev Rs (α:Type):=Option (α×Sto)
noncomputable abbrev Ro:=List (Option D)
noncomputable abbrev Ex:=Ro->Sto->Rs D
noncomputable abbrev Exs:=Ro->Sto->Rs (List D)
noncomputable abbrev Tx:=Ro->Sto->Rs Bool
inductive Fl where
 | nx|bk|ct|rt (d:D)
noncomputable abbrev Sx:=Ro->Sto->Rs (Fl×Ro)
noncomputable abbrev Fn:=List D->Sto->Rs D
noncomputable def bM {α β:Type}(r:Rs α)(f:α->Sto->Rs β):Rs β:=match r with
 | none=>none
 | some (a,m)=>f a m
theorem D9 {α β:Type}{a:α}{m:Sto}{f:α->Sto->Rs β}:bM (some (a,m)) f=f a m:=rfl
theorem Hf {α β:Type}{r:Rs α}{f:α->Sto->Rs β}{b:β}{m':Sto}(h:bM r f=some (b,m')):∃ a m,r=some (a,m)∧f a m=some (b,m'):=by
 cases r with
 | none=>cases h
 | some p=>exact ⟨p.1,p.2,rfl,h⟩
mutual
noncomputable def DK (w:World):D->Int
 | .non=>reduceHash 0xFCA86420
 | .int i=>hashInt i
 | .str x=>hashStr w x
 | .tup ds=>reduceHash (Builtin.Tuple.tupleHashOf (EK w ds))
 | _=>0
noncomputable def EK (w:World):List D->List Int
 | []=>[]
 | d::ds=>DK w d::EK w ds
end
mutual
noncomputable def dpt:D->Nat
 | .tup ds=>Kw ds+1
 | _=>0
noncomputable def Kw:List D->Nat
 | []=>0
 | d::ds=>max (dpt d) (Kw ds)
end
mutual
noncomputable def hsh:D->Bool
 | .non=>true
 | .int _=>true
 | .str _=>true
 | .tup ds=>GY ds
 | _=>false
noncomputable def GY:List D->Bool
 | []=>true
 | d::ds=>hsh d&&GY ds
end
noncomputable def En (d:D):Bool:=hsh d&&decide (dpt d≤8)
structure KeysOk (ks:List D):Prop where
 len:ks.length≤sizeLine
 nd:ks.Nodup
 ok:∀ k∈ks,En k=true
theorem Ey (w:World)(ds:List D):EK w ds=ds.map (DK w):=by induction ds with
 | nil=>rfl
 | cons d ds ih=>rw [EK,ih];rfl
noncomputable def Zt (a:Addr)(xs:List (Int×V×V))(h:Heap):Prop:=(a==sysModules)=false∧∃ o es ep,h.get? a=some o∧o.ExactDict∧o.data=.dict es ep∧Paired (λ(x:Int×V×V) (e:DictEntry)=>e.hash=x.1∧RelV x.2.1 e.key∧RelV x.2.2 e.val) xs es.toList
noncomputable def Hw (a:Addr)(xs:List (Int×V×V)):HO:=.ext (Zt a xs)
noncomputable def YW (w:World)(a:Addr)(us:List V)(h:Heap):Prop:=∃ o es ep t,h.get? a=some o∧o.ExactSet∧o.data=.set es ep t∧es.size<scanBound∧t.fits es.size=true∧Vals us (es.toList.map (·.2)) ∧
 (w.params.followText "set-order"=true∨t.led=true∧(t.plain=false∨es.size≤1))
noncomputable def Q6 (w:World)(a:Addr)(us:List V):HO:=.ext (YW w a us)
noncomputable def FzL (K:Zc)(th:List Addr)(H:Hp)(a:Addr)(vs:List V):Prop:=(a∉th∧Rd H a (.lst vs)) ∨
 ∃ (o:Obj) (its:Array Value) (n:Nat),K.K.lookup a=some o∧o.cls=.type "list"∧o.dict=none∧o.data=.seq its n∧its.size≤sizeLine∧Vals vs its.toList
theorem FzL.sq {K:Zc}{th:List Addr}{H:Hp}{a:Addr}{vs:List V}(h:FzL K th H a vs):SqL K.K H a vs:=h.elim (λh=>.inl h.2) .inr
mutual
noncomputable def Rep (K:Zc)(th:List Addr)(H:Hp):D->V->Prop
 | .non,v=>v=.non
 | .bl b,v=>v=.bl b
 | .int i,v=>v=.int i
 | .str x,v=>v=.str x∧x.length≤sizeLine∧PyData.strOk x=true
 | .tup ds,v=>∃ a vs,v=.ref a∧SqT K.K H a vs∧RepL K th H ds vs∧ds.length≤sizeLine
 | .lst ds,v=>∃ a vs,v=.ref a∧FzL K th H a vs∧RepL K th H ds vs∧ds.length≤sizeLine
 | .dct ks ds,v=>∃ a xs,v=.ref a∧a∉th∧H a=some (Hw a xs)∧xs.map (·.1)=EK K.w ks∧RepL K th H ks (xs.map (·.2.1))∧RepL K th H ds (xs.map (·.2.2))∧KeysOk ks
 | .set ds,v=>∃ a us vs,v=.ref a∧a∉th∧H a=some (Q6 K.w a us)∧us.Perm vs∧RepL K th H ds vs∧ds.Nodup
 | .ref k,v=>∃ a,v=.ref a∧th[k]? = some a
noncomputable def RepL (K:Zc)(th:List Addr)(H:Hp):List D->List V->Prop
 | [],vs=>vs=[]
 | d::ds,vs=>∃ v r,vs=v::r∧Rep K th H d v∧RepL K th H ds r
end
section
variable {K:Zc} {th th':List Addr} {H H':Hp}
theorem RepL.nil:RepL K th H [] []:=by unfold RepL;rfl
theorem RepL.cons {d:D}{ds:List D}{v:V}{r:List V}(h:Rep K th H d v)(t:RepL K th H ds r):RepL K th H (d::ds) (v::r):=by unfold RepL;exact ⟨v,r,rfl,h,t⟩
theorem RepL.inv {d:D}{ds:List D}{vs:List V}(h:RepL K th H (d::ds) vs):∃ v r,vs=v::r∧Rep K th H d v∧RepL K th H ds r:=by unfold RepL at h;exact h
theorem RepL.inv0 {vs:List V}(h:RepL K th H [] vs):vs=[]:=by unfold RepL at h;exact h
theorem RepL.len:∀ {ds:List D} {vs:List V},RepL K th H ds vs->vs.length=ds.length
 | [],_,h=>by rw [h.inv0];rfl
 | d::ds,_,h=>by obtain ⟨v,r,rfl,_,t⟩:=h.inv;simp [RepL.len t]
theorem RepL.get:∀ {ds:List D} {vs:List V} {i:Nat} {d:D},RepL K th H ds vs->ds[i]? = some d->∃ v,vs[i]? = some v∧Rep K th H d v
 | [],_,_,_,_,e=>by simp at e
 | d::ds,_,0,d',h,e=>by obtain ⟨v,r,rfl,h1,_⟩:=h.inv;simp at e;subst e;exact ⟨v,rfl,h1⟩
 | d::ds,_,i+1,d',h,e=>by
  obtain ⟨v,r,rfl,_,t⟩:=h.inv
  obtain ⟨u,e1,e2⟩:=RepL.get (i:=i) t (by simpa using e)
  exact ⟨u,by simpa using e1,e2⟩
theorem RepL.getV:∀ {ds:List D} {vs:List V} {i:Nat} {v:V},RepL K th H ds vs->vs[i]? = some v->∃ d,ds[i]? = some d∧Rep K th H d v
 | [],_,_,_,h,e=>by rw [h.inv0] at e;simp at e
 | d::ds,_,0,v',h,e=>by obtain ⟨v,r,rfl,h1,_⟩:=h.inv;simp at e;subst e;exact ⟨d,rfl,h1⟩
 | d::ds,_,i+1,v',h,e=>by
  obtain ⟨v,r,rfl,_,t⟩:=h.inv
  obtain ⟨u,e1,e2⟩:=RepL.getV (i:=i) t (by simpa using e)
  exact ⟨u,by simpa using e1,e2⟩
theorem RepL.app:∀ {ds es:List D} {vs us:List V},RepL K th H ds vs->RepL K th H es us->RepL K th H (ds++es) (vs++us)
 | [],_,_,_,h,t=>by rw [h.inv0];exact t
 | d::ds,_,_,_,h,t=>by obtain ⟨v,r,rfl,h1,h2⟩:=h.inv;exact .cons h1 (RepL.app h2 t)
theorem RepL.take:∀ {ds:List D} {vs:List V} (n:Nat),RepL K th H ds vs->RepL K th H (ds.take n) (vs.take n)
 | _,_,0,_=>by simp only [List.take_zero];exact .nil
 | [],_,n+1,h=>by rw [h.inv0];exact .nil
 | d::ds,_,n+1,h=>by obtain ⟨v,r,rfl,h1,h2⟩:=h.inv;exact .cons h1 (RepL.take n h2)
theorem RepL.drop:∀ {ds:List D} {vs:List V} (n:Nat),RepL K th H ds vs->RepL K th H (ds.drop n) (vs.drop n)
 | _,_,0,h=>h
 | [],_,n+1,h=>by rw [h.inv0];exact .nil
 | d::ds,_,n+1,h=>by obtain ⟨v,r,rfl,h1,h2⟩:=h.inv;exact RepL.drop n h2
theorem RepL.rev:∀ {ds:List D} {vs:List V},RepL K th H ds vs->RepL K th H ds.reverse vs.reverse
 | [],_,h=>by rw [h.inv0];exact .nil
 | d::ds,_,h=>by
  obtain ⟨v,r,rfl,h1,h2⟩:=h.inv
  rw [List.reverse_cons,List.reverse_cons]
  exact (RepL.rev h2).app (.cons h1 .nil)
theorem RepL.setAt:∀ {ds:List D} {vs:List V} (i:Nat) {d:D} {v:V},RepL K th H ds vs->Rep K th H d v->RepL K th H (ds.set i d) (vs.set i v)
 | [],_,_,_,_,h,_=>by rw [h.inv0];exact .nil
 | d::ds,_,0,_,_,h,g=>by obtain ⟨v,r,rfl,h1,h2⟩:=h.inv;exact .cons g h2
 | d::ds,_,i+1,_,_,h,g=>by obtain ⟨v,r,rfl,h1,h2⟩:=h.inv;exact .cons h1 (RepL.setAt i h2 g)
structure Ext (th:List Addr) (H:Hp) (th':List Addr) (H':Hp):Prop where
 pre:∃ more,th'=th++more
 out:∀ a o,a∉th->H a=some o->a∉th'
 keep:∀ a o,a∉th->H a=some o->H' a=some o
theorem Ext.refl (th:List Addr)(H:Hp):Ext th H th H:=⟨⟨[],by simp⟩,λ_ _ n _=>n,λ_ _ _ h=>h⟩
theorem Ext.trans {th2:List Addr}{H2:Hp}(a:Ext th H th' H')(b:Ext th' H' th2 H2):Ext th H th2 H2:=by
 obtain ⟨m1,e1⟩:=a.pre
 obtain ⟨m2,e2⟩:=b.pre
 exact ⟨⟨m1++m2,by rw [e2,e1,List.append_assoc]⟩,λx o n h=>b.out x o (a.out x o n h) (a.keep x o n h),λx o n h=>b.keep x o (a.out x o n h) (a.keep x o n h)⟩
theorem Ext.at (e:Ext th H th' H'){k:Nat}{a:Addr}(h:th[k]? = some a):th'[k]? = some a:=by
 obtain ⟨m,rfl⟩:=e.pre
 rw [Ax (Af.mp h).1]
 exact h
theorem Ext.new {p:Addr}(h:H p=none)(o:HO):Ext th H th (upd H p o):=⟨⟨[],by simp⟩,λ_ _ n _=>n,λa u _ e=>by rw [CY (CT e h)];exact e⟩
theorem Ext.newM {p:Addr}(h:H p=none)(o:HO):Ext th H (th++[p]) (upd H p o):=⟨⟨[p],rfl⟩,λa u n e z=>(AR.mp z).elim n λz=>(by rw [An.mp z,h] at e;cases e),
 λa u _ e=>by rw [CY (CT e h)];exact e⟩
theorem Ext.mut {p:Addr}(h:p∈th)(o:HO):Ext th H th (upd H p o):=⟨⟨[],by simp⟩,λ_ _ n _=>n,λa u n e=>by rw [CY (λz=>n (by rw [z];exact h))];exact e⟩
theorem Ext.rd (e:Ext th H th' H'){a:Addr}{u:HO}(n:a∉th)(h:Rd H a u):a∉th'∧Rd H' a u:=by
 rcases h with h|⟨o,h⟩
 ·exact ⟨e.out _ _ n h,.inl (e.keep _ _ n h)⟩
 ·exact ⟨e.out _ _ n h,.inr ⟨o,e.keep _ _ n h⟩⟩
theorem Ext.fz (e:Ext th H th' H'){a:Addr}{vs:List V}(h:FzL K th H a vs):FzL K th' H' a vs:=h.elim (λh=>.inl (e.rd h.1 h.2)) .inr
noncomputable def Jn (th:List Addr)(H:Hp):Prop:=∀ a,a∈th->∃ o,H a=some o∧((∃ xs,o=.lst xs)∨∃ φ,o=.ext φ)
theorem Ext.sqT (e:Ext th H th' H')(t:Jn th H){a:Addr}{xs:List V}(h:SqT K.K H a xs):SqT K.K H' a xs:=by
 rcases h with h|h
 ·refine .inl (e.rd (λz=>?_) h).2
  obtain ⟨o',q,q2⟩:=t a z
  rcases h with h|⟨o,h⟩
  ·rcases q2 with ⟨_,rfl⟩|⟨_,rfl⟩<;>(rw [q] at h;cases h)
  ·rcases q2 with ⟨_,rfl⟩|⟨_,rfl⟩<;>(rw [q] at h;cases h)
 ·exact .inr h
mutual
theorem Rep.ext (e:Ext th H th' H')(t:Jn th H):∀ {d:D} {v:V},Rep K th H d v->Rep K th' H' d v
 | .non,_,h=>h
 | .bl _,_,h=>h
 | .int _,_,h=>h
 | .str _,_,h=>h
 | .tup ds,_,h=>by
  unfold Rep at h ⊢
  obtain ⟨a,vs,q,h1,h2,z⟩:=h
  exact ⟨a,vs,q,e.sqT t h1,RepL.ext e t h2,z⟩
 | .lst ds,_,h=>by
  unfold Rep at h ⊢
  obtain ⟨a,vs,q,h1,h2,z⟩:=h
  exact ⟨a,vs,q,e.fz h1,RepL.ext e t h2,z⟩
 | .dct ks ds,_,h=>by
  unfold Rep at h ⊢
  obtain ⟨a,xs,q,n,h1,h2,h3,h4,h5⟩:=h
  exact ⟨a,xs,q,e.out _ _ n h1,e.keep _ _ n h1,h2,RepL.ext e t h3,RepL.ext e t h4,h5⟩
 | .set ds,_,h=>by
  unfold Rep at h ⊢
  obtain ⟨a,us,vs,q,n,h1,h2,h3,h4⟩:=h
  exact ⟨a,us,vs,q,e.out _ _ n h1,e.keep _ _ n h1,h2,RepL.ext e t h3,h4⟩
 | .ref k,_,h=>by
  unfold Rep at h ⊢
  obtain ⟨a,q,h1⟩:=h
  exact ⟨a,q,e.at h1⟩
theorem RepL.ext (e:Ext th H th' H')(t:Jn th H):∀ {ds:List D} {vs:List V},RepL K th H ds vs->RepL K th' H' ds vs
 | [],_,h=>by rw [h.inv0];exact .nil
 | _::_,_,h=>by
  obtain ⟨v,r,rfl,h1,h2⟩:=h.inv
  exact .cons (Rep.ext e t h1) (RepL.ext e t h2)
end
theorem WI {N:List Addr}(hN:N.Nodup){i j:Nat}{x:Addr}(a:N[i]? = some x)(b:N[j]? = some x):i=j:=by
 obtain ⟨hi,ei⟩:=Af.mp a
 obtain ⟨hj,ej⟩:=Af.mp b
 have:=List.pairwise_iff_getElem.mp hN
 rcases Nat.lt_trichotomy i j with h|h|h
 ·exact absurd (ei.trans ej.symm) (this i j hi hj h)
 ·exact h
 ·exact absurd (ej.trans ei.symm) (this j i hj hi h)
noncomputable def MRep (K:Zc)(th:List Addr)(H:Hp)(a:Addr):MO->Prop
 | .lst ds=>∃ vs,H a=some (.lst vs)∧RepL K th H ds vs∧ds.length≤sizeLine
 | .dct ks ds=>∃ xs,H a=some (Hw a xs)∧xs.map (·.1)=EK K.w ks∧RepL K th H ks (xs.map (·.2.1))∧RepL K th H ds (xs.map (·.2.2))∧KeysOk ks
theorem MRep.ext (e:Ext th H th' H')(t:Jn th H){a:Addr}{o:MO}(ha:∀ u,H a=some u->H' a=some u)(h:MRep K th H a o):MRep K th' H' a o:=by
 cases o with
 | lst ds=>obtain ⟨vs,q1,q2,z⟩:=h;exact ⟨vs,ha _ q1,q2.ext e t,z⟩
 | dct ks ds=>obtain ⟨xs,q1,q2,q3,q4,z⟩:=h;exact ⟨xs,ha _ q1,q2,q3.ext e t,q4.ext e t,z⟩
structure StoOk (K:Zc) (th:List Addr) (mu:Sto) (H:Hp):Prop where
 len:th.length=mu.length
 nd:th.Nodup
 at':∀ (k:Nat) (a:Addr) (o:MO),th[k]? = some a->mu[k]? = some o->MRep K th H a o
theorem StoOk.out {mu:Sto}(s:StoOk K th mu H):Jn th H:=λa ha=>by
 obtain ⟨k,hk,rfl⟩:=List.mem_iff_getElem.mp ha
 have hk':k<mu.length:=by rw [← s.len];exact hk
 have q:=s.at' k th[k] mu[k] (by simp) (by simp)
 cases e:mu[k] with
 | lst ds=>rw [e] at q;obtain ⟨vs,q,_⟩:=q;exact ⟨_,q,.inl ⟨_,rfl⟩⟩
 | dct ks ds=>rw [e] at q;obtain ⟨vs,q,_⟩:=q;exact ⟨_,q,.inr ⟨_,rfl⟩⟩
theorem StoOk.new {mu:Sto}(s:StoOk K th mu H){p:Addr}(h:H p=none)(o:HO):StoOk K th mu (upd H p o):=
 ⟨s.len,s.nd,λk a o' e1 e2=>(s.at' k a o' e1 e2).ext (.new h o) s.out λu q=>by rw [CY (CT q h)];exact q⟩
theorem StoOk.newG {mu:Sto}(s:StoOk K th mu H){p:Addr}(h:H p=none)(o:HO)(mo:MO)(r:MRep K (th++[p]) (upd H p o) p mo):StoOk K (th++[p]) (mu++[mo]) (upd H p o):=by
 have ex:Ext th H (th++[p]) (upd H p o):=.newM h _
 refine ⟨by simp [s.len],?_,λk a o' e1 e2=>?_⟩
 ·refine Bv.mpr ⟨s.nd,by simp,λx hx y hy=>?_⟩
  rw [An.mp hy]
  obtain ⟨xs,q,_⟩:=s.out x hx
  exact CT q h
 ·by_cases hk:k<th.length
  ·rw [Ax hk] at e1
   rw [Ax (by rw [← s.len];exact hk)] at e2
   exact (s.at' k a o' e1 e2).ext ex s.out λu q=>by rw [CY (CT q h)];exact q
  ·have hk2:k=th.length:=by
    have:=(Af.mp e1).1
    simp at this
    omega
   subst hk2
   have e1':a=p:=by simpa using e1.symm
   have e2':o'=mo:=by rw [s.len] at e2;simpa using e2.symm
   subst e1' e2'
   exact r
theorem StoOk.newM {mu:Sto}(s:StoOk K th mu H){p:Addr}(h:H p=none){ds:List D}{vs:List V}(r:RepL K th H ds vs)(hz:ds.length≤sizeLine):StoOk K (th++[p]) (mu++[.lst ds]) (upd H p (.lst vs)):=
 s.newG h _ _ ⟨vs,El,r.ext (.newM h _) s.out,hz⟩
theorem StoOk.putG {mu:Sto}(s:StoOk K th mu H){k:Nat}{a:Addr}(hk:th[k]? = some a)(o:HO)(mo:MO)(r:MRep K th (upd H a o) a mo):StoOk K th (mu.set k mo) (upd H a o):=by
 have ex:Ext th H th (upd H a o):=.mut (Ar hk) _
 refine ⟨by simp [s.len],s.nd,λj b o' e1 e2=>?_⟩
 by_cases hj:j=k
 ·subst hj
  rw [hk] at e1
  cases e1
  have:j<mu.length:=by rw [← s.len];exact (Af.mp hk).1
  have e2':o'=mo:=by simpa [this] using e2.symm
  subst e2'
  exact r
 ·rw [AG (Ne.symm hj)] at e2
  have nb:b≠a:=λz=>by
   subst z
   exact hj (WI s.nd e1 hk)
  exact (s.at' j b o' e1 e2).ext ex s.out λu q=>by rw [CY nb];exact q
theorem StoOk.put {mu:Sto}(s:StoOk K th mu H){k:Nat}{a:Addr}(hk:th[k]? = some a){ds:List D}{vs:List V}(r:RepL K th H ds vs)(hz:ds.length≤sizeLine):StoOk K th (mu.set k (.lst ds)) (upd H a (.lst vs)):=
 s.putG hk _ _ ⟨vs,El,r.ext (.mut (Ar hk) _) s.out,hz⟩
theorem KeysOk.nil:KeysOk []:=⟨AX _,List.nodup_nil,λ_ h=>nomatch h⟩
noncomputable def Tr (K:Zc){A:Type}(th:List Addr)(H:Hp)(r:Rs A)(k:A->List Addr->Sto->Hp->Prop):Prop:=
 ∃ a mu',r=some (a,mu')∧∀ th' H',Ext th H th' H'->StoOk K th' mu' H'->k a th' mu' H'
theorem Tr.mono {A:Type}{r:Rs A}{k k':A->List Addr->Sto->Hp->Prop}(h:Tr K th H r k)(f:∀ a th' mu' H',Ext th H th' H'->StoOk K th' mu' H'->k a th' mu' H'->k' a th' mu' H'):Tr K th H r k':=by
 obtain ⟨a,mu',e,q⟩:=h
 exact ⟨a,mu',e,λth' H' x s=>f a th' mu' H' x s (q th' H' x s)⟩
theorem Tr.ahead {A:Type}{r:Rs A}{k:A->List Addr->Sto->Hp->Prop}(h:Tr K th H r k)(x:Ext th H th' H'):Tr K th' H' r k:=by
 obtain ⟨a,mu',e,q⟩:=h
 exact ⟨a,mu',e,λth2 H2 y s=>q th2 H2 (x.trans y) s⟩
theorem Tr.bind {A B:Type}{r:Rs A}{f:A->Sto->Rs B}{k:B->List Addr->Sto->Hp->Prop}(h:Tr K th H (bM r f) k):Tr K th H r λa th1 mu1 H1=>Tr K th1 H1 (f a mu1) k:=by
 obtain ⟨b,mu',e,q⟩:=h
 obtain ⟨a,m,e1,e2⟩:=Hf e
 exact ⟨a,m,e1,λth1 H1 x1 s1=>⟨b,mu',e2,λth' H' x s=>q th' H' (x1.trans x) s⟩⟩
theorem Tr.bindE {A B:Type}{r:Rs A}{f:A->Sto->Rs B}{k:B->List Addr->Sto->Hp->Prop}(h:Tr K th H (bM r f) k):Tr K th H r λa th1 mu1 H1=>r=some (a,mu1)∧Tr K th1 H1 (f a mu1) k:=by
 obtain ⟨b,mu',e,q⟩:=h
 obtain ⟨a,m,e1,e2⟩:=Hf e
 exact ⟨a,m,e1,λth1 H1 x1 s1=>⟨e1,b,mu',e2,λth' H' x s=>q th' H' (x1.trans x) s⟩⟩
theorem Tr.ret {A:Type}{a:A}{mu:Sto}{k:A->List Addr->Sto->Hp->Prop}(h:Tr K th H (some (a,mu)) k)(s:StoOk K th mu H):k a th mu H:=by
 obtain ⟨b,mu',e,q⟩:=h
 cases e
 exact q th H (.refl _ _) s
theorem Tr.retX {A:Type}{a:A}{mu:Sto}{k:A->List Addr->Sto->Hp->Prop}(h:Tr K th H (some (a,mu)) k)(x:Ext th H th' H')(s:StoOk K th' mu H'):k a th' mu H':=by
 obtain ⟨b,mu',e,q⟩:=h
 cases e
 exact q th' H' x s
theorem Tr.no {A:Type}{k:A->List Addr->Sto->Hp->Prop}(h:Tr K th H (none:Rs A) k):False:=by
 obtain ⟨b,mu',e,q⟩:=h
 cases e
noncomputable def EnvOk (K:Zc)(th:List Addr)(H:Hp)(ro:Ro)(st:L2.St):Prop:=ro.length=st.length∧∀ (i:Nat) (d:D),ro[i]? = some (some d)->∃ v,st[i]? = some (some v)∧Rep K th H d v
theorem EnvOk.ext {ro:Ro}{st:L2.St}(h:EnvOk K th H ro st)(e:Ext th H th' H')(t:Jn th H):EnvOk K th' H' ro st:=⟨h.1,λi d q=>by
 obtain ⟨v,a,b⟩:=h.2 i d q
 exact ⟨v,a,b.ext e t⟩⟩
theorem EnvOk.set {ro:Ro}{st:L2.St}(h:EnvOk K th H ro st)(i:Nat){d:D}{v:V}(r:Rep K th H d v):EnvOk K th H (ro.set i (some d)) (st.set i (some v)):=by
 refine ⟨by simp [h.1],λj d' q=>?_⟩
 by_cases hj:j=i
 ·subst hj
  have hl:j<ro.length:=by
   have:=(Af.mp q).1
   simpa using this
  have:d'=d:=by simpa [hl] using q.symm
  subst this
  exact ⟨v,by simp [← h.1,hl],r⟩
 ·rw [AG (Ne.symm hj)] at q ⊢
  exact h.2 j d' q
noncomputable abbrev KV' (K:Zc) (Q:VK):D->List Addr->Sto->Hp->Prop:=λd th' _ H'=>∀ v,Rep K th' H' d v->Q v H'
noncomputable def rdE (K:Zc)(m:Ex):TE:=λst H Q=>∃ th mu ro,StoOk K th mu H∧EnvOk K th H ro st∧Tr K th H (m ro mu) (KV' K Q)
noncomputable def rdA (K:Zc)(m:Exs):TA:=λst H Q=>∃ th mu ro,StoOk K th mu H∧EnvOk K th H ro st∧Tr K th H (m ro mu) λds th' _ H'=>∀ vs,RepL K th' H' ds vs->Q vs H'
noncomputable def rdT (K:Zc)(m:Tx):TT:=λst H Q=>∃ th mu ro,StoOk K th mu H∧EnvOk K th H ro st∧Tr K th H (m ro mu) λb _ _ H'=>Q b H'
noncomputable def WW (K:Zc)(E:Ends)(p:Fl×Ro)(th:List Addr)(_:Sto)(H:Hp):Prop:=∀ st',EnvOk K th H p.2 st'->match p.1 with
 | .nx=>E.nx st' H
 | .bk=>E.bk st' H
 | .ct=>E.ct st' H
 | .rt d=>∀ v,Rep K th H d v->E.rt v H
noncomputable def rdS (K:Zc)(m:Sx):TS:=λE st H=>∃ th mu ro,StoOk K th mu H∧EnvOk K th H ro st∧Tr K th H (m ro mu) (WW K E)
noncomputable def r2 (K:Zc)(op:D->D->Sto->Rs D):R2:=λx y H Q=>∃ th mu d e,StoOk K th mu H∧Rep K th H d x∧Rep K th H e y∧Tr K th H (op d e mu) (KV' K Q)
noncomputable def rL (K:Zc)(f:Fn):List V->Hp->VK->Prop:=λxs H Q=>∃ th mu ds,StoOk K th mu H∧RepL K th H ds xs∧Tr K th H (f ds mu) (KV' K Q)
end
structure SV (X:Cx) (e:Expr) (m:Ex):Prop where
 r:PE X e (rdE X.z m)
structure SVT (X:Cx) (e:Expr) (m:Tx):Prop where
 r:PT X e (rdT X.z m)
structure SVW (X:Cx) (e:Expr) (m:Tx):Prop where
 r:PW X e (rdT X.z m)
noncomputable def SVA (X:Cx)(es:List Expr)(m:Exs):Prop:=PA X es (rdA X.z m)∧∀ ro mu ds mu',m ro mu=some (ds,mu')->ds.length=es.length
structure SVS (X:Cx) (s:Stmt) (m:Sx):Prop where
 r:PS X s (rdS X.z m)
structure SVB (X:Cx) (b:List Stmt) (m:Sx):Prop where
 r:PSs X b (rdS X.z m)
noncomputable def OpV (X:Cx)(f:Value->Value->Sem Value)(op:D->D->Sto->Rs D):Prop:=OpR X f (r2 X.z op)
noncomputable def CallV (X:Cx)(f:Value)(g:Fn):Prop:=GW X f (rL X.z g)
theorem PE.weak {X:Cx}{e:Expr}{t t':TE}(h:PE X e t)(f:∀ st H Q,t' st H Q->t st H Q):PE X e t':=λpins s st H Q I q=>h pins s st H Q I (f st H Q q)
theorem PT.weak {X:Cx}{e:Expr}{t t':TT}(h:PT X e t)(f:∀ st H Q,t' st H Q->t st H Q):PT X e t':=λpins s st H Q I q=>h pins s st H Q I (f st H Q q)
theorem PW.weak {X:Cx}{e:Expr}{t t':TT}(h:PW X e t)(f:∀ st H Q,t' st H Q->t st H Q):PW X e t':=λwh pins s st H Q I q=>h wh pins s st H Q I (f st H Q q)
theorem PA.weak {X:Cx}{e:List Expr}{t t':TA}(h:PA X e t)(f:∀ st H Q,t' st H Q->t st H Q):PA X e t':=λpos pins s st H Q I q=>h pos pins s st H Q I (f st H Q q)
theorem PS.weak {X:Cx}{e:Stmt}{t t':TS}(h:PS X e t)(f:∀ E st H,t' E st H->t E st H):PS X e t':=λpins s st H E I q=>h pins s st H E I (f E st H q)
theorem PSs.weak {X:Cx}{e:List Stmt}{t t':TS}(h:PSs X e t)(f:∀ E st H,t' E st H->t E st H):PSs X e t':=λpins s st H E I q=>h pins s st H E I (f E st H q)
section
variable {X:Cx} {K:Zc} {th:List Addr} {mu:Sto} {H:Hp}
noncomputable def Cd (i:Nat):Ex:=λro mu=>match ro[i]? with
 | some (some d)=>some (d,mu)
 | _=>none
noncomputable def eC (d:D):Ex:=λ_ mu=>some (d,mu)
theorem Cc (i:Nat){x:Str}{pos:Pos}(hN:X.N[i]? = some x:=by rfl)(hv:Vis X.env.scope x:=by first|exact Or.inl rfl|exact Or.inr (Or.inl rfl)|exact Or.inr (Or.inr rfl))(hd:(x==("__debug__":Str))=false:=by decide)
  (hcd:(x==("__classdict__":Str))=false:=by decide):SV X (.Name x pos) (Cd i):=⟨PE.weak (RR hN hv hd hcd) λst H Q h=>by
 obtain ⟨th,mu,ro,so,en,t⟩:=h
 unfold Cd at t
 cases e:ro[i]? with
 | none=>rw [e] at t;exact t.no.elim
 | some o =>
  cases o with
  | none=>rw [e] at t;exact t.no.elim
  | some d =>
   rw [e] at t
   obtain ⟨v,ev,rv⟩:=en.2 i d e
   exact ⟨v,ev,t.ret so v rv⟩⟩
theorem G3 {e:Expr}{d:D}{v:V}(h:PE X e (tC v))(r:∀ K th H,Rep K th H d v):SV X e (eC d):=⟨PE.weak h λst H Q q=>by
 obtain ⟨th,mu,ro,so,en,t⟩:=q
 exact t.ret so v (r _ _ _)⟩
theorem Cf {i j pos}:SV X (.Constant (.int i) j pos) (eC (.int i)):=G3 UG λ_ _ _=>by unfold Rep;rfl
theorem GA {i j pos}:SV X (.Constant (.bool i) j pos) (eC (.bl i)):=G3 ZA λ_ _ _=>by unfold Rep;rfl
theorem EY {j pos}:SV X (.Constant .none j pos) (eC .non):=G3 XB λ_ _ _=>by unfold Rep;rfl
theorem Cz {i j pos}(h:i.length≤sizeLine∧PyData.strOk i=true:=by decide +kernel):SV X (.Constant (.str i) j pos) (eC (.str i)):=G3 X8 λ_ _ _=>by unfold Rep;exact ⟨rfl,h⟩
theorem MZ {x:Str}{i:Int}{pos:Pos}(hm:∃ t,X.mg x=some (.int i t))(hg:Gl X x:=by rfl)(hd:(x==("__debug__":Str))=false:=by decide):SV X (.Name x pos) (eC (.int i)):=by
 obtain ⟨t,hm⟩:=hm
 exact G3 (Nl (v:=.int i) hg hm ⟨t,rfl⟩ hd) λ_ _ _=>by unfold Rep;rfl
theorem VI {x:Str}{i:Str}{pos:Pos}(hm:∃ t,X.mg x=some (.str i t))(h:i.length≤sizeLine∧PyData.strOk i=true:=by decide +kernel)(hg:Gl X x:=by rfl)(hd:(x==("__debug__":Str))=false:=by decide):SV X (.Name x pos) (eC (.str i)):=by
 obtain ⟨t,hm⟩:=hm
 exact G3 (Nl (v:=.str i) hg hm ⟨t,rfl⟩ hd) λ_ _ _=>by unfold Rep;exact ⟨rfl,h⟩
noncomputable def Ck (g:D->D->Sto->Rs D)(a b:Ex):Ex:=λro mu=>bM (a ro mu) λx m1=>bM (b ro m1) λy m2=>g x y m2
theorem MQ {a b:Ex}{g:D->D->Sto->Rs D}{st:L2.St}{Q:VK}(h:rdE K (Ck g a b) st H Q):tOp (r2 K g) (rdE K a) (rdE K b) st H Q:=by
 obtain ⟨th,mu,ro,so,en,t⟩:=h
 refine ⟨th,mu,ro,so,en,t.bind.mono λx th1 mu1 H1 e1 s1 t1 v rv=>?_⟩
 exact ⟨th1,mu1,ro,s1,en.ext e1 so.out,t1.bind.mono λy th2 mu2 H2 e2 s2 t2 u ru=>⟨th2,mu2,x,y,s2,rv.ext e2 s1.out,ru,t2⟩⟩
theorem Ct {a b:Expr}{op:Operator}{g:D->D->Sto->Rs D}{ma mb:Ex}{pos:Pos}(ho:OpV X (binaryOp op) g)(ha:SV X a ma)(hb:SV X b mb):SV X (.BinOp a op b pos) (Ck g ma mb):=
 ⟨PE.weak (Zh ho ha.r hb.r) λ_ _ _ h=>MQ h⟩
theorem GS {a b:Expr}{op:CmpOp}{g:D->D->Sto->Rs D}{ma mb:Ex}{pos:Pos}(ho:OpV X (compareOp op) g)(ha:SV X a ma)(hb:SV X b mb)(hm:behindInMarks op b=false:=by first|exact Ta _|with_unfolding_all rfl):SV X (.Compare a [op] [b] pos) (Ck g ma mb):=
 ⟨PE.weak (Ve ho ha.r hb.r hm) λ_ _ _ h=>MQ h⟩
theorem CB {a b:Expr}{g:D->D->Sto->Rs D}{ma mb:Ex}{pos:Pos}(ho:IxR X (r2 X.z g))(ha:SV X a ma)(hb:SV X b mb)(hs:QI b:=by intro _ _;rfl):SV X (.Subscript a b pos) (Ck g ma mb):=
 ⟨PE.weak (Aas ho ha.r hb.r hs) λ_ _ _ h=>MQ h⟩
noncomputable def e1 (g:D->Sto->Rs D)(a:Ex):Ex:=λro mu=>bM (a ro mu) λx m1=>g x m1
noncomputable def asB:D->Option Bool
 | .bl b=>some b
 | _=>none
noncomputable def tV (a:Ex):Tx:=λro mu=>bM (a ro mu) λx m1=>(asB x).map λb=>(b,m1)
theorem Nc {d:D}{b:Bool}{v:V}(h:asB d=some b)(r:Rep K th H d v):v=.bl b:=by
 cases d with
 | bl c=>cases h;exact r
 | _=>cases h
theorem Sj {a:Ex}{st:L2.St}{Q:Bool->Hp->Prop}(h:rdT K (tV a) st H Q):Tz (rdE K a) st H Q:=by
 obtain ⟨th,mu,ro,so,en,t⟩:=h
 refine ⟨th,mu,ro,so,en,t.bind.mono λx th1 mu1 H1 e1 s1 t1 v rv=>?_⟩
 cases e:asB x with
 | none=>rw [e] at t1;exact t1.no.elim
 | some b=>rw [e] at t1;exact ⟨b,Nc e rv,t1.ret s1⟩
theorem Eo {e:Expr}{m:Ex}(h:SV X e m)(he:∀ whole,isTrue e X.env whole=(do let v←whole;standAt e.pos;holding [v] (truthy v)):=by intro _;rfl):SVT X e (tV m):=⟨PT.weak (WZ h.r he) λ_ _ _ h=>Sj h⟩
theorem Cu {a b:Expr}{op:CmpOp}{g:D->D->Sto->Rs D}{ma mb:Ex}{pos:Pos}(ho:OpV X (compareOp op) g)(ha:SV X a ma)(hb:SV X b mb)(hm:behindInMarks op b=false:=by first|exact Ta _|with_unfolding_all rfl):SVT X (.Compare a [op] [b] pos) (tV (Ck g ma mb)):=
 ⟨PT.weak (UX ho ha.r hb.r hm) λ_ _ _ h=>by
  obtain ⟨th,mu,ro,so,en,t⟩:=Sj h
  exact MQ ⟨th,mu,ro,so,en,t⟩⟩
noncomputable def tNt (a:Tx):Tx:=λro mu=>bM (a ro mu) λb m1=>some (!b,m1)
theorem Gd {e:Expr}{m:Tx}{pos:Pos}(h:SVT X e m):SVT X (.UnaryOp .Not e pos) (tNt m):=⟨PT.weak (YO h.r) λst H Q h=>by
 obtain ⟨th,mu,ro,so,en,t⟩:=h
 exact ⟨th,mu,ro,so,en,t.bind.mono λb th1 mu1 H1 e1 s1 t1=>t1.ret s1⟩⟩
noncomputable def tAn (a b:Tx):Tx:=λro mu=>bM (a ro mu) λx m1=>if x=true then b ro m1 else some (false,m1)
noncomputable def tO (a b:Tx):Tx:=λro mu=>bM (a ro mu) λx m1=>if x=true then some (true,m1) else b ro m1
theorem NG {a:Expr}{m:Tx}{pos:Pos}(ha:SVT X a m):SVW X (.BoolOp .And [a] pos) m:=⟨VU ha.r⟩
theorem GQ {a:Expr}{m:Tx}{pos:Pos}(ha:SVT X a m):SVW X (.BoolOp .Or [a] pos) m:=⟨WR ha.r⟩
theorem Qm {a b:Expr}{rest:List Expr}{m n:Tx}{pos:Pos}(ha:SVT X a m)(hb:SVW X (.BoolOp .And (b::rest) pos) n):SVW X (.BoolOp .And (a::b::rest) pos) (tAn m n):=⟨PW.weak (Xe ha.r hb.r) λst H Q h=>by
 obtain ⟨th,mu,ro,so,en,t⟩:=h
 refine ⟨th,mu,ro,so,en,t.bind.mono λb th1 mu1 H1 e1 s1 t1=>?_⟩
 cases b with
 | true=>exact ⟨th1,mu1,ro,s1,en.ext e1 so.out,t1⟩
 | false=>exact t1.ret s1⟩
theorem Hm {a b:Expr}{rest:List Expr}{m n:Tx}{pos:Pos}(ha:SVT X a m)(hb:SVW X (.BoolOp .Or (b::rest) pos) n):SVW X (.BoolOp .Or (a::b::rest) pos) (tO m n):=⟨PW.weak (Zp ha.r hb.r) λst H Q h=>by
 obtain ⟨th,mu,ro,so,en,t⟩:=h
 refine ⟨th,mu,ro,so,en,t.bind.mono λb th1 mu1 H1 e1 s1 t1=>?_⟩
 cases b with
 | true=>exact t1.ret s1
 | false=>exact ⟨th1,mu1,ro,s1,en.ext e1 so.out,t1⟩⟩
theorem SVW.t {e:Expr}{m:Tx}(h:SVW X e m):SVT X e m:=⟨PW.pt h.r⟩
noncomputable def eAn (a b:Ex):Ex:=λro mu=>bM (a ro mu) λx m1=>match asB x with
 | none=>none
 | some c=>if c=true then b ro m1 else some (.bl false,m1)
noncomputable def eO (a b:Ex):Ex:=λro mu=>bM (a ro mu) λx m1=>match asB x with
 | none=>none
 | some c=>if c=true then some (.bl true,m1) else b ro m1
noncomputable def eNt (a:Ex):Ex:=λro mu=>bM (a ro mu) λx m1=>match asB x with
 | none=>none
 | some c=>some (.bl (!c),m1)
theorem HV {a:Expr}{op}{m:Ex}{pos:Pos}(h:SV X a m):SV X (.BoolOp op [a] pos) m:=⟨Yb h.r⟩
theorem Gu {a b:Expr}{rest:List Expr}{m n:Ex}{pos:Pos}(ha:SV X a m)(hb:SV X (.BoolOp .And (b::rest) pos) n):SV X (.BoolOp .And (a::b::rest) pos) (eAn m n):=⟨PE.weak (Yc ha.r hb.r) λst H Q h=>by
 obtain ⟨th,mu,ro,so,en,t⟩:=h
 refine ⟨th,mu,ro,so,en,t.bind.mono λx th1 mu1 H1 e1 s1 t1 v rv=>?_⟩
 cases e:asB x with
 | none=>rw [e] at t1;exact t1.no.elim
 | some c =>
  rw [e] at t1
  refine ⟨c,Nc e rv,?_⟩
  cases c with
  | true=>exact ⟨th1,mu1,ro,s1,en.ext e1 so.out,t1⟩
  | false=>exact t1.ret s1 _ (by unfold Rep;rfl)⟩
noncomputable def eIf (c:Tx)(a b:Ex):Ex:=λro mu=>bM (c ro mu) λx m1=>if x=true then a ro m1 else b ro m1
theorem Ea {c a b:Expr}{mc:Tx}{ma mb:Ex}{pos:Pos}(hc:SVT X c mc)(ha:SV X a ma)(hb:SV X b mb):SV X (.IfExp c a b pos) (eIf mc ma mb):=⟨PE.weak (T7 hc.r ha.r hb.r) λst H Q h=>by
 obtain ⟨th,mu,ro,so,en,t⟩:=h
 refine ⟨th,mu,ro,so,en,t.bind.mono λb th1 mu1 H1 e1 s1 t1=>?_⟩
 cases b with
 | true=>exact ⟨th1,mu1,ro,s1,en.ext e1 so.out,t1⟩
 | false=>exact ⟨th1,mu1,ro,s1,en.ext e1 so.out,t1⟩⟩
noncomputable def Cg:Exs:=λ_ mu=>some ([],mu)
noncomputable def Cb (a:Ex)(r:Exs):Exs:=λro mu=>bM (a ro mu) λx m1=>bM (r ro m1) λxs m2=>some (x::xs,m2)
theorem Ce:SVA X [] Cg:=by
 refine ⟨PA.weak R6 λst H Q h=>?_,λro mu ds mu' h=>by cases h;rfl⟩
 obtain ⟨th,mu,ro,so,en,t⟩:=h
 exact t.ret so [] .nil
theorem Ca {e:Expr}{es:List Expr}{m:Ex}{n:Exs}(ha:SV X e m)(hr:SVA X es n)(hs:starEach (e::es) X.env=(false,eval e X.env)::starEach es X.env:=by rfl):SVA X (e::es) (Cb m n):=by
 refine ⟨PA.weak (MW ha.r hr.1 hs) λst H Q h=>?_,λro mu ds mu' h=>?_⟩
 ·obtain ⟨th,mu,ro,so,en,t⟩:=h
  refine ⟨th,mu,ro,so,en,t.bind.mono λx th1 mu1 H1 e1 s1 t1 v rv=>?_⟩
  exact ⟨th1,mu1,ro,s1,en.ext e1 so.out,t1.bind.mono λxs th2 mu2 H2 e2 s2 t2 vs rvs=>t2.ret s2 _ (.cons (rv.ext e2 s1.out) rvs)⟩
 ·obtain ⟨x,m1,_,h⟩:=Hf h
  obtain ⟨xs,m2,h1,h⟩:=Hf h
  cases h
  rw [List.length_cons,List.length_cons,hr.2 _ _ _ _ h1]
noncomputable def Dz (a:Exs):Ex:=λro mu=>bM (a ro mu) λxs m1=>some (.tup xs,m1)
noncomputable def Oc (a:Exs):Ex:=λro mu=>bM (a ro mu) λxs m1=>some (.lst xs,m1)
noncomputable def GF (a:Exs):Ex:=λro mu=>bM (a ro mu) λxs m1=>some (.ref m1.length,m1++[.lst xs])
theorem Rep.newTup (so:StoOk K th mu H){p:Addr}(h:H p=none){ds:List D}{vs:List V}(r:RepL K th H ds vs)(hz:ds.length≤sizeLine):Rep K th (upd H p (.tup vs)) (.tup ds) (.ref p):=by
 unfold Rep
 exact ⟨p,vs,rfl,SqT.of El,r.ext (.new h _) so.out,hz⟩
theorem StoOk.notin (so:StoOk K th mu H){p:Addr}(h:H p=none):p∉th:=λz=>by
 obtain ⟨xs,e,_⟩:=so.out p z
 rw [h] at e
 cases e
theorem Rep.newLst (so:StoOk K th mu H){p:Addr}(h:H p=none){ds:List D}{vs:List V}(r:RepL K th H ds vs)(hz:ds.length≤sizeLine):Rep K th (upd H p (.lst vs)) (.lst ds) (.ref p):=by
 unfold Rep
 exact ⟨p,vs,rfl,.inl ⟨so.notin h,.inl El⟩,r.ext (.new h _) so.out,hz⟩
theorem CW {es:List Expr}{m:Exs}{x1}{pos:Pos}(h:SVA X es m)(hl:es.length≤1000:=by decide):SV X (.Tuple es x1 pos) (Dz m):=⟨PE.weak (XJ h.1) λst H Q q=>by
 obtain ⟨th,mu,ro,so,en,t⟩:=q
 obtain ⟨d,mu',e,_⟩:=id t
 obtain ⟨xs0,m0,e0,_⟩:=Hf e
 have hn:=h.2 _ _ _ _ e0
 have tb:Tr X.z th H (m ro mu) λds th' mu' H'=>ds.length≤1000∧Tr X.z th' H' (some (D.tup ds,mu')) (KV' X.z Q):=by
  obtain ⟨a,mu1,e1,q1⟩:=t.bind
  exact ⟨a,mu1,e1,λth' H' x s=>⟨by rw [h.2 _ _ _ _ e1];exact hl,q1 th' H' x s⟩⟩
 refine ⟨th,mu,ro,so,en,tb.mono λxs th1 mu1 H1 e1 s1 t1 vs rvs=>⟨?_,λp hp=>?_⟩⟩
 ·rw [rvs.len];exact AA t1.1 (by decide)
 ·exact t1.2.retX (.new hp _) (s1.new hp _) _ (Rep.newTup s1 hp rvs (AA t1.1 (by decide)))⟩
theorem Sg {es:List Expr}{m:Exs}{C:List D->Sto->Rs D}{st:L2.St}{ro:Ro}{k:D->List Addr->Sto->Hp->Prop}(h:SVA X es m)(hl:es.length≤1000)(t:Tr K th H (bM (m ro mu) C) k) :
  Tr K th H (m ro mu) λds th' mu' H'=>ds.length≤1000∧Tr K th' H' (C ds mu') k:=by
 obtain ⟨a,mu1,e1,q1⟩:=t.bind
 exact ⟨a,mu1,e1,λth' H' x s=>⟨by rw [h.2 _ _ _ _ e1];exact hl,q1 th' H' x s⟩⟩
theorem JO {es:List Expr}{m:Exs}{pos:Pos}(h:SVA X es m)(hl:es.length≤1000:=by decide):SV X (.List es pos) (Oc m):=⟨PE.weak (TH h.1) λst H Q q=>by
 obtain ⟨th,mu,ro,so,en,t⟩:=q
 refine ⟨th,mu,ro,so,en,(Sg (st:=st) h hl t).mono λxs th1 mu1 H1 e1 s1 t1 vs rvs=>⟨?_,λp hp=>?_⟩⟩
 ·rw [rvs.len];exact AA t1.1 (by decide)
 ·exact t1.2.retX (.new hp _) (s1.new hp _) _ (Rep.newLst s1 hp rvs (AA t1.1 (by decide)))⟩
theorem IG {es:List Expr}{m:Exs}{pos:Pos}(h:SVA X es m)(hl:es.length≤1000:=by decide):SV X (.List es pos) (GF m):=⟨PE.weak (TH h.1) λst H Q q=>by
 obtain ⟨th,mu,ro,so,en,t⟩:=q
 refine ⟨th,mu,ro,so,en,(Sg (st:=st) h hl t).mono λxs th1 mu1 H1 e1 s1 t1 vs rvs=>⟨?_,λp hp=>?_⟩⟩
 ·rw [rvs.len];exact AA t1.1 (by decide)
 ·refine t1.2.retX (.newM hp _) (s1.newM hp rvs (AA t1.1 (by decide))) _ ?_
  unfold Rep
  exact ⟨p,rfl,by rw [← s1.len];simp⟩⟩
noncomputable def Ci (f:Fn)(a:Exs):Ex:=λro mu=>bM (a ro mu) λxs m1=>f xs m1
theorem TF {f:Fn}{a:Exs}{st:L2.St}{Q:VK}(h:rdE K (Ci f a) st H Q):tCB (rL K f) (rdA K a) st H Q:=by
 obtain ⟨th,mu,ro,so,en,t⟩:=h
 exact ⟨th,mu,ro,so,en,t.bind.mono λxs th1 mu1 H1 e1 s1 t1 vs rvs=>⟨th1,mu1,xs,s1,rvs,t1⟩⟩
theorem CF {x:Str}{id:String}{g:Fn}{e:Expr}{es:List Expr}{m:Exs}{p pos:Pos}(hc:CallV X (.builtin id) g)(hm:X.mg x=none)(hv:bootBuiltins x=some (.builtin id))(ha:SVA X (e::es) m)(hg:Gl X x:=by rfl)
  (hn:x≠"__name__":=by decide) (hdb:(x==("__debug__":Str))=false:=by decide) (hs1:starEach (e::es) X.env=(false,eval e X.env)::starEach es X.env:=by rfl) (hs2:(backTo pos (starEach es X.env)).any (·.1)=false:=by rfl):SV X (.Call (.Name x p) (e::es) [] pos) (Ci g m):=
 ⟨PE.weak (OA hc hg hm hv ha.1 hn hdb hs1 hs2) λ_ _ _ h=>TF h⟩
theorem CU {x:Str}{T:String}{g:Fn}{e:Expr}{es:List Expr}{m:Exs}{p pos:Pos}(hc:CallV X (.type T) g)(hm:X.mg x=none)(hv:bootBuiltins x=some (.type T))(ha:SVA X (e::es) m)(hg:Gl X x:=by rfl)
  (hn:x≠"__name__":=by decide) (hdb:(x==("__debug__":Str))=false:=by decide) (hs1:starEach (e::es) X.env=(false,eval e X.env)::starEach es X.env:=by rfl) (hs2:(backTo pos (starEach es X.env)).any (·.1)=false:=by rfl):SV X (.Call (.Name x p) (e::es) [] pos) (Ci g m):=
 ⟨PE.weak (QQ hc hg hm hv ha.1 hn hdb hs1 hs2) λ_ _ _ h=>TF h⟩
noncomputable def spF (K:Zc)(f:Fn)(n:Nat):Sp:=λvs H Q _=>∃ th mu ds,StoOk K th mu H∧RepL K th H ds vs∧ds.length=n∧Tr K th H (f ds mu) (KV' K Q)
structure Cal (P:Program) (w:World) (K:PySem.W.Frag) (mg:Str->Option Value) (base:Heap) (k:Nat) (x:Str) (f:Fn) (n:Nat):Prop where
 ex:∃ (ps:List Str) (a:Addr) (fd:FuncData),ps.length=n∧DS P w K mg base CX0 k a fd ps (spF ⟨K,P,w⟩ f n)∧Binds K fd ps []∧PySem.W.keepIn K (.ref a)=true∧mg x=some (.ref a)
theorem Cm {x:Str}{k:Nat}{f:Fn}{n:Nat}{e:Expr}{es:List Expr}{m:Exs}{p pos:Pos}(C:Cal X.prog X.w X.K X.mg X.base k x f n)(hr:Room k X.A)(ha:SVA X (e::es) m)(hl:(e::es).length=n:=by rfl)(hg:Gl X x:=by rfl)
  (hdb:(x==("__debug__":Str))=false:=by decide) (he:starEach (e::es) X.env=(false,eval e X.env)::starEach es X.env:=by rfl) (hpl:(backTo pos (starEach es X.env)).any (·.1)=false:=by rfl):SV X (.Call (.Name x p) (e::es) [] pos) (Ci f m):=⟨by
 obtain ⟨ps,a,fd,hn,F,b,kp,mm⟩:=C.ex
 refine PE.weak (Wq F hr hg mm kp b .nil Z2 ha.1 hdb he hpl) λst H Q h=>?_
 obtain ⟨th,mu,ro,so,en,t⟩:=h
 have tb:Tr X.z th H (m ro mu) λds th' mu' H'=>ds.length=n∧Tr X.z th' H' (f ds mu') (KV' X.z Q):=by
  obtain ⟨a,mu1,e1,q1⟩:=t.bind
  exact ⟨a,mu1,e1,λth' H' x s=>⟨by rw [ha.2 _ _ _ _ e1];exact hl,q1 th' H' x s⟩⟩
 exact ⟨th,mu,ro,so,en,tb.mono λxs th1 mu1 H1 e1 s1 t1 vs rvs=>⟨th1,mu1,xs,s1,by simpa using rvs,t1.1,t1.2⟩⟩⟩
noncomputable def sNx:Sx:=λro mu=>some ((.nx,ro),mu)
noncomputable def Cv (a b:Sx):Sx:=λro mu=>bM (a ro mu) λp m1=>match p.1 with
 | .nx=>b p.2 m1
 | _=>some (p,m1)
theorem CG:SVB X [] sNx:=⟨PSs.weak Ws λE st H h=>by
 obtain ⟨th,mu,ro,so,en,t⟩:=h
 exact t.ret so st en⟩
theorem Co {s:Stmt}{m:Sx}(h:SVS X s m):SVB X [s] m:=⟨VX h.r⟩
theorem Cj {s:Stmt}{r:List Stmt}{m n:Sx}(h1:SVS X s m)(h2:SVB X r n):SVB X (s::r) (Cv m n):=⟨PSs.weak (T5 h1.r h2.r) λE st H h=>by
 obtain ⟨th,mu,ro,so,en,t⟩:=h
 refine ⟨th,mu,ro,so,en,t.bind.mono λp th1 mu1 H1 e1 s1 t1 st' en'=>?_⟩
 obtain ⟨fl,ro'⟩:=p
 cases fl with
 | nx=>exact ⟨th1,mu1,ro',s1,en',t1⟩
 | bk=>exact t1.ret s1 st' en'
 | ct=>exact t1.ret s1 st' en'
 | rt d=>exact t1.ret s1 st' en'⟩
noncomputable def sRt (a:Ex):Sx:=λro mu=>bM (a ro mu) λd m1=>some ((.rt d,ro),m1)
theorem Cp {e:Expr}{m:Ex}{pos:Pos}(h:SV X e m):SVS X (.Return (some e) pos) (sRt m):=⟨PS.weak (W6 h.r) λE st H h=>by
 obtain ⟨th,mu,ro,so,en,t⟩:=h
 exact ⟨th,mu,ro,so,en,t.bind.mono λd th1 mu1 H1 e1 s1 t1 v rv=>t1.ret s1 st (en.ext e1 so.out) v rv⟩⟩
noncomputable def sEx (a:Ex):Sx:=λro mu=>bM (a ro mu) λ_ m1=>some ((.nx,ro),m1)
theorem Iq {e:Expr}{m:Ex}{pos:Pos}(h:SV X e m)(hs:swapsWith e none pos.line X.env=pure false:=by rfl):SVS X (.Expr e pos) (sEx m):=⟨PS.weak (VS h.r hs) λE st H h=>by
 obtain ⟨th,mu,ro,so,en,t⟩:=h
 exact ⟨th,mu,ro,so,en,t.bind.mono λd th1 mu1 H1 e1 s1 t1 v rv=>t1.ret s1 st (en.ext e1 so.out)⟩⟩
noncomputable def sIf (c:Tx)(a b:Sx):Sx:=λro mu=>bM (c ro mu) λx m1=>if x=true then a ro m1 else b ro m1
theorem CQ {c:Expr}{a b:List Stmt}{mc:Tx}{ma mb:Sx}{pos:Pos}(hc:SVT X c mc)(ha:SVB X a ma)(hb:SVB X b mb):SVS X (.If c a b pos) (sIf mc ma mb):=⟨PS.weak (Aaw hc.r ha.r hb.r) λE st H h=>by
 obtain ⟨th,mu,ro,so,en,t⟩:=h
 refine ⟨th,mu,ro,so,en,t.bind.mono λb th1 mu1 H1 e1 s1 t1=>?_⟩
 cases b with
 | true=>exact ⟨th1,mu1,ro,s1,en.ext e1 so.out,t1⟩
 | false=>exact ⟨th1,mu1,ro,s1,en.ext e1 so.out,t1⟩⟩
noncomputable abbrev Gx:=D->Ro->Sto->Rs Ro
noncomputable abbrev Gxs:=List D->Ro->Sto->Rs Ro
noncomputable def rdG (K:Zc)(g:Gx):TG:=λv st H Q=>∃ th mu ro d,StoOk K th mu H∧EnvOk K th H ro st∧Rep K th H d v∧Tr K th H (g d ro mu) λro' th' _ H'=>∀ st',EnvOk K th' H' ro' st'->Q st' H'
noncomputable def Abz (K:Zc)(g:Gxs):TGs:=λvs st H Q=>∃ th mu ro ds,StoOk K th mu H∧EnvOk K th H ro st∧RepL K th H ds vs∧Tr K th H (g ds ro mu) λro' th' _ H'=>∀ st',EnvOk K th' H' ro' st'->Q st' H'
structure SVG (X:Cx) (e:Expr) (g:Gx):Prop where
 r:PG X e (rdG X.z g)
structure VE (X:Cx) (es:List Expr) (g:Gxs):Prop where
 r:PGs X es (Abz X.z g)
theorem PG.weak {e:Expr}{t t':TG}(h:PG X e t)(f:∀ v st H Q,t' v st H Q->t v st H Q):PG X e t':=λpins s st H v u Q I r q=>h pins s st H v u Q I r (f v st H Q q)
theorem PGs.weak {e:List Expr}{t t':TGs}(h:PGs X e t)(f:∀ v st H Q,t' v st H Q->t v st H Q):PGs X e t':=λpins s st H v u Q I r q=>h pins s st H v u Q I r (f v st H Q q)
noncomputable def gNm (i:Nat):Gx:=λd ro mu=>some (ro.set i (some d),mu)
theorem Cr (i:Nat){x:Str}{pos:Pos}(hN:X.N.Nodup)(hi:X.N[i]? = some x:=by rfl)(hx:Loc X.env.scope x:=by first|exact Or.inl rfl|exact Or.inr rfl)(hf:X.fn x=true∨X.env.scope.names.lookup x=some .local:=by first|exact .inl rfl|exact .inr rfl):SVG X (.Name x pos) (gNm i):=
 ⟨PG.weak (VT hN hi hx hf) λv st H Q h=>by
  obtain ⟨th,mu,ro,d,so,en,r,t⟩:=h
  exact t.ret so _ (en.set i r)⟩
noncomputable def Ew:Gxs:=λds ro mu=>match ds with
 | []=>some (ro,mu)
 | _=>none
noncomputable def CC (g:Gx)(r:Gxs):Gxs:=λds ro mu=>match ds with
 | d::ds=>bM (g d ro mu) λro' m1=>r ds ro' m1
 | []=>none
theorem Fp:VE X [] Ew:=⟨PGs.weak V6 λv st H Q h=>by
 obtain ⟨th,mu,ro,ds,so,en,r,t⟩:=h
 cases ds with
 | nil=>exact ⟨r.inv0,t.ret so _ en⟩
 | cons d ds=>exact t.no.elim⟩
theorem CS {e:Expr}{es:List Expr}{g:Gx}{gs:Gxs}(h1:SVG X e g)(h2:VE X es gs)(hs:(assignEach (e::es) X.env).map (·.2)=assign e X.env::(assignEach es X.env).map (·.2):=by rfl):VE X (e::es) (CC g gs):=⟨PGs.weak (Sk h1.r h2.r hs) λv st H Q h=>by
 obtain ⟨th,mu,ro,ds,so,en,r,t⟩:=h
 cases ds with
 | nil=>exact t.no.elim
 | cons d ds =>
  obtain ⟨v,vr,rfl,r1,r2⟩:=r.inv
  refine ⟨v,vr,rfl,th,mu,ro,d,so,en,r1,?_⟩
  exact Tr.mono (Tr.bind t) λro' th1 mu1 H1 e1 s1 t1 st' en'=>⟨th1,mu1,ro',ds,s1,en',r2.ext e1 so.out,t1⟩⟩
noncomputable def gTp (n:Nat)(g:Gxs):Gx:=λd ro mu=>match d with
 | .tup ds=>if ds.length=n then g ds ro mu else none
 | _=>none
theorem Gj {es:List Expr}{k n:Nat}{g:Gxs}{pos:Pos}(hc:X.calm=true)(h:VE X es g)(hn:(assignEach es X.env).length=n:=by rfl)(hst:(assignEach es X.env).findIdx? (·.1)=none:=by rfl):SVG X (.Tuple es k pos) (gTp n g):=
 ⟨PG.weak (Yr hc h.r hn hst) λv st H Q q=>by
  obtain ⟨th,mu,ro,d,so,en,r,t⟩:=q
  cases d with
  | tup ds =>
   unfold Rep at r
   obtain ⟨a,vs,rfl,hs,rl,_⟩:=r
   unfold gTp at t;dsimp only at t
   by_cases e:ds.length=n
   ·rw [if_pos e] at t
    exact ⟨a,vs,rfl,hs,by rw [rl.len];exact e,th,mu,ro,ds,so,en,rl,t⟩
   ·rw [if_neg e] at t;exact t.no.elim
  | _=>exact t.no.elim⟩
noncomputable def CZ (a:Ex)(g:Gx):Sx:=λro mu=>bM (a ro mu) λd m1=>bM (g d ro m1) λro' m2=>some ((.nx,ro'),m2)
theorem Wr {a:Ex}{g:Gx}{st:L2.St}{E:Ends}(h:rdS K (CZ a g) E st H):Vl (rdE K a) (rdG K g) E st H:=by
 obtain ⟨th,mu,ro,so,en,t⟩:=h
 refine ⟨th,mu,ro,so,en,t.bind.mono λd th1 mu1 H1 e1 s1 t1 v rv=>?_⟩
 refine ⟨th1,mu1,ro,d,s1,en.ext e1 so.out,rv,t1.bind.mono λro' th2 mu2 H2 e2 s2 t2 st' en'=>?_⟩
 exact t2.ret s2 st' en'
theorem Hk {tg e:Expr}{m:Ex}{g:Gx}{pos:Pos}(he:SV X e m)(hg:SVG X tg g)(hs:swapsWithSole [tg] e pos.line X.env=pure false:=by rfl)(hw:swappedStores [tg] e X.env=pure none:=by rfl)
  (h1:(assignEach [tg] X.env).map (·.2)=[assign tg X.env]:=by rfl):SVS X (.Assign [tg] e pos) (CZ m g):=⟨PS.weak (Xq he.r hg.r hs hw h1) λ_ _ _ h=>Wr h⟩
theorem Cy (i:Nat){x:Str}{e:Expr}{m:Ex}{pos pos':Pos}(hN:X.N.Nodup)(he:SV X e m)(hi:X.N[i]? = some x:=by rfl)(hx:Loc X.env.scope x:=by first|exact Or.inl rfl|exact Or.inr rfl)(hs:swapsWith e (some (.Name x pos')) pos.line X.env=pure false:=by rfl)
  (hf:X.fn x=true∨X.env.scope.names.lookup x=some .local:=by first|exact .inl rfl|exact .inr rfl):SVS X (.Assign [.Name x pos'] e pos) (CZ m (gNm i)):=⟨PS.weak (Xr hN hi hx he.r hs hf) λE st H h=>by
 obtain ⟨th,mu,ro,so,en,t⟩:=h
 refine ⟨th,mu,ro,so,en,t.bind.mono λd th1 mu1 H1 e1 s1 t1 v rv=>?_⟩
 exact t1.ret s1 _ ((en.ext e1 so.out).set i rv)⟩
noncomputable def AbB (i j:Nat)(a:Exs):Sx:=λro mu=>bM (a ro mu) λds m1=>match ds with
 | [x,y]=>some ((.nx,(ro.set i (some x)).set j (some y)),m1)
 | _=>none
noncomputable def fnB (n:Nat)(m:Sx):Fn:=λds mu=>bM (m (ds.map some++List.replicate (n-ds.length) none) mu) λp m1=>match p.1 with
 | .rt d=>some (d,m1)
 | .nx=>some (.non,m1)
 | _=>none
theorem Ki {N:List Str}{ds:List D}{vs:List V}(r:RepL K th H ds vs):EnvOk K th H (ds.map some++List.replicate (N.length-ds.length) none) (L2.start N vs):=by
 unfold L2.start
 refine ⟨by simp [r.len],λi d e=>?_⟩
 by_cases hi:i<ds.length
 ·rw [Ax (by simpa using hi),Av] at e
  cases q:ds[i]? with
  | none=>rw [q] at e;cases e
  | some d' =>
   rw [q] at e
   have:d'=d:=by simpa using e
   subst this
   obtain ⟨v,ev,rv⟩:=r.get q
   exact ⟨v,by rw [Ax (by simpa [r.len] using hi),Av,ev];rfl,rv⟩
 ·rw [Bk (by simpa using hi),BA] at e
  split at e<;>cases e
theorem Aat {P:Program}{w:World}{K:PySem.W.Frag}{mg:Str->Option Value}{base:Heap}{x qual:Str}{st:Stmt}{f:Addr}{fd:FuncData}{N ps:List Str}{k:Nat}{m:Sx}(F:Fun K x qual st f fd)(S:Cw N ps (Cn st))
  (hbody:∀ (cdv:Value) (A:Around) (outer:List Env) (s:Shared) (H:Hp) (E:XK),Room k (A.deeper (envOfC qual (Cn st) s.heap.objs.size f cdv)) ->
   SVB (Lr CX0 P w K mg base N qual (Cn st) f cdv A outer s H E).nox (EG st) m):DS P w K mg base CX0 (k+1) f fd ps (spF ⟨K,P,w⟩ (fnB N.length m) ps.length):=by
 refine F.ok S (λvs H Q E h=>?_) (λcdv A outer s H vs Q E hr h=>?_)
 ·obtain ⟨th,mu,ds,_,r,hl,_⟩:=h
  rw [r.len]
  exact hl
 ·obtain ⟨th,mu,ds,so,r,hl,t⟩:=h
  refine ⟨_,(hbody cdv A outer s H E hr).r,?_⟩
  refine ⟨th,mu,_,so,Ki r,t.bind.mono λp th1 mu1 H1 e1 s1 t1 st' en'=>?_⟩
  obtain ⟨fl,ro'⟩:=p
  cases fl with
  | nx=>exact t1.ret s1 _ (by unfold Rep;rfl)
  | bk=>exact t1.no.elim
  | ct=>exact t1.no.elim
  | rt d=>exact λv rv=>t1.ret s1 v rv
theorem Dk (n np:Nat){P:Program}{w:World}{K:PySem.W.Frag}{mg:Str->Option Value}{base:Heap}{x qual:Str}{st:Stmt}{f:Addr}{fd:FuncData}{N ps:List Str}{k:Nat}{m:Sx}(F:Fun K x qual st f fd)(S:Cw N ps (Cn st))(hn:N.length=n)(hp:ps.length=np)
  (hbody:∀ (cdv:Value) (A:Around) (outer:List Env) (s:Shared) (H:Hp) (E:XK),Room k (A.deeper (envOfC qual (Cn st) s.heap.objs.size f cdv)) ->
   SVB (Lr CX0 P w K mg base N qual (Cn st) f cdv A outer s H E).nox (EG st) m):DS P w K mg base CX0 (k+1) f fd ps (spF ⟨K,P,w⟩ (fnB n m) np):=by
 subst hn hp
 exact Aat F S hbody
theorem CL {P:Program}{w:World}{K:PySem.W.Frag}{mg:Str->Option Value}{base:Heap}{x:Str}{st:Stmt}{f:Addr}{fd:FuncData}{ps:List Str}{k n:Nat}{g:Fn}(F:Fun K x x st f fd)(hm:mg x=some (.ref f))(h:DS P w K mg base CX0 k f fd ps (spF ⟨K,P,w⟩ g n))(hb:Binds K fd ps [])(hn:ps.length=n:=by rfl):Cal P w K mg base k x g n:=
 ⟨ps,f,fd,hn,h,hb,F.kp,hm⟩
noncomputable abbrev Ix:=Ro->Sto->Rs (List D×Option Nat)
noncomputable def gOk (g:Option Nat)(m0 m:Sto):Prop:=match g with
 | none=>True
 | some k=>m0[k]? = m[k]?
structure RN (K:Zc) (J:It) (th:List Addr) (mu:Sto) (H:Hp) (ds:List D) (g:Option Nat):Prop where
 sz:ds.length≤sizeLine
 go:∀ th' mu' H',Ext th H th' H'->StoOk K th' mu' H'->gOk g mu mu'->∀ (i:Nat) (d:D),ds[i]? = some d->J.go i H'∧∀ x H2,J.yld i H' x H2->Ext th' H' th' H2∧StoOk K th' mu' H2∧Rep K th' H2 d x
 stop:∀ th' mu' H',Ext th H th' H'->StoOk K th' mu' H'->gOk g mu mu'->J.stop ds.length H'
noncomputable def rdI (K:Zc)(m:Ix):TI:=λst H R=>∃ th mu ro,StoOk K th mu H∧EnvOk K th H ro st∧Tr K th H (m ro mu) λp th' mu' H'=>∀ J,RN K J th' mu' H' p.1 p.2->R J H'
structure SVI (X:Cx) (tg iter:Expr) (m:Ix):Prop where
 r:PI X tg iter (rdI X.z m)
theorem PI.weak {tg e:Expr}{t t':TI}(h:PI X tg e t)(f:∀ st H R,t' st H R->t st H R):PI X tg e t':=λpins s st H R I q=>h pins s st H R I (f st H R q)
open Classical in
noncomputable def EB {A:Type}(g:Option Nat)(m0 m:Sto)(r:Rs A):Rs A:=if gOk g m0 m then r else none
theorem PR {A:Type}{m0 m:Sto}{r:Rs A}:EB none m0 m r=r:=by unfold EB;rw [if_pos (show gOk none m0 m from True.intro)]
theorem Gn {A:Type}{g:Option Nat}{m0 m:Sto}{r:Rs A}{p:A×Sto}(h:EB g m0 m r=some p):gOk g m0 m∧r=some p:=by
 unfold EB at h
 by_cases e:gOk g m0 m
 ·rw [if_pos e] at h;exact ⟨e,h⟩
 ·rw [if_neg e] at h;cases h
noncomputable def FV (g:Option Nat)(m0:Sto)(tg:Gx)(body:Sx):List D->Ro->Sto->Rs (Fl×Ro)
 | [],ro,mu=>some ((.nx,ro),mu)
 | d::ds,ro,mu=>bM (tg d ro mu) λro1 m1=>bM (body ro1 m1) λp m2=>match p.1 with
  | .nx=>EB g m0 m2 (FV g m0 tg body ds p.2 m2)
  | .ct=>EB g m0 m2 (FV g m0 tg body ds p.2 m2)
  | .bk=>some ((.nx,p.2),m2)
  | .rt d=>some ((.rt d,p.2),m2)
noncomputable def JA (i:Ix)(tg:Gx)(body:Sx):Sx:=λro mu=>bM (i ro mu) λp m1=>FV p.2 m1 tg body p.1 ro m1
theorem GK {tg iter:Expr}{body:List Stmt}{i:Ix}{g:Gx}{m:Sx}{pos:Pos}(hp:PassesOwn (model X.prog X.w) X.A X.env X.xe)(hc:X.calm=true)(hi:SVI X tg iter i)(hg:SVG X tg g)(hb:SVB X body m)
  (hs:∀ x,foldedSetIterable iter X.env x=pure x:=by intro _;rfl):SVS X (.For tg iter body [] pos) (JA i g m):=⟨PS.weak (Xa hp hc hi.r hg.r hb.r hs) λE st H h=>by
 obtain ⟨th,mu,ro,so,en,t⟩:=h
 refine ⟨th,mu,ro,so,en,t.bind.mono λp th1 mu1 H1 e1 s1 t1 J ok=>?_⟩
 obtain ⟨ds,gd⟩:=p
 have en1:=en.ext e1 so.out
 refine ⟨λk n st' H'=>n=ds.length-k∧k≤ds.length∧∃ th' mu' ro',StoOk X.z th' mu' H'∧EnvOk X.z th' H' ro' st'∧Ext th1 H1 th' H'∧gOk gd mu1 mu'∧Tr X.z th' H' (FV gd mu1 g m (ds.drop k) ro' mu') (WW X.z E),⟨_,rfl,AX _,th1,mu1,ro,s1,en1,.refl _ _,?_,t1⟩,?_⟩
 ·cases gd with
  | none=>exact True.intro
  | some k=>exact rfl
 rintro k n st2 H2 ⟨rfl,hk,th2,mu2,ro2,s2,en2,e2,g2,t2⟩
 by_cases lt:k<ds.length
 ·refine .inr ?_
  have ek:ds[k]? = some ds[k]:=by simp
  obtain ⟨a1,a2⟩:=ok.go th2 mu2 H2 e2 s2 g2 k ds[k] ek
  refine ⟨a1,λst' H'=>k+1≤ds.length∧∃ th' mu' ro',StoOk X.z th' mu' H'∧EnvOk X.z th' H' ro' st'∧Ext th1 H1 th' H'∧gOk gd mu1 mu'∧Tr X.z th' H' (FV gd mu1 g m (ds.drop (k+1)) ro' mu') (WW X.z E),λst' H' q=>⟨ds.length-(k+1),by omega,rfl,q⟩,λx H3 y=>?_⟩
  obtain ⟨e3,s3,r3⟩:=a2 x H3 y
  rw [BG lt] at t2
  unfold FV at t2
  refine ⟨th2,mu2,ro2,ds[k],s3,en2.ext e3 s2.out,r3,?_⟩
  refine (t2.ahead e3).bind.mono λro4 th4 mu4 H4 e4 s4 t4 st4 en4=>?_
  refine ⟨th4,mu4,ro4,s4,en4,t4.bind.mono λp th5 mu5 H5 e5 s5 t5 st5 en5=>?_⟩
  obtain ⟨fl,ro5⟩:=p
  have e15:Ext th1 H1 th5 H5:=((e2.trans e3).trans e4).trans e5
  cases fl with
  | nx =>
   obtain ⟨a,mu',q1,q2⟩:=t5
   obtain ⟨go5,q1⟩:=Gn q1
   exact ⟨lt,th5,mu5,ro5,s5,en5,e15,go5,a,mu',q1,q2⟩
  | ct =>
   obtain ⟨a,mu',q1,q2⟩:=t5
   obtain ⟨go5,q1⟩:=Gn q1
   exact ⟨lt,th5,mu5,ro5,s5,en5,e15,go5,a,mu',q1,q2⟩
  | bk=>exact t5.ret s5 st5 en5
  | rt d=>exact t5.ret s5 st5 en5
 ·have e:k=ds.length:=by omega
  subst e
  rw [List.drop_length] at t2
  unfold FV at t2
  exact .inl ⟨ok.stop th2 mu2 H2 e2 s2 g2,t2.ret s2 st2 en2⟩⟩
end
end PV
namespace L2
open PySem PySem.Spec PyProof.Rows
section
variable {X:Cx} {tg iter elt:Expr} {ifs:List Expr} {scope:Scope} {pos:Pos} {wi:TI} {own:List Str} {fv:List (Nat×Str)} {g:TG} {tt:TT} {te:TE}
theorem Yk {pos2:Pos}{pins:List (Addr×Obj)}{s:Shared}{σ:L2.St}{H:Hp}{Q:VK}{use:Option (Value->Sem Unit)}{Qc:Value->Shared->Prop}(L:Kx X scope fv)(hi:PI X tg iter wi)
  (hg:∀ cl C s₁ H₁ fp,PG (CH X scope (own++fv.map (·.2)) cl C s₁ H₁ fp) tg g)
  (ht:∀ cl C s₁ H₁ fp,PF (CH X scope (own++fv.map (·.2)) cl C s₁ H₁ fp) ifs tt)
  (he:∀ cl C s₁ H₁ fp,PE (CH X scope (own++fv.map (·.2)) cl C s₁ H₁ fp) elt te)
  (hs:∀ x,foldedSetIterable iter X.env x=pure x) (I:Inv X pins σ H s) (h:tLC wi own.length fv g tt te σ H Q)
  (fin:∀ (s6:Shared) (H':Hp) (D C:Addr) (m:Str->Option Value),Inv X pins σ H' s6->HQ X pins H' C->s6.heap.Ns C m->Q (.ref D) H'->compPost (model X.prog X.w) X.A X.xe use Qc (.ref D) C (.ok .next) s6) :
  wpAny (model X.prog X.w) X.A (comprehension (.ListComp elt [⟨tg,iter,ifs,0⟩] scope pos) scope X.env pos2 (newList []) false (eval iter X.env) use) Qc X.xe s:=by
 obtain ⟨cl,hclos,hsub,hhas⟩:=Jj (scope:=scope) (env:=X.env) λy hy hf=>I.ok.has y.1 (L.free y hy hf)
 refine wpAny_comprehension_free (use:=use) rfl hs hclos L.kind L.names (thn (hi pins s σ H _ I h) λv s1 h1=>thn h1 λitv s2 h2=>?_)
 obtain ⟨it,fp,tn,J,H2,e,I2,T,st2,f2,W,⟨m0,w0⟩,turn⟩:=h2
 subst e
 have hfo:∀ b∈fp,∃ o,s2.heap.get? b=some o:=λb hb=>let ⟨o,e,_⟩:=T.obj _ _ st2 b hb;⟨o,e⟩
 refine AU (wpAny_newFunctionEnv L.cell (by intro y hy;simp at hy) (λh₁ hns₁ hsb₁=>?_) L.kind)
 dsimp only at hns₁ hsb₁ ⊢
 have hCe:(s2.heap.push { cls:=.type "list",dict:=none,data:=.seq ([]:List Value).toArray }).objs.size=s2.heap.objs.size+1:=Be _ _
 rw [hCe] at hns₁ hsb₁ ⊢
 have old:∀ b o,s2.heap.get? b=some o->h₁.get? b=some o:=λb o e=>hsb₁.extBut b o (Ap (AY (Aj e))) (Ad _ (Ad _ e))
 have hD₁:h₁.get? s2.heap.objs.size=some { cls:=.type "list",data:=.seq #[] 0 }:=hsb₁.extBut _ _ (Ap (AS _)) (Ad _ (Ai _ rfl))
 have I4:=K9 (own:=own) (tk:=s2.toks+([]:List (Str×Value)).length) I2 L f2 hfo hsub hhas hns₁ old hD₁
 generalize hXc:CH X scope (own++fv.map (·.2)) cl (s2.heap.objs.size+1) s2 H2 fp=Xc at I4
 have hg':=hg cl (s2.heap.objs.size+1) s2 H2 fp
 have ht':=ht cl (s2.heap.objs.size+1) s2 H2 fp
 have he':=he cl (s2.heap.objs.size+1) s2 H2 fp
 have st4:tn 0 h₁:=T.keep _ _ _ st2 λb _ o e=>old b o e
 have celllt:∀ x c,cl.lookup x=some c->c<s2.heap.objs.size:=λx c e=>by
  obtain ⟨v,z⟩:=I2.cell x c (hsub x c e)
  exact z.lt
 have nst:s2.heap.objs.size∉frs X.stack:=λhm=>by
  rcases Am.mp (I2.stkSub _ hm) with e|e
  ·exact absurd I2.lt (by rw [← e];exact A8 _)
  ·exact I2.nofs (Ah _) e
 rw [hXc] at hg' ht' he'
 have loop:∀ s4:Shared,s4={ s2 with heap:=h₁,toks:=s2.toks+([]:List (Str×Value)).length } ->
   codeAny (model X.prog X.w) X.A (.compLoop (.ListComp elt [⟨tg,iter,ifs,0⟩] scope pos) 0 (.ref it) (.ref s2.heap.objs.size) (compEnvC scope cl (s2.heap.objs.size+1) X.env))
    (compPost (model X.prog X.w) X.A X.xe use Qc (.ref s2.heap.objs.size) (s2.heap.objs.size+1)) s4:=by
  rintro s4 rfl
  have fpok:∀ {pl:List (Addr×Obj)} {H':Hp},(∀ p∈pl,p.1=s2.heap.objs.size)->(∀ b∈fp,H' b=none)->∀ b∈fp,HQ Xc pl H' b:=λ{pl H'} hpl hn b hb=>by
   obtain ⟨o,eo⟩:=hfo b hb
   have blt:=Aj eo
   subst hXc
   refine ⟨hn b hb,Ap (AY blt),λhm=>?_,.inl hb,λx c e=>(f2 b hb).2.2.2.2.1 x c (hsub x c e),λp hp=>?_⟩
   ·obtain ⟨_,f1,f3,_⟩:=f2 b hb
    rcases Am.mp (I2.stkSub b hm) with e|e
    ·exact f1 e
    ·exact f3 e
   ·have hp':p∈pl:=by simpa [CH] using hp
    rw [hpl p hp']
    exact Bt blt
  have xP:Xc.prog=X.prog:=by subst hXc;rfl
  have xw:Xc.w=X.w:=by subst hXc;rfl
  have xK:Xc.K=X.K:=by subst hXc;rfl
  have xA:Xc.A=X.A:=by subst hXc;rfl
  have xc:Xc.calm=true:=by subst hXc;exact L.calm
  have xx:Xc.xe=λ_ _=>False:=by subst hXc;rfl
  have xe:Xc.env=compEnvC scope cl (s2.heap.objs.size+1) X.env:=by subst hXc;rfl
  have xs:Xc.s₀=s2:=by subst hXc;rfl
  have xH:Xc.H₀=H2:=by subst hXc;rfl
  have xf:Xc.fs=frs X.stack:=by subst hXc;rfl
  have xex:Xc.ex=fp:=by subst hXc;rfl
  have xpn:Xc.pn=[]:=by subst hXc;rfl
  refine Kr (λn s'=>∃ i ys its k σ' H',Inv Xc [(s2.heap.objs.size,{ cls:=.type "list",data:=.seq its k })] σ' H' s'∧Vals ys its.toList∧tn i s'.heap∧(∀ b∈fp,H' b=none)∧W i n ys σ' H') ?_ m0
   ⟨0,[],#[],0,_,H2,I4,.nil,st4,λb hb=>(f2 b hb).1,w0⟩
  rintro n s5 ⟨i,ys,its,k,σ5,H5,I5,r5,st5,fr5,w5⟩
  obtain ⟨hlen,hst⟩:=turn i n ys σ5 H5 w5
  have hf5:=fpok (pl:=[(s2.heap.objs.size,{ cls:=.type "list",data:=.seq its k })]) (λp hp=>by simp at hp;rw [hp]) fr5
  rcases hst with ⟨stop,qn⟩|⟨go,step⟩
  ·-- the end
   have d:=T.done Xc xP xw xK xc i _ s5 σ5 H5 (λ_ _=>False) I5 hf5 st5 stop
   rw [xA] at d
   refine thn d λr s6 ⟨hr,I6⟩=>?_
   subst hr
   obtain ⟨m,hn,_⟩:=I6.loc
   rw [xe] at hn
   obtain ⟨eD,nD,_⟩:=I6.pin (s2.heap.objs.size,_) (Al _ (An.mpr rfl))
   have nC:H5 (s2.heap.objs.size+1)=none:=by have:=I6.free;rw [xe] at this;exact this
   have U:Un (frs X.stack) fp H2 H5 s2.heap s6.heap:=by have:=I6.base;rw [xf,xex,xs,xH] at this;exact this
   have ok6:HOk X.prog X.w H5 s6.heap:=by have:=I6.hok;rw [xP,xw] at this;exact this
   have J6:Inv X pins σ (upd H5 s2.heap.objs.size (.lst ys)) s6:=I2.call' (s':=s6) (by have:=I6.os;rw [xs] at this;exact this) (U.lay (Ah _) nD) (ok6.lay nD ⟨hlen,its.toList,k,r5,by simpa using eD⟩) I6.bare λb hb=>by
    obtain ⟨_,f1,_,f3,f4,f5⟩:=f2 b hb
    exact ⟨f3,f1,f4,f5⟩
   exact fin s6 _ _ _ m J6 (I2.fpOk (Bi _) (by rw [CY (Bt (AS _))];exact nC)) hn (qn _ nD)
  ·have d:=T.item Xc xP xw xK xc i _ s5 σ5 H5 (λ_ _=>False) I5 hf5 st5 go
   rw [xA] at d
   refine thn d λr s6 ⟨u,hr,h6⟩=>?_
   subst hr
   refine thn h6 λ_ s7 ⟨x,H7,I7,r7,y7,st7,fr7⟩=>?_
   have I7':=I7.pinned (fpok (pl:=[(s2.heap.objs.size,{ cls:=.type "list",data:=.seq its k })]) (λp hp=>by simp at hp;rw [hp]) fr7) (T.obj _ _ st7)
   have a:=hg' _ s7 σ5 H7 x u _ I7' r7 (step x H7 y7)
   rw [xP,xw,xA,xx,xe] at a
   refine thn a λ_ s8 ⟨σ8,H8,I8,q8⟩=>?_
   have b:=ht' _ s8 σ8 H8 _ I8 q8
   rw [xP,xw,xA,xx,xe] at b
   refine thn b λok s9 ⟨H9,I9,q9⟩=>?_
   have back:∀ {s':Shared} {σ':St} {H':Hp},Inv Xc ([(s2.heap.objs.size,{ cls:=.type "list",data:=.seq its k })]++HG fp s7.heap) σ' H' s' ->
     tn (i+1) s'.heap∧(∀ b∈fp,H' b=none)∧s'.heap.get? s2.heap.objs.size=some { cls:=.type "list",data:=.seq its k }∧H' s2.heap.objs.size=none:=λ{s' σ' H'} J'=>by
    refine ⟨T.keep _ _ _ st7 λb hb o e=>(J'.pin (b,o) (Al _ (Al _ (EC hb e)))).1,λb hb=>?_,?_,?_⟩
    ·obtain ⟨o,e,_⟩:=T.obj _ _ st7 b hb
     exact (J'.pin (b,o) (Al _ (Al _ (EC hb e)))).2.1
    ·exact (J'.pin (s2.heap.objs.size,_) (Al _ (A3 _ (An.mpr rfl)))).1
    ·exact (J'.pin (s2.heap.objs.size,_) (Al _ (A3 _ (An.mpr rfl)))).2.1
   cases ok with
   | false =>
    rw [if_neg AF] at q9 ⊢
    obtain ⟨m',hm,w9⟩:=q9
    obtain ⟨b1,b2,_,_⟩:=back I9
    exact ⟨m',hm,i+1,ys,its,k,σ8,H9,I9.unpinned,r5,b1,b2,w9⟩
   | true =>
    rw [if_pos rfl] at q9 ⊢
    have c:=he' _ s9 σ8 H9 _ I9 q9
    rw [xP,xw,xA,xx,xe] at c
    refine thn c λu' s10 ⟨y,H10,I10,r10,m',hm,w10⟩=>?_
    obtain ⟨b1,b2,b3,b4⟩:=back I10
    have hz:its.size≤sizeLine:=by
     have e:=r5.length
     simp only [Array.length_toList] at e
     omega
    refine wpAny_list_append_plain (hsz:=hz) ⟨k,b3⟩ λh' hl' sb=>?_
    obtain ⟨k',hk'⟩:=hl'
    have I11:Inv Xc [] σ8 H10 s10:=I10.pins_of λp hp=>nomatch hp
    have nDL:s2.heap.objs.size≠Xc.env.locals:=by rw [xe];exact Ap (AS _)
    have I12:Inv Xc [] σ8 H10 { s10 with heap:=h' }:=I11.turned (t':=s10.toks) (it:=s2.heap.objs.size) (λb o hb e=>(sb.2 b hb).trans e) b4 nDL
     (.inr (by rw [xs];exact Ah _)) (λx c e=>by rw [xe] at e;exact Ap (celllt x c e)) (λp hp=>by rw [xpn] at hp;exact nomatch hp)
    have I13:Inv Xc [(s2.heap.objs.size,{ cls:=.type "list",data:=.seq (its.push u') k' })] σ8 H10 { s10 with heap:=h' }:=I12.pins_of λp hp=>by
     have e:p=(s2.heap.objs.size,{ cls:=.type "list",data:=.seq (its.push u') k' }):=by simpa using hp
     subst e
     exact ⟨hk',b4,nDL,by rw [xf];exact nst,λv z=>by cases z⟩
    refine ⟨m',hm,i+1,ys++[y],its.push u',k',σ8,H10,I13,?_,T.keep _ _ _ b1 λb hb o e=>(sb.2 b ?_).trans e,b2,w10⟩
    ·rw [BQ]
     exact r5.append (.cons r10 .nil)
    ·obtain ⟨o',eo⟩:=hfo b hb
     exact Ap (Aj eo)
 exact codeAny_compStart_list (loop _ rfl) (T.self _ 0 _ _ _ st4 (loop _ rfl))
theorem My {C:Addr}{h h':Heap}(sb:Heap.SameBut C h h'):∀ b o,b∉[C]->h.get? b=some o->h'.get? b=some o:=λb o hb e=>(sb.2 b (by simpa using hb)).trans e
theorem TC {i:Nat}{x:Str}{px spos:Pos}(L:Kx X scope fv)(hi:PI X tg iter wi)
  (hg:∀ cl C s₁ H₁ fp,PG (CH X scope (own++fv.map (·.2)) cl C s₁ H₁ fp) tg g)
  (ht:∀ cl C s₁ H₁ fp,PF (CH X scope (own++fv.map (·.2)) cl C s₁ H₁ fp) ifs tt)
  (he:∀ cl C s₁ H₁ fp,PE (CH X scope (own++fv.map (·.2)) cl C s₁ H₁ fp) elt te)
  (hN:X.N.Nodup) (hix:X.N[i]? = some x) (hx:Loc X.env.scope x) (hf:X.fn x=true∨X.env.scope.names.lookup x=some .local)
  (hsw:swapsWith (.ListComp elt [⟨tg,iter,ifs,0⟩] scope pos) (some (.Name x px)) spos.line X.env=pure true) (hs:∀ x,foldedSetIterable iter X.env x=pure x) :
  PS X (.Assign [.Name x px] (.ListComp elt [⟨tg,iter,ifs,0⟩] scope pos) spos) (Vl (tLC wi own.length fv g tt te) (TR i)):=by
 intro pins s σ H E I h
 (rw [exec_Assign_Name_used _ _ _ _ hsw])
 refine Aa (wpAny_standAt (Aa ?_))
 show wpAny _ X.A (do let _←comprehension (.ListComp elt [⟨tg,iter,ifs,0⟩] scope pos) scope X.env _ (newList []) false (eval iter X.env) (some (assign (.Name x px) X.env))) _ _ s
 refine Aa (BS (Yk (use:=some (assign (.Name x px) X.env)) (Qc:=λ_ s'=>SP X pins E .next s') (pos:=pos) L hi hg ht he hs I h λs6 H' D C m J6 fC nsC q=>?_) (λ_ s' hq=>Ac (Ac hq)) λ_ _ e=>e)
 obtain ⟨oC,es,ep,hoC,hdC,rC⟩:=id nsC
 have J7:Inv X (pins++[(C,oC)]) σ H' s6:=J6.pins_of λp hp=>(AR.mp hp).elim (λz=>J6.pin p (Al _ z)) λz=>by
  have e:p=(C,oC):=by simpa using z
  subst e
  obtain ⟨f0,f1,f2,_⟩:=fC
  exact ⟨hoC,f0,f1,f2,λv z=>by rw [hdC] at z;cases z⟩
 show wpAny _ X.A (assign (.Name x px) X.env (.ref D)) _ _ _
 refine wpAny_assign_Name (G1 J7 hN hix hx (show RelV (.ref D) (.ref D) from rfl) (λs8 I8=>?_) hf)
 have eC:=(I8.pin (C,oC) (Al _ (Al _ (An.mpr rfl)))).1
 refine ⟨m,⟨oC,es,ep,eC,hdC,rC⟩,λh' sb=>?_⟩
 exact ⟨_,H',(I8.unpinned).turnedL (ch:=[C]) (t':=s8.toks) (My sb) (λb hb=>by rw [An.mp hb];exact fC),q⟩
end
end L2
namespace PV
open PySem L2 PySem.Spec PyProof.Rows
section
variable {X:Cx} {K:Zc} {th:List Addr} {mu:Sto} {H:Hp}
noncomputable def FA (g:Option Nat)(m0:Sto)(tg:Gx)(tt:Tx)(el:Ex)(ro:Ro):List D->Sto->Rs (List D)
 | [],mu=>some ([],mu)
 | d::ds,mu=>bM (tg d ro mu) λro1 m1=>bM (tt ro1 m1) λb m2 =>
  if b=true then bM (el ro1 m2) λy m3=>EB g m0 m3 (bM (FA g m0 tg tt el ro ds m3) λys m4=>some (y::ys,m4)) else EB g m0 m2 (FA g m0 tg tt el ro ds m2)
noncomputable def r0 (nc:Nat)(fvs:List Nat)(ro:Ro):Ro:=List.replicate nc none++fvs.map λk=>ro.getD k none
noncomputable def eLC (i:Ix)(nc:Nat)(fvs:List Nat)(tg:Gx)(tt:Tx)(el:Ex):Ex:=λro mu=>bM (i ro mu) λp m1=>bM (FA p.2 m1 tg tt el (r0 nc fvs ro) p.1 m1) λys m2=>some (.lst ys,m2)
noncomputable def Q3 (nc:Nat)(tg:Gx):Prop:=∀ d ro mu ro' mu',tg d ro mu=some (ro',mu')->ro'.length=ro.length∧∀ i,nc≤i->ro'[i]? = ro[i]?
noncomputable def P0 (nc:Nat)(tg:Gxs):Prop:=∀ d ro mu ro' mu',tg d ro mu=some (ro',mu')->ro'.length=ro.length∧∀ i,nc≤i->ro'[i]? = ro[i]?
theorem CN {nc i:Nat}(h:i<nc:=by decide):Q3 nc (gNm i):=λd ro mu ro' mu' e=>by
 cases e
 exact ⟨by simp,λj hj=>AG (by omega)⟩
theorem RE {nc:Nat}:P0 nc Ew:=λds ro mu ro' mu' e=>by
 cases ds with
 | nil=>cases e;exact ⟨rfl,λ_ _=>rfl⟩
 | cons d ds=>cases e
theorem KS {nc:Nat}{g:Gx}{gs:Gxs}(h1:Q3 nc g)(h2:P0 nc gs):P0 nc (CC g gs):=λds ro mu ro' mu' e=>by
 cases ds with
 | nil=>cases e
 | cons d ds =>
  obtain ⟨ro1,m1,e1,e2⟩:=Hf e
  obtain ⟨a1,a2⟩:=h1 _ _ _ _ _ e1
  obtain ⟨b1,b2⟩:=h2 _ _ _ _ _ e2
  exact ⟨b1.trans a1,λi hi=>(b2 i hi).trans (a2 i hi)⟩
theorem Tv {nc n:Nat}{g:Gxs}(h:P0 nc g):Q3 nc (gTp n g):=λd ro mu ro' mu' e=>by
 cases d with
 | tup ds =>
  unfold gTp at e
  dsimp only at e
  by_cases q:ds.length=n
  ·rw [if_pos q] at e;exact h _ _ _ _ _ e
  ·rw [if_neg q] at e;cases e
 | _=>cases e
theorem Ot {nc:Nat}{fv:List (Nat×Str)}{ro:Ro}{st:L2.St}(en:EnvOk K th H ro st):EnvOk K th H (r0 nc (fv.map (·.1)) ro) (st0 nc fv st):=by
 unfold r0 st0
 refine ⟨by simp,λi d e=>?_⟩
 by_cases hi:i<nc
 ·rw [Ax (by simpa using hi),BA] at e
  split at e<;>cases e
 ·rw [Bk (by simpa using hi)] at e ⊢
  simp only [BH,AI,Av] at e ⊢
  cases q:fv[i-nc]? with
  | none=>rw [q] at e;cases e
  | some p =>
   rw [q] at e
   have e':ro.getD p.1 none=some d:=by simpa using e
   rw [AJ] at e'
   have e2:ro[p.1]? = some (some d):=by
    cases w:ro[p.1]? with
    | none=>rw [w] at e';cases e'
    | some o=>rw [w] at e';exact congrArg some e'
   obtain ⟨v,ev,rv⟩:=en.2 _ _ e2
   exact ⟨v,by simp [AJ,ev],rv⟩
theorem LC {nc:Nat}{fvs:List Nat}{ro:Ro}{i:Nat}{d:D}(e:(r0 nc fvs ro)[i]? = some (some d)):nc≤i:=by
 rcases Nat.lt_or_ge i nc with h|h
 ·unfold r0 at e
  rw [Ax (by simpa using h),BA] at e
  split at e<;>cases e
 ·exact h
theorem Tu {i:Ix}{nc:Nat}{fv:List (Nat×Str)}{tg:Gx}{tt:Tx}{el:Ex}{st:L2.St}{Q:VK}(ow:Q3 nc tg)(h:rdE K (eLC i nc (fv.map (·.1)) tg tt el) st H Q):tLC (rdI K i) nc fv (rdG K tg) (rdT K tt) (rdE K el) st H Q:=by
 obtain ⟨th,mu,ro,so,en,t⟩:=h
 refine ⟨th,mu,ro,so,en,t.bind.mono λp th1 mu1 H1 e1 s1 t1 J ok=>?_⟩
 obtain ⟨ds,gd⟩:=p
 have en1:=Ot (nc:=nc) (fv:=fv) (en.ext e1 so.out)
 generalize hro:r0 nc (fv.map (·.1)) ro=ro0 at t1 en1
 have own:∀ i d,ro0[i]? = some (some d)->nc≤i:=λi d e=>by subst hro;exact LC e
 refine ⟨λk n ys st' H'=>n=ds.length-k∧k≤ds.length∧∃ th' mu' zs,StoOk K th' mu' H'∧EnvOk K th' H' ro0 st'∧Ext th1 H1 th' H'∧gOk gd mu1 mu'∧RepL K th' H' zs ys∧zs.length≤k ∧
  Tr K th' H' (FA gd mu1 tg tt el ro0 (ds.drop k) mu') λrest th'' mu'' H''=>∀ th3 H3 v,Ext th'' H'' th3 H3->StoOk K th3 mu'' H3->Rep K th3 H3 (.lst (zs++rest)) v->Q v H3,⟨_,rfl,AX _,th1,mu1,[],s1,en1,.refl _ _,?_,.nil,AX _,?_⟩,?_⟩
 ·cases gd with
  | none=>exact True.intro
  | some k=>exact rfl
 ·exact t1.bind.mono λrest th2 mu2 H2 e2 s2 t2 th3 H3 v e3 s3 rv=>t2.retX e3 s3 v rv
 rintro k n ys st2 H2 ⟨rfl,hk,th2,mu2,zs,s2,en2,e2,g2,rz,hz,t2⟩
 have hsz:=ok.sz
 dsimp only at hsz
 refine ⟨by rw [rz.len];omega,?_⟩
 by_cases lt:k<ds.length
 ·refine .inr ?_
  have ek:ds[k]? = some ds[k]:=by simp
  obtain ⟨a1,a2⟩:=ok.go th2 mu2 H2 e2 s2 g2 k ds[k] ek
  refine ⟨a1,λx H3 y=>?_⟩
  obtain ⟨e3,s3,r3⟩:=a2 x H3 y
  rw [BG lt] at t2
  unfold FA at t2
  refine ⟨th2,mu2,ro0,ds[k],s3,en2.ext e3 s2.out,r3,?_⟩
  refine (t2.ahead e3).bindE.mono λro1 th4 mu4 H4 e4 s4 t4 st4 en4=>?_
  obtain ⟨eq4,t4⟩:=t4
  obtain ⟨ol,ow'⟩:=ow _ _ _ _ _ eq4
  have back:∀ {th' H'},Ext th4 H4 th' H'->EnvOk K th' H' ro0 st4:=λ{th' H'} ex=>by
   have en':=en4.ext ex s4.out
   refine ⟨by rw [← ol];exact en'.1,λi d e=>?_⟩
   exact en'.2 i d (by rw [ow' i (own i d e)];exact e)
  refine ⟨th4,mu4,ro1,s4,en4,t4.bind.mono λb th5 mu5 H5 e5 s5 t5=>?_⟩
  have e14:Ext th1 H1 th5 H5:=((e2.trans e3).trans e4).trans e5
  cases b with
  | false =>
   obtain ⟨a,mu',q1,q2⟩:=t5
   obtain ⟨go5,q1⟩:=Gn q1
   refine ⟨ds.length-(k+1),by omega,rfl,lt,th5,mu5,zs,s5,back e5,e14,go5,rz.ext ((e3.trans e4).trans e5) s2.out,by omega,a,mu',q1,q2⟩
  | true =>
   refine ⟨th5,mu5,ro1,s5,en4.ext e5 s4.out,Tr.mono (Tr.bind t5) λy th6 mu6 H6 e6 s6 t6 v rv=>?_⟩
   obtain ⟨a,mu',q1,q2⟩:=t6
   obtain ⟨go6,q1⟩:=Gn q1
   obtain ⟨rest,m7,q3,q4⟩:=Hf q1
   cases q4
   refine ⟨ds.length-(k+1),by omega,rfl,lt,th6,mu6,zs++[y],s6,back (e5.trans e6),e14.trans e6,go6,(rz.ext (((e3.trans e4).trans e5).trans e6) s2.out).app (.cons rv .nil),by rw [Az];exact Nat.add_le_add_right hz 1,rest,mu',q3,λth7 H7 e7 s7 th8 H8 v' e8 s8 rv'=>?_⟩
   rw [List.append_assoc] at rv'
   exact q2 th7 H7 e7 s7 th8 H8 v' e8 s8 rv'
 ·have e:k=ds.length:=by omega
  subst e
  rw [List.drop_length] at t2
  unfold FA at t2
  refine .inl ⟨ok.stop th2 mu2 H2 e2 s2 g2,λp hp=>?_⟩
  refine t2.ret s2 th2 _ _ (.new hp _) (s2.new hp _) ?_
  rw [List.append_nil]
  exact Rep.newLst s2 hp rz (by omega)
noncomputable def tY:Tx:=λ_ mu=>some (true,mu)
structure SVF (X:Cx) (ifs:List Expr) (m:Tx):Prop where
 r:PF X ifs (rdT X.z m)
theorem DY:SVF X [] tY:=⟨λpins s st H Q I h=>Yd pins s st H Q I (by
 obtain ⟨th,mu,ro,so,en,t⟩:=h
 exact t.ret so)⟩
theorem KO {c:Expr}{m:Tx}(h:SVT X c m):SVF X [c] m:=⟨XE h.r⟩
section
variable {tg iter elt:Expr} {ifs:List Expr} {scope:Scope} {pos:Pos} {i:Ix} {g:Gx} {tt:Tx} {el:Ex}
theorem FU (own:List Str)(fv:List (Nat×Str))(L:Kx X scope fv)(hi:SVI X tg iter i)(ow:Q3 own.length g)
  (hg:∀ cl C s₁ H₁ fp,SVG (CH X scope (own++fv.map (·.2)) cl C s₁ H₁ fp) tg g)
  (ht:∀ cl C s₁ H₁ fp,SVF (CH X scope (own++fv.map (·.2)) cl C s₁ H₁ fp) ifs tt)
  (he:∀ cl C s₁ H₁ fp,SV (CH X scope (own++fv.map (·.2)) cl C s₁ H₁ fp) elt el)
  (hs:∀ x,foldedSetIterable iter X.env x=pure x:=by intro _;rfl):SV X (.ListComp elt [⟨tg,iter,ifs,0⟩] scope pos) (eLC i own.length (fv.map (·.1)) g tt el):=
 ⟨PE.weak (AaM (own:=own) (g:=rdG X.z g) (tt:=rdT X.z tt) (te:=rdE X.z el) L hi.r (λcl C s₁ H₁ fp=>(hg cl C s₁ H₁ fp).r) (λcl C s₁ H₁ fp=>(ht cl C s₁ H₁ fp).r) (λcl C s₁ H₁ fp=>(he cl C s₁ H₁ fp).r) hs) λ_ _ _ h=>Tu ow h⟩
theorem JZ (j:Nat){x:Str}{px spos:Pos}(own:List Str)(fv:List (Nat×Str))(L:Kx X scope fv)(hi:SVI X tg iter i)(ow:Q3 own.length g)
  (hg:∀ cl C s₁ H₁ fp,SVG (CH X scope (own++fv.map (·.2)) cl C s₁ H₁ fp) tg g)
  (ht:∀ cl C s₁ H₁ fp,SVF (CH X scope (own++fv.map (·.2)) cl C s₁ H₁ fp) ifs tt)
  (he:∀ cl C s₁ H₁ fp,SV (CH X scope (own++fv.map (·.2)) cl C s₁ H₁ fp) elt el)
  (hN:X.N.Nodup) (hix:X.N[j]? = some x:=by rfl) (hx:Loc X.env.scope x:=by first|exact Or.inl rfl|exact Or.inr rfl) (hf:X.fn x=true∨X.env.scope.names.lookup x=some .local:=by first|exact .inl rfl|exact .inr rfl)
  (hsw:swapsWith (.ListComp elt [⟨tg,iter,ifs,0⟩] scope pos) (some (.Name x px)) spos.line X.env=pure true:=by rfl) (hs:∀ x,foldedSetIterable iter X.env x=pure x:=by intro _;rfl) :
  SVS X (.Assign [.Name x px] (.ListComp elt [⟨tg,iter,ifs,0⟩] scope pos) spos) (CZ (eLC i own.length (fv.map (·.1)) g tt el) (gNm j)):=
 ⟨PS.weak (TC (own:=own) (g:=rdG X.z g) (tt:=rdT X.z tt) (te:=rdE X.z el) L hi.r (λcl C s₁ H₁ fp=>(hg cl C s₁ H₁ fp).r) (λcl C s₁ H₁ fp=>(ht cl C s₁ H₁ fp).r) (λcl C s₁ H₁ fp=>(he cl C s₁ H₁ fp).r) hN hix hx hf hsw hs) λE st H h=>by
  obtain ⟨th,mu,ro,so,en,t⟩:=h
  refine Tu ow ⟨th,mu,ro,so,en,t.bind.mono λd th1 mu1 H1 e1 s1 t1 v rv=>?_⟩
  exact t1.ret s1 _ ((en.ext e1 so.out).set j rv)⟩
end
noncomputable def chars (x:Str):List D:=x.cps.toList.map λc=>.str ⟨#[c]⟩
noncomputable def Fh (a:Ex):Ix:=λro mu=>bM (a ro mu) λd m1=>match d with
 | .tup ds=>some ((ds,none),m1)
 | .lst ds=>some ((ds,none),m1)
 | .str x=>some ((chars x,none),m1)
 | .ref k=>match m1[k]? with
  | some (.lst ds)=>some ((ds,some k),m1)
  | _=>none
 | _=>none
theorem Mg {a:Addr}{ds:List D}{g:Option Nat}(hz:ds.length≤sizeLine)(h:∀ th' mu' H',Ext th H th' H'->StoOk K th' mu' H'->gOk g mu mu'->∃ vs,SqL K.K H' a vs∧RepL K th' H' ds vs):RN K (Itl K.K a) th mu H ds g where
 sz:=hz
 go:=λth' mu' H' e s go i d ed=>by
  obtain ⟨vs,h1,h2⟩:=h th' mu' H' e s go
  obtain ⟨v,ev,rv⟩:=h2.get ed
  refine ⟨⟨vs,v,h1,ev⟩,λx H2 y=>?_⟩
  obtain ⟨rfl,y⟩:=y
  have ex:=y vs h1
  rw [ev] at ex
  cases ex
  exact ⟨.refl _ _,s,rv⟩
 stop:=λth' mu' H' e s go=>by
  obtain ⟨vs,h1,h2⟩:=h th' mu' H' e s go
  exact ⟨vs,h1,by rw [h2.len];exact Ah _⟩
theorem TZ {a:Addr}{ds:List D}{vs:List V}(so:StoOk K th mu H)(hz:ds.length≤sizeLine)(h:SqT K.K H a vs)(r:RepL K th H ds vs):RN K (Itt K.K a) th mu H ds none where
 sz:=hz
 go:=λth' mu' H' e s go i d ed=>by
  have h1:=e.sqT so.out h
  obtain ⟨v,ev,rv⟩:=(r.ext e so.out).get ed
  refine ⟨⟨vs,v,h1,ev⟩,λx H2 y=>?_⟩
  obtain ⟨rfl,y⟩:=y
  have ex:=y vs h1
  rw [ev] at ex
  cases ex
  exact ⟨.refl _ _,s,rv⟩
 stop:=λth' mu' H' e s go=>⟨vs,e.sqT so.out h,by rw [r.len];exact Ah _⟩
theorem Oh {x:Str}{c:Nat}(ok:PyData.strOk x=true)(h:c∈x.cps.toList):Rep K th H (.str ⟨#[c]⟩) (.str ⟨#[c]⟩):=by
 unfold Rep
 refine ⟨rfl,by show 1≤sizeLine;decide,?_⟩
 unfold PyData.strOk at ok ⊢
 rw [← Array.all_toList] at ok ⊢
 simpa using Aq.mp ok c h
theorem Uk {x:Str}(hz:x.length≤sizeLine)(ok:PyData.strOk x=true):RN K (Its x) th mu H (chars x) none where
 sz:=by unfold chars;rw [Ag,Array.length_toList];exact hz
 go:=λth' mu' H' e s go i d ed=>by
  unfold chars at ed
  rw [Av] at ed
  cases q:x.cps.toList[i]? with
  | none=>rw [q] at ed;cases ed
  | some c =>
   rw [q] at ed
   have hd:D.str ⟨#[c]⟩=d:=by simpa using ed
   subst hd
   have hlt:=(Af.mp q).1
   refine ⟨by show i<x.cps.size;simpa using hlt,λv H2 y=>?_⟩
   obtain ⟨rfl,c',hc',rfl⟩:=y
   have:c'=c:=by
    rw [← AB,q] at hc'
    exact (AE hc').symm
   subst this
   exact ⟨.refl _ _,s,Oh ok (Ar q)⟩
 stop:=λth' mu' H' e s go=>by show (chars x).length=x.cps.size;unfold chars;simp
theorem Dv {tg e:Expr}{m:Ex}(h:SV X e m):SVI X tg e (Fh m):=⟨by
 intro pins s st H R I q
 obtain ⟨th,mu,ro,so,en,t⟩:=q
 obtain ⟨p,mu',e1,q1⟩:=id t
 obtain ⟨d,m1,e2,e3⟩:=Hf e1
 have t':=t.bindE
 cases d with
 | tup ds =>
  refine Ye h.r pins s st H R I ⟨th,mu,ro,so,en,t'.mono λd th1 mu1 H1 x1 s1 t1 v rv=>?_⟩
  obtain ⟨eq,t1⟩:=t1
  rw [e2] at eq
  cases eq
  unfold Rep at rv
  obtain ⟨a,vs,rfl,hs,rl,hz⟩:=rv
  exact ⟨a,rfl,⟨vs,hs⟩,t1.ret s1 _ (TZ s1 hz hs rl)⟩
 | lst ds =>
  refine P1 h.r pins s st H R I ⟨th,mu,ro,so,en,t'.mono λd th1 mu1 H1 x1 s1 t1 v rv=>?_⟩
  obtain ⟨eq,t1⟩:=t1
  rw [e2] at eq
  cases eq
  unfold Rep at rv
  obtain ⟨a,vs,rfl,hs,rl,hz⟩:=rv
  exact ⟨a,rfl,⟨vs,hs.sq⟩,t1.ret s1 _ (Mg hz λth' mu' H' e s' _=>⟨vs,(e.fz hs).sq,rl.ext e s1.out⟩)⟩
 | str x =>
  refine XG h.r pins s st H R I ⟨th,mu,ro,so,en,t'.mono λd th1 mu1 H1 x1 s1 t1 v rv=>?_⟩
  obtain ⟨eq,t1⟩:=t1
  rw [e2] at eq
  cases eq
  unfold Rep at rv
  obtain ⟨rfl,hz,ok⟩:=rv
  exact ⟨x,rfl,t1.ret s1 _ (Uk hz ok)⟩
 | ref k =>
  refine P1 h.r pins s st H R I ⟨th,mu,ro,so,en,t'.mono λd th1 mu1 H1 x1 s1 t1 v rv=>?_⟩
  obtain ⟨eq,t1⟩:=t1
  rw [e2] at eq
  cases eq
  unfold Rep at rv
  obtain ⟨a,rfl,ha⟩:=rv
  dsimp only at t1
  cases em:m1[k]? with
  | none=>rw [em] at t1;exact t1.no.elim
  | some o =>
   cases o with
   | dct _ _=>rw [em] at t1;exact t1.no.elim
   | lst ds =>
    rw [em] at t1
    obtain ⟨vs,h1,h2,hz⟩:=s1.at' k a _ ha em
    refine ⟨a,rfl,⟨vs,.inl (.inl h1)⟩,t1.ret s1 _ (Mg hz λth' mu' H' e s' go=>?_)⟩
    have em':mu'[k]? = some (.lst ds):=by rw [← em];exact (show m1[k]? = mu'[k]? from go).symm
    obtain ⟨vs',h1',h2',_⟩:=s'.at' k a _ (e.at ha) em'
    exact ⟨vs',.inl (.inl h1'),h2'⟩
 | non=>cases e3
 | bl b=>cases e3
 | int b=>cases e3
 | dct _ _=>cases e3
 | set _=>cases e3⟩
end
mutual
noncomputable def toPy:D->PyData
 | .non=>.none
 | .bl b=>.bool b
 | .int i=>.int i
 | .str x=>.str x
 | .tup ds=>.tuple (CA ds)
 | .lst ds=>.list (CA ds)
 | .dct _ _=>.none
 | .set _=>.none
 | .ref _=>.none
noncomputable def CA:List D->List PyData
 | []=>[]
 | d::ds=>toPy d::CA ds
end
mutual
noncomputable def Dj:D->Bool
 | .tup ds=>Et ds
 | .lst ds=>Et ds
 | .dct _ _=>false
 | .set _=>false
 | .ref _=>false
 | _=>true
noncomputable def Et:List D->Bool
 | []=>true
 | d::ds=>Dj d&&Et ds
end
noncomputable def seen (mu:Sto):D->D
 | .ref k=>match mu[k]? with
  | some (.lst ds)=>.lst ds
  | _=>.ref k
 | d=>d
noncomputable def eqB (mu:Sto)(d e:D):Option Bool:=if Dj (seen mu d)&&Dj (seen mu e)&&decide (min (toPy (seen mu d)).depth (toPy (seen mu e)).depth≤60) then some (PyData.eqv (toPy (seen mu d)) (toPy (seen mu e))) else none
noncomputable def eqD (d e:D)(mu:Sto):Rs D:=(eqB mu d e).map λb=>(.bl b,mu)
noncomputable def neD (d e:D)(mu:Sto):Rs D:=(eqB mu d e).map λb=>(.bl (!b),mu)
section
variable {X:Cx} {K:Zc} {th:List Addr} {mu:Sto} {H:Hp}
mutual
theorem Ft {pins:List (Addr×Obj)}{st:L2.St}{s:Shared}(I:L2.Inv X pins st H s):∀ (d:D) (v:V) (u:Value),Dj d=true->Rep X.z th H d v->RelV v u->∃ as,Reads s.heap u (toPy d) as∧(toPy d).canLay0=true
 | .non,_,_,_,r,q=>by cases (show _=_ from r);cases q;exact ⟨_,.none,rfl⟩
 | .bl b,_,_,_,r,q=>by cases (show _=_ from r);cases q;exact ⟨_,.bool b,rfl⟩
 | .int i,_,_,_,r,q=>by cases (show _=_ from r);obtain ⟨t,rfl⟩:=q;exact ⟨_,.int i t,rfl⟩
 | .str x,_,_,_,r,q=>by obtain ⟨rfl,hz,ok⟩:=(show _∧_∧_ from r);obtain ⟨t,rfl⟩:=q;exact ⟨_,.str x t,ok⟩
 | .tup ds,_,_,p,r,q=>by
  unfold Rep at r
  obtain ⟨a,vs,rfl,hs,rl,_⟩:=r
  cases q
  obtain ⟨its,rv,⟨o,h1,h2,n,h3⟩,_⟩:=I.tuple hs
  unfold Dj at p
  obtain ⟨as,h4,h5⟩:=GJ I ds vs its p rl rv
  exact ⟨as,by unfold toPy;exact .tuple h1 h2 h3 (by simpa using h4),by unfold toPy PyData.canLay0;exact h5⟩
 | .lst ds,_,_,p,r,q=>by
  unfold Rep at r
  obtain ⟨a,vs,rfl,hs,rl,_⟩:=r
  cases q
  obtain ⟨its,rv,⟨o,n,h1,h2,_,h3⟩,_⟩:=I.list hs.sq
  unfold Dj at p
  obtain ⟨as,h4,h5⟩:=GJ I ds vs its p rl rv
  exact ⟨_,by unfold toPy;exact .list h1 h2 h3 (by simpa using h4),by unfold toPy PyData.canLay0;exact h5⟩
 | .dct _ _,_,_,p,_,_=>by cases p
 | .set _,_,_,p,_,_=>by cases p
 | .ref k,_,_,p,_,_=>by cases p
theorem GJ {pins:List (Addr×Obj)}{st:L2.St}{s:Shared}(I:L2.Inv X pins st H s):∀ (ds:List D) (vs:List V) (us:List Value),Et ds=true->RepL X.z th H ds vs->Vals vs us->∃ as,ReadsAll s.heap us (CA ds) as∧PyData.canLayAll0 (CA ds)=true
 | [],_,_,_,r,q=>by cases r.inv0;cases q;exact ⟨_,.nil,rfl⟩
 | d::ds,_,_,p,r,q=>by
  obtain ⟨v,r',rfl,r1,r2⟩:=r.inv
  unfold Et at p
  rw [Ab] at p
  cases q with
  | cons q1 q2 =>
   obtain ⟨as,a1,a2⟩:=Ft I d v _ p.1 r1 q1
   obtain ⟨bs,b1,b2⟩:=GJ I ds r' _ p.2 r2 q2
   exact ⟨_,.cons a1 b1,by unfold CA PyData.canLayAll0;rw [a2,b2];rfl⟩
end
theorem EZ {pins:List (Addr×Obj)}{st:L2.St}{s:Shared}(I:L2.Inv X pins st H s)(so:StoOk X.z th mu H){d:D}{v:V}{u:Value}(p:Dj (seen mu d)=true)(r:Rep X.z th H d v)(q:RelV v u):∃ as,Reads s.heap u (toPy (seen mu d)) as∧(toPy (seen mu d)).canLay0=true:=by
 cases d with
 | ref k =>
  unfold seen at p ⊢
  dsimp only at p ⊢
  cases e:mu[k]? with
  | none=>rw [e] at p;cases p
  | some o =>
   cases o with
   | dct _ _=>rw [e] at p;cases p
   | lst ds =>
    rw [e] at p
    dsimp only at p ⊢
    unfold Rep at r
    obtain ⟨a,rfl,ha⟩:=r
    obtain ⟨vs,h1,rl,hz⟩:=so.at' k a _ ha e
    cases q
    obtain ⟨its,rv,⟨o,n,h2,h3,_,h4⟩,_⟩:=I.list (.inl (.inl h1))
    unfold Dj at p
    obtain ⟨as,h5,h6⟩:=GJ I ds vs its p rl rv
    exact ⟨_,by unfold toPy;exact .list h2 h3 h4 (by simpa using h5),by unfold toPy PyData.canLay0;exact h6⟩
 | _=>exact Ft I _ v u p r q
theorem Dx (hu:X.A.units+64<cLine):OpV X (compareOp .Eq) eqD:=by
 intro pins s st H x y v u Q I rx ry h
 obtain ⟨th,mu,d,e,so,r1,r2,t⟩:=h
 unfold eqD eqB at t
 by_cases hc:(Dj (seen mu d)&&Dj (seen mu e)&&decide (min (toPy (seen mu d)).depth (toPy (seen mu e)).depth≤60))=true
 ·rw [if_pos hc] at t
  rw [Ab,Ab,Ae] at hc
  obtain ⟨as,a1,a2⟩:=EZ I so hc.1.1 r1 rx
  obtain ⟨bs,b1,b2⟩:=EZ I so hc.1.2 r2 ry
  exact SeqAt.rcAt_reads a1 b1 a2 b2 (by omega) _ _ _ _ ⟨.bl _,H,I,rfl,t.ret so _ rfl⟩
 ·rw [if_neg hc] at t
  exact t.no.elim
theorem MJ (hu:X.A.units+64<cLine):OpV X (compareOp .NotEq) neD:=by
 intro pins s st H x y v u Q I rx ry h
 obtain ⟨th,mu,d,e,so,r1,r2,t⟩:=h
 unfold neD eqB at t
 by_cases hc:(Dj (seen mu d)&&Dj (seen mu e)&&decide (min (toPy (seen mu d)).depth (toPy (seen mu e)).depth≤60))=true
 ·rw [if_pos hc] at t
  rw [Ab,Ab,Ae] at hc
  obtain ⟨as,a1,a2⟩:=EZ I so hc.1.1 r1 rx
  obtain ⟨bs,b1,b2⟩:=EZ I so hc.1.2 r2 ry
  exact SeqAt.rcNeAt_reads a1 b1 a2 b2 (by omega) _ _ _ _ ⟨.bl _,H,I,rfl,t.ret so _ rfl⟩
 ·rw [if_neg hc] at t
  exact t.no.elim
noncomputable def inB (mu:Sto)(d c:D):Option Bool:=match d,seen mu c with
 | .str x,.str y=>some (!(Builtin.Str.occurrences y x 0 y.length 1).isEmpty)
 | d,.tup ds=>if Dj d&&Et ds&&decide (min (PyData.depthAll (CA ds)) (toPy d).depth≤60) then some ((CA ds).any λy=>PyData.eqv y (toPy d)) else none
 | d,.lst ds=>if Dj d&&Et ds&&decide (min (PyData.depthAll (CA ds)) (toPy d).depth≤60) then some ((CA ds).any λy=>PyData.eqv y (toPy d)) else none
 | _,_=>none
noncomputable def inD (d c:D)(mu:Sto):Rs D:=(inB mu d c).map λb=>(.bl b,mu)
noncomputable def U4 (d c:D)(mu:Sto):Rs D:=(inB mu d c).map λb=>(.bl (!b),mu)
theorem NW {d c:D}{b:Bool}(h:inB mu d c=some b):(∃ x y,d=.str x∧c=.str y∧b = !(Builtin.Str.occurrences y x 0 y.length 1).isEmpty) ∨
  ∃ ds,(seen mu c=.tup ds∨seen mu c=.lst ds)∧Dj d=true∧Et ds=true∧min (PyData.depthAll (CA ds)) (toPy d).depth≤60∧b=(CA ds).any λy=>PyData.eqv y (toPy d):=by
 have fin:∀ ds,(if Dj d&&Et ds&&decide (min (PyData.depthAll (CA ds)) (toPy d).depth≤60) then some ((CA ds).any λy=>PyData.eqv y (toPy d)) else none)=some b->Dj d=true∧Et ds=true∧min (PyData.depthAll (CA ds)) (toPy d).depth≤60∧b=(CA ds).any λy=>PyData.eqv y (toPy d):=λds e=>by
  by_cases hc:(Dj d&&Et ds&&decide (min (PyData.depthAll (CA ds)) (toPy d).depth≤60))=true
  ·rw [if_pos hc] at e
   rw [Ab,Ab,Ae] at hc
   exact ⟨hc.1.1,hc.1.2,hc.2,(AE e).symm⟩
  ·rw [if_neg hc] at e;cases e
 unfold inB at h
 cases hs:seen mu c with
 | tup ds=>rw [hs] at h;cases d<;>exact .inr ⟨ds,.inl rfl,fin ds h⟩
 | lst ds=>rw [hs] at h;cases d<;>exact .inr ⟨ds,.inr rfl,fin ds h⟩
 | str y =>
  rw [hs] at h
  cases d with
  | str x =>
   have:c=.str y:=by
    cases c with
    | ref k =>
     unfold seen at hs
     dsimp only at hs
     cases e:mu[k]? with
     | none=>rw [e] at hs;cases hs
     | some o=>cases o<;>(rw [e] at hs;cases hs)
    | _=>exact hs
   exact .inl ⟨x,y,rfl,this,(AE h).symm⟩
  | _=>cases h
 | non=>rw [hs] at h;cases d<;>cases h
 | bl _=>rw [hs] at h;cases d<;>cases h
 | int _=>rw [hs] at h;cases d<;>cases h
 | dct _ _=>rw [hs] at h;cases d<;>cases h
 | set _=>rw [hs] at h;cases d<;>cases h
 | ref _=>rw [hs] at h;cases d<;>cases h
theorem Yt (hu:X.A.units+64<cLine):OpV X (compareOp .In) inD:=by
 intro pins s st H x y v u Q I rx ry h
 obtain ⟨th,mu,d,c,so,r1,r2,t⟩:=h
 unfold inD at t
 cases e:inB mu d c with
 | none=>rw [e] at t;exact t.no.elim
 | some b =>
  rw [e] at t
  have q:Q (.bl b) H:=t.ret so _ rfl
  rcases NW e with ⟨x',y',rfl,rfl,hb⟩|⟨ds,hs,p1,p2,p3,hb⟩
  ·obtain ⟨rfl,_⟩:=(show _∧_ from r1)
   obtain ⟨rfl,_⟩:=(show _∧_ from r2)
   exact Rq pins s st H _ _ v u Q I rx ry ⟨x',y',rfl,rfl,by rw [← hb];exact q⟩
  ·obtain ⟨as,a1,a2⟩:=Ft I d x v p1 r1 rx
   have pc:Dj (seen mu c)=true:=by rcases hs with e|e<;>(rw [e];unfold Dj;exact p2)
   obtain ⟨bs,b1,b2⟩:=EZ I so pc r2 ry
   rw [hb] at q
   rcases hs with e|e
   ·rw [e] at b1 b2
    unfold toPy at b1 b2
    exact SeqAt.in_tuple_reads b1 a1 b2 a2 (by omega) ⟨.bl _,H,I,rfl,q⟩
   ·rw [e] at b1 b2
    unfold toPy at b1 b2
    exact SeqAt.in_list_reads b1 a1 b2 a2 (by omega) ⟨.bl _,H,I,rfl,q⟩
theorem Vt (hu:X.A.units+64<cLine):OpV X (compareOp .NotIn) U4:=by
 intro pins s st H x y v u Q I rx ry h
 obtain ⟨th,mu,d,c,so,r1,r2,t⟩:=h
 unfold U4 at t
 cases e:inB mu d c with
 | none=>rw [e] at t;exact t.no.elim
 | some b =>
  rw [e] at t
  have q:Q (.bl (!b)) H:=t.ret so _ rfl
  rcases NW e with ⟨x',y',rfl,rfl,hb⟩|⟨ds,hs,p1,p2,p3,hb⟩
  ·obtain ⟨rfl,_⟩:=(show _∧_ from r1)
   obtain ⟨rfl,_⟩:=(show _∧_ from r2)
   exact NA pins s st H _ _ v u Q I rx ry ⟨x',y',rfl,rfl,by rw [← hb];exact q⟩
  ·obtain ⟨as,a1,a2⟩:=Ft I d x v p1 r1 rx
   have pc:Dj (seen mu c)=true:=by rcases hs with e|e<;>(rw [e];unfold Dj;exact p2)
   obtain ⟨bs,b1,b2⟩:=EZ I so pc r2 ry
   rw [hb] at q
   rcases hs with e|e
   ·rw [e] at b1 b2
    unfold toPy at b1 b2
    exact SeqAt.notIn_tuple_reads b1 a1 b2 a2 (by omega) ⟨.bl _,H,I,rfl,q⟩
   ·rw [e] at b1 b2
    unfold toPy at b1 b2
    exact SeqAt.notIn_list_reads b1 a1 b2 a2 (by omega) ⟨.bl _,H,I,rfl,q⟩
end
section
variable {X:Cx} {K:Zc} {th:List Addr} {mu:Sto} {H:Hp}
noncomputable def N6 (d e:D)(mu:Sto):Rs D:=match d,e with
 | .int i,.int j=>some (.int (i-j),mu)
 | _,_=>none
theorem Iv:OpV X (binaryOp .Sub) N6:=by
 intro pins s st H x y v u Q I rx ry h
 obtain ⟨th,mu,d,e,so,r1,r2,t⟩:=h
 cases d with
 | int i =>
  cases e with
  | int j=>exact Yu pins s st H x y v u Q I rx ry ⟨i,j,r1,r2,t.ret so _ rfl⟩
  | _=>exact t.no.elim
 | _=>exact t.no.elim
noncomputable instance (i j:Int):Decidable (CMul i j):=by unfold CMul;infer_instance
noncomputable instance (i j:Int):Decidable (MN i j):=by unfold MN;infer_instance
noncomputable instance (i j:Int):Decidable (QN i j):=by unfold QN;infer_instance
theorem RC {x y:Str}(hx:PyData.strOk x=true)(hy:PyData.strOk y=true):PyData.strOk (x++y)=true:=by
 unfold PyData.strOk at *
 show (Array.all (x.cps++y.cps) _)=true
 rw [← Array.all_toList] at *
 rw [Array.toList_append,List.all_append,hx,hy]
 rfl
theorem len_app (x y:Str):(x++y).length=x.length+y.length:=by
 show (x.cps++y.cps).size=_
 rw [Array.size_append]
 rfl
noncomputable def GB (d e:D)(mu:Sto):Rs D:=match d,e with
 | .int i,.int j=>if 0<j then some (.int (i % j),mu) else none
 | _,_=>none
theorem FT:OpV X (binaryOp .Mod) GB:=by
 intro pins s st H x y v u Q I rx ry h
 obtain ⟨th,mu,d,e,so,r1,r2,t⟩:=h
 cases d with
 | int i =>
  cases e with
  | int j =>
   unfold GB at t;dsimp only at t
   by_cases c:0<j
   ·rw [if_pos c] at t;exact W5 pins s st H x y v u Q I rx ry ⟨i,j,r1,r2,c,t.ret so _ rfl⟩
   ·rw [if_neg c] at t;exact t.no.elim
  | _=>exact t.no.elim
 | _=>exact t.no.elim
noncomputable def K5 (d e:D)(mu:Sto):Rs D:=match d,e with
 | .int i,.int j=>if MN i j then some (.int (i / j),mu) else none
 | _,_=>none
theorem Lf:OpV X (binaryOp .FloorDiv) K5:=by
 intro pins s st H x y v u Q I rx ry h
 obtain ⟨th,mu,d,e,so,r1,r2,t⟩:=h
 cases d with
 | int i =>
  cases e with
  | int j =>
   unfold K5 at t;dsimp only at t
   by_cases c:MN i j
   ·rw [if_pos c] at t;exact Wb pins s st H x y v u Q I rx ry ⟨i,j,r1,r2,c,t.ret so _ rfl⟩
   ·rw [if_neg c] at t;exact t.no.elim
  | _=>exact t.no.elim
 | _=>exact t.no.elim
noncomputable def TB (d e:D)(mu:Sto):Rs D:=match d,e with
 | .int i,.int j=>if QN i j then some (.int (i ^ j.toNat),mu) else none
 | _,_=>none
theorem UT:OpV X (binaryOp .Pow) TB:=by
 intro pins s st H x y v u Q I rx ry h
 obtain ⟨th,mu,d,e,so,r1,r2,t⟩:=h
 cases d with
 | int i =>
  cases e with
  | int j =>
   unfold TB at t;dsimp only at t
   by_cases c:QN i j
   ·rw [if_pos c] at t;exact YV pins s st H x y v u Q I rx ry ⟨i,j,r1,r2,c,t.ret so _ rfl⟩
   ·rw [if_neg c] at t;exact t.no.elim
  | _=>exact t.no.elim
 | _=>exact t.no.elim
noncomputable instance (z:Str) (n:Int):Decidable (MulOk z n):=by unfold MulOk;infer_instance
noncomputable def F2 (d e:D)(mu:Sto):Rs D:=match d,e with
 | .int i,.int j=>if CMul i j then some (.int (i*j),mu) else none
 | .str z,.int n=>if MulOk z n∧(Txt.mul z n).length≤sizeLine∧PyData.strOk (Txt.mul z n)=true then some (.str (Txt.mul z n),mu) else none
 | _,_=>none
theorem EF:OpV X (binaryOp .Mult) F2:=by
 intro pins s st H x y v u Q I rx ry h
 obtain ⟨th,mu,d,e,so,r1,r2,t⟩:=h
 cases d with
 | int i =>
  cases e with
  | int j =>
   unfold F2 at t;dsimp only at t
   by_cases c:CMul i j
   ·rw [if_pos c] at t;exact YZ pins s st H x y v u Q I rx ry ⟨i,j,r1,r2,c,t.ret so _ rfl⟩
   ·rw [if_neg c] at t;exact t.no.elim
  | _=>exact t.no.elim
 | str z =>
  cases e with
  | int j =>
   unfold F2 at t;dsimp only at t
   by_cases c:MulOk z j∧(Txt.mul z j).length≤sizeLine∧PyData.strOk (Txt.mul z j)=true
   ·rw [if_pos c] at t;exact OW pins s st H x y v u Q I rx ry ⟨z,j,r1.1,r2,c.1,t.ret so _ ⟨rfl,c.2⟩⟩
   ·rw [if_neg c] at t;exact t.no.elim
  | _=>exact t.no.elim
 | _=>exact t.no.elim
theorem TL {a b:Addr}{ys:List V}{pins:List (Addr×Obj)}{st:L2.St}{s:Shared}{Q:VK}(I:L2.Inv X pins st H s)(ha:SqT X.K H a [])(hb:SqT X.K H b ys)(q:Q (.ref b) H):wpAny (model X.prog X.w) X.A (binaryOp .Add (.ref a) (.ref b)) (EP X pins st Q) X.xe s:=by
 obtain ⟨its,r1,p1,_⟩:=I.tuple ha
 obtain ⟨its2,r2,p2,_⟩:=I.tuple hb
 have e:its=[]:=by cases r1;rfl
 subst e
 obtain ⟨⟨cls,dd,data,sl⟩,ho,hc,n,hd⟩:=id p1
 obtain ⟨⟨cls2,dd2,data2,sl2⟩,ho2,hc2,n2,hd2⟩:=id p2
 simp only at hc hd hc2 hd2
 subst hc hd hc2 hd2
 exact concat_meets ⟨_,ho,rfl⟩ ⟨_,ho2,rfl⟩ noFill_tuple_add seq_tuple_add PySem.F.slot_tuple_add PySem.F.entry_tuple_add (PySem.F.args_tuple_add_2 _ _)
   (tuple_addW0 a b _ its2.toArray n n2 dd dd2 sl sl2 (by simp)) ⟨ho,ho2,⟨.ref b,H,I,rfl,q⟩⟩
theorem Vi {a b:Addr}{xs ys:List V}{pins:List (Addr×Obj)}{st:L2.St}{s:Shared}{Q:VK}(I:L2.Inv X pins st H s)(ha:SqL X.K H a xs)(hb:SqL X.K H b ys)(hz:xs.length+ys.length≤sizeLine)(q:∀ p,H p=none->Q (.ref p) (upd H p (.lst (xs++ys)))):wpAny (model X.prog X.w) X.A (binaryOp .Add (.ref a) (.ref b)) (EP X pins st Q) X.xe s:=by
 obtain ⟨its,r1,⟨o1,n1,p1,c1,d1,e1⟩,_⟩:=I.list ha
 obtain ⟨its2,r2,⟨o2,n2,p2,c2,d2,e2⟩,_⟩:=I.list hb
 obtain ⟨cls,dd,data,sl⟩:=o1
 obtain ⟨cls2,dd2,data2,sl2⟩:=o2
 simp only at c1 d1 e1 c2 d2 e2
 subst c1 d1 e1 c2 d2 e2
 refine concat_meets ⟨_,p1,rfl⟩ ⟨_,p2,rfl⟩ noFill_list_add seq_list_add PySem.F.slot_list_add PySem.F.entry_list_add (PySem.F.args_list_add_2 _ _)
   (list_addW a b _ its2.toArray n1 n2 _ _ sl sl2 (by rw [Ak,Ak,← r1.length,← r2.length];exact hz)) ⟨p1,p2,?_⟩
 refine ⟨.ref s.heap.objs.size,_,I.laid (t':=s.toks) (o:=.lst (xs++ys)) (λb ob q=>Ad _ q) (Ah _) ?_,rfl,q _ (I.hok.fresh (Ah _))⟩
 exact ⟨by rw [Az];exact hz,its++its2,0,r1.append r2,by simpa using Ai _ rfl⟩
noncomputable def DX (mu:Sto):D->Option (List D)
 | .lst ds=>some ds
 | .ref k=>match mu[k]? with
  | some (.lst ds)=>some ds
  | _=>none
 | _=>none
theorem Fc (so:StoOk K th mu H){d:D}{ds:List D}{v:V}(h:DX mu d=some ds)(r:Rep K th H d v):∃ a vs,v=.ref a∧SqL K.K H a vs∧RepL K th H ds vs∧ds.length≤sizeLine:=by
 cases d with
 | lst es=>cases h;unfold Rep at r;obtain ⟨a,vs,rfl,h1,h2,h3⟩:=r;exact ⟨a,vs,rfl,h1.sq,h2,h3⟩
 | ref k =>
  unfold DX at h
  dsimp only at h
  cases e:mu[k]? with
  | none=>rw [e] at h;cases h
  | some o =>
   cases o with
   | dct _ _=>rw [e] at h;cases h
   | lst es =>
    rw [e] at h
    cases h
    unfold Rep at r
    obtain ⟨a,rfl,ha⟩:=r
    obtain ⟨vs,h1,h2,h3⟩:=so.at' k a _ ha e
    exact ⟨a,vs,rfl,.inl (.inl h1),h2,h3⟩
 | _=>cases h
noncomputable def Dc (d e:D)(mu:Sto):Rs D:=match d,e with
 | .int i,.int j=>some (.int (i+j),mu)
 | .str x,.str y=>if x.length+y.length≤sizeLine then some (.str (x++y),mu) else none
 | .tup xs,.tup ys=>if xs.length+ys.length≤sizeLine then some (.tup (xs++ys),mu) else none
 | d,e=>match DX mu d,DX mu e with
  | some xs,some ys=>if xs.length+ys.length≤sizeLine then some (.lst (xs++ys),mu) else none
  | _,_=>none
theorem CM:OpV X (binaryOp .Add) Dc:=by
 intro pins s st H x y v u Q I rx ry h
 obtain ⟨th,mu,d,e,so,r1,r2,t⟩:=h
 have lists:∀ (t:Tr X.z th H (match DX mu d,DX mu e with
  | some xs,some ys=>if xs.length+ys.length≤sizeLine then some (D.lst (xs++ys),mu) else none
  | _,_=>none) (KV' X.z Q)),wpAny (model X.prog X.w) X.A (binaryOp .Add v u) (EP X pins st Q) X.xe s:=λt=>by
  cases e1:DX mu d with
  | none=>rw [e1] at t;exact t.no.elim
  | some xs =>
   cases e2:DX mu e with
   | none=>rw [e1,e2] at t;exact t.no.elim
   | some ys =>
    rw [e1,e2] at t
    dsimp only at t
    by_cases c:xs.length+ys.length≤sizeLine
    ·rw [if_pos c] at t
     obtain ⟨a,vs,rfl,h1,h2,h3⟩:=Fc so e1 r1
     obtain ⟨b,us,rfl,k1,k2,k3⟩:=Fc so e2 r2
     cases rx
     cases ry
     refine Vi I h1 k1 (by rw [h2.len,k2.len];exact c) λp hp=>t.retX (.new hp _) (so.new hp _) _ (Rep.newLst so hp (h2.app k2) (by rw [Az];exact c))
    ·rw [if_neg c] at t;exact t.no.elim
 cases d with
 | int i =>
  cases e with
  | int j=>exact W4 pins s st H x y v u Q I rx ry ⟨i,j,r1,r2,t.ret so _ rfl⟩
  | _=>exact lists t
 | str i =>
  cases e with
  | str j =>
   unfold Dc at t;dsimp only at t
   by_cases c:i.length+j.length≤sizeLine
   ·rw [if_pos c] at t
    exact PJ pins s st H x y v u Q I rx ry ⟨i,j,r1.1,r2.1,c,t.ret so _ ⟨rfl,by rw [len_app];exact c,RC r1.2.2 r2.2.2⟩⟩
   ·rw [if_neg c] at t;exact t.no.elim
  | _=>exact lists t
 | tup xs =>
  cases e with
  | tup ys =>
   unfold Dc at t;dsimp only at t
   by_cases c:xs.length+ys.length≤sizeLine
   ·rw [if_pos c] at t
    unfold Rep at r1 r2
    obtain ⟨a,vs,rfl,h1,h2,h3⟩:=r1
    obtain ⟨b,us,rfl,k1,k2,k3⟩:=r2
    cases rx
    cases ry
    cases xs with
    | nil =>
     cases h2.inv0
     exact TL I h1 k1 (t.ret so _ (by unfold Rep;exact ⟨b,us,rfl,k1,k2,k3⟩))
    | cons x0 xs0 =>
     obtain ⟨v0,vr,rfl,_,_⟩:=h2.inv
     refine VZ pins s st H (.ref a) (.ref b) _ _ Q I rfl rfl ⟨a,b,v0::vr,us,rfl,rfl,h1,k1,by simp,by rw [h2.len,k2.len];exact c,λhu=>?_,λ_ p hp=>t.retX (.new hp _) (so.new hp _) _ (Rep.newTup so hp (h2.app k2) (by rw [Az];exact c))⟩
     subst hu
     have:ys=[]:=List.length_eq_zero_iff.mp (by rw [← k2.len];rfl)
     subst this
     rw [List.append_nil] at t
     exact t.ret so _ (by unfold Rep;exact ⟨a,_,rfl,h1,h2,h3⟩)
   ·rw [if_neg c] at t;exact t.no.elim
  | _=>exact lists t
 | _=>exact lists t
noncomputable def SD (f:Int->Int->Bool)(g:Str->Str->Bool)(d e:D)(mu:Sto):Rs D:=match d,e with
 | .int i,.int j=>some (.bl (f i j),mu)
 | .str i,.str j=>some (.bl (g i j),mu)
 | _,_=>none
noncomputable def leD:=SD (λi j=>decide (i≤j)) λi j=>!decide (j.cps.toList<i.cps.toList)
noncomputable def gtD:=SD (λi j=>decide (j<i)) λi j=>decide (j.cps.toList<i.cps.toList)
noncomputable def geD:=SD (λi j=>decide (j≤i)) λi j=>!decide (i.cps.toList<j.cps.toList)
theorem Nm {op:CmpOp}{f:Int->Int->Bool}{g:Str->Str->Bool}(h1:OpR X (compareOp op) (rI0 λi j=>.bl (f i j)))
  (h2:∀ (i j:Str) (t t':Tok) (s:Shared) (Q:Value->Shared->Prop),Q (.bool (g i j)) s->wpAny (model X.prog X.w) X.A (compareOp op (.str i t) (.str j t')) Q X.xe s):OpV X (compareOp op) (SD f g):=by
 intro pins s st H x y v u Q I rx ry h
 obtain ⟨th,mu,d,e,so,r1,r2,t⟩:=h
 cases d with
 | int i =>
  cases e with
  | int j=>exact h1 pins s st H x y v u Q I rx ry ⟨i,j,r1,r2,t.ret so _ rfl⟩
  | _=>exact t.no.elim
 | str i =>
  cases e with
  | str j =>
   obtain ⟨rfl,_⟩:=(show _∧_ from r1)
   obtain ⟨rfl,_⟩:=(show _∧_ from r2)
   obtain ⟨t1,rfl⟩:=rx
   obtain ⟨t2,rfl⟩:=ry
   exact h2 i j t1 t2 s _ ⟨.bl _,H,I,rfl,t.ret so _ rfl⟩
  | _=>exact t.no.elim
 | _=>exact t.no.elim
theorem Nv:OpV X (compareOp .LtE) leD:=Nm Zk λi j t t' s Q h=>PySem.P.le_str h
theorem Te:OpV X (compareOp .Gt) gtD:=Nm Zu λi j t t' s Q h=>PySem.P.gt_str h
theorem YX:OpV X (compareOp .GtE) geD:=Nm Zl λi j t t' s Q h=>PySem.P.ge_str h
noncomputable def isB:D->D->Option Bool
 | .non,.non=>some true
 | .bl a,.bl b=>some (a==b)
 | .non,.bl _=>none
 | .ref _,.non=>some false
 | .tup _,.non=>some false
 | .lst _,.non=>some false
 | .str _,.non=>some false
 | .int _,.non=>some false
 | .bl _,.non=>some false
 | .dct _ _,.non=>some false
 | .set _,.non=>some false
 | _,_=>none
noncomputable def isD (d e:D)(mu:Sto):Rs D:=(isB d e).map λb=>(.bl b,mu)
noncomputable def Jq (d e:D)(mu:Sto):Rs D:=(isB d e).map λb=>(.bl (!b),mu)
theorem MU:OpV X (compareOp .Is) isD:=by
 intro pins s st H x y v u Q I rx ry h
 obtain ⟨th,mu,d,e,so,r1,r2,t⟩:=h
 cases e with
 | non =>
  have go:∀ b,isB d .non=some b->(b=decide (x=.non))->wpAny (model X.prog X.w) X.A (compareOp .Is v u) (EP X pins st Q) X.xe s:=λb eb ex=>by
   unfold isD at t
   rw [eb] at t
   have q:Q (.bl b) H:=t.ret so _ rfl
   exact Xk pins s st H x y v u Q I rx ry ⟨r2,by rw [← ex];exact q⟩
  cases d with
  | non=>exact go _ rfl (by rw [show x=_ from r1];rfl)
  | bl b=>exact go _ rfl (by rw [show x=_ from r1];rfl)
  | int b=>exact go _ rfl (by rw [show x=_ from r1];rfl)
  | str b=>exact go _ rfl (by rw [r1.1];rfl)
  | tup b=>exact go _ rfl (by unfold Rep at r1;obtain ⟨a,vs,rfl,_⟩:=r1;rfl)
  | lst b=>exact go _ rfl (by unfold Rep at r1;obtain ⟨a,vs,rfl,_⟩:=r1;rfl)
  | dct _ _=>exact go _ rfl (by unfold Rep at r1;obtain ⟨a,xs,rfl,_⟩:=r1;rfl)
  | set _=>exact go _ rfl (by unfold Rep at r1;obtain ⟨a,us,vs,rfl,_⟩:=r1;rfl)
  | ref b=>exact go _ rfl (by unfold Rep at r1;obtain ⟨a,rfl,_⟩:=r1;rfl)
 | bl b =>
  cases d with
  | bl a=>exact Ud pins s st H x y v u Q I rx ry ⟨a,b,r1,r2,t.ret so _ rfl⟩
  | _=>exact t.no.elim
 | _=>cases d<;>exact t.no.elim
theorem IJ:OpV X (compareOp .IsNot) Jq:=by
 intro pins s st H x y v u Q I rx ry h
 obtain ⟨th,mu,d,e,so,r1,r2,t⟩:=h
 cases e with
 | non =>
  have go:∀ b,isB d .non=some b->(b=decide (x=.non))->wpAny (model X.prog X.w) X.A (compareOp .IsNot v u) (EP X pins st Q) X.xe s:=λb eb ex=>by
   unfold Jq at t
   rw [eb] at t
   have q:Q (.bl (!b)) H:=t.ret so _ rfl
   exact VP pins s st H x y v u Q I rx ry ⟨r2,by rw [← ex];exact q⟩
  cases d with
  | non=>exact go _ rfl (by rw [show x=_ from r1];rfl)
  | bl b=>exact go _ rfl (by rw [show x=_ from r1];rfl)
  | int b=>exact go _ rfl (by rw [show x=_ from r1];rfl)
  | str b=>exact go _ rfl (by rw [r1.1];rfl)
  | tup b=>exact go _ rfl (by unfold Rep at r1;obtain ⟨a,vs,rfl,_⟩:=r1;rfl)
  | lst b=>exact go _ rfl (by unfold Rep at r1;obtain ⟨a,vs,rfl,_⟩:=r1;rfl)
  | dct _ _=>exact go _ rfl (by unfold Rep at r1;obtain ⟨a,xs,rfl,_⟩:=r1;rfl)
  | set _=>exact go _ rfl (by unfold Rep at r1;obtain ⟨a,us,vs,rfl,_⟩:=r1;rfl)
  | ref b=>exact go _ rfl (by unfold Rep at r1;obtain ⟨a,rfl,_⟩:=r1;rfl)
 | bl b =>
  cases d with
  | bl a=>exact N3 pins s st H x y v u Q I rx ry ⟨a,b,r1,r2,t.ret so _ rfl⟩
  | _=>exact t.no.elim
 | _=>cases d<;>exact t.no.elim
noncomputable def JS (g g':D->D->Sto->Rs D)(a b c:Ex):Ex:=λro mu=>bM (a ro mu) λx m1=>bM (b ro m1) λy m2=>bM (g x y m2) λz m3=>match asB z with
 | none=>none
 | some k=>if k=true then bM (c ro m3) λw' m4=>g' y w' m4 else some (.bl false,m3)
theorem Ml {g g':D->D->Sto->Rs D}{a b c:Ex}{st:L2.St}{Q:VK}(h:rdE K (JS g g' a b c) st H Q):O3 (r2 K g) (r2 K g') (rdE K a) (rdE K b) (rdE K c) st H Q:=by
 obtain ⟨th,mu,ro,so,en,t⟩:=h
 refine ⟨th,mu,ro,so,en,t.bind.mono λx th1 mu1 H1 e1 s1 t1 v rv=>?_⟩
 refine ⟨th1,mu1,ro,s1,en.ext e1 so.out,t1.bind.mono λy th2 mu2 H2 e2 s2 t2 u ru=>?_⟩
 refine ⟨th2,mu2,x,y,s2,rv.ext e2 s1.out,ru,t2.bind.mono λz th3 mu3 H3 e3 s3 t3 w rw'=>?_⟩
 cases e:asB z with
 | none=>rw [e] at t3;exact t3.no.elim
 | some k =>
  rw [e] at t3
  refine ⟨k,Nc e rw',?_⟩
  cases k with
  | false=>exact t3.ret s3 _ rfl
  | true =>
   exact ⟨th3,mu3,ro,s3,(en.ext e1 so.out).ext (e2.trans e3) s1.out,Tr.mono (Tr.bind t3) λw' th4 mu4 H4 e4 s4 t4 z' rz=>⟨th4,mu4,y,w',s4,(ru.ext e3 s2.out).ext e4 s3.out,rz,t4⟩⟩
theorem S7 {a b c:Expr}{op op':CmpOp}{g g':D->D->Sto->Rs D}{ma mb mc:Ex}{pos:Pos}(ho:OpV X (compareOp op) g)(ho':OpV X (compareOp op') g')(ha:SV X a ma)(hb:SV X b mb)(hc:SV X c mc)
  (hm:lastMarks [op,op'] [b,c]=false:=by with_unfolding_all rfl):SV X (.Compare a [op,op'] [b,c] pos) (JS g g' ma mb mc):=⟨PE.weak (TX ho ho' ha.r hb.r hc.r hm) λ_ _ _ h=>Ml h⟩
theorem RD {a b c:Expr}{op op':CmpOp}{g g':D->D->Sto->Rs D}{ma mb mc:Ex}{pos:Pos}(ho:OpV X (compareOp op) g)(ho':OpV X (compareOp op') g')(ha:SV X a ma)(hb:SV X b mb)(hc:SV X c mc)
  (hm:lastMarks [op,op'] [b,c]=false:=by with_unfolding_all rfl):SVT X (.Compare a [op,op'] [b,c] pos) (tV (JS g g' ma mb mc)):=⟨PT.weak (UR ho ho' ha.r hb.r hc.r hm) λst H Q h=>Ml (Sj h)⟩
noncomputable def ixD (d e:D)(mu:Sto):Rs D:=match e with
 | .int i=>match d with
  | .tup ds=>(atI ds i).map λx=>(x,mu)
  | .str z=>(atI z.cps.toList i).map λc=>(.str ⟨#[c]⟩,mu)
  | d=>match DX mu d with
   | some ds=>(atI ds i).map λx=>(x,mu)
   | none=>none
 | _=>none
theorem Qh {ds:List D}{vs:List V}{i:Int}{d:D}(r:RepL K th H ds vs)(h:atI ds i=some d):∃ v,atI vs i=some v∧Rep K th H d v:=by
 unfold atI at h ⊢
 rw [r.len]
 cases e:ixN ds.length i with
 | none=>rw [e] at h;cases h
 | some j =>
  rw [e] at h
  obtain ⟨v,e1,e2⟩:=r.get (show ds[j]? = some d from h)
  exact ⟨v,e1,e2⟩
theorem Vg {α:Type}{xs:List α}{i:Int}{v:α}(h:atI xs i=some v):v∈xs:=by
 obtain ⟨j,_,e,_⟩:=Kz h
 exact Ar e
theorem Abj:IxR X (r2 X.z ixD):=by
 intro value slice pins s st H x y v u Q I rx ry h hsub
 obtain ⟨th,mu,d,e,so,r1,r2,t⟩:=h
 cases e with
 | int i =>
  have lists:∀ (t:Tr X.z th H (match DX mu d with
   | some ds=>(atI ds i).map λx=>(x,mu)
   | none=>none) (KV' X.z Q)),X9 X.K x y H Q:=λt=>by
   cases e1:DX mu d with
   | none=>rw [e1] at t;exact t.no.elim
   | some ds =>
    rw [e1] at t
    dsimp only at t
    cases e2:atI ds i with
    | none=>rw [e2] at t;exact t.no.elim
    | some x' =>
     rw [e2] at t
     obtain ⟨a,vs,rfl,h1,h2,h3⟩:=Fc so e1 r1
     obtain ⟨v',w1,w2⟩:=Qh h2 e2
     exact ⟨a,vs,i,v',rfl,r2,h1,w1,t.ret so _ w2⟩
  refine Yo value slice pins s st H x y v u Q I rx ry ?_ hsub
  cases d with
  | tup ds =>
   unfold ixD at t;dsimp only at t
   cases e2:atI ds i with
   | none=>rw [e2] at t;exact t.no.elim
   | some x' =>
    rw [e2] at t
    unfold Rep at r1
    obtain ⟨a,vs,rfl,h1,h2,h3⟩:=r1
    obtain ⟨v',w1,w2⟩:=Qh h2 e2
    exact .inr (.inl ⟨a,vs,i,v',rfl,r2,h1,w1,t.ret so _ w2⟩)
  | str z =>
   unfold ixD at t;dsimp only at t
   cases e2:atI z.cps.toList i with
   | none=>rw [e2] at t;exact t.no.elim
   | some c =>
    rw [e2] at t
    exact .inr (.inr ⟨z,i,c,r1.1,r2,r1.2.1,e2,t.ret so _ (Oh r1.2.2 (Vg e2))⟩)
  | _=>exact .inl (lists t)
 | _=>exact t.no.elim
noncomputable abbrev Px:=Ro->Sto->Rs (Option Int)
noncomputable def pNo:Px:=λ_ mu=>some (none,mu)
noncomputable def Fw (a:Ex):Px:=λro mu=>bM (a ro mu) λd m1=>match d with
 | .int i=>some (some i,m1)
 | _=>none
noncomputable def rdP (K:Zc)(m:Px):TO:=λst H Q=>∃ th mu ro,StoOk K th mu H∧EnvOk K th H ro st∧Tr K th H (m ro mu) λo _ _ H'=>Q o H'
structure SVP (X:Cx) (e:Option Expr) (m:Px):Prop where
 r:PO X e (rdP X.z m)
theorem PO.weak {e:Option Expr}{t t':TO}(h:PO X e t)(f:∀ st H Q,t' st H Q->t st H Q):PO X e t':=λpins s st H Q I q=>h pins s st H Q I (f st H Q q)
theorem ER:SVP X none pNo:=⟨PO.weak Wk λst H Q h=>by
 obtain ⟨th,mu,ro,so,en,t⟩:=h
 exact t.ret so⟩
theorem EU {e:Expr}{m:Ex}(h:SV X e m):SVP X (some e) (Fw m):=⟨PO.weak (VB h.r) λst H Q h=>by
 obtain ⟨th,mu,ro,so,en,t⟩:=h
 refine ⟨th,mu,ro,so,en,t.bind.mono λd th1 mu1 H1 e1 s1 t1 v rv=>?_⟩
 cases d with
 | int i=>exact ⟨i,rv,t1.ret s1⟩
 | _=>exact t1.no.elim⟩
noncomputable def cutD {α:Type}(xs:List α)(lo hi:Option Int):List α:=(xs.drop (HT.sIx xs.length 0 lo)).take (HT.sIx xs.length xs.length hi-HT.sIx xs.length 0 lo)
theorem P6 {ds:List D}{vs:List V}(r:RepL K th H ds vs)(lo hi:Option Int):RepL K th H (cutD ds lo hi) (NS vs lo hi):=by
 unfold cutD NS
 rw [r.len]
 exact (r.drop _).take _
theorem N4 {α:Type}(xs:List α)(lo hi:Option Int):(cutD xs lo hi).length≤xs.length:=by
 unfold cutD
 rw [Bc,BJ]
 omega
noncomputable def slD (d:D)(lo hi:Option Int)(mu:Sto):Rs D:=match d with
 | .tup ds=>some (.tup (cutD ds lo hi),mu)
 | .str z=>if PyData.strOk (Txt.slice z lo hi)=true then some (.str (Txt.slice z lo hi),mu) else none
 | d=>match DX mu d with
  | some ds=>some (.lst (cutD ds lo hi),mu)
  | none=>none
noncomputable def r3 (K:Zc)(op:D->Option Int->Option Int->Sto->Rs D):V->Option Int->Option Int->Hp->VK->Prop:=λx lo hi H Q=>∃ th mu d,StoOk K th mu H∧Rep K th H d x∧Tr K th H (op d lo hi mu) (KV' K Q)
noncomputable def eSl (a:Ex)(p q:Px):Ex:=λro mu=>bM (a ro mu) λd m1=>bM (p ro m1) λlo m2=>bM (q ro m2) λhi m3=>slD d lo hi m3
theorem IM {prog:Program}{w:World}{A:Around}{E:Value->Shared->Prop}{s:Shared}{t sl:Addr}{items:Array Value}{vl vu:Value}{lo hi:Option Int}{Q:Value->Shared->Prop}(ht:IsTup s.heap t items)(hs:s.heap.IsSliceOf sl vl vu .none)(pl:IsPart vl lo)(pu:IsPart vu hi)
  (h1:HT.sIx items.size 0 lo=0) (h2:HT.sIx items.size items.size hi=items.size) (h:Q (.ref t) s):wpAny (model prog w) A (getItem (.ref t) (.ref sl)) Q E s:=by
 obtain ⟨os,hos,hcs,hds⟩:=id hs
 have hTs:s.TypeIs (.ref sl) "slice":=⟨os,hos,hcs⟩
 unfold getItem
 try with_reducible refine AD ?_
 first|refine Aa (Ac ?_)|skip
 refine Aa (wpAny_sequenceKey ht.typeIs (by decide) ?_)
 refine Aa (AK (name:=Str.ofString "__getitem__") ht.typeIs AW
  (AM AW ht.typeIs entry_tuple_getitem ?_ (args_tuple_getitem _ _)))
 show wpAny _ _ (Builtin.Tuple.tupleItemsOf (.ref t) >>= _) _ _ s
 refine Aa (tupleItemsOf_ ht ?_)
 refine Aa (By hTs ?_)
 rw [if_pos (by decide)]
 refine Aa (HT.G5 hs pl pu ?_)
 rw [h1,h2]
 dsimp only
 rw [if_pos (by simp)]
 unfold Builtin.Tuple.tupleIsExact
 refine Aa (Aa (By ht.typeIs (Ac ?_)))
 rw [if_pos (by decide)]
 exact Aa (Bf (Ac ⟨_,rfl,Ac h⟩))
theorem Abt:SlR X (r3 X.z slD):=by
 intro pins s st H x v vl vu lo hi sl Q I rx hs pl pu h
 obtain ⟨th,mu,d,so,r,t⟩:=h
 have lists:∀ (t:Tr X.z th H (match DX mu d with
   | some ds=>some (D.lst (cutD ds lo hi),mu)
   | none=>none) (KV' X.z Q)),Aab X.K x lo hi H Q:=λt=>by
   cases e1:DX mu d with
   | none=>rw [e1] at t;exact t.no.elim
   | some ds =>
    rw [e1] at t
    obtain ⟨a,vs,rfl,h1,h2,h3⟩:=Fc so e1 r
    exact ⟨a,vs,rfl,h1,λp hp=>t.retX (.new hp _) (so.new hp _) _ (Rep.newLst so hp (P6 h2 lo hi) (AA (N4 ds lo hi) h3))⟩
 cases d with
 | tup ds =>
  unfold Rep at r
  obtain ⟨a,vs,rfl,h1,h2,h3⟩:=r
  by_cases c:HT.sIx vs.length 0 lo=0∧HT.sIx vs.length vs.length hi=vs.length
  ·cases rx
   obtain ⟨its,rv,ht,hz⟩:=I.tuple h1
   have hlen:its.toArray.size=vs.length:=by rw [Ak];exact rv.length.symm
   refine ⟨"tuple",_,AW.lookup,ht.typeIs,?_⟩
   refine IM ht hs pl pu (by rw [hlen];exact c.1) (by rw [hlen];exact c.2) ⟨.ref a,H,I,rfl,t.ret so _ ?_⟩
   have e:cutD ds lo hi=ds:=by
    unfold cutD
    rw [← h2.len,c.1,c.2,h2.len]
    simp
   rw [e]
   unfold Rep
   exact ⟨a,vs,rfl,h1,h2,h3⟩
  ·exact YS pins s st H _ v vl vu lo hi sl Q I rx hs pl pu ⟨a,vs,rfl,h1,c,λp hp=>t.retX (.new hp _) (so.new hp _) _ (Rep.newTup so hp (P6 h2 lo hi) (AA (N4 ds lo hi) h3))⟩
 | str z =>
  unfold slD at t;dsimp only at t
  by_cases c:PyData.strOk (Txt.slice z lo hi)=true
  ·rw [if_pos c] at t
   exact YK pins s st H _ v vl vu lo hi sl Q I rx hs pl pu ⟨z,r.1,r.2.1,t.ret so _ ⟨rfl,AA (Txt.slice_le z _ _) r.2.1,c⟩⟩
  ·rw [if_neg c] at t;exact t.no.elim
 | _=>exact V8 pins s st H _ v vl vu lo hi sl Q I rx hs pl pu (lists t)
theorem EO {e:Expr}{lo hi:Option Expr}{m:Ex}{p q:Px}{p2 pos:Pos}(he:SV X e m)(hl:SVP X lo p)(hh:SVP X hi q):SV X (.Subscript e (.Slice lo hi none p2) pos) (eSl m p q):=⟨PE.weak (Tc Abt he.r hl.r hh.r) λst H Q h=>by
 obtain ⟨th,mu,ro,so,en,t⟩:=h
 refine ⟨th,mu,ro,so,en,t.bind.mono λd th1 mu1 H1 e1 s1 t1 v rv=>?_⟩
 refine ⟨th1,mu1,ro,s1,en.ext e1 so.out,t1.bind.mono λlo' th2 mu2 H2 e2 s2 t2=>?_⟩
 refine ⟨th2,mu2,ro,s2,(en.ext e1 so.out).ext e2 s1.out,t2.bind.mono λhi' th3 mu3 H3 e3 s3 t3=>?_⟩
 exact ⟨th3,mu3,d,s3,(rv.ext e2 s1.out).ext e3 s2.out,t3⟩⟩
noncomputable def tyN:D->String
 | .non=>"NoneType"|.bl _=>"bool"|.int _=>"int"|.str _=>"str"|.tup _=>"tuple"|.lst _=>"list"|.dct _ _=>"dict"|.set _=>"set"|.ref _=>"list"
noncomputable def isi (T:String)(d:D):Bool:=tyN d==T||(T=="int"&&tyN d=="bool")
theorem Aax {K:PySem.W.Frag}(T:String)(hT:T="str"∨T="tuple"∨T="int"∨T="bool"∨T="list"∨T="dict")(d:D):PySem.W.kitOne K (.type (tyN d)) (.type T)=some (isi T d):=by
 rcases hT with rfl|rfl|rfl|rfl|rfl|rfl<;>cases d<;>rfl
noncomputable def Es (mu:Sto):D->Bool
 | .ref k=>match mu[k]? with
  | some (.lst _)=>true
  | _=>false
 | _=>true
theorem JR {mu:Sto}{k:Nat}(h:Es mu (.ref k)=true):∃ ds,mu[k]? = some (.lst ds):=by
 unfold Es at h
 dsimp only at h
 split at h
 ·rename_i ds e;exact ⟨ds,e⟩
 ·cases h
noncomputable def Rw (T:String)(a:Ex):Ex:=λro mu=>bM (a ro mu) λd m1=>if Es m1 d=true then some (.bl (isi T d),m1) else none
theorem UW {pins:List (Addr×Obj)}{st:L2.St}{s:Shared}{T:String}{d:D}{x:V}{u:Value}{Q:Value->Shared->Prop}{E:Value->Shared->Prop}(hT:T="str"∨T="tuple"∨T="int"∨T="bool"∨T="list"∨T="dict")(I:L2.Inv X pins st H s)(so:StoOk X.z th mu H)(hr:Es mu d=true)(r:Rep X.z th H d x)(rx:RelV x u)
  (h:∀ tk,Q (.bool (isi T d)) { s with toks:=tk }):wpAny (model X.prog X.w) X.A (call (.builtin "isinstance") [u,.type T]) Q E s:=by
 have e:=Aax (K:=X.K) T hT d
 have ls:∀ {a:Addr} {vs:List V},Rd H a (.lst vs)->J1 X.K H (.ref a) (.type "list"):=λ{a vs} h=>by
  rcases h with h|⟨o,h⟩
  ·exact .lst h
  ·exact .frz h
 cases d with
 | non=>cases (show x=_ from r);exact G8 I rx .non e h
 | bl b=>cases (show x=_ from r);exact G8 I rx (.bl b) e h
 | int b=>cases (show x=_ from r);exact G8 I rx (.int b) e h
 | str b=>cases r.1;exact G8 I rx (.str b) e h
 | tup ds =>
  unfold Rep at r
  obtain ⟨a,vs,rfl,h1,_⟩:=r
  cases rx
  obtain ⟨its,_,⟨o,g1,g2,_⟩,_⟩:=I.tuple h1
  exact Bd PySem.W.kitx_tuple I.kIn ⟨o,g1,g2⟩ e (λz=>nomatch z) h
 | lst ds =>
  unfold Rep at r
  obtain ⟨a,vs,rfl,h1,_⟩:=r
  cases rx
  obtain ⟨its,_,⟨o,n,g1,g2,_⟩,_⟩:=I.list h1.sq
  exact Bd PySem.W.kitx_list I.kIn ⟨o,g1,g2⟩ e (λz=>nomatch z) h
 | dct _ _ =>
  unfold Rep at r
  obtain ⟨a,xs,rfl,_,h1,_⟩:=r
  obtain ⟨⟨_,o,es,ep,g1,g2,_⟩,_⟩:=(show ObjOk X.prog X.w H s.heap a (Hw a xs) from I.hok a _ h1)
  cases rx
  exact Bd PySem.W.kitx_dict I.kIn ⟨o,g1,g2.1⟩ e (λz=>nomatch z) h
 | set _ =>
  unfold Rep at r
  obtain ⟨a,us,vs,rfl,_,h1,_⟩:=r
  obtain ⟨⟨o,es,ep,t,g1,g2,_⟩,_⟩:=(show ObjOk X.prog X.w H s.heap a (Q6 X.w a us) from I.hok a _ h1)
  cases rx
  exact Bd PySem.W.kitx_set I.kIn ⟨o,g1,g2.1⟩ e (λz=>nomatch z) h
 | ref k =>
  unfold Rep at r
  obtain ⟨a,rfl,h1⟩:=r
  obtain ⟨ds,em⟩:=JR hr
  obtain ⟨vs,h2,_⟩:=so.at' k a _ h1 em
  exact G8 I rx (.lst h2) e h
theorem MS (T:String){x:Str}{a:Expr}{m:Ex}{p p2 pos:Pos}(ha:SV X a m)(h1:X.mg "isinstance"=none)(h2:X.mg x=none)(hb:bootBuiltins x=some (.type T))(hT:T="str"∨T="tuple"∨T="int"∨T="bool"∨T="list"∨T="dict":=by decide)
  (hn:x≠"__name__":=by decide) (hd:(x==("__debug__":Str))=false:=by decide) (hg:Gl X "isinstance":=by rfl) (hg2:Gl X x:=by rfl)
  (hs1:starEach [a,.Name x p2] X.env=(false,eval a X.env)::starEach [.Name x p2] X.env:=by rfl) (hs2:(backTo pos (starEach [.Name x p2] X.env)).any (·.1)=false:=by rfl) (hs3:starEach [.Name x p2] X.env=(false,eval (.Name x p2) X.env)::starEach [] X.env:=by rfl) :
  SV X (.Call (.Name "isinstance" p) [a,.Name x p2] [] pos) (Rw T m):=⟨by
 have hc:GW X (.builtin "isinstance") (λxs H Q=>∃ th mu d y,StoOk X.z th mu H∧Es mu d=true∧xs=[y,.ty T]∧Rep X.z th H d y∧Q (.bl (isi T d)) H):=by
  intro pins s st H xs us Q I r h
  obtain ⟨th,mu,d,y,so,hr,rfl,rd,q⟩:=h
  obtain ⟨u,w',rfl,rx,ry⟩:=vals2 r
  cases (show w'=Value.type T from ry)
  exact UW hT I so hr rd rx λtk=>⟨.bl _,H,I.tok _,rfl,q⟩
 have pe:=OA hc hg h1 boot_isinstance (MW ha.r (MW (Wi (v:=.ty T) hg2 h2 hb rfl hn hd) R6 hs3) hs1) (by decide) (by decide) hs1 hs2 (pos:=pos) (p:=p)
 refine PE.weak pe λst H Q h=>?_
 obtain ⟨th,mu,ro,so,en,t⟩:=h
 refine ⟨th,mu,ro,so,en,t.bind.mono λd th1 mu1 H1 e1 s1 t1 v rv=>?_⟩
 by_cases c:Es mu1 d=true
 ·rw [if_pos c] at t1
  exact ⟨th1,mu1,d,v,s1,c,rfl,rv,t1.ret s1 _ rfl⟩
 ·rw [if_neg c] at t1;exact t1.no.elim⟩
noncomputable def ZV (mu:Sto):D->Option Nat
 | .str x=>some x.length
 | .tup ds=>some ds.length
 | .lst ds=>some ds.length
 | .ref k=>(DX mu (.ref k)).map (·.length)
 | _=>none
noncomputable def YN:Fn:=λds mu=>match ds with
 | [d]=>(ZV mu d).map λn=>(.int n,mu)
 | _=>none
theorem DU {xs:List V}{d:D}(r:RepL K th H [d] xs):∃ x,xs=[x]∧Rep K th H d x:=by
 obtain ⟨v,r',rfl,h1,h2⟩:=r.inv
 cases h2.inv0
 exact ⟨v,rfl,h1⟩
theorem IB {xs:List V}{d e:D}(r:RepL K th H [d,e] xs):∃ x y,xs=[x,y]∧Rep K th H d x∧Rep K th H e y:=by
 obtain ⟨v,r',rfl,h1,h2⟩:=r.inv
 obtain ⟨u,rfl,h3⟩:=DU h2
 exact ⟨v,u,rfl,h1,h3⟩
theorem Rf:CallV X (.builtin "len") YN:=by
 intro pins s st H xs us Q I r h
 obtain ⟨th,mu,ds,so,rd,t⟩:=h
 match ds,t,rd with
 | [d],t,rd =>
  obtain ⟨x,rfl,rx⟩:=DU rd
  cases d with
  | str z=>exact MH pins s st H _ us Q I r ⟨z,by rw [rx.1],rx.2.1,t.ret so _ rfl⟩
  | tup es =>
   unfold Rep at rx
   obtain ⟨a,vs,rfl,h1,h2,_⟩:=rx
   exact Hr pins s st H _ us Q I r ⟨a,vs,rfl,.inr h1,by rw [h2.len];exact t.ret so _ rfl⟩
  | lst es =>
   unfold Rep at rx
   obtain ⟨a,vs,rfl,h1,h2,_⟩:=rx
   exact Hr pins s st H _ us Q I r ⟨a,vs,rfl,.inl h1.sq,by rw [h2.len];exact t.ret so _ rfl⟩
  | ref k =>
   unfold YN ZV at t
   dsimp only at t
   cases e1:DX mu (.ref k) with
   | none=>rw [e1] at t;exact t.no.elim
   | some es =>
    rw [e1] at t
    obtain ⟨a,vs,rfl,h1,h2,h3⟩:=Fc so e1 rx
    exact Hr pins s st H _ us Q I r ⟨a,vs,rfl,.inl h1,by rw [h2.len];exact t.ret so _ rfl⟩
  | _=>exact t.no.elim
 | [],t,_=>exact t.no.elim
 | _::_::_,t,_=>exact t.no.elim
noncomputable def Km:List D->Option (List Bool)
 | []=>some []
 | .bl b::ds=>(Km ds).map (b::·)
 | _=>none
theorem Mj:∀ {ds:List D} {bs:List Bool} {vs:List V},Km ds=some bs->RepL K th H ds vs->vs=bs.map V.bl
 | [],_,_,h,r=>by cases h;exact r.inv0
 | d::ds,bs,_,h,r=>by
  obtain ⟨v,r',rfl,h1,h2⟩:=r.inv
  cases d with
  | bl b =>
   unfold Km at h
   cases e:Km ds with
   | none=>rw [e] at h;cases h
   | some cs =>
    rw [e] at h
    cases h
    rw [Mj e h2,show v=V.bl b from h1]
    rfl
  | _=>cases h
noncomputable def quF (f:List Bool->Bool):Fn:=λds mu=>match ds with
 | [d]=>match DX mu d with
  | some es=>(Km es).map λbs=>(.bl (f bs),mu)
  | none=>none
 | _=>none
noncomputable def JD:=quF λbs=>bs.all id
theorem Sf {id:String}{f:List Bool->Bool}(hq:GW X (.builtin id) (λxs H Q=>∃ (p:Addr) (bs:List Bool),xs=[.ref p]∧SqL X.K H p (bs.map V.bl)∧Q (.bl (f bs)) H)):CallV X (.builtin id) (quF f):=by
 intro pins s st H xs us Q I r h
 obtain ⟨th,mu,ds,so,rd,t⟩:=h
 match ds,t,rd with
 | [d],t,rd =>
  obtain ⟨x,rfl,rx⟩:=DU rd
  unfold quF at t
  dsimp only at t
  cases e1:DX mu d with
  | none=>rw [e1] at t;exact t.no.elim
  | some es =>
   rw [e1] at t
   dsimp only at t
   cases e2:Km es with
   | none=>rw [e2] at t;exact t.no.elim
   | some bs =>
    rw [e2] at t
    obtain ⟨a,vs,rfl,h1,h2,h3⟩:=Fc so e1 rx
    cases Mj e2 h2
    exact hq pins s st H _ us Q I r ⟨a,bs,rfl,h1,t.ret so _ rfl⟩
 | [],t,_=>exact t.no.elim
 | _::_::_,t,_=>exact t.no.elim
theorem FD (hc:X.calm=true):CallV X (.builtin "all") JD:=Sf (SQ hc)
noncomputable def ints2 (ds:List D):Option (Int×Int):=match ds with
 | [.int i,.int j]=>some (i,j)
 | _=>none
theorem Mk {ds:List D}{p:Int×Int}(h:ints2 ds=some p):ds=[.int p.1,.int p.2]:=by
 unfold ints2 at h
 split at h
 ·cases h;rfl
 ·cases h
noncomputable def Oq:Fn:=λds mu=>(ints2 ds).map λp=>(.int (if p.2<p.1 then p.2 else p.1),mu)
noncomputable def Ti:Fn:=λds mu=>(ints2 ds).map λp=>(.int (if p.2 > p.1 then p.2 else p.1),mu)
noncomputable def intOf (ds:List D):Option Int:=match ds with
 | [.int i]=>some i
 | [.bl b]=>some (if b then 1 else 0)
 | _=>none
theorem Ri {ds:List D}{i:Int}(h:intOf ds=some i):ds=[.int i]∨∃ b,ds=[.bl b]∧i=if b then 1 else 0:=by
 unfold intOf at h
 split at h
 ·cases h;exact .inl rfl
 ·cases h;exact .inr ⟨_,rfl,rfl⟩
 ·cases h
noncomputable def SM:Fn:=λds mu=>(intOf ds).map λi=>(.int i,mu)
noncomputable def Us (ds:List D):Option Int:=match ds with
 | [.int i]=>some i
 | _=>none
theorem Up {ds:List D}{i:Int}(h:Us ds=some i):ds=[.int i]:=by
 unfold Us at h
 split at h
 ·cases h;rfl
 ·cases h
theorem Ma (hc:X.calm=true):CallV X (.builtin "min") Oq:=by
 intro pins s st H xs us Q I r h
 obtain ⟨th,mu,ds,so,rd,t⟩:=h
 unfold Oq at t
 cases e:ints2 ds with
 | none=>rw [e] at t;exact t.no.elim
 | some p =>
  rw [e] at t
  rw [Mk e] at rd
  obtain ⟨x,y,rfl,rx,ry⟩:=IB rd
  exact Rj hc pins s st H _ us Q I r ⟨p.1,p.2,by rw [show x=_ from rx,show y=_ from ry],t.ret so _ rfl⟩
theorem QY (hc:X.calm=true):CallV X (.builtin "max") Ti:=by
 intro pins s st H xs us Q I r h
 obtain ⟨th,mu,ds,so,rd,t⟩:=h
 unfold Ti at t
 cases e:ints2 ds with
 | none=>rw [e] at t;exact t.no.elim
 | some p =>
  rw [e] at t
  rw [Mk e] at rd
  obtain ⟨x,y,rfl,rx,ry⟩:=IB rd
  exact Rm hc pins s st H _ us Q I r ⟨p.1,p.2,by rw [show x=_ from rx,show y=_ from ry],t.ret so _ rfl⟩
theorem Rh:CallV X (.type "int") SM:=by
 intro pins s st H xs us Q I r h
 obtain ⟨th,mu,ds,so,rd,t⟩:=h
 unfold SM at t
 cases e:intOf ds with
 | none=>rw [e] at t;exact t.no.elim
 | some i =>
  rw [e] at t
  rcases Ri e with h|⟨b,h,hb⟩
  ·rw [h] at rd
   obtain ⟨x,rfl,rx⟩:=DU rd
   exact Me pins s st H _ us Q I r (.inl ⟨i,by rw [show x=_ from rx],t.ret so _ rfl⟩)
  ·rw [h] at rd
   obtain ⟨x,rfl,rx⟩:=DU rd
   exact Me pins s st H _ us Q I r (.inr ⟨b,by rw [show x=_ from rx],by rw [← hb];exact t.ret so _ rfl⟩)
noncomputable def G6 (mu:Sto):D->Option (List D)
 | .tup ds=>some ds
 | d=>DX mu d
theorem Gm (so:StoOk K th mu H){d:D}{ds:List D}{v:V}(h:G6 mu d=some ds)(r:Rep K th H d v):∃ a vs,v=.ref a∧(SqL K.K H a vs∨SqT K.K H a vs∧d=.tup ds)∧RepL K th H ds vs∧ds.length≤sizeLine:=by
 cases d with
 | tup es=>cases h;unfold Rep at r;obtain ⟨a,vs,rfl,h1,h2,h3⟩:=r;exact ⟨a,vs,rfl,.inr ⟨h1,rfl⟩,h2,h3⟩
 | lst es=>obtain ⟨a,vs,rfl,h1,h2,h3⟩:=Fc so (d:=.lst es) h r;exact ⟨a,vs,rfl,.inl h1,h2,h3⟩
 | ref k=>obtain ⟨a,vs,rfl,h1,h2,h3⟩:=Fc so (d:=.ref k) h r;exact ⟨a,vs,rfl,.inl h1,h2,h3⟩
 | _=>cases h
noncomputable def HD (ds:List D):Option D:=match ds with
 | [d]=>some d
 | _=>none
theorem GV {ds:List D}{d:D}(h:HD ds=some d):ds=[d]:=by
 unfold HD at h
 split at h
 ·cases h;rfl
 ·cases h
noncomputable def sq1 (ds:List D)(mu:Sto):Option (List D):=match HD ds with
 | some d=>G6 mu d
 | none=>none
noncomputable def Gg:Fn:=λds mu=>(sq1 ds mu).map λes=>(.tup es,mu)
noncomputable def Ou:Fn:=λds mu=>(sq1 ds mu).map λes=>(.lst es,mu)
theorem KI {ds es:List D}(h:sq1 ds mu=some es):∃ d,ds=[d]∧G6 mu d=some es:=by
 unfold sq1 at h
 cases e:HD ds with
 | none=>rw [e] at h;cases h
 | some d=>rw [e] at h;exact ⟨d,GV e,h⟩
theorem DV:CallV X (.type "tuple") Gg:=by
 intro pins s st H xs us Q I r h
 obtain ⟨th,mu,ds,so,rd,t⟩:=h
 unfold Gg at t
 cases e:sq1 ds mu with
 | none=>rw [e] at t;exact t.no.elim
 | some es =>
  rw [e] at t
  obtain ⟨d,rfl,e2⟩:=KI e
  obtain ⟨x,rfl,rx⟩:=DU rd
  obtain ⟨a,vs,rfl,h1,h2,h3⟩:=Gm so e2 rx
  refine LJ pins s st H _ us Q I r ⟨a,vs,rfl,?_⟩
  rcases h1 with h1|⟨h1,rfl⟩
  ·exact .inl ⟨h1,λp hp=>t.retX (.new hp _) (so.new hp _) _ (Rep.newTup so hp h2 h3)⟩
  ·exact .inr ⟨h1,t.ret so _ rx⟩
theorem Mc:CallV X (.type "list") Ou:=by
 intro pins s st H xs us Q I r h
 obtain ⟨th,mu,ds,so,rd,t⟩:=h
 unfold Ou at t
 cases e:sq1 ds mu with
 | none=>rw [e] at t;exact t.no.elim
 | some es =>
  rw [e] at t
  obtain ⟨d,rfl,e2⟩:=KI e
  obtain ⟨x,rfl,rx⟩:=DU rd
  obtain ⟨a,vs,rfl,h1,h2,h3⟩:=Gm so e2 rx
  refine MY pins s st H _ us Q I r ⟨a,vs,rfl,?_,λp hp=>t.retX (.new hp _) (so.new hp _) _ (Rep.newLst so hp h2 h3)⟩
  rcases h1 with h1|⟨h1,_⟩
  ·exact .inl h1
  ·exact .inr h1
noncomputable def LK (o:Ex)(a:Exs):Ex:=λro mu=>bM (o ro mu) λd m1=>match d with
 | .ref k=>if Es m1 (.ref k)=true then bM (a ro m1) λxs m2=>match HD xs,m2[k]? with
  | some y,some (.lst ds)=>if ds.length<sizeLine then some (.non,m2.set k (.lst (ds++[y]))) else none
  | _,_=>none
  else none
 | _=>none
theorem IK {o e:Expr}{m:Ex}{n:Exs}{apos cpos:Pos}(ho:SV X o m)(ha:SVA X [e] n)(hbase:attributeBase o "append" X.env (eval o X.env)=eval o X.env:=by rfl)
  (hfew:((backTo cpos (starEach [e] X.env)).all (λx=>!x.1)&&(backToKw cpos (keywordEach [] X.env)).all (λx=>x.1.isSome)
   && decide ([e].length+([]:List Keyword).length+(if ([]:List Keyword).isEmpty then 0 else 1)<30))=true:=by rfl)
  (hline:(apos.endLine==cpos.line)=true:=by rfl) (hs:starEach [e] X.env=(false,eval e X.env)::starEach [] X.env:=by rfl) (hplain:(backTo cpos (starEach [] X.env)).any (·.1)=false:=by rfl) :
  SV X (.Call (.Attribute o "append" apos) [e] [] cpos) (LK m n):=
 ⟨PE.weak (Wt PySem.F.plainAttrs_list PySem.F.slot_list_append PySem.F.type_list_append RI ho.r ha.1 hbase hfew hline hs hplain) λst H Q h=>by
  obtain ⟨th,mu,ro,so,en,t⟩:=h
  refine ⟨th,mu,ro,so,en,t.bind.mono λd th1 mu1 H1 e1 s1 t1 v rv=>?_⟩
  cases d with
  | ref k =>
   unfold Rep at rv
   obtain ⟨a,rfl,ha'⟩:=rv
   by_cases cr:Es mu1 (.ref k)=true
   case neg=>dsimp only at t1;rw [if_neg cr] at t1;exact t1.no.elim
   dsimp only at t1
   rw [if_pos cr] at t1
   obtain ⟨ds0,em⟩:=JR cr
   obtain ⟨vs,h2,_⟩:=s1.at' k a _ ha' em
   refine ⟨.inl ⟨rfl,vs,SqL.of h2⟩,th1,mu1,ro,s1,en.ext e1 so.out,?_⟩
   refine Tr.mono (Tr.bind t1) λxs th2 mu2 H2 e2 s2 t2 ws rws=>?_
   cases q1:HD xs with
   | none=>rw [q1] at t2;exact t2.no.elim
   | some y =>
    cases q2:mu2[k]? with
    | none=>rw [q1,q2] at t2;exact t2.no.elim
    | some o =>
     cases o with
     | dct _ _=>rw [q1,q2] at t2;exact t2.no.elim
     | lst ds =>
      rw [q1,q2] at t2
      dsimp only at t2
      by_cases c:ds.length<sizeLine
      ·rw [if_pos c] at t2
       rw [GV q1] at rws
       obtain ⟨y',rfl,ry⟩:=DU rws
       have hk:=e2.at ha'
       obtain ⟨us,g1,g2,g3⟩:=s2.at' k a _ hk q2
       exact ⟨a,us,y',rfl,rfl,g1,by rw [g2.len];exact c,t2.retX (.mut (Ar hk) _) (s2.put hk (g2.app (.cons ry .nil)) (by rw [Az];exact c)) _ rfl⟩
      ·rw [if_neg c] at t2;exact t2.no.elim
  | _=>exact t1.no.elim⟩
end
end PV
namespace L2
open PySem PySem.Spec PyProof.Rows
theorem Yl {x y z:V}{us:List Value}(r:Vals [x,y,z] us):∃ u v w',us=[u,v,w']∧RelV x u∧RelV y v∧RelV z w':=by
 cases r with
 | cons r1 r2 =>
  obtain ⟨v,w',rfl,a,b⟩:=vals2 r2
  exact ⟨_,v,w',rfl,r1,a,b⟩
noncomputable def Zf (i j k:Nat)(ta:TA):TS:=λD σ H=>ta σ H λvs H1=>∃ u v w,vs=[u,v,w]∧D.nx (((σ.set i (some u)).set j (some v)).set k (some w)) H1
theorem Vs {X:Cx}{pos:Pos}{i j k:Nat}{x y z:Str}{a b c:Expr}{ta:TA}{px py pz pt:Pos}{kt k2 pt2}(hc:X.calm=true)(hN:X.N.Nodup)(hi:X.N[i]? = some x)(hj:X.N[j]? = some y)(hk:X.N[k]? = some z)(hij:i≠j)(hik:i≠k)(hjk:j≠k)
  (hx:X.env.scope.names.lookup x=some .local) (hy:X.env.scope.names.lookup y=some .local) (hz:X.env.scope.names.lookup z=some .local) (ha:PA X [a,b,c] ta)
  (hw:swappedStores [.Tuple [.Name x px,.Name y py,.Name z pz] kt pt] (.Tuple [a,b,c] k2 pt2) X.env=pure (some [x,y,z]))
  (hs:swapsWithSole [.Tuple [.Name x px,.Name y py,.Name z pz] kt pt] (.Tuple [a,b,c] k2 pt2) pos.line X.env=pure false:=by rfl) :
  PS X (.Assign [.Tuple [.Name x px,.Name y py,.Name z pz] kt pt] (.Tuple [a,b,c] k2 pt2) pos) (Zf i j k ta):=by
 intro pins s σ H D I h
 rw [exec_Assign_arm]
 refine Aa (wpAny_standAt ?_)
 rw [hs]
 refine Aa (Ac ?_)
 rw [if_neg (by decide)]
 refine Aa (Tuple_ (thn (ha _ pins s σ H _ I h) λus s1 ⟨vs,H1,I1,r1,q1⟩=>?_))
 obtain ⟨v1,v2,v3,e1,q1⟩:=q1
 subst e1
 obtain ⟨u1,u2,u3,rfl,ra,rb,rc⟩:=Yl r1
 refine AU ?_ (by show 3≤sizeLine;decide)
 have I2:Inv X pins σ H1 { s1 with heap:=s1.heap.push { cls:=.type "tuple",data:=.seq [u1,u2,u3].toArray } }:=I1.kept (t':=s1.toks) λb o e=>Ad _ e
 rw [hw]
 refine Aa (Ac ?_)
 show wpAny (model X.prog X.w) X.A (do rule "assign.swapped-stores";let items←unpackItems (.ref s1.heap.objs.size) 3 none;assignInOrder [λv=>bindName X.env z v,λv=>bindName X.env y v,λv=>bindName X.env x v] items.reverse;pure Flow.next) _ _ _
 refine Aa (Bf (Aa (unpackItems_tuple (items:=#[u1,u2,u3]) (I.ok.hd hc) (IsTup.new s1.heap _) λh' hx'=>?_)))
 have I3:=I2.kept (h':=h') (t':=s1.toks) λb o e=>hx' b o (Ap (Aj e)) e
 show wpAny _ _ (assignInOrder [λv=>bindName X.env z v,λv=>bindName X.env y v,λv=>bindName X.env x v] [u3,u2,u1] >>= λ_=>pure Flow.next) _ _ _
 refine Aa (assignInOrder_cons (wpAny_bindName (G1 I3 hN hk (.inl hz) rc (λs2 I4=>?_) (.inr hz))))
 refine assignInOrder_cons (wpAny_bindName (G1 I4 hN hj (.inl hy) rb (λs3 I5=>?_) (.inr hy)))
 refine assignInOrder_cons (wpAny_bindName (G1 I5 hN hi (.inl hx) ra (λs4 I6=>assignInOrder_nil (Ac ?_)) (.inr hx)))
 rw [List.set_comm _ _ (Ne.symm hjk),List.set_comm _ _ (Ne.symm hik),List.set_comm (i:=j) (j:=i) _ _ (Ne.symm hij)] at I6
 exact ⟨_,H1,I6,q1⟩
end L2
namespace PV
open PySem L2 PySem.Spec PyProof.Rows
section
variable {X:Cx} {K:Zc} {th:List Addr} {mu:Sto} {H:Hp}
noncomputable def QA (i j k:Nat)(a:Exs):Sx:=λro mu=>bM (a ro mu) λds m1=>match ds with
 | [x,y,z]=>some ((.nx,((ro.set i (some x)).set j (some y)).set k (some z)),m1)
 | _=>none
theorem Ui (i j k:Nat){x y z:Str}{a b c:Expr}{m:Exs}{px py pz pt:Pos}{kt k2 pt2}{pos:Pos}(hc:X.calm=true)(hN:X.N.Nodup)(ha:SVA X [a,b,c] m)
  (hw:swappedStores [.Tuple [.Name x px,.Name y py,.Name z pz] kt pt] (.Tuple [a,b,c] k2 pt2) X.env=pure (some [x,y,z]))
  (hi:X.N[i]? = some x:=by rfl) (hj:X.N[j]? = some y:=by rfl) (hk:X.N[k]? = some z:=by rfl) (hij:i≠j:=by decide) (hik:i≠k:=by decide) (hjk:j≠k:=by decide)
  (hx:X.env.scope.names.lookup x=some .local:=by rfl) (hy:X.env.scope.names.lookup y=some .local:=by rfl) (hz:X.env.scope.names.lookup z=some .local:=by rfl)
  (hs:swapsWithSole [.Tuple [.Name x px,.Name y py,.Name z pz] kt pt] (.Tuple [a,b,c] k2 pt2) pos.line X.env=pure false:=by rfl) :
  SVS X (.Assign [.Tuple [.Name x px,.Name y py,.Name z pz] kt pt] (.Tuple [a,b,c] k2 pt2) pos) (QA i j k m):=⟨PS.weak (Vs hc hN hi hj hk hij hik hjk hx hy hz ha.1 hw hs) λE st H h=>by
 obtain ⟨th,mu,ro,so,en,t⟩:=h
 refine ⟨th,mu,ro,so,en,t.bind.mono λds th1 mu1 H1 e1 s1 t1 vs rvs=>?_⟩
 match ds,t1,rvs with
 | [d,d',d''],t1,rvs =>
  obtain ⟨v,r,rfl,r1,r2⟩:=rvs.inv
  obtain ⟨u,w,rfl,r3,r4⟩:=IB r2
  exact ⟨v,u,w,rfl,t1.ret s1 _ ((((en.ext e1 so.out).set i r1).set j r3).set k r4)⟩
 | [],t1,_=>exact t1.no.elim
 | [_],t1,_=>exact t1.no.elim
 | [_,_],t1,_=>exact t1.no.elim
 | _::_::_::_::_,t1,_=>exact t1.no.elim⟩
noncomputable def U8 (d e v:D)(mu:Sto):Rs Unit:=match d,e with
 | .ref k,.int i=>match mu[k]? with
  | some (.lst ds)=>match ixN ds.length i with
   | some j=>some ((),mu.set k (.lst (ds.set j v)))
   | none=>none
  | _=>none
 | _,_=>none
noncomputable def Abh (K:Zc):Sw:=λo i v H Q=>∃ th mu d e w,StoOk K th mu H∧Rep K th H d o∧Rep K th H e i∧Rep K th H w v∧Tr K th H (U8 d e w mu) λ_ _ _ H'=>Q H'
theorem Ze:Wn X (Abh X.z):=by
 intro pins s st H o i v ov iv u Q I ro ri rv h
 obtain ⟨th,mu,d,e,w,so,r1,r2,r3,t⟩:=h
 cases d with
 | ref k =>
  cases e with
  | int j =>
   unfold U8 at t
   dsimp only at t
   cases q:mu[k]? with
   | none=>rw [q] at t;exact t.no.elim
   | some o' =>
    cases o' with
    | dct _ _=>rw [q] at t;exact t.no.elim
    | lst ds =>
     rw [q] at t
     dsimp only at t
     cases q2:ixN ds.length j with
     | none=>rw [q2] at t;exact t.no.elim
     | some n =>
      rw [q2] at t
      unfold Rep at r1
      obtain ⟨a,rfl,ha⟩:=r1
      obtain ⟨vs,h1,h2,h3⟩:=so.at' k a _ ha q
      exact set_list pins s st H _ i v ov iv u Q I ro ri rv ⟨a,vs,j,n,rfl,r2,h1,by rw [h2.len];exact q2,t.retX (.mut (Ar ha) _) (so.put ha (h2.setAt n r3) (by rw [List.length_set];exact h3))⟩
  | _=>exact t.no.elim
 | _=>exact t.no.elim
noncomputable def E3 (lo:Int)(n:Nat):List D:=(List.range n).map λk:Nat=>.int (lo+k)
theorem UN {lo:Int}{n:Nat}(hn:n≤sizeLine):RN K (Itr lo n) th mu H (E3 lo n) none where
 sz:=by unfold E3;simpa using hn
 go:=λth' mu' H' e s go i d ed=>by
  unfold E3 at ed
  rw [Av] at ed
  cases q:(List.range n)[i]? with
  | none=>rw [q] at ed;cases ed
  | some k =>
   rw [q] at ed
   have hd:D.int (lo+k)=d:=by simpa using ed
   obtain ⟨hi,hk⟩:=Af.mp q
   rw [List.length_range] at hi
   rw [List.getElem_range] at hk
   subst hk hd
   refine ⟨hi,λv H2 y=>?_⟩
   obtain ⟨rfl,rfl⟩:=y
   exact ⟨.refl _ _,s,by unfold Rep;rfl⟩
 stop:=λth' mu' H' e s go=>by show n≤(E3 lo n).length;unfold E3;simp
noncomputable def iRg (a:Exs):Ix:=λro mu=>bM (a ro mu) λds m1=>match Us ds with
 | some j=>if -(2 ^ 62)≤j∧j≤(sizeLine:Int) then some ((E3 0 j.toNat,none),m1) else none
 | none=>none
theorem FO {tg a:Expr}{m:Exs}{p pos:Pos}(hm:X.mg "range"=none)(ha:SVA X [a] m)(hg:Gl X "range":=by rfl)(hs:starEach [a] X.env=[(false,eval a X.env)]:=by rfl):SVI X tg (.Call (.Name "range" p) [a] [] pos) (iRg m):=
 ⟨PI.weak (RG hg hm ha.1 hs) λst H R h=>by
  obtain ⟨th,mu,ro,so,en,t⟩:=h
  refine ⟨th,mu,ro,so,en,t.bind.mono λds th1 mu1 H1 e1 s1 t1 vs rvs=>?_⟩
  cases q:Us ds with
  | none=>rw [q] at t1;exact t1.no.elim
  | some j =>
   rw [q] at t1
   dsimp only at t1
   by_cases c:-(2 ^ 62)≤j∧j≤(sizeLine:Int)
   ·rw [if_pos c] at t1
    rw [Up q] at rvs
    obtain ⟨x,rfl,rx⟩:=DU rvs
    refine ⟨j,by rw [show x=_ from rx],c.1,?_,t1.ret s1 _ (UN (by omega))⟩
    have:=c.2
    rw [AO] at this
    omega
   ·rw [if_neg c] at t1;exact t1.no.elim⟩
noncomputable def Jw (xs ys:List D):List D:=(xs.zip ys).map λp=>.tup [p.1,p.2]
theorem Wd {a b:Str}(h:a.cps.toList=b.cps.toList):a=b:=by
 obtain ⟨x⟩:=a
 obtain ⟨y⟩:=b
 have:x=y:=Array.toList_inj.mp h
 rw [this]
noncomputable def strsOf:List D->Option (List Str)
 | []=>some []
 | .str b::ds=>(strsOf ds).map (b::·)
 | _=>none
theorem Lm:∀ {ds:List D} {ss:List Str},strsOf ds=some ss->ds=ss.map D.str
 | [],_,h=>by cases h;rfl
 | d::ds,ss,h=>by
  cases d with
  | str b =>
   unfold strsOf at h
   cases e:strsOf ds with
   | none=>rw [e] at h;cases h
   | some cs=>rw [e] at h;cases h;rw [Lm e];rfl
  | _=>cases h
theorem Mp:∀ {ss:List Str} {vs:List V},RepL K th H (ss.map D.str) vs->vs=ss.map V.str∧∀ x∈ss,x.length≤sizeLine∧PyData.strOk x=true
 | [],_,r=>⟨r.inv0,λ_ h=>nomatch h⟩
 | s::ss,_,r=>by
  obtain ⟨v,r',rfl,h1,h2⟩:=RepL.inv (d:=.str s) (ds:=ss.map D.str) r
  obtain ⟨e,hs⟩:=Mp h2
  rw [e,h1.1]
  refine ⟨rfl,λx hx=>?_⟩
  rcases Am.mp hx with rfl|hx
  ·exact h1.2
  ·exact hs x hx
theorem JT:∀ {ss:List Str},(∀ x∈ss,x.length≤sizeLine∧PyData.strOk x=true)->RepL K th H (ss.map D.str) (ss.map V.str)
 | [],_=>.nil
 | s::ss,h=>.cons (d:=.str s) ⟨rfl,h s (.head _)⟩ (JT λx hx=>h x (.tail _ hx))
end
noncomputable def LtAt (A:Around)(s:Shared)(y x:Value)(b:Bool):Prop:=
 ∀ (prog:Program) (w:World) (E:Value->Shared->Prop) (Q:Value->Shared->Prop),Q (.bool b) s->wpAny (model prog w) A (richCompare .Lt y x) Q E s
noncomputable def N9 (A:Around)(s:Shared):List Value->List Value->Bool->Prop
 | [],[],b=>b=false
 | [],_::_,b=>b=true
 | _::_,[],b=>b=false
 | y::vs,x::ws,b=>∃ e,SeqAt.EqAt A s y x e∧if e=true then N9 A s vs ws b else LtAt A s y x b
section
open PySem.SeqAt
open PySem.AutoSeq1 (wpAny_loadPart')
open PySem.MeetsSeq PySem.MeetsSeq2 PySem.MeetsSeq3
theorem Nr (l b:Addr)(items items2:Array Value)(n n2:Nat)(dd dd2:Option Addr)(sl sl2:Array (Option Value))(r:Bool) :
  Meets (Builtin.«tuple.__lt__» ⟨[.ref l,.ref b],[]⟩)
   (λA R s=>s.heap.get? l=some { cls:=.type "tuple",dict:=dd,data:=.seq items n,slots:=sl }∧s.heap.get? b=some { cls:=.type "tuple",dict:=dd2,data:=.seq items2 n2,slots:=sl2 } ∧
    N9 A.in1 s items.toList items2.toList r∧R (.ok (.ret (.bool r))) s):=
 .of_wp λprog w A R s h=>by
  obtain ⟨hp,g,d,tk,os⟩:=s;obtain ⟨hl,hb,hx,h⟩:=h
  have f2:=AutoSeq1.sub_tuple_tuple
  wp_walk using BU hl,BU hb,wpAny_forIn_list _ (λrest b s'=>b.1=none∧s'=⟨hp,g,d,tk,os⟩∧∃ (vs ws:List Value),rest=vs.zip ws ∧
   N9 A.in1 ⟨hp,g,d,tk,os⟩ vs ws r∧vs.length+items2.size=ws.length+items.size) _
  case turn =>
   rintro ⟨y,x⟩ rest b s' ⟨hb',rfl,vs,ws,hz,hlx,hlen⟩
   cases vs with
   | nil=>rw [List.zip_nil_left] at hz;cases hz
   | cons a vs' =>
    cases ws with
    | nil=>rw [List.zip_nil_right] at hz;cases hz
    | cons c ws' =>
     rw [List.zip_cons_cons] at hz
     injection hz with hyx hrest
     injection hyx with hy hx
     subst hy hx
     simp only [List.length_cons] at hlen
     obtain ⟨e,he,hiff⟩:=hlx
     refine Aa (he prog w _ _ ?_)
     cases e with
     | true =>
      rw [if_pos rfl] at hiff
      wp_walk
      exact ⟨rfl,rfl,_,_,hrest,hiff,by omega⟩
     | false =>
      rw [if_neg AF] at hiff
      have hri:=hiff prog w
      wp_walk using hri
      exact ⟨_,rfl,by simpa using h⟩
  case fin =>
   rintro ⟨b1,b2⟩ s' ⟨hb',rfl,vs,ws,hz,hlx,hlen⟩
   simp only at hb'
   subst hb'
   have hv:r=decide (items.size<items2.size):=by
    cases vs with
    | nil =>
     cases ws with
     | nil =>
      simp only [List.length_nil] at hlen
      rw [show r=false from hlx]
      exact (A1 (by omega)).symm
     | cons c ws' =>
      simp only [List.length_nil,List.length_cons] at hlen
      rw [show r=true from hlx]
      exact (BE (by omega)).symm
    | cons a vs' =>
     cases ws with
     | nil =>
      simp only [List.length_nil,List.length_cons] at hlen
      rw [show r=false from hlx]
      exact (A1 (by omega)).symm
     | cons c ws' =>
      rw [List.zip_cons_cons] at hz
      cases hz
   rw [hv] at h
   wp_walk
   exact ⟨_,rfl,by simpa [Builtin.Tuple.tupleCompareSizes] using h⟩
  case h =>
   exact ⟨rfl,rfl,items.toList,items2.toList,rfl,hx,by simp;omega⟩
end
theorem LtAt.tuples {A:Around}{s:Shared}{l b:Addr}{items items2:Array Value}{r:Bool}(hl:IsTup s.heap l items)(hb:IsTup s.heap b items2)(hu:A.units<cLine)(hx:N9 A.in1 s items.toList items2.toList r):LtAt A s (.ref l) (.ref b) r:=λprog w E Q h=>by
 obtain ⟨⟨cls,dd,data,sl⟩,ho,hc,n,hd⟩:=id hl
 obtain ⟨⟨cls2,dd2,data2,sl2⟩,ho2,hc2,n2,hd2⟩:=id hb
 simp only at hc hd hc2 hd2
 subst hc hd hc2 hd2
 exact richCompare_meets_room (op:=.Lt) ⟨_,ho,rfl⟩ ⟨_,ho2,rfl⟩ PySem.F.slot_tuple_lt PySem.F.entry_tuple_lt (PySem.F.args_tuple_lt_2 _ _) (Nr l b items items2 n n2 dd dd2 sl sl2 r)
  ⟨ho,ho2,hx,show Value.bool r≠Value.notImplemented∧Q (.bool r) s from ⟨(λx=>nomatch x),h⟩⟩ hu
mutual
noncomputable def ltB:D->D->Option Bool
 | .int i,.int j=>some (decide (i<j))
 | .str i,.str j=>some (decide (i.cps.toList<j.cps.toList))
 | .tup xs,.tup ys=>Il xs ys
 | _,_=>none
noncomputable def Il:List D->List D->Option Bool
 | [],[]=>some false
 | [],_::_=>some true
 | _::_,[]=>some false
 | x::xs,y::ys=>if Dj x&&Dj y then (if PyData.eqv (toPy x) (toPy y) then Il xs ys else ltB x y) else none
end
section
variable {X:Cx} {K:Zc} {th:List Addr} {mu:Sto} {H:Hp}
mutual
theorem Pu {pins:List (Addr×Obj)}{st:L2.St}{s:Shared}(I:L2.Inv X pins st H s):∀ (d e:D) (b:Bool) (v u:V) (vv uu:Value) (A:Around),ltB d e=some b->Rep X.z th H d v->Rep X.z th H e u->RelV v vv->RelV u uu->A.units+(toPy d).depth+1<cLine->LtAt A s vv uu b
 | .int i,e,b,v,u,vv,uu,A,h,r1,r2,q1,q2,hu=>by
  cases e with
  | int j =>
   unfold ltB at h
   cases h
   cases (show _=_ from r1)
   cases (show _=_ from r2)
   obtain ⟨t1,rfl⟩:=q1
   obtain ⟨t2,rfl⟩:=q2
   exact λprog w E Q hq=>(PyProof.Rows.lt_int hq:wpAny (model prog w) A (compareOp .Lt (.int i t1) (.int j t2)) Q E s)
  | _=>unfold ltB at h;cases h
 | .str i,e,b,v,u,vv,uu,A,h,r1,r2,q1,q2,hu=>by
  cases e with
  | str j =>
   unfold ltB at h
   cases h
   obtain ⟨rfl,_⟩:=(show _∧_ from r1)
   obtain ⟨rfl,_⟩:=(show _∧_ from r2)
   obtain ⟨t1,rfl⟩:=q1
   obtain ⟨t2,rfl⟩:=q2
   exact λprog w E Q hq=>(PyProof.Rows.lt_str hq:wpAny (model prog w) A (compareOp .Lt (.str i t1) (.str j t2)) Q E s)
  | _=>unfold ltB at h;cases h
 | .tup xs,e,b,v,u,vv,uu,A,h,r1,r2,q1,q2,hu=>by
  cases e with
  | tup ys =>
   unfold ltB at h
   unfold Rep at r1 r2
   obtain ⟨a,vs,rfl,h1,l1,_⟩:=r1
   obtain ⟨c,us,rfl,h2,l2,_⟩:=r2
   cases q1
   cases q2
   obtain ⟨its,rv,p1,_⟩:=I.tuple h1
   obtain ⟨its2,rv2,p2,_⟩:=I.tuple h2
   have hd:(toPy (.tup xs)).depth=PyData.depthAll (CA xs)+1:=by unfold toPy PyData.depth;rfl
   rw [hd] at hu
   refine LtAt.tuples p1 p2 (by omega) ?_
   have:=QJ I xs ys b vs us its its2 A.in1 h l1 l2 rv rv2 (by show A.units+1+PyData.depthAll (CA xs)+1<cLine;omega)
   simpa using this
  | _=>unfold ltB at h;cases h
 | .non,e,b,_,_,_,_,_,h,_,_,_,_,_=>by cases e<;>(unfold ltB at h;cases h)
 | .bl _,e,b,_,_,_,_,_,h,_,_,_,_,_=>by cases e<;>(unfold ltB at h;cases h)
 | .lst _,e,b,_,_,_,_,_,h,_,_,_,_,_=>by cases e<;>(unfold ltB at h;cases h)
 | .dct _ _,e,b,_,_,_,_,_,h,_,_,_,_,_=>by cases e<;>(unfold ltB at h;cases h)
 | .set _,e,b,_,_,_,_,_,h,_,_,_,_,_=>by cases e<;>(unfold ltB at h;cases h)
 | .ref _,e,b,_,_,_,_,_,h,_,_,_,_,_=>by cases e<;>(unfold ltB at h;cases h)
theorem QJ {pins:List (Addr×Obj)}{st:L2.St}{s:Shared}(I:L2.Inv X pins st H s):∀ (xs ys:List D) (b:Bool) (vs us:List V) (vvs uus:List Value) (A:Around),Il xs ys=some b->RepL X.z th H xs vs->RepL X.z th H ys us->Vals vs vvs->Vals us uus->A.units+PyData.depthAll (CA xs)+1<cLine->N9 A s vvs uus b
 | [],[],b,_,_,_,_,A,h,r1,r2,q1,q2,hu=>by
  cases r1.inv0;cases r2.inv0;cases q1;cases q2
  unfold Il at h
  cases h
  rfl
 | [],y::ys,b,_,_,_,_,A,h,r1,r2,q1,q2,hu=>by
  cases r1.inv0
  obtain ⟨v,r,rfl,_,_⟩:=r2.inv
  cases q1
  cases q2
  unfold Il at h
  cases h
  rfl
 | x::xs,[],b,_,_,_,_,A,h,r1,r2,q1,q2,hu=>by
  cases r2.inv0
  obtain ⟨v,r,rfl,_,_⟩:=r1.inv
  cases q1
  cases q2
  unfold Il at h
  cases h
  rfl
 | x::xs,y::ys,b,_,_,_,_,A,h,r1,r2,q1,q2,hu=>by
  obtain ⟨v,r,rfl,a1,a2⟩:=r1.inv
  obtain ⟨u,r',rfl,b1,b2⟩:=r2.inv
  cases q1 with
  | cons g1 g2 =>
   cases q2 with
   | cons k1 k2 =>
    unfold Il at h
    have hd:PyData.depthAll (CA (x::xs))=max (toPy x).depth (PyData.depthAll (CA xs)):=by rw [CA,PyData.depthAll]
    rw [hd] at hu
    by_cases c:(Dj x&&Dj y)=true
    ·rw [if_pos c] at h
     rw [Ab] at c
     obtain ⟨as,w1,w2⟩:=Ft I x v _ c.1 a1 g1
     obtain ⟨bs,w3,w4⟩:=Ft I y u _ c.2 b1 k1
     refine ⟨_,SeqAt.eqAt_reads _ _ A s _ _ as bs w1 w3 w2 w4 (by omega),?_⟩
     cases e:PyData.eqv (toPy x) (toPy y) with
     | true=>rw [e] at h;rw [if_pos rfl] at h ⊢;exact QJ I xs ys b _ _ _ _ A h a2 b2 g2 k2 (by omega)
     | false=>rw [e] at h;rw [if_neg AF] at h ⊢;exact Pu I x y b _ _ _ _ A h a1 b1 g1 k1 (by omega)
    ·rw [if_neg c] at h;cases h
end
noncomputable def ltG (d e:D)(mu:Sto):Rs D:=if (toPy d).depth≤60 then (ltB d e).map λb=>(.bl b,mu) else none
theorem Nw (hu:X.A.units+64<cLine):OpV X (compareOp .Lt) ltG:=by
 intro pins s st H x y v u Q I rx ry h
 obtain ⟨th,mu,d,e,so,r1,r2,t⟩:=h
 unfold ltG at t
 by_cases c:(toPy d).depth≤60
 ·rw [if_pos c] at t
  cases e1:ltB d e with
  | none=>rw [e1] at t;exact t.no.elim
  | some b =>
   rw [e1] at t
   exact Pu I d e b x y v u X.A e1 r1 r2 rx ry (by omega) _ _ _ _ ⟨.bl b,H,I,rfl,t.ret so _ rfl⟩
 ·rw [if_neg c] at t;exact t.no.elim
end
section
variable {X:Cx} {K:Zc} {th:List Addr} {mu:Sto} {H:Hp}
noncomputable def U5 (d:D)(mu:Sto):Rs D:=match d with
 | .int i=>some (.int (-i),mu)
 | _=>none
theorem X2 {a:Expr}{m:Ex}{pos:Pos}(ha:SV X a m):SV X (.UnaryOp .USub a pos) (e1 U5 m):=⟨PE.weak (WD Ug ha.r) λst H Q h=>by
 obtain ⟨th,mu,ro,so,en,t⟩:=h
 refine ⟨th,mu,ro,so,en,t.bind.mono λd th1 mu1 H1 e1 s1 t1 v rv=>?_⟩
 cases d with
 | int i=>exact ⟨i,rv,t1.ret s1 _ rfl⟩
 | _=>exact t1.no.elim⟩
theorem MF {pins:List (Addr×Obj)}{st:L2.St}{s:Shared}(I:L2.Inv X pins st H s):sysModules<s.heap.objs.size:=by
 obtain ⟨o,_,_,ho,_⟩:=I.mod.glob
 exact Au (show sysModules<mainGlobals+1 by decide) (Aj (I.bk _ _ ho))
theorem NC {P:Program}{w:World}{H:Hp}{h:Heap}{a:Addr}{xs:List (Int×V×V)}(x:Zt a xs h):ObjOk P w H h a (Hw a xs):=by
 refine ⟨x,?_,λh1 h2 ⟨z,o,es,ep,ho,r⟩ k=>⟨z,o,es,ep,k o ho,r⟩⟩
 obtain ⟨_,o,es,ep,ho,r⟩:=x
 exact ⟨o,ho⟩
noncomputable def ZM:Ex:=λ_ mu=>some (.dct [] [],mu)
noncomputable def Zr:Ex:=λ_ mu=>some (.ref mu.length,mu++[.dct [] []])
theorem AbH (xs:Array Value):((List.range xs.size).filterMap λ(m:Nat)=>xs[(((xs.size:Int)-1)+(m:Int)*(-1)).toNat]?)=xs.toList.reverse:=by
 have gen:∀ n,n≤xs.size->((List.range n).filterMap λ(m:Nat)=>xs[(((xs.size:Int)-1)+(m:Int)*(-1)).toNat]?)=xs.toList.reverse.take n:=by
  intro n
  induction n with
  | zero=>intro _;simp
  | succ n ih =>
   intro hn
   have e:(((xs.size:Int)-1)+(n:Int)*(-1)).toNat=xs.size-1-n:=by omega
   rw [List.range_succ,List.filterMap_append,ih (by omega),List.take_add_one]
   congr 1
   rw [List.filterMap_cons,List.filterMap_nil,e,List.getElem?_reverse (by simp;omega)]
   simp [show xs.size-1-n<xs.size by omega]
 rw [gen xs.size (Ah _),B6 (by simp)]
theorem Ka {prog:Program}{w:World}{A:Around}{E:Value->Shared->Prop}{s:Shared}{sl:Addr}{t:Tok}{n:Nat}{Q:Int×Int×Nat->Shared->Prop}(hs:s.heap.IsSliceOf sl .none .none (.int (-1) t))
  (h:Q (((n:Int)-1),-1,n) s):wpAny (model prog w) A (Builtin.Slice.sliceApplied (.ref sl) (pure (n:Int))) Q E s:=by
 obtain ⟨os,hos,hcs,hds⟩:=id hs
 unfold Builtin.Slice.sliceApplied Builtin.Slice.sliceFields
 refine Aa (Aa (A6 hos hds (x:=.none) rfl (Aa (A6 hos hds (x:=.none) rfl (Aa (A6 hos hds (x:=.int (-1) t) rfl (Ac ?_)))))))
 refine Aa (HT.Gz (.int (-1) t) ?_)
 show wpAny _ _ (if ((-1:Int)==0)=true then _ else _) _ _ s
 rw [if_neg (by decide)]
 refine Aa (HT.Gz .none (Aa (HT.Gz .none (Aa (Ac ?_)))))
 show wpAny _ _ (pure (((n:Int)-1),(-1:Int),Builtin.Slice.slicePlaces ((n:Int)-1) (-1) (-1))) _ _ s
 have e:Builtin.Slice.slicePlaces ((n:Int)-1) (-1) (-1)=n:=by
  unfold Builtin.Slice.slicePlaces
  rw [if_neg (by decide)]
  by_cases h:(n:Int)-1 > -1
  ·rw [if_pos h]
   have:((n:Int)-1 - -1-1) / (- -1)+1=n:=by rw [show (- -1:Int)=1 from rfl,Int.ediv_one];omega
   rw [this]
   simp
  ·rw [if_neg h]
   simp
   omega
 rw [e]
 exact Ac h
theorem Jt {prog:Program}{w:World}{A:Around}{E:Value->Shared->Prop}{s:Shared}{t sl:Addr}{items:Array Value}{tk:Tok}{Q:Value->Shared->Prop}(ht:IsTup s.heap t items)(hs:s.heap.IsSliceOf sl .none .none (.int (-1) tk))
  (h:Q (.ref s.heap.objs.size) { s with heap:=s.heap.push { cls:=.type "tuple",data:=.seq items.toList.reverse.toArray } }) (hsz:items.size≤sizeLine):wpAny (model prog w) A (getItem (.ref t) (.ref sl)) Q E s:=by
 obtain ⟨os,hos,hcs,hds⟩:=id hs
 have hTs:s.TypeIs (.ref sl) "slice":=⟨os,hos,hcs⟩
 have htake:sizeOk (.seq items.toList.reverse.toArray):=by
  show items.toList.reverse.toArray.size≤sizeLine
  simpa using hsz
 unfold getItem
 try with_reducible refine AD ?_
 first|refine Aa (Ac ?_)|skip
 refine Aa (wpAny_sequenceKey ht.typeIs (by decide) ?_)
 refine Aa (AK (name:=Str.ofString "__getitem__") ht.typeIs AW
  (AM AW ht.typeIs entry_tuple_getitem ?_ (args_tuple_getitem _ _)))
 show wpAny _ _ (Builtin.Tuple.tupleItemsOf (.ref t) >>= _) _ _ s
 refine Aa (tupleItemsOf_ ht ?_)
 refine Aa (By hTs ?_)
 rw [if_pos (by decide)]
 refine Aa (Ka hs ?_)
 dsimp only
 rw [if_neg (by simp),AbH]
 exact Aa (m:=Builtin.Tuple.tupleExact _) (AU (Ac ⟨_,rfl,Ac h⟩) htake)
noncomputable def O4 (d:D)(mu:Sto):Rs D:=match d with
 | .tup ds=>some (.tup ds.reverse,mu)
 | _=>none
theorem Vals.rev {xs:List V}{us:List Value}(r:Vals xs us):Vals xs.reverse us.reverse:=Vals.reverse r
theorem Xl {e:Expr}{m:Ex}{j:Nat}{p1 p2 p3 pos:Pos}(he:SV X e m):SV X (.Subscript e (.Slice none none (some (.UnaryOp .USub (.Constant (.int 1) j p1) p2)) p3) pos) (e1 O4 m):=⟨by
 intro pins s st H Q I h
 obtain ⟨th,mu,ro,so,en,t⟩:=h
 refine Subscript_ (thn (he.r pins s st H (λx H1=>∃ th1 mu1 d,StoOk X.z th1 mu1 H1∧Rep X.z th1 H1 d x∧Tr X.z th1 H1 (O4 d mu1) (KV' X.z Q)) I ⟨th,mu,ro,so,en,t.bind.mono λd th1 mu1 H1 e1 s1 t1 v rv=>⟨th1,mu1,d,s1,rv,t1⟩⟩) λv s1 ⟨x,H1,I1,r1,th1,mu1,d,so1,rd,t1⟩=>?_)
 refine wpAny_Slice ?_
 rw [evalPart_none]
 refine Ac (Ac ?_)
 rw [evalPart_some]
 refine thn ((WD (X:=X) Ug (UG (i:=1) (j:=j) (pos:=p1))) pins s1 st H1 (λy H'=>y=.int (-1)∧H'=H1) I1 ⟨1,rfl,rfl,rfl⟩) λu s2 ⟨y,H2,I2,r2,ey,eH⟩=>?_
 subst ey eH
 obtain ⟨tk,rfl⟩:=r2
 have I4:L2.Inv X pins st H2 { s2 with heap:=s2.heap.push { cls:=.type "slice",data:=.fields #[.none,.none,.int (-1) tk] } }:=I2.kept (t':=s2.toks) λb ob q=>Ad _ q
 cases d with
 | tup ds =>
  unfold Rep at rd
  obtain ⟨a,vs,rfl,h1,h2,h3⟩:=rd
  cases r1
  obtain ⟨its,rv,ht,hz⟩:=I4.tuple h1
  show wpAny (model X.prog X.w) X.A (subscriptTail e (.Slice none none (some (.UnaryOp .USub (.Constant (.int 1) j p1) p2)) p3) (.ref a) (.ref s2.heap.objs.size)) (EP X pins st Q) X.xe { s2 with heap:=s2.heap.push { cls:=.type "slice",data:=.fields #[.none,.none,.int (-1) tk] } }
  refine tail_any (ops:=[.ref a,.ref s2.heap.objs.size]) ht.typeIs AW.lookup (Jt ht (Heap.IsSliceOf.new ..) ?_ (by rw [Ak,← rv.length];exact hz)) (by with_unfolding_all rfl)
  have hp:=I4.hok.fresh (Ah _)
  refine ⟨.ref _,_,I4.laid (t':=s2.toks) (o:=.tup vs.reverse) (λb ob q=>Ad _ q) (Ah _) ⟨⟨by rw [List.length_reverse];exact hz,_,Ai _ rfl,rfl⟩,its.reverse,Vals.rev rv,IsTup.new _ _⟩,rfl,?_⟩
  exact t1.retX (.new hp _) (so1.new hp _) _ (Rep.newTup so1 hp h2.rev (by rw [List.length_reverse];exact h3))
 | _=>exact t1.no.elim⟩
end
noncomputable def DI {α:Type}(ask:Nat->Nat->Option Bool):PySem.W.KasT α->Option α
 | .ret a=>some a
 | .ask i j k=>match ask i j with
  | none=>none
  | some b=>DI ask (k b)
theorem JN {α:Type}{ask:Nat->Nat->Option Bool}{cmp:Nat->Nat->(Bool->Shared->Prop)->Shared->Prop}{s:Shared}(hc:∀ i j b C,ask i j=some b->C b s->cmp i j C s):∀ (t:PySem.W.KasT α) (a:α) (Q:α->Shared->Prop),DI ask t=some a->Q a s->t.kasWp cmp Q s
 | .ret a,_,Q,e,q=>by cases e;exact q
 | .ask i j k,a,Q,e,q=>by
  unfold DI at e
  cases e1:ask i j with
  | none=>rw [e1] at e;cases e
  | some b =>
   rw [e1] at e
   exact hc i j b _ e1 (JN hc (k b) a Q e q)
section
variable {X:Cx} {K:Zc} {th:List Addr} {mu:Sto} {H:Hp}
noncomputable def tupS:D->Bool
 | .tup (.str x::r)=>Et r&&decide (PyData.depthAll (CA r)≤50)
 | _=>false
theorem K2 {d:D}(h:tupS d=true):∃ x r,d=.tup (.str x::r)∧Et r=true∧PyData.depthAll (CA r)≤50:=by
 unfold tupS at h
 split at h
 ·rename_i x r
  rw [Ab,Ae] at h
  exact ⟨x,r,rfl,h.1,h.2⟩
 ·cases h
theorem Mo {pins:List (Addr×Obj)}{st:L2.St}{s:Shared}(I:L2.Inv X pins st H s){A:Around}{fin:Bool}{Q:Bool->Shared->Prop} :
  ∀ (xs ys:List D) (b:Bool) (vs us:List V) (vvs uus:List Value) (i:Nat),Il xs ys=some b->RepL X.z th H xs vs->RepL X.z th H ys us->Vals vs vvs->Vals us uus->A.units+PyData.depthAll (CA xs)+1<cLine ->
   (i=0->∃ x r y r',xs=.str x::r∧ys=.str y::r')->(fin=decide (xs.length<ys.length))->Q b s->PySem.W.KatLex X.prog X.w A true fin Q (vvs.zip uus) i s
 | [],[],b,_,_,_,_,i,h,r1,r2,q1,q2,hu,h0,hf,q=>by
  cases r1.inv0;cases r2.inv0;cases q1;cases q2
  unfold Il at h
  cases h
  exact PySem.W.kat_nil (by rw [hf];exact q)
 | [],y::ys,b,_,_,_,_,i,h,r1,r2,q1,q2,hu,h0,hf,q=>by
  cases r1.inv0
  obtain ⟨v,r,rfl,_,_⟩:=r2.inv
  cases q1
  cases q2
  unfold Il at h
  cases h
  exact PySem.W.kat_nil (by rw [hf,BE (by simp)];exact q)
 | x::xs,[],b,_,_,_,_,i,h,r1,r2,q1,q2,hu,h0,hf,q=>by
  cases r2.inv0
  obtain ⟨v,r,rfl,_,_⟩:=r1.inv
  cases q1
  cases q2
  unfold Il at h
  cases h
  exact PySem.W.kat_nil (by rw [hf,A1 (by simp)];exact q)
 | x::xs,y::ys,b,_,_,_,_,i,h,r1,r2,q1,q2,hu,h0,hf,q=>by
  obtain ⟨v,r,rfl,a1,a2⟩:=r1.inv
  obtain ⟨u,r',rfl,b1,b2⟩:=r2.inv
  cases q1 with
  | cons g1 g2 =>
   cases q2 with
   | cons k1 k2 =>
    unfold Il at h
    have hd:PyData.depthAll (CA (x::xs))=max (toPy x).depth (PyData.depthAll (CA xs)):=by rw [CA,PyData.depthAll]
    rw [hd] at hu
    by_cases c:(Dj x&&Dj y)=true
    ·rw [if_pos c] at h
     rw [Ab] at c
     obtain ⟨as,w1,w2⟩:=Ft I x v _ c.1 a1 g1
     obtain ⟨bs,w3,w4⟩:=Ft I y u _ c.2 b1 k1
     refine PySem.W.kat_cons (SeqAt.eqAt_reads _ _ A s _ _ as bs w1 w3 w2 w4 (by omega) _ _ _ _ ?_)
     cases e:PyData.eqv (toPy x) (toPy y) with
     | true =>
      rw [e,if_pos rfl] at h
      refine PySem.W.kat_yes (Mo I xs ys b _ _ _ _ (i+1) h a2 b2 g2 k2 (by omega) (λz=>by omega) (by rw [hf];simp) q)
     | false =>
      rw [e,if_neg AF] at h
      refine PySem.W.kat_no ?_
      by_cases hi:i=0
      ·subst hi
       obtain ⟨x',_,y',_,e1,e2⟩:=h0 rfl
       cases e1
       cases e2
       obtain ⟨rfl,_⟩:=(show _∧_ from a1)
       obtain ⟨rfl,_⟩:=(show _∧_ from b1)
       obtain ⟨t1,rfl⟩:=g1
       obtain ⟨t2,rfl⟩:=k1
       unfold ltB at h
       cases h
       exact oneLt_str q
      ·rw [show (true&&i==0)=false by simp [hi]]
       exact PySem.W.kat_one _ _ (Pu I x y b _ _ _ _ A h a1 b1 g1 k1 (by omega) _ _ _ _ q)
    ·rw [if_neg c] at h;cases h
noncomputable def RL (ds:List D)(i j:Nat):Option Bool:=match ds[i]?,ds[j]? with
 | some d,some e=>ltB d e
 | _,_=>none
theorem Ld {pins:List (Addr×Obj)}{st:L2.St}{s:Shared}(I:L2.Inv X pins st H s):∀ {ds:List D} {vs:List V} {us:List Value},ds.all tupS=true->RepL X.z th H ds vs->Vals vs us->∃ fs,PySem.W.KatTups s.heap us fs∧fs.length=ds.length∧∀ v∈fs,∃ x t,v=.str x t
 | [],_,_,_,r,q=>by cases r.inv0;cases q;exact ⟨[],.nil,rfl,λ_ h=>nomatch h⟩
 | d::ds,_,_,h,r,q=>by
  obtain ⟨v,r',rfl,a1,a2⟩:=r.inv
  rw [List.all_cons,Ab] at h
  cases q with
  | cons q1 q2 =>
   obtain ⟨x,es,rfl,_,_⟩:=K2 h.1
   obtain ⟨fs,f1,f2,f3⟩:=Ld I h.2 a2 q2
   unfold Rep at a1
   obtain ⟨a,ws,rfl,h1,l1,_⟩:=a1
   obtain ⟨w0,wr,rfl,l2,_⟩:=RepL.inv l1
   obtain ⟨rfl,_⟩:=(show _∧_ from l2)
   cases q1
   obtain ⟨its,rv,⟨o,g1,g2,n,g3⟩,_⟩:=I.tuple h1
   cases rv with
   | cons k1 k2 =>
    obtain ⟨t,rfl⟩:=k1
    exact ⟨_::fs,.cons g1 g2 g3 rfl f1,by simp [f2],λz hz=>(Am.mp hz).elim (λe=>⟨x,t,e⟩) (f3 z)⟩
theorem Ya {pins:List (Addr×Obj)}{st:L2.St}{s:Shared}(I:L2.Inv X pins st H s){ds:List D}{vs:List V}{us:List Value}(hd:ds.all tupS=true)(r:RepL X.z th H ds vs)(q:Vals vs us){A:Around}(hu:A.units+60<cLine) :
  ∀ i j b C,RL ds i j=some b->C b s->PySem.W.kas_ask X.prog X.w A (tuples' true) us i j C s:=λi j b C e hC=>by
 unfold RL at e
 cases e1:ds[i]? with
 | none=>rw [e1] at e;cases e
 | some d =>
  cases e2:ds[j]? with
  | none=>rw [e1,e2] at e;cases e
  | some d' =>
   rw [e1,e2] at e
   have m1:=Aq.mp hd d (Ar e1)
   have m2:=Aq.mp hd d' (Ar e2)
   obtain ⟨x,xs,rfl,_,dx⟩:=K2 m1
   obtain ⟨y,ys,rfl,_,dy⟩:=K2 m2
   obtain ⟨v,ev,rv⟩:=r.get e1
   obtain ⟨v',ev',rv'⟩:=r.get e2
   obtain ⟨u,eu,ru⟩:=q.get ev
   obtain ⟨u',eu',ru'⟩:=q.get ev'
   unfold PySem.W.kas_ask
   rw [show us.getD i Value.none=u by rw [AJ,eu];rfl,show us.getD j Value.none=u' by rw [AJ,eu'];rfl]
   unfold Rep at rv rv'
   obtain ⟨a,ws,rfl,h1,l1,_⟩:=rv
   obtain ⟨a',ws',rfl,h1',l1',_⟩:=rv'
   cases ru
   cases ru'
   obtain ⟨its,rw1,⟨o,g1,g2,n,g3⟩,_⟩:=I.tuple h1
   obtain ⟨its',rw2,⟨o',g1',g2',n',g3'⟩,_⟩:=I.tuple h1'
   unfold ltB at e
   refine PySem.W.kat_lt g1 g3 g1' g3' ?_
   have hx:PyData.depthAll (CA (.str x::xs))≤50:=by
    rw [CA,PyData.depthAll]
    show max 0 _≤50
    omega
   have:=Mo I (A:=A) (fin:=decide (its.toArray.size<its'.toArray.size)) (Q:=C) (.str x::xs) (.str y::ys) b ws ws' its its' 0 e l1 l1' rw1 rw2 (by omega) (λ_=>⟨x,xs,y,ys,rfl,rfl⟩) (by rw [Ak,Ak,← rw1.length,← rw2.length,l1.len,l1'.len]) hC
   simpa using this
end
section
variable {prog:Program} {w:World} {A:Around} {E:Value->Shared->Prop} {s:Shared}
theorem PU {T:String}(hT:T="list"∨T="tuple"){l:Addr}{ob:Obj}{zs:List Value}{n:Nat}{Q:List Value->Shared->Prop}(ho:s.heap.get? l=some ob)(hc:ob.cls=.type T)(hd:ob.data=.seq zs.toArray n)
  (h:Q zs { s with heap:=(s.heap.push (seqObj "list" #[] 0)).update s.heap.objs.size (Obj.mapSeq (·++zs.toArray)) }) (hz:zs.length≤sizeLine):wpAny (model prog w) A (collect (.ref l)) Q E s:=by
 unfold collect
 refine Aa (wpAny_runValue (Bh entry_proto_collect' ?_))
 show wpAny _ _ (do again (.builtin "list.__iadd__" ⟨[← newList [],.ref l],[]⟩)) _ _ s
 refine Aa (wpAny_newList (Ac (And.intro (Code.quiet_builtin _ (by decide +kernel)) (Bh entry_list_iadd' ?_))))
 show wpAny _ _ (Builtin.List.listExtendWith (.ref s.heap.objs.size) (.ref l) (.ref s.heap.objs.size)) _ _ { s with heap:=s.heap.push (seqObj "list" #[] 0) }
 have g:(s.heap.push (seqObj "list" #[] 0)).get? l=some ob:=Ad _ ho
 (unfold Builtin.List.listExtendWith)
 refine Aa (By (T:=T) ⟨ob,g,hc⟩ ?_)
 rw [if_pos (by rcases hT with rfl|rfl<;>simp)]
 refine Aa (listItems_at g hd (Aa (listItems_at (xs:=#[]) (n:=0) (Ai _ rfl) rfl ?_)))
 rw [if_neg (by simp)]
 refine Aa (listUpdate_at (xs:=#[]) (n:=0) (Ai _ rfl) rfl (Ac ?_) (AX _) (by
  show ((#[]:Array Value)++zs.toArray).size≤sizeLine+1
  simp only [Array.size_append,Ak,List.length_nil]
  omega))
 show wpAny (model prog w) A (load s.heap.objs.size >>= λo=>match o.data with
   | .seq xs _=>pure xs.toList
   | _=>unsupported "internal:collect") Q E { s with heap:=(s.heap.push (seqObj "list" #[] 0)).update s.heap.objs.size (Obj.mapSeq (·++zs.toArray)) }
 refine Aa (wpAny_load (get?_update_seq (Ai _ rfl) _) ?_)
 show wpAny _ _ (pure ((#[]:Array Value)++zs.toArray).toList) Q E _
 have e0:((#[]:Array Value)++zs.toArray).toList=zs:=by simp
 rw [e0]
 exact Ac h
theorem P4 {a:Addr}{zs:List Value}{n:Nat}{P:PySem.Fin->Shared->Prop}{kd:SortKind}(p:Array Nat)(hp:p.size=zs.length)(ho:s.heap.get? a=some (seqObj "list" zs.toArray n))(h2:2≤zs.length)(h64:zs.length<64)
  (hk:∀ (Q:SortKind->Shared->Prop) (E':Value->Shared->Prop),Q kd { s with heap:=((s.heap.update a (Obj.mapSeq λ_=>#[])).push (seqObj "tuple" zs.toArray 0)).push (seqObj "list" #[] 0) }->wpAny (model prog w) A (keyKind' zs.toArray) Q E' { s with heap:=((s.heap.update a (Obj.mapSeq λ_=>#[])).push (seqObj "tuple" zs.toArray 0)).push (seqObj "list" #[] 0) })
  (hr:∀ G:Array Nat->Shared->Prop,G p { s with heap:=((s.heap.update a (Obj.mapSeq λ_=>#[])).push (seqObj "tuple" zs.toArray 0)).push (seqObj "list" #[] 0) }->(PySem.W.kas_sort zs.length).kasWp (PySem.W.kas_ask prog w A kd zs) G { s with heap:=((s.heap.update a (Obj.mapSeq λ_=>#[])).push (seqObj "tuple" zs.toArray 0)).push (seqObj "list" #[] 0) })
  (h:P (.done (.ret .none)) { s with heap:=sortedHeap s.heap a zs (p.toList.map λi=>zs.getD i Value.none).toArray }):wpAny (model prog w) A (Builtin.«list.sort» ⟨[.ref a],[]⟩) P E s:=by
 have la:a<s.heap.objs.size:=Aj ho
 rw [list_sort_plain]
 refine Aa (listItems_at ho rfl (Aa (listUpdate_at ho rfl ?_ (by rw [Ak,AO];omega) (AX _))))
 obtain ⟨n1,ho1⟩:∃ n1,(s.heap.update a (Obj.mapSeq λ_=>#[])).get? a=some (seqObj "list" #[] n1):=⟨_,get?_update_seq ho λ_=>#[]⟩
 refine Aa (seqEpoch_at ho1 rfl (Aa (wpAny_newTuple (Aa (wpAny_newList (AD ?_) (AX _))) (by show zs.length≤_;rw [AO];omega))))
 have ho2:(((s.heap.update a (Obj.mapSeq λ_=>#[])).push (seqObj "tuple" zs.toArray 0)).push (seqObj "list" #[] 0)).get? a=some (seqObj "list" #[] n1):=Ad _ (Ad _ ho1)
 show wpAny (model prog w) A _ P E { s with heap:=((s.heap.update a (Obj.mapSeq λ_=>#[])).push (seqObj "tuple" zs.toArray 0)).push (seqObj "list" #[] 0) }
 dsimp only
 have n2:¬ zs.toArray.size<2:=by rw [Ak];omega
 rw [if_neg n2,if_neg n2]
 refine Aa (hk _ _ ?_)
 refine Aa (BS (PySem.W.kat_run (E:=E) (Q:=λst' s'=>arrOf st'=p.map (PySem.W.kas_item (zs.toArray.zip zs.toArray))∧failedOf st'=none∧s'={ s with heap:=((s.heap.update a (Obj.mapSeq λ_=>#[])).push (seqObj "tuple" zs.toArray 0)).push (seqObj "list" #[] 0) }) rfl h2 h64
  (G:=λp' s'=>p'=p∧s'={ s with heap:=((s.heap.update a (Obj.mapSeq λ_=>#[])).push (seqObj "tuple" zs.toArray 0)).push (seqObj "list" #[] 0) }) (λp' st' s' _ a2 a3 a4=>⟨by rw [← a4.1];exact a2,a3,a4.2⟩) (hr _ ⟨rfl,rfl⟩)) ?_ λ_ _ e=>e)
 rintro ⟨⟨⟩,st'⟩ s' ⟨ha,hf,rfl⟩
 dsimp only
 rw [PySem.W.kat_snds rfl ha]
 refine Aa (seqEpoch_at ho2 rfl (Aa (listUpdate_at ho2 rfl ?_ (AX _) (by
  show (List.toArray (p.toList.map λi=>zs.getD i Value.none)).size≤sizeLine+1
  rw [Ak,Ag,Array.length_toList,hp,AO]
  omega))))
 rw [hf]
 simp only [bne_self_eq_false,AN,A5]
 exact Ac h
theorem UA {a:Addr}{zs:List Value}{n:Nat}{P:PySem.Fin->Shared->Prop}(ho:s.heap.get? a=some (seqObj "list" zs.toArray n))(h2:zs.length<2)
  (h:P (.done (.ret .none)) { s with heap:=sortedHeap s.heap a zs zs.toArray }):wpAny (model prog w) A (Builtin.«list.sort» ⟨[.ref a],[]⟩) P E s:=by
 rw [list_sort_plain]
 refine Aa (listItems_at ho rfl (Aa (listUpdate_at ho rfl ?_ (by rw [Ak,AO];omega) (AX _))))
 obtain ⟨n1,ho1⟩:∃ n1,(s.heap.update a (Obj.mapSeq λ_=>#[])).get? a=some (seqObj "list" #[] n1):=⟨_,get?_update_seq ho λ_=>#[]⟩
 refine Aa (seqEpoch_at ho1 rfl (Aa (wpAny_newTuple (Aa (wpAny_newList (AD ?_) (AX _))) (by show zs.length≤_;rw [AO];omega))))
 have ho2:(((s.heap.update a (Obj.mapSeq λ_=>#[])).push (seqObj "tuple" zs.toArray 0)).push (seqObj "list" #[] 0)).get? a=some (seqObj "list" #[] n1):=Ad _ (Ad _ ho1)
 show wpAny (model prog w) A _ P E { s with heap:=((s.heap.update a (Obj.mapSeq λ_=>#[])).push (seqObj "tuple" zs.toArray 0)).push (seqObj "list" #[] 0) }
 dsimp only
 have n2:zs.toArray.size<2:=by rw [Ak];exact h2
 rw [if_pos n2,if_pos n2]
 refine Aa (Ac ?_)
 rw [StateT.run_pure]
 refine Aa (Ac ?_)
 dsimp only
 have e0:(arrOf (SortSt.mk' general' (zs.toArray.zip zs.toArray) #[] 7 none)).map (·.2)=zs.toArray:=by
  show (zs.toArray.zip zs.toArray).map (·.2)=zs.toArray
  rw [show zs.toArray.zip zs.toArray=(zs.zip zs).toArray by simp,List.map_toArray,List.map_snd_zip (Ah _)]
 rw [e0]
 refine Aa (seqEpoch_at ho2 rfl (Aa (listUpdate_at ho2 rfl ?_ (AX _) (by
  show zs.toArray.size≤sizeLine+1
  rw [Ak,AO]
  omega))))
 simp only [bne_self_eq_false,AN,A5]
 exact Ac h
end
end PV
namespace PV
open PySem PyProof.Rows
theorem Fe {α β:Type}(ask:Nat->Nat->Option Bool):∀ (t:PySem.W.KasT α) (f:α->PySem.W.KasT β),DI ask (t.bind f)=(DI ask t).bind λa=>DI ask (f a)
 | .ret a,f=>rfl
 | .ask i j k,f=>by
  have ih:=λb=>Fe ask (k b) f
  simp only [PySem.W.KasT.bind,DI]
  cases ask i j with
  | none=>rfl
  | some b=>exact ih b
structure Pre (n:Nat) (ask:Nat->Nat->Option Bool) (lt:Nat->Nat->Bool):Prop where
 tot:∀ i j,i<n->j<n->ask i j=some (lt i j)
 asym:∀ i j,i<n->j<n->lt i j=true->lt j i=false
 trans:∀ i j k,i<n->j<n->k<n->lt j i=false->lt k j=false->lt k i=false
noncomputable def gi (p:Array Nat)(k:Nat):Nat:=p.getD k 0
structure Ix' (n:Nat) (p:Array Nat):Prop where
 pm:p.toList.Perm (List.range n)
theorem Ix'.size {n:Nat}{p:Array Nat}(h:Ix' n p):p.size=n:=by rw [← Array.length_toList,h.pm.length_eq,List.length_range]
theorem UB {p:Array Nat}{k:Nat}(h:k<p.size):gi p k=p[k]:=by unfold gi;simp [Array.getD,h]
theorem Ix'.lt {n:Nat}{p:Array Nat}(h:Ix' n p){k:Nat}(hk:k<n):gi p k<n:=by
 have hs:k<p.size:=by rw [h.size];exact hk
 rw [UB hs]
 exact BN.mp (h.pm.mem_iff.mp (by simpa using Array.getElem_mem hs))
theorem L6 {p q:Array Nat}{k j:Nat}(h:p[k]? = q[j]?):gi p k=gi q j:=by
 unfold gi
 rw [Array.getD_eq_getD_getElem?,Array.getD_eq_getD_getElem?,h]
theorem Ix'.rev {n:Nat}{p:Array Nat}(h:Ix' n p)(i j:Nat):Ix' n (PySem.W.kas_rev p i j):=⟨(Array.perm_iff_toList_perm.mp (mirror_perm p i j _)).trans h.pm⟩
theorem Ix'.bub {n:Nat}{p:Array Nat}(h:Ix' n p)(i j:Nat):Ix' n (bubble p i j):=⟨(Array.perm_iff_toList_perm.mp (bubble_perm p i j)).trans h.pm⟩
theorem Jg {p:Array Nat}{i j:Nat}(hj:j≤p.size)(k:Nat):gi (PySem.W.kas_rev p i j) k=if i≤k∧k<j then gi p (i+j-1-k) else gi p k:=by
 unfold PySem.W.kas_rev
 have e:=getElem?_mirror (xs:=p) (i:=i) hj ((j-i) / 2) (by omega) k
 by_cases c:(i≤k∧k<i+(j-i) / 2)∨(j-(j-i) / 2≤k∧k<j)
 ·rw [if_pos c] at e
  rw [if_pos (by omega)]
  exact L6 e
 ·rw [if_neg c] at e
  by_cases c2:i≤k∧k<j
  ·rw [if_pos c2,show i+j-1-k=k by omega]
   exact L6 e
  ·rw [if_neg c2]
   exact L6 e
theorem XH {p:Array Nat}{src d:Nat}(hs:src<p.size)(hd:d≤src)(k:Nat):gi (bubble p src d) k=if k=src-d then gi p src else if src-d<k∧k≤src then gi p (k-1) else gi p k:=by
 have e:=getElem?_bubble hs d hd k
 by_cases c:k=src-d
 ·rw [if_pos c] at e ⊢;exact L6 e
 ·rw [if_neg c] at e ⊢
  by_cases c2:src-d<k∧k≤src
  ·rw [if_pos c2] at e ⊢;exact L6 e
  ·rw [if_neg c2] at e ⊢;exact L6 e
section
variable {n:Nat} {ask:Nat->Nat->Option Bool} {lt:Nat->Nat->Bool}
noncomputable def Up' (lt:Nat->Nat->Bool)(p:Array Nat)(m:Nat):Prop:=∀ a b,a≤b->b<m->lt (gi p b) (gi p a)=false
noncomputable def Dn' (lt:Nat->Nat->Bool)(p:Array Nat)(m:Nat):Prop:=∀ a b,a≤b->b<m->lt (gi p a) (gi p b)=false
theorem Pre.irr (O:Pre n ask lt){i:Nat}(h:i<n):lt i i=false:=by
 cases e:lt i i with
 | false=>rfl
 | true=>rw [← e];exact O.asym i i h h e
theorem Up'.more (O:Pre n ask lt){p:Array Nat}{m:Nat}(I:Ix' n p)(h:Up' lt p m)(hm:m<n)(h1:m=0∨lt (gi p m) (gi p (m-1))=false):Up' lt p (m+1):=λa b hab hb=>by
 by_cases e:b<m
 ·exact h a b hab e
 ·have:b=m:=by omega
  subst this
  by_cases ea:a=b
  ·subst ea;exact O.irr (I.lt hm)
  ·rcases h1 with h1|h1
   ·omega
   ·exact O.trans (gi p a) (gi p (b-1)) (gi p b) (I.lt (by omega)) (I.lt (by omega)) (I.lt hm) (h a (b-1) (by omega) (by omega)) h1
theorem O0 (O:Pre n ask lt){p:Array Nat}(I:Ix' n p):∀ (f m:Nat),1≤m->m+f≤n->Up' lt p m->∃ k,DI ask (PySem.W.kas_asc p f m)=some k∧m≤k∧k≤m+f∧Up' lt p k∧(k<m+f->lt (gi p k) (gi p (k-1))=true)
 | 0,m,_,_,h=>⟨m,rfl,Ah _,Ah _,h,λz=>by omega⟩
 | f+1,m,h1,hm,h=>by
  have e:ask (p.getD m 0) (p.getD (m-1) 0)=some (lt (gi p m) (gi p (m-1))):=O.tot _ _ (I.lt (by omega)) (I.lt (by omega))
  unfold PySem.W.kas_asc DI
  rw [e]
  dsimp only
  cases c:lt (gi p m) (gi p (m-1)) with
  | true =>
   rw [if_pos rfl]
   exact ⟨m,rfl,Ah _,by omega,h,λ_=>c⟩
  | false =>
   rw [if_neg AF]
   obtain ⟨k,a1,a2,a3,a4,a5⟩:=O0 O I f (m+1) (by omega) (by omega) (h.more O I (by omega) (.inr c))
   exact ⟨k,a1,by omega,by omega,a4,λz=>a5 (by omega)⟩
noncomputable def ZP (lt:Nat->Nat->Bool)(n:Nat)(p q:Array Nat):Prop:=∀ k,k<n->lt (gi p k) (gi q k)=false∧lt (gi q k) (gi p k)=false
theorem Dn'.more (O:Pre n ask lt){p:Array Nat}{m:Nat}(I:Ix' n p)(h:Dn' lt p m)(hm:m<n)(h0:0<m)(h1:lt (gi p (m-1)) (gi p m)=false):Dn' lt p (m+1):=λa b hab hb=>by
 by_cases e:b<m
 ·exact h a b hab e
 ·have:b=m:=by omega
  subst this
  by_cases ea:a=b
  ·subst ea;exact O.irr (I.lt hm)
  ·exact O.trans (gi p b) (gi p (b-1)) (gi p a) (I.lt hm) (I.lt (by omega)) (I.lt (by omega)) h1 (h a (b-1) (by omega) (by omega))
theorem Dn'.like (O:Pre n ask lt){p q:Array Nat}{m:Nat}(I:Ix' n p)(J:Ix' n q)(hm:m≤n)(h:Dn' lt p m)(l:ZP lt n p q):Dn' lt q m:=λa b hab hb =>
 O.trans (gi q b) (gi p a) (gi q a) (J.lt (by omega)) (I.lt (by omega)) (J.lt (by omega)) (O.trans (gi q b) (gi p b) (gi p a) (J.lt (by omega)) (I.lt (by omega)) (I.lt (by omega)) (l b (by omega)).1 (h a b hab hb)) (l a (by omega)).2
theorem NY (O:Pre n ask lt){p:Array Nat}(I:Ix' n p){i j:Nat}(hj:j≤n)(eq:∀ a b,i≤a->a<j->i≤b->b<j->lt (gi p a) (gi p b)=false):ZP lt n p (PySem.W.kas_rev p i j):=λk hk=>by
 rw [Jg (by rw [I.size];exact hj)]
 by_cases c:i≤k∧k<j
 ·rw [if_pos c]
  exact ⟨eq _ _ (by omega) (by omega) (by omega) (by omega),eq _ _ (by omega) (by omega) (by omega) (by omega)⟩
 ·rw [if_neg c]
  exact ⟨O.irr (I.lt hk),O.irr (I.lt hk)⟩
theorem KA (O:Pre n ask lt):∀ (f:Nat) (p:Array Nat) (m q:Nat),Ix' n p->1≤m->m+f≤n->q+1≤m->Dn' lt p m->(∀ a b,m-(q+1)≤a->a<m->m-(q+1)≤b->b<m->lt (gi p a) (gi p b)=false) ->
  ∃ r,DI ask (PySem.W.kas_desc f p m q)=some r∧Ix' n r.1∧m≤r.2.1∧r.2.1≤m+f∧r.2.2+1≤r.2.1∧Dn' lt r.1 r.2.1∧∀ a b,r.2.1-(r.2.2+1)≤a->a<r.2.1->r.2.1-(r.2.2+1)≤b->b<r.2.1->lt (gi r.1 a) (gi r.1 b)=false
 | 0,p,m,q,I,h1,hm,hq,hd,he=>⟨(p,m,q),rfl,I,Ah _,Ah _,hq,hd,he⟩
 | f+1,p,m,q,I,h1,hm,hq,hd,he=>by
  have e:ask (p.getD m 0) (p.getD (m-1) 0)=some (lt (gi p m) (gi p (m-1))):=O.tot _ _ (I.lt (by omega)) (I.lt (by omega))
  have e':ask (p.getD (m-1) 0) (p.getD m 0)=some (lt (gi p (m-1)) (gi p m)):=O.tot _ _ (I.lt (by omega)) (I.lt (by omega))
  unfold PySem.W.kas_desc DI
  rw [e]
  dsimp only
  have one:∀ p':Array Nat,Ix' n p'->∀ a b,m+1-(0+1)≤a->a<m+1->m+1-(0+1)≤b->b<m+1->lt (gi p' a) (gi p' b)=false:=λp' J a b a1 a2 b1 b2=>by
   have:a=b:=by omega
   subst this
   exact O.irr (J.lt (by omega))
  cases c:lt (gi p m) (gi p (m-1)) with
  | true =>
   rw [if_pos rfl]
   have hd1:=hd.more O I (by omega) (by omega) (O.asym _ _ (I.lt (by omega)) (I.lt (by omega)) c)
   by_cases hq0:q > 0
   ·rw [if_pos hq0]
    have J:=I.rev (m-(q+1)) m
    have lk:=NY O I (i:=m-(q+1)) (j:=m) (by omega) he
    obtain ⟨r,a1,a2,a3,a4,a5⟩:=KA O f (PySem.W.kas_rev p (m-(q+1)) m) (m+1) 0 J (by omega) (by omega) (by omega) (hd1.like O I J (by omega) lk) (one _ J)
    exact ⟨r,a1,a2,by omega,by omega,a5⟩
   ·rw [if_neg hq0]
    obtain ⟨r,a1,a2,a3,a4,a5⟩:=KA O f p (m+1) 0 I (by omega) (by omega) (by omega) hd1 (one _ I)
    exact ⟨r,a1,a2,by omega,by omega,a5⟩
  | false =>
   rw [if_neg AF]
   unfold DI
   rw [e']
   dsimp only
   cases c2:lt (gi p (m-1)) (gi p m) with
   | true =>
    rw [if_pos rfl]
    exact ⟨(p,m,q),rfl,I,Ah _,by show m≤_;omega,hq,hd,he⟩
   | false =>
    rw [if_neg AF]
    have hd1:=hd.more O I (by omega) (by omega) c2
    obtain ⟨r,a1,a2,a3,a4,a5⟩:=KA O f p (m+1) (q+1) I (by omega) (by omega) (by omega) hd1 λa b z1 z2 z3 z4=>by
     have key:∀ x,m+1-(q+1+1)≤x->x<m+1->lt (gi p x) (gi p (m-1))=false∧lt (gi p (m-1)) (gi p x)=false:=λx x1 x2=>by
      by_cases hx:x=m
      ·subst hx;exact ⟨c,c2⟩
      ·exact ⟨he _ _ (by omega) (by omega) (by omega) (by omega),he _ _ (by omega) (by omega) (by omega) (by omega)⟩
     exact O.trans (gi p b) (gi p (m-1)) (gi p a) (I.lt (by omega)) (I.lt (by omega)) (I.lt (by omega)) (key b z3 z4).2 (key a z1 z2).1
    exact ⟨r,a1,a2,by omega,by omega,a5⟩
theorem Qv (O:Pre n ask lt){p:Array Nat}(I:Ix' n p){m:Nat}(h1:1≤m)(hm:m≤n)(hd:Dn' lt p m):∃ r,DI ask (PySem.W.kas_tail3 m n p)=some r∧Ix' n r.2∧1≤r.1∧r.1≤n∧Up' lt r.2 r.1:=by
 have J:=I.rev 0 m
 have up:Up' lt (PySem.W.kas_rev p 0 m) m:=λa b hab hb=>by
  rw [Jg (by rw [I.size];exact hm),Jg (by rw [I.size];exact hm),if_pos (by omega),if_pos (by omega)]
  exact hd _ _ (by omega) (by omega)
 obtain ⟨k,a1,a2,a3,a4,_⟩:=O0 O J (n-m) m h1 (by omega) up
 refine ⟨(k,PySem.W.kas_rev p 0 m),?_,J,by show 1≤k;omega,by show k≤n;omega,a4⟩
 unfold PySem.W.kas_tail3
 rw [Fe,a1]
 rfl
theorem Kg (O:Pre n ask lt){p:Array Nat}(I:Ix' n p){m:Nat}(h1:1≤m)(hm:m<n)(eq:∀ a b,a<m->b<m->lt (gi p a) (gi p b)=false)(hl:lt (gi p m) (gi p (m-1))=true) :
  ∃ r,DI ask (PySem.W.kas_descPart m n p)=some r∧Ix' n r.2∧1≤r.1∧r.1≤n∧Up' lt r.2 r.1:=by
 have hd:Dn' lt p m:=λa b _ hb=>eq a b (by omega) hb
 have hd1:=hd.more O I hm (by omega) (O.asym _ _ (I.lt hm) (I.lt (by omega)) hl)
 obtain ⟨r,a1,a2,a3,a4,a5,a6,a7⟩:=KA O (n-(m+1)) p (m+1) 0 I (by omega) (by omega) (by omega) hd1 λa b z1 z2 z3 z4=>by
  have:a=b:=by omega
  subst this
  exact O.irr (I.lt (by omega))
 unfold PySem.W.kas_descPart
 rw [Fe,a1]
 show ∃ r',DI ask (if r.2.2 > 0 then _ else _)=some r'∧_
 by_cases hq:r.2.2 > 0
 ·rw [if_pos hq]
  have J:=a2.rev (r.2.1-(r.2.2+1)) r.2.1
  exact Qv O J (by omega) (by omega) (a6.like O a2 J (by omega) (NY O a2 (by omega) a7))
 ·rw [if_neg hq]
  exact Qv O a2 (by omega) (by omega) a6
theorem Sh (O:Pre n ask lt){p:Array Nat}(I:Ix' n p)(hn:1≤n):∃ r,DI ask (PySem.W.kas_count n p)=some r∧Ix' n r.2∧1≤r.1∧r.1≤n∧Up' lt r.2 r.1:=by
 obtain ⟨k,a1,a2,a3,a4,a5⟩:=O0 O I (n-1) 1 (Ah _) (by omega) (λa b _ hb=>by
  have:a=0:=by omega
  have:b=0:=by omega
  subst a b
  exact O.irr (I.lt (by omega)))
 unfold PySem.W.kas_count
 rw [Fe,a1]
 show ∃ r',DI ask (if (k==n)=true then _ else _)=some r'∧_
 by_cases hk:k=n
 ·rw [if_pos (by simpa using hk)]
  exact ⟨(k,p),rfl,I,a2,by show k≤n;omega,a4⟩
 ·rw [if_neg (by simpa using hk)]
  have lk:=a5 (by omega)
  by_cases h1:k > 1
  ·rw [if_pos h1]
   have e:ask (p.getD 0 0) (p.getD (k-1) 0)=some (lt (gi p 0) (gi p (k-1))):=O.tot _ _ (I.lt (by omega)) (I.lt (by omega))
   unfold DI
   rw [e]
   dsimp only
   cases c:lt (gi p 0) (gi p (k-1)) with
   | true =>
    rw [if_pos rfl]
    exact ⟨(k,p),rfl,I,a2,by show k≤n;omega,a4⟩
   | false =>
    rw [if_neg AF]
    have J:=I.rev 0 k
    have eqp:∀ a b,a<k->b<k->lt (gi p a) (gi p b)=false:=λa b ha hb=>by
     exact O.trans (gi p b) (gi p 0) (gi p a) (I.lt (by omega)) (I.lt (by omega)) (I.lt (by omega)) (O.trans (gi p b) (gi p (k-1)) (gi p 0) (I.lt (by omega)) (I.lt (by omega)) (I.lt (by omega)) (a4 b (k-1) (by omega) (by omega)) c) (a4 0 a (by omega) ha)
    refine Kg O J (by omega) (by omega) (λa b ha hb=>?_) ?_
    ·rw [Jg (by rw [I.size];omega),Jg (by rw [I.size];omega),if_pos (by omega),if_pos (by omega)]
     exact eqp _ _ (by omega) (by omega)
    ·rw [Jg (by rw [I.size];omega),Jg (by rw [I.size];omega),if_neg (by omega),if_pos (by omega)]
     cases z:lt (gi p k) (gi p (0+k-1-(k-1))) with
     | true=>rfl
     | false =>
      have:=O.trans (gi p (k-1)) (gi p (0+k-1-(k-1))) (gi p k) (I.lt (by omega)) (I.lt (by omega)) (I.lt (by omega)) (eqp _ _ (by omega) (by omega)) z
      rw [lk] at this
      cases this
  ·rw [if_neg h1]
   exact Kg O I a2 (by omega) (λa b ha hb=>by
    have:a=0:=by omega
    have:b=0:=by omega
    subst a b
    exact O.irr (I.lt (by omega))) lk
theorem Lp (O:Pre n ask lt){p:Array Nat}(I:Ix' n p){k:Nat}(hk:k<n)(up:Up' lt p k):∀ (f l r:Nat),l≤r->r≤k->r-l≤f->(∀ j,j<l->lt (gi p k) (gi p j)=false)->(∀ j,r≤j->j<k->lt (gi p k) (gi p j)=true) ->
  ∃ m,DI ask (PySem.W.kas_place p k f l r)=some m∧m≤k∧(∀ j,j<m->lt (gi p k) (gi p j)=false)∧∀ j,m≤j->j<k->lt (gi p k) (gi p j)=true
 | 0,l,r,h1,h2,h3,hl,hr=>⟨l,rfl,by omega,hl,λj a b=>hr j (by omega) b⟩
 | f+1,l,r,h1,h2,h3,hl,hr=>by
  unfold PySem.W.kas_place
  by_cases c:l ≥ r
  ·rw [if_pos c]
   exact ⟨l,rfl,by omega,hl,λj a b=>hr j (by omega) b⟩
  ·rw [if_neg c]
   have e:ask (p.getD k 0) (p.getD ((l+r) / 2) 0)=some (lt (gi p k) (gi p ((l+r) / 2))):=O.tot _ _ (I.lt hk) (I.lt (by omega))
   unfold DI
   rw [e]
   dsimp only
   cases c2:lt (gi p k) (gi p ((l+r) / 2)) with
   | true =>
    rw [if_pos rfl]
    refine Lp O I hk up f l ((l+r) / 2) (by omega) (by omega) (by omega) hl λj a b=>?_
    cases z:lt (gi p k) (gi p j) with
    | true=>rfl
    | false =>
     have:=O.trans (gi p ((l+r) / 2)) (gi p j) (gi p k) (I.lt (by omega)) (I.lt (by omega)) (I.lt hk) (up _ _ a b) z
     rw [c2] at this
     cases this
   | false =>
    rw [if_neg AF]
    refine Lp O I hk up f ((l+r) / 2+1) r (by omega) (by omega) (by omega) (λj a=>?_) hr
    exact O.trans (gi p j) (gi p ((l+r) / 2)) (gi p k) (I.lt (by omega)) (I.lt (by omega)) (I.lt hk) (up _ _ (by omega) (by omega)) c2
theorem R4 (O:Pre n ask lt):∀ (f:Nat) (p:Array Nat) (k:Nat),Ix' n p->1≤k->k+f=n->Up' lt p k->∃ r,DI ask (PySem.W.kas_bin f p k)=some r∧Ix' n r∧Up' lt r n
 | 0,p,k,I,_,h,up=>⟨p,rfl,I,by have:k=n:=(by omega);subst this;exact up⟩
 | f+1,p,k,I,h1,h,up=>by
  obtain ⟨m,a1,a2,a3,a4⟩:=Lp O I (k:=k) (by omega) up k 0 k (by omega) (by omega) (by omega) (λj hj=>by omega) (λj a b=>by omega)
  unfold PySem.W.kas_bin
  rw [Fe,a1]
  show ∃ r,DI ask (PySem.W.kas_bin f (bubble p k (k-m)) (k+1))=some r∧_
  have hs:k<p.size:=by rw [I.size];omega
  have J:=I.bub k (k-m)
  have g:∀ j,gi (bubble p k (k-m)) j=if j=m then gi p k else if m<j∧j≤k then gi p (j-1) else gi p j:=λj=>by
   have:=XH hs (d:=k-m) (by omega) j
   rw [show k-(k-m)=m by omega] at this
   exact this
  refine R4 O f _ (k+1) J (by omega) (by omega) λa b hab hb=>?_
  rw [g a,g b]
  by_cases ea:a=m
  ·rw [if_pos ea]
   by_cases eb:b=m
   ·rw [if_pos eb];exact O.irr (I.lt (by omega))
   ·rw [if_neg eb,if_pos (by omega)]
    exact O.asym _ _ (I.lt (by omega)) (I.lt (by omega)) (a4 (b-1) (by omega) (by omega))
  ·rw [if_neg ea]
   by_cases eb:b=m
   ·rw [if_pos eb,if_neg (by omega)]
    exact a3 a (by omega)
   ·rw [if_neg eb]
    by_cases ca:m<a∧a≤k
    ·rw [if_pos ca,if_pos (by omega)];exact up _ _ (by omega) (by omega)
    ·rw [if_neg ca]
     by_cases cb:m<b∧b≤k
     ·rw [if_pos cb];exact up _ _ (by omega) (by omega)
     ·rw [if_neg cb];exact up _ _ (by omega) (by omega)
theorem Vh (O:Pre n ask lt)(hn:1≤n):∃ p,DI ask (PySem.W.kas_sort n)=some p∧p.toList.Perm (List.range n)∧Up' lt p n:=by
 have I:Ix' n (List.toArray (List.range n)):=⟨by simp⟩
 obtain ⟨r,a1,a2,a3,a4,a5⟩:=Sh O I hn
 unfold PySem.W.kas_sort
 rw [Fe,a1]
 show ∃ p,DI ask (if r.1<n then _ else _)=some p∧_
 by_cases c:r.1<n
 ·rw [if_pos c]
  obtain ⟨q,b1,b2,b3⟩:=R4 O (n-max r.1 1) r.2 (max r.1 1) a2 (by omega) (by omega) (by rw [show max r.1 1=r.1 by omega];exact a5)
  exact ⟨q,b1,b2.pm,b3⟩
 ·rw [if_neg c]
  exact ⟨r.2,rfl,a2.pm,by rw [show n=r.1 by omega];exact a5⟩
end
end PV
namespace PV
open PySem L2 PySem.Spec PyProof.Rows
section
variable {X:Cx} {K:Zc} {th:List Addr} {mu:Sto} {H:Hp}
theorem Vals.pick {zs:List V}{us:List Value}(q:Vals zs us)(f:Nat->V)(g:Nat->Value):∀ (p:List Nat),(∀ i∈p,RelV (f i) (g i))->Vals (p.map f) (p.map g)
 | [],_=>.nil
 | i::p,h=>.cons (h i (.head _)) (Vals.pick q f g p λj hj=>h j (.tail _ hj))
theorem RepL.pick {ds:List D}{vs:List V}(f:Nat->D)(g:Nat->V):∀ (p:List Nat),(∀ i∈p,Rep K th H (f i) (g i))->RepL K th H (p.map f) (p.map g)
 | [],_=>.nil
 | i::p,h=>.cons (h i (.head _)) (RepL.pick (ds:=ds) (vs:=vs) f g p λj hj=>h j (.tail _ hj))
theorem CallV.or {f:Value}{g g':Fn}(h:CallV X f g)(h':CallV X f g'):CallV X f λds mu=>match g ds mu with|some r=>some r|none=>g' ds mu:=by
 intro pins s st H xs us Q I r q
 obtain ⟨th,mu,ds,so,rd,t⟩:=q
 cases e:g ds mu with
 | some p =>
  refine h pins s st H xs us Q I r ⟨th,mu,ds,so,rd,?_⟩
  rw [e];simpa only [e] using t
 | none =>
  refine h' pins s st H xs us Q I r ⟨th,mu,ds,so,rd,?_⟩
  simpa only [e] using t
end
mutual
theorem G0:∀ {d:D},hsh d=true->Dj d=true
 | .non,_=>rfl
 | .int _,_=>rfl
 | .str _,_=>rfl
 | .tup ds,h=>by unfold hsh at h;unfold Dj;exact Mu h
 | .bl _,h=>nomatch h
 | .lst _,h=>nomatch h
 | .dct _ _,h=>nomatch h
 | .set _,h=>nomatch h
 | .ref _,h=>nomatch h
theorem Mu:∀ {ds:List D},GY ds=true->Et ds=true
 | [],_=>rfl
 | d::ds,h=>by
  unfold GY at h
  rw [Ab] at h
  unfold Et
  rw [G0 h.1,Mu h.2]
  rfl
end
mutual
theorem Jd:∀ {d:D},hsh d=true->(toPy d).depth=dpt d
 | .non,_=>rfl
 | .int _,_=>rfl
 | .str _,_=>rfl
 | .tup ds,h=>by unfold hsh at h;unfold toPy PyData.depth dpt;rw [M9 h]
 | .bl _,h=>nomatch h
 | .lst _,h=>nomatch h
 | .dct _ _,h=>nomatch h
 | .set _,h=>nomatch h
 | .ref _,h=>nomatch h
theorem M9:∀ {ds:List D},GY ds=true->PyData.depthAll (CA ds)=Kw ds
 | [],_=>rfl
 | d::ds,h=>by
  unfold GY at h
  rw [Ab] at h
  unfold CA PyData.depthAll Kw
  rw [Jd h.1,M9 h.2]
end
mutual
theorem Hn:∀ {d e:D},hsh d=true->hsh e=true->PyData.eqv (toPy d) (toPy e)=decide (d=e)
 | .tup ds,.tup es,h,g=>by
  unfold hsh at h g
  unfold toPy PyData.eqv
  rw [NN h g]
  simp
 | .non,e,_,g=>by cases e<;>first|rfl|(simp [toPy,PyData.eqv];done)|cases g
 | .int i,.int j,_,_=>by by_cases c:i=j<;>simp [toPy,PyData.eqv,c]
 | .str i,.str j,_,_=>by by_cases c:i=j<;>simp [toPy,PyData.eqv,c]
 | .int _,.non,_,g=>by simp [toPy,PyData.eqv]
 | .int _,.str _,_,g=>by simp [toPy,PyData.eqv]
 | .int _,.tup _,_,g=>by simp [toPy,PyData.eqv]
 | .str _,.non,_,g=>by simp [toPy,PyData.eqv]
 | .str _,.int _,_,g=>by simp [toPy,PyData.eqv]
 | .str _,.tup _,_,g=>by simp [toPy,PyData.eqv]
 | .int _,.bl _,_,g=>nomatch g
 | .int _,.lst _,_,g=>nomatch g
 | .int _,.dct _ _,_,g=>nomatch g
 | .int _,.set _,_,g=>nomatch g
 | .int _,.ref _,_,g=>nomatch g
 | .str _,.bl _,_,g=>nomatch g
 | .str _,.lst _,_,g=>nomatch g
 | .str _,.dct _ _,_,g=>nomatch g
 | .str _,.set _,_,g=>nomatch g
 | .str _,.ref _,_,g=>nomatch g
 | .tup _,.non,_,_=>by simp [toPy,PyData.eqv]
 | .tup _,.int _,_,_=>by simp [toPy,PyData.eqv]
 | .tup _,.str _,_,_=>by simp [toPy,PyData.eqv]
 | .tup _,.bl _,_,g=>nomatch g
 | .tup _,.lst _,_,g=>nomatch g
 | .tup _,.dct _ _,_,g=>nomatch g
 | .tup _,.set _,_,g=>nomatch g
 | .tup _,.ref _,_,g=>nomatch g
 | .bl _,_,h,_=>nomatch h
 | .lst _,_,h,_=>nomatch h
 | .dct _ _,_,h,_=>nomatch h
 | .set _,_,h,_=>nomatch h
 | .ref _,_,h,_=>nomatch h
theorem NN:∀ {ds es:List D},GY ds=true->GY es=true->PyData.eqvAll (CA ds) (CA es)=decide (ds=es)
 | [],[],_,_=>by simp [CA,PyData.eqvAll]
 | [],_::_,_,_=>by simp [CA,PyData.eqvAll]
 | _::_,[],_,_=>by simp [CA,PyData.eqvAll]
 | d::ds,e::es,h,g=>by
  unfold GY at h g
  rw [Ab] at h g
  unfold CA PyData.eqvAll
  rw [Hn h.1 g.1,NN h.2 g.2]
  by_cases c:d=e<;>by_cases c':ds=es<;>simp [c,c']
end
theorem Ez {d:D}(h:En d=true):hsh d=true∧dpt d≤8:=by
 unfold En at h
 rw [Ab,Ae] at h
 exact h
structure Hd (h:Heap) (d:D) (u:Value):Prop where
 k:En d=true
 ok:(toPy d).canLay0=true
 rd:∃ as,Reads h u (toPy d) as
theorem IQ {X:Cx}{th:List Addr}{H:Hp}{pins:List (Addr×Obj)}{st:L2.St}{s:Shared}(I:L2.Inv X pins st H s){d:D}{v:V}{u:Value}(k:En d=true)(r:Rep X.z th H d v)(q:RelV v u):Hd s.heap d u:=by
 obtain ⟨as,h1,h2⟩:=Ft I d v u (G0 (Ez k).1) r q
 exact ⟨k,h2,as,h1⟩
section
variable {prog:Program} {w:World} {E:Value->Shared->Prop}
mutual
theorem UH:∀ (d:D) (u:Value) (as:List Addr) (A:Around) (s:Shared) (Q:Int->Shared->Prop),hsh d=true->Reads s.heap u (toPy d) as->A.units+dpt d<cLine->(∀ tk,Q (DK w d) { s with toks:=tk })->wpAny (model prog w) A (pyHash u) Q E s
 | .non,_,as,A,s,Q,_,x,hu,h=>by
  cases x
  exact PySem.W.pyHash_slot (T:="NoneType") rfl F.slot_NoneType_hash F.entry_NoneType_hash (F.args_NoneType_hash_1 _) (beq_builtin_none _) (.inr (by unfold dpt at hu;omega)) (Aa (Ac (Aa (wpAny_mkInt (Ac ⟨_,_,rfl,h _⟩)))))
 | .int i,_,as,A,s,Q,_,x,_,h=>by cases x;exact wpAny_pyHash_int (h _)
 | .str y,_,as,A,s,Q,_,x,_,h=>by cases x;exact wpAny_pyHash_str (h _)
 | .tup ds,_,as,A,s,Q,hk,x,hu,h=>by
  unfold toPy at x
  cases x with
  | @tuple a o vs n _ _ g1 g2 g3 hw =>
   unfold dpt at hu
   refine PySem.W.pyHash_slot (T:="tuple") ⟨_,g1,g2⟩ F.slot_tuple_hash F.entry_tuple_hash (F.args_tuple_hash_1 _) (beq_builtin_none _) (.inr (by omega)) ?_
   refine (?_:wpAny _ _ (Builtin.Tuple.tupleItemsOf (.ref a) >>= _) _ _ s)
   refine Aa (wpAny_tupleItemsOf g1 g3 (Aa ?_))
   rw [← Array.forIn_toList]
   refine Qb ds vs.toList as A.in1 s #[] _ (by unfold hsh at hk;exact hk) hw (by rw [Around.in1_units];omega) λtk b hb=>?_
   refine (?_:wpAny _ _ (retInt (Builtin.Tuple.tupleHashOf b.toList)) _ _ _)
   rw [hb]
   exact Aa (wpAny_mkInt (Ac ⟨_,_,rfl,h _⟩))
 | .bl _,_,_,_,_,_,h,_,_,_=>nomatch h
 | .lst _,_,_,_,_,_,h,_,_,_=>nomatch h
 | .dct _ _,_,_,_,_,_,h,_,_,_=>nomatch h
 | .set _,_,_,_,_,_,h,_,_,_=>nomatch h
 | .ref _,_,_,_,_,_,h,_,_,_=>nomatch h
theorem Qb:∀ (ds:List D) (vs:List Value) (as:List Addr) (A:Around) (s:Shared) (b:Array Int) (Q:Array Int->Shared->Prop),GY ds=true->ReadsAll s.heap vs (CA ds) as->A.units+Kw ds<cLine ->
  (∀ tk b',b'.toList=b.toList++EK w ds->Q b' { s with toks:=tk }) ->
  wpAny (model prog w) A (forIn vs b λx r=>do let h←pyHash x;pure PUnit.unit;pure (ForInStep.yield (r.push h))) Q E s
 | [],_,as,A,s,b,Q,_,x,_,h=>by unfold CA at x;cases x;exact Ac (h s.toks b (by simp [EK]))
 | d::ds,_,as,A,s,b,Q,hk,x,hu,h=>by
  unfold CA at x
  cases x with
  | cons x1 x2 =>
   unfold GY at hk
   rw [Ab] at hk
   unfold Kw at hu
   rw [BV]
   refine Aa (Aa (UH d _ _ A s _ hk.1 x1 (by omega) λtk=>Aa (Ac (Ac ?_))))
   exact Qb ds _ _ A { s with toks:=tk } _ Q hk.2 x2 (by omega) λtk' b' hb=>h tk' b' (by simp [hb,EK])
end
theorem Hd.hash {A:Around}{s:Shared}{d:D}{u:Value}{Q:Int->Shared->Prop}(x:Hd s.heap d u)(hu:A.units+8<cLine)(h:∀ tk,Q (DK w d) { s with toks:=tk }):wpAny (model prog w) A (pyHash u) Q E s:=by
 obtain ⟨as,r⟩:=x.rd
 have:=Ez x.k
 exact UH d u as A s Q this.1 r (by omega) h
theorem Hd.eq {A:Around}{s:Shared}{d e:D}{u v:Value}{Q:Bool->Shared->Prop}(x:Hd s.heap d u)(y:Hd s.heap e v)(hu:A.units+8<cLine)(h:Q (decide (d=e)) s):wpAny (model prog w) A (eqBool u v) Q E s:=by
 obtain ⟨as,r⟩:=x.rd
 obtain ⟨bs,r'⟩:=y.rd
 have k1:=Ez x.k
 have k2:=Ez y.k
 refine SeqAt.eqAt_reads _ _ A s u v as bs r r' x.ok y.ok (by rw [Jd k1.1,Jd k2.1];omega) prog w E Q ?_
 rw [Hn k1.1 k2.1]
 exact h
mutual
theorem Qs:∀ (n:Nat) (d:D) (u:Value) (as:List Addr) (A:Around) (s:Shared) (Q:Bool->Shared->Prop),hsh d=true->dpt d≤n->Reads s.heap u (toPy d) as->Q true s->wpAny (model prog w) A (eqIsQuiet n u) Q E s
 | n,.non,_,as,A,s,Q,_,_,x,h=>by cases x;rw [eqIsQuiet_byValue n rfl];exact Ac h
 | n,.int _,_,as,A,s,Q,_,_,x,h=>by cases x;rw [eqIsQuiet_byValue n rfl];exact Ac h
 | n,.str _,_,as,A,s,Q,_,_,x,h=>by cases x;rw [eqIsQuiet_byValue n rfl];exact Ac h
 | n,.tup ds,_,as,A,s,Q,hk,hn,x,h=>by
  unfold toPy at x
  cases x with
  | @tuple a o vs k _ _ g1 g2 g3 hw =>
   unfold dpt at hn
   obtain ⟨m,rfl⟩:∃ m,n=m+1:=⟨n-1,by omega⟩
   have hT:s.TypeIs (.ref a) "tuple":=⟨o,g1,g2⟩
   unfold eqIsQuiet
   refine Aa (wpAny_specialOf hT F.slot_tuple_eq.lookup ?_)
   refine (?_:wpAny _ _ (isInstance (.ref a) (.type "tuple") >>= _) _ _ s)
   refine Aa (B8 hT isSubtype_tuple_tuple ?_)
   simp only [Bool.not_true,AN,A5]
   refine Aa (Bj g1 g3 (Aa ?_))
   refine (?_:wpAny _ _ (forIn vs _ _) _ _ s)
   rw [← Array.forIn_toList]
   exact OG m ds vs.toList as A s _ (by unfold hsh at hk;exact hk) (by omega) hw (Ac h)
 | _,.bl _,_,_,_,_,_,h,_,_,_=>nomatch h
 | _,.lst _,_,_,_,_,_,h,_,_,_=>nomatch h
 | _,.dct _ _,_,_,_,_,_,h,_,_,_=>nomatch h
 | _,.set _,_,_,_,_,_,h,_,_,_=>nomatch h
 | _,.ref _,_,_,_,_,_,h,_,_,_=>nomatch h
theorem OG:∀ (m:Nat) (ds:List D) (vs:List Value) (as:List Addr) (A:Around) (s:Shared) (Q:Option Bool×PUnit->Shared->Prop),GY ds=true->Kw ds≤m->ReadsAll s.heap vs (CA ds) as->Q (none,PUnit.unit) s ->
  wpAny (model prog w) A (forIn vs ((none,PUnit.unit):Option Bool×PUnit) λy r=>do
    let q←eqIsQuiet m y
    if (!q)=true then pure (ForInStep.done (some false,PUnit.unit)) else pure (ForInStep.yield (none,PUnit.unit))) Q E s
 | m,[],_,as,A,s,Q,_,_,x,h=>by unfold CA at x;cases x;exact Ac h
 | m,d::ds,_,as,A,s,Q,hk,hn,x,h=>by
  unfold CA at x
  cases x with
  | cons x1 x2 =>
   unfold GY at hk
   rw [Ab] at hk
   unfold Kw at hn
   rw [BV]
   refine Aa (Aa (Qs m d _ _ A s _ hk.1 (by omega) x1 ?_))
   simp only [Bool.not_true,AN,A5]
   exact Ac (OG m ds _ _ A s Q hk.2 (by omega) x2 h)
end
theorem Hd.quiet {A:Around}{s:Shared}{d:D}{u:Value}{Q:Bool->Shared->Prop}(x:Hd s.heap d u)(h:Q true s):wpAny (model prog w) A (eqIsQuiet 8 u) Q E s:=by
 obtain ⟨as,r⟩:=x.rd
 have k:=Ez x.k
 exact Qs 8 d u as A s Q k.1 k.2 r h
end
noncomputable def EnK (w:World)(h:Heap)(k:D)(e:DictEntry):Prop:=e.hash=DK w k∧Hd h k e.key
theorem DD {α β:Type}{F:α->β->Prop}:∀ {xs:List α} {ys:List β},Paired F xs ys->∀ j:Nat,(∀ x,xs[j]? = some x->∃ y,ys[j]? = some y∧F x y)∧(∀ y,ys[j]? = some y->∃ x,xs[j]? = some x∧F x y)
 | _,_,.nil,j=>⟨λx e=>by simp at e,λy e=>by simp at e⟩
 | _,_,.cons r t,0=>⟨λx e=>by simp at e;subst e;exact ⟨_,rfl,r⟩,λy e=>by simp at e;subst e;exact ⟨_,rfl,r⟩⟩
 | _,_,.cons r t,j+1=>by simpa using DD t j
theorem Dw {α β:Type}{F:α->β->Prop}:∀ {xs:List α} {ys:List β},Paired F xs ys->xs.length=ys.length
 | _,_,.nil=>rfl
 | _,_,.cons _ t=>by simp [Dw t]
theorem Si {h:Heap}{k:D}{y:Str}{t:Tok}(x:Hd h k (.str y t)):k=.str y:=by
 obtain ⟨as,r⟩:=x.rd
 have hk:=(Ez x.k).1
 cases k<;>first|(cases hk;done)|(unfold toPy at r;cases r;done)|(unfold toPy at r;cases r;rfl)
theorem Xn {h:Heap}{k k':D}{u:Value}(x:Hd h k u)(y:Hd h k' u):k=k':=by
 obtain ⟨as,r⟩:=x.rd
 obtain ⟨bs,r'⟩:=y.rd
 have hk:=(Ez x.k).1
 have hk':=(Ez y.k).1
 have e:toPy k=toPy k':=SeqAt.Reads.unique _ _ _ _ _ x.ok r r'
 have:=Hn hk hk'
 rw [← e,Hn hk hk] at this
 simpa using this
theorem WA {ks:List D}(hn:ks.Nodup){i j:Nat}{k:D}(a:ks[i]? = some k)(b:ks[j]? = some k):i=j:=by
 obtain ⟨hi,ei⟩:=Af.mp a
 exact (List.getElem?_inj hi hn).mp (a.trans b.symm)
section
variable {prog:Program} {w:World} {A:Around} {E:Value->Shared->Prop} {s:Shared}
theorem HU {α:Type}{M:Model}{c:Prop} [Decidable c]{x y:Sem α}{Q:α->Shared->Prop}(h1:c->wpAny M A x Q E s)(h2:¬ c->wpAny M A y Q E s):wpAny M A (if c then x else y) Q E s:=by
 by_cases h:c
 ·rw [if_pos h];exact h1 h
 ·rw [if_neg h];exact h2 h
theorem Wj {k:D}{u:Value}{stored:List Value}{Q:Bool->Shared->Prop}(hk:Hd s.heap k u)(hst:∀ v∈stored,∃ k',Hd s.heap k' v)(h:Q false s):wpAny (model prog w) A (tableMayTell u stored) Q E s:=by
 unfold tableMayTell
 split
 ·exact Ac h
 ·refine Aa (hk.quiet ?_)
  simp only [Bool.not_true,AN,A5]
  refine Aa (wpAny_forIn_list _ (λrest r s'=>s'=s∧r=(none,PUnit.unit)∧∀ v∈rest,∃ k',Hd s.heap k' v) _ ?_ ?_ _ _ ⟨rfl,rfl,hst⟩)
  ·rintro x rest r s' ⟨rfl,rfl,hr⟩
   obtain ⟨k',hb⟩:=hr x List.mem_cons_self
   refine Aa (hb.quiet ?_)
   simp only [Bool.not_true,AN,A5]
   exact Ac ⟨rfl,rfl,λv hv=>hr v (Bq _ hv)⟩
  ·rintro r s' ⟨rfl,rfl,_⟩;exact Ac h
theorem Ls {a:Addr}{o:Obj}{es:Array DictEntry}{ep:Nat}{ks:List D}{k:D}{u:Value}{Q:Option Nat->Shared->Prop}(hu:A.units+8<cLine)(hk:Hd s.heap k u)(ho:s.heap.get? a=some o)(hd:o.data=.dict es ep)
  (he:Paired (EnK w s.heap) ks es.toList) (hn:ks.Nodup) (h0:k∉ks->Q none s) (h1:∀ j,ks[j]? = some k->Q (some j) s):wpAny (model prog w) A (dictFind a u (DK w k)) Q E s:=by
 have hat:∀ j e,es[j]? = some e->∃ k',ks[j]? = some k'∧EnK w s.heap k' e:=λj e q=>(DD he j).2 e (by rw [AB];exact q)
 have hto:∀ j k',ks[j]? = some k'->∃ e,es[j]? = some e∧EnK w s.heap k' e:=λj k' q=>by
  obtain ⟨e,e1,e2⟩:=(DD he j).1 k' q
  exact ⟨e,by rw [← AB];exact e1,e2⟩
 have hsz:es.size=ks.length:=by rw [Dw he,Array.length_toList]
 have hno:(∀ j,ks[j]?≠some k)->k∉ks:=λq z=>by obtain ⟨j,e⟩:=A9.mp z;exact q j e
 unfold dictFind
 try with_reducible refine AD ?_
 refine Aa (BR ho hd ?_)
 have hp:∀ j,ks[j]? = some k->(es[j]?.map (λe:DictEntry=>e.hash)==some (DK w k))=true:=λj q=>by
  obtain ⟨e,e1,e2,_⟩:=hto j k q
  rw [e1];simp [e2]
 have walk:wpAny (model prog w) A (dictWalkPlain a u (DK w k) es (placesWithHash es.size (λi=>es[i]?.map (λe:DictEntry=>e.hash)) (DK w k))) Q E s:=by
  unfold dictWalkPlain
  refine Aa (wpAny_forIn_list _ (λrest b s'=>s'=s∧b=(none,PUnit.unit)∧∃ i,rest=(List.range' i (es.size-i)).filter (λi=>es[i]?.map (λe:DictEntry=>e.hash)==some (DK w k))∧i≤es.size∧∀ j,j<i->ks[j]?≠some k) _ ?_ ?_ _ _
   ⟨rfl,rfl,0,by rw [placesWithHash,List.range_eq_range',Nat.sub_zero],AX _,λj z=>absurd z (Nat.not_lt_zero _)⟩)
  ·rintro x rest b s' ⟨rfl,rfl,i,hr,hi,hH⟩
   obtain ⟨hix,hxn,hpx,hskip,hrest⟩:=filter_range'_cons _ _ _ _ _ hr.symm
   have hlt:x<es.size:=by omega
   have ex:es[x]? = some es[x]:=As hlt
   obtain ⟨k',e1,e2,e3⟩:=hat x _ ex
   rw [ex] at hpx ⊢
   have hh:es[x].hash=DK w k:=by simpa using hpx
   have hh':(es[x].hash==DK w k)=true:=by simpa using hh
   have nx:∀ j,j<x->ks[j]?≠some k:=λj hj q=>by
    rcases Nat.lt_or_ge j i with z|z
    ·exact hH j z q
    ·have:=hskip j z hj;rw [hp j q] at this;cases this
   dsimp only
   rw [if_pos hh']
   refine Aa (BF ho hd (Aa (e3.eq hk hu (Aa (BF ho hd ?_)))))
   rw [if_neg (by simp)]
   by_cases c:k'=k
   ·rw [BE c]
    subst c
    exact Aa (Bf (Ac (Ac (h1 x e1))))
   ·rw [A1 c]
    refine Aa (Bf (Ac ⟨rfl,rfl,x+1,by rw [hrest];congr 2;omega,hlt,λj hj q=>?_⟩))
    rcases Nat.lt_or_ge j x with z|z
    ·exact nx j z q
    ·have:j=x:=by omega
     subst this
     rw [e1] at q
     exact c (AE q)
  ·rintro b s' ⟨rfl,rfl,i,hr,hi,hH⟩
   refine Ac (h0 (hno λj q=>?_))
   rcases Nat.lt_or_ge j i with z|z
   ·exact hH j z q
   ·have hj:j<es.size:=by rw [hsz];exact (Af.mp q).1
    have:=List.filter_eq_nil_iff.mp hr.symm j (List.mem_range'_1.mpr ⟨z,by omega⟩)
    exact this (hp j q)
 have hst:∀ v∈(placesWithHash es.size (λi=>es[i]?.map (λe:DictEntry=>e.hash)) (DK w k)).filterMap (λi=>es[i]?.map (λe:DictEntry=>e.key)),∃ k',Hd s.heap k' v:=λv hv=>by
  obtain ⟨i,_,hi⟩:=List.mem_filterMap.mp hv
  cases ei:es[i]? with
  | none=>rw [ei] at hi;cases hi
  | some e =>
   rw [ei] at hi
   obtain rfl:e.key=v:=by simpa using hi
   obtain ⟨k',_,_,q⟩:=hat i e ei
   exact ⟨k',q⟩
 have hany:∀ b,u=.ref b->¬ (es.any λe=>e.key==u&&e.hash != DK w k)=true:=λb hb=>by
  rw [← Array.any_toList,List.any_eq_true]
  rintro ⟨e,hin,hc⟩
  obtain ⟨j,ej⟩:=A9.mp hin
  obtain ⟨k',_,q1,q2⟩:=hat j e (by rw [← AB];exact ej)
  rw [Ab,bne_iff_ne] at hc
  have ek:e.key=u:=eq_of_beq hc.1
  rw [ek] at q2
  exact hc.2 (by rw [q1,Xn q2 hk])
 have c4:u=.none∨(∃ i t,u=.int i t)∨(∃ x t,u=.str x t)∨∃ b,u=.ref b:=by
  obtain ⟨as,r⟩:=hk.rd
  have:=(Ez hk.k).1
  cases k<;>first|(cases this;done)|(unfold toPy at r;cases r;simp)
 have str:∀ x t,u=.str x t->(es.all λe=>isExactStrKey e.key)=true->wpAny (model prog w) A (foundByValue a u es x) Q E s:=λx t hux hall=>by
  subst hux
  have kx:=Si hk
  subst kx
  have hiff:∀ e∈es.toList,∀ k',Hd s.heap k' e.key->(e.key.isStr x=true ↔ k'=.str x):=λe hm k' q=>by
   rw [← Array.all_toList,Aq] at hall
   have:=hall e hm
   cases ek:e.key<;>rw [ek] at this q<;>first|(cases this;done)|skip
   rename_i y ty
   rw [Si q]
   show (y==x)=true ↔ _
   simp
  have hidx:es.findIdx? (λe=>e.key.isStr x)=es.toList.findIdx? (λe=>e.key.isStr x):=by cases es;simp
  unfold foundByValue
  rw [hidx]
  cases hr:es.toList.findIdx? (λe=>e.key.isStr x) with
  | none =>
   refine Ac (h0 (hno λj q=>?_))
   obtain ⟨e,e1,e2,e3⟩:=hto j _ q
   have hm:e∈es.toList:=Ar (by rw [AB];exact e1)
   have:=List.findIdx?_eq_none_iff.mp hr e hm
   rw [(hiff e hm _ e3).mpr rfl] at this
   cases this
  | some j =>
   obtain ⟨hj,hpj,_⟩:=List.findIdx?_eq_some_iff_getElem.mp hr
   have he':es[j]? = some es.toList[j]:=by rw [← AB];exact Ao hj
   obtain ⟨k',e1,e2,e3⟩:=hat j _ he'
   have kk:=(hiff _ (B7 hj) _ e3).mp hpj
   subst kk
   dsimp only
   rw [he']
   dsimp only
   refine Aa (BF ho hd (Aa (e3.eq hk hu (Aa (BF ho hd ?_)))))
   rw [if_neg (by simp),BE rfl]
   exact Aa (Bf (Ac (h1 j e1)))
 obtain ⟨u',hu'⟩:∃ u',u'=u:=⟨u,rfl⟩
 have hA:∀ v,eqBool v u=eqBool v u':=λv=>by rw [hu']
 have hB:keyPart u=keyPart u':=by rw [hu']
 have hk':Hd s.heap k u':=by rw [hu'];exact hk
 simp only [hA,hB]
 clear hA hB hu'
 refine (λtail=>?main) (?tail:wpAny (model prog w) A ?T Q E s)
 case main =>
  rcases c4 with rfl|⟨i,t,rfl⟩|⟨x,t,rfl⟩|⟨b,rfl⟩
  case' inl=>refine HU (λ_=>walk) λ_=>?_
  case' inr.inl=>refine HU (λ_=>walk) λ_=>?_
  case' inr.inr.inl=>refine HU (λhall=>str x t rfl hall) λ_=>HU (λ_=>walk) λ_=>?_
  case' inr.inr.inr=>refine HU (λ_=>walk) λ_=>?_
  case' inr.inr.inr=>refine HU (λz=>absurd z (hany b rfl)) λ_=>?_
  all_goals
   refine HU (λ_=>Aa (Ac ?_)) (λ_=>Aa (Wj hk hst ?_))<;>(
    refine HU (λz=>absurd z (by simp)) λ_=>?_
    exact tail)
 case tail =>
  refine Aa (wpAny_forIn_list _ (λrest b s'=>s'=s∧∃ i hit,b=(none,hit)∧rest=(List.range' i (es.size-i)).filter (λi=>es[i]?.map (λe:DictEntry=>e.hash)==some (DK w k))∧i≤es.size ∧
    ((hit=none∧∀ j,j<i->ks[j]?≠some k)∨∃ j,hit=some j∧j<i∧ks[j]? = some k)) _ ?_ ?_ _ _
   ⟨rfl,0,none,rfl,by rw [placesWithHash,List.range_eq_range',Nat.sub_zero],AX _,.inl ⟨rfl,λj z=>absurd z (Nat.not_lt_zero _)⟩⟩)
  ·rintro x rest b s' ⟨rfl,i,hit,rfl,hr,hi,hH⟩
   obtain ⟨hix,hxn,hpx,hskip,hrest⟩:=filter_range'_cons _ _ _ _ _ hr.symm
   have hlt:x<es.size:=by omega
   have hrest':rest=(List.range' (x+1) (es.size-(x+1))).filter (λi=>es[i]?.map (λe:DictEntry=>e.hash)==some (DK w k)):=by rw [hrest];congr 2;omega
   have ex:es[x]? = some es[x]:=As hlt
   obtain ⟨k',e1,e2,e3⟩:=hat x _ ex
   rw [ex] at hpx ⊢
   have hh:es[x].hash=DK w k:=by simpa using hpx
   have hh':(es[x].hash==DK w k)=true:=by simpa using hh
   have hx:(hit=none∧∀ j,j<x->ks[j]?≠some k)∨∃ j,hit=some j∧j<x∧ks[j]? = some k:=by
    rcases hH with ⟨z0,hno'⟩|⟨j,z1,hji,hj⟩
    ·refine .inl ⟨z0,λj hj q=>?_⟩
     rcases Nat.lt_or_ge j i with z|z
     ·exact hno' j z q
     ·have:=hskip j z hj;rw [hp j q] at this;cases this
    ·exact .inr ⟨j,z1,by omega,hj⟩
   dsimp only
   rw [if_pos hh']
   refine Aa (BF ho hd (Aa (e3.eq hk' hu (Aa (BF ho hd ?_)))))
   rw [if_neg (by simp)]
   by_cases c:k'=k
   ·rw [BE c]
    subst c
    rcases hx with ⟨rfl,_⟩|⟨j,_,hjx,hj⟩
    ·simp only [Option.isSome_none,AN,A5,if_true]
     refine Aa (Bf ?_)
     split
     ·exact Ac (Ac (h1 x e1))
     ·exact Ac ⟨rfl,x+1,some x,rfl,hrest',hlt,.inr ⟨x,rfl,AS x,e1⟩⟩
    ·exact absurd (WA hn hj e1) (by omega)
   ·rw [A1 c]
    simp only [AN,A5,Bool.false_and]
    refine Aa (Bf (Ac ⟨rfl,x+1,hit,rfl,hrest',hlt,?_⟩))
    rcases hx with ⟨z0,hno'⟩|⟨j,z1,hji,hj⟩
    ·refine .inl ⟨z0,λj hj q=>?_⟩
     rcases Nat.lt_or_ge j x with z|z
     ·exact hno' j z q
     ·have:j=x:=by omega
      subst this
      rw [e1] at q
      exact c (AE q)
    ·exact .inr ⟨j,z1,by omega,hj⟩
  ·rintro b s' ⟨rfl,i,hit,rfl,hr,hi,hH⟩
   rcases hH with ⟨rfl,hno'⟩|⟨j,rfl,_,hj⟩
   ·refine Ac (h0 (hno λj q=>?_))
    rcases Nat.lt_or_ge j i with z|z
    ·exact hno' j z q
    ·have hj:j<es.size:=by rw [hsz];exact (Af.mp q).1
     exact List.filter_eq_nil_iff.mp hr.symm j (List.mem_range'_1.mpr ⟨z,by omega⟩) (hp j q)
   ·exact Ac (h1 j hj)
end
noncomputable def FI (k:D):List D->List D->Option D
 | k'::ks,d::ds=>if k'=k then some d else FI k ks ds
 | _,_=>none
noncomputable def N7 (k v:D):List D->List D->List D
 | k'::ks,d::ds=>(if k'=k then v else d)::N7 k v ks ds
 | _,ds=>ds
noncomputable def EM (k v:D)(ks ds:List D):List D×List D:=if k∈ks then (ks,N7 k v ks ds) else (ks++[k],ds++[v])
theorem II {k:D}:∀ {ks ds:List D},k∉ks->FI k ks ds=none
 | [],_,_=>rfl
 | _::_,[],_=>rfl
 | k'::ks,d::ds,h=>by
  rw [Am,not_or] at h
  rw [FI,if_neg (λe=>h.1 e.symm),II h.2]
theorem KC {k:D}:∀ {ks ds:List D} {j:Nat},ks.Nodup->ks[j]? = some k->FI k ks ds=ds[j]?
 | [],_,_,_,e=>by simp at e
 | _::_,[],_,_,_=>by simp [FI]
 | k'::ks,d::ds,0,n,e=>by simp at e;subst e;simp [FI]
 | k'::ks,d::ds,j+1,n,e=>by
  rw [Bn] at n
  simp at e
  have:k'≠k:=λz=>n.1 (by rw [z];exact Ar e)
  rw [FI,if_neg this,KC n.2 e]
  rfl
theorem Oy {k v:D}:∀ {ks ds:List D},k∉ks->N7 k v ks ds=ds
 | [],_,_=>rfl
 | _::_,[],_=>rfl
 | k'::ks,d::ds,h=>by
  rw [Am,not_or] at h
  rw [N7,if_neg (λe=>h.1 e.symm),Oy h.2]
theorem KP {k v:D}:∀ {ks ds:List D} {j:Nat},ks.Nodup->ks[j]? = some k->N7 k v ks ds=ds.set j v
 | [],_,_,_,e=>by simp at e
 | _::_,[],_,_,_=>by simp [N7]
 | k'::ks,d::ds,0,n,e=>by
  simp at e
  subst e
  rw [Bn] at n
  rw [N7,if_pos rfl,Oy n.1]
  rfl
 | k'::ks,d::ds,j+1,n,e=>by
  rw [Bn] at n
  simp at e
  have:k'≠k:=λz=>n.1 (by rw [z];exact Ar e)
  rw [N7,if_neg this,KP n.2 e]
  rfl
noncomputable def JW (K:Zc)(th:List Addr)(H:Hp)(a:Addr)(ks ds:List D):Prop:=∃ xs,H a=some (Hw a xs)∧xs.map (·.1)=EK K.w ks∧RepL K th H ks (xs.map (·.2.1))∧RepL K th H ds (xs.map (·.2.2))∧KeysOk ks
noncomputable def FC (mu:Sto):D->Option (List D×List D)
 | .dct ks ds=>some (ks,ds)
 | .ref k=>match mu[k]? with
  | some (.dct ks ds)=>some (ks,ds)
  | _=>none
 | _=>none
section
variable {X:Cx} {K:Zc} {th:List Addr} {mu:Sto} {H:Hp} {pins:List (Addr×Obj)} {st:L2.St} {s:Shared} {A:Around} {E:Value->Shared->Prop}
theorem FE (so:StoOk K th mu H){d:D}{p:List D×List D}{v:V}(h:FC mu d=some p)(r:Rep K th H d v):∃ a,v=.ref a∧JW K th H a p.1 p.2:=by
 unfold FC at h
 split at h
 ·cases h;unfold Rep at r;obtain ⟨a,xs,rfl,_,h1⟩:=r;exact ⟨a,rfl,xs,h1⟩
 ·split at h
  ·rename_i k _ ks ds e
   cases h
   unfold Rep at r
   obtain ⟨a,rfl,ha⟩:=r
   exact ⟨a,rfl,so.at' k a _ ha e⟩
  ·cases h
 ·cases h
structure DcO (X:Cx) (th:List Addr) (H:Hp) (s:Shared) (a:Addr) (ks ds:List D) (xs:List (Int×V×V)) (o:Obj) (es:Array DictEntry) (ep:Nat):Prop where
 ns:(a==sysModules)=false
 at':s.heap.get? a=some o
 ex:o.ExactDict
 dt:o.data=.dict es ep
 pr:Paired (λ(x:Int×V×V) (e:DictEntry)=>e.hash=x.1∧RelV x.2.1 e.key∧RelV x.2.2 e.val) xs es.toList
 en:Paired (EnK X.w s.heap) ks es.toList
 xl:xs.length=ks.length
 dl:ds.length=ks.length
theorem JI {α β:Type}{F:α->β->Prop}:∀ {xs:List α} {ys:List β},xs.length=ys.length->(∀ (j:Nat) x y,xs[j]? = some x->ys[j]? = some y->F x y)->Paired F xs ys
 | [],[],_,_=>.nil
 | [],_::_,h,_=>by simp at h
 | _::_,[],h,_=>by simp at h
 | x::xs,y::ys,h,f=>.cons (f 0 x y rfl rfl) (JI (by simpa using h) λj a b e1 e2=>f (j+1) a b (by simpa using e1) (by simpa using e2))
theorem ID (I:L2.Inv X pins st H s){a:Addr}{ks ds:List D}(h:JW X.z th H a ks ds):∃ xs o es ep,H a=some (Hw a xs)∧DcO X th H s a ks ds xs o es ep:=by
 obtain ⟨xs,h1,h2,h3,h4,h5⟩:=h
 obtain ⟨⟨z,o,es,ep,g1,g2,g3,g4⟩,_⟩:=(show ObjOk X.prog X.w H s.heap a (Hw a xs) from I.hok a _ h1)
 have xl:xs.length=ks.length:=by have:=h3.len;simpa using this
 refine ⟨xs,o,es,ep,h1,z,g1,g2,g3,g4,?_,xl,by have:=h4.len;rw [Ag] at this;omega⟩
 refine JI (by rw [← Dw g4,xl]) λj k e e1 e2=>?_
 obtain ⟨x,q1,q2,q3,q4⟩:=(DD g4 j).2 e e2
 have hh:(xs.map (·.1))[j]? = (EK X.w ks)[j]?:=by rw [h2]
 rw [Ey,Av,Av,q1,e1] at hh
 obtain ⟨v,v1,v2⟩:=h3.get e1
 rw [Av,q1] at v1
 have v1':x.2.1=v:=by simpa using v1
 refine ⟨by rw [q2];simpa using hh,IQ I (h5.ok k (Ar e1)) v2 (by rw [← v1'];exact q3)⟩
theorem YG (I:L2.Inv X pins st H s){a:Addr}{ks ds:List D}(h:JW X.z th H a ks ds){k:D}{u:Value}(hk:Hd s.heap k u)(hu:A.units+8<cLine){Q:Option Value->Shared->Prop}
  (q0:FI k ks ds=none->∀ tk,Q none { s with toks:=tk }) (q1:∀ d v r,FI k ks ds=some d->Rep X.z th H d v->RelV v r->∀ tk,Q (some r) { s with toks:=tk }):wpAny (model X.prog X.w) A (dictGet a u) Q E s:=by
 obtain ⟨xs,o,es,ep,h1,g⟩:=ID I h
 obtain ⟨xs',h1',h2,h3,h4,h5⟩:=id h
 unfold dictGet
 refine AD (Aa (hk.hash hu λtk=>Aa (Ls (s:={ s with toks:=tk }) hu hk g.at' g.dt g.en h5.nd (λz=>Ac (q0 (II z) tk)) λj ej=>?_)))
 refine Aa (BR (s:={ s with toks:=tk }) g.at' g.dt ?_)
 obtain ⟨e,e1,e2⟩:=(DD g.en j).1 k ej
 rw [AB] at e1
 rw [e1]
 obtain ⟨⟨z',o',es',ep',g1,g2,g3,g4⟩,_⟩:=(show ObjOk X.prog X.w H s.heap a (Hw a xs') from I.hok a _ h1')
 have g1':=g.at'
 rw [g1] at g1'
 cases g1'
 have g3':=g.dt
 rw [g3] at g3'
 cases g3'
 obtain ⟨x,x1,x2,x3,x4⟩:=(DD g4 j).2 e (by rw [AB];exact e1)
 have vj:(xs'.map (·.2.2))[j]? = some x.2.2:=by rw [Av,x1];rfl
 obtain ⟨d,d1,d2⟩:=h4.getV vj
 exact Ac (q1 d _ _ (by rw [KC h5.nd ej];exact d1) d2 x4 tk)
theorem Ii {α β:Type}{F:α->β->Prop}:∀ {xs:List α} {ys:List β} (j:Nat) {x:α} {y:β},Paired F xs ys->F x y->Paired F (xs.set j x) (ys.set j y)
 | _,_,_,_,_,.nil,_=>.nil
 | _,_,0,_,_,.cons _ t,f=>.cons f t
 | _,_,j+1,_,_,.cons r t,f=>.cons r (Ii j t f)
theorem G9 {α β:Type}{F:α->β->Prop}:∀ {xs xs':List α} {ys ys':List β},Paired F xs ys->Paired F xs' ys'->Paired F (xs++xs') (ys++ys')
 | _,_,_,_,.nil,t=>t
 | _,_,_,_,.cons r t,t'=>.cons r (G9 t t')
theorem Yg (I:L2.Inv X pins st H s){a:Addr}{ks ds:List D}(h:JW X.z th H a ks ds)(ext:∀ xs,Ext th H th (upd H a (Hw a xs)))(so:StoOk X.z th mu H){k v:D}{kv vv:V}{u r:Value}(hk:En k=true)(rk:Rep X.z th H k kv)(ru:RelV kv u)(rv:Rep X.z th H v vv)(rr:RelV vv r)(lt:ks.length<sizeLine)(hu:A.units+8<cLine)
  {Q:Unit->Shared->Prop} (q:∀ s' xs',L2.Inv X pins st (upd H a (Hw a xs')) s'->JW X.z th (upd H a (Hw a xs')) a (EM k v ks ds).1 (EM k v ks ds).2->Q () s'):wpAny (model X.prog X.w) A (dictSet a u r) Q E s:=by
 have hd:=IQ I hk rk ru
 obtain ⟨xs',h1',h2,h3,h4,h5⟩:=id h
 obtain ⟨⟨z',o,es,ep,g1,g2,g3,g4⟩,_⟩:=(show ObjOk X.prog X.w H s.heap a (Hw a xs') from I.hok a _ h1')
 obtain ⟨xs,o',es',ep',h1,g⟩:=ID I h
 have g1':=g.at'
 rw [g1] at g1'
 cases g1'
 have g3':=g.dt
 rw [g3] at g3'
 cases g3'
 have mu1:Mut (H a):=by rw [h1'];exact True.intro
 unfold dictSet
 refine AD (Aa (hd.hash hu λtk=>?_))
 unfold dictSetHashed
 refine AD (Aa (Ls (s:={ s with toks:=tk }) hu hd g1 g3 g.en h5.nd (λz=>?_) λj ej=>?_))
 ·have hz0:es.size≤sizeLine:=by rw [← Array.length_toList,← Dw g.en];omega
  refine Aa (Bf (wpAny_updateDictKeys (s:={ s with toks:=tk }) g1 g3 (hz:=hz0) ?_))
  have e1:(EM k v ks ds).1=ks++[k]:=by unfold EM;rw [if_neg z]
  have e2:(EM k v ks ds).2=ds++[v]:=by unfold EM;rw [if_neg z]
  have so1:=AH (Obj.mapDictKeys (·.push ⟨DK X.w k,u,r⟩)) g1 (B0 (Obj.data_mapDictKeys g3 _))
  refine q _ (xs'++[(DK X.w k,kv,vv)]) (I.write (x:=a) (e:=a) (t':=tk) mu1 (.inl rfl) (λb ob hb e=>((Aw ..).2 b hb).trans e) ⟨_,so1⟩ (NC ⟨z',_,_,ep+1,so1,g2.mapDictKeys _,Obj.data_mapDictKeys g3 _,?_⟩)) ?_
  ·rw [BQ]
   exact G9 g4 (.cons ⟨rfl,ru,rr⟩ .nil)
  ·rw [e1,e2]
   have ex:=ext (xs'++[(DK X.w k,kv,vv)])
   refine ⟨_,El,?_,?_,?_,?_⟩
   ·rw [AV,h2,Ey,Ey,AV];rfl
   ·rw [AV];exact (h3.ext ex so.out).app (.cons (rk.ext ex so.out) .nil)
   ·rw [AV];exact (h4.ext ex so.out).app (.cons (rv.ext ex so.out) .nil)
   ·refine ⟨by rw [Az];exact lt,?_,λk' hk'=>?_⟩
    ·refine Bv.mpr ⟨h5.nd,by simp,λx hx y hy=>?_⟩
     rw [An.mp hy]
     exact λe=>z (e▸hx)
    ·rcases AR.mp hk' with w'|w'
     ·exact h5.ok k' w'
     ·rw [An.mp w'];exact hk
 ·have mem:k∈ks:=Ar ej
  have e1:(EM k v ks ds).1=ks:=by unfold EM;rw [if_pos mem]
  have e2:(EM k v ks ds).2=ds.set j v:=by unfold EM;rw [if_pos mem];exact KP h5.nd ej
  have hj:j<xs'.length:=by
   have:=(Af.mp ej).1
   have l2:=h3.len
   rw [Ag] at l2
   omega
  have hje:j<es.size:=by rw [← Array.length_toList,← Dw g4];exact hj
  obtain ⟨y,y1,y2,y3,y4⟩:=(DD g4 j).1 xs'[j] (Ao hj)
  rw [AB] at y1
  have ye:es[j]=y:=by rw [As hje] at y1;exact AE y1
  refine Aa (Bf (Aa (wpAny_updateDict (s:={ s with toks:=tk }) g1 g3 (wpAny_point ?_))))
  have so1:=AH (Obj.mapDict (·.modify j λe=>{ e with val:=r })) g1 (B0 (Obj.data_mapDict g3 _))
  refine q _ (xs'.set j (xs'[j].1,xs'[j].2.1,vv)) (I.write (x:=a) (e:=a) (t':=tk) mu1 (.inl rfl) (λb ob hb e=>((Aw ..).2 b hb).trans e) ⟨_,so1⟩ (NC ⟨z',_,_,ep,so1,g2.mapDict _,Obj.data_mapDict g3 _,?_⟩)) ?_
  ·have em:(es.modify j λe=>{ e with val:=r }).toList=es.toList.set j { y with val:=r }:=by
    have yl:es.toList[j]? = some y:=by rw [AB];exact y1
    rw [Array.toList_modify]
    refine A7 λi=>?_
    rw [List.getElem?_modify]
    by_cases c:j=i
    ·subst c
     rw [yl,BD (by simpa using hje)]
     simp
    ·rw [AG c]
     simp [c]
   rw [em]
   exact Ii j g4 ⟨y2,y3,rr⟩
  ·rw [e1,e2]
   have ex:=ext (xs'.set j (xs'[j].1,xs'[j].2.1,vv))
   refine ⟨_,El,?_,?_,?_,h5⟩
   ·rw [← h2,List.map_set]
    refine A7 λi=>?_
    by_cases c:i=j
    ·subst c;simp [hj]
    ·rw [AG (Ne.symm c)]
   ·have:(xs'.set j (xs'[j].1,xs'[j].2.1,vv)).map (·.2.1)=xs'.map (·.2.1):=by
     rw [List.map_set]
     refine A7 λi=>?_
     by_cases c:i=j
     ·subst c;simp [hj]
     ·rw [AG (Ne.symm c)]
    rw [this]
    exact h3.ext ex so.out
   ·rw [List.map_set]
    exact (h4.ext ex so.out).setAt j (rv.ext ex so.out)
theorem M3 (I:L2.Inv X pins st H s){a:Addr}{ks ds:List D}(h:JW X.z th H a ks ds){k d:D}{u:Value}(hk:Hd s.heap k u)(e:FI k ks ds=some d):∃ v r,Rep X.z th H d v∧RelV v r ∧
  ∀ {A:Around} {E:Value->Shared->Prop} {Q:Option Value->Shared->Prop},A.units+8<cLine->(∀ tk,Q (some r) { s with toks:=tk })->wpAny (model X.prog X.w) A (dictGet a u) Q E s:=by
 obtain ⟨xs',h1',h2,h3,h4,h5⟩:=id h
 obtain ⟨xs,o,es,ep,h1,g⟩:=ID I h
 obtain ⟨⟨z',o',es',ep',g1,g2,g3,g4⟩,_⟩:=(show ObjOk X.prog X.w H s.heap a (Hw a xs') from I.hok a _ h1')
 have g1':=g.at'
 rw [g1] at g1'
 cases g1'
 have g3':=g.dt
 rw [g3] at g3'
 cases g3'
 have mem:k∈ks:=by
  refine Classical.byContradiction λz=>?_
  rw [II z] at e
  cases e
 obtain ⟨j,ej⟩:=A9.mp mem
 rw [KC h5.nd ej] at e
 obtain ⟨v,v1,v2⟩:=h4.get e
 obtain ⟨en,e1,e2⟩:=(DD g.en j).1 k ej
 obtain ⟨x,x1,x2,x3,x4⟩:=(DD g4 j).2 en e1
 rw [Av,x1] at v1
 have v1':x.2.2=v:=by simpa using v1
 rw [AB] at e1
 refine ⟨v,en.val,v2,v1'▸x4,λhu q=>?_⟩
 unfold dictGet
 refine AD (Aa (hk.hash hu λtk=>Aa (Ls (s:={ s with toks:=tk }) hu hk g1 g3 g.en h5.nd (λz=>absurd mem z) λj' ej'=>?_)))
 cases WA h5.nd ej ej'
 refine Aa (BR (s:={ s with toks:=tk }) g1 g3 ?_)
 rw [e1]
 exact Ac (q tk)
theorem Nz (I:L2.Inv X pins st H s){a:Addr}{ks ds:List D}(h:JW X.z th H a ks ds){k:D}{u:Value}(hk:Hd s.heap k u)(e:FI k ks ds=none){Q:Option Value->Shared->Prop}(hu:A.units+8<cLine)(q:∀ tk,Q none { s with toks:=tk }):wpAny (model X.prog X.w) A (dictGet a u) Q E s:=
 YG I h hk hu (λ_=>q) λd v r e'=>by rw [e] at e';cases e'
theorem Qj (I:L2.Inv X pins st H s){a:Addr}{ks ds:List D}(h:JW X.z th H a ks ds):s.TypeIs (.ref a) "dict"∧(a==sysModules)=false∧∃ o,s.heap.get? a=some o∧o.dict=none:=by
 obtain ⟨xs,o,es,ep,h1,g⟩:=ID I h
 exact ⟨⟨o,g.at',g.ex.1⟩,g.ns,o,g.at',g.ex.2.1⟩
theorem UC {k:D}{ks ds:List D}(n:ks.Nodup)(l:ds.length=ks.length):(FI k ks ds).isSome=decide (k∈ks):=by
 by_cases c:k∈ks
 ·obtain ⟨j,ej⟩:=A9.mp c
  rw [KC n ej,BE c]
  have:=(Af.mp ej).1
  rw [Ao (by omega)]
  rfl
 ·rw [II c,A1 c];rfl
theorem Uw {a:Addr}{ks ds:List D}(h:JW K th H a ks ds):ds.length=ks.length∧KeysOk ks:=by
 obtain ⟨xs,_,_,h3,h4,h5⟩:=h
 have a:=h3.len
 have b:=h4.len
 rw [Ag] at a b
 exact ⟨by omega,h5⟩
noncomputable def ixC (d e:D)(mu:Sto):Rs D:=match FC mu d with
 | some p=>if En e=true then (FI e p.1 p.2).map λv=>(v,mu) else none
 | none=>none
theorem VD {d e:D}{r:D×Sto}(h:ixC d e mu=some r):∃ p,FC mu d=some p∧En e=true∧∃ v,FI e p.1 p.2=some v∧r=(v,mu):=by
 unfold ixC at h
 split at h
 ·rename_i p e1
  split at h
  ·rename_i c
   cases q:FI e p.1 p.2 with
   | none=>rw [q] at h;cases h
   | some v=>rw [q] at h;cases h;exact ⟨p,e1,c,v,q,rfl⟩
  ·cases h
 ·cases h
theorem Aa3 (hu:X.A.units+64<cLine):IxR X (r2 X.z ixC):=by
 intro value slice pins s st H x y v u Q I rx ry h hs
 obtain ⟨th,mu,d,e,so,r1,r2,t⟩:=h
 obtain ⟨a0,mu0,e0,_⟩:=id t
 obtain ⟨p,e1,hk,w',e2,er⟩:=VD e0
 rw [e0] at t
 cases er
 obtain ⟨a,rfl,dc⟩:=FE so e1 r1
 cases rx
 obtain ⟨v',r',q1,q2,q3⟩:=M3 I dc (IQ I hk r2 ry) e2
 obtain ⟨ty,_⟩:=Qj I dc
 refine subscriptTail_builtinR (x:=r') ty slot_dict_getitem.lookup ?_ hs
 unfold getItem
 refine AD (Aa (wpAny_sequenceKey ty (by decide) (Aa (AK (name:=Str.ofString "__getitem__") ty slot_dict_getitem (AM slot_dict_getitem ty entry_dict_getitem ?_ (args_dict_getitem _ _))))))
 refine (?_:wpAny _ _ (dictGet a u >>= _) _ _ s)
 exact Aa (q3 (by rw [Around.in1_units];omega) λtk=>Ac ⟨r',rfl,Ac ⟨rfl,v',H,I.tok _,q2,t.ret so _ q1⟩⟩)
theorem IxR.or {g g':D->D->Sto->Rs D}(h:IxR X (r2 X.z g))(h':IxR X (r2 X.z g')):IxR X (r2 X.z λd e mu=>match g d e mu with|some r=>some r|none=>g' d e mu):=by
 intro value slice pins s st H x y v u Q I rx ry q hs
 obtain ⟨th,mu,d,e,so,r1,r2,t⟩:=q
 dsimp only at t
 cases c:g d e mu with
 | some r=>rw [c] at t;exact h value slice pins s st H x y v u Q I rx ry ⟨th,mu,d,e,so,r1,r2,by rw [c];exact t⟩ hs
 | none=>rw [c] at t;exact h' value slice pins s st H x y v u Q I rx ry ⟨th,mu,d,e,so,r1,r2,t⟩ hs
noncomputable def ixG (d e:D)(mu:Sto):Rs D:=match ixD d e mu with
 | some r=>some r
 | none=>ixC d e mu
theorem Di (hu:X.A.units+64<cLine):IxR X (r2 X.z ixG):=IxR.or Abj (Aa3 hu)
noncomputable def inC (neg:Bool)(d c:D)(mu:Sto):Rs D:=match FC mu c with
 | some p=>if En d=true then some (.bl (decide (d∈p.1) != neg),mu) else none
 | none=>none
theorem QH {neg:Bool}{d e:D}{r:D×Sto}(h:inC neg d e mu=some r):∃ p,FC mu e=some p∧En d=true∧r=(.bl (decide (d∈p.1) != neg),mu):=by
 unfold inC at h
 split at h
 ·rename_i p e1
  split at h
  ·rename_i c;cases h;exact ⟨p,e1,c,rfl⟩
  ·cases h
 ·cases h
theorem WQ (hu:X.A.units+64<cLine)(I:L2.Inv X pins st H s){a:Addr}{ks ds:List D}(dc:JW X.z th H a ks ds){d:D}{u:Value}(hk:Hd s.heap d u){Q:Bool->Shared->Prop}(q:∀ tk,Q (decide (d∈ks)) { s with toks:=tk }):wpAny (model X.prog X.w) X.A (contains (.ref a) u) Q E s:=by
 obtain ⟨ty,ns,_⟩:=Qj I dc
 obtain ⟨l,ko⟩:=Uw dc
 have gm:=UC (k:=d) ko.nd l
 unfold contains
 refine AD (Aa (wpAny_specialOf ty slot_dict_contains.lookup ?_))
 refine (?_:wpAny _ _ (if (some (Value.builtin "dict.__contains__")==some Value.none)=true then _ else _) _ E s)
 rw [if_neg (by rw [beq_builtin_none];exact AF)]
 refine Aa (wpAny_callSpecialUnlessNone?_slot (name:=Str.ofString "__contains__") ty slot_dict_contains (AM slot_dict_contains ty entry_dict_contains ?_ (args_dict_contains _ _)))
 refine (?_:wpAny _ _ (dictGet a u >>= _) _ _ s)
 refine Aa ?_
 have hu':X.A.in1.units+8<cLine:=by rw [Around.in1_units];omega
 cases c:FI d ks ds with
 | some v =>
  rw [c] at gm
  obtain ⟨v',r',q1,q2,q3⟩:=M3 I dc hk c
  refine q3 hu' λtk=>?_
  refine (?_:wpAny _ _ (ret (.bool true)) _ _ _)
  exact Ac ⟨_,rfl,Bu (by rw [← gm] at q;exact q tk)⟩
 | none =>
  rw [c] at gm
  refine Nz I dc hk c hu' λtk=>?_
  refine (?_:wpAny _ _ (Builtin.Dict.pendingKey? a u >>= _) _ _ _)
  exact Aa (wpAny_pendingKey_other ns (Ac ⟨_,rfl,Bu (by rw [← gm] at q;exact q tk)⟩))
theorem Xz (hu:X.A.units+64<cLine):OpV X (compareOp .In) (inC false):=by
 intro pins s st H x y v u Q I rx ry h
 obtain ⟨th,mu,d,e,so,r1,r2,t⟩:=h
 obtain ⟨a0,mu0,e0,_⟩:=id t
 obtain ⟨p,e1,hk,er⟩:=QH e0
 rw [e0] at t
 cases er
 obtain ⟨a,rfl,dc⟩:=FE so e1 r2
 cases ry
 refine (?_:wpAny _ _ (do return Value.bool (← contains (.ref a) v)) _ _ s)
 exact Aa (WQ hu I dc (IQ I hk r1 rx) λtk=>Ac ⟨.bl _,H,I.tok _,rfl,by have:=t.ret so _ rfl;simpa using this⟩)
theorem Vf (hu:X.A.units+64<cLine):OpV X (compareOp .NotIn) (inC true):=by
 intro pins s st H x y v u Q I rx ry h
 obtain ⟨th,mu,d,e,so,r1,r2,t⟩:=h
 obtain ⟨a0,mu0,e0,_⟩:=id t
 obtain ⟨p,e1,hk,er⟩:=QH e0
 rw [e0] at t
 cases er
 obtain ⟨a,rfl,dc⟩:=FE so e1 r2
 cases ry
 refine (?_:wpAny _ _ (do return Value.bool (!(← contains (.ref a) v))) _ _ s)
 exact Aa (WQ hu I dc (IQ I hk r1 rx) λtk=>Ac ⟨.bl _,H,I.tok _,rfl,by have:=t.ret so _ rfl;simpa using this⟩)
theorem OpV.or {f:Value->Value->Sem Value}{g g':D->D->Sto->Rs D}(h:OpV X f g)(h':OpV X f g'):OpV X f λd e mu=>match g d e mu with|some r=>some r|none=>g' d e mu:=by
 intro pins s st H x y v u Q I rx ry q
 obtain ⟨th,mu,d,e,so,r1,r2,t⟩:=q
 dsimp only at t
 cases c:g d e mu with
 | some r=>rw [c] at t;exact h pins s st H x y v u Q I rx ry ⟨th,mu,d,e,so,r1,r2,by rw [c];exact t⟩
 | none=>rw [c] at t;exact h' pins s st H x y v u Q I rx ry ⟨th,mu,d,e,so,r1,r2,t⟩
noncomputable def inG (d e:D)(mu:Sto):Rs D:=match inD d e mu with
 | some r=>some r
 | none=>inC false d e mu
noncomputable def Kt (d e:D)(mu:Sto):Rs D:=match U4 d e mu with
 | some r=>some r
 | none=>inC true d e mu
theorem Jr (hu:X.A.units+64<cLine):OpV X (compareOp .In) inG:=OpV.or (Yt hu) (Xz hu)
theorem Ky (hu:X.A.units+64<cLine):OpV X (compareOp .NotIn) Kt:=OpV.or (Vt hu) (Vf hu)
noncomputable def putG (d e v:D)(mu:Sto):Rs Unit:=match d with
 | .ref k=>match mu[k]? with
  | some (.dct ks ds)=>if En e=true∧ks.length<sizeLine then some ((),mu.set k (.dct (EM e v ks ds).1 (EM e v ks ds).2)) else none
  | _=>U8 d e v mu
 | _=>none
noncomputable def AaR (K:Zc):Sw:=λo i v H Q=>∃ th mu d e w,StoOk K th mu H∧Rep K th H d o∧Rep K th H e i∧Rep K th H w v∧Tr K th H (putG d e w mu) λ_ _ _ H'=>Q H'
theorem Aak (hu:X.A.units+64<cLine):Wn X (AaR X.z):=by
 intro pins s st H o i v ov iv u Q I ro ri rv h
 obtain ⟨th,mu,d,e,w,so,r1,r2,r3,t⟩:=h
 unfold putG at t
 split at t
 ·rename_i k
  split at t
  ·rename_i ks ds em
   split at t
   ·rename_i c
    unfold Rep at r1
    obtain ⟨a,rfl,ha⟩:=r1
    have dc:JW X.z th H a ks ds:=so.at' k a _ ha em
    obtain ⟨ty,ns,_⟩:=Qj I dc
    cases ro
    unfold setItem
    refine AD (Aa (wpAny_sequenceKey ty (by decide) (Aa (AK (name:=Str.ofString "__setitem__") ty slot_dict_setitem (AM slot_dict_setitem ty entry_dict_setitem ?_ (args_dict_setitem _ _ _))))))
    refine (?_:wpAny _ _ (Builtin.Dict.notOrdered "__setitem__" ⟨[.ref a,iv,u],[]⟩ >>= _) _ _ s)
    refine Aa (wpAny_notOrdered_dict ty (?_:wpAny _ _ (dictSet a iv u >>= _) _ _ s))
    refine Aa (Yg I dc (λxs=>.mut (Ar ha) _) so c.1 r2 ri r3 rv c.2 (by rw [Around.in1_units];omega) λs' xs' I' dc'=>Ac ⟨.none,rfl,Ac ⟨_,I',?_⟩⟩)
    exact t.retX (.mut (Ar ha) _) (so.putG ha _ _ dc')
   ·exact t.no.elim
  ·exact Ze pins s st H o i v ov iv u Q I ro ri rv ⟨th,mu,.ref k,e,w,so,r1,r2,r3,t⟩
 ·exact t.no.elim
noncomputable def gIx (o i:Ex):Gx:=λv ro mu=>bM (o ro mu) λd m1=>bM (i ro m1) λe m2=>bM (putG d e v m2) λ_ m3=>some (ro,m3)
theorem Um (hu:X.A.units+64<cLine){o i:Expr}{mo mi:Ex}{pos:Pos}(ho:SV X o mo)(hi:SV X i mi)
  (ha:∀ v,assign (.Subscript o i pos) X.env v=(do
   let ov←holding [v] (eval o X.env)
   let iv←holding [v,ov] (eval i X.env)
   standAt pos
   holding [v,ov,iv] (setItem ov iv v)
   release [v,ov,iv] []):=by intro _;rfl):SVG X (.Subscript o i pos) (gIx mo mi):=⟨PG.weak (Yz ho.r hi.r (Aak hu) ha) λv st H Q h=>by
 obtain ⟨th,mu,ro,d,so,en,r,t⟩:=h
 refine ⟨th,mu,ro,so,en,t.bind.mono λx th1 mu1 H1 e1 s1 t1 xv rx=>?_⟩
 refine ⟨th1,mu1,ro,s1,en.ext e1 so.out,t1.bind.mono λy th2 mu2 H2 e2 s2 t2 yv ry=>?_⟩
 refine ⟨th2,mu2,x,y,d,s2,rx.ext e2 s1.out,ry,(r.ext e1 so.out).ext e2 s1.out,t2.bind.mono λ_ th3 mu3 H3 e3 s3 t3=>?_⟩
 exact t3.ret s3 _ (((en.ext e1 so.out).ext e2 s1.out).ext e3 s2.out)⟩
end
section
variable {prog:Program} {w:World} {A:Around} {E:Value->Shared->Prop} {s:Shared}
theorem wp_choose {M:Model}{src:Source}{n:Nat}{Q:Nat->Shared->Prop}(hn:n≠0)(h:∀ i d',i<n->Q i { s with drawn:=d' }):wpAny M A (choose src n) Q E s:=
 λ_ _ _=>⟨hn,h _ _ (Nat.mod_lt _ (Nat.pos_of_ne_zero hn))⟩
theorem Jo {α:Type}:∀ (xs:List α) (i:Nat) (hi:i<xs.length),(xs[i]::xs.eraseIdx i).Perm xs
 | [],i,hi=>by simp at hi
 | x::xs,0,_=>List.Perm.refl _
 | x::xs,i+1,hi=>by
  have hi':i<xs.length:=by simpa using hi
  exact (List.Perm.swap x xs[i] _).trans (List.Perm.cons x (Jo xs i hi'))
theorem NQ {M:Model}{α:Type}:∀ (n:Nat) (xs:List α) {s:Shared} {Q:List α->Shared->Prop},n=xs.length->(∀ ys d',ys.Perm xs->Q ys { s with drawn:=d' })->wpAny M A (drawOrder n xs) Q E s
 | 0,[],s,Q,_,h=>Ac (h [] s.drawn (List.Perm.refl _))
 | 0,_::_,_,_,e,_=>by simp at e
 | n+1,[],_,_,e,_=>by simp at e
 | n+1,x::xs,s,Q,e,h=>by
  refine Aa (wp_choose (by simp) λi d' hi=>?_)
  rw [Ao hi]
  refine Aa (NQ n ((x::xs).eraseIdx i) (by rw [List.length_eraseIdx_of_lt hi,← e];rfl) λys d2 p=>Ac (h _ d2 ?_))
  exact (List.Perm.cons _ p).trans (Jo _ _ hi)
theorem Ms {α:Type}(next:Nat->Nat):∀ (f k:Nat) (left:List α) (out:Array α),f=left.length->(pickOrder.go next f k left out).toList.Perm (out.toList++left)
 | 0,k,[],out,_=>by unfold pickOrder.go;simp
 | 0,_,_::_,_,e=>by simp at e
 | f+1,k,[],out,e=>by simp at e
 | f+1,k,x::xs,out,e=>by
  unfold pickOrder.go
  have hi:next k % (x::xs).length<(x::xs).length:=Nat.mod_lt _ (by simp)
  rw [Ao hi]
  refine (Ms next f (k+1) _ _ (by rw [List.length_eraseIdx_of_lt hi,← e];rfl)).trans ?_
  rw [BQ,List.append_assoc]
  exact List.Perm.append_left _ (Jo _ _ hi)
theorem Gv {α:Type}(next:Nat->Nat)(xs:Array α):(pickOrder next xs).toList.Perm xs.toList:=by
 have:=Ms next xs.size 0 xs.toList #[] (by simp)
 simpa [pickOrder] using this
noncomputable def D3 (w:World):Bool:=w.params.followText "set-order"
theorem FK {Q:Bool->Shared->Prop}(h:Q (D3 w) s):wpAny (model prog w) A setsByText Q E s:=Aa (wpAny_askSetting (Ac h))
theorem Ec:Slot "set_iterator" "__next__" "set_iterator.__next__":=
 .of (owner:="set_iterator") (n:="__next__") (by rw [typeLookup_type,BI];kernel_rfl) (by decide +kernel) (by decide +kernel) (by decide +kernel) (by first|exact .inl (by decide +kernel)|exact .inr (by decide +kernel)) (by rw [isSubtype_type];kernel_rfl)
theorem HJ:entryFor table "set_iterator.__next__"=some Builtin.«set_iterator.__next__»:=entryFor_of_tree (by kernel_rfl)
theorem Lk:Manifest.owners.lookup (String.ofList ['r','o','t','a','r','e','t','i','_','t','e','s'].reverse)=some Manifest.sig_set_iterator:=by kernel_rfl
theorem HM (a:Value):argsOk "set_iterator.__next__" ⟨[a],[]⟩:=by
 unfold argsOk;rw [signature?_of (id:="set_iterator.__next__") (n:=['_','_','t','x','e','n','_','_']) (o:=['r','o','t','a','r','e','t','i','_','t','e','s']) (by kernel_rfl) Lk];kernel_rfl
theorem HN:Slot "set_iterator" "__iter__" "set_iterator.__iter__":=
 .of (owner:="set_iterator") (n:="__iter__") (by rw [typeLookup_type,BI];kernel_rfl) (by decide +kernel) (by decide +kernel) (by decide +kernel) (by first|exact .inl (by decide +kernel)|exact .inr (by decide +kernel)) (by rw [isSubtype_type];kernel_rfl)
inductive Md where
 | txt|drw (TI:Addr) (pl:List Nat)|one
noncomputable def SetAt (h:Heap)(S:Addr)(es:Array (Int×Value))(ep:Nat)(t:SetTable):Prop:=∃ o,h.get? S=some o∧o.data=.set es ep t
noncomputable def Fst (w:World)(es:Array (Int×Value))(t:SetTable)(h:Heap)(i:Nat)(v:Value):Md->Prop
 | .txt=>D3 w=true∧∃ c:Nat,v=rawInt c
 | .drw TI pl=>v=.ref TI∧h.IsTuple TI (pl.map λp:Nat=>rawInt p).toArray∧pl.length=es.size∧(∀ p∈pl,p<es.size)
 | .one=>D3 w=false∧(t.plain=false∨es.size≤1)∧es.size≤1∧t.led=true∧v=rawInt ((if i=0 then 0 else t.place.getD 0 0+1:Nat):Int)
noncomputable def LL (w:World)(S:Addr)(es:Array (Int×Value))(ep:Nat):Md->List Value
 | .txt=>(pickOrder (w.params.setOrder S ep) es).toList.map (·.2)
 | .drw _ pl=>pl.map λp=>(es.getD p (0,.none)).2
 | .one=>es.toList.map (·.2)
noncomputable def SIt (w:World)(S I:Addr)(es:Array (Int×Value))(ep:Nat)(t:SetTable)(md:Md)(i:Nat)(h:Heap):Prop:=
 SetAt h S es ep t∧∃ o v,h.get? I=some o∧o.cls=.type "set_iterator"∧o.data=.fields #[v,rawInt i,.ref S,rawInt es.size,rawInt ep]∧Fst w es t h i v md
theorem HI {M:Model}{I:Addr}{Q:PySem.Fin->Shared->Prop}(hh:A.handled=none)(q:∀ h' e,(∀ c o,s.heap.get? c=some o->h'.get? c=some o)->(∃ o,h'.get? e=some o∧o.cls=.type "StopIteration")->E (.ref e) { s with heap:=h' }) :
  wpAny M A (newExc (.type "StopIteration") [] >>= λe=>(raiseNew e:Sem PySem.Fin)) Q E s:=by
 refine Aa ?_
 simp only [newExc,newTuple]
 refine Aa (AU (Aa (m:=firstArgMember _ _) (wpAny_of_eq (a:=Value.none) (by first|rfl|(simp only [firstArgMember];rfl)) (AU ?_ (by size_fits)))) (by size_fits))
 simp only [raiseNew]
 refine Aa (wpAny_handled ?_)
 rw [hh]
 exact Aa (Ac (wpAny_throw (q _ _ (λc o e=>Ad _ (Ad _ e)) ⟨_,Ai _ rfl,rfl⟩)))
theorem Lx {xs:Array Nat}(h:xs.size≤1):SetTable.below xs 0=0:=by
 unfold SetTable.below
 rcases Nat.lt_or_ge 0 xs.size with c|c
 ·have:xs.size=1:=by omega
  rw [this]
  simp [SetTable.below.go]
 ·have:xs.size=0:=by omega
  rw [this]
  simp [SetTable.below.go]
theorem Pc {xs:Array Nat}(h:xs.size=1):SetTable.below xs (xs.getD 0 0+1)=1:=by
 unfold SetTable.below
 have e0:xs[0]? = some xs[0]:=As (by omega)
 rw [h]
 simp [SetTable.below.go,e0]
theorem FG {a:Addr}{o:Obj}{vs:Array Value}{i:Nat}{x:Value}{h:Heap}(ho:h.get? a=some o)(hd:o.data=.fields vs):∃ o',(h.update a (Obj.mapFields (·.setIfInBounds i x))).get? a=some o'∧o'.cls=o.cls∧o'.data=.fields (vs.setIfInBounds i x):=
 ⟨_,AH _ ho (Obj.isFreed_of_fields (Obj.data_mapFields hd _)),Obj.cls_mapFields ..,Obj.data_mapFields hd _⟩
theorem SetAt.keep {h h':Heap}{S I:Addr}{es:Array (Int×Value)}{ep:Nat}{t:SetTable}(x:SetAt h S es ep t)(ne:S≠I)(sb:Heap.SameBut I h h'):SetAt h' S es ep t:=
 let ⟨o,a,b⟩:=x;⟨o,(sb.2 S ne).trans a,b⟩
noncomputable def Md.apart (I:Addr):Md->Prop
 | .drw TI _=>TI≠I
 | _=>True
theorem Q0 {S I:Addr}{es:Array (Int×Value)}{ep:Nat}{t:SetTable}{md:Md}{i:Nat}{Q:Value->Shared->Prop}(hf:t.fits es.size=true)(ne:S≠I)(ap:md.apart I)(g:SIt w S I es ep t md i s.heap)(hi:i<es.size)
  (q:∀ v h',(LL w S es ep md)[i]? = some v->SIt w S I es ep t md (i+1) h'->Heap.SameBut I s.heap h'->Q v { s with heap:=h' }) :
  wpAny (model prog w) A (Builtin.«set_iterator.__next__» ⟨[.ref I],[]⟩) (λfin s'=>∃ v,fin=.done (.ret v)∧Q v s') E s:=by
 obtain ⟨⟨ob,g1,g2⟩,o,v,k1,k2,k3,k4⟩:=id g
 refine (?_:wpAny _ _ (fieldsOf (.ref I) >>= _) _ _ _)
 refine Aa (wpAny_fieldsOf k1 k3 (?_:wpAny _ _ (setEntries S >>= _) _ _ _))
 refine Aa (wpAny_setEntries_of g1 g2 hf ?_)
 rw [if_neg (by simp)]
 cases md with
 | drw TI pl =>
  obtain ⟨rfl,⟨tb,b1,b2,n,b3⟩,c1,c2⟩:=k4
  refine (?_:wpAny _ _ (seqItems? (.ref TI) >>= _) _ _ _)
  refine Aa (Bj b1 b3 ?_)
  have hp:i<pl.length:=by omega
  have ei:(pl.map λp:Nat=>rawInt p).toArray[(i:Int).toNat]? = some (rawInt pl[i]):=by simp [hp]
  dsimp only
  rw [ei]
  have hpl:=c2 pl[i] (B7 hp)
  refine (?_:wpAny _ _ (setNextDrawn S ((pl[i]:Nat):Int).toNat ((ep:Nat):Int).toNat >>= _) _ _ _)
  refine Aa ?_
  unfold setNextDrawn
  refine Aa (Bw g1 g2 hf ?_)
  rw [Int.toNat_natCast,Int.toNat_natCast]
  dsimp only
  rw [if_neg (by simp),As hpl]
  refine Ac (Aa (Bo k1 k3 (by simp) (Ac ⟨_,rfl,q _ _ ?_ ?_ (Aw ..)⟩)))
  ·unfold LL
   rw [Av,Ao hp]
   simp [Array.getD,hpl]
  ·obtain ⟨o',e1,e2,e3⟩:=FG (i:=1) (x:=rawInt ((i:Int)+1)) k1 k3
   exact ⟨SetAt.keep ⟨ob,g1,g2⟩ ne (Aw ..),o',.ref TI,e1,e2.trans k2,e3,rfl,⟨tb,((Aw ..).2 TI ap).trans b1,b2,n,b3⟩,c1,c2⟩
 | txt =>
  obtain ⟨bt,c,rfl⟩:=k4
  refine (?_:wpAny _ _ (setNext S ((c:Nat):Int).toNat ((i:Nat):Int).toNat ((ep:Nat):Int).toNat >>= _) _ _ _)
  refine Aa ?_
  unfold setNext
  refine Aa (Bw g1 g2 hf (Aa (FK ?_)))
  rw [if_pos bt]
  rw [Int.toNat_natCast,Int.toNat_natCast,Int.toNat_natCast]
  dsimp only
  rw [if_neg (by simp)]
  refine Aa ?_
  unfold setWalk
  refine Aa (Bw g1 g2 hf (Aa (FK ?_)))
  rw [if_pos bt]
  refine Aa (wpAny_askSetting (Ac ?_))
  have hl:i<(pickOrder (w.params.setOrder S ep) es).size:=by
   have:=(Gv (w.params.setOrder S ep) es).length_eq
   simp at this
   omega
  have ex:(pickOrder ((⟨prog,w.params⟩:Setting).params.setOrder S ep) es)[i]? = some (pickOrder (w.params.setOrder S ep) es)[i]:=As hl
  refine Ac ?_
  have ex':Option.map (λe:Int×Value=>(e.2,c)) (pickOrder ((⟨prog,w.params⟩:Setting).params.setOrder S ep) es)[i]? = some ((pickOrder (w.params.setOrder S ep) es)[i].2,c):=by rw [ex];rfl
  refine (?_:wpAny _ _ (match Option.map (λe:Int×Value=>(e.2,c)) (pickOrder ((⟨prog,w.params⟩:Setting).params.setOrder S ep) es)[i]? with|some (x,next)=>_|none=>_) _ _ _)
  rw [ex']
  obtain ⟨o',e1,e2,e3⟩:=FG (i:=0) (x:=rawInt (c:Int)) k1 k3
  refine Aa (Bo k1 k3 (by simp) ?_)
  obtain ⟨o2,f1,f2,f3⟩:=FG (i:=1) (x:=rawInt ((i:Int)+1)) e1 e3
  refine Aa (Bo e1 e3 (by simp) (Ac ⟨_,rfl,q _ _ ?_ ?_ ((Aw ..).trans (Aw ..))⟩))
  ·unfold LL
   rw [Av,AB,As hl]
   rfl
  ·exact ⟨(SetAt.keep ⟨ob,g1,g2⟩ ne (Aw ..)).keep ne (Aw ..),o2,rawInt c,f1,(f2.trans e2).trans k2,f3,bt,c,rfl⟩
 | one =>
  obtain ⟨bt,pl,sz,led,rfl⟩:=k4
  have i0:i=0:=by omega
  subst i0
  have s1:es.size=1:=by omega
  have ps:t.place.size=1:=by
   simp only [SetTable.fits,Ab,beq_iff_eq,Ae] at hf
   omega
  refine (?_:wpAny _ _ (setNext S ((0:Nat):Int).toNat ((0:Nat):Int).toNat ((ep:Nat):Int).toNat >>= _) _ _ _)
  refine Aa ?_
  unfold setNext
  refine Aa (Bw g1 g2 hf (Aa (FK ?_)))
  rw [if_neg (by rw [bt];exact AF)]
  refine HU (λz=>?_) λ_=>?_
  ·exfalso
   have z':(!t.plain&&decide (es.size > 1))=true:=z
   rw [s1] at z'
   simp at z'
  refine Aa (HU (λz=>?_) λ_=>?_)
  ·exfalso
   have z':(!t.led&&!es.isEmpty)=true:=z
   rw [led] at z'
   simp at z'
  refine Ac ?_
  have b0:=Lx (xs:=t.place) (by omega)
  have ee:es[0]? = some es[0]:=As (by omega)
  have pe:t.place[0]? = some t.place[0]:=As (by omega)
  have hm:(match es[SetTable.below t.place ((0:Nat):Int).toNat]?,t.place[SetTable.below t.place ((0:Nat):Int).toNat]? with|some (_,x),some j=>some (x,j+1)|_,_=>none)=some (es[0].2,t.place[0]+1):=by
   rw [show ((0:Nat):Int).toNat=0 from rfl,b0,ee,pe]
  refine (?_:wpAny _ _ (pure (match es[SetTable.below t.place ((0:Nat):Int).toNat]?,t.place[SetTable.below t.place ((0:Nat):Int).toNat]? with|some (_,x),some j=>some (x,j+1)|_,_=>none)) _ _ _)
  rw [hm]
  refine Ac ?_
  obtain ⟨o',e1,e2,e3⟩:=FG (i:=0) (x:=rawInt ((t.place[0]+1:Nat):Int)) k1 k3
  refine Aa (Bo k1 k3 (by simp) ?_)
  obtain ⟨o2,f1,f2,f3⟩:=FG (i:=1) (x:=rawInt (((0:Nat):Int)+1)) e1 e3
  refine Aa (Bo e1 e3 (by simp) (Ac ⟨_,rfl,q _ _ ?_ ?_ ((Aw ..).trans (Aw ..))⟩))
  ·unfold LL
   rw [Av,AB,ee]
   rfl
  ·refine ⟨(SetAt.keep ⟨ob,g1,g2⟩ ne (Aw ..)).keep ne (Aw ..),o2,rawInt ((t.place[0]+1:Nat):Int),f1,(f2.trans e2).trans k2,f3,bt,pl,sz,led,?_⟩
   have:t.place.getD 0 0=t.place[0]:=by simp [Array.getD,ps]
   rw [this]
   rfl
end
noncomputable def rk:D->Nat
 | .int _=>0|.str _=>1|.tup _=>2|_=>3
noncomputable def Jb (i j:Nat):Ordering:=if i<j then .lt else if j<i then .gt else .eq
noncomputable def LN (i j:Int):Ordering:=if i<j then .lt else if j<i then .gt else .eq
noncomputable def HK (x y:Str):Ordering:=if x.cps.toList<y.cps.toList then .lt else if y.cps.toList<x.cps.toList then .gt else .eq
noncomputable def oTh:Ordering->Ordering->Ordering
 | .eq,t=>t
 | .lt,_=>.lt
 | .gt,_=>.gt
mutual
noncomputable def Dd:D->D->Ordering
 | .int i,.int j=>LN i j
 | .str x,.str y=>HK x y
 | .tup xs,.tup ys=>G7 xs ys
 | a,b=>Jb (rk a) (rk b)
noncomputable def G7:List D->List D->Ordering
 | [],[]=>.eq
 | [],_::_=>.lt
 | _::_,[]=>.gt
 | x::xs,y::ys=>oTh (Dd x y) (G7 xs ys)
end
noncomputable def ltT (a b:D):Bool:=Dd a b==.lt
structure T3 (a b c:Ordering):Prop where
 e1:a=.eq->b=c
 e2:b=.eq->a=c
 e3:a=b->c=a
theorem Du (i j:Nat):Jb j i=(Jb i j).swap:=by
 unfold Jb
 rcases Nat.lt_trichotomy i j with h|h|h
 ·rw [if_pos h,if_neg (by omega),if_pos h];rfl
 ·subst h;simp
 ·rw [if_pos h,if_neg (by omega),if_pos h];rfl
theorem Rb (i j:Int):LN j i=(LN i j).swap:=by
 unfold LN
 rcases Int.lt_trichotomy i j with h|h|h
 ·rw [if_pos h,if_neg (by omega),if_pos h];rfl
 ·subst h;simp
 ·rw [if_pos h,if_neg (by omega),if_pos h];rfl
theorem X4 {x y:Str}:(x.cps.toList<y.cps.toList)->¬ (y.cps.toList<x.cps.toList):=λa b=>List.lt_asymm a b
theorem J0 (i j:Str):HK j i=(HK i j).swap:=by
 unfold HK
 by_cases h:i.cps.toList<j.cps.toList
 ·rw [if_pos h,if_neg (X4 h),if_pos h];rfl
 ·rw [if_neg h]
  by_cases h2:j.cps.toList<i.cps.toList
  ·rw [if_pos h2,if_neg h,if_pos h2];rfl
  ·rw [if_neg h2,if_neg h,if_neg h2];rfl
theorem Je (i j k:Nat):T3 (Jb i j) (Jb j k) (Jb i k):=by
 unfold Jb
 refine ⟨?_,?_,?_⟩<;>(repeat' split)<;>simp<;>omega
theorem XZ (i j k:Int):T3 (LN i j) (LN j k) (LN i k):=by
 unfold LN
 refine ⟨?_,?_,?_⟩<;>(repeat' split)<;>simp<;>omega
theorem JF {i j:Str}:HK i j=.eq ↔ i=j:=by
 unfold HK
 constructor
 ·intro h
  by_cases h1:i.cps.toList<j.cps.toList
  ·rw [if_pos h1] at h;cases h
  ·rw [if_neg h1] at h
   by_cases h2:j.cps.toList<i.cps.toList
   ·rw [if_pos h2] at h;cases h
   ·exact Wd (List.le_antisymm (Std.not_lt.mp h2) (Std.not_lt.mp h1))
 ·rintro rfl
  rw [if_neg (List.lt_irrefl _),if_neg (List.lt_irrefl _)]
theorem GD {i j:Str}:HK i j=.lt ↔ i.cps.toList<j.cps.toList:=by
 unfold HK
 by_cases h1:i.cps.toList<j.cps.toList
 ·simp [h1]
 ·rw [if_neg h1]
  by_cases h2:j.cps.toList<i.cps.toList
  ·simp [h2,h1]
  ·simp [h2,h1]
theorem KJ {i j:Str}:HK i j=.gt ↔ j.cps.toList<i.cps.toList:=by
 rw [← GD,J0 i j]
 cases HK i j<;>simp
theorem W8 (i j k:Str):T3 (HK i j) (HK j k) (HK i k):=by
 refine ⟨λh=>?_,λh=>?_,λh=>?_⟩
 ·rw [JF.mp h]
 ·rw [JF.mp h]
 ·cases c:HK i j with
  | eq=>rw [JF.mp c];rw [c] at h;exact h.symm
  | lt=>rw [c] at h;exact GD.mpr (List.lt_trans (GD.mp c) (GD.mp h.symm))
  | gt=>rw [c] at h;exact KJ.mpr (List.lt_trans (KJ.mp h.symm) (KJ.mp c))
mutual
theorem cmp_swap:∀ (a b:D),Dd b a=(Dd a b).swap
 | .tup xs,.tup ys=>by unfold Dd;exact Mn xs ys
 | .int i,b=>by cases b<;>first|(unfold Dd;exact Rb _ _)|(simp only [Dd];exact Du _ _)
 | .str i,b=>by cases b<;>first|(unfold Dd;exact J0 _ _)|(simp only [Dd];exact Du _ _)
 | .tup xs,.int _=>by simp only [Dd];exact Du _ _
 | .tup xs,.str _=>by simp only [Dd];exact Du _ _
 | .tup xs,.non=>by simp only [Dd];exact Du _ _
 | .tup xs,.bl _=>by simp only [Dd];exact Du _ _
 | .tup xs,.lst _=>by simp only [Dd];exact Du _ _
 | .tup xs,.dct _ _=>by simp only [Dd];exact Du _ _
 | .tup xs,.set _=>by simp only [Dd];exact Du _ _
 | .tup xs,.ref _=>by simp only [Dd];exact Du _ _
 | .non,b=>by cases b<;>(simp only [Dd];exact Du _ _)
 | .bl _,b=>by cases b<;>(simp only [Dd];exact Du _ _)
 | .lst _,b=>by cases b<;>(simp only [Dd];exact Du _ _)
 | .dct _ _,b=>by cases b<;>(simp only [Dd];exact Du _ _)
 | .set _,b=>by cases b<;>(simp only [Dd];exact Du _ _)
 | .ref _,b=>by cases b<;>(simp only [Dd];exact Du _ _)
theorem Mn:∀ (xs ys:List D),G7 ys xs=(G7 xs ys).swap
 | [],[]=>rfl
 | [],_::_=>rfl
 | _::_,[]=>rfl
 | x::xs,y::ys=>by
  unfold G7
  rw [cmp_swap x y]
  cases Dd x y with
  | eq=>exact Mn xs ys
  | lt=>rfl
  | gt=>rfl
end
theorem OL {a b:D}(h:rk a≠rk b):Dd a b=Jb (rk a) (rk b):=by
 cases a<;>cases b<;>first|(simp only [Dd];done)|(exact absurd rfl h)
theorem Xf {a b:D}(h:Dd a b=.eq):rk a=rk b:=by
 refine Classical.byContradiction λz=>?_
 rw [OL z] at h
 unfold Jb at h
 repeat' split at h
 all_goals first|(cases h;done)|omega
theorem T3.then' {h1 h2 h3 t1 t2 t3:Ordering}(h:T3 h1 h2 h3)(t:T3 t1 t2 t3):T3 (oTh h1 t1) (oTh h2 t2) (oTh h3 t3):=by
 obtain ⟨a,b,c⟩:=h
 cases h1 with
 | eq =>
  cases a rfl
  cases h2 with
  | eq=>exact t
  | lt=>exact (show T3 t1 .lt .lt from ⟨λ_=>rfl,λz=>(nomatch z),λz=>z.symm⟩)
  | gt=>exact (show T3 t1 .gt .gt from ⟨λ_=>rfl,λz=>(nomatch z),λz=>z.symm⟩)
 | lt =>
  cases h2 with
  | eq=>cases b rfl;exact (show T3 .lt t2 .lt from ⟨λz=>(nomatch z),λ_=>rfl,λ_=>rfl⟩)
  | lt=>cases c rfl;exact (show T3 .lt .lt .lt from ⟨λz=>(nomatch z),λ_=>rfl,λ_=>rfl⟩)
  | gt=>exact (show T3 .lt .gt _ from ⟨λz=>(nomatch z),λz=>(nomatch z),λz=>(nomatch z)⟩)
 | gt =>
  cases h2 with
  | eq=>cases b rfl;exact (show T3 .gt t2 .gt from ⟨λz=>(nomatch z),λ_=>rfl,λ_=>rfl⟩)
  | gt=>cases c rfl;exact (show T3 .gt .gt .gt from ⟨λz=>(nomatch z),λ_=>rfl,λ_=>rfl⟩)
  | lt=>exact (show T3 .gt .lt _ from ⟨λz=>(nomatch z),λz=>(nomatch z),λz=>(nomatch z)⟩)
theorem T3.of_rk {a b c:D}(h:¬ (rk a=rk b∧rk b=rk c)):T3 (Dd a b) (Dd b c) (Dd a c):=by
 have n3:=Je (rk a) (rk b) (rk c)
 have sg:∀ x y:D,rk x≠rk y->Dd x y≠.eq:=λx y z e=>z (Xf e)
 have lt:∀ x y:D,rk x<rk y->Dd x y=.lt:=λx y z=>by rw [OL (by omega)];unfold Jb;rw [if_pos z]
 have gt:∀ x y:D,rk y<rk x->Dd x y=.gt:=λx y z=>by rw [OL (by omega)];unfold Jb;rw [if_neg (by omega),if_pos z]
 rcases Nat.lt_trichotomy (rk a) (rk b) with h1|h1|h1<;>rcases Nat.lt_trichotomy (rk b) (rk c) with h2|h2|h2
 ·rw [lt a b h1,lt b c h2,lt a c (by omega)];exact ⟨λz=>(nomatch z),λ_=>rfl,λ_=>rfl⟩
 ·rw [lt a b h1,lt a c (by omega)];exact ⟨λz=>(nomatch z),λ_=>rfl,λ_=>rfl⟩
 ·rw [lt a b h1,gt b c h2];exact ⟨λz=>(nomatch z),λz=>(nomatch z),λz=>(nomatch z)⟩
 ·rw [lt b c h2,lt a c (by omega)];exact ⟨λ_=>rfl,λz=>(nomatch z),λz=>z.symm⟩
 ·exact absurd ⟨h1,h2⟩ h
 ·rw [gt b c h2,gt a c (by omega)];exact ⟨λ_=>rfl,λz=>(nomatch z),λz=>z.symm⟩
 ·rw [gt a b h1,lt b c h2];exact ⟨λz=>(nomatch z),λz=>(nomatch z),λz=>(nomatch z)⟩
 ·rw [gt a b h1,gt a c (by omega)];exact ⟨λz=>(nomatch z),λ_=>rfl,λ_=>rfl⟩
 ·rw [gt a b h1,gt b c h2,gt a c (by omega)];exact ⟨λz=>(nomatch z),λ_=>rfl,λ_=>rfl⟩
mutual
theorem Wz:∀ (a b c:D),T3 (Dd a b) (Dd b c) (Dd a c)
 | .tup xs,.tup ys,.tup zs=>by unfold Dd;exact T8 xs ys zs
 | .int i,b,c=>by
  by_cases e:rk (.int i)=rk b∧rk b=rk c
  ·cases b<;>first|(cases e.1;done)|skip
   cases c<;>first|(cases e.2;done)|skip
   unfold Dd
   exact XZ _ _ _
  ·exact .of_rk e
 | .str i,b,c=>by
  by_cases e:rk (.str i)=rk b∧rk b=rk c
  ·cases b<;>first|(cases e.1;done)|skip
   cases c<;>first|(cases e.2;done)|skip
   unfold Dd
   exact W8 _ _ _
  ·exact .of_rk e
 | .tup xs,.int _,_=>.of_rk λe=>by cases e.1
 | .tup xs,.str _,_=>.of_rk λe=>by cases e.1
 | .tup xs,.non,_=>.of_rk λe=>by cases e.1
 | .tup xs,.bl _,_=>.of_rk λe=>by cases e.1
 | .tup xs,.lst _,_=>.of_rk λe=>by cases e.1
 | .tup xs,.dct _ _,_=>.of_rk λe=>by cases e.1
 | .tup xs,.set _,_=>.of_rk λe=>by cases e.1
 | .tup xs,.ref _,_=>.of_rk λe=>by cases e.1
 | .tup xs,.tup _,.int _=>.of_rk λe=>by cases e.2
 | .tup xs,.tup _,.str _=>.of_rk λe=>by cases e.2
 | .tup xs,.tup _,.non=>.of_rk λe=>by cases e.2
 | .tup xs,.tup _,.bl _=>.of_rk λe=>by cases e.2
 | .tup xs,.tup _,.lst _=>.of_rk λe=>by cases e.2
 | .tup xs,.tup _,.dct _ _=>.of_rk λe=>by cases e.2
 | .tup xs,.tup _,.set _=>.of_rk λe=>by cases e.2
 | .tup xs,.tup _,.ref _=>.of_rk λe=>by cases e.2
 | .non,b,c=>by
  by_cases e:rk .non=rk b∧rk b=rk c
  ·cases b<;>first|(cases e.1;done)|(cases c<;>first|(cases e.2;done)|(simp only [Dd];exact Je _ _ _))
  ·exact .of_rk e
 | .bl x,b,c=>by
  by_cases e:rk (.bl x)=rk b∧rk b=rk c
  ·cases b<;>first|(cases e.1;done)|(cases c<;>first|(cases e.2;done)|(simp only [Dd];exact Je _ _ _))
  ·exact .of_rk e
 | .lst x,b,c=>by
  by_cases e:rk (.lst x)=rk b∧rk b=rk c
  ·cases b<;>first|(cases e.1;done)|(cases c<;>first|(cases e.2;done)|(simp only [Dd];exact Je _ _ _))
  ·exact .of_rk e
 | .dct x y,b,c=>by
  by_cases e:rk (.dct x y)=rk b∧rk b=rk c
  ·cases b<;>first|(cases e.1;done)|(cases c<;>first|(cases e.2;done)|(simp only [Dd];exact Je _ _ _))
  ·exact .of_rk e
 | .set x,b,c=>by
  by_cases e:rk (.set x)=rk b∧rk b=rk c
  ·cases b<;>first|(cases e.1;done)|(cases c<;>first|(cases e.2;done)|(simp only [Dd];exact Je _ _ _))
  ·exact .of_rk e
 | .ref x,b,c=>by
  by_cases e:rk (.ref x)=rk b∧rk b=rk c
  ·cases b<;>first|(cases e.1;done)|(cases c<;>first|(cases e.2;done)|(simp only [Dd];exact Je _ _ _))
  ·exact .of_rk e
theorem T8:∀ (xs ys zs:List D),T3 (G7 xs ys) (G7 ys zs) (G7 xs zs)
 | [],[],[]=>⟨λ_=>rfl,λ_=>rfl,λ_=>rfl⟩
 | [],[],_::_=>⟨λ_=>rfl,λz=>(nomatch z),λz=>(nomatch z)⟩
 | [],_::_,[]=>⟨λz=>(nomatch z),λz=>(nomatch z),λz=>(nomatch z)⟩
 | [],y::ys,z::zs=>⟨λz=>(nomatch z),λ_=>rfl,λ_=>rfl⟩
 | x::xs,[],[]=>⟨λz=>(nomatch z),λ_=>rfl,λz=>(nomatch z)⟩
 | x::xs,[],_::_=>⟨λz=>(nomatch z),λz=>(nomatch z),λz=>(nomatch z)⟩
 | x::xs,y::ys,[]=>⟨λ_=>rfl,λz=>(nomatch z),λz=>z.symm⟩
 | x::xs,y::ys,z::zs=>by
  unfold G7
  exact (Wz x y z).then' (T8 xs ys zs)
end
theorem Qk (a b:D)(h:ltT a b=true):ltT b a=false:=by
 unfold ltT at *
 rw [cmp_swap a b]
 cases c:Dd a b<;>rw [c] at h<;>first|rfl|cases h
theorem Se (a b c:D)(h1:ltT b a=false)(h2:ltT c b=false):ltT c a=false:=by
 unfold ltT at *
 have t:=Wz c b a
 cases q:Dd c b with
 | eq=>rw [← t.e1 q];exact h1
 | lt=>rw [q] at h2;cases h2
 | gt =>
  cases q2:Dd b a with
  | eq=>rw [← t.e2 q2,q];rfl
  | lt=>rw [q2] at h1;cases h1
  | gt=>rw [t.e3 (q.trans q2.symm),q];rfl
mutual
noncomputable def HL:D->Bool
 | .int _=>true
 | .str _=>true
 | .tup ds=>IT ds
 | _=>false
noncomputable def IT:List D->Bool
 | []=>true
 | d::ds=>HL d&&IT ds
end
mutual
theorem Nn:∀ {d:D},HL d=true->hsh d=true
 | .int _,_=>rfl
 | .str _,_=>rfl
 | .tup ds,h=>by unfold HL at h;unfold hsh;exact Of h
 | .non,h=>nomatch h
 | .bl _,h=>nomatch h
 | .lst _,h=>nomatch h
 | .dct _ _,h=>nomatch h
 | .set _,h=>nomatch h
 | .ref _,h=>nomatch h
theorem Of:∀ {ds:List D},IT ds=true->GY ds=true
 | [],_=>rfl
 | d::ds,h=>by
  unfold IT at h
  rw [Ab] at h
  unfold GY
  rw [Nn h.1,Of h.2]
  rfl
end
mutual
theorem OM:∀ (a b:D),HL a=true->HL b=true->Dd a b=.eq->a=b
 | .int i,b,_,hb,h=>by
  cases b<;>first|(cases hb;done)|(simp [Dd,Jb,rk] at h;done)|skip
  rename_i j
  unfold Dd LN at h
  repeat' split at h
  all_goals first|(cases h;done)|(congr 1;omega)
 | .str i,b,_,hb,h=>by
  cases b<;>first|(cases hb;done)|(simp [Dd,Jb,rk] at h;done)|skip
  unfold Dd at h
  rw [JF.mp h]
 | .tup xs,b,ha,hb,h=>by
  cases b<;>first|(cases hb;done)|(simp [Dd,Jb,rk] at h;done)|skip
  unfold Dd at h
  unfold HL at ha hb
  congr 1
  exact Qq xs _ ha hb h
 | .non,_,h,_,_=>nomatch h
 | .bl _,_,h,_,_=>nomatch h
 | .lst _,_,h,_,_=>nomatch h
 | .dct _ _,_,h,_,_=>nomatch h
 | .set _,_,h,_,_=>nomatch h
 | .ref _,_,h,_,_=>nomatch h
theorem Qq:∀ (xs ys:List D),IT xs=true->IT ys=true->G7 xs ys=.eq->xs=ys
 | [],[],_,_,_=>rfl
 | [],_::_,_,_,h=>by cases h
 | _::_,[],_,_,h=>by cases h
 | x::xs,y::ys,ha,hb,h=>by
  unfold IT at ha hb
  rw [Ab] at ha hb
  unfold G7 at h
  cases c:Dd x y<;>rw [c] at h<;>first|(cases h;done)|skip
  rw [OM x y ha.1 hb.1 c,Qq xs ys ha.2 hb.2 h]
end
theorem lt_eq (a b:D)(ha:HL a=true)(hb:HL b=true)(h1:ltT a b=false)(h2:ltT b a=false):a=b:=by
 refine OM a b ha hb ?_
 unfold ltT at h1 h2
 rw [cmp_swap a b] at h2
 cases c:Dd a b with
 | eq=>rfl
 | lt=>rw [c] at h1;cases h1
 | gt=>rw [c] at h2;cases h2
theorem T6 (a:D):Dd a a=.eq:=by
 have:=cmp_swap a a
 cases c:Dd a a<;>rw [c] at this<;>first|rfl|cases this
mutual
theorem WE:∀ (a b:D) (r:Bool),HL a=true->HL b=true->ltB a b=some r->r=(Dd a b==.lt)
 | .int i,b,r,_,hb,h=>by
  cases b<;>first|(cases hb;done)|(unfold ltB at h;cases h;done)|skip
  rename_i j
  unfold ltB at h
  cases h
  unfold Dd LN
  by_cases c:i<j
  ·simp [c]
  ·rw [A1 c,if_neg c];split<;>rfl
 | .str i,b,r,_,hb,h=>by
  cases b<;>first|(cases hb;done)|(unfold ltB at h;cases h;done)|skip
  rename_i j
  unfold ltB at h
  cases h
  unfold Dd
  by_cases c:i.cps.toList<j.cps.toList
  ·rw [BE c,GD.mpr c];rfl
  ·rw [A1 c]
   have:HK i j≠.lt:=λz=>c (GD.mp z)
   cases e:HK i j<;>first|rfl|exact absurd e this
 | .tup xs,b,r,ha,hb,h=>by
  cases b<;>first|(cases hb;done)|(unfold ltB at h;cases h;done)|skip
  unfold ltB at h
  unfold Dd
  unfold HL at ha hb
  exact Uq xs _ r ha hb h
 | .non,_,_,h,_,_=>nomatch h
 | .bl _,_,_,h,_,_=>nomatch h
 | .lst _,_,_,h,_,_=>nomatch h
 | .dct _ _,_,_,h,_,_=>nomatch h
 | .set _,_,_,h,_,_=>nomatch h
 | .ref _,_,_,h,_,_=>nomatch h
theorem Uq:∀ (xs ys:List D) (r:Bool),IT xs=true->IT ys=true->Il xs ys=some r->r=(G7 xs ys==.lt)
 | [],[],r,_,_,h=>by unfold Il at h;cases h;rfl
 | [],_::_,r,_,_,h=>by unfold Il at h;cases h;rfl
 | _::_,[],r,_,_,h=>by unfold Il at h;cases h;rfl
 | x::xs,y::ys,r,ha,hb,h=>by
  unfold IT at ha hb
  rw [Ab] at ha hb
  unfold Il at h
  split at h
  ·rw [Hn (Nn ha.1) (Nn hb.1)] at h
   unfold G7
   by_cases c:x=y
   ·rw [BE c] at h
    subst c
    rw [T6]
    exact Uq xs ys r ha.2 hb.2 (by simpa using h)
   ·rw [A1 c] at h
    have e:=WE x y r ha.1 hb.1 (by simpa using h)
    rw [e]
    cases q:Dd x y with
    | eq=>exact absurd (OM x y ha.1 hb.1 q) c
    | lt=>rfl
    | gt=>rfl
  ·cases h
end
noncomputable def leT (a b:D):Bool:=!ltT b a
noncomputable def GX (es:List D):List D:=es.mergeSort leT
theorem QW (a b c:D)(h1:leT a b=true)(h2:leT b c=true):leT a c=true:=by
 unfold leT at *
 simp at h1 h2 ⊢
 exact Se a b c h1 h2
theorem Ry (a b:D):(leT a b||leT b a)=true:=by
 unfold leT
 cases c:ltT b a with
 | false=>rfl
 | true=>simp [Qk b a c]
theorem EI (es:List D):(GX es).Perm es:=List.mergeSort_perm es leT
theorem Nk (es:List D):(GX es).Pairwise λa b=>leT a b=true:=List.pairwise_mergeSort QW Ry es
theorem KH {es rs:List D}(ho:∀ d∈es,HL d=true)(hp:rs.Perm es)(hs:rs.Pairwise λa b=>leT a b=true):rs=GX es:=by
 have hp2:=hp.trans (EI es).symm
 refine List.Perm.eq_of_pairwise (λa b ha hb h1 h2=>?_) hs (Nk es) hp2
 unfold leT at h1 h2
 simp at h1 h2
 exact lt_eq a b (ho a (hp.mem_iff.mp ha)) (ho b ((EI es).mem_iff.mp hb)) h2 h1
theorem Mm {es fs:List D}(ho:∀ d∈es,HL d=true)(hp:fs.Perm es):GX fs=GX es:=KH ho ((EI fs).trans hp) (Nk fs)
section
variable {prog:Program} {w:World} {A:Around} {E:Value->Shared->Prop} {s:Shared}
theorem RA {S I:Addr}{es:Array (Int×Value)}{ep:Nat}{t:SetTable}{md:Md}{Q:PySem.Fin->Shared->Prop}(hh:A.handled=none)(hf:t.fits es.size=true)(g:SIt w S I es ep t md es.size s.heap)
  (q:∀ h' e,(∀ c o,c≠I->s.heap.get? c=some o->h'.get? c=some o)->(∃ o,h'.get? e=some o∧o.cls=.type "StopIteration")->E (.ref e) { s with heap:=h' }) :
  wpAny (model prog w) A (Builtin.«set_iterator.__next__» ⟨[.ref I],[]⟩) Q E s:=by
 obtain ⟨⟨ob,g1,g2⟩,o,v,k1,k2,k3,k4⟩:=id g
 have upd:∀ (h:Heap) f c o',c≠I->h.get? c=some o'->(h.update I f).get? c=some o':=λh f c o' hc e=>((Aw ..).2 c hc).trans e
 refine (?_:wpAny _ _ (fieldsOf (.ref I) >>= _) _ _ _)
 refine Aa (wpAny_fieldsOf k1 k3 (?_:wpAny _ _ (setEntries S >>= _) _ _ _))
 refine Aa (wpAny_setEntries_of g1 g2 hf ?_)
 rw [if_neg (by simp)]
 cases md with
 | drw TI pl =>
  obtain ⟨rfl,⟨tb,b1,b2,n,b3⟩,c1,c2⟩:=k4
  refine (?_:wpAny _ _ (seqItems? (.ref TI) >>= _) _ _ _)
  refine Aa (Bj b1 b3 ?_)
  have ei:(pl.map λp:Nat=>rawInt p).toArray[((es.size:Nat):Int).toNat]? = none:=by simp [c1]
  dsimp only
  rw [ei]
  obtain ⟨o',e1,e2,e3⟩:=FG (i:=0) (x:=rawInt 0) k1 k3
  refine Aa (Bo k1 k3 (by simp) (Aa (Bo e1 e3 (by simp) ?_)))
  exact HI (I:=I) hh λh' e a b=>q h' e (λc o hc z=>a c o (upd _ _ c o hc (upd _ _ c o hc z))) b
 | txt =>
  obtain ⟨bt,c,rfl⟩:=k4
  refine (?_:wpAny _ _ (setNext S ((c:Nat):Int).toNat ((es.size:Nat):Int).toNat ((ep:Nat):Int).toNat >>= _) _ _ _)
  refine Aa ?_
  unfold setNext
  refine Aa (Bw g1 g2 hf (Aa (FK ?_)))
  rw [if_pos bt]
  rw [Int.toNat_natCast,Int.toNat_natCast,Int.toNat_natCast]
  dsimp only
  rw [if_neg (by simp)]
  refine Aa ?_
  unfold setWalk
  refine Aa (Bw g1 g2 hf (Aa (FK ?_)))
  rw [if_pos bt]
  refine Aa (wpAny_askSetting (Ac (Ac ?_)))
  have hl:(pickOrder (w.params.setOrder S ep) es).size=es.size:=by
   have:=(Gv (w.params.setOrder S ep) es).length_eq
   simpa using this
  have ex':Option.map (λe:Int×Value=>(e.2,c)) (pickOrder ((⟨prog,w.params⟩:Setting).params.setOrder S ep) es)[es.size]? = none:=by
   rw [Bl (by rw [show (⟨prog,w.params⟩:Setting).params.setOrder S ep=w.params.setOrder S ep from rfl,hl];exact Ah _)];rfl
  refine (?_:wpAny _ _ (match Option.map (λe:Int×Value=>(e.2,c)) (pickOrder ((⟨prog,w.params⟩:Setting).params.setOrder S ep) es)[es.size]? with|some (x,next)=>_|none=>_) _ _ _)
  rw [ex']
  refine Aa (Bo k1 k3 (by simp) ?_)
  exact HI (I:=I) hh λh' e a b=>q h' e (λc o hc z=>a c o (upd _ _ c o hc z)) b
 | one =>
  obtain ⟨bt,pl,sz,led,rfl⟩:=k4
  refine (?_:wpAny _ _ (setNext S ((if es.size=0 then 0 else (t.place.getD 0 0+1):Nat):Int).toNat ((es.size:Nat):Int).toNat ((ep:Nat):Int).toNat >>= _) _ _ _)
  refine Aa ?_
  unfold setNext
  refine Aa (Bw g1 g2 hf (Aa (FK ?_)))
  rw [if_neg (by rw [bt];exact AF)]
  refine HU (λz=>?_) λ_=>?_
  ·exfalso
   have z':(!t.plain&&decide (es.size > 1))=true:=z
   simp at z'
   omega
  refine Aa (HU (λz=>?_) λ_=>?_)
  ·exfalso
   have z':(!t.led&&!es.isEmpty)=true:=z
   rw [led] at z'
   simp at z'
  refine Ac ?_
  have ps:t.place.size=es.size:=by
   simp only [SetTable.fits,Ab,beq_iff_eq,Ae] at hf
   exact hf.1
  have bl:SetTable.below t.place (if es.size=0 then 0 else (t.place.getD 0 0+1))=es.size:=by
   by_cases c:es.size=0
   ·rw [if_pos c,Lx (by omega),c]
   ·rw [if_neg c,Pc (by omega)];omega
  have en:es[es.size]? = none:=Bl (Ah _)
  have hm:(match es[SetTable.below t.place ((if es.size=0 then 0 else (t.place.getD 0 0+1):Nat):Int).toNat]?,t.place[SetTable.below t.place ((if es.size=0 then 0 else (t.place.getD 0 0+1):Nat):Int).toNat]? with|some (_,x),some j=>some (x,j+1)|_,_=>none)=none:=by
   rw [Int.toNat_natCast,bl,en]
  refine (?_:wpAny _ _ (pure (match es[SetTable.below t.place ((if es.size=0 then 0 else (t.place.getD 0 0+1):Nat):Int).toNat]?,t.place[SetTable.below t.place ((if es.size=0 then 0 else (t.place.getD 0 0+1):Nat):Int).toNat]? with|some (_,x),some j=>some (x,j+1)|_,_=>none)) _ _ _)
  rw [hm]
  refine Ac (Aa (Bo k1 k3 (by simp) ?_))
  exact HI (I:=I) hh λh' e a b=>q h' e (λc o hc z=>a c o (upd _ _ c o hc z)) b
theorem SIt.ty {S I:Addr}{es:Array (Int×Value)}{ep:Nat}{t:SetTable}{md:Md}{i:Nat}(g:SIt w S I es ep t md i s.heap):s.TypeIs (.ref I) "set_iterator":=let ⟨_,o,v,k1,k2,_⟩:=g;⟨o,k1,k2⟩
noncomputable def Md.fp (S I:Addr):Md->List Addr
 | .drw TI _=>[I,S,TI]
 | _=>[I,S]
theorem Kv:entryFor table "set_iterator.__iter__"=some Builtin.«dict_keyiterator.__iter__»:=
 entryFor_alias (id':="dict_keyiterator.__iter__") (by kernel_rfl) rfl (by decide +kernel) (by kernel_rfl)
theorem KY (a:Value):argsOk "set_iterator.__iter__" ⟨[a],[]⟩:=by
 unfold argsOk;rw [signature?_of (id:="set_iterator.__iter__") (n:=['_','_','r','e','t','i','_','_']) (o:=['r','o','t','a','r','e','t','i','_','t','e','s']) (by kernel_rfl) Lk];kernel_rfl
theorem L0 (hh:A.handled=none){S I:Addr}{es:Array (Int×Value)}{ep:Nat}{t:SetTable}{md:Md}(hf:t.fits es.size=true)(ne:S≠I)(ap:md.apart I) :
  Walks prog w A I (md.fp S I) [I] es.size (λi v=>(LL w S es ep md)[i]? = some v) (λi h=>SIt w S I es ep t md i h) where
 sub:=λb hb=>by rw [An.mp hb];cases md<;>simp [Md.fp]
 frame:=λ_ h h' st hk=>by
  obtain ⟨⟨ob,g1,g2⟩,o,v,k1,k2,k3,k4⟩:=st
  refine ⟨⟨ob,hk S (by cases md<;>simp [Md.fp]) _ g1,g2⟩,o,v,hk I (by cases md<;>simp [Md.fp]) _ k1,k2,k3,?_⟩
  cases md with
  | drw TI pl=>obtain ⟨a,⟨tb,b1,b2⟩,c⟩:=k4;exact ⟨a,⟨tb,hk TI (by simp [Md.fp]) _ b1,b2⟩,c⟩
  | txt=>exact k4
  | one=>exact k4
 item:=λ_ s Q E hi st hQ=>by
  unfold pyNext
  exact Aa (wpAny_attempt (AK (name:=Str.ofString "__next__") st.ty Ec (AM Ec st.ty HJ (Q0 hf ne ap st hi λv h' e g' sb=>Ac (hQ v h' s.toks e g' λb o hb z=>(sb.2 b (by simpa using hb)).trans z)) (HM _))))
 done:=λs Q E st hQ=>by
  unfold pyNext
  refine Aa (wpAny_attempt (AK (name:=Str.ofString "__next__") st.ty Ec (AM Ec st.ty HJ (RA hh hf st λh' e a b=>?_) (HM _))))
  obtain ⟨o,ho,hc⟩:=b
  exact Aa (B8 (T:="StopIteration") (b:=true) ⟨o,ho,hc⟩ isSubtype_stop (Ac (hQ h' s.toks λb o hb z=>a b o (by simpa using hb) z)))
 self:=λi s Q E st hQ=>by
  refine wpAny_pyIter_slot st.ty HN (AM HN st.ty Kv ?_ (KY _))
  refine (?_:wpAny _ _ (ret (.ref I)) _ _ s)
  exact Ac ⟨_,rfl,"set_iterator",_,st.ty,Ec.lookup,hQ⟩
theorem Ll:entryFor table "set.__iter__"=some Builtin.«frozenset.__iter__»:=
 entryFor_alias (id':="frozenset.__iter__") (by kernel_rfl) (by decide +kernel) (by decide +kernel) (by kernel_rfl)
theorem OQ {S:Addr}{ob:Obj}{es:Array (Int×Value)}{ep:Nat}{t:SetTable}{Q:Value->Shared->Prop}(hz:es.size≤sizeLine)(g1:s.heap.get? S=some ob)(gc:ob.cls=.type "set")(g2:ob.data=.set es ep t)(hf:t.fits es.size=true)(hw:D3 w=true∨t.led=true∧(t.plain=false∨es.size≤1))
  (q:∀ I h' d' md,s.heap.objs.size≤I->SIt w S I es ep t md 0 h'->md.apart I->(∀ b o,s.heap.get? b=some o->h'.get? b=some o)->(LL w S es ep md).Perm (es.toList.map (·.2))->(∀ b∈md.fp S I,b<h'.objs.size)->Q (.ref I) { s with heap:=h',drawn:=d' }):wpAny (model prog w) A (pyIter (.ref S)) Q E s:=by
 have ty:s.TypeIs (.ref S) "set":=⟨ob,g1,gc⟩
 refine wpAny_pyIter_slot ty F.slot_set_iter (AM F.slot_set_iter ty Ll ?_ (F.args_set_iter_1 _))
 refine (?_:wpAny _ _ (Builtin.Frozenset.sizeOf S >>= _) _ _ s)
 refine Aa (Aa (wpAny_setEntries_of g1 g2 hf (Ac ?_)))
 have lt:S<s.heap.objs.size:=Aj g1
 have fin:∀ (h1:Heap) d1 (md:Md) (v:Value),(∀ b o,s.heap.get? b=some o->h1.get? b=some o)->s.heap.objs.size≤h1.objs.size->Fst w es t h1 0 v md->(∀ TI pl,md=.drw TI pl->TI<h1.objs.size)->(LL w S es ep md).Perm (es.toList.map (·.2)) ->
   wpAny (model prog w) A.in1 (setEpoch S >>= λe=>newFields "set_iterator" [v,rawInt 0,.ref S,rawInt es.size,rawInt e] >>= λr=>ret r) (λfin s'=>∃ v,fin=.done (.ret v)∧∃ T' r,s'.TypeIs v T'∧typeLookup (.type T') "__next__"=pure (some r)∧Q v s') E { s with heap:=h1,drawn:=d1 }:=λh1 d1 md v hk hsz hF hTI hp=>by
  refine Aa (wpAny_setEpoch_of (s:={ s with heap:=h1,drawn:=d1 }) (hk _ _ g1) g2 hf (Aa ?_))
  unfold newFields
  refine AU (Ac ⟨_,rfl,"set_iterator",_,⟨_,Ai _ rfl,rfl⟩,Ec.lookup,?_⟩) (by size_fits)
  refine q h1.objs.size _ d1 md hsz ⟨⟨ob,Ad _ (hk _ _ g1),g2⟩,_,v,Ai _ rfl,rfl,rfl,?_⟩ ?_ (λb o e=>Ad _ (hk b o e)) hp ?_
  ·cases md with
   | drw TI pl=>obtain ⟨a,⟨tb,b1,b2⟩,c⟩:=hF;exact ⟨a,⟨tb,Ad _ b1,b2⟩,c⟩
   | txt=>exact hF
   | one=>exact hF
  ·cases md with
   | drw TI pl=>exact Ap (hTI TI pl rfl)
   | txt=>exact True.intro
   | one=>exact True.intro
  ·intro b hb
   rw [Be]
   have lS:=AY (Au lt hsz)
   cases md with
   | drw TI pl =>
    have:=hTI TI pl rfl
    simp only [Md.fp,Am,AQ,BB] at hb
    rcases hb with rfl|rfl|rfl
    ·exact AS _
    ·exact lS
    ·exact AY this
   | txt =>
    simp only [Md.fp,Am,AQ,BB] at hb
    rcases hb with rfl|rfl
    ·exact AS _
    ·exact lS
   | one =>
    simp only [Md.fp,Am,AQ,BB] at hb
    rcases hb with rfl|rfl
    ·exact AS _
    ·exact lS
 refine (?_:wpAny _ _ (setDrawn S >>= _) _ _ s)
 refine Aa ?_
 unfold setDrawn
 refine Aa (Bw g1 g2 hf (Aa (FK (Ac ?_))))
 refine HU (λc=>?_) λc=>?_
 ·have c':(!D3 w&&(!t.plain&&decide (es.size > 1)))=true:=c
  refine Aa (NQ es.size (List.range es.size) (by simp) λys d' p=>?_)
  unfold newTuple
  refine Aa (AU ?_ (by
   show ((ys.map λi:Nat=>rawInt i).toArray).size≤sizeLine
   rw [Ak,Ag,p.length_eq,List.length_range];exact hz))
  have sz:(s.heap.push { cls:=.type "tuple",data:=.seq (ys.map λi:Nat=>rawInt i).toArray }).objs.size=s.heap.objs.size+1:=Be ..
  refine fin _ d' (.drw s.heap.objs.size ys) _ (λb o e=>Ad _ e) (by rw [sz];omega) ⟨rfl,⟨_,Ai _ rfl,rfl,_,rfl⟩,by rw [p.length_eq,List.length_range],λx hx=>BN.mp (p.mem_iff.mp hx)⟩ (λTI pl e=>by cases e;rw [sz];exact AS _) ?_
  unfold LL
  have e1:(List.range es.size).map (λp=>(es.getD p (0,.none)).2)=es.toList.map (·.2):=by
   refine A7 λi=>?_
   rw [Av,Av,AB]
   by_cases hi:i<es.size
   ·simp [hi,Array.getD]
   ·simp [hi]
  rw [← e1]
  exact p.map _
 ·have c':¬ (!D3 w&&(!t.plain&&decide (es.size > 1)))=true:=c
  by_cases bt:D3 w=true
  ·refine fin s.heap s.drawn .txt (rawInt 0) (λ_ _ e=>e) (Ah _) ⟨bt,0,rfl⟩ (λTI pl e=>nomatch e) ?_
   exact (Gv _ es).map _
  ·have bf:D3 w=false:=by simpa using bt
   have hw':=hw.resolve_left bt
   have sz:es.size≤1:=by
    rw [bf] at c'
    rcases hw'.2 with z|z
    ·rw [z] at c';simp at c';omega
    ·exact z
   exact fin s.heap s.drawn .one (rawInt 0) (λ_ _ e=>e) (Ah _) ⟨bf,hw'.2,sz,hw'.1,rfl⟩ (λTI pl e=>nomatch e) (List.Perm.refl _)
theorem OZ {S:Addr}{ob:Obj}{es:Array (Int×Value)}{ep:Nat}{t:SetTable}{Q:List Value->Shared->Prop}(hh:A.handled=none)(hz:es.size≤sizeLine)(g1:s.heap.get? S=some ob)(gc:ob.cls=.type "set")(g2:ob.data=.set es ep t)(hf:t.fits es.size=true)(hw:D3 w=true∨t.led=true∧(t.plain=false∨es.size≤1))
  (q:∀ zs h' tk d',zs.Perm (es.toList.map (·.2))->(∀ b o,s.heap.get? b=some o->h'.get? b=some o)->Q zs { s with heap:=h',toks:=tk,drawn:=d' }):wpAny (model prog w) A (collect (.ref S)) Q E s:=by
 have lt:S<s.heap.objs.size:=Aj g1
 have nS:s.heap.objs.size≠S:=Bt lt
 unfold collect
 refine Aa (wpAny_runValue (Bh F.entry_proto_collect ?_))
 rw [Bb F.plain_proto_collect _]
 refine (?_:wpAny _ A.in1 (newList [] >>= λl=>again (.builtin "list.__iadd__" ⟨[l,.ref S],[]⟩)) _ _ s)
 refine Aa (AU (Ac ⟨BM F.plain_list_iadd _,Bh F.entry_list_iadd ?_⟩))
 rw [Bb F.plain_list_iadd _]
 refine (?_:wpAny _ A.in1 (Builtin.List.listExtendWith (.ref s.heap.objs.size) (.ref S) (.ref s.heap.objs.size)) _ _ _)
 (unfold Builtin.List.listExtendWith)
 have gS:(s.heap.push { cls:=.type "list",data:=.seq ([]:List Value).toArray }).get? S=some ob:=Ad _ g1
 have gL:(s.heap.push { cls:=.type "list",data:=.seq ([]:List Value).toArray }).get? s.heap.objs.size=some { cls:=.type "list",data:=.seq ([]:List Value).toArray }:=Ai _ rfl
 generalize hP:s.heap.push { cls:=.type "list",data:=.seq ([]:List Value).toArray }=h1 at gS gL ⊢
 have k1:∀ b o,s.heap.get? b=some o->h1.get? b=some o:=λb o e=>by rw [← hP];exact Ad _ e
 have sz1:h1.objs.size=s.heap.objs.size+1:=by rw [← hP];exact Be ..
 have ty:Shared.TypeIs { s with heap:=h1 } (.ref S) "set":=⟨ob,gS,gc⟩
 refine Aa (By ty ?_)
 have e1:Builtin.List.listSameRef (.ref s.heap.objs.size) (.ref S)=false:=by simp [Builtin.List.listSameRef,nS]
 have e2:(Value.type "set"==Value.type "list")=false:=by decide
 have e3:(Value.type "set"==Value.type "tuple")=false:=by decide
 simp only [e1,e2,e3,Bool.or_false,AN,A5]
 refine Aa (OQ (s:={ s with heap:=h1 }) hz gS gc g2 hf hw λI h2 d2 md hI st ap k2 pm fpl=>?_)
 refine Aa (AD ?_)
 have ty2:Shared.TypeIs { s with heap:=h2,drawn:=d2 } (.ref S) "set":=⟨ob,k2 _ _ gS,gc⟩
 (unfold Builtin.List.listLengthHint)
 refine Aa (wpAny_specialOf ty2 F.slot_set_len.lookup ?_)
 refine (?_:wpAny _ A.in1 (isInstance (Value.ref S) (.type "set") >>= _) _ _ _)
 refine Aa (B8 ty2 sub_set_self ?_)
 refine (?_:wpAny _ A.in1 (typeOf (Value.ref S) >>= _) _ _ _)
 refine Aa (By ty2 (Ac ?_))
 refine (?_:wpAny _ A.in1 (rule "list.extend.makes-room" >>= λ_=>Builtin.List.listTouch (.ref s.heap.objs.size) >>= λ_=>again (.builtin "list.extend.loop" ⟨[.ref s.heap.objs.size,.ref I,.ref s.heap.objs.size],[]⟩)) _ _ _)
 refine Aa (Bf (Aa ?_))
 refine (?_:wpAny _ A.in1 (updateSeq s.heap.objs.size (·.push .none) >>= λ_=>updateSeq s.heap.objs.size (·.pop)) _ _ _)
 have gL2:=k2 _ _ gL
 refine Aa (Bz gL2 rfl ?_)
 have gL3:=AH (Obj.mapSeq (·.push Value.none)) gL2 rfl
 refine Bz gL3 rfl ?_
 have gL4:=AH (Obj.mapSeq (·.pop)) gL3 rfl
 have nL:s.heap.objs.size∉md.fp S I:=by
  have nI:s.heap.objs.size≠I:=λe=>by
   have:s.heap.objs.size+1≤I:=by rw [← sz1];exact hI
   rw [← e] at this
   exact absurd this (Nat.not_succ_le_self _)
  cases md with
  | drw TI pl =>
   obtain ⟨_,o,v,_,_,_,_,⟨tb,b1,b2,_⟩,_⟩:=st
   have nT:s.heap.objs.size≠TI:=λe=>by
    rw [← e,gL2] at b1
    cases b1
    exact absurd b2 (by decide)
   simp only [Md.fp,Am,AQ,BB,not_or]
   exact ⟨nI,nS,nT⟩
  | txt=>simp only [Md.fp,Am,AQ,BB,not_or];exact ⟨nI,nS⟩
  | one=>simp only [Md.fp,Am,AQ,BB,not_or];exact ⟨nI,nS⟩
 have oth:∀ b o,b≠s.heap.objs.size->h2.get? b=some o->((h2.update s.heap.objs.size (Obj.mapSeq (·.push Value.none))).update s.heap.objs.size (Obj.mapSeq (·.pop))).get? b=some o:=
  λb o hb e=>(Ba _ _ (Ne.symm hb)).trans ((Ba _ _ (Ne.symm hb)).trans e)
 have nSI:S≠I:=λe=>by
  have a:s.heap.objs.size+1≤I:=by rw [← sz1];exact hI
  rw [← e] at a
  exact absurd (Au lt (AA (Bi _) a)) (A8 _)
 have W:=(L0 (prog:=prog) (A:=A.in1) (w:=w) (ep:=ep) hh hf nSI ap).toS
 refine Ac ⟨BM B3 _,codeAny_extend_loopS (A:=A) W hz _ nL _ es.size 0 _ _ _ rfl (AX _) ?_ gL4 (ItemsOf.nil _) λs' acc' c' hm hS' hacc=>?_⟩
 ·exact (L0 (prog:=prog) (A:=A.in1) (w:=w) (ep:=ep) hh hf nSI ap).frame 0 _ _ st λb hb o e=>oth b o (λz=>nL (z▸hb)) e
 refine (?_:wpAny _ A (load s.heap.objs.size >>= _) _ _ s')
 refine Aa (wpAny_load hS' ?_)
 obtain ⟨zh,zg,zd,zt,zo⟩:=s'
 have e4:zg=s.gens:=hm.gens
 have e5:zd=d2:=hm.drawn
 have e6:zo=s.os:=hm.os
 subst e4 e5 e6
 refine Ac (q acc'.toList zh zt zd ?_ λb o e=>?_)
 ·have ln:(LL w S es ep md).length=es.size:=by rw [pm.length_eq];simp
  have:acc'.toList=LL w S es ep md:=by
   refine A7 λi=>?_
   by_cases hi:i<es.size
   ·have hi':i<acc'.size:=by rw [hacc.1];exact hi
    rw [AB,As hi']
    exact (hacc.2 i _ (As hi')).symm
   ·rw [AB,Bl (by rw [hacc.1];omega),List.getElem?_eq_none (by rw [ln];omega)]
  rw [this]
  exact pm
 ·have bl:=Aj e
  refine hm.heap b o ?_ (oth b o (Ap bl) (k2 _ _ (k1 _ _ e)))
  simp only [Am,AQ,BB,not_or]
  refine ⟨Ap bl,λz=>?_⟩
  have a:s.heap.objs.size+1≤I:=by rw [← sz1];exact hI
  rw [← z] at a
  exact absurd (Au bl (AA (Bi _) a)) (A8 _)
noncomputable def Jv (prog:Program)(w:World)(A:Around)(zs out:List Value)(s:Shared):Prop:=∀ (h1:Heap) (a:Addr) (P:PySem.Fin->Shared->Prop) (E':Value->Shared->Prop),(∀ b o,s.heap.get? b=some o->h1.get? b=some o)->s.heap.get? a=none->h1.get? a=some (seqObj "list" zs.toArray 0) ->
 P (.done (.ret .none)) { s with heap:=sortedHeap h1 a zs out.toArray }->wpAny (model prog w) A (Builtin.«list.sort» ⟨[.ref a],[]⟩) P E' { s with heap:=h1 }
theorem Mv {x:Value}{Q:Value->Shared->Prop}(hcol:wpAny (model prog w) A.in1 (collect x) (λzs s1=>zs.length≤sizeLine∧∃ out,Jv prog w A.in1.in1 zs out s1∧∀ h' e a,(∀ b o,s1.heap.get? b=some o->h'.get? b=some o)->s1.heap.objs.size≤a->h'.get? a=some (seqObj "list" out.toArray e)->Q (.ref a) { s1 with heap:=h' }) E s) :
  wpAny (model prog w) A (call (.builtin "sorted") [x]) Q E s:=by
 (refine Calls.call_function_entry kind_sorted plain_sorted entry_sorted (args_sorted1 _) ?_)
 unfold Builtin.«sorted»
 refine Aa (m:=checkCount "sorted" 1 1 _) (Ac (Aa (BS hcol (λzs s1 hq=>?_) λ_ _ z=>z)))
 obtain ⟨hz,out,hs,q⟩:=hq
 refine Aa (wpAny_newList ?_ hz)
 have g1:(s1.heap.push (seqObj "list" zs.toArray 0)).get? s1.heap.objs.size=some (seqObj "list" zs.toArray 0):=Ai _ rfl
 have fr:s1.heap.get? s1.heap.objs.size=none:=Heap.get?_none_of_le (Ah _)
 refine Aa (AD (AM slot_list_sort ⟨_,g1,rfl⟩ entry_list_sort (hs (s1.heap.push (seqObj "list" zs.toArray 0)) _ _ _ (λb o e=>Ad _ e) fr g1 ⟨_,rfl,Ac ⟨_,rfl,?_⟩⟩) (args_list_sort _)))
 obtain ⟨e,he⟩:=sortedHeap_at (out:=out.toArray) g1
 refine q _ e _ (λb o z=>?_) (Ah _) he
 have lb:=Aj z
 rw [sortedHeap_old (Ap lb) (by rw [size_push'];exact AY lb)]
 exact Ad _ z
end
noncomputable def YF:D->Bool
 | .str _=>true
 | _=>false
noncomputable def NO (es:List D):Bool:=es.all λa=>es.all λb=>(ltB a b).isSome
noncomputable def F5 (es:List D):Bool:=decide (es.length<64)&&es.all HL&&NO es&&(es.all YF||es.all tupS)
section
variable {X:Cx} {K:Zc} {th:List Addr} {mu:Sto} {H:Hp} {pins:List (Addr×Obj)} {st:L2.St} {s:Shared}
theorem VR {es:List D}(ho:es.all HL=true)(hc:NO es=true):Pre es.length (RL es) λi j=>ltT (es.getD i .non) (es.getD j .non):=by
 have gd:∀ i,i<es.length->es.getD i .non=es[i]?.getD .non∧∃ d,es[i]? = some d∧es.getD i .non=d∧d∈es:=λi hi=>by
  rw [AJ]
  exact ⟨rfl,es[i],Ao hi,by rw [Ao hi];rfl,B7 hi⟩
 rw [Aq] at ho
 unfold NO at hc
 rw [Aq] at hc
 refine ⟨λi j hi hj=>?_,λi j hi hj h=>Qk _ _ h,λi j k hi hj hk h1 h2=>Se _ _ _ h1 h2⟩
 obtain ⟨_,d,e1,e2,e3⟩:=gd i hi
 obtain ⟨_,d',f1,f2,f3⟩:=gd j hj
 unfold RL
 rw [e1,f1,e2,f2]
 have:=hc d e3
 rw [Aq] at this
 obtain ⟨r,hr⟩:=Option.isSome_iff_exists.mp (this d' f3)
 dsimp only
 rw [hr,WE d d' r (ho d e3) (ho d' f3) hr]
 rfl
theorem V1 (I:L2.Inv X pins st H s){es:List D}{vs:List V}{us:List Value}(hd:es.all YF=true)(r:RepL X.z th H es vs)(q:Vals vs us){A:Around} :
  ∀ i j b C,RL es i j=some b->C b s->PySem.W.kas_ask X.prog X.w A oneType' us i j C s:=λi j b C e hC=>by
 rw [Aq] at hd
 unfold RL at e
 cases e1:es[i]? with
 | none=>rw [e1] at e;cases e
 | some d =>
  cases e2:es[j]? with
  | none=>rw [e1,e2] at e;cases e
  | some d' =>
   rw [e1,e2] at e
   have s1:=hd d (Ar e1)
   have s2:=hd d' (Ar e2)
   cases d<;>first|(cases s1;done)|skip
   cases d'<;>first|(cases s2;done)|skip
   rename_i x y
   unfold ltB at e
   cases e
   obtain ⟨v,v1,v2⟩:=r.get e1
   obtain ⟨v',v1',v2'⟩:=r.get e2
   obtain ⟨u,u1,u2⟩:=q.get v1
   obtain ⟨u',u1',u2'⟩:=q.get v1'
   obtain ⟨rfl,_⟩:=(show _∧_ from v2)
   obtain ⟨rfl,_⟩:=(show _∧_ from v2')
   obtain ⟨t,rfl⟩:=u2
   obtain ⟨t',rfl⟩:=u2'
   unfold PySem.W.kas_ask
   rw [AJ,AJ,u1,u1']
   exact PySem.W.kas_lt_str hC
theorem Uh {es:List D}{vs:List V}{us:List Value}(hd:es.all YF=true)(r:RepL X.z th H es vs)(q:Vals vs us):∃ ss,StrsAre us ss:=by
 refine ⟨_,strsAre_map us λu hu=>?_⟩
 obtain ⟨i,ei⟩:=A9.mp hu
 have hi:i<es.length:=by
  have:=(Af.mp ei).1
  rw [← q.length,r.len] at this
  exact this
 rw [Aq] at hd
 obtain ⟨v,v1,v2⟩:=r.get (Ao hi)
 have hs:=hd _ (B7 hi)
 obtain ⟨u',u1,u2⟩:=q.get v1
 rw [ei] at u1
 cases u1
 cases e:es[i]<;>rw [e] at hs v2<;>first|(cases hs;done)|skip
 obtain ⟨rfl,_⟩:=(show _∧_ from v2)
 obtain ⟨t,rfl⟩:=u2
 exact ⟨_,t,rfl⟩
theorem sorts (hu:X.A.units+64<cLine)(I:L2.Inv X pins st H s){es:List D}{vs:List V}{zs:List Value}(h2:RepL X.z th H es vs)(rv:Vals vs zs)(ok:F5 es=true) :
  ∃ ws out,RepL X.z th H (GX es) ws∧Vals ws out∧Jv X.prog X.w X.A.in1.in1 zs out s:=by
 unfold F5 at ok
 rw [Ab,Ab,Ab,Ae,Bool.or_eq_true] at ok
 obtain ⟨⟨⟨c64,ho⟩,hc⟩,hk⟩:=ok
 have ho':∀ d∈es,HL d=true:=by rw [Aq] at ho;exact ho
 have lz:zs.length=es.length:=by rw [← rv.length,h2.len]
 by_cases c2:es.length<2
 ·have:GX es=es:=by
   refine (KH ho' (List.Perm.refl _) ?_).symm
   match es,c2 with
   | [],_=>exact .nil
   | [_],_=>exact List.pairwise_singleton _ _
   | _::_::_,c2=>exact absurd c2 (by simp only [List.length_cons];omega)
  rw [this]
  exact ⟨vs,zs,h2,rv,λh1 a P E' hk fr hl hP=>UA hl (by rw [lz];exact c2) hP⟩
 ·obtain ⟨p,p1,pm,up⟩:=Vh (VR ho hc) (by omega)
  have pl:p.size=es.length:=by rw [← Array.length_toList,pm.length_eq,List.length_range]
  have inn:∀ i∈p.toList,i<es.length:=λi hi=>BN.mp (pm.mem_iff.mp hi)
  have es_eq:p.toList.map (λi=>es.getD i .non)=GX es:=by
   refine KH ho' ?_ ?_
   ·refine (pm.map _).trans ?_
    have:(List.range es.length).map (λi=>es.getD i .non)=es:=by
     refine A7 λi=>?_
     rw [Av]
     by_cases hi:i<es.length
     ·simp [hi]
     ·simp [hi]
    rw [this]
   ·rw [List.pairwise_iff_getElem]
    intro i j hi hj hij
    rw [Ag,Array.length_toList,pl] at hi hj
    have:=up i j (Nat.le_of_lt hij) hj
    rw [UB (by omega),UB (by omega)] at this
    dsimp only at this
    unfold leT
    simp only [List.getElem_map,Array.getElem_toList]
    rw [this]
    rfl
  refine ⟨p.toList.map λi=>vs.getD i .non,p.toList.map λi=>zs.getD i Value.none,?_,?_,λh1 a P E' hk1 fr hl hP=>?_⟩
  ·rw [← es_eq]
   exact RepL.pick (ds:=es) (vs:=vs) _ _ _ λi hi=>by
    have hi':=inn i hi
    obtain ⟨v,ev,rv'⟩:=h2.get (show es[i]? = some es[i] by simp [hi'])
    rw [AJ,AJ,ev,show es[i]? = some es[i] by simp [hi']]
    exact rv'
  ·exact Vals.pick rv _ _ _ λi hi=>by
    have hi':=inn i hi
    obtain ⟨v,ev,_⟩:=h2.get (show es[i]? = some es[i] by simp [hi'])
    obtain ⟨u,eu,ru⟩:=rv.get ev
    rw [AJ,AJ,ev,eu]
    exact ru
  ·have I6:L2.Inv X pins st H { s with heap:=((h1.update a (Obj.mapSeq λ_=>#[])).push (seqObj "tuple" zs.toArray 0)).push (seqObj "list" #[] 0) }:=I.kept (t':=s.toks) λb o q=>by
    refine Ad _ (Ad _ ?_)
    rw [Heap.get?_update_ne _ _ _ _ (λz=>by rw [z,fr] at q;cases q)]
    exact hk1 b o q
   rcases hk with hk|hk
   ·obtain ⟨ss,hS⟩:=Uh hk h2 rv
    refine P4 (kd:=oneType') p (by rw [lz];exact pl) hl (by rw [lz];omega) (by rw [lz];exact c64) (λQ' E2 hq=>?_) (λG hG=>?_) hP
    ·match zs,hS,lz with
     | [],_,lz=>simp at lz;omega
     | [_],_,lz=>simp at lz;omega
     | v1::v2::r,hS,_=>rw [keyKind_strs hS];exact Ac hq
    ·rw [lz]
     exact JN (λi j b C ea hC=>V1 I6 hk h2 rv i j b C ea hC) _ p G p1 hG
   ·obtain ⟨fs,f1,f2,f3⟩:=Ld I6 hk h2 rv
    refine P4 (kd:=tuples' true) p (by rw [lz];exact pl) hl (by rw [lz];omega) (by rw [lz];exact c64) (λQ' E2 hq=>PySem.W.kat_kind f1 (by rw [f2];omega) (T:=.type "str") (λv hv=>?_) rfl hq) (λG hG=>?_) hP
    ·obtain ⟨x,tk,rfl⟩:=f3 v hv
     exact λA Q E s _ hq=>By (typeIs_str s x tk) hq
    ·rw [lz]
     exact JN (λi j b C ea hC=>Ya I6 hk h2 rv (A:=X.A.in1.in1) (by show X.A.units+1+1+60<cLine;omega) i j b C ea hC) _ p G p1 hG
end
theorem VJ (t:SetTable)(es:Array (Int×Value))(h:Int)(x:Value):(layNew t es h x).2.1.led=t.led∧((layNew t es h x).2.1.plain=t.plain∨(layNew t es h x).2.1.plain=false):=by
 unfold layNew
 split
 ·dsimp only
  unfold SetTable.orStandIn
  split
  ·exact ⟨rfl,.inl rfl⟩
  ·exact ⟨rfl,.inr rfl⟩
 ·exact ⟨rfl,.inr rfl⟩
theorem SR {mask finger moves:Nat}{led plain:Bool}{hs:Array Int}{r:SetTable×Array Nat}(h:SetTable.laid mask finger moves led plain hs=some r):r.1.led=led∧r.1.plain=plain:=by
 unfold SetTable.laid at h
 cases e:SetTable.layClean mask hs with
 | none=>rw [e] at h;cases h
 | some o=>rw [e] at h;cases h;exact ⟨rfl,rfl⟩
theorem RJ (t:SetTable)(es:Array (Int×Value))(n:Nat):(relayAll t es n).2.1.led=t.led∧((relayAll t es n).2.1.plain=t.plain∨(relayAll t es n).2.1.plain=false):=by
 unfold relayAll
 split
 ·rename_i t' order e
  have:=SR e
  dsimp only at this ⊢
  split
  ·exact ⟨this.1,.inl this.2⟩
  ·exact ⟨rfl,.inr rfl⟩
 ·exact ⟨rfl,.inr rfl⟩
noncomputable def EnS (w:World)(e:Int×Value)(x:Str):Prop:=e.1=hashStr w x∧∃ t,e.2=.str x t
noncomputable def Nt (w:World)(S:Addr)(ls:List Str)(led:Bool)(h:Heap):Prop:=∃ o es ep t,h.get? S=some o∧o.ExactSet∧o.data=.set es ep t∧t.fits es.size=true∧t.led=led∧(t.plain=false∨es.size=0)∧∃ ss:List Str,ss.Perm ls∧Paired (EnS w) es.toList ss
theorem LU {α β:Type}{F:α->β->Prop}:∀ {xs xs':List α},xs.Perm xs'->∀ {ys:List β},Paired F xs' ys->∃ ys',ys'.Perm ys∧Paired F xs ys':=by
 intro xs xs' p
 induction p with
 | nil=>intro ys h;cases h;exact ⟨[],.nil,.nil⟩
 | cons x p ih =>
  intro ys h
  cases h with
  | cons r t =>
   obtain ⟨ys',a,b⟩:=ih t
   exact ⟨_,a.cons _,.cons r b⟩
 | swap x y l =>
  intro ys h
  cases h with
  | cons r t =>
   cases t with
   | cons r' t=>exact ⟨_,List.Perm.swap _ _ _,.cons r' (.cons r t)⟩
 | trans p q ih1 ih2 =>
  intro ys h
  obtain ⟨ys',a,b⟩:=ih2 h
  obtain ⟨ys2,c,d⟩:=ih1 b
  exact ⟨ys2,c.trans a,d⟩
section
variable {prog:Program} {w:World} {A:Around} {E:Value->Shared->Prop} {s:Shared}
theorem XR {es:List (Int×Value)}{ss:List Str}(h:Paired (EnS w) es ss):ElemsOf (PySem.strKind prog w) es:=by
 induction h with
 | nil=>intro e he;cases he
 | cons r t ih =>
  obtain ⟨r1,tk,r2⟩:=r
  intro e he
  rcases Am.mp he with rfl|he
  ·refine ⟨⟨_,?_,r1⟩,by rw [r2];rfl⟩
   rw [r2]
   simp [PySem.strKind,Value.isStrOf]
  ·exact ih e he
noncomputable def Hv (r:List Str)(v:Str):List Str:=if v∈r then r else r++[v]
theorem SN {S:Addr}{ls:List Str}{led:Bool}{x:Str}{t:Tok}{Q:Bool->Shared->Prop}(hS:Nt w S ls led s.heap)(hz:ls.length+1<scanBound)
  (q:∀ h' b tk,Heap.SameBut S s.heap h'->Nt w S (Hv ls x) led h'->s.toks≤tk->Q b { s with heap:=h',toks:=tk }):wpAny (model prog w) A (setAdd S (.str x t)) Q E s:=by
 obtain ⟨o,es,ep,tb,ho,hex,hd,hf,hl,hp,ss,pm,pr⟩:=hS
 have sz:es.size=ls.length:=by rw [← pm.length_eq,← Dw pr,Array.length_toList]
 have hb:es.size+1<scanBound:=by omega
 have key:(PySem.strKind prog w).is x (.str x t)=true:=by simp [PySem.strKind,Value.isStrOf]
 have hel:ElemsOf (PySem.strKind prog w) es.toList:=XR pr
 have his:∀ (j:Nat) e,es.toList[j]? = some e->((PySem.strKind prog w).is x e.2=true ↔ ss[j]? = some x):=λj e ej=>by
  obtain ⟨y,y1,y2,tk,y3⟩:=(DD pr j).1 e ej
  rw [y1,y3]
  simp only [PySem.strKind,Value.isStrOf,Option.some.injEq]
  constructor
  ·intro z;simpa using z
  ·intro z;simpa using z
 unfold setAdd
 refine AD (Aa ((PySem.strKind prog w).pyHash (k:=x) key ?_))
 (unfold setAddHashed setAddHashedIn)
 refine AD (Aa (Bw (s:={ s with toks:=s.toks+1 }) ho hd hf ?_))
 dsimp only
 rw [byScan_of (knd:=PySem.strKind prog w) (by rfl) (by omega) hel]
 simp only [↓reduceIte]
 unfold setAddByScan
 refine Aa (Aa (Bf (Aa (wpAny_setScan_of (knd:=PySem.strKind prog w) (s:={ s with toks:=s.toks+1 }) key ho hd hf hel ?_))))
 cases hr:es.toList.findIdx? (λe=>(PySem.strKind prog w).is x e.2) with
 | some j =>
  obtain ⟨hj,hpj,_⟩:=List.findIdx?_eq_some_iff_getElem.mp hr
  have mem:x∈ls:=pm.mem_iff.mp (Ar ((his j _ (Ao hj)).mp hpj))
  refine Ac (Ac (q s.heap _ _ (Heap.SameBut.refl _ _) ?_ (Bi _)))
  unfold Hv
  rw [if_pos mem]
  exact ⟨o,es,ep,tb,ho,hex,hd,hf,hl,hp,ss,pm,pr⟩
 | none =>
  have nmem:x∉ls:=λz=>by
   obtain ⟨j,ej⟩:=A9.mp (pm.mem_iff.mpr z)
   obtain ⟨e,e1,_⟩:=(DD pr j).2 x ej
   have:=List.findIdx?_eq_none_iff.mp hr e (Ar e1)
   rw [(his j e e1).mpr ej] at this
   cases this
  dsimp only
  have L1:=layNew_perm tb es ((PySem.strKind prog w).hash x) (.str x t)
  have L2':=layNew_fits tb es ((PySem.strKind prog w).hash x) (.str x t)
  have L3:=VJ tb es ((PySem.strKind prog w).hash x) (.str x t)
  generalize layNew tb es ((PySem.strKind prog w).hash x) (.str x t)=L at L1 L2' L3 ⊢
  obtain ⟨es1,t1,wasDummy,gave⟩:=L
  dsimp only at L1 L2' L3 ⊢
  rw [BQ] at L1
  obtain ⟨ss1,pm1,pr1⟩:=LU L1 (G9 pr (.cons (show EnS w ((PySem.strKind prog w).hash x,Value.str x t) x from ⟨rfl,t,rfl⟩) .nil))
  have al:Hv ls x=ls++[x]:=by unfold Hv;rw [if_neg nmem]
  have pm2:ss1.Perm (Hv ls x):=by rw [al];exact pm1.trans (pm.append (List.Perm.refl _))
  have sz1:es1.size=ls.length+1:=by rw [← Array.length_toList,Dw pr1,pm2.length_eq,al];simp
  have hz1:es1.size≤sizeLine:=fits_of_scanBound (by omega)
  have gw:∀ (b:Bool) {s1:Shared} {Q':Unit->Shared->Prop},Q' () s1->wpAny (model prog w) A (match b with|true=>rule "set.scan.the-table-gave-way"|false=>pure ()) Q' E s1:=λb s1 Q' hq=>by
   cases b
   ·exact Ac hq
   ·exact Bf hq
  refine Aa (gw gave ?_)
  have go:∀ t2:SetTable,t2.fits es1.size=true->t2.led=led->t2.plain=false->wpAny (model prog w) A (do
    storeSet S es1 t2
    if (!wasDummy&&t2.tooFull)=true then do
      (match (relayAll t2 es1 (SetTable.grown es1.size)).2.2 with|true=>rule "set.scan.the-table-gave-way"|false=>pure ())
      storeSet S (relayAll t2 es1 (SetTable.grown es1.size)).1 (relayAll t2 es1 (SetTable.grown es1.size)).2.1
      pure (some true)
     else pure (some true)) (λr s'=>wpAny (model prog w) A (match r with|some added=>pure added|none=>setAddHashedIn S (.str x t) ((PySem.strKind prog w).hash x) 99999) Q E s') E { s with toks:=s.toks+1 }:=λt2 f2 l2 p2=>by
   refine Aa (wpAny_storeSet_of (s:={ s with toks:=s.toks+1 }) ho hd ?_ hz1)
   have ho1:(s.heap.update S (Obj.putSet es1 t2)).get? S=some { o with data:=.set es1 (ep+1) t2 }:=by
    have:=AH (Obj.putSet es1 t2) ho (by rw [putSet_of es1 t2 hd];rfl)
    rw [putSet_of es1 t2 hd] at this
    exact this
   refine HU (λ_=>?_) λ_=>?_
   ·have R1:=relayAll_perm t2 es1 (SetTable.grown es1.size)
    have R2:=relayAll_fits t2 es1 (SetTable.grown es1.size)
    have R3:=RJ t2 es1 (SetTable.grown es1.size)
    generalize relayAll t2 es1 (SetTable.grown es1.size)=R at R1 R2 R3 ⊢
    obtain ⟨es2,t3,g2⟩:=R
    dsimp only at R1 R2 R3 ⊢
    obtain ⟨ss2,pm3,pr3⟩:=LU R1 pr1
    have sz2:es2.size=es1.size:=by rw [← Array.length_toList,R1.length_eq,Array.length_toList]
    refine Aa (gw g2 (Aa (wpAny_storeSet_of ho1 rfl (Ac ?_) (by rw [sz2];exact hz1))))
    refine Ac (q _ _ _ ((Aw ..).trans (Aw ..)) ?_ (Bi _))
    have ho2:=AH (Obj.putSet es2 t3) ho1 (by rw [putSet_of es2 t3 rfl];rfl)
    rw [putSet_of es2 t3 rfl] at ho2
    exact ⟨_,es2,_,t3,ho2,hex,rfl,R2,R3.1.trans l2,.inl (R3.2.elim (λz=>z.trans p2) id),ss2,pm3.trans pm2,pr3⟩
   ·refine Ac (Ac (q _ _ _ (Aw ..) ?_ (Bi _)))
    exact ⟨_,es1,_,t2,ho1,hex,rfl,f2,l2,.inl p2,ss1,pm2,pr1⟩
  refine HU (λc=>?_) λc=>?_
  ·refine Aa ?_
   rw [hashByValue_scannable 8 (by rfl)]
   refine Ac ?_
   refine go { t1 with plain:=false } (SetTable.fits_plain_off L2') (L3.1.trans hl) rfl
  ·refine Aa (Ac ?_)
   have c':t1.plain=false:=by simpa using c
   exact go t1 L2' (L3.1.trans hl) c'
theorem TJ (a:Value){Q1:Value->Shared->Prop}(h:Q1 (.ref s.heap.objs.size) { s with heap:=s.heap.push { cls:=.type "set",dict:=none,data:=.set #[] 0 (.fresh 0 0 (!D3 w)) } }) :
  codeAny (model prog w) A (.call (.builtin "set.__new__") ⟨[.type "set",a],[]⟩) (wants Q1 E) s:=by
 refine codeAny_of_tree (?_:wpAny _ A.in1 (do checkBuiltinCall "set.__new__" ⟨[.type "set",a],[]⟩;again (.builtin "set.__new__" ⟨[.type "set",a],[]⟩)) _ _ s)
 refine Aa (wpAny_of_eq (F.newCall_set_1 a) (Ac ⟨BM F.plain_set_new _,Bh F.entry_set_new ?_⟩))
 rw [Bb F.plain_set_new _]
 (unfold Builtin.«set.__new__» Builtin.Frozenset.newClass)
 have hsub:=sub_set_self
 obtain ⟨hp,g,d,tk,os⟩:=s
 dsimp only
 wp_walk
 refine wpAny_askSetting (Ac ?_)
 dsimp only
 simp only [newObj]
 exact Aa (wpAny_alloc (Ac (Ac h)))
noncomputable def YieldsV (prog:Program)(w:World)(A:Around)(E:Value->Shared->Prop)(h:Heap)(l:Addr)(us:List Value):Prop:=
 ∀ (s1:Shared) (A':Around) (R:Value->Shared->Prop),A'.handled=A.handled->(∀ b o,h.get? b=some o->s1.heap.get? b=some o) ->
  (∀ (I:Addr) (fp:List Addr) (h2:Heap) (d2:Drawn) (P:Nat->Value->Prop) (St:Nat->Heap->Prop),s1.heap.objs.size≤I->(∀ b∈fp,b<h2.objs.size)->(∀ b∈fp,s1.heap.objs.size≤b∨∃ o,h.get? b=some o)->(∀ A2:Around,A2.handled=A.handled->Walks prog w A2 I fp [I] us.length P St)->St 0 h2 ->
   (∀ b o,s1.heap.get? b=some o->h2.get? b=some o)->(∀ i v,P i v->us[i]? = some v)->R (.ref I) { s1 with heap:=h2,drawn:=d2 })->wpAny (model prog w) A' (pyIter (.ref l)) R E s1
theorem Rk {I:Addr}{fp:List Addr}{n:Nat}{P:Nat->Value->Prop}{St:Nat->Heap->Prop}{R:Result->Shared->Prop}(W:Walks prog w A.in1 I fp [I] n P St)(S:Addr)(hSf:S∉fp){led:Bool}{ss:List Str}(hl:ss.length=n)(hval:∀ i v,P i v->∃ x t,ss[i]? = some x∧v=.str x t)(hb:n+1<scanBound)(k:Nat) :
  ∀ (i:Nat) (s:Shared) (ls:List Str),i+k=n->ls.length≤i->St i s.heap->Nt w S ls led s.heap->(∀ h' tk,(∀ b o,b≠S->b≠I->s.heap.get? b=some o->h'.get? b=some o)->Nt w S ((ss.drop i).foldl Hv ls) led h'->R (.ok (.ret .none)) { s with heap:=h',toks:=tk }) ->
   codeAny (model prog w) A (Code.builtin "set.update.loop" ⟨[.ref S,.ref I],[]⟩) R s:=by
 have nI:I∈fp:=W.sub _ (by simp)
 have nS:S≠I:=λz=>hSf (z▸nI)
 have keepS:∀ {h h':Heap} {ls:List Str},(∀ b o,b∉[I]->h.get? b=some o->h'.get? b=some o)->Nt w S ls led h->Nt w S ls led h':=λk ⟨o,es,ep,t,ho,r⟩=>⟨o,es,ep,t,k S o (by simpa using nS) ho,r⟩
 induction k with
 | zero =>
  intro i s ls e lsl st hS hR
  obtain rfl:i=n:=by omega
  refine Bh PyProof.Rows.F.entry_set_update_loop ?_
  rw [Bb B4 _]
  refine Aa (m:=pyNext (.ref I)) (W.done s _ _ st λh1 tk1 k1=>Ac (a:=Fin.done (.ret Value.none)) (hR h1 tk1 (λb o _ hb z=>k1 b o (by simpa using hb) z) ?_))
  rw [List.drop_eq_nil_of_le (by omega)]
  exact keepS k1 hS
 | succ k ih =>
  intro i s ls e lsl st hS hR
  have lt:i<n:=by omega
  refine Bh PyProof.Rows.F.entry_set_update_loop ?_
  rw [Bb B4 _]
  refine Aa (m:=pyNext (.ref I)) (W.item i s _ _ lt st λv h1 tk1 hP st1 k1=>?_)
  obtain ⟨x,t,ex,ev⟩:=hval i v hP
  subst ev
  refine Aa (m:=holding [Value.str x t] (setAdd S (.str x t))) (AD (SN (s:={ s with heap:=h1,toks:=tk1 }) (keepS k1 hS) (by omega) λh2 _ tk2 sb hS2 _=>?_))
  have dr:ss.drop i=x::ss.drop (i+1):=by
   have hi:i<ss.length:=by omega
   rw [BG hi]
   rw [Ao hi] at ex
   rw [AE ex]
  have al:(Hv ls x).length≤i+1:=by
   unfold Hv
   split
   ·omega
   ·rw [Az,List.length_singleton];omega
  refine Ac (And.intro (BM B4 _) (ih (i+1) _ (Hv ls x) (by omega) al (W.frame _ h1 _ st1 λb hb o z=>?_) hS2 λh3 tk3 k3 hS3=>hR h3 tk3 (λb o b1 b2 z=>?_) ?_))
  ·exact (sb.2 b λq:b=S=>hSf (q▸hb)).trans z
  ·exact k3 b o b1 b2 ((sb.2 b b1).trans (k1 b o (by simpa using b2) z))
  ·rw [dr]
   exact hS3
set_option maxHeartbeats 4000000 in
theorem Qn {l:Addr}{ol:Obj}{T:String}{us:List Value}{ss:List Str}{Q:Value->Shared->Prop}
  (hol:s.heap.get? l=some ol) (hcl:ol.cls=.type T) (t1:isSubtype (.type T) (.type "set")=pure false) (t2:isSubtype (.type T) (.type "frozenset")=pure false) (t3:(Value.type T==Value.type "dict")=false)
  (hb:us.length+1<scanBound) (hss:Paired (λ(u:Value) (x:Str)=>∃ t,u=.str x t) us ss) (hit:YieldsV prog w A E s.heap l us)
  (h:∀ (h':Heap) (tk:Nat) d',Nt w s.heap.objs.size (ss.foldl Hv []) (!D3 w) h'->(∀ b o,s.heap.get? b=some o->h'.get? b=some o)->Q (.ref s.heap.objs.size) { s with heap:=h',toks:=tk,drawn:=d' }) :
  wpAny (model prog w) A (PySem.call (.type "set") [.ref l]) Q E s:=by
 refine call_cls (Q1:=λobj z=>obj=.ref s.heap.objs.size∧z={ s with heap:=s.heap.push (Jf (!D3 w)) }) PySem.F.called_set (PySem.F.typeCall_set_1 _) (TJ (.ref l) ⟨rfl,rfl⟩) λobj z hz=>?_
 obtain ⟨e1,e2⟩:=hz
 subst e1 e2
 have gS:(s.heap.push (Jf (!D3 w))).get? s.heap.objs.size=some (Jf (!D3 w)):=Ai _ rfl
 refine ⟨⟨_,gS,rfl⟩,codeAny_call_builtin PySem.F.called_set.init.plain PySem.F.entry_set_init (check_set_init_1 ⟨_,gS,rfl⟩ ?_)⟩
 obtain ⟨oc,od,oda,osl⟩:=ol
 simp only at hcl
 subst hcl
 have gl:(s.heap.push (Jf (!D3 w))).get? l=some { cls:=.type T,dict:=od,data:=oda,slots:=osl }:=Ad _ hol
 unfold Builtin.«set.__init__»
 unfold noKeywords
 unfold Builtin.Frozenset.updateFrom
 generalize hPI:pyIter=PI
 wp_walk
 subst hPI
 have sz:(s.heap.push (Jf (!D3 w))).objs.size=s.heap.objs.size+1:=Be ..
 refine hit _ _ _ rfl (λb o e=>Ad _ e) λI fp h2 d2 P St hI fpl fpn W st0 k2 hval=>Aa (wpAny_runValue ?_)
 have nf:s.heap.objs.size∉fp:=λz=>by
  rcases fpn _ z with q|⟨o,q⟩
  ·have q':(s.heap.push (Jf (!D3 w))).objs.size≤s.heap.objs.size:=q
   rw [sz] at q'
   exact absurd q' (Nat.not_succ_le_self _)
  ·exact absurd (Aj q) (A8 _)
 have h0:Nt w s.heap.objs.size [] (!D3 w) h2:=⟨_,#[],0,_,k2 _ _ gS,⟨rfl,rfl,rfl⟩,rfl,by rfl,rfl,.inr rfl,[],.nil,.nil⟩
 have ssl:ss.length=us.length:=(Dw hss).symm
 refine Rk (W A.in1.in1.in1 rfl) s.heap.objs.size nf (ss:=ss) ssl (λi v hP=>?_) hb us.length 0 { s with heap:=h2,drawn:=d2 } [] (Nat.zero_add _) (Ah _) st0 h0 λh3 tk3 k3 hS=>?_
 ·obtain ⟨x,x1,t,x2⟩:=(DD hss i).1 v (hval i v hP)
  exact ⟨x,t,x1,x2⟩
 ·refine Ac (Ac (a:=Fin.done (.ret Value.none)) (And.intro rfl (h h3 tk3 d2 hS λb o e=>?_)))
  have blt:=Aj e
  refine k3 b o (Ap blt) (λz=>?_) (k2 _ _ (Ad _ e))
  have hI':(s.heap.push (Jf (!D3 w))).objs.size≤I:=hI
  rw [sz,← z] at hI'
  exact absurd (Au blt (AA (Bi _) hI')) (A8 _)
end
noncomputable def Ff (r:List D)(v:D):List D:=if v∈r then r else r++[v]
noncomputable def Fy (es:List D):List D:=es.foldl Ff []
theorem Kc (ss:List Str):∀ r:List Str,(ss.foldl Hv r).map D.str=(ss.map D.str).foldl Ff (r.map D.str):=by
 induction ss with
 | nil=>intro r;rfl
 | cons x ss ih =>
  intro r
  rw [List.foldl_cons,ih,AL,List.foldl_cons]
  congr 1
  unfold Hv Ff
  have:D.str x∈r.map D.str ↔ x∈r:=by
   rw [Ay]
   exact ⟨λ⟨y,hy,e⟩=>by cases e;exact hy,λh=>⟨x,h,rfl⟩⟩
  by_cases c:x∈r
  ·rw [if_pos c,if_pos (this.mpr c)]
  ·rw [if_neg c,if_neg (λz=>c (this.mp z)),AV];rfl
theorem NL (es:List D):∀ r:List D,r.Nodup->(es.foldl Ff r).Nodup:=by
 induction es with
 | nil=>intro r h;exact h
 | cons x es ih =>
  intro r h
  rw [List.foldl_cons]
  refine ih _ ?_
  unfold Ff
  split
  ·exact h
  ·rename_i c
   refine Bv.mpr ⟨h,by simp,λa ha b hb=>?_⟩
   rw [An.mp hb]
   exact λe=>c (e▸ha)
theorem Mb (es:List D):∀ (r:List D) (d:D),d∈es.foldl Ff r ↔ d∈r∨d∈es:=by
 induction es with
 | nil=>intro r d;simp
 | cons x es ih =>
  intro r d
  rw [List.foldl_cons,ih,Am]
  unfold Ff
  split
  ·rename_i c
   constructor
   ·rintro (h|h)
    ·exact .inl h
    ·exact .inr (.inr h)
   ·rintro (h|rfl|h)
    ·exact .inl h
    ·exact .inl c
    ·exact .inr h
  ·rw [AR,An]
   constructor
   ·rintro ((h|h)|h)
    ·exact .inl h
    ·exact .inr (.inl h)
    ·exact .inr (.inr h)
   ·rintro (h|h|h)
    ·exact .inl (.inl h)
    ·exact .inl (.inr h)
    ·exact .inr h
theorem Q5 (es:List D):∀ r:List D,(es.foldl Ff r).length≤r.length+es.length:=by
 induction es with
 | nil=>intro r;simp
 | cons x es ih =>
  intro r
  rw [List.foldl_cons,List.length_cons]
  refine AA (ih _) ?_
  unfold Ff
  split
  ·omega
  ·rw [Az,List.length_singleton];omega
noncomputable def Lv:Fn:=λds mu=>match sq1 ds mu with
 | some es=>match strsOf es with
  | some _=>if es.length<4000 then some (.set (Fy es),mu) else none
  | none=>none
 | none=>none
theorem Sr {ds:List D}{mu:Sto}{r:D×Sto}(h:Lv ds mu=some r):∃ d es ss,ds=[d]∧G6 mu d=some es∧strsOf es=some ss∧es.length<4000∧r=(.set (Fy es),mu):=by
 unfold Lv at h
 split at h
 ·rename_i es e
  split at h
  ·rename_i ss e2
   split at h
   ·rename_i c
    cases h
    obtain ⟨d,rfl,e3⟩:=KI e
    exact ⟨d,es,ss,rfl,e3,e2,c,rfl⟩
   ·cases h
  ·cases h
 ·cases h
section
variable {X:Cx} {K:Zc} {th:List Addr} {mu:Sto} {H:Hp} {pins:List (Addr×Obj)} {st:L2.St} {s:Shared}
theorem Kf (I:L2.Inv X pins st H s)(hc:X.calm=true){a:Addr}{vs:List V}{E:Value->Shared->Prop}(h:SqL X.K H a vs):∃ us,Vals vs us∧YieldsV X.prog X.w X.A E s.heap a us∧∃ o,s.heap.get? a=some o∧o.cls=.type "list":=by
 obtain ⟨its,rv,pl,hz⟩:=I.list h
 obtain ⟨o,n,ho,hcl,hdd,hdt⟩:=id pl
 refine ⟨its,rv,λs1 A' R hA hk hR=>?_,o,ho,hcl⟩
 have pl':s1.heap.IsList a its.toArray:=pl.isList.at λo e=>hk a o e
 have lt:a<s1.heap.objs.size:=Aj (hk a o ho)
 have hh:=I.ok.hd hc
 refine wpAny_pyIter_list pl' (hR s1.heap.objs.size [s1.heap.objs.size,a] _ s1.drawn (λi v=>its.toArray[i]? = some v) (λi h=>h.IsListIter s1.heap.objs.size a i∧h.IsList a its.toArray) (Ah _) (λb hb=>?_) (λb hb=>?_) (λA2 hA2=>?_) ?_ (λb o e=>Ad _ e) λi v hP=>?_)
 ·rw [Be]
  rcases Am.mp hb with rfl|hb
  ·exact AS _
  ·rw [An.mp hb];exact AY lt
 ·rcases Am.mp hb with rfl|hb
  ·exact .inl (Ah _)
  ·rw [An.mp hb];exact .inr ⟨o,ho⟩
 ·have:=Walks.list (prog:=X.prog) (w:=X.w) (hA2.trans hh) s1.heap.objs.size a (Ap lt) its.toArray
  rw [Ak] at this
  exact this
 ·exact ⟨⟨_,Ai _ rfl,rfl,rfl⟩,pl'.push _⟩
 ·have hP':its.toArray[i]? = some v:=hP
  simpa using hP'
theorem Jy (I:L2.Inv X pins st H s)(hc:X.calm=true){a:Addr}{vs:List V}{E:Value->Shared->Prop}(h:SqT X.K H a vs):∃ us,Vals vs us∧YieldsV X.prog X.w X.A E s.heap a us∧∃ o,s.heap.get? a=some o∧o.cls=.type "tuple":=by
 obtain ⟨its,rv,pl,hz⟩:=I.tuple h
 obtain ⟨o,ho,hcl,n,hdt⟩:=id pl
 refine ⟨its,rv,λs1 A' R hA hk hR=>?_,o,ho,hcl⟩
 have pl':s1.heap.IsTuple a its.toArray:=⟨o,hk a o ho,hcl,n,hdt⟩
 have lt:a<s1.heap.objs.size:=Aj (hk a o ho)
 have hh:=I.ok.hd hc
 refine wpAny_pyIter_tuple pl' (hR s1.heap.objs.size [s1.heap.objs.size,a] _ s1.drawn (λi v=>its.toArray[i]? = some v) (λi h=>h.IsTupleIter s1.heap.objs.size a i∧h.IsTuple a its.toArray) (Ah _) (λb hb=>?_) (λb hb=>?_) (λA2 hA2=>?_) ?_ (λb o e=>Ad _ e) λi v hP=>?_)
 ·rw [Be]
  rcases Am.mp hb with rfl|hb
  ·exact AS _
  ·rw [An.mp hb];exact AY lt
 ·rcases Am.mp hb with rfl|hb
  ·exact .inl (Ah _)
  ·rw [An.mp hb];exact .inr ⟨o,ho⟩
 ·have:=Walks.tuple (prog:=X.prog) (w:=X.w) (hA2.trans hh) s1.heap.objs.size a (Ap lt) its.toArray
  rw [Ak] at this
  exact this
 ·exact ⟨⟨_,Ai _ rfl,rfl,rfl⟩,⟨o,Ad _ (hk a o ho),hcl,n,hdt⟩⟩
 ·have hP':its.toArray[i]? = some v:=hP
  simpa using hP'
theorem Xp {P:Program}{w:World}{h:Heap}{a:Addr}{us:List V}(x:YW w a us h):ObjOk P w H h a (Q6 w a us):=by
 refine ⟨x,?_,λh1 h2 ⟨o,es,ep,t,ho,r⟩ k=>⟨o,es,ep,t,k o ho,r⟩⟩
 obtain ⟨o,es,ep,t,ho,r⟩:=x
 exact ⟨o,ho⟩
theorem LW (hc:X.calm=true):CallV X (.type "set") Lv:=by
 intro pins s st H xs us Q I r h
 obtain ⟨th,mu,ds,so,rd,t⟩:=h
 obtain ⟨a0,mu0,e0,_⟩:=id t
 obtain ⟨d,es,ss,rfl,e2,e3,hl,er⟩:=Sr e0
 rw [e0] at t
 cases er
 obtain ⟨x,rfl,rx⟩:=DU rd
 obtain ⟨a,vs,rfl,h1,h2,h3⟩:=Gm so e2 rx
 obtain ⟨u,rfl,ru⟩:=vals1 r
 cases ru
 have em:=Lm e3
 rw [em] at h2
 obtain ⟨ev,hok⟩:=Mp h2
 subst ev
 have fin:∀ (h':Heap) (tk:Nat) d',Nt X.w s.heap.objs.size (ss.foldl Hv []) (!D3 X.w) h'->(∀ b o,s.heap.get? b=some o->h'.get? b=some o)->EP X pins st Q (.ref s.heap.objs.size) { s with heap:=h',toks:=tk,drawn:=d' }:=λh' tk d' hS hk=>by
  obtain ⟨o,tes,ep,tb,ho,hex,hd,hf,hled,hpl,ss',pm,pr⟩:=hS
  have hp:H s.heap.objs.size=none:=I.hok.fresh (Ah _)
  have ol:(ss.foldl Hv []).length=(Fy es).length:=by
   have:=congrArg List.length (Kc ss [])
   rw [Ag] at this
   rw [this]
   unfold Fy
   rw [em]
   rfl
  have ole:(Fy es).length≤es.length:=by have:=Q5 es [];simpa [Fy] using this
  have tl:tes.size=ss'.length:=by rw [← Dw pr,Array.length_toList]
  have sb:tes.size<scanBound:=by
   rw [tl,pm.length_eq,ol]
   unfold scanBound
   omega
  have sp:YW X.w s.heap.objs.size (ss'.map V.str) h':=by
   refine ⟨o,tes,ep,tb,ho,hex,hd,sb,hf,?_,?_⟩
   ·refine JI (by simp [tl]) λj a b ea eb=>?_
    rw [Av] at ea eb
    cases ej:ss'[j]? with
    | none=>rw [ej] at ea;cases ea
    | some y =>
     obtain ⟨e',e1,_,tk',e2'⟩:=(DD pr j).2 y ej
     rw [ej] at ea
     rw [e1] at eb
     cases ea
     cases eb
     exact ⟨tk',e2'⟩
   ·cases c:D3 X.w with
    | true=>exact .inl c
    | false =>
     rw [c] at hled
     exact .inr ⟨hled,hpl.elim .inl λz=>.inr (by omega)⟩
  have I0:L2.Inv X pins st H { s with drawn:=d' }:=⟨I.ok,I.os,I.bare,I.base,I.loc,I.cell,I.free,I.freeC,I.pin,I.hok,I.len⟩
  refine ⟨.ref s.heap.objs.size,_,I0.laid (h':=h') (t':=tk) (o:=Q6 X.w s.heap.objs.size (ss'.map V.str)) hk (Ah _) (Xp sp),rfl,?_⟩
  refine t.retX (.new hp _) (so.new hp _) _ ?_
  unfold Rep
  refine ⟨_,ss'.map V.str,(ss.foldl Hv []).map V.str,rfl,so.notin hp,El,pm.map _,?_,NL es [] List.nodup_nil⟩
  have eo:Fy es=(ss.foldl Hv []).map D.str:=by
   rw [Kc,em]
   rfl
  rw [eo]
  refine JT λx hx=>hok x ?_
  have:D.str x∈Fy es:=by rw [eo];exact Ay.mpr ⟨x,hx,rfl⟩
  rcases (Mb es [] _).mp this with z|z
  ·cases z
  ·rw [em] at z
   obtain ⟨y,hy,e⟩:=Ay.mp z
   cases e
   exact hy
 have pairs:∀ us:List Value,Vals (ss.map V.str) us->Paired (λ(u:Value) (x:Str)=>∃ t,u=.str x t) us ss:=λus q=>by
  refine JI (by have:=q.length;rw [Ag] at this;exact this.symm) λj u x e1 e2=>?_
  obtain ⟨u',u1,u2⟩:=q.get (show (ss.map V.str)[j]? = some (V.str x) by rw [Av,e2];rfl)
  rw [e1] at u1
  cases u1
  exact u2
 have ul:∀ us:List Value,Vals (ss.map V.str) us->us.length+1<scanBound:=λus q=>by
  have a:=q.length
  rw [Ag] at a
  have b:es.length=ss.length:=by rw [em,Ag]
  unfold scanBound
  omega
 rcases h1 with h1|⟨h1,_⟩
 ·obtain ⟨us,q,y,o,ho,hcl⟩:=Kf (E:=X.xe) I hc h1
  exact Qn ho hcl PySem.F.sub_list_set PySem.F.sub_list_frozenset (by decide) (ul us q) (pairs us q) y fin
 ·obtain ⟨us,q,y,o,ho,hcl⟩:=Jy (E:=X.xe) I hc h1
  exact Qn ho hcl VY OU (by decide) (ul us q) (pairs us q) y fin
noncomputable def VO:Fn:=λds mu=>match ds with
 | [.set es]=>some (.int es.length,mu)
 | [d]=>(FC mu d).map λp=>(.int p.1.length,mu)
 | _=>none
theorem T9 {ds:List D}{r:D×Sto}(h:VO ds mu=some r):(∃ es,ds=[.set es]∧r=(.int es.length,mu))∨∃ d p,ds=[d]∧FC mu d=some p∧r=(.int p.1.length,mu):=by
 unfold VO at h
 split at h
 ·cases h;exact .inl ⟨_,rfl,rfl⟩
 ·rename_i d _
  cases e:FC mu d with
  | none=>rw [e] at h;cases h
  | some p=>rw [e] at h;cases h;exact .inr ⟨d,p,rfl,e,rfl⟩
 ·cases h
theorem RO:CallV X (.builtin "len") VO:=by
 intro pins s st H xs us Q I r h
 obtain ⟨th,mu,ds,so,rd,t⟩:=h
 obtain ⟨a0,mu0,e0,_⟩:=id t
 rcases T9 e0 with ⟨es,rfl,er⟩|⟨d,p,rfl,ed,er⟩
 ·rw [e0] at t
  cases er
  obtain ⟨x,rfl,rx⟩:=DU rd
  unfold Rep at rx
  obtain ⟨a,us',vs,rfl,_,h1,h2,h3,_⟩:=rx
  obtain ⟨u,rfl,ru⟩:=vals1 r
  cases ru
  obtain ⟨⟨o,tes,ep,tb,ho,hex,hd,sb,hf,hv,_⟩,_⟩:=(show ObjOk X.prog X.w H s.heap a (Q6 X.w a us') from I.hok a _ h1)
  have ln:tes.size=es.length:=by
   have e1:us'.length=tes.size:=by have:=hv.length;simpa using this
   rw [← e1,h2.length_eq,h3.len]
  refine PySem.call_len_set ho hex hd hf (by unfold scanBound at sb;omega) ⟨.int es.length,H,I.tok _,⟨_,by rw [ln]⟩,t.ret so _ rfl⟩
 ·rw [e0] at t
  cases er
  obtain ⟨x,rfl,rx⟩:=DU rd
  obtain ⟨a,rfl,dc⟩:=FE so ed rx
  obtain ⟨u,rfl,ru⟩:=vals1 r
  cases ru
  obtain ⟨xs',o,es,ep,h1,g⟩:=ID I dc
  have ty:s.TypeIs (.ref a) "dict":=⟨o,g.at',g.ex.1⟩
  have ln:es.size=p.1.length:=by rw [Dw g.en,Array.length_toList]
  have fit:((p.1.length:Nat):Int)<2 ^ 63:=by
   have:=(Uw dc).2.len
   rw [AO] at this
   omega
  have hM:MeetsIn X.prog X.w (Builtin.«dict.__len__» ⟨[.ref a],[]⟩) (λ_ R s=>s.heap.get? a=some o∧R (.ok (.ret (.int p.1.length s.toks))) { s with toks:=s.toks+1 }):=.of_wp λA R s ⟨g0,h⟩=>by
   refine (?_:wpAny _ _ (dictSize a >>= _) _ _ s)
   unfold dictSize
   refine Aa (Aa (BR g0 g.dt (Ac (?_:wpAny _ _ (Builtin.Dict.pendingCount a >>= _) _ _ s))))
   refine Aa (wpAny_pendingCount_other g.ns (wpAny_ret_mkInt ?_))
   rw [Nat.add_zero,ln]
   exact h
  (refine Calls.call_function_entry kind_len plain_len entry_len (args_len1 _) ?_)
  unfold Builtin.«len»
  refine Aa (m:=oneArg "len" _) (Ac (Aa (m:=callSpecial? (.ref a) (Str.ofString "__len__")) (AK (name:=Str.ofString "__len__") ty F.slot_dict_len (call_meetsIn F.slot_dict_len ty F.entry_dict_len (F.args_dict_len_1 _) hM ⟨g.at',?_⟩))))
  refine (?_:wpAny _ _ _ _ _ { s with toks:=s.toks+1 })
  refine Aa (AD (Ac (Aa (wpAny_letGo (?_:wpAny _ _ (if ((p.1.length:Nat):Int)<0 then _ else _) _ _ _)))))
  rw [if_neg (by omega)]
  refine (?_:wpAny _ _ (if ((p.1.length:Nat):Int) ≥ 2 ^ 63 then _ else _) _ _ _)
  rw [if_neg (by omega)]
  exact Aa (wpAny_mkInt (Ac ⟨_,rfl,⟨.int p.1.length,H,I.tok _,⟨_,rfl⟩,t.ret so _ rfl⟩⟩))
noncomputable def FN:Fn:=λds mu=>match YN ds mu with|some r=>some r|none=>VO ds mu
theorem Dt:CallV X (.builtin "len") FN:=CallV.or Rf RO
noncomputable def UK (mu:Sto):D->Option (List D)
 | .set es=>some es
 | d=>G6 mu d
noncomputable def Og:Fn:=λds mu=>match HD ds with
 | some d=>match UK mu d with
  | some es=>if F5 es=true then some (.lst (GX es),mu) else none
  | none=>none
 | none=>none
theorem Sl {ds:List D}{r:D×Sto}(h:Og ds mu=some r):∃ d es,ds=[d]∧UK mu d=some es∧F5 es=true∧r=(.lst (GX es),mu):=by
 unfold Og at h
 split at h
 ·rename_i d e
  split at h
  ·rename_i es e2
   split at h
   ·rename_i c;cases h;exact ⟨d,es,GV e,e2,c,rfl⟩
   ·cases h
  ·cases h
 ·cases h
theorem PC {es fs:List D}(p:fs.Perm es)(h:F5 es=true):F5 fs=true:=by
 unfold F5 NO at *
 rw [Ab,Ab,Ab,Ae,Bool.or_eq_true] at *
 simp only [Aq] at *
 obtain ⟨⟨⟨a,b⟩,c⟩,d⟩:=h
 exact ⟨⟨⟨by rw [p.length_eq];exact a,λx hx=>b x (p.mem_iff.mp hx)⟩,λx hx y hy=>c x (p.mem_iff.mp hx) y (p.mem_iff.mp hy)⟩,d.imp (λz x hx=>z x (p.mem_iff.mp hx)) λz x hx=>z x (p.mem_iff.mp hx)⟩
theorem Rx {es:List D}(h:F5 es=true):∀ d∈es,HL d=true:=by
 unfold F5 at h
 rw [Ab,Ab,Ab] at h
 exact Aq.mp h.1.1.2
theorem RepL.perm {ds:List D}{vs us:List V}(p:us.Perm vs)(r:RepL K th H ds vs):∃ ds',ds'.Perm ds∧RepL K th H ds' us:=by
 induction p generalizing ds with
 | nil=>exact ⟨ds,List.Perm.refl _,r⟩
 | cons x p ih =>
  cases ds with
  | nil=>cases r.inv0
  | cons d ds =>
   obtain ⟨v,r',e,a,b⟩:=r.inv
   cases e
   obtain ⟨ds',q1,q2⟩:=ih b
   exact ⟨d::ds',q1.cons d,.cons a q2⟩
 | swap x y l =>
  cases ds with
  | nil=>cases r.inv0
  | cons d ds =>
   obtain ⟨v,r',e,a,b⟩:=r.inv
   cases e
   cases ds with
   | nil=>cases b.inv0
   | cons d' ds =>
    obtain ⟨v',r2,e',a',b'⟩:=b.inv
    cases e'
    exact ⟨d'::d::ds,List.Perm.swap _ _ _,.cons a' (.cons a b')⟩
 | trans p q ih1 ih2 =>
  obtain ⟨ds1,a1,b1⟩:=ih2 r
  obtain ⟨ds2,a2,b2⟩:=ih1 b1
  exact ⟨ds2,a2.trans a1,b2⟩
theorem Vals.perm {vs:List V}{us us':List Value}(p:us'.Perm us)(r:Vals vs us):∃ vs',vs'.Perm vs∧Vals vs' us':=by
 induction p generalizing vs with
 | nil=>cases r;exact ⟨[],.nil,.nil⟩
 | cons x p ih =>
  cases r with
  | cons a b=>obtain ⟨vs',q1,q2⟩:=ih b;exact ⟨_,q1.cons _,.cons a q2⟩
 | swap x y l =>
  cases r with
  | cons a b =>
   cases b with
   | cons a' b'=>exact ⟨_,List.Perm.swap _ _ _,.cons a' (.cons a b')⟩
 | trans p q ih1 ih2 =>
  obtain ⟨v1,a1,b1⟩:=ih2 r
  obtain ⟨v2,a2,b2⟩:=ih1 b1
  exact ⟨v2,a2.trans a1,b2⟩
theorem QR (hu:X.A.units+64<cLine)(hc:X.calm=true):CallV X (.builtin "sorted") Og:=by
 intro pins s st H xs us Q I r h
 obtain ⟨th,mu,ds,so,rd,t⟩:=h
 obtain ⟨a0,mu0,e0,_⟩:=id t
 obtain ⟨d,es,rfl,eg,ok,er⟩:=Sl e0
 rw [e0] at t
 cases er
 obtain ⟨x,rfl,rx⟩:=DU rd
 obtain ⟨u,rfl,ru⟩:=vals1 r
 have fin:∀ (fs:List D) (vs:List V) (zs:List Value) (h1:Heap) (tk:Nat) d',fs.Perm es->RepL X.z th H fs vs->Vals vs zs->(∀ b o,s.heap.get? b=some o->h1.get? b=some o)->zs.length≤sizeLine∧∃ out,Jv X.prog X.w X.A.in1.in1 zs out { s with heap:=h1,toks:=tk,drawn:=d' } ∧
   ∀ h' e a,(∀ b o,h1.get? b=some o->h'.get? b=some o)->h1.objs.size≤a->h'.get? a=some (seqObj "list" out.toArray e)->EP X pins st Q (.ref a) { s with heap:=h',toks:=tk,drawn:=d' }:=λfs vs zs h1 tk d' p h2 rv hk=>by
  have I0:L2.Inv X pins st H { s with drawn:=d' }:=⟨I.ok,I.os,I.bare,I.base,I.loc,I.cell,I.free,I.freeC,I.pin,I.hok,I.len⟩
  have I1:L2.Inv X pins st H { s with heap:=h1,toks:=tk,drawn:=d' }:=I0.kept (t':=tk) hk
  have okf:=PC p ok
  have l64:fs.length<64:=by
   unfold F5 at okf
   rw [Ab,Ab,Ab,Ae] at okf
   exact okf.1.1.1
  have lz:zs.length=fs.length:=by rw [← rv.length,h2.len]
  obtain ⟨ws,out,w1,w2,w3⟩:=sorts hu I1 h2 rv okf
  rw [Mm (Rx ok) p] at w1
  have z64:64≤sizeLine:=by rw [AO];decide
  have wl:(GX es).length≤sizeLine:=by rw [(EI es).length_eq,← p.length_eq];omega
  refine ⟨by omega,out,w3,λh' e a hk' ha he=>?_⟩
  have hp:H a=none:=I1.hok.fresh ha
  refine ⟨.ref a,_,I1.laid (t':=tk) (o:=.lst ws) hk' ha ⟨by rw [w1.len];exact wl,out,e,w2,he⟩,rfl,?_⟩
  exact t.retX (.new hp _) (so.new hp _) _ (Rep.newLst so hp w1 wl)
 refine Mv ?_
 have seqc:∀ (T:String) (a:Addr) (ob:Obj) (vs:List V) (zs:List Value) (n:Nat),(T="list"∨T="tuple")->s.heap.get? a=some ob->ob.cls=.type T->ob.data=.seq zs.toArray n->Vals vs zs->RepL X.z th H es vs->es.length≤sizeLine->wpAny (model X.prog X.w) X.A.in1 (collect (.ref a)) (λzs s1=>zs.length≤sizeLine∧∃ out,Jv X.prog X.w X.A.in1.in1 zs out s1∧∀ h' e a,(∀ b o,s1.heap.get? b=some o->h'.get? b=some o)->s1.heap.objs.size≤a->h'.get? a=some (seqObj "list" out.toArray e)->EP X pins st Q (.ref a) { s1 with heap:=h' }) X.xe s:=λT a ob vs zs n hT g1 g2 g3 rv h2 hz=>by
  refine PU hT g1 g2 g3 ?_ (by rw [← rv.length,h2.len];exact hz)
  refine fin es vs zs _ s.toks s.drawn (List.Perm.refl _) h2 rv λb o e=>?_
  have lt:=Aj e
  rw [Heap.get?_update_ne _ _ _ _ (Ap lt),Heap.get?_push_ne _ _ _ (Ap lt)]
  exact e
 have sq:G6 mu d=some es->wpAny (model X.prog X.w) X.A.in1 (collect u) (λzs s1=>zs.length≤sizeLine∧∃ out,Jv X.prog X.w X.A.in1.in1 zs out s1∧∀ h' e a,(∀ b o,s1.heap.get? b=some o->h'.get? b=some o)->s1.heap.objs.size≤a->h'.get? a=some (seqObj "list" out.toArray e)->EP X pins st Q (.ref a) { s1 with heap:=h' }) X.xe s:=λe2=>by
  obtain ⟨a,vs,rfl,h1,h2,h3⟩:=Gm so e2 rx
  cases ru
  rcases h1 with h1|⟨h1,_⟩
  ·obtain ⟨its,rv,⟨o,n,g1,g2,_,g3⟩,_⟩:=I.list h1
   exact seqc "list" a o vs its n (.inl rfl) g1 g2 g3 rv h2 h3
  ·obtain ⟨its,rv,⟨o,g1,g2,n,g3⟩,_⟩:=I.tuple h1
   exact seqc "tuple" a o vs its n (.inr rfl) g1 g2 g3 rv h2 h3
 unfold UK at eg
 split at eg
 ·cases eg
  unfold Rep at rx
  obtain ⟨a,us',vs,rfl,_,h1,h2,h3,_⟩:=rx
  cases ru
  obtain ⟨⟨o,tes,ep,tb,ho,hex,hd,sb,hf,hv,hw⟩,_⟩:=(show ObjOk X.prog X.w H s.heap a (Q6 X.w a us') from I.hok a _ h1)
  refine OZ (I.ok.hd hc) (fits_of_scanBound sb) ho hex.1 hd hf hw λzs h' tk d' pm hk=>?_
  obtain ⟨ws,p1,r1⟩:=Vals.perm pm hv
  obtain ⟨fs,p2,r2⟩:=RepL.perm (p1.trans h2) h3
  exact fin fs ws zs h' tk d' p2 r2 r1 hk
 ·exact sq eg
end
section
variable {prog:Program} {w:World} {A:Around} {E:Value->Shared->Prop} {s:Shared}
theorem JY {i t:Addr}{k:Nat}{its:Array Value}{x:Value}{Q:Value->Shared->Prop}(g:s.heap.IsTupleIter i t k)(p:s.heap.IsTuple t its)(e:its[k]? = some x)
  (q:∀ h',h'.IsTupleIter i t (k+1)->Heap.SameBut i s.heap h'->Q x { s with heap:=h' }):wpAny (model prog w) A (Builtin.SmallTypes.nextOf (.ref i)) Q E s:=by
 obtain ⟨ob,g1,g2,g3⟩:=id g
 obtain ⟨tb,p1,p2,n,p3⟩:=p
 (unfold Builtin.SmallTypes.nextOf)
 refine Aa (AK (name:=Str.ofString "__next__") g.typeIs B9 (AM B9 g.typeIs F.entry_tuple_iterator_next (?_:wpAny _ _ (field (.ref i) 0 >>= _) _ _ _) (F.args_tuple_iterator_next_1 _)))
 refine Aa (A6 g1 g3 (x:=.ref t) rfl (?_:wpAny _ _ (if (Value.ref t==Value.none)=true then _ else _) _ _ _))
 have nn:¬ ((Value.ref t==Value.none)=true):=AF
 rw [if_neg nn]
 refine Aa (m:=field (.ref i) 1) (A6 g1 g3 (x:=.int k 0) rfl (?_:wpAny _ _ (seqItems? (.ref t) >>= _) _ _ _))
 refine Aa (Bj p1 p3 ?_)
 simp only [Int.toNat_natCast,e]
 refine Aa (Bo g1 g3 (by simp) (Ac ⟨x,rfl,Ac (q _ ⟨_,AH _ g1 (Obj.isFreed_of_fields (Obj.data_mapFields g3 _)),(Obj.cls_mapFields ..).trans g2,?_⟩ (Aw ..))⟩))
 rw [Obj.data_mapFields g3]
 simp [rawInt]
theorem MG {i t:Addr}{k:Nat}{its:Array Value}{Q:Value->Shared->Prop}(hh:A.handled=none)(g:s.heap.IsTupleIter i t k)(p:s.heap.IsTuple t its)(e:its[k]? = none)
  (q:∀ h' b,Heap.ExtBut i s.heap h'->(∃ o,h'.get? b=some o∧o.cls=.type "StopIteration")->E (.ref b) { s with heap:=h' }):wpAny (model prog w) A (Builtin.SmallTypes.nextOf (.ref i)) Q E s:=by
 obtain ⟨ob,g1,g2,g3⟩:=id g
 obtain ⟨tb,p1,p2,n,p3⟩:=p
 (unfold Builtin.SmallTypes.nextOf)
 refine Aa (AK (name:=Str.ofString "__next__") g.typeIs B9 (AM B9 g.typeIs F.entry_tuple_iterator_next (?_:wpAny _ _ (field (.ref i) 0 >>= _) _ _ _) (F.args_tuple_iterator_next_1 _)))
 refine Aa (A6 g1 g3 (x:=.ref t) rfl (?_:wpAny _ _ (if (Value.ref t==Value.none)=true then _ else _) _ _ _))
 have nn:¬ ((Value.ref t==Value.none)=true):=AF
 rw [if_neg nn]
 refine Aa (m:=field (.ref i) 1) (A6 g1 g3 (x:=.int k 0) rfl (?_:wpAny _ _ (seqItems? (.ref t) >>= _) _ _ _))
 refine Aa (Bj p1 p3 ?_)
 simp only [Int.toNat_natCast,e]
 refine Aa (Bf (Aa (Bo g1 g3 (by simp) (?_:wpAny _ _ (newExc (.type "StopIteration") [] >>= _) _ _ _))))
 refine Aa ?_
 simp only [newExc,newTuple]
 refine Aa (AU (Aa (m:=firstArgMember _ _) (wpAny_of_eq (a:=Value.none) (by first|rfl|(simp only [firstArgMember];rfl)) (AU ?_ (by size_fits)))) (by size_fits))
 simp only [raiseNew]
 refine Aa (wpAny_handled ?_)
 first|rw [show A.in1.handled=none from hh]|rw [hh]
 exact Aa (Ac (wpAny_throw (q _ _ (((Aw ..).extBut.push _).push _) ⟨_,Ai _ rfl,rfl⟩)))
noncomputable def zTu (z TI TO i1 i2 l1 l2:Addr)(k:Nat)(h:Heap):Prop:=
 IsZip h z TI TO .none∧IsPair h TI (.ref i1) (.ref i2)∧(∃ a b,IsPair h TO a b)∧h.IsTupleIter i1 l1 k∧h.IsTupleIter i2 l2 k
theorem TV {z TI TO i1 i2 l1 l2:Addr}{k:Nat}{xs ys:Array Value}{x y:Value}{Q:Value->Shared->Prop}(D:ZipApart z TI TO i1 i2 l1 l2)(g:zTu z TI TO i1 i2 l1 l2 k s.heap)
  (p1:s.heap.IsTuple l1 xs) (p2:s.heap.IsTuple l2 ys) (ex:xs[k]? = some x) (ey:ys[k]? = some y)
  (q:∀ h',IsZip h' z TI TO (rawInt s.heap.objs.size)->IsPair h' TO x y->h'.IsTupleIter i1 l1 (k+1)->h'.IsTupleIter i2 l2 (k+1)->IsPair h' s.heap.objs.size x y ->
   (∀ c o,c≠z->c≠TO->c≠i1->c≠i2->s.heap.get? c=some o->h'.get? c=some o)->Q (.ref s.heap.objs.size) { s with heap:=h' }) :
  wpAny (model prog w) A (Builtin.«zip.__next__» ⟨[.ref z],[]⟩) (λfin s'=>∃ v,fin=.done (.ret v)∧Q v s') E s:=by
 obtain ⟨g1,g2,⟨a,b,g3⟩,g4,g5⟩:=g
 refine (?_:wpAny _ _ (field (.ref z) 2 >>= _) _ _ _)
 refine Aa (A6 g1 rfl (x:=.bool false) rfl (?_:wpAny _ _ (field (.ref z) 3 >>= _) _ _ _))
 refine Aa (A6 g1 rfl (x:=.ref TI) rfl (Aa (Bj g2 rfl (?_:wpAny _ _ (Builtin.SmallTypes.ownedTupleIsFree (.ref z) >>= _) _ _ _))))
 refine Aa ?_
 (unfold Builtin.SmallTypes.ownedTupleIsFree)
 refine Aa (A6 g1 rfl (x:=.none) rfl (Ac ?_))
 simp only [if_true]
 refine Aa (Bf (Aa (A6 g1 rfl (x:=.ref TO) rfl (Aa (BK g1 (by simp) λq1 z1 b1=>?_)))))
 replace z1:IsZip q1 z TI TO .ellipsis:=z1
 refine Aa ?_
 simp only [List.zipIdx_cons,List.zipIdx_nil,BV,List.forIn_nil]
 refine Aa (Aa (wpAny_onRaise (?_:wpAny _ _ (Builtin.SmallTypes.nextOf (.ref i1) >>= _) _ _ _)))
 refine Aa (JY (g4.extBut b1.extBut D.i1z) (p1.extBut b1.extBut D.l1z) ex λq2 n1 b2=>Ac ?_)
 have o2:IsPair q2 TO a b:=b2.extBut _ _ D.TOi1 (b1.extBut _ _ D.TOz g3)
 refine Aa (Bj o2 rfl (Aa (wpAny_updateSeq_pair o2 λq3 o3 b3=>Aa (wpAny_letGo (Ac ?_)))))
 replace o3:IsPair q3 TO x b:=o3
 refine Aa (Aa (wpAny_onRaise (?_:wpAny _ _ (Builtin.SmallTypes.nextOf (.ref i2) >>= _) _ _ _)))
 refine Aa (JY (((g5.extBut b1.extBut D.i2z).extBut b2.extBut D.i12.symm).extBut b3.extBut D.TOi2.symm) (((p2.extBut b1.extBut D.l2z).extBut b2.extBut D.l2i1).extBut b3.extBut D.l2TO) ey λq4 n2 b4=>Ac ?_)
 have o4:IsPair q4 TO x b:=b4.extBut _ _ D.TOi2 o3
 refine Aa (Bj o4 rfl (Aa (wpAny_updateSeq_pair o4 λq5 o5 b5=>Aa (wpAny_letGo (Ac (Ac ?_))))))
 replace o5:IsPair q5 TO x y:=o5
 refine Aa (Bj o5 rfl (Aa (wpAny_newTuple ?_)))
 have sz:q5.objs.size=s.heap.objs.size:=by rw [b5.1,b4.1,b3.1,b2.1,b1.1]
 have z5:IsZip q5 z TI TO .ellipsis:=b5.extBut _ _ D.TOz.symm (b4.extBut _ _ D.i2z.symm (b3.extBut _ _ D.TOz.symm (b2.extBut _ _ D.i1z.symm z1)))
 have k5:∀ c o,c≠z->c≠TO->c≠i1->c≠i2->s.heap.get? c=some o->q5.get? c=some o:=λc o d1 d2 d3 d4 e=>b5.extBut _ _ d2 (b4.extBut _ _ d4 (b3.extBut _ _ d2 (b2.extBut _ _ d3 (b1.extBut _ _ d1 e))))
 have m1:q5.IsTupleIter i1 l1 (k+1):=((n1.extBut b3.extBut D.TOi1.symm).extBut b4.extBut D.i12).extBut b5.extBut D.TOi1.symm
 have m2:q5.IsTupleIter i2 l2 (k+1):=n2.extBut b5.extBut D.TOi2.symm
 have zl:q5.objs.size≠z:=Bt (Aj z5)
 refine (?_:wpAny _ _ (Builtin.SmallTypes.ownedTupleHandOut (.ref z) (.ref q5.objs.size) >>= _) _ _ _)
 refine Aa ?_
 (unfold Builtin.SmallTypes.ownedTupleHandOut)
 have z6:IsZip (q5.push { cls:=.type "tuple",data:=.seq #[x,y] }) z TI TO .ellipsis:=Ad _ z5
 refine Aa (BK z6 (by simp) λq7 z7 b7=>?_)
 replace z7:IsZip q7 z TI TO (rawInt q5.objs.size):=z7
 refine BK z7 (by simp) λq8 z8 b8=>?_
 replace z8:IsZip q8 z TI TO (rawInt q5.objs.size):=z8
 have up:∀ c o,c≠z->q5.get? c=some o->q8.get? c=some o:=λc o d e=>b8.extBut _ _ d (b7.extBut _ _ d (Ad _ e))
 have nw:IsPair q8 q5.objs.size x y:=b8.extBut _ _ zl (b7.extBut _ _ zl (Ai _ rfl))
 rw [sz] at z8 nw
 refine Ac ⟨_,rfl,?_⟩
 rw [sz]
 exact q q8 z8 (up _ _ D.TOz o5) (m1.at λo e=>up _ o D.i1z e) (m2.at λo e=>up _ o D.i2z e) nw λc o d1 d2 d3 d4 e=>up c o d1 (k5 c o d1 d2 d3 d4 e)
theorem Su {z TI TO i1 i2 l1 l2:Addr}{k:Nat}{xs ys:Array Value}{Q:PySem.Fin->Shared->Prop}(hh:A.handled=none)(D:ZipApart z TI TO i1 i2 l1 l2)(g:zTu z TI TO i1 i2 l1 l2 k s.heap)
  (p1:s.heap.IsTuple l1 xs) (p2:s.heap.IsTuple l2 ys) (en:xs[k]? = none∨ys[k]? = none)
  (q:∀ h' e,(∀ c o,c≠z->c≠TO->c≠i1->c≠i2->s.heap.get? c=some o->h'.get? c=some o)->(∃ o,h'.get? e=some o∧o.cls=.type "StopIteration")->E (.ref e) { s with heap:=h' }) :
  wpAny (model prog w) A (Builtin.«zip.__next__» ⟨[.ref z],[]⟩) Q E s:=by
 obtain ⟨g1,g2,⟨a,b,g3⟩,g4,g5⟩:=g
 refine (?_:wpAny _ _ (field (.ref z) 2 >>= _) _ _ _)
 refine Aa (A6 g1 rfl (x:=.bool false) rfl (?_:wpAny _ _ (field (.ref z) 3 >>= _) _ _ _))
 refine Aa (A6 g1 rfl (x:=.ref TI) rfl (Aa (Bj g2 rfl (?_:wpAny _ _ (Builtin.SmallTypes.ownedTupleIsFree (.ref z) >>= _) _ _ _))))
 refine Aa ?_
 (unfold Builtin.SmallTypes.ownedTupleIsFree)
 refine Aa (A6 g1 rfl (x:=.none) rfl (Ac ?_))
 simp only [if_true]
 refine Aa (Bf (Aa (A6 g1 rfl (x:=.ref TO) rfl (Aa (BK g1 (by simp) λq1 z1 b1=>?_)))))
 replace z1:IsZip q1 z TI TO .ellipsis:=z1
 refine Aa ?_
 simp only [List.zipIdx_cons,List.zipIdx_nil,BV,List.forIn_nil]
 refine Aa (Aa (wpAny_onRaise (?_:wpAny _ _ (Builtin.SmallTypes.nextOf (.ref i1) >>= _) _ _ _)))
 cases ex:xs[k]? with
 | none =>
  refine Aa (MG hh (g4.extBut b1.extBut D.i1z) (p1.extBut b1.extBut D.l1z) ex λq2 e b2 he=>?_)
  obtain ⟨oe,he1,he2⟩:=he
  have z2:IsZip q2 z TI TO .ellipsis:=b2 _ _ D.i1z.symm z1
  have ne:e≠z:=λu=>by subst u;rw [z2] at he1;cases he1;simp at he2
  exact BK z2 (by simp) λq3 _ b3=>q q3 e (λc o d1 _ d3 _ u=>b3.extBut _ _ d1 (b2 _ _ d3 (b1.extBut _ _ d1 u))) ⟨oe,b3.extBut _ _ ne he1,he2⟩
 | some x =>
  have ey:ys[k]? = none:=en.resolve_left λu=>by rw [ex] at u;cases u
  refine Aa (JY (g4.extBut b1.extBut D.i1z) (p1.extBut b1.extBut D.l1z) ex λq2 n1 b2=>Ac ?_)
  have o2:IsPair q2 TO a b:=b2.extBut _ _ D.TOi1 (b1.extBut _ _ D.TOz g3)
  refine Aa (Bj o2 rfl (Aa (wpAny_updateSeq_pair o2 λq3 o3 b3=>Aa (wpAny_letGo (Ac ?_)))))
  refine Aa (Aa (wpAny_onRaise (?_:wpAny _ _ (Builtin.SmallTypes.nextOf (.ref i2) >>= _) _ _ _)))
  refine Aa (MG hh (((g5.extBut b1.extBut D.i2z).extBut b2.extBut D.i12.symm).extBut b3.extBut D.TOi2.symm) (((p2.extBut b1.extBut D.l2z).extBut b2.extBut D.l2i1).extBut b3.extBut D.l2TO) ey λq4 e b4 he=>?_)
  obtain ⟨oe,he1,he2⟩:=he
  have z4:IsZip q4 z TI TO .ellipsis:=b4 _ _ D.i2z.symm (b3.extBut _ _ D.TOz.symm (b2.extBut _ _ D.i1z.symm z1))
  have ne:e≠z:=λu=>by subst u;rw [z4] at he1;cases he1;simp at he2
  exact BK z4 (by simp) λq5 _ b5=>q q5 e (λc o d1 d2 d3 d4 u=>b5.extBut _ _ d1 (b4 _ _ d4 (b3.extBut _ _ d2 (b2.extBut _ _ d3 (b1.extBut _ _ d1 u))))) ⟨oe,b5.extBut _ _ ne he1,he2⟩
theorem Pr {z TI TO i1 i2 l1 l2:Addr}{k:Nat}{xs ys:Array Value}{x y:Value}{Q:Option Value->Shared->Prop}(D:ZipApart z TI TO i1 i2 l1 l2)(g:zTu z TI TO i1 i2 l1 l2 k s.heap)
  (p1:s.heap.IsTuple l1 xs) (p2:s.heap.IsTuple l2 ys) (ex:xs[k]? = some x) (ey:ys[k]? = some y)
  (q:∀ h',IsZip h' z TI TO (rawInt s.heap.objs.size)->IsPair h' TO x y->h'.IsTupleIter i1 l1 (k+1)->h'.IsTupleIter i2 l2 (k+1)->IsPair h' s.heap.objs.size x y ->
   (∀ c o,c≠z->c≠TO->c≠i1->c≠i2->s.heap.get? c=some o->h'.get? c=some o)->Q (some (.ref s.heap.objs.size)) { s with heap:=h' }) :
  wpAny (model prog w) A (pyNext (.ref z)) Q E s:=by
 have ty:s.TypeIs (.ref z) "zip":=⟨_,g.1,rfl⟩
 unfold pyNext
 exact Aa (wpAny_attempt (AK (name:=Str.ofString "__next__") ty BW (AM BW ty F.entry_zip_next (TV D g p1 p2 ex ey λh' a1 a2 a3 a4 a5 a6=>Ac (q h' a1 a2 a3 a4 a5 a6)) (F.args_zip_next_1 _))))
theorem Ph {z TI TO i1 i2 l1 l2:Addr}{k:Nat}{xs ys:Array Value}{Q:Option Value->Shared->Prop}(hh:A.handled=none)(D:ZipApart z TI TO i1 i2 l1 l2)(g:zTu z TI TO i1 i2 l1 l2 k s.heap)
  (p1:s.heap.IsTuple l1 xs) (p2:s.heap.IsTuple l2 ys) (en:xs[k]? = none∨ys[k]? = none)
  (q:∀ h',(∀ c o,c≠z->c≠TO->c≠i1->c≠i2->s.heap.get? c=some o->h'.get? c=some o)->Q none { s with heap:=h' }):wpAny (model prog w) A (pyNext (.ref z)) Q E s:=by
 have ty:s.TypeIs (.ref z) "zip":=⟨_,g.1,rfl⟩
 unfold pyNext
 refine Aa (wpAny_attempt (AK (name:=Str.ofString "__next__") ty BW (AM BW ty F.entry_zip_next (Su hh D g p1 p2 en λh' e hk he=>?_) (F.args_zip_next_1 _))))
 obtain ⟨o,ho,hc⟩:=he
 exact Aa (B8 (T:="StopIteration") (b:=true) ⟨o,ho,hc⟩ isSubtype_stop (Ac (q _ hk)))
end
noncomputable abbrev zu1 (h:Heap) (l1:Addr):Heap:=h.push { cls:=.type "tuple_iterator",data:=.fields #[.ref l1,.int 0 0] }
noncomputable abbrev zu2 (h:Heap) (l1 l2:Addr):Heap:=(zu1 h l1).push { cls:=.type "tuple_iterator",data:=.fields #[.ref l2,.int 0 0] }
noncomputable abbrev zu3 (h:Heap) (l1 l2:Addr):Heap:=(zu2 h l1 l2).push { cls:=.type "tuple",data:=.seq #[.ref h.objs.size,.ref (zu1 h l1).objs.size] }
noncomputable abbrev zu4 (h:Heap) (l1 l2:Addr):Heap:=(zu3 h l1 l2).push { cls:=.type "tuple",data:=.seq #[.none,.none] }
noncomputable abbrev zu5 (h:Heap) (l1 l2:Addr):Heap:=(zu4 h l1 l2).push { cls:=.type "zip",data:=.fields #[.none,.bool false,.bool false,.ref (zu2 h l1 l2).objs.size,.ref (zu3 h l1 l2).objs.size] }
theorem XU (l1 l2:Addr)(xs ys:Array Value):Meets (Builtin.«zip.__new__» ⟨[.type "zip",.ref l1,.ref l2],[]⟩) (λ_ R s=>s.heap.IsTuple l1 xs∧s.heap.IsTuple l2 ys∧R (.ok (.ret (.ref (zu4 s.heap l1 l2).objs.size))) { s with heap:=zu5 s.heap l1 l2 }):=
 .of_wp λprog w A R s h=>by
  obtain ⟨hp,gn,dr,tk,os⟩:=s
  obtain ⟨t1,t2,h⟩:=h
  have hsub:=sub_zip
  have u1:Heap.IsTuple (Shared.heap ⟨hp,gn,dr,tk,os⟩) l1 xs:=t1
  have u2:Heap.IsTuple (Shared.heap ⟨hp.push { cls:=.type "tuple_iterator",data:=.fields #[.ref l1,.int 0 0] },gn,dr,tk,os⟩) l2 ys:=Heap.IsTuple.push t2 _
  wp_walk using wpAny_pyIter_tuple u1,wpAny_pyIter_tuple u2
  exact ⟨_,rfl,h⟩
theorem Vc {prog:Program}{w:World}{A:Around}{E:Value->Shared->Prop}{s:Shared}{l1 l2:Addr}{xs ys:Array Value}{Q:Value->Shared->Prop}(p1:s.heap.IsTuple l1 xs)(p2:s.heap.IsTuple l2 ys)
  (q:∀ h',zTu (s.heap.objs.size+4) (s.heap.objs.size+2) (s.heap.objs.size+3) s.heap.objs.size (s.heap.objs.size+1) l1 l2 0 h'->(∀ c o,s.heap.get? c=some o->h'.get? c=some o)->Q (.ref (s.heap.objs.size+4)) { s with heap:=h' }) :
  wpAny (model prog w) A (call (.type "zip") [.ref l1,.ref l2]) Q E s:=by
 refine callType_new F.called_zip (by decide) (F.typeCall_zip_2 _ _) (F.newCall_zip_2 _ _) (λobj=>F.args_object_init_3 obj _ _) F.entry_zip_new (XU l1 l2 xs ys) ⟨p1,p2,?_⟩
 have n1:(zu1 s.heap l1).objs.size=s.heap.objs.size+1:=Be ..
 have n2:(zu2 s.heap l1 l2).objs.size=s.heap.objs.size+2:=by rw [Be,n1]
 have n3:(zu3 s.heap l1 l2).objs.size=s.heap.objs.size+3:=by rw [Be,n2]
 have n4:(zu4 s.heap l1 l2).objs.size=s.heap.objs.size+4:=by rw [Be,n3]
 have e5:(zu5 s.heap l1 l2).get? (zu4 s.heap l1 l2).objs.size=some _:=Ai _ rfl
 have e4:(zu4 s.heap l1 l2).get? (zu3 s.heap l1 l2).objs.size=some _:=Ai _ rfl
 have e3:(zu3 s.heap l1 l2).get? (zu2 s.heap l1 l2).objs.size=some _:=Ai _ rfl
 have e2:(zu2 s.heap l1 l2).get? (zu1 s.heap l1).objs.size=some _:=Ai _ rfl
 have e1:(zu1 s.heap l1).get? s.heap.objs.size=some _:=Ai _ rfl
 have w5:∀ c o,(zu4 s.heap l1 l2).get? c=some o->(zu5 s.heap l1 l2).get? c=some o:=λc o e=>Ad _ e
 have w4:∀ c o,(zu3 s.heap l1 l2).get? c=some o->(zu5 s.heap l1 l2).get? c=some o:=λc o e=>w5 c o (Ad _ e)
 have w3:∀ c o,(zu2 s.heap l1 l2).get? c=some o->(zu5 s.heap l1 l2).get? c=some o:=λc o e=>w4 c o (Ad _ e)
 have w2:∀ c o,(zu1 s.heap l1).get? c=some o->(zu5 s.heap l1 l2).get? c=some o:=λc o e=>w3 c o (Ad _ e)
 have w1:∀ c o,s.heap.get? c=some o->(zu5 s.heap l1 l2).get? c=some o:=λc o e=>w2 c o (Ad _ e)
 have f4:=w5 _ _ e4
 have f3:=w4 _ _ e3
 have f2:=w3 _ _ e2
 have f1:=w2 _ _ e1
 refine (?_:_∧_)
 rw [n2,n3,n4] at e5
 rw [n1,n2] at f3
 rw [n3] at f4
 rw [n1] at f2
 rw [n4]
 exact ⟨⟨_,e5,rfl⟩,q _ ⟨e5,f3,⟨_,_,f4⟩,⟨_,f1,rfl,rfl⟩,⟨_,f2,rfl,rfl⟩⟩ w1⟩
section
variable {X:Cx} {K:Zc} {th:List Addr} {mu:Sto} {H:Hp}
noncomputable def ON (ds:List D):Option (List D×List D):=match ds with
 | [.tup xs,.tup ys]=>some (xs,ys)
 | _=>none
theorem Sm {ds:List D}{p:List D×List D}(h:ON ds=some p):ds=[.tup p.1,.tup p.2]:=by
 unfold ON at h
 split at h
 ·cases h;rfl
 ·cases h
end
mutual
noncomputable def Dh (n:Nat):D->Bool
 | .ref k=>decide (k<n)
 | .tup ds=>EJ n ds
 | .lst ds=>EJ n ds
 | .dct ks ds=>EJ n ks&&EJ n ds
 | .set ds=>EJ n ds
 | _=>true
noncomputable def EJ (n:Nat):List D->Bool
 | []=>true
 | d::ds=>Dh n d&&EJ n ds
end
noncomputable def Ni (n:Nat):MO->Bool
 | .lst ds=>EJ n ds
 | .dct ks ds=>EJ n ks&&EJ n ds
noncomputable def Lj (g:D->Option D):List D->Option (List D)
 | []=>some []
 | d::ds=>match g d,Lj g ds with
  | some d',some ds'=>some (d'::ds')
  | _,_=>none
noncomputable def frz (n:Nat)(mu:Sto):Nat->D->Option D
 | 0,d=>if Dh n d=true then some d else none
 | f+1,d=>if Dh n d=true then some d else match d with
  | .ref k=>match mu[k]? with
   | some (.lst ds)=>(Lj (frz n mu f) ds).map .lst
   | some (.dct ks ds)=>if EJ n ks=true then (Lj (frz n mu f) ds).map (.dct ks) else none
   | none=>none
  | .tup ds=>(Lj (frz n mu f) ds).map .tup
  | .lst ds=>(Lj (frz n mu f) ds).map .lst
  | _=>none
noncomputable def Nj (mu m1:Sto)(d:D):Rs D:=match frz mu.length m1 3 d with
 | some d'=>if (m1.take mu.length).all (Ni mu.length)=true then some (d',m1.take mu.length) else none
 | none=>none
noncomputable def fnG (n:Nat)(m:Sx):Fn:=λds mu=>bM (m (ds.map some++List.replicate (n-ds.length) none) mu) λp m1=>match p.1 with
 | .rt d=>Nj mu m1 d
 | .nx=>Nj mu m1 .non
 | _=>none
section
variable {K:Zc} {th th1 more:List Addr} {H:Hp} {mu:Sto}
mutual
theorem Np (pre:th1=th++more):∀ {d:D} {v:V},Dh th.length d=true->Rep K th1 H d v->Rep K th H d v
 | .non,_,_,h=>h
 | .bl _,_,_,h=>h
 | .int _,_,_,h=>h
 | .str _,_,_,h=>h
 | .tup ds,_,l,h=>by
  unfold Dh at l
  unfold Rep at h ⊢
  obtain ⟨a,vs,q,h1,h2,z⟩:=h
  exact ⟨a,vs,q,h1,ET pre l h2,z⟩
 | .lst ds,_,l,h=>by
  unfold Dh at l
  unfold Rep at h ⊢
  obtain ⟨a,vs,q,h1,h2,z⟩:=h
  exact ⟨a,vs,q,h1.imp (λw=>⟨λz=>w.1 (by rw [pre];exact A3 _ z),w.2⟩) id,ET pre l h2,z⟩
 | .dct ks ds,_,l,h=>by
  unfold Dh at l
  rw [Ab] at l
  unfold Rep at h ⊢
  obtain ⟨a,xs,q,n,h1,h2,h3,h4,h5⟩:=h
  exact ⟨a,xs,q,λz=>n (by rw [pre];exact A3 _ z),h1,h2,ET pre l.1 h3,ET pre l.2 h4,h5⟩
 | .set ds,_,l,h=>by
  unfold Dh at l
  unfold Rep at h ⊢
  obtain ⟨a,us,vs,q,n,h1,h2,h3,h4⟩:=h
  exact ⟨a,us,vs,q,λz=>n (by rw [pre];exact A3 _ z),h1,h2,ET pre l h3,h4⟩
 | .ref k,_,l,h=>by
  unfold Dh at l
  rw [Ae] at l
  unfold Rep at h ⊢
  obtain ⟨a,q,h1⟩:=h
  rw [pre,Ax l] at h1
  exact ⟨a,q,h1⟩
theorem ET (pre:th1=th++more):∀ {ds:List D} {vs:List V},EJ th.length ds=true->RepL K th1 H ds vs->RepL K th H ds vs
 | [],_,_,h=>by rw [h.inv0];exact .nil
 | d::ds,_,l,h=>by
  unfold EJ at l
  rw [Ab] at l
  obtain ⟨v,r,rfl,h1,h2⟩:=h.inv
  exact .cons (Np pre l.1 h1) (ET pre l.2 h2)
end
theorem HS {g:D->Option D}(hg:∀ d d' v,g d=some d'->Rep K th1 H d v->Rep K th H d' v):∀ {ds ds':List D} {vs:List V},Lj g ds=some ds'->RepL K th1 H ds vs->RepL K th H ds' vs∧ds'.length=ds.length
 | [],ds',vs,e,h=>by cases e;rw [h.inv0];exact ⟨.nil,rfl⟩
 | d::ds,ds',vs,e,h=>by
  obtain ⟨v,r,rfl,h1,h2⟩:=h.inv
  unfold Lj at e
  split at e
  ·rename_i d2 ds2 e1 e2
   cases e
   obtain ⟨a,b⟩:=HS hg e2 h2
   exact ⟨.cons (hg _ _ _ e1 h1) a,by simp [b]⟩
  ·cases e
theorem QF (so:StoOk K th1 mu H)(pre:th1=th++more):∀ (f:Nat) (d d':D) (v:V),frz th.length mu f d=some d'->Rep K th1 H d v->Rep K th H d' v
 | 0,d,d',v,e,h=>by
  unfold frz at e
  split at e
  ·rename_i c;cases e;exact Np pre c h
  ·cases e
 | f+1,d,d',v,e,h=>by
  have ih:=QF so pre f
  unfold frz at e
  split at e
  ·rename_i c;cases e;exact Np pre c h
  ·rename_i c
   have kp:∀ {k:Nat} {a:Addr},¬ k<th.length->th1[k]? = some a->a∉th:=λ{k a} hk ha z=>by
    obtain ⟨i,hi,ei⟩:=List.mem_iff_getElem.mp z
    have:th1[i]? = some a:=by rw [pre,Ax hi,Ao hi,ei]
    have:=WI so.nd this ha
    omega
   split at e
   ·rename_i k
    have hk:¬ k<th.length:=by unfold Dh at c;simpa using c
    unfold Rep at h
    obtain ⟨a,rfl,ha⟩:=h
    split at e
    ·rename_i ds em
     cases q:Lj (frz th.length mu f) ds with
     | none=>rw [q] at e;cases e
     | some ds' =>
      rw [q] at e
      cases e
      obtain ⟨vs,h1,h2,h3⟩:=so.at' k a _ ha em
      obtain ⟨r1,r2⟩:=HS ih q h2
      unfold Rep
      exact ⟨a,vs,rfl,.inl ⟨kp hk ha,.inl h1⟩,r1,by rw [r2];exact h3⟩
    ·rename_i ks ds em
     split at e
     ·rename_i lk
      cases q:Lj (frz th.length mu f) ds with
      | none=>rw [q] at e;cases e
      | some ds' =>
       rw [q] at e
       cases e
       obtain ⟨xs,h1,h2,h3,h4,h5⟩:=so.at' k a _ ha em
       obtain ⟨r1,r2⟩:=HS ih q h4
       unfold Rep
       exact ⟨a,xs,rfl,kp hk ha,h1,h2,ET pre lk h3,r1,h5⟩
     ·cases e
    ·cases e
   ·rename_i ds
    cases q:Lj (frz th.length mu f) ds with
    | none=>rw [q] at e;cases e
    | some ds' =>
     rw [q] at e
     cases e
     unfold Rep at h ⊢
     obtain ⟨a,vs,rfl,h1,h2,h3⟩:=h
     obtain ⟨r1,r2⟩:=HS ih q h2
     exact ⟨a,vs,rfl,h1,r1,by rw [r2];exact h3⟩
   ·rename_i ds
    cases q:Lj (frz th.length mu f) ds with
    | none=>rw [q] at e;cases e
    | some ds' =>
     rw [q] at e
     cases e
     unfold Rep at h ⊢
     obtain ⟨a,vs,rfl,h1,h2,h3⟩:=h
     obtain ⟨r1,r2⟩:=HS ih q h2
     exact ⟨a,vs,rfl,h1.imp (λw=>⟨λz=>w.1 (by rw [pre];exact A3 _ z),w.2⟩) id,r1,by rw [r2];exact h3⟩
   ·cases e
theorem UZ (so:StoOk K th1 mu H)(pre:th1=th++more)(hl:(mu.take th.length).all (Ni th.length)=true):StoOk K th (mu.take th.length) H:=by
 have len:th.length≤mu.length:=by rw [← so.len,pre,Az];omega
 refine ⟨by rw [Bc];omega,?_,λk a o e1 e2=>?_⟩
 ·have:=so.nd
  rw [pre] at this
  exact (Bv.mp this).1
 ·have hk:=(Af.mp e1).1
  rw [Bx hk] at e2
  have q:=so.at' k a o (by rw [pre,Ax hk];exact e1) e2
  have lo:=Aq.mp hl o (Ar (by rw [Bx hk];exact e2))
  cases o with
  | lst ds=>obtain ⟨vs,q1,q2,z⟩:=q;exact ⟨vs,q1,ET pre lo q2,z⟩
  | dct ks ds =>
   unfold Ni at lo
   rw [Ab] at lo
   obtain ⟨xs,q1,q2,q3,q4,z⟩:=q
   exact ⟨xs,q1,q2,ET pre lo.1 q3,ET pre lo.2 q4,z⟩
end
theorem Py {P:Program}{w:World}{K:PySem.W.Frag}{mg:Str->Option Value}{base:Heap}{x qual:Str}{st:Stmt}{f:Addr}{fd:FuncData}{N ps:List Str}{k:Nat}{m:Sx}(n j:Nat)(F:Fun K x qual st f fd)(S:Cw N ps (Cn st))(hn:N.length=n)(hj:ps.length=j)
  (hbody:∀ (cdv:Value) (A:Around) (outer:List Env) (s:Shared) (H:Hp) (E:XK),Room k (A.deeper (envOfC qual (Cn st) s.heap.objs.size f cdv)) ->
   SVB (Lr CX0 P w K mg base N qual (Cn st) f cdv A outer s H E).nox (EG st) m):DS P w K mg base CX0 (k+1) f fd ps (spF ⟨K,P,w⟩ (fnG n m) j):=by
 subst hn hj
 refine F.ok S (λvs H Q E h=>?_) (λcdv A outer s H vs Q E hr h=>?_)
 ·obtain ⟨th,mu,ds,_,r,hl,_⟩:=h
  rw [r.len]
  exact hl
 ·obtain ⟨th,mu,ds,so,r,hl,t⟩:=h
  refine ⟨_,(hbody cdv A outer s H E hr).r,?_⟩
  obtain ⟨d0,mu0,e0,q0⟩:=id t
  obtain ⟨p,m1,e1,e2⟩:=Hf e0
  refine ⟨th,mu,_,so,Ki r,p,m1,e1,λth1 H1 x1 s1 st' en'=>?_⟩
  obtain ⟨fl,ro'⟩:=p
  obtain ⟨more,pre⟩:=x1.pre
  have done:∀ (d:D) (v:V),Nj mu m1 d=some (d0,mu0)->Rep ⟨K,P,w⟩ th1 H1 d v->Q v H1:=λd v ec rv=>by
   unfold Nj at ec
   split at ec
   ·rename_i d' ef
    split at ec
    ·rename_i hl
     cases ec
     rw [← so.len] at ef hl q0
     exact q0 th H1 ⟨⟨[],by simp⟩,λ_ _ n _=>n,x1.keep⟩ (UZ s1 pre hl) v (QF s1 pre 3 d d0 v ef rv)
    ·cases ec
   ·cases ec
  cases fl with
  | rt d=>exact λv rv=>done d v e2 rv
  | nx=>exact done .non .non e2 (by unfold Rep;rfl)
  | bk=>cases e2
  | ct=>cases e2
noncomputable def DAt (h:Heap)(d:Addr)(es:Array DictEntry)(ep:Nat):Prop:=∃ o,h.get? d=some o∧o.data=.dict es ep
noncomputable def DIt (T:String)(d I:Addr)(es:Array DictEntry)(ep i:Nat)(h:Heap):Prop:=DAt h d es ep∧∃ o,h.get? I=some o∧o.cls=.type T∧o.data=.fields #[.ref d,.int i 0,.int es.size 0,.int ep 0]
section
variable {prog:Program} {w:World} {A:Around} {E:Value->Shared->Prop} {s:Shared}
theorem DIt.ty {T:String}{d I:Addr}{es:Array DictEntry}{ep i:Nat}(g:DIt T d I es ep i s.heap):s.TypeIs (.ref I) T:=let ⟨_,o,a,b,_⟩:=g;⟨o,a,b⟩
theorem DIt.step {T:String}{d I:Addr}{es:Array DictEntry}{ep i:Nat}{h:Heap}(ne:d≠I)(g:DIt T d I es ep i h):DIt T d I es ep (i+1) (h.update I (Obj.mapFields (·.setIfInBounds 1 (rawInt ((i:Int)+1))))):=by
 obtain ⟨⟨od,d1,d2⟩,o,a,b,c⟩:=g
 exact ⟨⟨od,((Aw ..).2 d ne).trans d1,d2⟩,_,AH _ a (Obj.isFreed_of_fields (Obj.data_mapFields c _)),(Obj.cls_mapFields ..).trans b,by rw [Obj.data_mapFields c];simp [rawInt]⟩
theorem R7 {d I:Addr}{es:Array DictEntry}{ep i:Nat}{Q:Option Value->Shared->Prop}(ne:d≠I)(g:DIt "dict_keyiterator" d I es ep i s.heap)(hi:i<es.size)
  (q:∀ h',DIt "dict_keyiterator" d I es ep (i+1) h'->Heap.SameBut I s.heap h'->Q (some es[i].key) { s with heap:=h' }):wpAny (model prog w) A (pyNext (.ref I)) Q E s:=by
 obtain ⟨⟨od,d1,d2⟩,o,a,b,c⟩:=id g
 unfold pyNext
 refine Aa (wpAny_attempt (AK (name:=Str.ofString "__next__") g.ty Bp (AM Bp g.ty F.entry_dict_keyiterator_next ?_ (F.args_dict_keyiterator_next_1 _))))
 refine Aa (Ac (Aa (Aa ?_)))
 refine Aa (BP g.ty (Ac (Aa (wpAny_fieldsOf a c ?_))))
 simp only [show Builtin.Dict_items.ownsTuple "dict_keyiterator"=false by decide,AN,A5]
 refine (?_:wpAny _ _ (if (Value.ref d==Value.none)=true then _ else _) _ _ s)
 rw [if_neg (show ¬ ((Value.ref d==Value.none)=true) from AF)]
 refine Aa (Ac (Aa (BR d1 d2 ?_)))
 rw [if_neg (by simp)]
 refine Aa (Ac (Aa (BF d1 d2 ?_)))
 rw [if_neg (by simp)]
 refine Ac ?_
 simp only [show ¬ ((i:Int)<0) by omega,A5,Int.toNat_natCast,As hi]
 refine Aa (Aa (BP g.ty (Ac ?_)))
 refine Aa (wpAny_isOneOf_keyiter g.ty ?_)
 refine (?_:wpAny _ _ (setField (.ref I) 1 (rawInt ((i:Int)+1)) >>= _) _ _ s)
 have g':=g.step ne
 refine Aa (Bo a c (by simp) (Aa (AD ?_)))
 generalize hu:s.heap.update I (Obj.mapFields (·.setIfInBounds 1 (rawInt ((i:Int)+1))))=h2 at g' ⊢
 have sb:Heap.SameBut I s.heap h2:=by rw [← hu];exact Aw ..
 have t2:=DIt.ty (s:={ s with heap:=h2 }) g'
 refine Aa (wpAny_isOneOf_keyiter (s:={ s with heap:=h2 }) t2 ?_)
 refine (?_:wpAny _ _ (pure es[i].key) _ _ _)
 exact Ac (Ac ⟨_,rfl,Ac (q _ g' sb)⟩)
theorem Sn {d I:Addr}{es:Array DictEntry}{ep:Nat}{Q:Option Value->Shared->Prop}(hh:A.handled=none)(g:DIt "dict_keyiterator" d I es ep es.size s.heap)
  (q:∀ h',(∀ c o,c≠I->s.heap.get? c=some o->h'.get? c=some o)->Q none { s with heap:=h' }):wpAny (model prog w) A (pyNext (.ref I)) Q E s:=by
 obtain ⟨⟨od,d1,d2⟩,o,a,b,c⟩:=id g
 unfold pyNext
 refine Aa (wpAny_attempt (AK (name:=Str.ofString "__next__") g.ty Bp (AM Bp g.ty F.entry_dict_keyiterator_next ?_ (F.args_dict_keyiterator_next_1 _))))
 refine Aa (Ac (Aa (Aa ?_)))
 refine Aa (BP g.ty (Ac (Aa (wpAny_fieldsOf a c ?_))))
 simp only [show Builtin.Dict_items.ownsTuple "dict_keyiterator"=false by decide,AN,A5]
 refine (?_:wpAny _ _ (if (Value.ref d==Value.none)=true then _ else _) _ _ s)
 rw [if_neg (show ¬ ((Value.ref d==Value.none)=true) from AF)]
 refine Aa (Ac (Aa (BR d1 d2 ?_)))
 rw [if_neg (by simp)]
 refine Aa (Ac (Aa (BF d1 d2 ?_)))
 rw [if_neg (by simp)]
 refine Ac ?_
 simp only [show ¬ ((es.size:Int)<0) by omega,A5,Int.toNat_natCast,Bl (Ah es.size)]
 refine Aa (Aa (BP g.ty (Ac ?_)))
 refine (?_:wpAny _ _ (setField (.ref I) 0 .none >>= _) _ _ s)
 refine Aa (Bo a c (by simp) ?_)
 refine HI (I:=I) hh λh' e z1 z2=>?_
 obtain ⟨oe,he,hc⟩:=z2
 exact Aa (B8 (T:="StopIteration") (b:=true) ⟨oe,he,hc⟩ isSubtype_stop (Ac (q h' λc o hc z=>z1 c o (((Aw ..).2 c hc).trans z))))
theorem L4 (hh:A.handled=none){d I:Addr}{es:Array DictEntry}{ep:Nat}(ne:d≠I):Walks prog w A I [I,d] [I] es.size (λi v=>∃ e,es[i]? = some e∧e.key=v) (λi h=>DIt "dict_keyiterator" d I es ep i h) where
 sub:=λb hb=>by rw [An.mp hb];simp
 frame:=λ_ h1 h2 st hk=>let ⟨⟨od,d1,d2⟩,o,a,b⟩:=st;⟨⟨od,hk d (by simp) _ d1,d2⟩,o,hk I (by simp) _ a,b⟩
 item:=λk s R E hi st hQ=>R7 ne st hi λh' g' sb=>hQ _ h' s.toks ⟨_,As hi,rfl⟩ g' λb o hb z=>(sb.2 b (by simpa using hb)).trans z
 done:=λs R E st hQ=>Sn hh st λh' k=>hQ h' s.toks λb o hb z=>k b o (by simpa using hb) z
 self:=λ_ s R E st hQ=>by
  refine wpAny_pyIter_slot st.ty F.slot_dict_keyiterator_iter (AM F.slot_dict_keyiterator_iter st.ty F.entry_dict_keyiterator_iter ?_ (F.args_dict_keyiterator_iter_1 _))
  refine (?_:wpAny _ _ (ret (.ref I)) _ _ s)
  exact Ac ⟨_,rfl,"dict_keyiterator",_,st.ty,Bp.lookup,hQ⟩
theorem Pf {d:Addr}{o:Obj}{es:Array DictEntry}{ep:Nat}{Q:Value->Shared->Prop}(ns:(d==sysModules)=false)(d1:s.heap.get? d=some o)(dc:o.cls=.type "dict")(d2:o.data=.dict es ep)
  (q:∀ h',h'.objs.size=s.heap.objs.size+1->(∀ b o,s.heap.get? b=some o->h'.get? b=some o)->DIt "dict_keyiterator" d s.heap.objs.size es ep 0 h'->Q (.ref s.heap.objs.size) { s with heap:=h' }):wpAny (model prog w) A (pyIter (.ref d)) Q E s:=by
 have hT:s.TypeIs (.ref d) "dict":=⟨o,d1,dc⟩
 refine wpAny_pyIter_slot hT F.slot_dict_iter (AM F.slot_dict_iter hT F.entry_dict_iter ?_ (F.args_dict_iter_1 _))
 unfold Builtin.«dict.__iter__» Builtin.Dict.dictSlotNone
 refine Aa (Aa (wpAny_notOrdered_dict hT ?_))
 refine (?_:wpAny _ _ (pure (Value.ref d)) _ _ s)
 refine Ac (?_:wpAny _ _ (Builtin.Dict.showsAll d >>= _) _ _ s)
 unfold Builtin.Dict.showsAll
 rw [if_neg (by rw [ns];exact AF)]
 refine Aa (Ac (Aa (BR d1 d2 (Aa (BF d1 d2 ?_)))))
 refine Aa (AU (Ac ⟨_,rfl,"dict_keyiterator",_,⟨_,Ai _ rfl,rfl⟩,Bp.lookup,?_⟩))
 exact q _ (Be ..) (λb o e=>Ad _ e) ⟨⟨o,Ad _ d1,d2⟩,_,Ai _ rfl,rfl,rfl⟩
theorem Pa {S:Addr}{ob:Obj}{es:Array DictEntry}{ep:Nat}{Q:List Value->Shared->Prop}(hh:A.handled=none)(hz:es.size≤sizeLine)(g1:s.heap.get? S=some ob)(gc:ob.cls=.type "dict")(ns:(S==sysModules)=false)(g2:DAt s.heap S es ep)
  (q:∀ h' tk,(∀ b o,s.heap.get? b=some o->h'.get? b=some o)->Q (es.toList.map (·.key)) { s with heap:=h',toks:=tk }):wpAny (model prog w) A (collect (.ref S)) Q E s:=by
 obtain ⟨od,d1,d2⟩:=g2
 have lS:S<s.heap.objs.size:=Aj g1
 have ld:S<s.heap.objs.size:=Aj d1
 have nS:s.heap.objs.size≠S:=Bt lS
 have nd:s.heap.objs.size≠S:=Bt ld
 unfold collect
 refine Aa (wpAny_runValue (Bh F.entry_proto_collect ?_))
 rw [Bb F.plain_proto_collect _]
 refine (?_:wpAny _ A.in1 (newList [] >>= λl=>again (.builtin "list.__iadd__" ⟨[l,.ref S],[]⟩)) _ _ s)
 refine Aa (AU (Ac ⟨BM F.plain_list_iadd _,Bh F.entry_list_iadd ?_⟩))
 rw [Bb F.plain_list_iadd _]
 refine (?_:wpAny _ A.in1 (Builtin.List.listExtendWith (.ref s.heap.objs.size) (.ref S) (.ref s.heap.objs.size)) _ _ _)
 (unfold Builtin.List.listExtendWith)
 have gS:(s.heap.push { cls:=.type "list",data:=.seq ([]:List Value).toArray }).get? S=some ob:=Ad _ g1
 have gd:(s.heap.push { cls:=.type "list",data:=.seq ([]:List Value).toArray }).get? S=some od:=Ad _ d1
 have gL:(s.heap.push { cls:=.type "list",data:=.seq ([]:List Value).toArray }).get? s.heap.objs.size=some { cls:=.type "list",data:=.seq ([]:List Value).toArray }:=Ai _ rfl
 generalize hP:s.heap.push { cls:=.type "list",data:=.seq ([]:List Value).toArray }=h1 at gS gL gd ⊢
 have k1:∀ b o,s.heap.get? b=some o->h1.get? b=some o:=λb o e=>by rw [← hP];exact Ad _ e
 have sz1:h1.objs.size=s.heap.objs.size+1:=by rw [← hP];exact Be ..
 have ty:Shared.TypeIs { s with heap:=h1 } (.ref S) "dict":=⟨ob,gS,gc⟩
 refine Aa (By ty ?_)
 have e1:Builtin.List.listSameRef (.ref s.heap.objs.size) (.ref S)=false:=by simp [Builtin.List.listSameRef,nS]
 simp only [e1,show (Value.type "dict"==Value.type "list")=false by decide,show (Value.type "dict"==Value.type "tuple")=false by decide,Bool.or_false,AN,A5]
 have lt1:S<h1.objs.size:=by rw [sz1];exact AY ld
 refine Aa (Pf (s:={ s with heap:=h1 }) ns gd (by rw [g1] at d1;cases d1;exact gc) d2 λh2 e2 k2 st=>?_)
 have ty2:Shared.TypeIs { s with heap:=h2 } (.ref S) "dict":=⟨ob,k2 _ _ gS,gc⟩
 have nLI:s.heap.objs.size≠h1.objs.size:=by rw [sz1];exact Ap (AS _)
 have ndI:S≠h1.objs.size:=Ap lt1
 refine Aa (AD ?_)
 (unfold Builtin.List.listLengthHint)
 refine Aa (wpAny_specialOf ty2 F.slot_dict_len.lookup ?_)
 refine (?_:wpAny _ A.in1 (isInstance (Value.ref S) (.type "dict") >>= _) _ _ _)
 refine Aa (B8 (b:=true) ty2 (by rw [isSubtype_type];kernel_rfl) ?_)
 refine (?_:wpAny _ A.in1 (typeOf (Value.ref S) >>= _) _ _ _)
 refine Aa (By ty2 (Ac ?_))
 have gL2:=k2 _ _ gL
 refine (?_:wpAny _ A.in1 (rule "list.extend.makes-room" >>= λ_=>Builtin.List.listTouch (.ref s.heap.objs.size) >>= λ_=>again (.builtin "list.extend.loop" ⟨[.ref s.heap.objs.size,.ref h1.objs.size,.ref s.heap.objs.size],[]⟩)) _ _ _)
 refine Aa (Bf (Aa ?_))
 refine (?_:wpAny _ A.in1 (updateSeq s.heap.objs.size (·.push .none) >>= λ_=>updateSeq s.heap.objs.size (·.pop)) _ _ _)
 refine Aa (Bz gL2 rfl ?_)
 have gL3:=AH (Obj.mapSeq (·.push Value.none)) gL2 rfl
 refine Bz gL3 rfl ?_
 have gL4:=AH (Obj.mapSeq (·.pop)) gL3 rfl
 have nL:s.heap.objs.size∉[h1.objs.size,S]:=by
  simp only [Am,AQ,BB,not_or]
  exact ⟨nLI,nd⟩
 have oth:∀ b o,b≠s.heap.objs.size->h2.get? b=some o->((h2.update s.heap.objs.size (Obj.mapSeq (·.push Value.none))).update s.heap.objs.size (Obj.mapSeq (·.pop))).get? b=some o:=
  λb o hb e=>(Ba _ _ hb.symm).trans ((Ba _ _ hb.symm).trans e)
 have W:=(L4 (prog:=prog) (A:=A.in1) (w:=w) (es:=es) (ep:=ep) hh ndI).toS
 refine Ac ⟨BM B3 _,codeAny_extend_loopS (A:=A) W hz _ nL _ es.size 0 _ _ _ rfl (AX _) ?_ gL4 (ItemsOf.nil _) λs' acc' c' hm hS' hacc=>?_⟩
 ·exact (L4 (prog:=prog) (A:=A.in1) (w:=w) (es:=es) (ep:=ep) hh ndI).frame 0 _ _ st λb hb o e=>oth b o (λz=>nL (z▸hb)) e
 refine (?_:wpAny _ A (load s.heap.objs.size >>= _) _ _ s')
 refine Aa (wpAny_load hS' ?_)
 obtain ⟨zh,zg,zd,zt,zo⟩:=s'
 have e4:zg=s.gens:=hm.gens
 have e5:zd=s.drawn:=hm.drawn
 have e6:zo=s.os:=hm.os
 subst e4 e5 e6
 have ac:acc'.toList=es.toList.map (·.key):=by
  refine A7 λi=>?_
  rw [Av,AB,AB]
  by_cases hi:i<es.size
  ·have hi':i<acc'.size:=by rw [hacc.1];exact hi
   obtain ⟨e,x1,x2⟩:=hacc.2 i _ (As hi')
   rw [As hi',x1,← x2]
   rfl
  ·rw [Bl (by rw [hacc.1];omega),Bl (by omega)]
   rfl
 refine Ac ?_
 refine (?_:Q acc'.toList _)
 rw [ac]
 refine q zh zt λb o e=>?_
 have bl:=Aj e
 refine hm.heap b o ?_ (oth b o (Ap bl) (k2 _ _ (k1 _ _ e)))
 simp only [Am,AQ,BB,not_or]
 exact ⟨Ap bl,Ap (show b<h1.objs.size by rw [sz1];exact AY bl)⟩
end
section
variable {X:Cx} {K:Zc} {th:List Addr} {mu:Sto} {H:Hp} {pins:List (Addr×Obj)} {st:L2.St} {s:Shared}
theorem PY (hu:X.A.units+64<cLine)(I:L2.Inv X pins st H s)(so:StoOk X.z th mu H){es:List D}(ok:F5 es=true){u:Value}{Q:VK}(t:Tr X.z th H (some (D.lst (GX es),mu)) (KV' X.z Q))
  (col:∀ Q':List Value->Shared->Prop,(∀ vs zs h' tk,RepL X.z th H es vs->Vals vs zs->(∀ b o,s.heap.get? b=some o->h'.get? b=some o)->Q' zs { s with heap:=h',toks:=tk })->wpAny (model X.prog X.w) X.A.in1 (collect u) Q' X.xe s) :
  wpAny (model X.prog X.w) X.A (call (.builtin "sorted") [u]) (EP X pins st Q) X.xe s:=by
 refine Mv (col _ λvs zs h1 tk h2 rv hk=>?_)
 have I1:L2.Inv X pins st H { s with heap:=h1,toks:=tk }:=I.kept (t':=tk) hk
 have l64:es.length<64:=by
  have:=ok
  unfold F5 at this
  rw [Ab,Ab,Ab,Ae] at this
  exact this.1.1.1
 have lz:zs.length=es.length:=by rw [← rv.length,h2.len]
 obtain ⟨ws,out,w1,w2,w3⟩:=sorts hu I1 h2 rv ok
 have z64:64≤sizeLine:=by rw [AO];decide
 have wl:(GX es).length≤sizeLine:=by rw [(EI es).length_eq];omega
 refine ⟨by omega,out,w3,λh' e a hk' ha he=>?_⟩
 have hp:H a=none:=I1.hok.fresh ha
 refine ⟨.ref a,_,I1.laid (t':=tk) (o:=.lst ws) hk' ha ⟨by rw [w1.len];exact wl,out,e,w2,he⟩,rfl,?_⟩
 exact t.retX (.new hp _) (so.new hp _) _ (Rep.newLst so hp w1 wl)
theorem V0 (I:L2.Inv X pins st H s){a:Addr}{ks ds:List D}(h:JW X.z th H a ks ds):∃ o es ep,(a==sysModules)=false∧s.heap.get? a=some o∧o.ExactDict∧o.data=.dict es ep∧es.size≤sizeLine∧(∃ vs,RepL X.z th H ks vs∧Vals vs (es.toList.map (·.key)))∧∃ vs,RepL X.z th H ds vs∧Vals vs (es.toList.map (·.val)):=by
 obtain ⟨xs0,h1',h2,h3,h4,h5⟩:=id h
 obtain ⟨xs,o,es,ep,h1,g⟩:=ID I h
 obtain ⟨⟨z',o',es',ep',g1,g2,g3,g4⟩,_⟩:=(show ObjOk X.prog X.w H s.heap a (Hw a xs0) from I.hok a _ h1')
 have e1:=g.at'
 rw [g1] at e1
 cases e1
 have e2:=g.dt
 rw [g3] at e2
 cases e2
 have kv:∀ {ys:List (Int×V×V)} {zs:List DictEntry},Paired (λ(x:Int×V×V) (e:DictEntry)=>e.hash=x.1∧RelV x.2.1 e.key∧RelV x.2.2 e.val) ys zs->Vals (ys.map (·.2.1)) (zs.map (·.key))∧Vals (ys.map (·.2.2)) (zs.map (·.val)):=λ{ys zs} p=>by
  induction p with
  | nil=>exact ⟨.nil,.nil⟩
  | cons a b ih=>exact ⟨.cons a.2.1 ih.1,.cons a.2.2 ih.2⟩
 have sz:es.size≤sizeLine:=by
  have e:=Dw g.en
  have e':es.size=ks.length:=by
   rw [← Array.length_toList]
   exact e.symm
  rw [e']
  exact h5.len
 exact ⟨o,es,ep,z',g1,g2,g3,sz,⟨_,h3,(kv g4).1⟩,⟨_,h4,(kv g4).2⟩⟩
noncomputable def VH:Fn:=λds mu=>match HD ds with
 | some d=>match FC mu d with
  | some p=>if F5 p.1=true then some (.lst (GX p.1),mu) else none
  | none=>none
 | none=>none
theorem SG {ds:List D}{r:D×Sto}(h:VH ds mu=some r):∃ d p,ds=[d]∧FC mu d=some p∧F5 p.1=true∧r=(.lst (GX p.1),mu):=by
 unfold VH at h
 split at h
 ·rename_i d e
  split at h
  ·rename_i p e2
   split at h
   ·rename_i c;cases h;exact ⟨d,p,GV e,e2,c,rfl⟩
   ·cases h
  ·cases h
 ·cases h
theorem Rv (hu:X.A.units+64<cLine)(hc:X.calm=true):CallV X (.builtin "sorted") VH:=by
 intro pins s st H xs us Q I r h
 obtain ⟨th,mu,ds,so,rd,t⟩:=h
 obtain ⟨a0,mu0,e0,_⟩:=id t
 obtain ⟨d,p,rfl,eg,ok,er⟩:=SG e0
 rw [e0] at t
 cases er
 obtain ⟨x,rfl,rx⟩:=DU rd
 obtain ⟨u,rfl,ru⟩:=vals1 r
 obtain ⟨a,rfl,dc⟩:=FE so eg rx
 cases ru
 obtain ⟨o,es,ep,ns,g1,g2,g3,sz,⟨vs,k1,k2⟩,_⟩:=V0 I dc
 exact PY hu I so ok t λQ' q=>Pa (I.ok.hd hc) sz g1 g2.1 ns ⟨o,g1,g3⟩ λh' tk hk=>q _ _ h' tk k1 k2 hk
noncomputable def PQ:Fn:=λds mu=>match Og ds mu with|some r=>some r|none=>VH ds mu
theorem Mr (hu:X.A.units+64<cLine)(hc:X.calm=true):CallV X (.builtin "sorted") PQ:=CallV.or (QR hu hc) (Rv hu hc)
noncomputable def Qa (d:PyData):Bool:=d.showable&&(!d.hasDict&&(decide (d.depth≤60)&&(decide (d.shown.length≤sizeLine)&&PyData.strOk d.shown)))
noncomputable def IU:Fn:=λds mu=>match HD ds with
 | some d=>if (Dj (seen mu d)&&Qa (toPy (seen mu d)))=true then some (.str (toPy (seen mu d)).shown,mu) else none
 | none=>none
theorem QT {ds:List D}{r:D×Sto}(h:IU ds mu=some r):∃ d,ds=[d]∧Dj (seen mu d)=true∧Qa (toPy (seen mu d))=true∧r=(.str (toPy (seen mu d)).shown,mu):=by
 unfold IU at h
 split at h
 ·rename_i d e
  split at h
  ·rename_i c
   rw [Ab] at c
   cases h
   exact ⟨d,GV e,c.1,c.2,rfl⟩
  ·cases h
 ·cases h
theorem K3 (hu:X.A.units+64<cLine)(hg:X.A.guards=some []):CallV X (.builtin "repr") IU:=by
 intro pins s st H xs us Q I r h
 obtain ⟨th,mu,ds,so,rd,t⟩:=h
 obtain ⟨a0,mu0,e0,_⟩:=id t
 obtain ⟨d,rfl,pu,ok,er⟩:=QT e0
 rw [e0] at t
 cases er
 obtain ⟨x,rfl,rx⟩:=DU rd
 obtain ⟨u,rfl,ru⟩:=vals1 r
 have ok':=ok
 unfold Qa at ok'
 rw [Ab,Ab,Ab,Ab,Ae,Ae] at ok'
 obtain ⟨o1,o2,o3,o4,o5⟩:=ok'
 have nd:(toPy (seen mu d)).hasDict=true->False:=λz=>by rw [z] at o2;cases o2
 obtain ⟨as,r1,_⟩:=EZ I so pu rx ru
 have fin:∀ h' v tk,(∀ b o,s.heap.get? b=some o->h'.get? b=some o)->EP X pins st Q (.str (toPy (seen mu d)).shown v) { s with heap:=h',toks:=tk }:=λh' v tk hk =>
  ⟨.str (toPy (seen mu d)).shown,H,I.kept (t':=tk) hk,⟨v,rfl⟩,t.ret so _ ⟨rfl,o4,o5⟩⟩
 generalize toPy (seen mu d)=pd at *
 cases r1 with
 | none=>exact P.repr_of_none (fin s.heap _ _ λ_ _ e=>e)
 | bool b=>exact P.repr_of_bool (fin s.heap _ _ λ_ _ e=>e)
 | int i tt=>exact P.repr_of_int (by simpa [PyData.showable] using o1) (fin s.heap _ _ λ_ _ e=>e)
 | str x tt=>exact P.repr_of_str (fin s.heap _ _ λ_ _ e=>e) o4
 | list g1 g2 g3 g4=>exact repr_of_reads' (.list g1 g2 g3 g4) o1 (λz=>(nd z).elim) hg (by omega) (λ_ _ e=>e) (λh' v tk hk=>fin h' v tk hk) o4
 | tuple g1 g2 g3 g4=>exact repr_of_reads' (.tuple g1 g2 g3 g4) o1 (λz=>(nd z).elim) hg (by omega) (λ_ _ e=>e) (λh' v tk hk=>fin h' v tk hk) o4
 | dict=>exact (nd rfl).elim
end
theorem Wh (T:String)(hT:T="list"∨T="tuple")(l:Addr)(items:Array Value)(n:Nat)(b:Addr)(dd:Option Addr)(sl:Array (Option Value))(items2:Array Value)(n2:Nat)(hc0:¬(!items.isEmpty&&Builtin.List.listTooLong (items.size+items2.size))=true)(hc1:items.size≤sizeLine)(hs2:items.size+items2.size≤sizeLine+1) :
  Meets (Builtin.«list.extend» ⟨[.ref l,.ref b],[]⟩) (λ_ R s=>s.heap.get? l=some { cls:=.type "list",data:=.seq items n }∧s.heap.get? b=some { cls:=.type T,dict:=dd,data:=.seq items2 n2,slots:=sl }∧R (.ok (.ret Value.none)) { s with heap:=s.heap.update l (Obj.mapSeq λx=>x++items2) }):=
 .of_wp λprog w A R s h=>by
  obtain ⟨hp,g,d,tk,os⟩:=s
  obtain ⟨hl,hb,h⟩:=h
  have f2:=sub_tuple_tuple
  have f3:=sub_list_list
  have f4:=sub_tuple_list
  have f5:=sub_list_tuple
  have hz':(items++items2).size≤sizeLine+1:=by rw [Array.size_append];exact hs2
  rcases hT with rfl|rfl
  ·wp_walk using (Bz hl rfl (hz:=hc1) (_hz':=hz')),BU hl,BU hb
   exact ⟨_,rfl,h⟩
  ·wp_walk using (Bz hl rfl (hz:=hc1) (_hz':=hz')),BU hl,BU hb
   exact ⟨_,rfl,h⟩
section
variable {X:Cx} {K:Zc} {th:List Addr} {mu:Sto} {H:Hp} {pins:List (Addr×Obj)} {st:L2.St} {s:Shared}
theorem Xw:MtR X "list.extend" (λx vs H Q=>∃ l b xs zs,x=.ref l∧vs=[.ref b]∧H l=some (.lst xs)∧(SqL X.K H b zs∨SqT X.K H b zs)∧xs.length+zs.length≤sizeLine∧Q .non (upd H l (.lst (xs++zs)))):=by
 intro pins s σ H x vs v us Q I rx rv h
 obtain ⟨l,b,xs,zs,rfl,rfl,hH,hB,hz,q⟩:=h
 cases rx
 obtain ⟨u,rfl,ru⟩:=rv.one
 cases ru
 obtain ⟨z,its,n,r,hl,e⟩:=I.lstM hH
 have fin:∀ (T:String) (ob:Obj) (its2:List Value) (n2:Nat),(T="list"∨T="tuple")->Vals zs its2->s.heap.get? b=some ob->ob.cls=.type T->ob.data=.seq its2.toArray n2->wpAny (model X.prog X.w) X.A (call (.builtin "list.extend") [.ref l,.ref b]) (EP X pins σ Q) X.xe s:=λT ob its2 n2 hT r2 g1 g2 g3=>by
  have l1:=r.length
  have l2:=r2.length
  have hsz:its.toArray.size+its2.toArray.size≤sizeLine:=by rw [Ak,Ak];omega
  have hlong:¬ (!its.toArray.isEmpty&&Builtin.List.listTooLong (its.toArray.size+its2.toArray.size))=true:=by
   rw [RT hsz,Bool.and_false]
   exact AF
  obtain ⟨cls,dd,data,sl⟩:=ob
  simp only at g2 g3
  subst g2 g3
  refine call_meets F.slot_list_extend ⟨_,e,rfl⟩ F.entry_list_extend (F.args_list_extend_2 _ _) (Wh T hT l its.toArray n b dd sl its2.toArray n2 hlong (by rw [Ak];omega) (by omega)) ⟨e,g1,?_⟩
  refine ⟨.non,_,I.lset (its':=its++its2) hH e (by simp) (r.append r2) ?_,rfl,q⟩
  rw [Az]
  omega
 rcases hB with hB|hB
 ·obtain ⟨its2,r2,⟨ob,n2,g1,g2,_,g3⟩,_⟩:=I.list hB
  exact fin "list" ob its2 n2 (.inl rfl) r2 g1 g2 g3
 ·obtain ⟨its2,r2,⟨ob,g1,g2,n2,g3⟩,_⟩:=I.tuple hB
  exact fin "tuple" ob its2 n2 (.inr rfl) r2 g1 g2 g3
noncomputable def S0 (o:Ex)(a:Exs):Ex:=λro mu=>bM (o ro mu) λd m1=>match d with
 | .ref k=>if Es m1 (.ref k)=true then bM (a ro m1) λxs m2=>match sq1 xs m2,m2[k]? with
  | some ys,some (.lst ds)=>if ds.length+ys.length≤sizeLine then some (.non,m2.set k (.lst (ds++ys))) else none
  | _,_=>none
  else none
 | _=>none
theorem Rz {o e:Expr}{m:Ex}{n:Exs}{apos cpos:Pos}(ho:SV X o m)(ha:SVA X [e] n)(hbase:attributeBase o "extend" X.env (eval o X.env)=eval o X.env:=by rfl)
  (hfew:((backTo cpos (starEach [e] X.env)).all (λx=>!x.1)&&(backToKw cpos (keywordEach [] X.env)).all (λx=>x.1.isSome)
   && decide ([e].length+([]:List Keyword).length+(if ([]:List Keyword).isEmpty then 0 else 1)<30))=true:=by rfl)
  (hline:(apos.endLine==cpos.line)=true:=by rfl) (hs:starEach [e] X.env=(false,eval e X.env)::starEach [] X.env:=by rfl) (hplain:(backTo cpos (starEach [] X.env)).any (·.1)=false:=by rfl) :
  SV X (.Call (.Attribute o "extend" apos) [e] [] cpos) (S0 m n):=
 ⟨PE.weak (Wt PySem.F.plainAttrs_list PySem.F.slot_list_extend PySem.F.type_list_extend Xw ho.r ha.1 hbase hfew hline hs hplain) λst H Q h=>by
  obtain ⟨th,mu,ro,so,en,t⟩:=h
  refine ⟨th,mu,ro,so,en,t.bind.mono λd th1 mu1 H1 e1 s1 t1 v rv=>?_⟩
  cases d with
  | ref k =>
   unfold Rep at rv
   obtain ⟨a,rfl,ha'⟩:=rv
   by_cases cr:Es mu1 (.ref k)=true
   case neg=>dsimp only at t1;rw [if_neg cr] at t1;exact t1.no.elim
   dsimp only at t1
   rw [if_pos cr] at t1
   obtain ⟨ds0,em⟩:=JR cr
   obtain ⟨vs,h2,_⟩:=s1.at' k a _ ha' em
   refine ⟨.inl ⟨rfl,vs,SqL.of h2⟩,th1,mu1,ro,s1,en.ext e1 so.out,?_⟩
   refine Tr.mono (Tr.bind t1) λxs th2 mu2 H2 e2 s2 t2 ws rws=>?_
   cases q1:sq1 xs mu2 with
   | none=>rw [q1] at t2;exact t2.no.elim
   | some ys =>
    cases q2:mu2[k]? with
    | none=>rw [q1,q2] at t2;exact t2.no.elim
    | some o =>
     cases o with
     | dct _ _=>rw [q1,q2] at t2;exact t2.no.elim
     | lst ds =>
      rw [q1,q2] at t2
      dsimp only at t2
      by_cases c:ds.length+ys.length≤sizeLine
      ·rw [if_pos c] at t2
       have hk:=e2.at ha'
       obtain ⟨us,g1,g2,g3⟩:=s2.at' k a _ hk q2
       unfold sq1 at q1
       cases q3:HD xs with
       | none=>rw [q3] at q1;cases q1
       | some y =>
        rw [q3] at q1
        rw [GV q3] at rws
        obtain ⟨y',rfl,ry⟩:=DU rws
        obtain ⟨b,zs,rfl,z1,z2,_⟩:=Gm s2 q1 ry
        exact ⟨a,b,us,zs,rfl,rfl,g1,z1.imp id (·.1),by rw [g2.len,z2.len];exact c,t2.retX (.mut (Ar hk) _) (s2.put hk (g2.app z2) (by rw [Az];exact c)) _ rfl⟩
      ·rw [if_neg c] at t2;exact t2.no.elim
  | _=>exact t1.no.elim⟩
end
section
variable {prog:Program} {w:World} {A:Around} {E:Value->Shared->Prop} {s:Shared}
noncomputable abbrev VA (TI TO a:Addr) (b:Bool):Obj:={ cls:=.type "zip",data:=.fields #[rawInt a,.bool b,.bool false,.ref TI,.ref TO] }
structure zTw (z TI TO i1 i2 l1 l2:Addr) (k:Nat) (h:Heap):Prop where
 zo:∃ a b,h.get? z=some (VA TI TO a b)∧a≠z∧a≠i1∧a≠i2∧∃ o,h.get? a=some o
 ti:IsPair h TI (.ref i1) (.ref i2)
 t1:h.IsTupleIter i1 l1 k
 t2:h.IsTupleIter i2 l2 k
theorem Tt {a:Addr}{o:Obj}{Q:Option Obj->Shared->Prop}(h:s.heap.get? a=some o)(q:Q (some o) s):wpAny (model prog w) A (loadIfAlive a) Q E s:=
 fun Γ p _=>by
  unfold loadIfAlive
  rw [Sem.wp_loadIfAlive,h]
  exact (Sem.wp_pure _ _ _ _ _ _ _).mpr q
theorem Oz {z TI TO a:Addr}{b:Bool}{o:Obj}{Q:Bool->Shared->Prop}(g:s.heap.get? z=some (VA TI TO a b))(ha:s.heap.get? a=some o)
  (q:∀ h',h'.get? z=some (VA TI TO a true)->Heap.SameBut z s.heap h'->Q false { s with heap:=h' }):wpAny (model prog w) A (Builtin.SmallTypes.ownedTupleIsFree (.ref z)) Q E s:=by
 (unfold Builtin.SmallTypes.ownedTupleIsFree)
 refine Aa (A6 g rfl (x:=rawInt a) rfl ?_)
 refine (?_:wpAny _ _ (loadIfAlive ((a:Nat):Int).toNat >>= _) _ _ _)
 rw [Int.toNat_natCast]
 refine Aa (Tt ha ?_)
 refine (?_:wpAny _ _ (field (.ref z) 1 >>= _) _ _ _)
 refine Aa (A6 g rfl (x:=.bool b) rfl ?_)
 cases b with
 | true=>exact Ac (q s.heap g ⟨rfl,λ_ _=>rfl⟩)
 | false =>
  refine (?_:wpAny _ _ (setField (.ref z) 1 (.bool true) >>= _) _ _ _)
  refine Aa (BK g (by simp) λq1 z1 b1=>Ac (q q1 z1 b1))
theorem R5 {z TI TO i1 i2 l1 l2:Addr}{k:Nat}{xs ys:Array Value}{x y:Value}{Q:Value->Shared->Prop}(D:ZipApart z TI TO i1 i2 l1 l2)(g:zTw z TI TO i1 i2 l1 l2 k s.heap)
  (p1:s.heap.IsTuple l1 xs) (p2:s.heap.IsTuple l2 ys) (ex:xs[k]? = some x) (ey:ys[k]? = some y)
  (q:∀ h',zTw z TI TO i1 i2 l1 l2 (k+1) h'->IsPair h' s.heap.objs.size x y->(∀ c o,c≠z->c≠TO->c≠i1->c≠i2->s.heap.get? c=some o->h'.get? c=some o)->Q (.ref s.heap.objs.size) { s with heap:=h' }) :
  wpAny (model prog w) A (Builtin.«zip.__next__» ⟨[.ref z],[]⟩) (λfin s'=>∃ v,fin=.done (.ret v)∧Q v s') E s:=by
 obtain ⟨⟨a,b,g1,az,a1,a2,o,ha⟩,g2,g4,g5⟩:=g
 refine (?_:wpAny _ _ (field (.ref z) 2 >>= _) _ _ _)
 refine Aa (A6 g1 rfl (x:=.bool false) rfl (?_:wpAny _ _ (field (.ref z) 3 >>= _) _ _ _))
 refine Aa (A6 g1 rfl (x:=.ref TI) rfl (Aa (Bj g2 rfl (?_:wpAny _ _ (Builtin.SmallTypes.ownedTupleIsFree (.ref z) >>= _) _ _ _))))
 refine Aa (Oz g1 ha λq1 z1 b1=>?_)
 simp only [AN,A5]
 refine Aa ?_
 rw [← Array.forIn_toList]
 simp only [BV,List.forIn_nil]
 refine Aa (Aa (AD (?_:wpAny _ _ (Builtin.SmallTypes.nextOf (.ref i1) >>= _) _ _ _)))
 refine Aa (JY (g4.extBut b1.extBut D.i1z) (p1.extBut b1.extBut D.l1z) ex λq2 n1 b2=>Ac (Ac ?_))
 refine Aa (Aa (AD (?_:wpAny _ _ (Builtin.SmallTypes.nextOf (.ref i2) >>= _) _ _ _)))
 refine Aa (JY ((g5.extBut b1.extBut D.i2z).extBut b2.extBut D.i12.symm) ((p2.extBut b1.extBut D.l2z).extBut b2.extBut D.l2i1) ey λq4 n2 b4=>Ac (Ac (Ac ?_)))
 have sz:q4.objs.size=s.heap.objs.size:=by rw [b4.1,b2.1,b1.1]
 have kk:∀ c o,c≠z->c≠i1->c≠i2->s.heap.get? c=some o->q4.get? c=some o:=λc o d1 d3 d4 e=>b4.extBut _ _ d4 (b2.extBut _ _ d3 (b1.extBut _ _ d1 e))
 have z4:q4.get? z=some (VA TI TO a true):=b4.extBut _ _ D.i2z.symm (b2.extBut _ _ D.i1z.symm z1)
 refine Aa (wpAny_newTuple (Ac ⟨_,rfl,?_⟩) (by rw [AO];simp))
 rw [sz]
 refine q _ ⟨⟨a,true,Ad _ z4,az,a1,a2,o,Ad _ (kk a o az a1 a2 ha)⟩,Ad _ (kk TI _ D.TIz D.TIi1 D.TIi2 g2),(n1.extBut b4.extBut D.i12).at λo e=>Ad _ e,n2.at λo e=>Ad _ e⟩ ?_ λc o d1 d2 d3 d4 e=>Ad _ (kk c o d1 d3 d4 e)
 rw [← sz]
 exact Ai _ rfl
theorem Tg {z TI TO i1 i2 l1 l2:Addr}{k:Nat}{xs ys:Array Value}{Q:PySem.Fin->Shared->Prop}(hh:A.handled=none)(D:ZipApart z TI TO i1 i2 l1 l2)(g:zTw z TI TO i1 i2 l1 l2 k s.heap)
  (p1:s.heap.IsTuple l1 xs) (p2:s.heap.IsTuple l2 ys) (en:xs[k]? = none∨ys[k]? = none)
  (q:∀ h' e,(∀ c o,c≠z->c≠TO->c≠i1->c≠i2->s.heap.get? c=some o->h'.get? c=some o)->(∃ o,h'.get? e=some o∧o.cls=.type "StopIteration")->E (.ref e) { s with heap:=h' }) :
  wpAny (model prog w) A (Builtin.«zip.__next__» ⟨[.ref z],[]⟩) Q E s:=by
 obtain ⟨⟨a,b,g1,az,a1,a2,o,ha⟩,g2,g4,g5⟩:=g
 refine (?_:wpAny _ _ (field (.ref z) 2 >>= _) _ _ _)
 refine Aa (A6 g1 rfl (x:=.bool false) rfl (?_:wpAny _ _ (field (.ref z) 3 >>= _) _ _ _))
 refine Aa (A6 g1 rfl (x:=.ref TI) rfl (Aa (Bj g2 rfl (?_:wpAny _ _ (Builtin.SmallTypes.ownedTupleIsFree (.ref z) >>= _) _ _ _))))
 refine Aa (Oz g1 ha λq1 z1 b1=>?_)
 simp only [AN,A5]
 refine Aa ?_
 rw [← Array.forIn_toList]
 simp only [BV,List.forIn_nil]
 refine Aa (Aa (AD (?_:wpAny _ _ (Builtin.SmallTypes.nextOf (.ref i1) >>= _) _ _ _)))
 cases ex:xs[k]? with
 | none=>exact Aa (MG hh (g4.extBut b1.extBut D.i1z) (p1.extBut b1.extBut D.l1z) ex λq2 e b2 he=>q q2 e (λc o d1 _ d3 _ u=>b2 _ _ d3 (b1.extBut _ _ d1 u)) he)
 | some x =>
  have ey:ys[k]? = none:=en.resolve_left λu=>by rw [ex] at u;cases u
  refine Aa (JY (g4.extBut b1.extBut D.i1z) (p1.extBut b1.extBut D.l1z) ex λq2 n1 b2=>Ac (Ac ?_))
  refine Aa (Aa (AD (?_:wpAny _ _ (Builtin.SmallTypes.nextOf (.ref i2) >>= _) _ _ _)))
  exact Aa (MG hh ((g5.extBut b1.extBut D.i2z).extBut b2.extBut D.i12.symm) ((p2.extBut b1.extBut D.l2z).extBut b2.extBut D.l2i1) ey λq4 e b4 he=>q q4 e (λc o d1 d2 d3 d4 u=>b4 _ _ d4 (b2.extBut _ _ d3 (b1.extBut _ _ d1 u))) he)
noncomputable def zTx (z TI TO i1 i2 l1 l2:Addr)(k:Nat)(h:Heap):Prop:=zTu z TI TO i1 i2 l1 l2 k h∨zTw z TI TO i1 i2 l1 l2 k h
theorem Td {z TI TO i1 i2 l1 l2:Addr}{k:Nat}{xs ys:Array Value}{x y:Value}{Q:Option Value->Shared->Prop}(D:ZipApart z TI TO i1 i2 l1 l2)(g:zTx z TI TO i1 i2 l1 l2 k s.heap)
  (p1:s.heap.IsTuple l1 xs) (p2:s.heap.IsTuple l2 ys) (ex:xs[k]? = some x) (ey:ys[k]? = some y)
  (q:∀ h',zTx z TI TO i1 i2 l1 l2 (k+1) h'->IsPair h' s.heap.objs.size x y->(∀ c o,c≠z->c≠TO->c≠i1->c≠i2->s.heap.get? c=some o->h'.get? c=some o)->Q (some (.ref s.heap.objs.size)) { s with heap:=h' }) :
  wpAny (model prog w) A (pyNext (.ref z)) Q E s:=by
 rcases g with g|g
 ·have lt:∀ c o,s.heap.get? c=some o->s.heap.objs.size≠c:=λc o e=>Bt (Aj e)
  have n1:s.heap.objs.size≠z:=lt z _ g.1
  have n2:s.heap.objs.size≠i1:=let ⟨o,e,_⟩:=g.2.2.2.1;lt i1 o e
  have n3:s.heap.objs.size≠i2:=let ⟨o,e,_⟩:=g.2.2.2.2;lt i2 o e
  have ti:=g.2.1
  exact Pr D g p1 p2 ex ey λh' a1 a2 a3 a4 a5 a6=>q h' (.inr ⟨⟨s.heap.objs.size,false,a1,n1,n2,n3,_,a5⟩,a6 TI _ D.TIz D.TITO D.TIi1 D.TIi2 ti,a3,a4⟩) a5 a6
 ·obtain ⟨a,b,g1,_⟩:=g.zo
  have ty:s.TypeIs (.ref z) "zip":=⟨_,g1,rfl⟩
  unfold pyNext
  exact Aa (wpAny_attempt (AK (name:=Str.ofString "__next__") ty BW (AM BW ty F.entry_zip_next (R5 D g p1 p2 ex ey λh' a1 a2 a3=>Ac (q h' (.inr a1) a2 a3)) (F.args_zip_next_1 _))))
theorem T1 {z TI TO i1 i2 l1 l2:Addr}{k:Nat}{xs ys:Array Value}{Q:Option Value->Shared->Prop}(hh:A.handled=none)(D:ZipApart z TI TO i1 i2 l1 l2)(g:zTx z TI TO i1 i2 l1 l2 k s.heap)
  (p1:s.heap.IsTuple l1 xs) (p2:s.heap.IsTuple l2 ys) (en:xs[k]? = none∨ys[k]? = none)
  (q:∀ h',(∀ c o,c≠z->c≠TO->c≠i1->c≠i2->s.heap.get? c=some o->h'.get? c=some o)->Q none { s with heap:=h' }):wpAny (model prog w) A (pyNext (.ref z)) Q E s:=by
 rcases g with g|g
 ·exact Ph hh D g p1 p2 en q
 ·obtain ⟨a,b,g1,_⟩:=g.zo
  have ty:s.TypeIs (.ref z) "zip":=⟨_,g1,rfl⟩
  unfold pyNext
  refine Aa (wpAny_attempt (AK (name:=Str.ofString "__next__") ty BW (AM BW ty F.entry_zip_next (Tg hh D g p1 p2 en λh' e hk he=>?_) (F.args_zip_next_1 _))))
  obtain ⟨o,ho,hc⟩:=he
  exact Aa (B8 (T:="StopIteration") (b:=true) ⟨o,ho,hc⟩ isSubtype_stop (Ac (q _ hk)))
theorem zTx.frame {z TI TO i1 i2 l1 l2 S:Addr}{k:Nat}{h h':Heap}(g:zTx z TI TO i1 i2 l1 l2 k h)(n1:S≠z)(n2:S≠TI)(n3:S≠TO)(n4:S≠i1)(n5:S≠i2)(hS:∃ o,h.get? S=some o∧o.cls=.type "list")(hS':∃ o,h'.get? S=some o)(sb:∀ c o,c≠S->h.get? c=some o->h'.get? c=some o):zTx z TI TO i1 i2 l1 l2 k h':=by
 rcases g with ⟨g1,g2,⟨a,b,g3⟩,g4,g5⟩|⟨⟨a,b,g1,a1,a2,a3,o,a4⟩,g2,g3,g4⟩
 ·exact .inl ⟨sb _ _ n1.symm g1,sb _ _ n2.symm g2,⟨a,b,sb _ _ n3.symm g3⟩,g4.at λo e=>sb _ o n4.symm e,g5.at λo e=>sb _ o n5.symm e⟩
 ·refine .inr ⟨⟨a,b,sb _ _ n1.symm g1,a1,a2,a3,?_⟩,sb _ _ n2.symm g2,g3.at λo e=>sb _ o n4.symm e,g4.at λo e=>sb _ o n5.symm e⟩
  by_cases c:a=S
  ·rw [c];exact hS'
  ·exact ⟨o,sb _ o c a4⟩
structure Prs (h:Heap) (base:Nat) (xs ys:Array Value) (acc:Array Value) (k:Nat):Prop where
 sz:acc.size=k
 at':∀ i,i<k->∃ T x y,acc[i]? = some (.ref T)∧xs[i]? = some x∧ys[i]? = some y∧base≤T∧IsPair h T x y
 ap:∀ (i j:Nat) (T U:Addr),i<j->acc[i]? = some (Value.ref T)->acc[j]? = some (Value.ref U)->T≠U
theorem Sd {z TI TO i1 i2 l1 l2 S:Addr}{xs ys:Array Value}{res:Value}{R:Result->Shared->Prop}(hh:A.handled=none)(D:ZipApart z TI TO i1 i2 l1 l2)(n1:S≠z)(n2:S≠TI)(n3:S≠TO)(n4:S≠i1)(n5:S≠i2)(n6:S≠l1)(n7:S≠l2)(h0:Heap)(base:Nat)(hz:Nat.lt z base)(hTO:Nat.lt TO base)(hi1:Nat.lt i1 base)(hi2:Nat.lt i2 base)(hS:Nat.lt S base)(hn:min xs.size ys.size≤sizeLine) :
  ∀ (m k:Nat) (s:Shared) (acc:Array Value) (c:Nat),min xs.size ys.size-k=m->k≤min xs.size ys.size->zTx z TI TO i1 i2 l1 l2 k s.heap->s.heap.IsTuple l1 xs->s.heap.IsTuple l2 ys->base≤s.heap.objs.size ->
  s.heap.get? S=some { cls:=.type "list",data:=.seq acc c }->Prs s.heap base xs ys acc k->(∀ c o,Nat.lt c base->c≠z->c≠TO->c≠i1->c≠i2->c≠S->h0.get? c=some o->s.heap.get? c=some o) ->
  (∀ h' tk acc' c',h'.get? S=some { cls:=.type "list",data:=.seq acc' c' }->Prs h' base xs ys acc' (min xs.size ys.size)->(∀ c o,Nat.lt c base->c≠z->c≠TO->c≠i1->c≠i2->c≠S->h0.get? c=some o->h'.get? c=some o)->R (.ok (.ret res)) { s with heap:=h',toks:=tk }) ->
  codeAny (model prog w) A (.builtin "list.extend.loop" ⟨[.ref S,.ref z,res],[]⟩) R s:=by
 have far:∀ {T a:Addr},base≤T->Nat.lt a base->T≠a:=λ{T a} x y e=>by
  subst e
  exact A8 _ (Au y x)
 intro m
 induction m with
 | zero =>
  intro k s acc c hk hi g p1 p2 hb hl hp k0 hR
  have e:k=min xs.size ys.size:=by omega
  subst e
  refine Bh F.entry_extend_loop ?_
  rw [Bb B3 _]
  refine (?_:wpAny _ A.in1 (pyNext (.ref z) >>= _) _ _ s)
  refine Aa (T1 hh D g p1 p2 ?_ λh' hk'=>?_)
  ·rcases Nat.le_total xs.size ys.size with q|q
   ·exact .inl (Bl (by omega))
   ·exact .inr (Bl (by omega))
  refine Ac (hR h' s.toks acc c (hk' S _ n1 n3 n4 n5 hl) ⟨hp.sz,λi hi=>?_,hp.ap⟩ λc o d0 d1 d2 d3 d4 d5 e=>hk' c o d1 d2 d3 d4 (k0 c o d0 d1 d2 d3 d4 d5 e))
  obtain ⟨T,x,y,t1,t2,t3,t4,t5⟩:=hp.at' i hi
  exact ⟨T,x,y,t1,t2,t3,t4,hk' T _ (far t4 hz) (far t4 hTO) (far t4 hi1) (far t4 hi2) t5⟩
 | succ m ih =>
  intro k s acc c hk hi g p1 p2 hb hl hp k0 hR
  have l1':k<xs.size:=by omega
  have l2':k<ys.size:=by omega
  refine Bh F.entry_extend_loop ?_
  rw [Bb B3 _]
  refine (?_:wpAny _ A.in1 (pyNext (.ref z) >>= _) _ _ s)
  refine Aa (Td D g p1 p2 (As l1') (As l2') λh' g' nw hk'=>?_)
  have hl':=hk' S _ n1 n3 n4 n5 hl
  refine (?_:wpAny _ A.in1 (updateSeq S (·.push (.ref s.heap.objs.size)) >>= _) _ _ _)
  have nS:s.heap.objs.size≠S:=far hb hS
  have oth:∀ c o,c≠S->h'.get? c=some o->(h'.update S (Obj.mapSeq (·.push (.ref s.heap.objs.size)))).get? c=some o:=λc o d e=>(Ba _ _ d.symm).trans e
  have new:=AH (Obj.mapSeq (·.push (Value.ref s.heap.objs.size))) hl' rfl
  refine Aa (Bz hl' rfl (Ac ⟨BM B3 _,?_⟩) (by rw [hp.sz];omega) (by rw [Array.size_push,hp.sz];omega))
  refine ih (k+1) _ (acc.push (.ref s.heap.objs.size)) _ (by omega) (by omega) (g'.frame n1 n2 n3 n4 n5 ⟨_,hl',rfl⟩ ⟨_,new⟩ oth) ?_ ?_ ?_ new ⟨by rw [Array.size_push,hp.sz],λi hi=>?_,λi j T U hij h1 h2=>?_⟩ (λc o d0 d1 d2 d3 d4 d5 e=>oth c o d5 (hk' c o d1 d2 d3 d4 (k0 c o d0 d1 d2 d3 d4 d5 e))) λh2 tk acc' c' x1 x2 x3=>hR h2 tk acc' c' x1 x2 x3
  ·obtain ⟨o,e,r⟩:=p1
   exact ⟨o,oth _ _ n6.symm (hk' _ _ D.l1z D.l1TO D.l1i1 D.l1i2 e),r⟩
  ·obtain ⟨o,e,r⟩:=p2
   exact ⟨o,oth _ _ n7.symm (hk' _ _ D.l2z D.l2TO D.l2i1 D.l2i2 e),r⟩
  ·exact AA hb (Nat.le_of_lt (Aj (oth _ _ nS nw)))
  ·by_cases c:i<k
   ·obtain ⟨T,x,y,t1,t2,t3,t4,t5⟩:=hp.at' i c
    refine ⟨T,x,y,?_,t2,t3,t4,oth _ _ (far t4 hS) (hk' T _ (far t4 hz) (far t4 hTO) (far t4 hi1) (far t4 hi2) t5)⟩
    rw [Array.getElem?_push_lt (by rw [hp.sz];exact c)]
    rw [← t1,As (by rw [hp.sz];exact c)]
   ·have:i=k:=by omega
    subst this
    refine ⟨s.heap.objs.size,xs[i],ys[i],?_,As l1',As l2',hb,oth _ _ nS nw⟩
    rw [← hp.sz,Array.getElem?_push_size]
  ·have hj:j<acc.size+1:=by
    have:=(Array.getElem?_eq_some_iff.mp h2).1
    rwa [Array.size_push] at this
   have hi':i<acc.size:=by omega
   rw [Array.getElem?_push_lt hi',← As hi'] at h1
   by_cases c:j<acc.size
   ·rw [Array.getElem?_push_lt c,← As c] at h2
    exact hp.ap i j T U hij h1 h2
   ·have:j=acc.size:=by omega
    subst this
    rw [Array.getElem?_push_size] at h2
    cases h2
    obtain ⟨T',x,y,t1,_,_,_,t5⟩:=hp.at' i (by rw [← hp.sz];exact hi')
    rw [h1] at t1
    cases t1
    exact Ap (Aj t5)
end
theorem Q4:typeLookup (.type "zip") "__len__"=pure none:=by rw [typeLookup_type,BI];kernel_rfl
theorem Pt:typeLookup (.type "zip") "__length_hint__"=pure none:=by rw [typeLookup_type,BI];kernel_rfl
section
variable {prog:Program} {w:World} {A:Around} {E:Value->Shared->Prop} {s:Shared}
theorem Uc {z TI TO i1 i2 l1 l2:Addr}{xs ys:Array Value}{Q:Value->Shared->Prop}(hh:A.handled=none)(D:ZipApart z TI TO i1 i2 l1 l2)(g:zTu z TI TO i1 i2 l1 l2 0 s.heap)(p1:s.heap.IsTuple l1 xs)(p2:s.heap.IsTuple l2 ys)(hn:min xs.size ys.size≤sizeLine)
  (q:∀ h' tk acc c,h'.get? s.heap.objs.size=some { cls:=.type "list",data:=.seq acc c }->Prs h' (s.heap.objs.size+1) xs ys acc (min xs.size ys.size)->(∀ c o,c≠z->c≠TO->c≠i1->c≠i2->s.heap.get? c=some o->h'.get? c=some o)->Q (.ref s.heap.objs.size) { s with heap:=h',toks:=tk }) :
  wpAny (model prog w) A (call (.type "list") [.ref z]) Q E s:=by
 obtain ⟨g1,g2,⟨a,b,g3⟩,⟨o4,g4,c4,d4⟩,⟨o5,g5,c5,d5⟩⟩:=id g
 obtain ⟨t1,e1,r1⟩:=id p1
 obtain ⟨t2,e2,r2⟩:=id p2
 have old:∀ c o,s.heap.get? c=some o->Nat.lt c s.heap.objs.size:=λc o e=>Aj e
 have far:∀ c o,s.heap.get? c=some o->s.heap.objs.size≠c:=λc o e=>Bt (old c o e)
 refine callType_codes (Q₁:=λobj s₁=>obj=.ref s.heap.objs.size∧s₁={ s with heap:=s.heap.push { cls:=.type "list",data:=.seq #[] } }) F.called_list (F.typeCall_list_1 _) F.entry_list_init (code_list_new _ ⟨rfl,rfl⟩) λobj s₁ h₁=>?_
 obtain ⟨rfl,rfl⟩:=h₁
 have hS:(s.heap.push { cls:=.type "list",data:=.seq #[] }).get? s.heap.objs.size=some { cls:=.type "list",data:=.seq #[] }:=Ai _ rfl
 have kp:∀ c o,s.heap.get? c=some o->(s.heap.push { cls:=.type "list",data:=.seq #[] }).get? c=some o:=λc o e=>Ad _ e
 have sz1:(s.heap.push { cls:=.type "list",data:=.seq #[] }).objs.size=s.heap.objs.size+1:=Be ..
 refine ⟨⟨_,hS,rfl⟩,F.args_list_init_2 _ _,?_⟩
 generalize s.heap.push { cls:=.type "list",data:=.seq #[] }=h1 at hS kp sz1 ⊢
 refine (?_:wpAny _ A.in1.in1 (do let old←Builtin.List.listItems (.ref s.heap.objs.size);Builtin.List.listUpdate (.ref s.heap.objs.size) (λ_=>#[]);letGo old.toList.reverse;Builtin.List.listExtendWith (.ref s.heap.objs.size) (.ref z) .none) _ _ _)
 refine Aa ?_
 unfold Builtin.List.listItems
 refine Aa (Bj hS rfl (Ac ?_))
 refine (?_:wpAny _ A.in1.in1 (updateSeq s.heap.objs.size (λ_=>#[]) >>= λ_=>letGo (#[]:Array Value).toList.reverse >>= λ_=>Builtin.List.listExtendWith (.ref s.heap.objs.size) (.ref z) .none) _ _ _)
 refine Aa (Bz hS rfl ?_)
 have hS2:=AH (Obj.mapSeq (λ_=>(#[]:Array Value))) hS rfl
 have oth2:∀ c o,c≠s.heap.objs.size->h1.get? c=some o->(h1.update s.heap.objs.size (Obj.mapSeq (λ_=>(#[]:Array Value)))).get? c=some o:=λc o hb e=>(Ba _ _ hb.symm).trans e
 have sz2:(h1.update s.heap.objs.size (Obj.mapSeq (λ_=>(#[]:Array Value)))).objs.size=s.heap.objs.size+1:=by rw [← sz1];exact (Aw (a:=s.heap.objs.size) ..).1
 refine Aa (wpAny_letGo ?_)
 dsimp only
 generalize h1.update s.heap.objs.size (Obj.mapSeq (λ_=>(#[]:Array Value)))=h2 at hS2 oth2 sz2 ⊢
 have zz:IsZip h2 z TI TO .none:=oth2 _ _ (far z _ g1).symm (kp _ _ g1)
 have tz:Shared.TypeIs { s with heap:=h2 } (.ref z) "zip":=⟨_,zz,rfl⟩
 (unfold Builtin.List.listExtendWith)
 refine Aa (By tz ?_)
 have e0:Builtin.List.listSameRef (.ref s.heap.objs.size) (.ref z)=false:=by simp [Builtin.List.listSameRef,far z _ g1]
 simp only [e0,show (Value.type "zip"==Value.type "list")=false by decide,show (Value.type "zip"==Value.type "tuple")=false by decide,Bool.or_false,AN,A5]
 refine Aa (wpAny_pyIter_zip zz (Aa (AD ?_)))
 (unfold Builtin.List.listLengthHint)
 refine Aa (wpAny_specialOf tz Q4 ?_)
 refine (?_:wpAny _ A.in1.in1 (specialOf (Value.ref z) (Str.ofString "__length_hint__") >>= _) _ _ _)
 refine Aa (wpAny_specialOf tz Pt (Ac ?_))
 refine (?_:wpAny _ A.in1.in1 (rule "list.extend.makes-room" >>= λ_=>Builtin.List.listTouch (.ref s.heap.objs.size) >>= λ_=>again (.builtin "list.extend.loop" ⟨[.ref s.heap.objs.size,.ref z,.none],[]⟩)) _ _ _)
 refine Aa (Bf (Aa ?_))
 refine (?_:wpAny _ A.in1.in1 (updateSeq s.heap.objs.size (·.push .none) >>= λ_=>updateSeq s.heap.objs.size (·.pop)) _ _ _)
 refine Aa (Bz hS2 rfl ?_)
 have hS3:=AH (Obj.mapSeq (·.push Value.none)) hS2 rfl
 refine Bz hS3 rfl ?_ (by decide)
 have hS4:=AH (Obj.mapSeq (·.pop)) hS3 rfl
 have oth4:∀ c o,c≠s.heap.objs.size->h2.get? c=some o->((h2.update s.heap.objs.size (Obj.mapSeq (·.push Value.none))).update s.heap.objs.size (Obj.mapSeq (·.pop))).get? c=some o:=λc o hb e=>(Ba _ _ hb.symm).trans ((Ba _ _ hb.symm).trans e)
 have sz4:((h2.update s.heap.objs.size (Obj.mapSeq (·.push Value.none))).update s.heap.objs.size (Obj.mapSeq (·.pop))).objs.size=s.heap.objs.size+1:=by rw [← sz2];exact (Aw (a:=s.heap.objs.size) ..).1.trans (Aw (a:=s.heap.objs.size) ..).1
 dsimp only at hS4 oth4 sz4 ⊢
 generalize (h2.update s.heap.objs.size (Obj.mapSeq (·.push Value.none))).update s.heap.objs.size (Obj.mapSeq (·.pop))=h4 at hS4 oth4 sz4 ⊢
 have k4:∀ c o,s.heap.get? c=some o->h4.get? c=some o:=λc o e=>oth4 c o (far c o e).symm (oth2 c o (far c o e).symm (kp c o e))
 have lt1:∀ c o,s.heap.get? c=some o->Nat.lt c (s.heap.objs.size+1):=λc o e=>AY (old c o e)
 refine Ac ⟨BM B3 _,Sd (A:=A.in1) hh D (far z _ g1) (far TI _ g2) (far TO _ g3) (far i1 _ g4) (far i2 _ g5) (far l1 _ e1) (far l2 _ e2) h4 (s.heap.objs.size+1) (lt1 z _ g1) (lt1 TO _ g3) (lt1 i1 _ g4) (lt1 i2 _ g5) (AS _) hn _ 0 _ _ _ rfl (AX _) (.inl ⟨k4 _ _ g1,k4 _ _ g2,⟨a,b,k4 _ _ g3⟩,⟨o4,k4 _ _ g4,c4,d4⟩,⟨o5,k4 _ _ g5,c5,d5⟩⟩) ⟨t1,k4 _ _ e1,r1⟩ ⟨t2,k4 _ _ e2,r2⟩ (Nat.le_of_eq sz4.symm) hS4 ⟨rfl,λi hi=>absurd hi (Nat.not_lt_zero _),λi j T U _ h1 _=>by simp at h1⟩ (λc o _ _ _ _ _ _ e=>e) λh' tk acc c' x1 x2 x3=>?_⟩
 exact ⟨rfl,q h' tk acc c' x1 x2 λc o d1 d2 d3 d4 e=>x3 c o (lt1 c o e) d1 d2 d3 d4 (far c o e).symm (k4 c o e)⟩
end
section
variable {X:Cx} {K:Zc} {th:List Addr} {mu:Sto} {H:Hp} {pins:List (Addr×Obj)} {st:L2.St} {s s1:Shared}
theorem Qe {base:Nat}{xs ys acc:Array Value}{n:Nat}{ds es:List D}{us ws:List V}(I1:L2.Inv X pins st H s1)(I:L2.Inv X pins st H s)(so:StoOk X.z th mu H)(hb:s1.heap.objs.size≤base)(P:Prs s.heap base xs ys acc n)(r1:RepL X.z th H ds us)(q1:Vals us xs.toList)(r2:RepL X.z th H es ws)(q2:Vals ws ys.toList) :
  ∀ k,k≤n->∃ H' zs,L2.Inv X pins st H' s∧StoOk X.z th mu H'∧Ext th H th H'∧RepL X.z th H' ((Jw ds es).take k) zs∧Vals zs (acc.toList.take k)∧∀ a,s1.heap.objs.size≤a->(∀ i,i<k->acc[i]?≠some (.ref a))->H' a=none
 | 0,_=>⟨H,[],I,so,.refl _ _,by simp;exact .nil,by simp;exact .nil,λa ha _=>I1.hok.fresh ha⟩
 | k+1,hk=>by
  obtain ⟨H',zs,J,sj,ex,rz,qz,fr⟩:=Qe I1 I so hb P r1 q1 r2 q2 k (by omega)
  obtain ⟨T,x,y,t1,t2,t3,t4,t5⟩:=P.at' k hk
  have hT:H' T=none:=fr T (AA hb t4) λi hi e=>P.ap i k T T hi e t1 rfl
  obtain ⟨v,v1,v2⟩:=(DD q1 k).2 x (by simpa using t2)
  obtain ⟨u,u1,u2⟩:=(DD q2 k).2 y (by simpa using t3)
  have kd:k<ds.length:=by rw [← r1.len];exact (Af.mp v1).1
  have ke:k<es.length:=by rw [← r2.len];exact (Af.mp u1).1
  obtain ⟨v',w1,w2⟩:=r1.get (Ao kd)
  rw [v1] at w1
  cases w1
  obtain ⟨u',w3,w4⟩:=r2.get (Ao ke)
  rw [u1] at w3
  cases w3
  have ek:(Jw ds es)[k]? = some (.tup [ds[k],es[k]]):=by
   unfold Jw
   rw [Av,(List.getElem?_zip_eq_some (z:=(ds[k],es[k]))).mpr ⟨Ao kd,Ao ke⟩]
   rfl
  have rp:RepL X.z th H' [ds[k],es[k]] [v,u]:=.cons (w2.ext ex so.out) (.cons (w4.ext ex so.out) .nil)
  have J':=Inv.lay (T:=T) (o:=.tup [v,u]) J (I1.fpOk (AA hb t4) hT) (AA I1.sz (AA hb t4)) ⟨⟨by show 2≤sizeLine;decide,_,t5,rfl⟩,[x,y],.cons v2 (.cons u2 .nil),⟨_,t5,rfl,_,rfl⟩⟩
  refine ⟨_,zs++[.ref T],J',sj.new hT _,ex.trans (.new hT _),?_,?_,λa ha hn=>?_⟩
  ·rw [List.take_add_one,ek]
   exact (rz.ext (.new hT _) sj.out).app (.cons (Rep.newTup sj hT rp (by show 2≤sizeLine;decide)) .nil)
  ·rw [List.take_add_one,AB,t1]
   exact Vals.append qz (.cons rfl .nil)
  ·have ne:a≠T:=λe=>hn k (AS _) (by rw [e];exact t1)
   rw [CY ne]
   exact fr a ha λi hi=>hn i (by omega)
noncomputable def eLZ (m:Exs):Ex:=λro mu=>bM (m ro mu) λds m1=>match ON ds with
 | some p=>some (.lst (Jw p.1 p.2),m1)
 | none=>none
theorem Pg (hc:X.calm=true){a b:Expr}{m:Exs}{p pos p2 pos2:Pos}(hm:X.mg "zip"=none)(hml:X.mg "list"=none)(ha:SVA X [a,b] m)(hg:Gl X "zip":=by rfl)(hgl:Gl X "list":=by rfl)(hs:starEach [a,b] X.env=[(false,eval a X.env),(false,eval b X.env)]:=by rfl)(hs2:starEach [b] X.env=[(false,eval b X.env)]:=by rfl)
  (hs3:starEach [.Call (.Name "zip" p) [a,b] [] pos] X.env=(false,eval (.Call (.Name "zip" p) [a,b] [] pos) X.env)::starEach [] X.env:=by rfl) (hs4:(backTo pos2 (starEach [] X.env)).any (·.1)=false:=by rfl) :
  SV X (.Call (.Name "list" p2) [.Call (.Name "zip" p) [a,b] [] pos] [] pos2) (eLZ m):=⟨by
 intro pins s st H Q I h
 obtain ⟨th,mu,ro,so,en,t⟩:=h
 refine wpAny_Call_Name_kw (J8 I hgl hml PyProof.Rows.boot_list ?_ (by decide) (by decide))
 refine B5 ?_ hs3 hs4
 rw [hs3]
 refine (?_:wpAny _ _ (spliced ((false,eval (.Call (.Name "zip" p) [a,b] [] pos) X.env)::backTo pos2 (starEach [] X.env))) _ _ s)
 refine Calls.spliced_cons ?_
 refine Call_ (J8 I hg hm PyProof.Rows.boot_zip (B5 (thn (ha.1 pos pins s st H (λvs H1=>∃ th1 mu1 ds,StoOk X.z th1 mu1 H1∧RepL X.z th1 H1 ds vs∧Tr X.z th1 H1 (match ON ds with|some p=>some (D.lst (Jw p.1 p.2),mu1)|none=>none) (KV' X.z Q)) I ⟨th,mu,ro,so,en,t.bind.mono λds th1 mu1 H1 e1 s1 t1 vs rvs=>⟨th1,mu1,ds,s1,rvs,t1⟩⟩) λus s1 ⟨vs,H1,I1,r1,th1,mu1,ds,so1,rds,t1⟩=>?_) (by rw [hs,hs2]) (by rw [hs2];rfl)))
 cases q:ON ds with
 | none=>rw [q] at t1;exact t1.no.elim
 | some pr =>
  rw [q] at t1
  rw [Sm q] at rds
  obtain ⟨d1,d2⟩:=pr
  dsimp only at rds t1
  obtain ⟨x,y,rfl,rx,ry⟩:=IB rds
  have rx':=rx
  have ry':=ry
  unfold Rep at rx' ry'
  obtain ⟨a1,vs1,rfl,h1,k1,z1⟩:=rx'
  obtain ⟨a2,vs2,rfl,h2,k2,z2⟩:=ry'
  obtain ⟨u1,u2,rfl,ra,rb⟩:=vals2 r1
  cases ra
  cases rb
  obtain ⟨its1,rv1,p1,_⟩:=I1.tuple h1
  obtain ⟨its2,rv2,p2',_⟩:=I1.tuple h2
  have lt1:a1<s1.heap.objs.size:=by obtain ⟨o,e,_⟩:=p1;exact Aj e
  have lt2:a2<s1.heap.objs.size:=by obtain ⟨o,e,_⟩:=p2';exact Aj e
  refine Vc p1 p2' λh' zt hk=>?_
  refine Calls.spliced_nil ?_
  have I2:L2.Inv X pins st H1 { s1 with heap:=h' }:=I1.kept (t':=s1.toks) hk
  have p1':h'.IsTuple a1 its1.toArray:=let ⟨o,e,r⟩:=p1;⟨o,hk _ _ e,r⟩
  have p2'':h'.IsTuple a2 its2.toArray:=let ⟨o,e,r⟩:=p2';⟨o,hk _ _ e,r⟩
  have l1:its1.length=d1.length:=by rw [← rv1.length,k1.len]
  have l2:its2.length=d2.length:=by rw [← rv2.length,k2.len]
  have mn:min its1.toArray.size its2.toArray.size=(Jw d1 d2).length:=by
   unfold Jw
   rw [Ag,List.length_zip,Ak,Ak]
   rw [l1,l2]
  have zz:(Jw d1 d2).length≤sizeLine:=by
   unfold Jw
   rw [Ag,List.length_zip]
   exact AA (Nat.min_le_left _ _) z1
  refine Uc (s:={ s1 with heap:=h' }) (I.ok.hd hc) (TN _ _ _ lt1 lt2) zt p1' p2'' (by rw [mn];exact zz) λh3 tk acc c x1 x2 x3=>?_
  have hh:s1.heap.objs.size≤h'.objs.size:=Nat.le_of_lt (Nat.lt_of_le_of_lt (Nat.le_add_right _ 4) (Aj zt.1))
  have old:∀ c o,s1.heap.get? c=some o->h3.get? c=some o:=λc o e=>by
   have lt:=Aj e
   exact x3 c o (Ap (Au lt (Nat.le_add_right _ 4))) (Ap (Au lt (Nat.le_add_right _ 3))) (Ap lt) (Ap (Au lt (Nat.le_add_right _ 1))) (hk c o e)
  have I3:L2.Inv X pins st H1 { s1 with heap:=h3,toks:=tk }:=I1.kept (t':=tk) old
  obtain ⟨H',zs,J,sj,ex,rz,qz,fr⟩:=Qe (s:={ s1 with heap:=h3,toks:=tk }) I1 I3 so1 (Nat.le_succ_of_le hh) x2 k1 (by simpa using rv1) k2 (by simpa using rv2) _ (Ah _)
  have tk1:(Jw d1 d2).take (min its1.toArray.size its2.toArray.size)=Jw d1 d2:=B6 (Nat.le_of_eq mn.symm)
  have tk2:acc.toList.take (min its1.toArray.size its2.toArray.size)=acc.toList:=B6 (by rw [Array.length_toList,x2.sz];exact Ah _)
  rw [tk1] at rz
  rw [tk2] at qz
  have hL:H' h'.objs.size=none:=fr _ hh λi hi e=>by
   obtain ⟨T,_,_,t1,_,_,t4,_⟩:=x2.at' i hi
   rw [t1] at e
   cases e
   exact A8 _ t4
  have J':=Inv.lay (T:=h'.objs.size) (o:=.lst zs) J (I1.fpOk hh hL) (AA I1.sz hh) ⟨by rw [rz.len];exact zz,acc.toList,c,qz,x1⟩
  exact ⟨.ref h'.objs.size,_,J',rfl,t1.retX (ex.trans (.new hL _)) (sj.new hL _) _ (Rep.newLst sj hL rz zz)⟩⟩
end
section
variable {X:Cx} {K:Zc} {th:List Addr} {mu:Sto} {H:Hp} {pins:List (Addr×Obj)} {st:L2.St} {s:Shared}
noncomputable def QK (d:D)(xs:List D)(mu:Sto):Rs D:=match FC mu d,xs with
 | some p,[k]=>if En k=true then some ((FI k p.1 p.2).getD .non,mu) else none
 | some p,[k,y]=>if En k=true then some ((FI k p.1 p.2).getD y,mu) else none
 | _,_=>none
theorem Qg (hu:X.A.units+64<cLine)(I:L2.Inv X pins st H s){a:Addr}{ks ds:List D}(dc:JW X.z th H a ks ds){k:D}{u:Value}(hk:Hd s.heap k u){as:List Value}{yd:Value}(has:as=[]∧yd=.none∨as=[yd]){Q:Value->Shared->Prop}
  (q1:∀ d,FI k ks ds=some d->∀ v r,Rep X.z th H d v->RelV v r->∀ tk,Q r { s with toks:=tk }) (q2:FI k ks ds=none->∀ tk,Q yd { s with toks:=tk }):wpAny (model X.prog X.w) X.A (call (.builtin "dict.get") (.ref a::u::as)) Q X.xe s:=by
 obtain ⟨ty,ns,_⟩:=Qj I dc
 have go:wpAny (model X.prog X.w) X.A.in1 (Builtin.«dict.get» ⟨.ref a::u::as,[]⟩) (λfin s'=>∃ v,fin=.done (.ret v)∧Q v s') X.xe s:=by
  rcases has with ⟨rfl,rfl⟩|rfl
  ·refine (?_:wpAny _ _ (dictGet a u >>= _) _ _ s)
   cases e:FI k ks ds with
   | some d =>
    obtain ⟨v,r,x1,x2,x3⟩:=M3 I dc hk e
    exact Aa (x3 (by rw [Around.in1_units];omega) λtk=>Ac ⟨r,rfl,q1 d e v r x1 x2 tk⟩)
   | none =>
    refine Aa (Nz (A:=X.A.in1) I dc hk e (by rw [Around.in1_units];omega) λtk=>?_)
    exact Aa (wpAny_missed_other ns (Ac ⟨_,rfl,q2 e tk⟩))
  ·refine (?_:wpAny _ _ (dictGet a u >>= _) _ _ s)
   cases e:FI k ks ds with
   | some d =>
    obtain ⟨v,r,x1,x2,x3⟩:=M3 I dc hk e
    exact Aa (x3 (by rw [Around.in1_units];omega) λtk=>Ac ⟨r,rfl,q1 d e v r x1 x2 tk⟩)
   | none =>
    refine Aa (Nz (A:=X.A.in1) I dc hk e (by rw [Around.in1_units];omega) λtk=>?_)
    exact Aa (wpAny_missed_other ns (Ac ⟨_,rfl,q2 e tk⟩))
 rcases has with ⟨rfl,rfl⟩|rfl
 ·exact AM PySem.F.slot_dict_get ty PySem.F.entry_dict_get go (PySem.F.args_dict_get_2 _ _)
 ·exact AM PySem.F.slot_dict_get ty PySem.F.entry_dict_get go (PySem.F.args_dict_get_3 _ _ _)
theorem Xy (hu:X.A.units+64<cLine):MtR X "dict.get" (λx vs H Q=>∃ th mu d ds,StoOk X.z th mu H∧Rep X.z th H d x∧RepL X.z th H ds vs∧Tr X.z th H (QK d ds mu) (KV' X.z Q)):=by
 intro pins s st H x xs v us Q I rx rxs h
 obtain ⟨th,mu,d,ds,so,r1,r2,t⟩:=h
 unfold QK at t
 cases e:FC mu d with
 | none=>rw [e] at t;exact t.no.elim
 | some p =>
  rw [e] at t
  obtain ⟨a,rfl,dc⟩:=FE so e r1
  cases rx
  match ds,r2,t with
  | [],_,t=>exact t.no.elim
  | [k],r2,t =>
   dsimp only at t
   by_cases c:En k=true
   ·rw [if_pos c] at t
    obtain ⟨kv,rfl,rk⟩:=DU r2
    obtain ⟨u,rfl,ru⟩:=vals1 rxs
    refine Qg hu I dc (IQ I c rk ru) (.inl ⟨rfl,rfl⟩) (λd' e' v' r' z1 z2 tk=>?_) λe' tk=>?_
    ·rw [e'] at t
     exact ⟨v',H,I.tok _,z2,t.ret so _ z1⟩
    ·rw [e'] at t
     exact ⟨.non,H,I.tok _,rfl,t.ret so _ rfl⟩
   ·rw [if_neg c] at t;exact t.no.elim
  | [k,y],r2,t =>
   dsimp only at t
   by_cases c:En k=true
   ·rw [if_pos c] at t
    obtain ⟨kv,yv,rfl,rk,ry⟩:=IB r2
    obtain ⟨u,w',rfl,ru,rw'⟩:=vals2 rxs
    refine Qg hu I dc (IQ I c rk ru) (.inr rfl) (λd' e' v' r' z1 z2 tk=>?_) λe' tk=>?_
    ·rw [e'] at t
     exact ⟨v',H,I.tok _,z2,t.ret so _ z1⟩
    ·rw [e'] at t
     exact ⟨yv,H,I.tok _,rw',t.ret so _ ry⟩
   ·rw [if_neg c] at t;exact t.no.elim
  | _::_::_::_,_,t=>exact t.no.elim
noncomputable def tBD (r:V->List V->Hp->VK->Prop)(to:TE)(t:TA):TE:=fun σ H Q=>to σ H λx H1=>(∃ a xs,x=.ref a∧H1 a=some (Hw a xs))∧t σ H1 λvs H2=>r x vs H2 Q
theorem ZX {o e:Expr}{es:List Expr}{to:TE}{t:TA}{name:Str}{apos cpos:Pos}{id:String}{r:V->List V->Hp->VK->Prop}(slot:Slot "dict" name id)(hty:typeOf (.builtin id)=pure (.type "method_descriptor"))(hm:MtR X id r)(ho:PE X o to)(ha:PA X (e::es) t)
  (hbase:attributeBase o name X.env (eval o X.env)=eval o X.env)
  (hfew:((backTo cpos (starEach (e::es) X.env)).all (λx=>!x.1)&&(backToKw cpos (keywordEach [] X.env)).all (λx=>x.1.isSome)
   && decide ((e::es).length+([]:List Keyword).length+(if ([]:List Keyword).isEmpty then 0 else 1)<30))=true)
  (hline:(apos.endLine==cpos.line)=true) (hs:starEach (e::es) X.env=(false,eval e X.env)::starEach es X.env) (hplain:(backTo cpos (starEach es X.env)).any (·.1)=false) :
  PE X (.Call (.Attribute o name apos) (e::es) [] cpos) (tBD r to t):=by
 intro pins s st H Q I h
 refine wpAny_Call_method_late hbase hfew hline rfl (thn (ho pins s st H _ I h) λv s1 ⟨x,H1,I1,r1,⟨a,xs,ex,hd⟩,q1⟩=>?_)
 subst ex
 cases r1
 obtain ⟨⟨z,ob,es',ep,g1,g2,g3,g4⟩,_⟩:=(show ObjOk X.prog X.w H1 s1.heap a (Hw a xs) from I1.hok a _ hd)
 refine ⟨"dict",id,PySem.F.plainAttrs_dict,slot,hty,⟨ob,g1,g2.1⟩,λb e=>by cases e;exact ⟨ob,g1,g2.2.1⟩,?_⟩
 have hA:=ha cpos pins s1 st H1 _ I1 q1
 rw [hs] at hA ⊢
 refine Calls.callWith_builtin (by show (false||(backTo cpos (starEach es X.env)).any (·.1))=false;rw [hplain]<;>rfl) (Calls.evalArgs_plain ?_)
 exact thn hA λus s2 ⟨vs,H2,I2,r2,q2⟩=>hm pins s2 st H2 (.ref a) vs (.ref a) us Q I2 rfl r2 q2
noncomputable def Lu (o:Ex)(a:Exs):Ex:=λro mu=>bM (o ro mu) λd m1=>if (FC m1 d).isSome=true then bM (a ro m1) λxs m2=>QK d xs m2 else none
theorem P7 (hu:X.A.units+64<cLine){o e:Expr}{es:List Expr}{m:Ex}{n:Exs}{apos cpos:Pos}(ho:SV X o m)(ha:SVA X (e::es) n)(hbase:attributeBase o "get" X.env (eval o X.env)=eval o X.env:=by rfl)
  (hfew:((backTo cpos (starEach (e::es) X.env)).all (λx=>!x.1)&&(backToKw cpos (keywordEach [] X.env)).all (λx=>x.1.isSome)
   && decide ((e::es).length+([]:List Keyword).length+(if ([]:List Keyword).isEmpty then 0 else 1)<30))=true:=by rfl)
  (hline:(apos.endLine==cpos.line)=true:=by rfl) (hs:starEach (e::es) X.env=(false,eval e X.env)::starEach es X.env:=by rfl) (hplain:(backTo cpos (starEach es X.env)).any (·.1)=false:=by rfl) :
  SV X (.Call (.Attribute o "get" apos) (e::es) [] cpos) (Lu m n):=
 ⟨PE.weak (ZX PySem.F.slot_dict_get PySem.F.type_dict_get (Xy hu) ho.r ha.1 hbase hfew hline hs hplain) λst H Q h=>by
  obtain ⟨th,mu,ro,so,en,t⟩:=h
  refine ⟨th,mu,ro,so,en,t.bind.mono λd th1 mu1 H1 e1 s1 t1 v rv=>?_⟩
  cases q:FC mu1 d with
  | none=>rw [q] at t1;exact t1.no.elim
  | some pr =>
   rw [q] at t1
   rw [if_pos (show (some pr).isSome=true from rfl)] at t1
   obtain ⟨a,rfl,dc⟩:=FE s1 q rv
   obtain ⟨xs,hx,_⟩:=id dc
   refine ⟨⟨a,xs,rfl,hx⟩,th1,mu1,ro,s1,en.ext e1 so.out,?_⟩
   exact Tr.mono (Tr.bind t1) λys th2 mu2 H2 e2 s2 t2 ws rws=>⟨th2,mu2,d,ys,s2,rv.ext e2 s1.out,rws,t2⟩⟩
end
end PV
namespace L2
open PySem PySem.Spec PyProof.Rows
inductive IsC:Expr->List Comprehension->Prop
 | l {elt gens sc pos}:IsC (.ListComp elt gens sc pos) gens
 | d {k v gens sc pos}:IsC (.DictComp k v gens sc pos) gens
noncomputable def JM (g:Comprehension)(it:Value)(env:Env)(step:Sem Unit)(c:Code):Sem Fin:=do
 standAt g.iter.pos
 match←pyNext it with
 | none=>pure (.done .next)
 | some v =>
  letOwnedTupleGo g.target it v
  assign g.target env v
  let mut ok:=true
  for c in g.ifs do
   if ok then ok←isTrue c env (eval c env)
  if ok then step
  again c
noncomputable def QE (kx vx:Expr)(D:Addr)(env:Env):Sem Unit:=do
 let kv←eval kx env
 let vv←holding [kv] (eval vx env)
 standAt { kx.pos with endLine:=vx.pos.endLine,endCol:=vx.pos.endCol }
 holding [kv,vv] (dictSet D kv vv)
noncomputable def deeper (e iter:Expr)(acc:Value)(env:Env):Sem Unit:=do
 let x←eval iter env
 standAt iter.pos
 let x←foldedSetIterable iter env x
 let _←runOwn (.compStart e 1 (← holding [x] (pyIter x)) acc env) env
theorem Wl {k v t i ifs sc pos it D env}:compTurn (.DictComp k v [⟨t,i,ifs,0⟩] sc pos) 0 it (.ref D) env=JM ⟨t,i,ifs,0⟩ it env (QE k v D env) (.compLoop (.DictComp k v [⟨t,i,ifs,0⟩] sc pos) 0 it (.ref D) env):=rfl
section
variable {prog:Program} {w:World} {A:Around} {R:Result->Shared->Prop} {s:Shared} {e:Expr} {gens:List Comprehension} {g:Comprehension} {depth:Nat} {it acc:Value} {env:Env} {step:Sem Unit}
theorem AaJ (hc:IsC e gens)(heq:compTurn e depth it acc env=JM g it env step (.compLoop e depth it acc env))(J:Nat->Shared->Prop)
  (turn:∀ (n:Nat) (z:Shared),J n z->Go prog w A (pyNext it) (λr z1=>match r with
   | .none=>R (.ok .next) z1
   | .some v=>Go prog w A (letOwnedTupleGo g.target it v) (λ_ s1=>Go prog w A (assign g.target env v) (λ_ s2=>Go prog w A (tests env g.ifs) (λok s3 =>
     if ok=true then Go prog w A step (λ_ z2=>∃ m,m<n∧J m z2) s3 else ∃ m,m<n∧J m s3) s2) s1) z1) z) (n:Nat) (h:J n s) :
  codeAny (model prog w) A (Code.compLoop e depth it acc env) R s:=by
 have st:∀ (n:Nat) (z:Shared),J n z->Go prog w A (compTurn e depth it acc env)
   (λfin z'=>match fin with
    | .done f=>R (.ok f) z'
    | .again c'=>c'=Code.compLoop e depth it acc env∧∃ m,m<n∧J m z') z:=by
  intro n z hz
  rw [heq]
  unfold JM
  refine Aa (wpAny_standAt (Aa (thn (turn n z hz) λr z1 h1=>?_)))
  cases r with
  | none=>exact Ac h1
  | some v =>
   refine Aa (thn h1 λ_ z2 h2=>Aa (thn h2 λ_ z3 h3=>Aa (thn h3 λok z4 h4=>?_)))
   cases ok with
   | false=>exact Ac (And.intro rfl h4)
   | true=>exact Aa (thn h4 λx z5 h5=>Ac (And.intro rfl h5))
 cases hc with
 | l=>exact codeAny_loop rfl J (λn z hz=>wpAny_noted (BS (st n z hz) (λ_ _ q=>q) λ_ _ q=>q.elim)) n h
 | d=>exact codeAny_loop rfl J (λn z hz=>wpAny_noted (BS (st n z hz) (λ_ _ q=>q) λ_ _ q=>q.elim)) n h
theorem Yn (hc:IsC e gens)(hg:gens[depth]? = some g)(ha:g.is_async=0)
  (h0:codeAny (model prog w) A (.compLoop e depth it acc env) R s)
  (h:wpAny (model prog w) A (pyIter it) (λit' s'=>codeAny (model prog w) A (.compLoop e depth it' acc env) R s') (notedBy (model prog w) A env λx s'=>R (.error x) s') s) :
  codeAny (model prog w) A (.compStart e depth it acc env) R s:=by
 have st:wpAny (model prog w) A (compStart e depth it acc env) (λfin s'=>match fin with
    | .done f=>R (.ok f) s'
    | .again c'=>c'.quiet=true∧codeAny (model prog w) A c' R s') (notedBy (model prog w) A env λx s'=>R (.error x) s') s:=by
  have cl:clausesOf e=gens:=by cases hc<;>rfl
  have qt:(Code.compLoop e depth it acc env).quiet=true:=by cases hc<;>rfl
  have qt':∀ it',(Code.compLoop e depth it' acc env).quiet=true:=λit'=>by cases hc<;>rfl
  unfold compStart
  rw [cl,hg]
  simp only [Option.elim,ha,bne_self_eq_false,AN,A5,pure_bind]
  refine Aa (wpAny_askSetting (wpAny_ite ?_))
  split
  ·first
    | exact Aa (Ac (Ac (And.intro qt h0)))
    | exact Ac (And.intro qt h0)
  ·exact Aa (Bf (Aa (wpAny_standAt (Aa (BS h (λit' s' h'=>Ac (And.intro (qt' _) h')) λ_ _ x=>x)))))
 cases hc with
 | l =>
  refine codeAny_of_tree ?_
  exact wpAny_notedAt (BS st (λfin _ q=>q) λ_ _ q=>q)
 | d =>
  refine codeAny_of_tree ?_
  exact wpAny_notedAt (BS st (λfin _ q=>q) λ_ _ q=>q)
end
noncomputable abbrev TM (α:Type):=α->St->Hp->(α->St->Hp->Prop)->Prop
structure Acc (α:Type) where
 ao:α->Obj->Prop
 nc:∀ a o,ao a o->∀ v,o.data≠.cell v
structure DOk (X:Cx) (D:Addr):Prop where
 up:X.s₀.heap.objs.size≤D
 nl:D≠X.env.locals
 nf:D∉X.fs
 cl:∀ x c,X.env.cells.lookup x=some c->c≠D
 pn:∀ p∈X.pn,p.1≠D
noncomputable def PM (X:Cx){α:Type}(K:Acc α)(D:Addr)(m:Sem Unit)(t:TM α):Prop:=
 ∀ (pins:List (Addr×Obj)) (s:Shared) (σ:St) (H:Hp) (Q:α->St->Hp->Prop) (a:α) (o:Obj),K.ao a o->(∀ p∈pins,p.1≠D)->Inv X (pins++[(D,o)]) σ H s->t a σ H Q ->
  wpAny (model X.prog X.w) X.A m (λ_ s'=>∃ a' o' σ' H',K.ao a' o'∧Inv X (pins++[(D,o')]) σ' H' s'∧Q a' σ' H') X.xe s
noncomputable def CGo {α:Type}(J:It)(g:TG)(tt:TT)(tm:TM α)(a:α)(σ:St)(H:Hp)(Q:α->St->Hp->Prop):Prop:=
 ∃ W:Nat->Nat->α->St->Hp->Prop,(∃ m,W 0 m a σ H)∧∀ i m a σ' H',W i m a σ' H' ->
  ((J.stop i H'∧Q a σ' H') ∨
   (J.go i H'∧∀ x H2,J.yld i H' x H2->g x σ' H2 fun σ3 H3=>tt σ3 H3 λb H4 =>
    if b=true then tm a σ3 H4 λa' σ5 H5=>∃ m',m'<m∧W (i+1) m' a' σ5 H5 else ∃ m',m'<m∧W (i+1) m' a σ3 H4))
section
variable {X:Cx} {α:Type} {K:Acc α} {D:Addr} {R:Result->Shared->Prop} {e:Expr} {gens:List Comprehension} {g:Comprehension} {depth:Nat} {step:Sem Unit} {tg:TG} {tt:TT} {tm:TM α}
theorem Inv.pins_sub {pins pins':List (Addr×Obj)}{σ:St}{H:Hp}{s:Shared}(I:Inv X pins σ H s)(h:∀ p∈pins',p∈pins):Inv X pins' σ H s:=I.pins_of λp hp=>I.pin p (Al _ (h p hp))
theorem cgo (hc:IsC e gens)(hcalm:X.calm=true)(hx:X.xe=λ_ _=>False){it:Addr}(heq:compTurn e depth (.ref it) (.ref D) X.env=JM g (.ref it) X.env step (.compLoop e depth (.ref it) (.ref D) X.env))
  (hg:PG X g.target tg) (ht:PF X g.ifs tt) (hm:PM X K D step tm) {J:It} {fp:List Addr} {tn:Nat->Heap->Prop} (T:Turn X.prog X.w X.K g.target J fp it tn)
  {pins:List (Addr×Obj)} {s:Shared} {σ:St} {H:Hp} {a:α} {o:Obj} {Q:α->St->Hp->Prop} (ao:K.ao a o) (I:Inv X (pins++[(D,o)]) σ H s) (st:tn 0 s.heap) (f:∀ b∈fp,HQ X pins H b) (fD:∀ b∈fp,D≠b) (pD:∀ p∈pins,p.1≠D)
  (w:CGo J tg tt tm a σ H Q) (fin:∀ s' a' o' σ' H',K.ao a' o'->Inv X (pins++[(D,o')]) σ' H' s'->Q a' σ' H'->R (.ok .next) s') :
  codeAny (model X.prog X.w) X.A (.compLoop e depth (.ref it) (.ref D) X.env) R s:=by
 obtain ⟨W,⟨m0,w0⟩,turn⟩:=w
 have stat:∀ {H':Hp} (o':Obj),(∀ b∈fp,H' b=none)->∀ b∈fp,HQ X (pins++[(D,o')]) H' b:=λ{H'} o' hn b hb=>by
  obtain ⟨_,f1,f2,f3,f4,f5⟩:=f b hb
  refine ⟨hn b hb,f1,f2,f3,f4,λp hp=>?_⟩
  rcases AR.mp hp with z|z
  ·exact f5 p (A3 _ z)
  ·rcases AR.mp z with z|z
   ·exact f5 p (Al _ z)
   ·rw [An.mp z];exact fD b hb
 refine AaJ hc heq (λn s'=>∃ i a o σ' H',K.ao a o∧Inv X (pins++[(D,o)]) σ' H' s'∧tn i s'.heap∧(∀ b∈fp,H' b=none)∧W i n a σ' H') ?_ m0 ⟨0,a,o,σ,H,ao,I,st,λb hb=>(f b hb).1,w0⟩
 rintro n s3 ⟨i,a3,o3,σ3,H3,ao3,I3,st3,fr3,w3⟩
 rcases turn i n a3 σ3 H3 w3 with ⟨stop,qn⟩|⟨go,stp⟩
 ·refine thn (T.done X rfl rfl rfl hcalm i _ s3 σ3 H3 (λ_ _=>False) I3 (stat o3 fr3) st3 stop) λr s4 ⟨hr,I4⟩=>?_
  subst hr
  exact fin s4 a3 o3 σ3 H3 ao3 I4 qn
 ·refine thn (T.item X rfl rfl rfl hcalm i _ s3 σ3 H3 (λ_ _=>False) I3 (stat o3 fr3) st3 go) λr s4 ⟨u,hr,h4⟩=>?_
  subst hr
  refine thn h4 λ_ s5 ⟨x,H5,I5,r5,y5,st5,fr5⟩=>?_
  have I5':=I5.pinned (stat o3 fr5) (T.obj _ _ st5)
  have a1:=hg _ s5 σ3 H5 x u _ I5' r5 (stp x H5 y5)
  rw [hx] at a1
  refine thn a1 λ_ s6 ⟨σ6,H6,I6,q6⟩=>?_
  have b1:=ht _ s6 σ6 H6 _ I6 q6
  rw [hx] at b1
  refine thn b1 λok s7 ⟨H7,I7,q7⟩=>?_
  have keep:∀ {s':Shared} {pl:List (Addr×Obj)} {σ':St} {H':Hp},Inv X pl σ' H' s'->(∀ p∈HG fp s5.heap,p∈pl)->tn (i+1) s'.heap∧∀ b∈fp,H' b=none:=λ{s' pl σ' H'} J' hs=>by
   refine ⟨T.keep _ _ _ st5 λb hb o e=>(J'.pin (b,o) (Al _ (hs _ (EC hb e)))).1,λb hb=>?_⟩
   obtain ⟨o,e,_⟩:=T.obj _ _ st5 b hb
   exact (J'.pin (b,o) (Al _ (hs _ (EC hb e)))).2.1
  cases ok with
  | false =>
   rw [if_neg AF] at q7 ⊢
   obtain ⟨m',hm',w7⟩:=q7
   obtain ⟨k1,k2⟩:=keep I7 λp hp=>Al _ hp
   exact ⟨m',hm',i+1,a3,o3,σ6,H7,ao3,I7.unpinned,k1,k2,w7⟩
  | true =>
   rw [if_pos rfl] at q7 ⊢
   have I8:Inv X ((pins++HG fp s5.heap)++[(D,o3)]) σ6 H7 s7:=I7.pins_sub λp hp=>by
    simp only [AR] at hp ⊢
    rcases hp with (z|z)|z
    ·exact .inl (.inl z)
    ·exact .inr z
    ·exact .inl (.inr z)
   have c1:=hm (pins++HG fp s5.heap) s7 σ6 H7 _ a3 o3 ao3 (λp hp=>by
    rcases AR.mp hp with z|z
    ·exact pD p z
    ·exact Ne.symm (fD p.1 (Mq z).1)) I8 q7
   rw [hx] at c1
   refine thn c1 λ_ s9 ⟨a9,o9,σ9,H9,ao9,I9,m',hm',w9⟩=>?_
   obtain ⟨k1,k2⟩:=keep I9 λp hp=>A3 _ (Al _ hp)
   exact ⟨m',hm',i+1,a9,o9,σ9,H9,ao9,I9.pins_sub λp hp=>by
    simp only [AR] at hp ⊢
    rcases hp with z|z
    ·exact .inl (.inl z)
    ·exact .inr z,k1,k2,w9⟩
end
section
variable {X:Cx} {α:Type} {scope:Scope} {fv:List (Nat×Str)}
theorem NH {pins:List (Addr×Obj)}{σ:St}{H:Hp}{s:Shared}{fp:List Addr}{cl:List (Str×Addr)}{h₁:Heap}{own:List Str}{o0:Obj}(I:Inv X pins σ H s)(L:Kx X scope fv)(hf:∀ b∈fp,HQ X pins H b)(hfo:∀ b∈fp,∃ o,s.heap.get? b=some o)
  (hsub:∀ x c,cl.lookup x=some c->X.env.cells.lookup x=some c) (hhas:∀ y∈scope.names,y.2=.free->∃ c,cl.lookup y.1=some c)
  (hns:h₁.Ns (s.heap.objs.size+1) (λx=>([]:List (Str×Value)).reverse.lookup x)) (hold:∀ b o,s.heap.get? b=some o->h₁.get? b=some o) (hD:h₁.get? s.heap.objs.size=some o0) (nc0:∀ v,o0.data≠.cell v) {tk:Nat} :
  Inv (CH X scope (own++fv.map (·.2)) cl (s.heap.objs.size+1) s H fp) [(s.heap.objs.size,o0)] (st0 own.length fv σ) H { s with heap:=h₁,toks:=tk }:=by
 have nst:∀ b,s.heap.objs.size≤b->b∉frs X.stack:=λb hb hm=>by
  rcases Am.mp (I.stkSub b hm) with e|e
  ·exact absurd I.lt (by rw [← e];exact Nat.not_lt.mpr hb)
  ·exact I.nofs hb e
 have fpst:∀ b∈fp,b∉frs X.stack:=λb hb hm=>by
  obtain ⟨_,f1,f2,_⟩:=hf b hb
  rcases Am.mp (I.stkSub b hm) with e|e
  ·exact f1 e
  ·exact f2 e
 have celllt:∀ x c,cl.lookup x=some c->c<s.heap.objs.size:=λx c e=>by
  obtain ⟨v,z⟩:=I.cell x c (hsub x c e)
  exact z.lt
 refine ⟨⟨I.ok.mod,L.kind,I.ok.glob,I.ok.blt,Bi _,λx y c h1 h2=>I.ok.inj x y c (hsub _ _ h1) (hsub _ _ h2),λx hx=>hhas (x,.free) (GL L.cell hx) rfl,λ_ _ z=>Bool.noConfusion z,I.ok.hd,I.ok.frames,.inl rfl,
   λb hb=>⟨?_,λx c e z=>?_⟩,I.bs,AA I.ok.bsz I.sz,λb o e hb=>?_,fpst,I.stack,I.stkFree⟩,
  rfl,I.bare,Un.kept hold,⟨_,hns,λi x v e1 e2 e3=>?_⟩,λx c e=>?_,I.hok.fresh (Bi _),λx c e=>I.freeC x c (hsub x c e),λp hp=>?_,I.hok.kept hold,?_⟩
 ·obtain ⟨o,e⟩:=hfo b hb
  exact Ap (AY (Aj e))
 ·exact (hf b hb).2.2.2.2.1 x c (hsub x c e) z
 ·obtain ⟨_,_,_,f3,_⟩:=hf b hb
  rcases f3 with f3|f3
  ·exact I.ok.noex b o e f3
  ·exact absurd (Au (Aj e) (AA I.ok.bsz f3)) (A8 _)
 ·have e1':(own++fv.map (·.2))[i]? = some x:=e1
  unfold st0 at e2
  by_cases hi:i<own.length
  ·rw [Ax (by simpa using hi),BA] at e2
   split at e2<;>cases e2
  ·rw [Bk (by simpa using hi),BH,Av] at e2
   rw [Bk (by simpa using hi),Av] at e1'
   cases hp:fv[i-own.length]? with
   | none=>rw [hp] at e1';cases e1'
   | some p =>
    rw [hp] at e1' e2
    have ex:p.2=x:=AE e1'
    have ev:σ.getD p.1 none=some v:=AE e2
    obtain ⟨q1,q2,q3⟩:=L.fv.get hp
    rw [ex] at q1 q2 q3
    have hσ:σ[p.1]? = some (some v):=by
     rw [AJ] at ev
     cases q:σ[p.1]? with
     | none=>rw [q] at ev;cases ev
     | some w=>rw [q] at ev;exact congrArg some ev
    obtain ⟨m,_,hl⟩:=I.loc
    obtain ⟨u,r,l⟩:=hl p.1 x v q1 hσ (by rcases q2 with z|z;exact .inr (.inl z);exact .inr (.inr z))
    refine ⟨u,r,.inr ⟨q3,?_⟩⟩
    rcases l with ⟨k,_⟩|⟨_,c,ec,z⟩
    ·exfalso
     have k':X.env.scope.names.lookup x=some .local:=k
     rcases q2 with z|z<;>rw [k'] at z<;>cases z
    ·obtain ⟨c',ec'⟩:=hhas (x,.free) (GL L.cell q3) rfl
     have:c'=c:=AE ((hsub x c' ec').symm.trans ec)
     subst this
     obtain ⟨o,ho,hd⟩:=z
     exact ⟨c',ec',o,hold _ _ ho,hd⟩
 ·obtain ⟨v,o,ho,hd⟩:=I.cell x c (hsub x c e)
  exact ⟨v,o,hold _ _ ho,hd⟩
 ·have e:p=(s.heap.objs.size,o0):=by simpa [CH] using hp
  subst e
  exact ⟨hD,I.hok.fresh (Ah _),Ap (AS _),nst _ (Ah _),nc0⟩
 ·show (st0 own.length fv σ).length=(own++fv.map (·.2)).length
  unfold st0
  simp
structure O5 (α:Type) extends Acc α where
 cls:String
 d0:Data
 a0:α
 ao0:ao a0 { cls:=.type cls,dict:=none,data:=d0 }
 fin:α->Prop
 ho:Addr->α->HO
 sz:sizeOk d0
 fr:({ cls:=.type cls,dict:=none,data:=d0 }:Obj).isFreed=false
 lay:∀ (P:Program) (w:World) (H:Hp) (h:Heap) (D:Addr) (a:α) (o:Obj),ao a o->fin a->h.get? D=some o->sysModules<D->ObjOk P w (upd H D (ho D a)) h D (ho D a)
noncomputable def tCo (wi:TI)(nc:Nat)(fv:List (Nat×Str))(B:O5 α)(g:TG)(tt:TT)(tm:TM α):TE:=fun σ H Q=>wi σ H λJ H1=>CGo J g tt tm B.a0 (st0 nc fv σ) H1 λa _ H'=>B.fin a∧∀ p,H' p=none->Q (.ref p) (upd H' p (B.ho p a))
theorem SO {e:Expr}{gens:List Comprehension}{g:Comprehension}{rest:List Comprehension}{own:List Str}{wi:TI}{B:O5 α}{tg:TG}{tt:TT}{tm:TM α}{step:Addr->Addr->List (Str×Addr)->Sem Unit}{pos2:Pos}{newAcc:Sem Value}
  {pins:List (Addr×Obj)} {s:Shared} {σ:St} {H:Hp} {Q:VK} {use:Option (Value->Sem Unit)} {Qc:Value->Shared->Prop} (hc:IsC e gens) (hgens:gens=g::rest) (ha:g.is_async=0) (hnew:newAcc=newObj (.type B.cls) B.d0) (L:Kx X scope fv) (hi:PI X g.target g.iter wi)
  (heq:∀ it cl C D,compTurn e 0 (.ref it) (.ref D) (compEnvC scope cl C X.env)=JM g (.ref it) (compEnvC scope cl C X.env) (step D C cl) (.compLoop e 0 (.ref it) (.ref D) (compEnvC scope cl C X.env)))
  (hg:∀ cl C s₁ H₁ fp,PG (CH X scope (own++fv.map (·.2)) cl C s₁ H₁ fp) g.target tg)
  (ht:∀ cl C s₁ H₁ fp,PF (CH X scope (own++fv.map (·.2)) cl C s₁ H₁ fp) g.ifs tt)
  (hm:∀ cl C s₁ H₁ fp D,DOk (CH X scope (own++fv.map (·.2)) cl C s₁ H₁ fp) D->PM (CH X scope (own++fv.map (·.2)) cl C s₁ H₁ fp) B.toAcc D (step D C cl) tm)
  (hs:∀ x,foldedSetIterable g.iter X.env x=pure x) (hb:∀ {s2:Shared} {H2:Hp},Inv X pins σ H2 s2->sysModules<s2.heap.objs.size) (I:Inv X pins σ H s) (h:tCo wi own.length fv B tg tt tm σ H Q)
  (fin:∀ (s6:Shared) (H':Hp) (D C:Addr) (m:Str->Option Value),Inv X pins σ H' s6->HQ X pins H' C->s6.heap.Ns C m->Q (.ref D) H'->compPost (model X.prog X.w) X.A X.xe use Qc (.ref D) C (.ok .next) s6) :
  wpAny (model X.prog X.w) X.A (comprehension e scope X.env pos2 newAcc false (eval g.iter X.env) use) Qc X.xe s:=by
 obtain ⟨cl,hclos,hsub,hhas⟩:=Jj (scope:=scope) (env:=X.env) λy hy hf=>I.ok.has y.1 (L.free y hy hf)
 have hcl:clausesOf e=g::rest:=by subst hgens;cases hc<;>rfl
 refine wpAny_comprehension_free (use:=use) hcl hs hclos L.kind L.names (thn (hi pins s σ H _ I h) λv s1 h1=>thn h1 λitv s2 h2=>?_)
 obtain ⟨it,fp,tn,J,H2,e2,I2,T,st2,f2,w⟩:=h2
 subst e2
 have hfo:∀ b∈fp,∃ o,s2.heap.get? b=some o:=λb hb=>let ⟨o,e,_⟩:=T.obj _ _ st2 b hb;⟨o,e⟩
 rw [hnew]
 refine AU (hd:=B.sz) (wpAny_newFunctionEnv L.cell (by intro y hy;simp at hy) (λh₁ hns₁ hsb₁=>?_) L.kind)
 dsimp only at hns₁ hsb₁ ⊢
 have hCe:(s2.heap.push { cls:=.type B.cls,dict:=none,data:=B.d0 }).objs.size=s2.heap.objs.size+1:=Be _ _
 rw [hCe] at hns₁ hsb₁ ⊢
 have old:∀ b o,s2.heap.get? b=some o->h₁.get? b=some o:=λb o e=>hsb₁.extBut b o (Ap (AY (Aj e))) (Ad _ (Ad _ e))
 have hD₁:h₁.get? s2.heap.objs.size=some { cls:=.type B.cls,dict:=none,data:=B.d0 }:=hsb₁.extBut _ _ (Ap (AS _)) (Ad _ (Ai _ B.fr))
 have I4:=NH (own:=own) (tk:=s2.toks+([]:List (Str×Value)).length) I2 L f2 hfo hsub hhas hns₁ old hD₁ (B.nc _ _ B.ao0)
 have st4:tn 0 h₁:=T.keep _ _ _ st2 λb _ o e=>old b o e
 have celllt:∀ x c,cl.lookup x=some c->c<s2.heap.objs.size:=λx c e=>by
  obtain ⟨v,z⟩:=I2.cell x c (hsub x c e)
  exact z.lt
 have nst:s2.heap.objs.size∉frs X.stack:=λhm=>by
  rcases Am.mp (I2.stkSub _ hm) with e|e
  ·exact absurd I2.lt (by rw [← e];exact A8 _)
  ·exact I2.nofs (Ah _) e
 have dk:DOk (CH X scope (own++fv.map (·.2)) cl (s2.heap.objs.size+1) s2 H2 fp) s2.heap.objs.size:=⟨Ah _,Ap (AS _),nst,λx c e=>Ap (celllt x c e),λp hp=>nomatch hp⟩
 have fpok:∀ b∈fp,HQ (CH X scope (own++fv.map (·.2)) cl (s2.heap.objs.size+1) s2 H2 fp) [] H2 b:=λb hb=>by
  obtain ⟨o,eo⟩:=hfo b hb
  have blt:=Aj eo
  refine ⟨(f2 b hb).1,Ap (AY blt),λhm=>?_,.inl hb,λx c e=>(f2 b hb).2.2.2.2.1 x c (hsub x c e),λp hp=>?_⟩
  ·obtain ⟨_,f1,f3,_⟩:=f2 b hb
   rcases Am.mp (I2.stkSub b hm) with e|e
   ·exact f1 e
   ·exact f3 e
  ·have hp':p∈([]:List (Addr×Obj)):=by simpa [CH] using hp
   cases hp'
 have fD:∀ b∈fp,s2.heap.objs.size≠b:=λb hb=>by
  obtain ⟨o,eo⟩:=hfo b hb
  exact Bt (Aj eo)
 have big:sysModules<s2.heap.objs.size:=hb I2
 have loop:=cgo (X:=CH X scope (own++fv.map (·.2)) cl (s2.heap.objs.size+1) s2 H2 fp) (R:=compPost (model X.prog X.w) X.A X.xe use Qc (.ref s2.heap.objs.size) (s2.heap.objs.size+1)) (pins:=[]) hc L.calm rfl (heq it cl (s2.heap.objs.size+1) s2.heap.objs.size) (hg cl (s2.heap.objs.size+1) s2 H2 fp) (ht cl (s2.heap.objs.size+1) s2 H2 fp) (hm cl (s2.heap.objs.size+1) s2 H2 fp _ dk) T B.ao0 I4 st4 fpok fD (λp hp=>nomatch hp) w
  λs6 a6 o6 σ6 H6 ao6 I6 q6=>by
   obtain ⟨qf,qn⟩:=q6
   obtain ⟨m,hn,_⟩:=I6.loc
   obtain ⟨eD,nD,_⟩:=I6.pin (s2.heap.objs.size,o6) (Al _ (An.mpr rfl))
   have nC:H6 (s2.heap.objs.size+1)=none:=I6.free
   have U:Un (frs X.stack) fp H2 H6 s2.heap s6.heap:=I6.base
   have ok6:HOk X.prog X.w H6 s6.heap:=I6.hok
   have J6:Inv X pins σ (upd H6 s2.heap.objs.size (B.ho s2.heap.objs.size a6)) s6:=I2.call' (s':=s6) I6.os (U.lay (Ah _) nD) (ok6.lay nD (B.lay _ _ _ _ _ _ _ ao6 qf eD big)) I6.bare λb hb=>by
    obtain ⟨_,f1,_,f3,f4,f5⟩:=f2 b hb
    exact ⟨f3,f1,f4,f5⟩
   exact fin s6 _ _ _ m J6 (I2.fpOk (Bi _) (by rw [CY (Bt (AS _))];exact nC)) hn (qn _ nD)
 exact Yn hc (by rw [hgens];rfl) ha loop (T.self _ 0 _ _ _ st4 loop)
end
end L2
namespace PV
open PySem L2 PySem.Spec PyProof.Rows
noncomputable abbrev EnV (x:Int×V×V) (e:DictEntry):Prop:=e.hash=x.1∧RelV x.2.1 e.key∧RelV x.2.2 e.val
noncomputable def Ru:O5 (List (Int×V×V)) where
 ao:=λxs o=>∃ es ep,o={ cls:=.type "dict",data:=.dict es ep }∧Paired EnV xs es.toList
 nc:=λa o h v z=>by obtain ⟨es,ep,rfl,_⟩:=h;cases z
 cls:="dict"
 d0:=.dict #[]
 a0:=[]
 ao0:=⟨#[],0,rfl,.nil⟩
 fin:=λ_=>True
 ho:=λD xs=>Hw D xs
 sz:=by size_fits
 fr:=rfl
 lay:=λP w H h D a o ao hf hD hb=>by
  obtain ⟨es,ep,rfl,r⟩:=ao
  exact NC ⟨by simpa using Bt hb,_,es,ep,hD,⟨rfl,rfl,rfl⟩,rfl,r⟩
noncomputable def J9 (k:D)(h:Int)(kv vv:V):List D->List (Int×V×V)->List (Int×V×V)
 | k'::ks,x::xs=>if k'=k then (x.1,x.2.1,vv)::xs else x::J9 k h kv vv ks xs
 | _,xs=>xs++[(h,kv,vv)]
theorem G2 {k:D}{h:Int}{kv vv:V}:∀ {ks:List D} {xs:List (Int×V×V)},k∉ks->ks.length=xs.length->J9 k h kv vv ks xs=xs++[(h,kv,vv)]
 | [],_,_,_=>by unfold J9;rfl
 | _::_,[],_,e=>by simp at e
 | k'::ks,x::xs,n,e=>by
  rw [Am,not_or] at n
  rw [J9,if_neg (λz=>n.1 z.symm),G2 n.2 (by simpa using e)]
  rfl
theorem Iz {k:D}{h:Int}{kv vv:V}:∀ {ks:List D} {xs:List (Int×V×V)} {j:Nat} (hj:j<xs.length),ks.Nodup->ks[j]? = some k->J9 k h kv vv ks xs=xs.set j (xs[j].1,xs[j].2.1,vv)
 | [],_,_,_,_,e=>by simp at e
 | _::_,[],_,hj,_,_=>by simp at hj
 | k'::ks,x::xs,0,hj,n,e=>by simp at e;subst e;simp [J9]
 | k'::ks,x::xs,j+1,hj,n,e=>by
  rw [Bn] at n
  simp at e
  have:k'≠k:=λz=>n.1 (by rw [z];exact Ar e)
  rw [J9,if_neg this,Iz (by simpa using hj) n.2 e]
  rfl
section
variable {X:Cx} {D:Addr} {th:List Addr} {mu:Sto} {H:Hp}
theorem VC (hu:X.A.units+64<cLine){kx vx:Expr}{tk tv:TE}(dk:DOk X D)(hk:PE X kx tk)(hv:PE X vx tv):PM X Ru.toAcc D (QE kx vx D X.env) (λa σ H Q=>tk σ H λkv H1=>tv σ H1 λvv H2 =>
  ∃ th ks k,RepL X.z th H2 ks (a.map (·.2.1))∧a.map (·.1)=EK X.w ks∧KeysOk ks∧En k=true∧Rep X.z th H2 k kv∧ks.length<sizeLine∧Q (J9 k (DK X.w k) kv vv ks a) σ H2):=by
 intro pins s σ H Q a o ao pD I h
 unfold QE
 refine Aa (thn (hk _ s σ H _ I h) λu s1 ⟨kv,H1,I1,ru,q1⟩=>Aa (AD (thn (hv _ s1 σ H1 _ I1 q1) λr s2 ⟨vv,H2,I2,rr,q2⟩=>Aa (wpAny_standAt (AD ?_)))))
 obtain ⟨th,ks,k,rk,ehs,kok,hasK',rkv,lt,q⟩:=q2
 obtain ⟨es,ep,rfl,pr⟩:=ao
 obtain ⟨g1,n1,l1,f1,_⟩:=I2.pin (D,_) (Al _ (Al _ (An.mpr rfl)))
 dsimp only at g1 n1 l1 f1
 have hd:=IQ I2 hasK' rkv ru
 have xl:a.length=ks.length:=by have:=rk.len;simpa using this
 have en:Paired (EnK X.w s2.heap) ks es.toList:=by
  refine JI (by rw [← Dw pr,xl]) λj k e e1 e2=>?_
  obtain ⟨x,y1,y2,y3,y4⟩:=(DD pr j).2 e e2
  have hh:(a.map (·.1))[j]? = (EK X.w ks)[j]?:=by rw [ehs]
  rw [Ey,Av,Av,y1,e1] at hh
  obtain ⟨v,v1,v2⟩:=rk.get e1
  rw [Av,y1] at v1
  have v1':x.2.1=v:=by simpa using v1
  exact ⟨by rw [y2];simpa using hh,IQ I2 (kok.ok k (Ar e1)) v2 (by rw [← v1'];exact y3)⟩
 have g3:({ cls:=.type "dict",data:=.dict es ep }:Obj).data=.dict es ep:=rfl
 have fin:∀ {h':Heap} {tk':Nat} {es':Array DictEntry} {ep':Nat},Heap.SameBut D s2.heap h'->h'.get? D=some { cls:=.type "dict",data:=.dict es' ep' }->Paired EnV (J9 k (DK X.w k) kv vv ks a) es'.toList ->
   ∃ a' o' σ' H',Ru.ao a' o'∧L2.Inv X (pins++[(D,o')]) σ' H' { s2 with heap:=h',toks:=tk' }∧Q a' σ' H':=λ{h' tk' es' ep'} sb hD pr'=>by
  have I3:L2.Inv X pins σ H2 { s2 with heap:=h',toks:=tk' }:=(I2.pins_sub λp hp=>A3 _ hp).turned (t':=tk') (it:=D) (λb o hb e=>(sb.2 b hb).trans e) n1 dk.nl (.inr dk.up) dk.cl λp hp=>by
   rcases AR.mp hp with z|z
   ·exact dk.pn p z
   ·exact pD p z
  refine ⟨_,_,σ,H2,⟨es',ep',rfl,pr'⟩,I3.pins_of λp hp=>?_,q⟩
  rcases AR.mp hp with z|z
  ·exact I3.pin p (Al _ z)
  ·rw [An.mp z]
   exact ⟨hD,n1,l1,f1,λv z=>by cases z⟩
 unfold dictSet
 have hu8:X.A.units+8<cLine:=by omega
 refine AD (Aa (hd.hash hu8 λtk=>?_))
 unfold dictSetHashed
 refine AD (Aa (Ls (s:={ s2 with toks:=tk }) hu8 hd g1 g3 en kok.nd (λz=>?_) λj ej=>?_))
 ·have hz0:es.size≤sizeLine:=by rw [← Array.length_toList,← Dw en];omega
  refine Aa (Bf (wpAny_updateDictKeys (s:={ s2 with toks:=tk }) g1 g3 (hz:=hz0) ?_))
  have so1:=AH (Obj.mapDictKeys (·.push ⟨DK X.w k,u,r⟩)) g1 (B0 (Obj.data_mapDictKeys g3 _))
  refine fin (es':=es.push ⟨DK X.w k,u,r⟩) (ep':=ep+1) (Aw ..) so1 ?_
  rw [G2 z xl.symm,BQ]
  exact G9 pr (.cons ⟨rfl,ru,rr⟩ .nil)
 ·have hj:j<a.length:=by
   have:=(Af.mp ej).1
   omega
  have hje:j<es.size:=by rw [← Array.length_toList,← Dw pr];exact hj
  obtain ⟨y,y1,y2,y3,y4⟩:=(DD pr j).1 a[j] (Ao hj)
  rw [AB] at y1
  refine Aa (Bf (Aa (wpAny_updateDict (s:={ s2 with toks:=tk }) g1 g3 (wpAny_point ?_))))
  have so1:=AH (Obj.mapDict (·.modify j λe=>{ e with val:=r })) g1 (B0 (Obj.data_mapDict g3 _))
  refine fin (es':=es.modify j λe=>{ e with val:=r }) (ep':=ep) (Aw ..) so1 ?_
  have em:(es.modify j λe=>{ e with val:=r }).toList=es.toList.set j { y with val:=r }:=by
   have yl:es.toList[j]? = some y:=by rw [AB];exact y1
   rw [Array.toList_modify]
   refine A7 λi=>?_
   rw [List.getElem?_modify]
   by_cases c:j=i
   ·subst c
    rw [yl,BD (by simpa using hje)]
    simp
   ·rw [AG c]
    simp [c]
  rw [em,Iz hj kok.nd ej]
  exact Ii j pr ⟨y2,y3,rr⟩
end
noncomputable abbrev Mx (β:Type):=β->Ro->Sto->Rs β
noncomputable def cGo {β:Type}(g:Option Nat)(m0:Sto)(tg:Gx)(tt:Tx)(st:Mx β)(ro:Ro):List D->β->Sto->Rs β
 | [],b,mu=>some (b,mu)
 | d::ds,b,mu=>bM (tg d ro mu) λro1 m1=>bM (tt ro1 m1) λc m2 =>
  if c=true then bM (st b ro1 m2) λb' m3=>EB g m0 m3 (cGo g m0 tg tt st ro ds b' m3) else EB g m0 m2 (cGo g m0 tg tt st ro ds b m2)
noncomputable def stD (kx vx:Ex):Mx (List D×List D):=λp ro mu=>bM (kx ro mu) λk m1=>bM (vx ro m1) λv m2=>if En k=true∧p.1.length<sizeLine then some (EM k v p.1 p.2,m2) else none
noncomputable def eCo {β:Type}(i:Ix)(nc:Nat)(fvs:List Nat)(tg:Gx)(tt:Tx)(st:Mx β)(b0:β)(fin:β->Sto->D×Sto):Ex:=λro mu=>bM (i ro mu) λp m1=>bM (cGo p.2 m1 tg tt st (r0 nc fvs ro) p.1 b0 m1) λb m2=>some (fin b m2)
noncomputable def Wm (b:List D×List D)(mu:Sto):D×Sto:=(.dct b.1 b.2,mu)
noncomputable def GOw (lo hi:Nat)(tg:Gx):Prop:=∀ d ro mu ro' mu',tg d ro mu=some (ro',mu')->ro'.length=ro.length∧∀ i,i<lo∨hi≤i->ro'[i]? = ro[i]?
theorem T4 {lo hi i:Nat}(h1:lo≤i:=by decide)(h:i<hi:=by decide):GOw lo hi (gNm i):=λd ro mu ro' mu' e=>by
 cases e
 exact ⟨by simp,λj hj=>AG (by omega)⟩
noncomputable def rdM (K:Zc){α β:Type}(rp:List Addr->Hp->β->α->Prop)(ok:Ro->Prop)(st:Mx β):TM α:=λa σ H Q=>∃ th mu ro b,StoOk K th mu H∧EnvOk K th H ro σ∧ok ro∧rp th H b a ∧
 Tr K th H (st b ro mu) λb' th' _ H'=>∀ a' σ',EnvOk K th' H' ro σ'->rp th' H' b' a'->Q a' σ' H'
noncomputable def RpX {α β:Type}(rp:List Addr->Hp->β->α->Prop):Prop:=∀ {th:List Addr} {H:Hp} {th':List Addr} {H':Hp} {b:β} {a:α},Ext th H th' H'->Jn th H->rp th H b a->rp th' H' b a
noncomputable def rpD (K:Zc)(th:List Addr)(H:Hp)(p:List D×List D)(xs:List (Int×V×V)):Prop:=xs.map (·.1)=EK K.w p.1∧RepL K th H p.1 (xs.map (·.2.1))∧RepL K th H p.2 (xs.map (·.2.2))∧KeysOk p.1
section
variable {X:Cx} {K:Zc} {th:List Addr} {mu:Sto} {H:Hp} {α β:Type} {rp:List Addr->Hp->β->α->Prop} {ok:Ro->Prop} {st:Mx β} {tg:Gx} {tt:Tx}
theorem Aap:RpX (rpD K):=λe t ⟨h1,h2,h3,h4⟩=>⟨h1,h2.ext e t,h3.ext e t,h4⟩
theorem Y5 {lo hi:Nat}(ow:GOw lo hi tg)(rx:RpX rp){ro:Ro}(hro:∀ i d,ro[i]? = some (some d)->i<lo∨hi≤i)(hok:∀ d mu ro' mu',tg d ro mu=some (ro',mu')->ok ro'){J:It}{ds:List D}{gd:Option Nat}{a:α}{b:β}{σ:L2.St}{Q:α->L2.St->Hp->Prop}
  (io:RN K J th mu H ds gd) (so:StoOk K th mu H) (en:EnvOk K th H ro σ) (r:rp th H b a) (t:Tr K th H (cGo gd mu tg tt st ro ds b mu) λb' th' _ H'=>∀ a' σ',EnvOk K th' H' ro σ'->rp th' H' b' a'->Q a' σ' H') :
  CGo J (rdG K tg) (rdT K tt) (rdM K rp ok st) a σ H Q:=by
 refine ⟨λk n a' σ' H'=>n=ds.length-k∧k≤ds.length∧∃ th' mu' b',StoOk K th' mu' H'∧EnvOk K th' H' ro σ'∧Ext th H th' H'∧gOk gd mu mu'∧rp th' H' b' a' ∧
  Tr K th' H' (cGo gd mu tg tt st ro (ds.drop k) b' mu') λb' th' _ H'=>∀ a' σ',EnvOk K th' H' ro σ'->rp th' H' b' a'->Q a' σ' H',⟨_,rfl,AX _,th,mu,b,so,en,.refl _ _,?_,r,t⟩,?_⟩
 ·cases gd with
  | none=>exact True.intro
  | some k=>exact rfl
 rintro k n a2 st2 H2 ⟨rfl,hk,th2,mu2,b2,s2,en2,e2,g2,r2,t2⟩
 by_cases lt:k<ds.length
 ·refine .inr ?_
  have ek:ds[k]? = some ds[k]:=by simp
  obtain ⟨a1,a3⟩:=io.go th2 mu2 H2 e2 s2 g2 k ds[k] ek
  refine ⟨a1,λx H3 y=>?_⟩
  obtain ⟨e3,s3,r3⟩:=a3 x H3 y
  rw [BG lt] at t2
  unfold cGo at t2
  refine ⟨th2,mu2,ro,ds[k],s3,en2.ext e3 s2.out,r3,?_⟩
  refine (t2.ahead e3).bindE.mono λro1 th4 mu4 H4 e4 s4 t4 st4 en4=>?_
  obtain ⟨eq4,t4⟩:=t4
  obtain ⟨ol,ow'⟩:=ow _ _ _ _ _ eq4
  have back:∀ {th' H' σ'},EnvOk K th' H' ro1 σ'->EnvOk K th' H' ro σ':=λ{th' H' σ'} en'=>by
   refine ⟨by rw [← ol];exact en'.1,λi d e=>?_⟩
   exact en'.2 i d (by rw [ow' i (hro i d e)];exact e)
  refine ⟨th4,mu4,ro1,s4,en4,t4.bind.mono λc th5 mu5 H5 e5 s5 t5=>?_⟩
  have e14:Ext th H th5 H5:=((e2.trans e3).trans e4).trans e5
  have r5:rp th5 H5 b2 a2:=rx ((e3.trans e4).trans e5) s2.out r2
  cases c with
  | false =>
   obtain ⟨a,mu',q1,q2⟩:=t5
   obtain ⟨go5,q1⟩:=Gn q1
   exact ⟨ds.length-(k+1),by omega,rfl,lt,th5,mu5,b2,s5,back (en4.ext e5 s4.out),e14,go5,r5,a,mu',q1,q2⟩
  | true =>
   refine ⟨th5,mu5,ro1,b2,s5,en4.ext e5 s4.out,hok _ _ _ _ eq4,r5,Tr.mono (Tr.bind t5) λb6 th6 mu6 H6 e6 s6 t6 a6 σ6 en6 r6=>?_⟩
   obtain ⟨a,mu',q1,q2⟩:=t6
   obtain ⟨go6,q1⟩:=Gn q1
   exact ⟨ds.length-(k+1),by omega,rfl,lt,th6,mu6,b6,s6,back en6,e14.trans e6,go6,r6,a,mu',q1,q2⟩
 ·have e:k=ds.length:=by omega
  subst e
  rw [List.drop_length] at t2
  unfold cGo at t2
  exact .inl ⟨io.stop th2 mu2 H2 e2 s2 g2,t2.ret s2 a2 st2 en2 r2⟩
theorem YD {kx vx:Ex}{a:List (Int×V×V)}{σ:L2.St}{Q:List (Int×V×V)->L2.St->Hp->Prop}(h:rdM X.z (rpD X.z) ok (stD kx vx) a σ H Q):rdE X.z kx σ H λkv H1=>rdE X.z vx σ H1 λvv H2 =>
  ∃ th ks k,RepL X.z th H2 ks (a.map (·.2.1))∧a.map (·.1)=EK X.w ks∧KeysOk ks∧En k=true∧Rep X.z th H2 k kv∧ks.length<sizeLine∧Q (J9 k (DK X.w k) kv vv ks a) σ H2:=by
 obtain ⟨th,mu,ro,⟨ks,vs⟩,so,en,_,⟨r1,r2,r3,r4⟩,t⟩:=h
 dsimp only at r1 r2 r3 r4
 refine ⟨th,mu,ro,so,en,t.bind.mono λk th1 mu1 H1 e1 s1 t1 kv rk=>?_⟩
 refine ⟨th1,mu1,ro,s1,en.ext e1 so.out,t1.bind.mono λv th2 mu2 H2 e2 s2 t2 vv rv=>?_⟩
 by_cases c:En k=true∧ks.length<sizeLine
 ·rw [if_pos c] at t2
  have e12:=e1.trans e2
  have k2:=r2.ext e12 so.out
  have v2:=r3.ext e12 so.out
  have xl:ks.length=a.length:=by have:=r2.len;simpa using this.symm
  have rk2:=rk.ext e2 s1.out
  refine ⟨th2,ks,k,k2,r1,r4,c.1,rk2,c.2,t2.ret s2 _ _ (en.ext e12 so.out) ?_⟩
  by_cases z:k∈ks
  ·obtain ⟨j,ej⟩:=A9.mp z
   have hj:j<a.length:=by rw [← xl];exact (Af.mp ej).1
   rw [Iz hj r4.nd ej]
   unfold EM
   rw [if_pos z,KP r4.nd ej]
   refine ⟨?_,?_,?_,r4⟩
   ·show List.map _ _=EK X.w ks
    rw [← r1,List.map_set]
    refine A7 λi=>?_
    by_cases ci:j=i
    ·subst ci;simp [hj]
    ·rw [AG ci]
   ·show RepL X.z th2 H2 ks _
    have:(List.map (λx=>x.2.1) (a.set j (a[j].1,a[j].2.1,vv)))=a.map (·.2.1):=by
     rw [List.map_set]
     refine A7 λi=>?_
     by_cases ci:j=i
     ·subst ci;simp [hj]
     ·rw [AG ci]
    rw [this]
    exact k2
   ·rw [List.map_set]
    exact v2.setAt j rv
  ·rw [G2 z xl]
   unfold EM
   rw [if_neg z]
   refine ⟨?_,?_,?_,?_⟩
   ·rw [AV,r1,Ey,Ey,AV];rfl
   ·rw [AV];exact k2.app (.cons rk2 .nil)
   ·rw [AV];exact v2.app (.cons rv .nil)
   ·refine ⟨by rw [Az];exact c.2,?_,λk' hk'=>?_⟩
    ·refine Bv.mpr ⟨r4.nd,by simp,λx hx y hy=>?_⟩
     rw [An.mp hy]
     exact λe=>z (e▸hx)
    ·rcases AR.mp hk' with w'|w'
     ·exact r4.ok k' w'
     ·rw [An.mp w'];exact c.1
 ·rw [if_neg c] at t2
  exact t2.no.elim
noncomputable def Qt (K:Zc)(B:O5 α)(rp:List Addr->Hp->β->α->Prop)(fin:β->Sto->D×Sto):Prop:=∀ {th:List Addr} {mu:Sto} {H:Hp} {b:β} {a:α},StoOk K th mu H->rp th H b a->B.fin a∧∀ p,H p=none ->
 ∃ th',Ext th H th' (upd H p (B.ho p a))∧StoOk K th' (fin b mu).2 (upd H p (B.ho p a))∧Rep K th' (upd H p (B.ho p a)) (fin b mu).1 (.ref p)
theorem ZO:Qt K Ru (rpD K) Wm:=λ{th mu H b a} so ⟨r1,r2,r3,r4⟩=>⟨True.intro,λp hp=>⟨th,.new hp _,so.new hp _,by
 unfold Wm
 dsimp only
 unfold Rep
 have ex:Ext th H th (upd H p (Ru.ho p a)):=.new hp _
 exact ⟨p,a,rfl,so.notin hp,El,r1,r2.ext ex so.out,r3.ext ex so.out,r4⟩⟩⟩
theorem AaE {i:Ix}{nc hi:Nat}{fv:List (Nat×Str)}{B:O5 α}{b0:β}{fin:β->Sto->D×Sto}{σ:L2.St}{Q:VK}(hn:hi≤nc)(ow:GOw 0 hi tg)(rx:RpX rp)(f:Qt K B rp fin)(r00:∀ th H,rp th H b0 B.a0)
  (hok:∀ ro d mu ro' mu',(∀ i,i<nc->∀ d,ro[i]?≠some (some d))->tg d ro mu=some (ro',mu')->ok ro')
  (h:rdE K (eCo i nc (fv.map (·.1)) tg tt st b0 fin) σ H Q):tCo (rdI K i) nc fv B (rdG K tg) (rdT K tt) (rdM K rp ok st) σ H Q:=by
 obtain ⟨th,mu,ro,so,en,t⟩:=h
 refine ⟨th,mu,ro,so,en,t.bind.mono λp th1 mu1 H1 e1 s1 t1 J io=>?_⟩
 have hno:∀ i,i<nc->∀ d,(r0 nc (fv.map (·.1)) ro)[i]?≠some (some d):=λi hi d e=>absurd (LC e) (Nat.not_le.mpr hi)
 refine Y5 (rp:=rp) ow rx (λi d e=>.inr (AA hn (LC e))) (λd mu ro' mu' e=>hok _ d mu ro' mu' hno e) io s1 (Ot (en.ext e1 so.out)) (r00 _ _) (t1.bind.mono λb th2 mu2 H2 e2 s2 t2 a2 σ2 en2 r2=>?_)
 obtain ⟨f1,f2⟩:=f s2 r2
 refine ⟨f1,λq hq=>?_⟩
 obtain ⟨th3,x3,s3,r3⟩:=f2 q hq
 exact t2.retX x3 s3 _ r3
end
section
variable {X:Cx} {α β:Type} {scope:Scope} {e:Expr} {gens rest:List Comprehension} {g:Comprehension} {newAcc:Sem Value} {pos2:Pos} {B:O5 α} {rp:List Addr->Hp->β->α->Prop} {ok:Ro->Prop} {st:Mx β} {tg:Gx} {tt:Tx} {b0:β} {fin:β->Sto->D×Sto} {i:Ix} {step:Addr->Addr->List (Str×Addr)->Sem Unit}
theorem PM.weak {K:Acc α}{D:Addr}{m:Sem Unit}{t t':TM α}(h:PM X K D m t)(f:∀ a σ H Q,t' a σ H Q->t a σ H Q):PM X K D m t':=λpins s σ H Q a o ao pD I q=>h pins s σ H Q a o ao pD I (f a σ H Q q)
structure ZF (X:Cx) (scope:Scope) (own:List Str) (fv:List (Nat×Str)) (e:Expr) (gens:List Comprehension) (g:Comprehension) (rest:List Comprehension) (newAcc:Sem Value) (B:O5 α) (rp:List Addr->Hp->β->α->Prop) (ok:Ro->Prop) (st:Mx β) (tg:Gx) (tt:Tx) (b0:β) (fin:β->Sto->D×Sto) (i:Ix)
  (step:Addr->Addr->List (Str×Addr)->Sem Unit):Prop where
 hc:IsC e gens
 hgens:gens=g::rest
 ha:g.is_async=0
 hnew:newAcc=newObj (.type B.cls) B.d0
 L:Kx X scope fv
 hi:SVI X g.target g.iter i
 ow:GOw 0 own.length tg
 rx:RpX rp
 f:Qt X.z B rp fin
 r00:∀ th H,rp th H b0 B.a0
 hok:∀ ro d mu ro' mu',(∀ i,i<own.length->∀ d,ro[i]?≠some (some d))->tg d ro mu=some (ro',mu')->ok ro'
 heq:∀ it cl C D,compTurn e 0 (.ref it) (.ref D) (compEnvC scope cl C X.env)=JM g (.ref it) (compEnvC scope cl C X.env) (step D C cl) (.compLoop e 0 (.ref it) (.ref D) (compEnvC scope cl C X.env))
 hg:∀ cl C s₁ H₁ fp,SVG (CH X scope (own++fv.map (·.2)) cl C s₁ H₁ fp) g.target tg
 ht:∀ cl C s₁ H₁ fp,SVF (CH X scope (own++fv.map (·.2)) cl C s₁ H₁ fp) g.ifs tt
 hm:∀ cl C s₁ H₁ fp D,DOk (CH X scope (own++fv.map (·.2)) cl C s₁ H₁ fp) D->PM (CH X scope (own++fv.map (·.2)) cl C s₁ H₁ fp) B.toAcc D (step D C cl) (rdM X.z rp ok st)
 hs:∀ x,foldedSetIterable g.iter X.env x=pure x
theorem Ab0 (own:List Str)(fv:List (Nat×Str))(c:ZF X scope own fv e gens g rest newAcc B rp ok st tg tt b0 fin i step)(hev:eval e X.env=comprehension e scope X.env pos2 newAcc false (eval g.iter X.env)):SV X e (eCo i own.length (fv.map (·.1)) tg tt st b0 fin):=⟨λpins s σ H Q I h=>by
 rw [hev]
 refine SO (own:=own) (fv:=fv) (B:=B) (tg:=rdG X.z tg) (tt:=rdT X.z tt) (tm:=rdM X.z rp ok st) (step:=step) (wi:=rdI X.z i) (Q:=Q) c.hc c.hgens c.ha c.hnew c.L c.hi.r c.heq (λcl C s₁ H₁ fp=>(c.hg cl C s₁ H₁ fp).r) (λcl C s₁ H₁ fp=>(c.ht cl C s₁ H₁ fp).r) c.hm c.hs (λI=>MF I) I
  (AaE (rp:=rp) (Ah _) c.ow c.rx c.f c.r00 c.hok h) λs6 H' D C m J6 fC nsC q=>?_
 exact ⟨m,nsC,λh' sb=>⟨.ref D,H',J6.turnedL (ch:=[C]) (t':=s6.toks) (My sb) (λb hb=>by rw [An.mp hb];exact fC),rfl,q⟩⟩⟩
end
section
variable {X:Cx} {scope:Scope} {t1 i1 t2 i2 kx vx elt:Expr} {f1 f2:List Expr} {pos:Pos} {i j:Ix} {g g2:Gx} {tt tt2:Tx} {el kk vv:Ex} {fin:List D×List D->Sto->D×Sto}
theorem Z5 (hu:X.A.units+64<cLine)(hf:Qt X.z Ru (rpD X.z) fin)(own:List Str)(fv:List (Nat×Str))(L:Kx X scope fv)(hi:SVI X t1 i1 i)(ow:GOw 0 own.length g)
  (hg:∀ cl C s₁ H₁ fp,SVG (CH X scope (own++fv.map (·.2)) cl C s₁ H₁ fp) t1 g)
  (ht:∀ cl C s₁ H₁ fp,SVF (CH X scope (own++fv.map (·.2)) cl C s₁ H₁ fp) f1 tt)
  (hk:∀ cl C s₁ H₁ fp,SV (CH X scope (own++fv.map (·.2)) cl C s₁ H₁ fp) kx kk)
  (hv:∀ cl C s₁ H₁ fp,SV (CH X scope (own++fv.map (·.2)) cl C s₁ H₁ fp) vx vv)
  (hs:∀ x,foldedSetIterable i1 X.env x=pure x:=by intro _;rfl) :
  ZF X scope own fv (.DictComp kx vx [⟨t1,i1,f1,0⟩] scope pos) [⟨t1,i1,f1,0⟩] ⟨t1,i1,f1,0⟩ [] newDict Ru (rpD X.z) (λ_=>True) (stD kk vv) g tt ([],[]) fin i (λD C cl=>QE kx vx D (compEnvC scope cl C X.env)) where
 hc:=.d
 hgens:=rfl
 ha:=rfl
 hnew:=rfl
 L:=L
 hi:=hi
 ow:=ow
 rx:=Aap
 f:=hf
 r00:=λ_ _=>⟨rfl,.nil,.nil,.nil⟩
 hok:=λ_ _ _ _ _ _ _=>True.intro
 heq:=λ_ _ _ _=>Wl
 hg:=hg
 ht:=ht
 hm:=λcl C s₁ H₁ fp D dk=>PM.weak (VC (X:=CH X scope (own++fv.map (·.2)) cl C s₁ H₁ fp) hu dk (hk cl C s₁ H₁ fp).r (hv cl C s₁ H₁ fp).r) λa σ H Q h=>YD (X:=CH X scope (own++fv.map (·.2)) cl C s₁ H₁ fp) h
 hs:=hs
end
theorem MB:entryFor table "dict.update.loop"=some Builtin.«dict.update.loop»:=entryFor_of_tree (by kernel_rfl)
theorem Iy:plainId "dict.update.loop"=true:=by decide +kernel
theorem Mi {α β:Type}{F G:α->β->Prop}:∀ {xs:List α} {ys:List β},Paired F xs ys->(∀ x y,F x y->G x y)->Paired G xs ys
 | _,_,.nil,_=>.nil
 | _,_,.cons r t,f=>.cons (f _ _ r) (Mi t f)
theorem Hd.keep {h h':Heap}{d:D}{u:Value}(x:Hd h d u)(k:∀ b o,h.get? b=some o->h'.get? b=some o):Hd h' d u:=by
 obtain ⟨a,b,as,c⟩:=x
 exact ⟨a,b,as,Reads.keeps k c⟩
noncomputable def YA (w:World)(k:D)(u r:Value)(ks:List D)(es es':List DictEntry):Prop:=(k∉ks∧es'=es++[⟨DK w k,u,r⟩])∨∃ (j:Nat) (e:DictEntry),ks[j]? = some k∧es[j]? = some e∧es'=es.set j { e with val:=r }
theorem Vv {w:World}{h:Heap}{k:D}{u r:Value}{ks:List D}{es es':List DictEntry}(x:Hd h k u)(en:Paired (EnK w h) ks es)(p:YA w k u r ks es es')(v:D)(ds:List D):Paired (EnK w h) (EM k v ks ds).1 es':=by
 unfold EM
 rcases p with ⟨n,rfl⟩|⟨j,e,ej,ee,rfl⟩
 ·rw [if_neg n];exact G9 en (.cons ⟨rfl,x⟩ .nil)
 ·rw [if_pos (Ar ej)]
  obtain ⟨e2,e3,e4⟩:=(DD en j).1 k ej
  rw [ee] at e3
  cases e3
  have:=Ii j en (x:=k) (y:={ e with val:=r }) ⟨e4.1,e4.2⟩
  have hs:ks.set j k=ks:=by
   refine A7 λi=>?_
   by_cases c:j=i
   ·subst c;rw [BD (Af.mp ej).1,ej]
   ·rw [AG c]
  rw [hs] at this
  exact this
theorem VM {w:World}{k:D}{u r:Value}{kv vv:V}{ks:List D}{xs:List (Int×V×V)}{es es':List DictEntry}(nd:ks.Nodup)(l:ks.length=xs.length)(pr:Paired EnV xs es)(ru:RelV kv u)(rr:RelV vv r)(p:YA w k u r ks es es'):Paired EnV (J9 k (DK w k) kv vv ks xs) es':=by
 rcases p with ⟨n,rfl⟩|⟨j,e,ej,ee,rfl⟩
 ·rw [G2 n l];exact G9 pr (.cons ⟨rfl,ru,rr⟩ .nil)
 ·have hj:j<xs.length:=by rw [← l];exact (Af.mp ej).1
  rw [Iz hj nd ej]
  obtain ⟨y,y1,y2,y3,y4⟩:=(DD pr j).1 xs[j] (Ao hj)
  rw [ee] at y1
  cases y1
  exact Ii j pr ⟨y2,y3,rr⟩
noncomputable abbrev dOb (es:Array DictEntry) (ep:Nat):Obj:={ cls:=.type "dict",data:=.dict es ep }
section
variable {prog:Program} {w:World} {A:Around} {E:Value->Shared->Prop} {s:Shared}
theorem Aa5 {D':Addr}{es:Array DictEntry}{ep:Nat}{ks:List D}{k:D}{u r:Value}{Q:Unit->Shared->Prop}(hu:A.units+8<cLine)(hd:Hd s.heap k u)(g1:s.heap.get? D'=some (dOb es ep))(en:Paired (EnK w s.heap) ks es.toList)(nd:ks.Nodup)(lt:ks.length<sizeLine)
  (q:∀ h' tk es' ep',Heap.SameBut D' s.heap h'->h'.get? D'=some (dOb es' ep')->YA w k u r ks es.toList es'.toList->Q () { s with heap:=h',toks:=tk }):wpAny (model prog w) A (dictSet D' u r) Q E s:=by
 have g3:(dOb es ep).data=.dict es ep:=rfl
 unfold dictSet
 refine AD (Aa (hd.hash hu λtk=>?_))
 unfold dictSetHashed
 refine AD (Aa (Ls (s:={ s with toks:=tk }) hu hd g1 g3 en nd (λz=>?_) λj ej=>?_))
 ·have hz0:es.size≤sizeLine:=by rw [← Array.length_toList,← Dw en];omega
  refine Aa (Bf (wpAny_updateDictKeys (s:={ s with toks:=tk }) g1 g3 (hz:=hz0) ?_))
  have so1:=AH (Obj.mapDictKeys (·.push ⟨DK w k,u,r⟩)) g1 (B0 (Obj.data_mapDictKeys g3 _))
  refine q _ _ (es.push ⟨DK w k,u,r⟩) (ep+1) (Aw ..) so1 (.inl ⟨z,by rw [BQ]⟩)
 ·have hje:j<es.size:=by rw [← Array.length_toList,← Dw en];exact (Af.mp ej).1
  refine Aa (Bf (Aa (wpAny_updateDict (s:={ s with toks:=tk }) g1 g3 (wpAny_point ?_))))
  have so1:=AH (Obj.mapDict (·.modify j λe=>{ e with val:=r })) g1 (B0 (Obj.data_mapDict g3 _))
  refine q _ _ (es.modify j λe=>{ e with val:=r }) ep (Aw ..) so1 (.inr ⟨j,es[j],ej,by rw [AB,As hje],?_⟩)
  rw [Array.toList_modify]
  refine A7 λi=>?_
  rw [List.getElem?_modify]
  by_cases c:j=i
  ·subst c
   rw [BD (by simpa using hje)]
   simp [hje]
  ·rw [AG c]
   simp [c]
noncomputable def PrV (h:Heap)(x:D×V×V)(u:Value):Prop:=∃ p ku vu,u=.ref p∧h.IsTuple p #[ku,vu]∧Hd h x.1 ku∧RelV x.2.1 ku∧RelV x.2.2 vu
noncomputable def IZ (w:World)(a:List D×List (Int×V×V))(x:D×V×V):List D×List (Int×V×V):=((EM x.1 .non a.1 []).1,J9 x.1 (DK w x.1) x.2.1 x.2.2 a.1 a.2)
theorem Nu {k v:D}{ks ds:List D}(n:ks.Nodup):(EM k v ks ds).1.Nodup∧(EM k v ks ds).1.length≤ks.length+1:=by
 unfold EM
 split
 ·exact ⟨n,Bi _⟩
 ·rename_i z
  refine ⟨Bv.mpr ⟨n,by simp,λx hx y hy=>?_⟩,by rw [Az];exact Ah _⟩
  rw [An.mp hy]
  exact λe=>z (e▸hx)
theorem Tq {a:List D×List (Int×V×V)}{x:D×V×V}(l:a.1.length=a.2.length)(n:a.1.Nodup):(IZ w a x).1.length=(IZ w a x).2.length:=by
 unfold IZ EM
 dsimp only
 by_cases z:x.1∈a.1
 ·obtain ⟨j,ej⟩:=A9.mp z
  have hj:j<a.2.length:=by rw [← l];exact (Af.mp ej).1
  rw [if_pos z,Iz hj n ej,List.length_set]
  exact l
 ·rw [if_neg z,G2 z l,Az,Az,l]
  rfl
noncomputable def Vj (w:World)(h0 h:Heap)(d:Addr)(a:List D×List (Int×V×V)):Prop:=∃ es ep,h.get? d=some (dOb es ep)∧Paired (EnK w h0) a.1 es.toList∧Paired EnV a.2 es.toList∧a.1.Nodup∧a.1.length=a.2.length
theorem Abq {R:Result->Shared->Prop}(hu:A.in1.units+8<cLine){I d:Addr}{fp:List Addr}{P:Nat->Value->Prop}{St:Nat->Heap->Prop}{xs:List (D×V×V)}(W:Walks prog w A.in1 I fp [I] xs.length P St)(hdf:d∉fp){h0:Heap}(hI:h0.get? I=none)(hd:h0.get? d=none)(hval:∀ i v,P i v->∃ x,xs[i]? = some x∧PrV h0 x v){res:Value}(k:Nat) :
  ∀ (i:Nat) (s:Shared) (a:List D×List (Int×V×V)),i+k=xs.length->a.1.length≤i->xs.length≤sizeLine->St i s.heap->(∀ b o,h0.get? b=some o->s.heap.get? b=some o)->Vj w h0 s.heap d a ->
   (∀ h' tk,(∀ b o,b≠d->b≠I->s.heap.get? b=some o->h'.get? b=some o)->Vj w h0 h' d ((xs.drop i).foldl (IZ w) a)->R (.ok (.ret res)) { s with heap:=h',toks:=tk }) ->
   codeAny (model prog w) A (Code.builtin "dict.update.loop" ⟨[.ref d,.ref I,rawInt i,res],[]⟩) R s:=by
 have nI:I∈fp:=W.sub _ (by simp)
 have ndI:d≠I:=λz=>hdf (z▸nI)
 induction k with
 | zero =>
  intro i s a e la hz st hk hD hR
  obtain rfl:i=xs.length:=by omega
  refine Bh MB ?_
  rw [Bb Iy _]
  refine (?_:wpAny _ A.in1 (pyNext (.ref I) >>= _) _ _ s)
  refine Aa (W.done s _ _ st λh1 tk1 k1=>?_)
  refine (?_:wpAny _ A.in1 (Builtin.Dict.addKeywords d [] >>= _) _ _ _)
  refine Aa (Ac (Ac (hR h1 tk1 (λb o _ n e=>k1 b o (by simpa using n) e) ?_)))
  rw [List.drop_eq_nil_of_le (Ah _)]
  obtain ⟨es,ep,g,r⟩:=hD
  exact ⟨es,ep,k1 _ _ (by simpa using ndI) g,r⟩
 | succ k ih =>
  intro i s a e la hz st hk hD hR
  have lt:i<xs.length:=by omega
  refine Bh MB ?_
  rw [Bb Iy _]
  refine (?_:wpAny _ A.in1 (pyNext (.ref I) >>= _) _ _ s)
  refine Aa (W.item i s _ _ lt st λv h1 tk1 hP st1 k1=>?_)
  obtain ⟨x,ex,p,ku,vu,ev,⟨op,p1,p2,np,p3⟩,hk1,rk,rv⟩:=hval i v hP
  subst ev
  have hk':∀ b o,h0.get? b=some o->h1.get? b=some o:=λb o g=>k1 b o (by simpa using λz=>by rw [z,hI] at g;cases g) (hk b o g)
  refine (?_:wpAny _ A.in1 (holding [Value.ref p] _ >>= _) _ _ _)
  have ty:(Shared.TypeIs { s with heap:=h1,toks:=tk1 } (.ref p) "tuple"):=⟨op,hk' _ _ p1,p2⟩
  refine Aa (AD (Aa (wpAny_tryCatch ?_)))
  unfold Builtin.Dict.pairItems
  refine Aa (By ty ?_)
  rw [if_pos (by decide)]
  refine Aa (Bj (hk' _ _ p1) p3 (Ac ?_))
  refine (?_:wpAny _ A.in1 (holding [ku,vu] (dictSet d ku vu)) _ _ _)
  obtain ⟨es,ep,g,en,pr,nd,l⟩:=hD
  have g':=k1 _ _ (by simpa using ndI) g
  refine AD (Aa5 (s:={ s with heap:=h1,toks:=tk1 }) (ks:=a.1) hu (hk1.keep hk') g' (Mi en λk e q=>⟨q.1,q.2.keep hk'⟩) nd (by omega) λh2 tk2 es2 ep2 sb hD2 pe=>?_)
  have dr:xs.drop i=x::xs.drop (i+1):=by
   rw [BG lt]
   rw [Ao lt] at ex
   rw [AE ex]
  have hk2:∀ b o,h0.get? b=some o->h2.get? b=some o:=λb o z=>(sb.2 b λq:b=d=>by rw [q,hd] at z;cases z).trans (hk' b o z)
  have cast:rawInt ((i:Int)+1)=rawInt ((i+1:Nat):Int):=rfl
  rw [cast]
  refine Ac (And.intro (BM Iy _) (ih (i+1) _ (IZ w a x) (by omega) ?_ hz (W.frame _ h1 _ st1 λb hb o z=>(sb.2 b λq:b=d=>hdf (q▸hb)).trans z) hk2 ⟨es2,ep2,hD2,Vv hk1 en pe .non [],VM nd l pr rk rv pe,(Nu nd).1,Tq l nd⟩ λh3 tk3 k3 hS3=>hR h3 tk3 (λb o b1 b2 z=>?_) ?_))
  ·have:=(Nu (k:=x.1) (v:=.non) (ds:=[]) nd).2
   unfold IZ
   dsimp only
   omega
  ·exact k3 b o b1 b2 ((sb.2 b b1).trans (k1 b o (by simpa using b2) z))
  ·rw [dr];exact hS3
end
theorem Vu:typeLookup (.type "tuple") "keys"=pure none:=by rw [typeLookup_type,BI];kernel_rfl
theorem VW:typeLookup (.type "list") "keys"=pure none:=by rw [typeLookup_type,BI];kernel_rfl
theorem gAL {prog:Program}{w:World}{A:Around}{E:Value->Shared->Prop}{s:Shared}{a:Addr}{o:Obj}{xs:Array Value}{k:Nat}{Q:Option Value->Shared->Prop}
  (g:s.heap.get? a=some o) (hc:o.cls=.type "list") (ht:o.data=.seq xs k) (hd:o.dict=none) (hA:A.handled=none)
  (q:∀ h' tk,(∀ b ob,s.heap.get? b=some ob->h'.get? b=some ob)->Q none { s with heap:=h',toks:=tk }):wpAny (model prog w) A (getAttr? (.ref a) "keys") Q E s:=by
 obtain ⟨c,dct,dat,sl⟩:=o
 simp only at hc ht hd
 subst hc ht hd
 obtain ⟨hp,gn,dr,tk,os⟩:=s
 have hT:∀ tk',(⟨hp,gn,dr,tk',os⟩:Shared).TypeIs (.ref a) "list":=λ_=>⟨_,g,rfl⟩
 have f1:=sub_AttributeError
 have f3:=F.slot_list_getattribute.lookup
 have f4:=F.slot_list_getattribute.bind (.ref a)
 have f5:=am_list_getattr_none
 (unfold getAttr? getAttrBy? getAttrBy)
 repeat (any_goals (first|assumption|exact hT _|((with_reducible show wpAny _ _ (call (Value.builtin "list.__getattribute__") _ _) _ _ _);refine call_meets F.slot_list_getattribute (hT _) am_entry_list_getattribute (F.args_list_getattribute_2 _ _) (meets_getattribute_miss_list a xs k sl "keys" _ VW (by decide +kernel)) ⟨g,hA,λh' tk' e hx'=>?_⟩)|wp_step))
 obtain ⟨t',u',he⟩:=hx'.there
 (show wpAny _ _ (getattributeRaised _ _ _ _ _ _ _) _ _ _)
 unfold getattributeRaised
 repeat (any_goals (first|assumption|wp_step))
 exact q _ _ hx'.keeps
theorem gAT {prog:Program}{w:World}{A:Around}{E:Value->Shared->Prop}{s:Shared}{a:Addr}{o:Obj}{xs:Array Value}{k:Nat}{Q:Option Value->Shared->Prop}
  (g:s.heap.get? a=some o) (hc:o.cls=.type "tuple") (ht:o.data=.seq xs k) (hd:o.dict=none) (hA:A.handled=none)
  (q:∀ h' tk,(∀ b ob,s.heap.get? b=some ob->h'.get? b=some ob)->Q none { s with heap:=h',toks:=tk }):wpAny (model prog w) A (getAttr? (.ref a) "keys") Q E s:=by
 obtain ⟨c,dct,dat,sl⟩:=o
 simp only at hc ht hd
 subst hc ht hd
 obtain ⟨hp,gn,dr,tk,os⟩:=s
 have hT:∀ tk',(⟨hp,gn,dr,tk',os⟩:Shared).TypeIs (.ref a) "tuple":=λ_=>⟨_,g,rfl⟩
 have f1:=sub_AttributeError
 have f3:=F.slot_tuple_getattribute.lookup
 have f4:=F.slot_tuple_getattribute.bind (.ref a)
 have f5:=am_tuple_getattr_none
 (unfold getAttr? getAttrBy? getAttrBy)
 repeat (any_goals (first|assumption|exact hT _|((with_reducible show wpAny _ _ (call (Value.builtin "tuple.__getattribute__") _ _) _ _ _);refine call_meets F.slot_tuple_getattribute (hT _) am_entry_tuple_getattribute (F.args_tuple_getattribute_2 _ _) (meets_getattribute_miss_tuple a xs k sl "keys" _ Vu (by decide +kernel)) ⟨g,hA,λh' tk' e hx'=>?_⟩)|wp_step))
 obtain ⟨t',u',he⟩:=hx'.there
 (show wpAny _ _ (getattributeRaised _ _ _ _ _ _ _) _ _ _)
 unfold getattributeRaised
 repeat (any_goals (first|assumption|wp_step))
 exact q _ _ hx'.keeps
theorem set_same {α:Type}{xs:List α}{j:Nat}(hj:j<xs.length):xs.set j xs[j]=xs:=by
 refine A7 λi=>?_
 by_cases c:j=i
 ·subst c;simp [hj]
 ·rw [AG c]
theorem UU {K:Zc}{th:List Addr}{H:Hp}{ks vs:List D}{xs:List (Int×V×V)}{k v:D}{kv vv:V}(h:rpD K th H (ks,vs) xs)(hk:En k=true)(rk:Rep K th H k kv)(rv:Rep K th H v vv)(lt:ks.length<sizeLine):rpD K th H (EM k v ks vs) (J9 k (DK K.w k) kv vv ks xs):=by
 obtain ⟨r1,r2,r3,r4⟩:=h
 dsimp only at r1 r2 r3 r4
 have xl:ks.length=xs.length:=by have:=r2.len;simpa using this.symm
 by_cases z:k∈ks
 ·obtain ⟨j,ej⟩:=A9.mp z
  have hj:j<xs.length:=by rw [← xl];exact (Af.mp ej).1
  rw [Iz hj r4.nd ej]
  unfold EM
  rw [if_pos z,KP r4.nd ej]
  have m1:(xs.set j (xs[j].1,xs[j].2.1,vv)).map (·.1)=xs.map (·.1):=by
   rw [List.map_set]
   have:=set_same (xs:=xs.map (·.1)) (j:=j) (by simpa using hj)
   simpa using this
  have m2:(xs.set j (xs[j].1,xs[j].2.1,vv)).map (·.2.1)=xs.map (·.2.1):=by
   rw [List.map_set]
   have:=set_same (xs:=xs.map (·.2.1)) (j:=j) (by simpa using hj)
   simpa using this
  refine ⟨m1.trans r1,by rw [m2];exact r2,by rw [List.map_set];exact r3.setAt j rv,r4⟩
 ·rw [G2 z xl]
  unfold EM
  rw [if_neg z]
  refine ⟨?_,?_,?_,?_⟩
  ·rw [AV,r1,Ey,Ey,AV];rfl
  ·rw [AV];exact r2.app (.cons rk .nil)
  ·rw [AV];exact r3.app (.cons rv .nil)
  ·refine ⟨by rw [Az];exact lt,?_,λk' hk'=>?_⟩
   ·refine Bv.mpr ⟨r4.nd,by simp,λx hx y hy=>?_⟩
    rw [An.mp hy]
    exact λe=>z (e▸hx)
   ·rcases AR.mp hk' with w'|w'
    ·exact r4.ok k' w'
    ·rw [An.mp w'];exact hk
noncomputable def pairsOf:List D->Option (List (D×D))
 | []=>some []
 | .tup [k,v]::ds=>if En k=true then (pairsOf ds).map ((k,v)::·) else none
 | _=>none
theorem JJ {d:D}{ds:List D}{ps:List (D×D)}(h:pairsOf (d::ds)=some ps):∃ k v r,d=.tup [k,v]∧En k=true∧pairsOf ds=some r∧ps=(k,v)::r:=by
 unfold pairsOf at h
 split at h
 ·cases ‹_::_=[]›
 ·rename_i k v ds' e
  cases e
  by_cases c:En k=true
  ·rw [if_pos c] at h
   cases e2:pairsOf ds with
   | none=>rw [e2] at h;cases h
   | some r=>rw [e2] at h;cases h;exact ⟨k,v,r,rfl,c,rfl,rfl⟩
  ·rw [if_neg c] at h;cases h
 ·cases h
theorem Ko:∀ {ds:List D} {ps:List (D×D)},pairsOf ds=some ps->ps.length=ds.length
 | [],_,h=>by cases h;rfl
 | d::ds,ps,h=>by
  obtain ⟨k,v,r,rfl,_,h',rfl⟩:=JJ h
  rw [List.length_cons,List.length_cons,Ko h']
noncomputable def putAll (p:List D×List D)(ps:List (D×D)):List D×List D:=ps.foldl (λp x=>EM x.1 x.2 p.1 p.2) p
noncomputable def dctP:Fn:=λds mu=>match sq1 ds mu with
 | some es=>match pairsOf es with
  | some ps=>some (.dct (putAll ([],[]) ps).1 (putAll ([],[]) ps).2,mu)
  | none=>none
 | none=>none
section
variable {X:Cx} {K:Zc} {th:List Addr} {mu:Sto} {H:Hp} {pins:List (Addr×Obj)} {st:L2.St} {s:Shared}
theorem S1 {ds:List D}{r:D×Sto}(h:dctP ds mu=some r):∃ d es ps,ds=[d]∧G6 mu d=some es∧pairsOf es=some ps∧r=(.dct (putAll ([],[]) ps).1 (putAll ([],[]) ps).2,mu):=by
 unfold dctP at h
 split at h
 ·rename_i es e
  split at h
  ·rename_i ps e2
   cases h
   obtain ⟨d,rfl,e3⟩:=KI e
   exact ⟨d,es,ps,rfl,e3,e2,rfl⟩
  ·cases h
 ·cases h
noncomputable def PrR (K:Zc)(th:List Addr)(H:Hp)(p:D×D)(x:D×V×V):Prop:=p.1=x.1∧En p.1=true∧Rep K th H p.1 x.2.1∧Rep K th H p.2 x.2.2
theorem J5 (I:L2.Inv X pins st H s):∀ {es:List D} {ps:List (D×D)} {vs:List V} {us:List Value},pairsOf es=some ps->RepL X.z th H es vs->Vals vs us->∃ xs:List (D×V×V),Paired (PrR X.z th H) ps xs∧Paired (PrV s.heap) xs us
 | [],ps,vs,us,h,r,q=>by
  cases h
  rw [r.inv0] at q
  cases q
  exact ⟨[],.nil,.nil⟩
 | d::ds,ps,vs,us,h,r,q=>by
  obtain ⟨k,v,ps',rfl,hk,h',rfl⟩:=JJ h
  obtain ⟨x,rs,rfl,rx,rr⟩:=r.inv
  cases q with
  | cons q1 q2 =>
   obtain ⟨xs,a,b⟩:=J5 I h' rr q2
   unfold Rep at rx
   obtain ⟨p,pv,rfl,hsq,hl,hz⟩:=rx
   obtain ⟨kv,vv,rfl,rk,rv⟩:=IB hl
   cases q1
   obtain ⟨its,rvs,pl,hz'⟩:=I.tuple hsq
   obtain ⟨ku,vu,rfl,rku,rvu⟩:=vals2 rvs
   exact ⟨(k,kv,vv)::xs,.cons ⟨rfl,hk,rk,rv⟩ a,.cons ⟨p,ku,vu,rfl,let ⟨o,ho,hcl,n,hdt⟩:=pl;⟨o,ho,hcl,n,hdt⟩,IQ I hk rk rku,rku,rvu⟩ b⟩
theorem Pl {ps:List (D×D)}{xs:List (D×V×V)}(hx:Paired (PrR K th H) ps xs):∀ {p:List D×List D} {a:List D×List (Int×V×V)},p.1=a.1->rpD K th H p a.2->p.1.length+ps.length≤sizeLine ->
  (putAll p ps).1=(xs.foldl (IZ K.w) a).1∧rpD K th H (putAll p ps) (xs.foldl (IZ K.w) a).2:=by
 induction hx with
 | nil=>exact λe r _=>⟨e,r⟩
 | cons hx t ih =>
  rename_i q x ps xs
  intro p a e r l
  obtain ⟨e1,e2,e3,e4⟩:=hx
  obtain ⟨ks,vs⟩:=p
  obtain ⟨as,ax⟩:=a
  dsimp only at e r
  subst e
  have l':ks.length+(ps.length+1)≤sizeLine:=l
  have r':=UU r e2 e3 e4 (by omega)
  unfold putAll
  rw [List.foldl_cons,List.foldl_cons]
  refine ih (p:=EM q.1 q.2 ks vs) (a:=IZ K.w (ks,ax) x) ?_ ?_ ?_
  ·unfold IZ EM;dsimp only;rw [e1];split<;>rfl
  ·unfold IZ;dsimp only;rw [← e1];exact r'
  ·have:=(Nu (k:=q.1) (v:=q.2) (ds:=vs) r.2.2.2.nd).2
   have this':(EM q.1 q.2 ks vs).1.length≤ks.length+1:=this
   omega
end
section
variable {prog:Program} {w:World} {A:Around} {E:Value->Shared->Prop} {s:Shared}
theorem WB {l:Addr}{ol:Obj}{T:String}{us:List Value}{xs:List (D×V×V)}{Q:Value->Shared->Prop}(hu:A.units+16<cLine)(hbig:sysModules<s.heap.objs.size)(hz:xs.length≤sizeLine)(hol:s.heap.get? l=some ol)(hcl:ol.cls=.type T)(hT:(Value.type T != Value.type "dict")=true)
  (hga:∀ (A':Around) (s1:Shared) (Q:Option Value->Shared->Prop) (E:Value->Shared->Prop),A'.handled=A.handled->s1.heap.get? l=some ol->(∀ h' tk,(∀ b ob,s1.heap.get? b=some ob->h'.get? b=some ob)->Q none { s1 with heap:=h',toks:=tk })->wpAny (model prog w) A' (getAttr? (.ref l) "keys") Q E s1)
  (hit:∀ E,YieldsV prog w A E s.heap l us) (pr:Paired (PrV s.heap) xs us)
  (q:∀ h' tk d',(∀ b o,s.heap.get? b=some o->h'.get? b=some o)->Vj w s.heap h' s.heap.objs.size (xs.foldl (IZ w) ([],[]))->Q (.ref s.heap.objs.size) { s with heap:=h',toks:=tk,drawn:=d' }) :
  wpAny (model prog w) A (call (.type "dict") [.ref l]) Q E s:=by
 refine callType_codes (Q₁:=λobj s₁=>obj=.ref s.heap.objs.size∧s₁={ s with heap:=s.heap.push { cls:=.type "dict",data:=.dict #[] } }) F.kt_called_dict (F.kt_typeCall_dict_1 _) F.entry_dict_init (kt_code_dict_new _ ⟨rfl,rfl⟩) ?_
 rintro obj s₁ ⟨rfl,rfl⟩
 have gl:(s.heap.push { cls:=.type "dict",data:=.dict #[] }).get? l=some ol:=Ad _ hol
 have gd:(s.heap.push { cls:=.type "dict",data:=.dict #[] }).get? s.heap.objs.size=some (dOb #[] 0):=Ai _ rfl
 have tyd:Shared.TypeIs { s with heap:=s.heap.push { cls:=.type "dict",data:=.dict #[] } } (.ref s.heap.objs.size) "dict":=⟨_,gd,rfl⟩
 have ty:Shared.TypeIs { s with heap:=s.heap.push { cls:=.type "dict",data:=.dict #[] } } (.ref l) T:=⟨ol,gl,hcl⟩
 refine ⟨tyd,F.args_dict_init_2 _ _,?_⟩
 (unfold Builtin.«dict.__init__»)
 refine Aa ?_
 (unfold Builtin.Dict.selfAndRest)
 refine Aa (wpAny_notOrdered_dict tyd (?_:wpAny _ _ (pure (s.heap.objs.size,[Value.ref l])) _ _ _))
 refine Ac (?_:wpAny _ _ (Builtin.Dict.updateFrom "dict.__init__" s.heap.objs.size (.ref l) [] .none) _ _ _)
 (unfold Builtin.Dict.updateFrom)
 refine Aa (By ty ?_)
 rw [if_pos hT]
 refine Aa (hga _ { s with heap:=s.heap.push { cls:=.type "dict",data:=.dict #[] } } _ _ rfl gl λh1 tk1 k1=>?_)
 rw [if_pos (by rfl)]
 refine Aa (Bf ?_)
 have k0:∀ b ob,s.heap.get? b=some ob->h1.get? b=some ob:=λb ob e=>k1 _ _ (Ad _ e)
 have hnd:h1.get? s.heap.objs.size=some (dOb #[] 0):=k1 _ _ gd
 have lt1:s.heap.objs.size<h1.objs.size:=Aj hnd
 refine Aa (hit _ { s with heap:=h1,toks:=tk1 } _ _ rfl k0 λI fp h2 d2 P St hI fpl fpn W st0 k2 hval=>?_)
 have hI':h1.objs.size≤I:=hI
 have nf:s.heap.objs.size∉fp:=λz=>by
  rcases fpn _ z with q|⟨o,q⟩
  ·exact absurd (Au lt1 q) (A8 _)
  ·exact absurd (Aj q) (A8 _)
 have xl:xs.length=us.length:=Dw pr
 have W':Walks prog w A.in1.in1 I fp [I] xs.length P St:=by rw [xl];exact W _ rfl
 refine Ac ⟨BM Iy _,?_⟩
 refine Abq (A:=A.in1) (by show A.units+1+1+8<cLine;omega) W' nf (h0:=s.heap) (Heap.get?_none_of_le (AA (Nat.le_of_lt lt1) hI')) (Heap.get?_none_of_le (Ah _)) (λi v hP=>?_) xs.length 0 { s with heap:=h2,toks:=tk1,drawn:=d2 } ([],[]) (Nat.zero_add _) (AX _) hz st0 (λb o e=>k2 _ _ (k0 b o e)) ⟨#[],0,k2 _ _ hnd,.nil,.nil,List.nodup_nil,rfl⟩ λh' tk k3 hD=>⟨rfl,q h' tk d2 (λb o e=>?_) hD⟩
 ·obtain ⟨x,x1,x2⟩:=(DD pr i).2 v (hval i v hP)
  exact ⟨x,x1,x2⟩
 ·have bl:=Aj e
  exact k3 b o (Ap bl) (Ap (Au (Nat.lt_trans bl lt1) hI')) (k2 _ _ (k0 b o e))
end
theorem YieldsV.any {prog:Program}{w:World}{A:Around}{h:Heap}{l:Addr}{us:List Value}(y:YieldsV prog w A (λ_ _=>False) h l us)(E:Value->Shared->Prop):YieldsV prog w A E h l us:=λs1 A' R hA hk hR=>BS (y s1 A' R hA hk hR) (λ_ _ z=>z) λ_ _ z=>z.elim
section
variable {X:Cx} {K:Zc} {th:List Addr} {mu:Sto} {H:Hp} {pins:List (Addr×Obj)} {st:L2.St} {s:Shared}
theorem Mz (hu:X.A.units+64<cLine)(hc:X.calm=true):CallV X (.type "dict") dctP:=by
 intro pins s st H xs us Q I r h
 obtain ⟨th,mu,ds,so,rd,t⟩:=h
 obtain ⟨a0,mu0,e0,_⟩:=id t
 obtain ⟨d,es,ps,rfl,e2,e3,er⟩:=S1 e0
 rw [e0] at t
 cases er
 obtain ⟨x,rfl,rx⟩:=DU rd
 obtain ⟨a,vs,rfl,h1,h2,h3⟩:=Gm so e2 rx
 obtain ⟨u,rfl,ru⟩:=vals1 r
 cases ru
 have pl:ps.length=es.length:=Ko e3
 have fin:∀ (xs:List (D×V×V)),Paired (PrR X.z th H) ps xs->∀ h' tk d',(∀ b o,s.heap.get? b=some o->h'.get? b=some o)->Vj X.w s.heap h' s.heap.objs.size (xs.foldl (IZ X.w) ([],[]))->EP X pins st Q (.ref s.heap.objs.size) { s with heap:=h',toks:=tk,drawn:=d' }:=λxs pr h' tk d' hk hD=>by
  have hp:H s.heap.objs.size=none:=I.hok.fresh (Ah _)
  obtain ⟨es',ep,g,en,pv,nd,l⟩:=hD
  obtain ⟨_,r1,r2,r3,r4⟩:=Pl (K:=X.z) (p:=([],[])) (a:=([],[])) pr rfl ⟨rfl,.nil,.nil,.nil⟩ (by rw [pl];simpa using h3)
  have I0:L2.Inv X pins st H { s with drawn:=d' }:=⟨I.ok,I.os,I.bare,I.base,I.loc,I.cell,I.free,I.freeC,I.pin,I.hok,I.len⟩
  refine ⟨.ref s.heap.objs.size,_,I0.laid (h':=h') (t':=tk) (o:=Hw s.heap.objs.size (xs.foldl (IZ X.w) ([],[])).2) hk (Ah _) (NC ⟨by simpa using Bt (MF I),_,es',ep,g,⟨rfl,rfl,rfl⟩,rfl,pv⟩),rfl,?_⟩
  refine t.retX (.new hp _) (so.new hp _) _ ?_
  unfold Rep
  have ex:Ext th H th (upd H s.heap.objs.size (Hw s.heap.objs.size (xs.foldl (IZ X.w) ([],[])).2)):=.new hp _
  exact ⟨_,_,rfl,so.notin hp,El,r1,r2.ext ex so.out,r3.ext ex so.out,r4⟩
 have zl:∀ {xs:List (D×V×V)},Paired (PrR X.z th H) ps xs->xs.length≤sizeLine:=λq=>by rw [← Dw q,pl];exact h3
 have hh:=I.ok.hd hc
 rcases h1 with h1|⟨h1,_⟩
 ·obtain ⟨its,rv,pl',hz⟩:=I.list h1
  obtain ⟨o,n,ho,hcl,hdd,hdt⟩:=id pl'
  obtain ⟨us,q,y,_⟩:=Kf (E:=λ_ _=>False) I hc h1
  obtain ⟨xs,p1,p2⟩:=J5 I e3 h2 q
  refine WB (us:=us) (xs:=xs) (by omega) (MF I) (zl p1) ho hcl (by decide) (λA' s1 Q' E' hA hg hq=>gAL hg hcl hdt hdd (hA.trans hh) hq) y.any p2 (fin xs p1)
 ·obtain ⟨its,rv,pl',hz⟩:=I.tuple h1
  obtain ⟨o,ho,hcl,n,hdt⟩:=id pl'
  obtain ⟨o2,ho2,hdd,_⟩:=I.tupleD h1
  rw [ho] at ho2
  cases ho2
  obtain ⟨us,q,y,_⟩:=Jy (E:=λ_ _=>False) I hc h1
  obtain ⟨xs,p1,p2⟩:=J5 I e3 h2 q
  refine WB (us:=us) (xs:=xs) (by omega) (MF I) (zl p1) ho hcl (by decide) (λA' s1 Q' E' hA hg hq=>gAT hg hcl hdt hdd (hA.trans hh) hq) y.any p2 (fin xs p1)
end
end PV
namespace L2
open PySem PySem.Spec PyProof.Rows
theorem IX {sc:Scope}{env:Env}{x:Str}(h:sc.names.lookup x=some .free):(relabel sc env).names.lookup x=some .cell∨(relabel sc env).names.lookup x=some .free:=by
 have gen:∀ l:List (Str×NameKind),l.lookup x=some .free->(l.map λ(n,k)=>if (k==NameKind.free&&env.scope.kind==.function&&env.kindOf n==some .cell)=true then (n,NameKind.cell) else (n,k)).lookup x=some .cell∨(l.map λ(n,k)=>if (k==NameKind.free&&env.scope.kind==.function&&env.kindOf n==some .cell)=true then (n,NameKind.cell) else (n,k)).lookup x=some .free:=by
  intro l
  induction l with
  | nil=>intro h;cases h
  | cons y r ih =>
   intro h
   obtain ⟨n,k⟩:=y
   rw [AL]
   by_cases e:x=n
   ·subst e
    have hb:(x==x)=true:=beq_iff_eq.mpr rfl
    simp only [List.lookup,hb] at h
    cases h
    dsimp only
    split
    ·left;simp only [List.lookup,hb]
    ·right;simp only [List.lookup,hb]
   ·have hb:(x==n)=false:=BY.mpr e
    simp only [List.lookup,hb] at h
    dsimp only
    have:=ih h
    split<;>(simp only [List.lookup,hb];exact this)
 exact gen sc.names h
theorem Wx {X:Cx}{sc1 scope:Scope}{N:List Str}{cl:List (Str×Addr)}{C:Addr}{s₁:Shared}{H₁:Hp}{fp:List Addr}{fv:List (Nat×Str)}(hc:X.calm=true)(k:scope.kind=.function)(h1:∀ y∈scope.names,y.2≠.cell)
  (h2:∀ y∈scope.names,y.2=.local->scope.names.lookup y.1=some .local) (h3:∀ y∈scope.names,y.2=.free->sc1.names.lookup y.1=some .free) (hf:∀ p∈fv,N[p.1]? = some p.2∧sc1.names.lookup p.2=some .free∧scope.names.lookup p.2=some .free) :
  Kx (CH X sc1 N cl C s₁ H₁ fp) scope fv:=by
 refine ⟨hc,k,h1,h2,λy hy hk=>IX (h3 y hy hk),?_⟩
 induction fv with
 | nil=>exact True.intro
 | cons p r ih =>
  obtain ⟨a,b,c⟩:=hf p List.mem_cons_self
  exact ⟨⟨a,IX b,IX c⟩,ih λq hq=>hf q (Bq _ hq)⟩
end L2
namespace PV
open PySem L2 PySem.Spec PyProof.Rows
noncomputable def AaA (K:PySem.W.Frag)(mg:Str->Option Value)(x:Str)(ss:List Str):Prop:=∃ a o its n,mg x=some (.ref a)∧K.lookup a=some o∧o.cls=.type "tuple"∧o.dict=none∧o.data=.seq its n∧its.size≤sizeLine∧Vals (ss.map V.str) its.toList
theorem Vr {X:Cx}{x:Str}{ss:List Str}{pos:Pos}(hm:AaA X.K X.mg x ss)(h:(ss.all λs=>decide (s.length≤sizeLine)&&PyData.strOk s)=true:=by decide +kernel)(hl:ss.length≤sizeLine:=by decide +kernel)(hg:Gl X x:=by rfl)(hd:(x==("__debug__":Str))=false:=by decide):SV X (.Name x pos) (eC (.tup (ss.map D.str))):=by
 obtain ⟨a,o,its,n,m1,m2,m3,m4,m5,m6,m7⟩:=hm
 refine ⟨PE.weak (Nl (v:=.ref a) hg m1 rfl hd) λst H Q q=>?_⟩
 obtain ⟨th,mu,ro,so,en,t⟩:=q
 refine t.ret so _ ?_
 unfold Rep
 refine ⟨a,ss.map V.str,rfl,.inr ⟨o,its,n,m2,m3,m4,m5,m6,m7⟩,JT λs hs=>?_,by rw [Ag];exact hl⟩
 have:=Aq.mp h s hs
 rw [Ab,Ae] at this
 exact this
theorem RM:fillsNumberSlot (.type "tuple") "mul"=pure false:=
 PySem.fillsNumberSlot_seq (id:="tuple.__mul__") (r:=some (.builtin "tuple.__rmul__")) F.slot_tuple_mul.lookup (by decide +kernel) F.slot_tuple_rmul.lookup (by decide +kernel)
theorem S5:seqRepeat? (.type "tuple")=pure (some (.builtin "tuple.__mul__")):=by
 unfold seqRepeat?
 rw [PySem.seqSlot_of (T:="tuple") (name:="__mul__") (id:="tuple.__mul__") F.slot_tuple_mul.lookup (by decide +kernel),PySem.seqSlot_of (T:="tuple") (name:="__rmul__") (id:="tuple.__rmul__") F.slot_tuple_rmul.lookup (by decide +kernel)]
 rfl
theorem U1 (a:Int)(t:Tok)(l:Addr)(items:Array Value)(n:Nat)(dc:Option Addr)(sl:Array (Option Value)) :
  Meets (Builtin.«int.__rmul__» ⟨[.int a t,.ref l],[]⟩) (λ_ R s=>s.heap.get? l=some { cls:=.type "tuple",dict:=dc,data:=.seq items n,slots:=sl }∧R (.ok (.ret Value.notImplemented)) s):=
 .of_wp λprog w A R s h=>by obtain ⟨hp,g,d,tk,os⟩:=s;obtain ⟨hl,h⟩:=h;wp_walk;exact ⟨_,rfl,h⟩
theorem AaX (l:Addr)(items:Array Value)(n:Nat)(dc:Option Addr)(sl:Array (Option Value))(x:Int)(u:Tok)(h1:2≤x)(h2:x<2 ^ 62)(hne:items.isEmpty=false)(hz:items.size*x.toNat≤1000) :
  Meets (Builtin.«tuple.__mul__» ⟨[.ref l,.int x u],[]⟩) (λ_ R s=>s.heap.get? l=some { cls:=.type "tuple",dict:=dc,data:=.seq items n,slots:=sl }∧R (.ok (.ret (Value.ref s.heap.objs.size))) { s with heap:=s.heap.push { cls:=Value.type "tuple",data:=Data.seq (List.foldl (λx1 x2=>x1++x2) #[] (List.replicate x.toNat items)) },toks:=s.toks }):=
 .of_wp λprog w A R s h=>by
  obtain ⟨hp,g,d,tk,os⟩:=s;obtain ⟨hl,h⟩:=h
  have c1:(decide (x < -(2 ^ 63))||decide (x ≥ 2 ^ 63))=false:=by simp;omega
  have c2:(items.isEmpty||x==1)=false:=by rw [hne];simp;omega
  have c3:(decide (x≤0)||items.isEmpty)=false:=by rw [hne];simp;omega
  wp_walk
  rw [if_neg (by rw [c1];exact AF)]
  wp_walk
  rw [if_neg (by rw [c2];exact AF)]
  wp_walk
  rw [if_neg (by rw [c3];exact AF)]
  have ex:(x.toNat:Int)=x:=Int.toNat_of_nonneg (by omega)
  have ez:((items.size:Int)*x)=((items.size*x.toNat:Nat):Int):=by rw [Int.natCast_mul,ex]
  have c4:¬ ((items.size:Int)*x > (2 ^ 63-1) / 8):=by rw [ez];omega
  have c5:¬ (Builtin.Tuple.tupleTooMany ((items.size:Int)*x)=true):=by
   unfold Builtin.Tuple.tupleTooMany
   rw [ez,Ae]
   have:(1000:Int)≤(sizeLine:Int):=by decide
   omega
  refine HU (λz=>absurd z c4) λ_=>?_
  refine HU (λz=>absurd z c5) λ_=>?_
  (unfold Builtin.Tuple.tupleExact)
  have hzz:(List.foldl (λx1 x2=>x1++x2) #[] (List.replicate x.toNat items)).size≤sizeLine:=by
   have gen:∀ (k:Nat) (b:Array Value),(List.foldl (λx1 x2=>x1++x2) b (List.replicate k items)).size=b.size+k*items.size:=by
    intro k
    induction k with
    | zero=>intro b;simp
    | succ k ih=>intro b;rw [List.replicate_succ,List.foldl_cons,ih,Array.size_append,Nat.succ_mul];omega
   rw [gen,Nat.mul_comm]
   have:1000≤sizeLine:=by decide
   simp only [Array.size_empty]
   omega
  exact Aa (AU (hd:=hzz) (Ac ⟨_,rfl,h⟩))
theorem AaB (l:Addr)(items:Array Value)(n:Nat)(dc:Option Addr)(sl:Array (Option Value))(u:Tok) :
  Meets (Builtin.«tuple.__mul__» ⟨[.ref l,.int 1 u],[]⟩) (λ_ R s=>s.heap.get? l=some { cls:=.type "tuple",dict:=dc,data:=.seq items n,slots:=sl }∧R (.ok (.ret (Value.ref l))) s):=
 .of_wp λprog w A R s h=>by
  obtain ⟨hp,g,d,tk,os⟩:=s;obtain ⟨hl,h⟩:=h
  wp_walk
  exact ⟨_,rfl,h⟩
section
variable {X:Cx} {K:Zc} {th:List Addr} {mu:Sto} {H:Hp}
noncomputable def SJ (d e:D)(mu:Sto):Rs D:=match d,e with
 | .tup (x::xs),.int n=>if 1≤n∧n<1000∧(x::xs).length*n.toNat≤1000 then some (.tup (List.replicate n.toNat (x::xs)).flatten,mu) else none
 | _,_=>none
theorem NF {ds:List D}{vs:List V}(r:RepL K th H ds vs):∀ k:Nat,RepL K th H (List.replicate k ds).flatten (List.replicate k vs).flatten
 | 0=>.nil
 | k+1=>by
  rw [List.replicate_succ,List.replicate_succ,List.flatten_cons,List.flatten_cons]
  exact r.app (NF r k)
theorem VG:OpV X (binaryOp .Mult) SJ:=by
 intro pins s st H x y v u Q I rx ry h
 obtain ⟨th,mu,d,e,so,r1,r2,t⟩:=h
 unfold SJ at t
 split at t
 ·rename_i x0 xs n
  by_cases c:1≤n∧n<1000∧(x0::xs).length*n.toNat≤1000
  ·rw [if_pos c] at t
   unfold Rep at r1 r2
   obtain ⟨a,vs,rfl,h1,h2,h3⟩:=r1
   subst r2
   cases rx
   obtain ⟨tk,rfl⟩:=ry
   obtain ⟨its,rv,p1,_⟩:=I.tuple h1
   obtain ⟨⟨cls,dd,data,sl⟩,ho,hc,m,hd⟩:=id p1
   simp only at hc hd
   subst hc hd
   refine wpAny_binaryOp_repeat_ref (T:="tuple") (U:="int") (by decide) ⟨_,ho,rfl⟩ (λs'=>typeIs_int s' n tk) RM F.fills_int_mul F.slot_int_rmul S5 F.slot_int_index.lookup
    (call_meets F.slot_int_rmul (typeIs_int s n tk) F.entry_int_rmul (F.args_int_rmul_2 _ _) (U1 n tk a its.toArray m dd sl) ⟨ho,rfl,⟨_,ho,rfl⟩,?_⟩)
   have il:its.length=(x0::xs).length:=by rw [← rv.length,h2.len]
   by_cases c1:n=1
   ·subst c1
    refine call_meets F.slot_tuple_mul ⟨_,ho,rfl⟩ F.entry_tuple_mul (F.args_tuple_mul_2 _ _) (AaB a its.toArray m dd sl tk) ⟨ho,?_⟩
    refine ⟨.ref a,H,I,rfl,t.ret so _ ?_⟩
    show Rep X.z th H (.tup (List.replicate 1 (x0::xs)).flatten) (.ref a)
    rw [show (List.replicate 1 (x0::xs)).flatten=x0::xs by simp]
    unfold Rep
    exact ⟨a,vs,rfl,h1,h2,h3⟩
   ·refine call_meets F.slot_tuple_mul ⟨_,ho,rfl⟩ F.entry_tuple_mul (F.args_tuple_mul_2 _ _) (AaX a its.toArray m dd sl n tk (by omega) (by omega) (by cases its with|nil=>simp at il|cons _ _=>rfl) (by rw [Ak,il];exact c.2.2)) ⟨ho,?_⟩
    have hp:H s.heap.objs.size=none:=I.hok.fresh (Ah _)
    have hz:(List.replicate n.toNat vs).flatten.length≤sizeLine:=by
     rw [len_rep,h2.len,Nat.mul_comm]
     exact AA c.2.2 (by decide)
    have ea:List.foldl (λx1 x2=>x1++x2) #[] (List.replicate n.toNat its.toArray)=(List.replicate n.toNat its).flatten.toArray:=by
     have:=foldl_rep its n.toNat []
     rw [List.nil_append] at this
     exact this
    rw [ea]
    refine ⟨.ref s.heap.objs.size,_,I.laid (t':=s.toks) (o:=.tup (List.replicate n.toNat vs).flatten) (λb ob q=>Ad _ q) (Ah _) ?_,rfl,t.retX (.new hp _) (so.new hp _) _ (Rep.newTup so hp (NF h2 _) ?_)⟩
    ·exact ⟨⟨hz,⟨_,Ai _ rfl,rfl⟩⟩,_,rv.rep n.toNat,IsTup.new _ _⟩
    ·rw [len_rep,Nat.mul_comm]
     exact AA c.2.2 (by decide)
  ·rw [if_neg c] at t;exact t.no.elim
 ·exact t.no.elim
noncomputable def To (d e:D)(mu:Sto):Rs D:=match F2 d e mu with
 | some r=>some r
 | none=>SJ d e mu
theorem Vb:OpV X (binaryOp .Mult) To:=OpV.or EF VG
end
end PV
namespace PG
open PySem L2 PV PyProof.Rows
noncomputable def IA:Sx:=
  Cv (sIf (tO (tNt (tV (Rw "str" (Cd 0)))) (tNt (tV (JS leD leD (eC (.int 1)) (Ci FN (Cb (Cd 0) Cg)) (eC (.int 8)))))) (sRt (eC (.bl false))) (sNx)) (sRt (Ci JD (Cb (eLC (Fh (Cd 0)) 1 [] (gNm 0) (tY) (Ck inG (Cd 0) (eC (.str "abcdefghijklmnopqrstuvwxyz0123456789")))) Cg)))
noncomputable def DA:Fn:=fnB 1 IA
noncomputable def Jc:Sx:=
  sRt (eAn (Rw "tuple" (Cd 0)) (JS leD leD (Cd 1) (Ci FN (Cb (Cd 0) Cg)) (Cd 2)))
noncomputable def Dl:Fn:=fnB 3 Jc
noncomputable def D8:Sx:=
  sRt (eAn (Rw "tuple" (Cd 0)) (Ci JD (Cb (eLC (Fh (Cd 0)) 1 [] (gNm 0) (tY) (Ci DA (Cb (Cd 0) Cg))) Cg)))
noncomputable def Ds:Fn:=fnB 1 D8
noncomputable def Ga:Sx:=
  sRt (Ck eqD (Ci FN (Cb (Ci Lv (Cb (Cd 0) Cg)) Cg)) (Ci FN (Cb (Cd 0) Cg)))
noncomputable def Dg:Fn:=fnB 1 Ga
noncomputable def GO:Sx:=
  sRt (eAn (Ci Dl (Cb (Cd 0) (Cb (Cd 1) (Cb (Cd 2) Cg)))) (eAn (Ci Ds (Cb (Cd 0) Cg)) (Ci Dg (Cb (Cd 0) Cg))))
noncomputable def Eu:Fn:=fnB 3 GO
noncomputable def FP:Sx:=
  Cv (JA (Fh (Cd 0)) (gTp 2 (CC (gNm 2) (CC (gNm 3) Ew))) (sIf (tV (Ck eqD (Cd 2) (Cd 1))) (sRt (Cd 3)) (sNx))) (sRt (eC .non))
noncomputable def DC:Fn:=fnB 4 FP
noncomputable def He:Sx:=
  sRt (Ci JD (Cb (eLC (Fh (Cd 1)) 1 [0] (gNm 0) (tY) (Ck inG (Cd 0) (Cd 1))) Cg))
noncomputable def Dp:Fn:=fnB 2 He
noncomputable def JU:Sx:=
  sRt (eAn (Ci Dl (Cb (Cd 0) (Cb (eC (.int 2)) (Cb (eC (.int 2)) Cg)))) (eAn (Ci DA (Cb (Ck ixG (Cd 0) (eC (.int 0))) Cg)) (Ci DA (Cb (Ck ixG (Cd 0) (eC (.int 1))) Cg))))
noncomputable def Gr:Fn:=fnB 1 JU
noncomputable def Ia:Sx:=
  Cv (sIf (tO (tNt (tV (Ci Dl (Cb (Cd 1) (Cb (eC (.int 1)) (Cb (Ci FN (Cb (Cd 0) Cg)) Cg)))))) (tNt (tV (Ci JD (Cb (eLC (Fh (Cd 1)) 1 [] (gNm 0) (tY) (Ci Gr (Cb (Cd 0) Cg))) Cg))))) (sRt (eC (.bl false))) (sNx)) (Cv (CZ (eLC (Fh (Cd 1)) 1 [] (gNm 0) (tY) (Ck ixG (Cd 0) (eC (.int 0)))) (gNm 2)) (sRt (eAn (Ci Dg (Cb (Cd 2) Cg)) (Ci Dp (Cb (Cd 0) (Cb (Cd 2) Cg))))))
noncomputable def FY:Fn:=fnB 3 Ia
noncomputable def FL:Sx:=
  Cv (CZ (Ci dctP (Cb (Cd 1) Cg)) (gNm 2)) (sRt (Ci Gg (Cb (eLC (Fh (Cd 0)) 1 [2] (gNm 0) (tY) (Lu (Cd 1) (Cb (Cd 0) (Cb (Cd 0) Cg)))) Cg)))
noncomputable def Dy:Fn:=fnB 3 FL
noncomputable def Kb:Sx:=
  Cv (sIf (tO (tNt (tV (Ci Dl (Cb (Cd 1) (Cb (eC (.int 3)) (Cb (eC (.int 3)) Cg)))))) (tNt (tV (Ci JD (Cb (eLC (Fh (Cd 1)) 1 [] (gNm 0) (tY) (Ci DA (Cb (Cd 0) Cg))) Cg))))) (sRt (eC (.bl false))) (sNx)) (Cv (CZ (Cd 1) (gTp 3 (CC (gNm 2) (CC (gNm 3) (CC (gNm 4) Ew))))) (Cv (sIf (tV (Ck inG (Cd 2) (Dz (Cb (eC (.str "is")) (Cb (eC (.str "not")) Cg))))) (sRt (Ck inG (Cd 3) (Cd 0))) (sNx)) (sRt (eAn (Ck inG (Cd 2) (Dz (Cb (eC (.str "like")) (Cb (eC (.str "unlike")) Cg)))) (Ci Dp (Cb (Cd 0) (Cb (Dz (Cb (Cd 3) (Cb (Cd 4) Cg))) Cg)))))))
noncomputable def Gq:Fn:=fnB 5 Kb
noncomputable def HZ:Sx:=
  sRt (eAn (Ci Dl (Cb (Cd 1) (Cb (eC (.int 1)) (Cb (eC (.int 4)) Cg)))) (Ci JD (Cb (eLC (Fh (Cd 1)) 1 [0] (gNm 0) (tY) (Ci Gq (Cb (Cd 1) (Cb (Cd 0) Cg)))) Cg)))
noncomputable def F1:Fn:=fnB 2 HZ
noncomputable def EL:Sx:=
  Cv (sIf (tV (Ck eqD (Cd 1) (eC (.str "rows")))) (sRt (eIf (tV (Ci F1 (Cb (Cd 0) (Cb (Cd 2) Cg)))) (Cd 0) (eC .non))) (sNx)) (Cv (sIf (tV (Ck eqD (Cd 1) (eC (.str "columns")))) (sRt (eIf (tAn (tV (Ci Eu (Cb (Cd 2) (Cb (eC (.int 1)) (Cb (Ci FN (Cb (Cd 0) Cg)) Cg))))) (tV (Ci Dp (Cb (Cd 0) (Cb (Cd 2) Cg))))) (Cd 2) (eC .non))) (sNx)) (Cv (sIf (tAn (tV (Ck eqD (Cd 1) (eC (.str "called")))) (tV (Ci FY (Cb (Cd 0) (Cb (Cd 2) Cg))))) (Cv (CZ (Ci Dy (Cb (Cd 0) (Cb (Cd 2) Cg))) (gNm 3)) (sRt (eIf (tV (Ci Dg (Cb (Cd 3) Cg))) (Cd 3) (eC .non)))) (sNx)) (sRt (eC .non))))
noncomputable def DG:Fn:=fnB 4 EL
noncomputable def FF:Sx:=
  sRt (Ck Dc (Cd 0) (Ci Gg (Cb (eLC (Fh (Cd 1)) 1 [0] (gNm 0) (tV (Ck Kt (Cd 0) (Cd 1))) (Cd 0)) Cg)))
noncomputable def Dm:Fn:=fnB 2 FF
noncomputable def EN:Sx:=
  Cv (sIf (tV (Ck eqD (Cd 1) (eC (.str "join")))) (sRt (Ci Dm (Cb (Cd 0) (Cb (Cd 2) Cg)))) (sNx)) (sRt (eIf (tV (Ck eqD (Cd 0) (Cd 2))) (Cd 0) (eC .non)))
noncomputable def DH:Fn:=fnB 3 EN
noncomputable def Hh:Sx:=
  sRt (eAn (Ck eqD (Ci FN (Cb (Cd 1) Cg)) (eC (.int 2))) (eAn (Ci DA (Cb (Ck ixG (Cd 1) (eC (.int 1))) Cg)) (Ck inG (Ck ixG (Cd 1) (eC (.int 1))) (Cd 0))))
noncomputable def E5:Fn:=fnB 2 Hh
noncomputable def Eh (f:Fn):Sx:=
  Cv (sIf (tO (tV (Ck eqD (Cd 2) (eC (.int 0)))) (tO (tNt (tV (Ci Dl (Cb (Cd 1) (Cb (eC (.int 2)) (Cb (eC (.int 3)) Cg)))))) (tNt (tV (Rw "str" (Ck ixG (Cd 1) (eC (.int 0)))))))) (sRt (eC .non)) (sNx)) (Cv (sIf (tV (Ck eqD (Ck ixG (Cd 1) (eC (.int 0))) (eC (.str "of")))) (sRt (eIf (tV (Ci E5 (Cb (Cd 0) (Cb (Cd 1) Cg)))) (Ck ixG (Cd 0) (Ck ixG (Cd 1) (eC (.int 1)))) (eC .non))) (sNx)) (Cv (CZ (eIf (tV (Ck eqD (Ci FN (Cb (Cd 1) Cg)) (eC (.int 3)))) (Ci f (Cb (Cd 0) (Cb (Ck ixG (Cd 1) (eC (.int 1))) (Cb (Ck N6 (Cd 2) (eC (.int 1))) Cg)))) (eC .non)) (gNm 3)) (Cv (sIf (tV (Ck isD (Cd 3) (eC .non))) (sRt (eC .non)) (sNx)) (Cv (sIf (tV (Ck Kt (Ck ixG (Cd 1) (eC (.int 0))) (eC (.tup ((["join","union","gap"]:List Str).map D.str))))) (sRt (Ci DG (Cb (Cd 3) (Cb (Ck ixG (Cd 1) (eC (.int 0))) (Cb (Ck ixG (Cd 1) (eC (.int 2))) Cg))))) (sNx)) (Cv (CZ (Ci f (Cb (Cd 0) (Cb (Ck ixG (Cd 1) (eC (.int 2))) (Cb (Ck N6 (Cd 2) (eC (.int 1))) Cg)))) (gNm 4)) (sRt (eIf (tV (Ck isD (Cd 4) (eC .non))) (eC .non) (Ci DH (Cb (Cd 3) (Cb (Ck ixG (Cd 1) (eC (.int 0))) (Cb (Cd 4) Cg)))))))))))
noncomputable def CK:Nat->Fn
 | 0=>λ_ _=>none
 | n+1=>fnB 5 (Eh (CK n))
noncomputable def Fv:Sx:=
  sRt (eCo (Fh (Cd 0)) 1 [] (gNm 0) (tY) (stD (Ck ixG (Cd 0) (eC (.int 0))) (Ci Gg (Cb (eLC (Fh (Ck ixG (Cd 0) (eC (.int 1)))) 1 [] (gNm 0) (tY) (Ck ixG (Cd 0) (eC (.int 0)))) Cg))) ([],[]) Wm)
noncomputable def Dr:Fn:=fnB 1 Fv
noncomputable def JV:Sx:=
  sRt (Ck Jq (Ci (CK 10) (Cb (Ci Dr (Cb (Cd 0) Cg)) (Cb (Cd 1) (Cb (eC (.int 8)) Cg)))) (eC .non))
noncomputable def CV:Fn:=fnB 2 JV
noncomputable def DP (f:Fn):Sx:=
  Cv (CZ (Ci DC (Cb (Cd 1) (Cb (Cd 2) Cg))) (gNm 3)) (Cv (sIf (tV (Ck isD (Cd 3) (eC .non))) (Cv (CZ (Ci Dm (Cb (Ci f (Cb (Cd 0) (Cb (Cd 1) (Cb (Ck ixG (Cd 2) (eC (.int 1))) Cg)))) (Cb (Ci f (Cb (Cd 0) (Cb (Cd 1) (Cb (Ck ixG (Cd 2) (eC (.int 2))) Cg)))) Cg))) (gNm 3)) (sEx (LK (Cd 1) (Cb (Dz (Cb (Cd 2) (Cb (Cd 3) Cg))) Cg)))) (sNx)) (sRt (Cd 3)))
noncomputable def DJ (f g:Fn):Sx:=
  Cv (CZ (Ck ixG (Cd 2) (eC (.int 0))) (gNm 3)) (Cv (sIf (tV (Ck eqD (Cd 3) (eC (.str "of")))) (sRt (Ck ixG (Cd 0) (Ck ixG (Cd 2) (eC (.int 1))))) (sNx)) (Cv (sIf (tV (Ck eqD (Cd 3) (eC (.str "columns")))) (sRt (Ck ixG (Cd 2) (eC (.int 2)))) (sNx)) (Cv (sIf (tV (Ck eqD (Cd 3) (eC (.str "join")))) (sRt (Ci g (Cb (Cd 0) (Cb (Cd 1) (Cb (Cd 2) Cg))))) (sNx)) (Cv (CZ (Ci f (Cb (Cd 0) (Cb (Cd 1) (Cb (Ck ixG (Cd 2) (eC (.int 1))) Cg)))) (gNm 4)) (sRt (eIf (tV (Ck eqD (Cd 3) (eC (.str "called")))) (Ci Dy (Cb (Cd 4) (Cb (Ck ixG (Cd 2) (eC (.int 2))) Cg))) (Cd 4)))))))
noncomputable def Df:Nat->Fn
 | 0=>λ_ _=>none
 | n+1=>fnB 5 (DJ (Df n) (fnB 4 (DP (Df n))))
noncomputable def Fu (n:Nat):Fn:=fnB 4 (DP (Df n))
noncomputable def Hy:Sx:=
  sRt (Ci (Df 10) (Cb (Ci Dr (Cb (Cd 0) Cg)) (Cb (GF Cg) (Cb (Cd 1) Cg))))
noncomputable def DZ:Fn:=fnG 2 Hy
noncomputable def Hu:Sx:=
  Cv (CZ (eC (.int 0)) (gNm 2)) (Cv (sIf (tV (Ck ltG (Cd 1) (Ci FN (Cb (Cd 0) Cg)))) (CZ (Ck ixG (Cd 0) (Cd 1)) (gNm 2)) (sNx)) (sRt (GF (Cb (Ck F2 (Cd 2) (Ci SM (Cb (Ck geD (Cd 2) (Ck TB (eC (.int 10)) (eC (.int 18)))) Cg))) (Cb (Ck Dc (Ck Dc (Ck GB (Cd 2) (eC (.int 2305843009213693951))) (Ck F2 (eC (.int 7919)) (Cd 1))) (eC (.int 3))) (Cb (eC (.int 0)) Cg))))))
noncomputable def E1:Fn:=fnB 3 Hu
noncomputable def HB:Sx:=
  Cv (sIf (tV (Ck gtD (Ck ixG (Cd 0) (eC (.int 0))) (eC (.int 0)))) (Cv (CZ (Ck GB (Ck ixG (Cd 0) (eC (.int 0))) (Cd 1)) (gNm 2)) (Cv (CZ (Ck K5 (Ck ixG (Cd 0) (eC (.int 0))) (Cd 1)) (gIx (Cd 0) (eC (.int 0)))) (sRt (Cd 2)))) (sNx)) (Cv (CZ (Ck Dc (Ck ixG (Cd 0) (eC (.int 2))) (eC (.int 1))) (gIx (Cd 0) (eC (.int 2)))) (Cv (CZ (Ck ixG (Cd 0) (eC (.int 2))) (gNm 3)) (Cv (CZ (Ck GB (Ck F2 (Ck ixG (Cd 0) (eC (.int 1))) (Ck Dc (Ck Dc (eC (.int 48271)) (Ck F2 (Ck F2 (eC (.int 2)) (Cd 3)) (Cd 3))) (Ck F2 (eC (.int 65537)) (Cd 3)))) (eC (.int 2305843009213693921))) (gNm 4)) (Cv (CZ (Ck Dc (Ck Dc (Ck GB (Cd 4) (eC (.int 1000003))) (Ck F2 (Cd 3) (eC (.int 99991)))) (eC (.int 11))) (gNm 5)) (Cv (CZ (Ck GB (Ck F2 (Cd 4) (Cd 5)) (eC (.int 2305843009213693907))) (gNm 4)) (sRt (Ck GB (Ck Dc (Ck K5 (Cd 4) (eC (.int 97))) (Ck K5 (Cd 4) (eC (.int 1000033)))) (Cd 1))))))))
noncomputable def Cs:Fn:=fnB 6 HB
noncomputable def Hz:Sx:=
  sRt (Ck ixG (Cd 1) (Ci Cs (Cb (Cd 0) (Cb (Ci FN (Cb (Cd 1) Cg)) Cg))))
noncomputable def CO:Fn:=fnB 2 Hz
noncomputable def HY:Sx:=
  Cv (CZ (eC (.str "abcdefghijklmnopqrstuvwxyz0123456789")) (gNm 3)) (Cv (CZ (Dz (Cb (Ci Cs (Cb (Cd 0) (Cb (eC (.int 36)) Cg))) (Cb (Ci CO (Cb (Cd 0) (Cb (Oc (Cb (eC (.int 1)) (Cb (eC (.int 5)) (Cb (eC (.int 7)) (Cb (eC (.int 11)) (Cb (eC (.int 13)) (Cb (eC (.int 17)) Cg))))))) Cg))) Cg))) (gTp 2 (CC (gNm 4) (CC (gNm 5) Ew)))) (Cv (CZ (Ck F2 (Ck ixG (Cd 3) (Ci Cs (Cb (Cd 0) (Cb (eC (.int 36)) Cg)))) (Ci Oq (Cb (Ck N6 (Cd 2) (eC (.int 1))) (Cb (Ci CO (Cb (Cd 0) (Cb (Oc (Cb (eC (.int 0)) (Cb (eC (.int 1)) (Cb (eC (.int 0)) (Cb (eC (.int 2)) (Cb (eC (.int 7)) Cg)))))) Cg))) Cg)))) (gNm 6)) (Cv (CZ (Ci Cs (Cb (Cd 0) (Cb (Ck Dc (Ci FN (Cb (Cd 6) Cg)) (eC (.int 1))) Cg))) (gNm 7)) (sRt (eLC (iRg (Cb (Cd 1) Cg)) 1 [6,7,3,4,5] (gNm 0) (tY) (Ck Dc (Ck Dc (eSl (Cd 1) (pNo) (Fw (Cd 2))) (Ck ixG (Cd 3) (Ck GB (Ck Dc (Cd 4) (Ck F2 (Cd 5) (Cd 0))) (eC (.int 36))))) (eSl (Cd 1) (Fw (Cd 2)) (pNo))))))))
noncomputable def EA:Fn:=fnB 8 HY
noncomputable def HA:Sx:=
  Cv (CZ (Ci PQ (Cb (Ci EA (Cb (Cd 0) (Cb (Ck Dc (eC (.int 1)) (Ci Cs (Cb (Cd 0) (Cb (Cd 1) Cg)))) (Cb (eC (.int 8)) Cg)))) Cg)) (gNm 4)) (Cv (CZ (Dz (Cb (Ci EA (Cb (Cd 0) (Cb (Ck Dc (Cd 2) (eC (.int 2))) (Cb (eC (.int 8)) Cg)))) (Cb (Ci EA (Cb (Cd 0) (Cb (Ck Dc (Cd 3) (eC (.int 1))) (Cb (eC (.int 8)) Cg)))) Cg))) (gTp 2 (CC (gNm 5) (CC (gNm 6) Ew)))) (Cv (CZ (GF Cg) (gNm 7)) (Cv (JA (Fh (Cd 4)) (gNm 8) (Cv (QA 9 10 11 (Cb (Ck Dc (eC (.int 1)) (Ci Cs (Cb (Cd 0) (Cb (Cd 2) Cg)))) (Cb (Ci Cs (Cb (Cd 0) (Cb (eC (.int 3)) Cg))) (Cb (GF Cg) Cg)))) (Cv (JA (iRg (Cb (Cd 9) Cg)) (gNm 12) (Cv (CZ (Dz (Cb (Ck Dc (eC (.int 1)) (Ci Cs (Cb (Cd 0) (Cb (Cd 3) Cg)))) (Cb (Ci Cs (Cb (Cd 0) (Cb (eC (.int 2)) Cg))) Cg))) (gTp 2 (CC (gNm 13) (CC (gNm 14) Ew)))) (Cv (CZ (Ci Gg (Cb (eLC (iRg (Cb (Cd 13) Cg)) 1 [6,14] (gNm 0) (tY) (Ck ixG (Cd 1) (Ck GB (Ck Dc (Cd 0) (Cd 2)) (Ci FN (Cb (Cd 1) Cg))))) Cg)) (gNm 15)) (sEx (LK (Cd 11) (Cb (Dz (Cb (Ck ixG (Cd 5) (Ck GB (Ck Dc (Cd 12) (Cd 10)) (Ci FN (Cb (Cd 5) Cg)))) (Cb (Cd 15) Cg))) Cg)))))) (sEx (LK (Cd 7) (Cb (Dz (Cb (Cd 8) (Cb (Ci Gg (Cb (Cd 11) Cg)) (Cb (Ck Dc (eC (.int 1)) (Ci Cs (Cb (Cd 0) (Cb (Cd 9) Cg)))) Cg)))) Cg)))))) (sRt (Ci Gg (Cb (Cd 7) Cg))))))
noncomputable def Ee:Fn:=fnG 16 HA
noncomputable def Fz (f:Fn):Sx:=
  Cv (sIf (tV (Ck eqD (Ck ixG (Cd 1) (eC (.int 0))) (eC (.str "of")))) (sRt (Ck ixG (eLC (Fh (Cd 0)) 1 [1] (gNm 0) (tV (Ck eqD (Ck ixG (Cd 0) (eC (.int 0))) (Ck ixG (Cd 1) (eC (.int 1))))) (Ci Gg (Cb (eLC (Fh (Ck ixG (Cd 0) (eC (.int 1)))) 2 [] (gTp 2 (CC (gNm 0) (CC (gNm 1) Ew))) (tY) (Cd 0)) Cg))) (eC (.int 0)))) (sNx)) (Cv (CZ (Ci f (Cb (Cd 0) (Cb (Ck ixG (Cd 1) (eC (.int 1))) Cg))) (gNm 2)) (Cv (sIf (tV (Ck eqD (Ck ixG (Cd 1) (eC (.int 0))) (eC (.str "columns")))) (sRt (Ck ixG (Cd 1) (eC (.int 2)))) (sNx)) (Cv (sIf (tV (Ck eqD (Ck ixG (Cd 1) (eC (.int 0))) (eC (.str "called")))) (Cv (CZ (Ci dctP (Cb (Ci Ou (Cb (Ck ixG (Cd 1) (eC (.int 2))) Cg)) Cg)) (gNm 3)) (sRt (Ci Gg (Cb (eLC (Fh (Cd 2)) 1 [3] (gNm 0) (tY) (Lu (Cd 1) (Cb (Cd 0) (Cb (Cd 0) Cg)))) Cg)))) (sNx)) (Cv (sIf (tV (Ck eqD (Ck ixG (Cd 1) (eC (.int 0))) (eC (.str "join")))) (sRt (Ck Dc (Cd 2) (Ci Gg (Cb (eLC (Fh (Ci f (Cb (Cd 0) (Cb (Ck ixG (Cd 1) (eC (.int 2))) Cg)))) 1 [2] (gNm 0) (tV (Ck Kt (Cd 0) (Cd 1))) (Cd 0)) Cg)))) (sNx)) (sRt (Cd 2))))))
noncomputable def CD:Nat->Fn
 | 0=>λ_ _=>none
 | n+1=>fnB 4 (Fz (CD n))
noncomputable def Io:Sx:=
  Cv (CZ (GF Cg) (gNm 1)) (Cv (JA (Fh (Cd 0)) (gTp 3 (CC (gNm 2) (CC (gNm 3) (CC (gNm 4) Ew)))) (JA (Fh (Cd 3)) (gTp 2 (CC (gNm 5) (CC (gNm 6) Ew))) (sEx (S0 (Cd 1) (Cb (Ci Ou (Cb (Cd 6) Cg)) Cg))))) (sRt (Ci PQ (Cb (Ci Lv (Cb (Cd 1) Cg)) Cg))))
noncomputable def FX:Fn:=fnG 7 Io
noncomputable def Hl:Sx:=
  Cv (CZ (Ci CO (Cb (Cd 0) (Cb (Oc (Cb (eC (.str "is")) (Cb (eC (.str "not")) (Cb (eC (.str "like")) (Cb (eC (.str "unlike")) (Cb (eC (.str "is")) Cg)))))) Cg))) (gNm 3)) (sRt (Dz (Cb (Cd 3) (Cb (Ci CO (Cb (Cd 0) (Cb (Cd 1) Cg))) (Cb (Ci CO (Cb (Cd 0) (Cb (eIf (tV (Ck inG (Cd 3) (Dz (Cb (eC (.str "is")) (Cb (eC (.str "not")) Cg))))) (Cd 2) (Cd 1)) Cg))) Cg)))))
noncomputable def Eg:Fn:=fnB 4 Hl
noncomputable def E4 (f:Fn):Sx:=
  Cv (sIf (tV (Ck eqD (Ck ixG (Cd 0) (eC (.int 0))) (eC (.str "of")))) (sRt (eC (.int 6))) (sNx)) (Cv (sIf (tV (Ck eqD (Ck ixG (Cd 0) (eC (.int 0))) (eC (.str "join")))) (sRt (Ck F2 (Ci f (Cb (Ck ixG (Cd 0) (eC (.int 1))) Cg)) (Ci f (Cb (Ck ixG (Cd 0) (eC (.int 2))) Cg)))) (sNx)) (sRt (Ck Dc (Ci f (Cb (Ck ixG (Cd 0) (eC (.int 1))) Cg)) (eIf (tV (Ck eqD (Ck ixG (Cd 0) (eC (.int 0))) (eC (.str "union")))) (Ci f (Cb (Ck ixG (Cd 0) (eC (.int 2))) Cg)) (eC (.int 0))))))
noncomputable def DM:Nat->Fn
 | 0=>λ_ _=>none
 | n+1=>fnB 1 (E4 (DM n))
noncomputable def C0 (f:Fn):Sx:=
  Cv (CZ (Ci Cs (Cb (Cd 0) (Cb (eC (.int 8)) Cg))) (gNm 3)) (Cv (sIf (tO (tV (Ck ltG (Cd 2) (eC (.int 2)))) (tV (Ck eqD (Cd 3) (eC (.int 0))))) (sRt (Dz (Cb (eC (.str "of")) (Cb (Ck ixG (Ci CO (Cb (Cd 0) (Cb (Cd 1) Cg))) (eC (.int 0))) Cg)))) (sNx)) (Cv (CZ (Ci f (Cb (Cd 0) (Cb (Cd 1) (Cb (Ck N6 (Cd 2) (eC (.int 1))) Cg)))) (gNm 4)) (Cv (CZ (Dz (Cb (Ci (CD 10) (Cb (Cd 1) (Cb (Cd 4) Cg))) (Cb (Ci FX (Cb (Cd 1) Cg)) Cg))) (gTp 2 (CC (gNm 5) (CC (gNm 6) Ew)))) (Cv (sIf (tV (Ck ltG (Cd 3) (eC (.int 3)))) (sRt (Dz (Cb (eC (.str "rows")) (Cb (Cd 4) (Cb (Ci Gg (Cb (eLC (iRg (Cb (Ck Dc (eC (.int 1)) (Ci Cs (Cb (Cd 0) (Cb (eC (.int 2)) Cg)))) Cg)) 1 [0,5,6] (gNm 0) (tY) (Ci Eg (Cb (Cd 1) (Cb (Cd 2) (Cb (Cd 3) Cg))))) Cg)) Cg))))) (sNx)) (Cv (sIf (tV (Ck eqD (Cd 3) (eC (.int 3)))) (Cv (CZ (Ci Cs (Cb (Cd 0) (Cb (Ci FN (Cb (Cd 5) Cg)) Cg))) (gNm 7)) (sRt (Dz (Cb (eC (.str "columns")) (Cb (Cd 4) (Cb (eSl (Ck Dc (eSl (Cd 5) (Fw (Cd 7)) (pNo)) (eSl (Cd 5) (pNo) (Fw (Cd 7)))) (pNo) (Fw (Ck Dc (eC (.int 1)) (Ci Cs (Cb (Cd 0) (Cb (Ci FN (Cb (Cd 5) Cg)) Cg)))))) Cg)))))) (sNx)) (Cv (sIf (tV (Ck eqD (Cd 3) (eC (.int 4)))) (Cv (CZ (eLC (Fh (Oc (Cb (eC (.str "z9")) (Cb (eC (.str "y8")) (Cb (eC (.str "x7")) (Cb (eC (.str "w6")) Cg)))))) 1 [5] (gNm 0) (tV (Ck Kt (Cd 0) (Cd 1))) (Cd 0)) (gNm 8)) (Cv (CZ (eLC (Fh (eSl (Cd 8) (pNo) (Fw (eC (.int 1))))) 1 [0,5] (gNm 0) (tY) (Dz (Cb (Ci CO (Cb (Cd 1) (Cb (Cd 2) Cg))) (Cb (Cd 0) Cg)))) (gNm 9)) (sRt (eIf (tV (Ck neD (Cd 9) (Oc Cg))) (Dz (Cb (eC (.str "called")) (Cb (Cd 4) (Cb (Ci Gg (Cb (Cd 9) Cg)) Cg)))) (Cd 4))))) (sNx)) (Cv (CZ (Ci f (Cb (Cd 0) (Cb (Cd 1) (Cb (Ck N6 (Cd 2) (eC (.int 1))) Cg)))) (gNm 10)) (Cv (sIf (tV (Ck eqD (Cd 3) (eC (.int 5)))) (sRt (eIf (tV (Ck ltG (Ck F2 (Ci (DM 10) (Cb (Cd 4) Cg)) (Ci (DM 10) (Cb (Cd 10) Cg))) (eC (.int 300)))) (Dz (Cb (eC (.str "join")) (Cb (Cd 4) (Cb (Cd 10) Cg)))) (Cd 4))) (sNx)) (Cv (sIf (tV (Ck neD (Ci (CD 10) (Cb (Cd 1) (Cb (Cd 10) Cg))) (Cd 5))) (CZ (eIf (tV (Ck gtD (Cd 2) (eC (.int 2)))) (Dz (Cb (eC (.str "rows")) (Cb (Cd 4) (Cb (Dz (Cb (Ci Eg (Cb (Cd 0) (Cb (Cd 5) (Cb (Cd 6) Cg)))) Cg)) Cg)))) (Cd 4)) (gNm 10)) (sNx)) (sRt (Dz (Cb (Ck ixG (Oc (Cb (eC (.str "union")) (Cb (eC (.str "gap")) Cg))) (Ck N6 (Cd 3) (eC (.int 6)))) (Cb (Cd 4) (Cb (Cd 10) Cg))))))))))))))
noncomputable def Ej:Nat->Fn
 | 0=>λ_ _=>none
 | n+1=>fnB 11 (C0 (Ej n))
noncomputable def Hx:Sx:=
  sRt (Dz (Cb (eC (.str "called")) (Cb (Cd 1) (Cb (Ci Gg (Cb (eLZ (Cb (Cd 0) (Cb (Ck Dc (eSl (Cd 0) (Fw (eC (.int 1))) (pNo)) (eSl (Cd 0) (pNo) (Fw (eC (.int 1))))) Cg))) Cg)) Cg))))
noncomputable def Ei:Fn:=fnB 2 Hx
noncomputable def SH:Sx:=
  Cv (JA (iRg (Cb (Ci Ti (Cb (eC (.int 2)) (Cb (Ci Oq (Cb (eC (.int 6)) (Cb (Ci FN (Cb (Cd 0) Cg)) Cg))) Cg))) Cg)) (gNm 1) (Cv (CZ (Ci E1 (Cb (Cd 0) (Cb (Cd 1) Cg))) (gNm 2)) (Cv (CZ (Ci Ee (Cb (Cd 2) (Cb (eC (.int 4)) (Cb (eC (.int 4)) (Cb (eC (.int 4)) Cg))))) (gNm 3)) (Cv (JA (iRg (Cb (eC (.int 6)) Cg)) (gNm 4) (Cv (CZ (Ci (Ej 10) (Cb (Cd 2) (Cb (Cd 3) (Cb (Ck Dc (eC (.int 1)) (Ci Cs (Cb (Cd 2) (Cb (eC (.int 5)) Cg)))) Cg)))) (gNm 5)) (Cv (CZ (Ci (CD 10) (Cb (Cd 3) (Cb (Cd 5) Cg))) (gNm 6)) (Cv (sIf (tO (tV (Ck Jq (Ci CV (Cb (Cd 3) (Cb (Cd 5) Cg))) (eC (.bl true)))) (tV (Ck Jq (Ci CV (Cb (Cd 3) (Cb (Cd 5) Cg))) (eC (.bl true))))) (sRt (eC (.bl false))) (sNx)) (sIf (tV (Ck neD (Ci IU (Cb (Ci DZ (Cb (Cd 3) (Cb (Cd 5) Cg))) Cg)) (Ci IU (Cb (Cd 6) Cg)))) (sRt (eC (.bl false))) (sNx)))))) (Cv (CZ (Dz (Cb (eC (.str "of")) (Cb (Ck ixG (Ck ixG (Cd 3) (eC (.int 0))) (eC (.int 0))) Cg))) (gNm 7)) (Cv (CZ (Ci (CD 10) (Cb (Cd 3) (Cb (Cd 7) Cg))) (gNm 6)) (Cv (CZ (Ci Ei (Cb (Cd 6) (Cb (Cd 7) Cg))) (gNm 8)) (Cv (sIf (tO (tV (Ck Jq (Ci CV (Cb (Cd 3) (Cb (Cd 8) Cg))) (eC (.bl true)))) (tV (Ck neD (Ci DZ (Cb (Cd 3) (Cb (Cd 8) Cg))) (Ck Dc (eSl (Cd 6) (Fw (eC (.int 1))) (pNo)) (eSl (Cd 6) (pNo) (Fw (eC (.int 1)))))))) (sRt (eC (.bl false))) (sNx)) (Cv (CZ (GF (Cb (Dz (Cb (eC (.str "join")) (Cb (Cd 7) (Cb (Cd 8) Cg)))) (Cb (Dz (Cb (eC (.str "union")) (Cb (Cd 7) (Cb (Dz (Cb (eC (.str "columns")) (Cb (Cd 8) (Cb (Cd 6) Cg)))) Cg)))) Cg))) (gNm 9)) (Cv (sEx (LK (Cd 9) (Cb (Dz (Cb (eC (.str "columns")) (Cb (Cd 7) (Cb (e1 O4 (Cd 6)) Cg)))) Cg))) (Cv (sIf (tNt (tV (Ci JD (Cb (eLC (Fh (Cd 9)) 1 [3] (gNm 0) (tY) (Ck isD (Ci CV (Cb (Cd 1) (Cb (Cd 0) Cg))) (eC (.bl true)))) Cg)))) (sRt (eC (.bl false))) (sNx)) (Cv (CZ (Cd 7) (gNm 10)) (Cv (JA (iRg (Cb (eC (.int 7)) Cg)) (gNm 4) (CZ (Dz (Cb (eC (.str "rows")) (Cb (Cd 10) (Cb (Ck To (Dz (Cb (Dz (Cb (eC (.str "like")) (Cb (Ck ixG (Cd 6) (eC (.int 0))) (Cb (Ck ixG (Cd 6) (e1 U5 (eC (.int 1)))) Cg)))) Cg)) (Ck Dc (eC (.int 1)) (Ck GB (Cd 4) (eC (.int 4))))) Cg)))) (gNm 10))) (sIf (tO (tV (Ck Jq (Ci CV (Cb (Cd 3) (Cb (Cd 10) Cg))) (eC (.bl true)))) (tV (Ck Jq (Ci CV (Cb (Cd 3) (Cb (Dz (Cb (eC (.str "called")) (Cb (Cd 10) (Cb (Dz (Cb (Dz (Cb (Ck ixG (Cd 6) (eC (.int 0))) (Cb (eC (.str "k0")) Cg))) Cg)) Cg)))) Cg))) (eC (.bl false))))) (sRt (eC (.bl false))) (sNx))))))))))))))) (sRt (eC (.bl true)))
noncomputable def Mh:Fn:=fnB 11 SH
noncomputable def top (i:Nat):Stmt:=PySem.Challenge.pw_lookback_k05_looks_let.main.body.getD i (.Pass ⟨0,0,0,0⟩)
noncomputable abbrev G4:Stmt:=top 3
noncomputable abbrev Hc:Stmt:=top 4
noncomputable abbrev DF:Stmt:=top 5
noncomputable abbrev Gi:Stmt:=top 7
noncomputable abbrev GG:Stmt:=top 6
noncomputable abbrev FQ:Stmt:=top 8
noncomputable abbrev Fx:Stmt:=top 19
noncomputable abbrev IF:Stmt:=top 23
noncomputable abbrev Fb:Stmt:=top 22
noncomputable abbrev Eb:Stmt:=top 27
noncomputable abbrev Hb:Stmt:=top 21
noncomputable abbrev F0:Stmt:=top 20
noncomputable abbrev D7:Stmt:=top 17
noncomputable abbrev Ed:Stmt:=top 28
noncomputable abbrev D5:Stmt:=top 18
noncomputable abbrev HF:Stmt:=top 16
noncomputable abbrev Er:Stmt:=top 15
noncomputable abbrev D0:Stmt:=top 14
noncomputable abbrev IC:Stmt:=top 13
noncomputable abbrev Dq:Stmt:=top 26
noncomputable abbrev F9:Stmt:=top 25
noncomputable abbrev Gf:Stmt:=top 24
noncomputable abbrev Hj:Stmt:=top 30
noncomputable abbrev Ht:Stmt:=top 31
noncomputable abbrev Hq:Stmt:=top 32
noncomputable abbrev FW:Stmt:=top 33
noncomputable abbrev Fs:Stmt:=top 34
noncomputable abbrev D4:Stmt:=top 35
noncomputable abbrev GI:Stmt:=top 36
noncomputable abbrev HC:Stmt:=top 37
noncomputable abbrev Iu:Stmt:=top 38
noncomputable abbrev E7:Stmt:=top 39
noncomputable abbrev Ge:Stmt:=top 40
noncomputable abbrev Kk:Stmt:=top 41
structure Tx (K:PySem.W.Frag) (mg:Str->Option Value):Prop where
 b_all:mg "all"=none
 b_dict:mg "dict"=none
 b_int:mg "int"=none
 b_isinstance:mg "isinstance"=none
 b_len:mg "len"=none
 b_list:mg "list"=none
 b_max:mg "max"=none
 b_min:mg "min"=none
 b_range:mg "range"=none
 b_repr:mg "repr"=none
 b_set:mg "set"=none
 b_sorted:mg "sorted"=none
 b_str:mg "str"=none
 b_tuple:mg "tuple"=none
 b_zip:mg "zip"=none
 g_DEEPEST:∃ t,mg "DEEPEST"=some (.int 8 t)
 g_LONGEST:∃ t,mg "LONGEST"=some (.int 8 t)
 g_MOST_TESTS:∃ t,mg "MOST_TESTS"=some (.int 4 t)
 g_PAIRED:AaA K mg "PAIRED" ["join","union","gap"]
 g_SIGNS:∃ t,mg "SIGNS"=some (.str "abcdefghijklmnopqrstuvwxyz0123456789" t)
noncomputable def BO (P:Program)(w:World)(K:PySem.W.Frag)(mg:Str->Option Value)(base:Heap)(r:Nat)(x:Str)(st:Stmt)(f:Addr)(N:List Str)(m:Sx):Prop:=∀ (cdv:Value) (A:Around) (outer:List Env) (s:Shared) (H:Hp) (E:XK),Room r (A.deeper (envOfC x (Cn st) s.heap.objs.size f cdv))->SVB (Lr CX0 P w K mg base N x (Cn st) f cdv A outer s H E).nox (EG st) m
section
variable {P:Program} {w:World} {K:PySem.W.Frag} {mg:Str->Option Value} {base:Heap}
theorem Pk:Cw ["thing"] ["thing"] (Cn G4):=⟨rfl,rfl,rfl,by decide +kernel,rfl,by decide +kernel,by decide +kernel⟩
theorem Pw {f:Addr}{fd:FuncData}(F:Fun K "is_word" "is_word" G4 f fd)(T:Tx K mg) :DS P w K mg base CX0 1 f fd ["thing"] (spF ⟨K,P,w⟩ DA 1):=by
 have b:BO P w K mg base 0 "is_word" G4 f ["thing"] IA:=λcdv A outer s H E hr=>by
  exact Cj (CQ (SVW.t (Hm (Gd (Eo (MS "str" (Cc 0) T.b_isinstance T.b_str boot_str))) (GQ (Gd (RD Nv Nv Cf (CF Dt T.b_len boot_len (Ca (Cc 0) Ce)) (MZ T.g_LONGEST)))))) (Co (Cp GA)) CG) (Co (Cp (CF (FD rfl) T.b_all boot_all (Ca (FU ["sign"] [] (by exact Hg (Cn G4) rfl rfl ⟨rfl,by decide +kernel,by decide +kernel,by decide +kernel⟩ True.intro) (Dv (Cc 0)) CN (λ_ _ _ _ _=>Cr 0 (show (["sign"]:List Str).Nodup by decide +kernel)) (λ_ _ _ _ _=>DY) (λ_ _ _ _ _=>GS (Jr hr.units) (Cc 0) (VI T.g_SIGNS))) Ce))))
 have c:=Dk 1 1 F Pk rfl rfl b
 exact c
theorem NT:Cw ["thing","least","most"] ["thing","least","most"] (Cn Hc):=⟨rfl,rfl,rfl,by decide +kernel,rfl,by decide +kernel,by decide +kernel⟩
theorem N1 {f:Addr}{fd:FuncData}(F:Fun K "is_tuple" "is_tuple" Hc f fd)(T:Tx K mg) :DS P w K mg base CX0 1 f fd ["thing","least","most"] (spF ⟨K,P,w⟩ Dl 3):=by
 have b:BO P w K mg base 0 "is_tuple" Hc f ["thing","least","most"] Jc:=λcdv A outer s H E hr=>by
  exact Co (Cp (Gu (MS "tuple" (Cc 0) T.b_isinstance T.b_tuple BL) (HV (S7 Nv Nv (Cc 1) (CF Dt T.b_len boot_len (Ca (Cc 0) Ce)) (Cc 2)))))
 have c:=Dk 3 3 F NT rfl rfl b
 exact c
theorem Ip:Cw ["thing"] ["thing"] (Cn DF):=⟨rfl,rfl,rfl,by decide +kernel,rfl,by decide +kernel,by decide +kernel⟩
theorem Im {f:Addr}{fd:FuncData}(F:Fun K "is_tuple_of_words" "is_tuple_of_words" DF f fd)(T:Tx K mg)(E9:Cal P w K mg base 1 "is_word" DA 1):DS P w K mg base CX0 2 f fd ["thing"] (spF ⟨K,P,w⟩ Ds 1):=by
 have b:BO P w K mg base 1 "is_tuple_of_words" DF f ["thing"] D8:=λcdv A outer s H E hr=>by
  have hr_is_word:Room 1 _:=hr.mono (by decide)
  exact Co (Cp (Gu (MS "tuple" (Cc 0) T.b_isinstance T.b_tuple BL) (HV (CF (FD rfl) T.b_all boot_all (Ca (FU ["word"] [] (by exact Hg (Cn DF) rfl rfl ⟨rfl,by decide +kernel,by decide +kernel,by decide +kernel⟩ True.intro) (Dv (Cc 0)) CN (λ_ _ _ _ _=>Cr 0 (show (["word"]:List Str).Nodup by decide +kernel)) (λ_ _ _ _ _=>DY) (λ_ _ _ _ _=>Cm E9 hr_is_word (Ca (Cc 0) Ce))) Ce)))))
 have c:=Dk 1 1 F Ip rfl rfl b
 exact c
theorem LO:Cw ["things"] ["things"] (Cn Gi):=⟨rfl,rfl,rfl,by decide +kernel,rfl,by decide +kernel,by decide +kernel⟩
theorem LP {f:Addr}{fd:FuncData}(F:Fun K "are_unlike" "are_unlike" Gi f fd)(T:Tx K mg) :DS P w K mg base CX0 1 f fd ["things"] (spF ⟨K,P,w⟩ Dg 1):=by
 have b:BO P w K mg base 0 "are_unlike" Gi f ["things"] Ga:=λcdv A outer s H E hr=>by
  exact Co (Cp (GS (Dx hr.units) (CF Dt T.b_len boot_len (Ca (CU (LW rfl) T.b_set boot_set (Ca (Cc 0) Ce)) Ce)) (CF Dt T.b_len boot_len (Ca (Cc 0) Ce))))
 have c:=Dk 1 1 F LO rfl rfl b
 exact c
theorem M8:Cw ["thing","least","most"] ["thing","least","most"] (Cn GG):=⟨rfl,rfl,rfl,by decide +kernel,rfl,by decide +kernel,by decide +kernel⟩
theorem Nh {f:Addr}{fd:FuncData}(F:Fun K "are_words" "are_words" GG f fd)(T:Tx K mg)(DE:Cal P w K mg base 1 "is_tuple" Dl 3)(IL:Cal P w K mg base 2 "is_tuple_of_words" Ds 1)(Fo:Cal P w K mg base 1 "are_unlike" Dg 1):DS P w K mg base CX0 3 f fd ["thing","least","most"] (spF ⟨K,P,w⟩ Eu 3):=by
 have b:BO P w K mg base 2 "are_words" GG f ["thing","least","most"] GO:=λcdv A outer s H E hr=>by
  have hr_is_tuple:Room 1 _:=hr.mono (by decide)
  have hr_is_tuple_of_words:Room 2 _:=hr.mono (by decide)
  have hr_are_unlike:Room 1 _:=hr.mono (by decide)
  exact Co (Cp (Gu (Cm DE hr_is_tuple (Ca (Cc 0) (Ca (Cc 1) (Ca (Cc 2) Ce)))) (Gu (Cm IL hr_is_tuple_of_words (Ca (Cc 0) Ce)) (HV (Cm Fo hr_are_unlike (Ca (Cc 0) Ce))))))
 have c:=Dk 3 3 F M8 rfl rfl b
 exact c
theorem Gw:Cw ["seen","look","other","found"] ["seen","look"] (Cn FQ):=⟨rfl,rfl,rfl,by decide +kernel,rfl,by decide +kernel,by decide +kernel⟩
theorem K6 {f:Addr}{fd:FuncData}(F:Fun K "found_again" "found_again" FQ f fd)(T:Tx K mg) :DS P w K mg base CX0 1 f fd ["seen","look"] (spF ⟨K,P,w⟩ DC 2):=by
 have b:BO P w K mg base 0 "found_again" FQ f ["seen","look","other","found"] FP:=λcdv A outer s H E hr=>by
  exact Cj (GK BX rfl (Dv (Cc 0)) (Gj rfl (CS (Cr 2 Gw.nd) (CS (Cr 3 Gw.nd) Fp))) (Co (CQ (Cu (Dx hr.units) (Cc 2) (Cc 1)) (Co (Cp (Cc 3))) CG))) (Co (Cp EY))
 have c:=Dk 4 2 F Gw rfl rfl b
 exact c
theorem LG:Cw ["columns","words"] ["columns","words"] (Cn Fx):=⟨rfl,rfl,rfl,by decide +kernel,rfl,by decide +kernel,by decide +kernel⟩
theorem LI {f:Addr}{fd:FuncData}(F:Fun K "are_within" "are_within" Fx f fd)(T:Tx K mg) :DS P w K mg base CX0 1 f fd ["columns","words"] (spF ⟨K,P,w⟩ Dp 2):=by
 have b:BO P w K mg base 0 "are_within" Fx f ["columns","words"] He:=λcdv A outer s H E hr=>by
  exact Co (Cp (CF (FD rfl) T.b_all boot_all (Ca (FU ["word"] [(0,"columns")] (by exact Hg (Cn Fx) rfl rfl ⟨rfl,by decide +kernel,by decide +kernel,by decide +kernel⟩ ⟨⟨rfl,.inl rfl,.inl rfl⟩,True.intro⟩) (Dv (Cc 1)) CN (λ_ _ _ _ _=>Cr 0 (show (["word","columns"]:List Str).Nodup by decide +kernel)) (λ_ _ _ _ _=>DY) (λ_ _ _ _ _=>GS (Jr hr.units) (Cc 0) (Cc 1))) Ce)))
 have c:=Dk 2 2 F LG rfl rfl b
 exact c
theorem PD:Cw ["thing"] ["thing"] (Cn IF):=⟨rfl,rfl,rfl,by decide +kernel,rfl,by decide +kernel,by decide +kernel⟩
theorem PH {f:Addr}{fd:FuncData}(F:Fun K "is_pair" "is_pair" IF f fd)(T:Tx K mg)(DE:Cal P w K mg base 1 "is_tuple" Dl 3)(E9:Cal P w K mg base 1 "is_word" DA 1):DS P w K mg base CX0 2 f fd ["thing"] (spF ⟨K,P,w⟩ Gr 1):=by
 have b:BO P w K mg base 1 "is_pair" IF f ["thing"] JU:=λcdv A outer s H E hr=>by
  have hr_is_tuple:Room 1 _:=hr.mono (by decide)
  have hr_is_word:Room 1 _:=hr.mono (by decide)
  exact Co (Cp (Gu (Cm DE hr_is_tuple (Ca (Cc 0) (Ca Cf (Ca Cf Ce)))) (Gu (Cm E9 hr_is_word (Ca (CB (Di hr.units) (Cc 0) Cf) Ce)) (HV (Cm E9 hr_is_word (Ca (CB (Di hr.units) (Cc 0) Cf) Ce))))))
 have c:=Dk 1 1 F PD rfl rfl b
 exact c
theorem Js:Cw ["columns","thing","named"] ["columns","thing"] (Cn Fb):=⟨rfl,rfl,rfl,by decide +kernel,rfl,by decide +kernel,by decide +kernel⟩
theorem M6 {f:Addr}{fd:FuncData}(F:Fun K "are_pairs" "are_pairs" Fb f fd)(T:Tx K mg)(DE:Cal P w K mg base 1 "is_tuple" Dl 3)(Q9:Cal P w K mg base 2 "is_pair" Gr 1)(Fo:Cal P w K mg base 1 "are_unlike" Dg 1)(Fm:Cal P w K mg base 1 "are_within" Dp 2):DS P w K mg base CX0 3 f fd ["columns","thing"] (spF ⟨K,P,w⟩ FY 2):=by
 have b:BO P w K mg base 2 "are_pairs" Fb f ["columns","thing","named"] Ia:=λcdv A outer s H E hr=>by
  have hr_is_tuple:Room 1 _:=hr.mono (by decide)
  have hr_is_pair:Room 2 _:=hr.mono (by decide)
  have hr_are_unlike:Room 1 _:=hr.mono (by decide)
  have hr_are_within:Room 1 _:=hr.mono (by decide)
  exact Cj (CQ (SVW.t (Hm (Gd (Eo (Cm DE hr_is_tuple (Ca (Cc 1) (Ca Cf (Ca (CF Dt T.b_len boot_len (Ca (Cc 0) Ce)) Ce)))))) (GQ (Gd (Eo (CF (FD rfl) T.b_all boot_all (Ca (FU ["pair"] [] (by exact Hg (Cn Fb) rfl rfl ⟨rfl,by decide +kernel,by decide +kernel,by decide +kernel⟩ True.intro) (Dv (Cc 1)) CN (λ_ _ _ _ _=>Cr 0 (show (["pair"]:List Str).Nodup by decide +kernel)) (λ_ _ _ _ _=>DY) (λ_ _ _ _ _=>Cm Q9 hr_is_pair (Ca (Cc 0) Ce))) Ce))))))) (Co (Cp GA)) CG) (Cj (JZ 2 ["pair"] [] (by exact Hg (Cn Fb) rfl rfl ⟨rfl,by decide +kernel,by decide +kernel,by decide +kernel⟩ True.intro) (Dv (Cc 1)) CN (λ_ _ _ _ _=>Cr 0 (show (["pair"]:List Str).Nodup by decide +kernel)) (λ_ _ _ _ _=>DY) (λ_ _ _ _ _=>CB (Di hr.units) (Cc 0) Cf) Js.nd) (Co (Cp (Gu (Cm Fo hr_are_unlike (Ca (Cc 2) Ce)) (HV (Cm Fm hr_are_within (Ca (Cc 0) (Ca (Cc 2) Ce))))))))
 have c:=Dk 3 2 F Js rfl rfl b
 exact c
theorem GH:Cw ["columns","pairs","names"] ["columns","pairs"] (Cn Eb):=⟨rfl,rfl,rfl,by decide +kernel,rfl,by decide +kernel,by decide +kernel⟩
theorem Jx {f:Addr}{fd:FuncData}(F:Fun K "called_columns" "called_columns" Eb f fd)(T:Tx K mg) :DS P w K mg base CX0 1 f fd ["columns","pairs"] (spF ⟨K,P,w⟩ Dy 2):=by
 have b:BO P w K mg base 0 "called_columns" Eb f ["columns","pairs","names"] FL:=λcdv A outer s H E hr=>by
  exact Cj (Cy 2 GH.nd (CU (Mz hr.units rfl) T.b_dict (by decide +kernel) (Ca (Cc 1) Ce))) (Co (Cp (CU DV T.b_tuple BL (Ca (FU ["column"] [(2,"names")] (by exact Hg (Cn Eb) rfl rfl ⟨rfl,by decide +kernel,by decide +kernel,by decide +kernel⟩ ⟨⟨rfl,.inl rfl,.inl rfl⟩,True.intro⟩) (Dv (Cc 0)) CN (λ_ _ _ _ _=>Cr 0 (show (["column","names"]:List Str).Nodup by decide +kernel)) (λ_ _ _ _ _=>DY) (λ_ _ _ _ _=>P7 hr.units (Cc 1) (Ca (Cc 0) (Ca (Cc 0) Ce)))) Ce))))
 have c:=Dk 3 2 F GH rfl rfl b
 exact c
theorem Hi:Cw ["columns","thing","word","column","other"] ["columns","thing"] (Cn Hb):=⟨rfl,rfl,rfl,by decide +kernel,rfl,by decide +kernel,by decide +kernel⟩
theorem Pm {f:Addr}{fd:FuncData}(F:Fun K "is_test" "is_test" Hb f fd)(T:Tx K mg)(DE:Cal P w K mg base 1 "is_tuple" Dl 3)(E9:Cal P w K mg base 1 "is_word" DA 1)(Fm:Cal P w K mg base 1 "are_within" Dp 2):DS P w K mg base CX0 2 f fd ["columns","thing"] (spF ⟨K,P,w⟩ Gq 2):=by
 have b:BO P w K mg base 1 "is_test" Hb f ["columns","thing","word","column","other"] Kb:=λcdv A outer s H E hr=>by
  have hr_is_tuple:Room 1 _:=hr.mono (by decide)
  have hr_is_word:Room 1 _:=hr.mono (by decide)
  have hr_are_within:Room 1 _:=hr.mono (by decide)
  exact Cj (CQ (SVW.t (Hm (Gd (Eo (Cm DE hr_is_tuple (Ca (Cc 1) (Ca Cf (Ca Cf Ce)))))) (GQ (Gd (Eo (CF (FD rfl) T.b_all boot_all (Ca (FU ["part"] [] (by exact Hg (Cn Hb) rfl rfl ⟨rfl,by decide +kernel,by decide +kernel,by decide +kernel⟩ True.intro) (Dv (Cc 1)) CN (λ_ _ _ _ _=>Cr 0 (show (["part"]:List Str).Nodup by decide +kernel)) (λ_ _ _ _ _=>DY) (λ_ _ _ _ _=>Cm E9 hr_is_word (Ca (Cc 0) Ce))) Ce))))))) (Co (Cp GA)) CG) (Cj (Hk (Cc 1) (Gj rfl (CS (Cr 2 Hi.nd) (CS (Cr 3 Hi.nd) (CS (Cr 4 Hi.nd) Fp))))) (Cj (CQ (Cu (Jr hr.units) (Cc 2) (CW (Ca Cz (Ca Cz Ce)))) (Co (Cp (GS (Jr hr.units) (Cc 3) (Cc 0)))) CG) (Co (Cp (Gu (GS (Jr hr.units) (Cc 2) (CW (Ca Cz (Ca Cz Ce)))) (HV (Cm Fm hr_are_within (Ca (Cc 0) (Ca (CW (Ca (Cc 3) (Ca (Cc 4) Ce))) Ce)))))))))
 have c:=Dk 5 2 F Hi rfl rfl b
 exact c
theorem Ny:Cw ["columns","thing"] ["columns","thing"] (Cn F0):=⟨rfl,rfl,rfl,by decide +kernel,rfl,by decide +kernel,by decide +kernel⟩
theorem Ng {f:Addr}{fd:FuncData}(F:Fun K "are_tests" "are_tests" F0 f fd)(T:Tx K mg)(DE:Cal P w K mg base 1 "is_tuple" Dl 3)(RP:Cal P w K mg base 2 "is_test" Gq 2):DS P w K mg base CX0 3 f fd ["columns","thing"] (spF ⟨K,P,w⟩ F1 2):=by
 have b:BO P w K mg base 2 "are_tests" F0 f ["columns","thing"] HZ:=λcdv A outer s H E hr=>by
  have hr_is_tuple:Room 1 _:=hr.mono (by decide)
  have hr_is_test:Room 2 _:=hr.mono (by decide)
  exact Co (Cp (Gu (Cm DE hr_is_tuple (Ca (Cc 1) (Ca Cf (Ca (MZ T.g_MOST_TESTS) Ce)))) (HV (CF (FD rfl) T.b_all boot_all (Ca (FU ["test"] [(0,"columns")] (by exact Hg (Cn F0) rfl rfl ⟨rfl,by decide +kernel,by decide +kernel,by decide +kernel⟩ ⟨⟨rfl,.inl rfl,.inl rfl⟩,True.intro⟩) (Dv (Cc 1)) CN (λ_ _ _ _ _=>Cr 0 (show (["test","columns"]:List Str).Nodup by decide +kernel)) (λ_ _ _ _ _=>DY) (λ_ _ _ _ _=>Cm RP hr_is_test (Ca (Cc 1) (Ca (Cc 0) Ce)))) Ce)))))
 have c:=Dk 2 2 F Ny rfl rfl b
 exact c
theorem FZ:Cw ["columns","word","part","behind"] ["columns","word","part"] (Cn D7):=⟨rfl,rfl,rfl,by decide +kernel,rfl,by decide +kernel,by decide +kernel⟩
theorem HW {f:Addr}{fd:FuncData}(F:Fun K "columns_if_single" "columns_if_single" D7 f fd)(T:Tx K mg)(NP:Cal P w K mg base 3 "are_tests" F1 2)(NV:Cal P w K mg base 3 "are_words" Eu 3)(Fm:Cal P w K mg base 1 "are_within" Dp 2)(OI:Cal P w K mg base 3 "are_pairs" FY 2)(EE:Cal P w K mg base 1 "called_columns" Dy 2)(Fo:Cal P w K mg base 1 "are_unlike" Dg 1):DS P w K mg base CX0 4 f fd ["columns","word","part"] (spF ⟨K,P,w⟩ DG 3):=by
 have b:BO P w K mg base 3 "columns_if_single" D7 f ["columns","word","part","behind"] EL:=λcdv A outer s H E hr=>by
  have hr_are_tests:Room 3 _:=hr.mono (by decide)
  have hr_are_words:Room 3 _:=hr.mono (by decide)
  have hr_are_within:Room 1 _:=hr.mono (by decide)
  have hr_are_pairs:Room 3 _:=hr.mono (by decide)
  have hr_called_columns:Room 1 _:=hr.mono (by decide)
  have hr_are_unlike:Room 1 _:=hr.mono (by decide)
  exact Cj (CQ (Cu (Dx hr.units) (Cc 1) Cz) (Co (Cp (Ea (Eo (Cm NP hr_are_tests (Ca (Cc 0) (Ca (Cc 2) Ce)))) (Cc 0) EY))) CG) (Cj (CQ (Cu (Dx hr.units) (Cc 1) Cz) (Co (Cp (Ea (SVW.t (Qm (Eo (Cm NV hr_are_words (Ca (Cc 2) (Ca Cf (Ca (CF Dt T.b_len boot_len (Ca (Cc 0) Ce)) Ce))))) (NG (Eo (Cm Fm hr_are_within (Ca (Cc 0) (Ca (Cc 2) Ce))))))) (Cc 2) EY))) CG) (Cj (CQ (SVW.t (Qm (Cu (Dx hr.units) (Cc 1) Cz) (NG (Eo (Cm OI hr_are_pairs (Ca (Cc 0) (Ca (Cc 2) Ce))))))) (Cj (Cy 3 FZ.nd (Cm EE hr_called_columns (Ca (Cc 0) (Ca (Cc 2) Ce)))) (Co (Cp (Ea (Eo (Cm Fo hr_are_unlike (Ca (Cc 3) Ce))) (Cc 3) EY)))) CG) (Co (Cp EY))))
 have c:=Dk 4 3 F FZ rfl rfl b
 exact c
theorem JG:Cw ["one","other"] ["one","other"] (Cn Ed):=⟨rfl,rfl,rfl,by decide +kernel,rfl,by decide +kernel,by decide +kernel⟩
theorem JE {f:Addr}{fd:FuncData}(F:Fun K "joined_columns" "joined_columns" Ed f fd)(T:Tx K mg) :DS P w K mg base CX0 1 f fd ["one","other"] (spF ⟨K,P,w⟩ Dm 2):=by
 have b:BO P w K mg base 0 "joined_columns" Ed f ["one","other"] FF:=λcdv A outer s H E hr=>by
  exact Co (Cp (Ct CM (Cc 0) (CU DV T.b_tuple BL (Ca (FU ["column"] [(0,"one")] (by exact Hg (Cn Ed) rfl rfl ⟨rfl,by decide +kernel,by decide +kernel,by decide +kernel⟩ ⟨⟨rfl,.inl rfl,.inl rfl⟩,True.intro⟩) (Dv (Cc 1)) CN (λ_ _ _ _ _=>Cr 0 (show (["column","one"]:List Str).Nodup by decide +kernel)) (λ_ _ _ _ _=>KO (Cu (Ky hr.units) (Cc 0) (Cc 1))) (λ_ _ _ _ _=>Cc 0)) Ce))))
 have c:=Dk 2 2 F JG rfl rfl b
 exact c
theorem Ig:Cw ["one","word","other"] ["one","word","other"] (Cn D5):=⟨rfl,rfl,rfl,by decide +kernel,rfl,by decide +kernel,by decide +kernel⟩
theorem Ir {f:Addr}{fd:FuncData}(F:Fun K "columns_if_paired" "columns_if_paired" D5 f fd)(T:Tx K mg)(DN:Cal P w K mg base 1 "joined_columns" Dm 2):DS P w K mg base CX0 2 f fd ["one","word","other"] (spF ⟨K,P,w⟩ DH 3):=by
 have b:BO P w K mg base 1 "columns_if_paired" D5 f ["one","word","other"] EN:=λcdv A outer s H E hr=>by
  have hr_joined_columns:Room 1 _:=hr.mono (by decide)
  exact Cj (CQ (Cu (Dx hr.units) (Cc 1) Cz) (Co (Cp (Cm DN hr_joined_columns (Ca (Cc 0) (Ca (Cc 2) Ce))))) CG) (Co (Cp (Ea (Cu (Dx hr.units) (Cc 0) (Cc 2)) (Cc 0) EY)))
 have c:=Dk 3 3 F Ig rfl rfl b
 exact c
theorem Oe:Cw ["known","thing"] ["known","thing"] (Cn HF):=⟨rfl,rfl,rfl,by decide +kernel,rfl,by decide +kernel,by decide +kernel⟩
theorem Ov {f:Addr}{fd:FuncData}(F:Fun K "is_named" "is_named" HF f fd)(T:Tx K mg)(E9:Cal P w K mg base 1 "is_word" DA 1):DS P w K mg base CX0 2 f fd ["known","thing"] (spF ⟨K,P,w⟩ E5 2):=by
 have b:BO P w K mg base 1 "is_named" HF f ["known","thing"] Hh:=λcdv A outer s H E hr=>by
  have hr_is_word:Room 1 _:=hr.mono (by decide)
  exact Co (Cp (Gu (GS (Dx hr.units) (CF Dt T.b_len boot_len (Ca (Cc 1) Ce)) Cf) (Gu (Cm E9 hr_is_word (Ca (CB (Di hr.units) (Cc 1) Cf) Ce)) (HV (GS (Jr hr.units) (CB (Di hr.units) (Cc 1) Cf) (Cc 0))))))
 have c:=Dk 2 2 F Oe rfl rfl b
 exact c
theorem EX:Cw ["known","thing","depth","one","other"] ["known","thing","depth"] (Cn Er):=⟨rfl,rfl,rfl,by decide +kernel,rfl,by decide +kernel,by decide +kernel⟩
theorem Gs {f:Addr}{fd:FuncData}(F:Fun K "columns_if_look" "columns_if_look" Er f fd)(hm:mg "columns_if_look"=some (.ref f))(hb:Binds K fd ["known","thing","depth"] [])(T:Tx K mg)(DE:Cal P w K mg base 1 "is_tuple" Dl 3)(Lg:Cal P w K mg base 2 "is_named" E5 2)(F7:Cal P w K mg base 4 "columns_if_single" DG 3)(F6:Cal P w K mg base 2 "columns_if_paired" DH 3):∀ n,DS P w K mg base CX0 (n+5) f fd ["known","thing","depth"] (spF ⟨K,P,w⟩ (CK n) 3)
 | 0=>⟨λvs H Q E h=>by obtain ⟨th,mu,ds,_,r,hl,_⟩:=h;rw [r.len];exact hl,λA outer s H args us vs Q E hr he hb hv h=>by obtain ⟨th,mu,ds,_,r,hl,t⟩:=h;exact t.no.elim⟩
 | n+1=>by
  have Ep:Cal P w K mg base (n+5) "columns_if_look" (CK n) 3:=CL F hm (Gs F hm hb T DE Lg F7 F6 n) hb
  have b:BO P w K mg base (n+5) "columns_if_look" Er f ["known","thing","depth","one","other"] (Eh (CK n)):=λcdv A outer s H E hr=>by
   have hr_is_tuple:Room 1 _:=hr.mono (by omega)
   have hr_is_named:Room 2 _:=hr.mono (by omega)
   have hr_columns_if_single:Room 4 _:=hr.mono (by omega)
   have hr_columns_if_paired:Room 2 _:=hr.mono (by omega)
   have hr_columns_if_look:Room (n+5) _:=hr
   exact Cj (CQ (SVW.t (Hm (Cu (Dx hr.units) (Cc 2) Cf) (Hm (Gd (Eo (Cm DE hr_is_tuple (Ca (Cc 1) (Ca Cf (Ca Cf Ce)))))) (GQ (Gd (Eo (MS "str" (CB (Di hr.units) (Cc 1) Cf) T.b_isinstance T.b_str boot_str))))))) (Co (Cp EY)) CG) (Cj (CQ (Cu (Dx hr.units) (CB (Di hr.units) (Cc 1) Cf) Cz) (Co (Cp (Ea (Eo (Cm Lg hr_is_named (Ca (Cc 0) (Ca (Cc 1) Ce)))) (CB (Di hr.units) (Cc 0) (CB (Di hr.units) (Cc 1) Cf)) EY))) CG) (Cj (Cy 3 EX.nd (Ea (Cu (Dx hr.units) (CF Dt T.b_len boot_len (Ca (Cc 1) Ce)) Cf) (Cm Ep hr_columns_if_look (Ca (Cc 0) (Ca (CB (Di hr.units) (Cc 1) Cf) (Ca (Ct Iv (Cc 2) Cf) Ce)))) EY)) (Cj (CQ (Cu MU (Cc 3) EY) (Co (Cp EY)) CG) (Cj (CQ (Cu (Ky hr.units) (CB (Di hr.units) (Cc 1) Cf) (Vr T.g_PAIRED)) (Co (Cp (Cm F7 hr_columns_if_single (Ca (Cc 3) (Ca (CB (Di hr.units) (Cc 1) Cf) (Ca (CB (Di hr.units) (Cc 1) Cf) Ce)))))) CG) (Cj (Cy 4 EX.nd (Cm Ep hr_columns_if_look (Ca (Cc 0) (Ca (CB (Di hr.units) (Cc 1) Cf) (Ca (Ct Iv (Cc 2) Cf) Ce))))) (Co (Cp (Ea (Cu MU (Cc 4) EY) EY (Cm F6 hr_columns_if_paired (Ca (Cc 3) (Ca (CB (Di hr.units) (Cc 1) Cf) (Ca (Cc 4) Ce))))))))))))
  have c:=Dk 5 3 F EX rfl rfl b
  exact c
theorem Jk:Cw ["schema"] ["schema"] (Cn D0):=⟨rfl,rfl,rfl,by decide +kernel,rfl,by decide +kernel,by decide +kernel⟩
theorem Jl {f:Addr}{fd:FuncData}(F:Fun K "columns_by_name" "columns_by_name" D0 f fd)(T:Tx K mg) :DS P w K mg base CX0 1 f fd ["schema"] (spF ⟨K,P,w⟩ Dr 1):=by
 have b:BO P w K mg base 0 "columns_by_name" D0 f ["schema"] Fv:=λcdv A outer s H E hr=>by
  exact Co (Cp (Ab0 ["table"] [] (Z5 hr.units ZO ["table"] [] (by exact Hg (Cn D0) rfl rfl ⟨rfl,by decide +kernel,by decide +kernel,by decide +kernel⟩ True.intro) (Dv (Cc 0)) T4 (λ_ _ _ _ _=>Cr 0 (show (["table"]:List Str).Nodup by decide +kernel)) (λ_ _ _ _ _=>DY) (λ_ _ _ _ _=>CB (Di hr.units) (Cc 0) Cf) (λ_ _ _ _ _=>CU DV T.b_tuple BL (Ca (FU ["column"] [] (by exact Wx rfl rfl (by decide +kernel) (by decide +kernel) (by decide +kernel) (by decide +kernel)) (Dv (CB (Di hr.units) (Cc 0) Cf)) CN (λ_ _ _ _ _=>Cr 0 (show (["column"]:List Str).Nodup by decide +kernel)) (λ_ _ _ _ _=>DY) (λ_ _ _ _ _=>CB (Di hr.units) (Cc 0) Cf)) Ce))) rfl))
 have c:=Dk 1 1 F Jk rfl rfl b
 exact c
theorem Pb:Cw ["schema","thing"] ["schema","thing"] (Cn IC):=⟨rfl,rfl,rfl,by decide +kernel,rfl,by decide +kernel,by decide +kernel⟩
theorem O8 {f:Addr}{fd:FuncData}(F:Fun K "is_look" "is_look" IC f fd)(T:Tx K mg)(Ep:Cal P w K mg base 15 "columns_if_look" (CK 10) 3)(Fj:Cal P w K mg base 1 "columns_by_name" Dr 1):DS P w K mg base CX0 16 f fd ["schema","thing"] (spF ⟨K,P,w⟩ CV 2):=by
 have b:BO P w K mg base 15 "is_look" IC f ["schema","thing"] JV:=λcdv A outer s H E hr=>by
  have hr_columns_if_look:Room 15 _:=hr.mono (by decide)
  have hr_columns_by_name:Room 1 _:=hr.mono (by decide)
  exact Co (Cp (GS IJ (Cm Ep hr_columns_if_look (Ca (Cm Fj hr_columns_by_name (Ca (Cc 0) Ce)) (Ca (Cc 1) (Ca (MZ T.g_DEEPEST) Ce)))) EY))
 have c:=Dk 2 2 F Pb rfl rfl b
 exact c
theorem E6:Cw ["known","seen","look","found"] ["known","seen","look"] (Cn Dq):=⟨rfl,rfl,rfl,by decide +kernel,rfl,by decide +kernel,by decide +kernel⟩
theorem Ji {f:Addr}{fd:FuncData}(F:Fun K "columns_of_join" "columns_of_join" Dq f fd)(T:Tx K mg)(FR:Cal P w K mg base 1 "found_again" DC 2)(DN:Cal P w K mg base 1 "joined_columns" Dm 2){n k:Nat}(hk:1≤k)(Ef:Cal P w K mg base k "columns_by" (Df n) 3):DS P w K mg base CX0 (k+1) f fd ["known","seen","look"] (spF ⟨K,P,w⟩ (Fu n) 3):=by
 have b:∀ (cdv:Value) (A:Around) (outer:List Env) (s:Shared) (H:Hp) (E:XK),Room k (A.deeper (envOfC "columns_of_join" (Cn Dq) s.heap.objs.size f cdv)) ->
   SVB (Lr CX0 P w K mg base ["known","seen","look","found"] "columns_of_join" (Cn Dq) f cdv A outer s H E).nox (EG Dq) (DP (Df n)):=λcdv A outer s H E hr=>by
  have hr_found_again:Room 1 _:=hr.mono (by omega)
  have hr_joined_columns:Room 1 _:=hr.mono (by omega)
  have hr_columns_by:Room k _:=hr
  exact Cj (Cy 3 E6.nd (Cm FR hr_found_again (Ca (Cc 1) (Ca (Cc 2) Ce)))) (Cj (CQ (Cu MU (Cc 3) EY) (Cj (Cy 3 E6.nd (Cm DN hr_joined_columns (Ca (Cm Ef hr_columns_by (Ca (Cc 0) (Ca (Cc 1) (Ca (CB (Di hr.units) (Cc 2) Cf) Ce)))) (Ca (Cm Ef hr_columns_by (Ca (Cc 0) (Ca (Cc 1) (Ca (CB (Di hr.units) (Cc 2) Cf) Ce)))) Ce)))) (Co (Iq (IK (Cc 1) (Ca (CW (Ca (Cc 2) (Ca (Cc 3) Ce))) Ce))))) CG) (Co (Cp (Cc 3))))
 have c:=Dk 4 3 F E6 rfl rfl b
 exact c
theorem GR:Cw ["known","seen","look","word","one"] ["known","seen","look"] (Cn F9):=⟨rfl,rfl,rfl,by decide +kernel,rfl,by decide +kernel,by decide +kernel⟩
theorem IS {f:Addr}{fd:FuncData}(F:Fun K "columns_by" "columns_by" F9 f fd)(hm:mg "columns_by"=some (.ref f))(hb:Binds K fd ["known","seen","look"] []){f':Addr}{fd':FuncData}(F':Fun K "columns_of_join" "columns_of_join" Dq f' fd')(hm':mg "columns_of_join"=some (.ref f'))(hb':Binds K fd' ["known","seen","look"] [])(T:Tx K mg)(EE:Cal P w K mg base 1 "called_columns" Dy 2)(FR:Cal P w K mg base 1 "found_again" DC 2)(DN:Cal P w K mg base 1 "joined_columns" Dm 2):∀ n,DS P w K mg base CX0 (2*n+2) f fd ["known","seen","look"] (spF ⟨K,P,w⟩ (Df n) 3)
 | 0=>⟨λvs H Q E h=>by obtain ⟨th,mu,ds,_,r,hl,_⟩:=h;rw [r.len];exact hl,λA outer s H args us vs Q E hr he hb hv h=>by obtain ⟨th,mu,ds,_,r,hl,t⟩:=h;exact t.no.elim⟩
 | n+1=>by
  have Ef:Cal P w K mg base (2*n+2) "columns_by" (Df n) 3:=CL F hm (IS F hm hb F' hm' hb' T EE FR DN n) hb
  have Ju:Cal P w K mg base (2*n+2+1) "columns_of_join" (Fu n) 3:=CL F' hm' (Ji F' T FR DN (by omega) Ef) hb'
  have b:BO P w K mg base (2*n+2+1) "columns_by" F9 f ["known","seen","look","word","one"] (DJ (Df n) (Fu n)):=λcdv A outer s H E hr=>by
   have hr_called_columns:Room 1 _:=hr.mono (by omega)
   have hr_columns_by:Room (2*n+2) _:=hr.mono (by omega)
   have hr_columns_of_join:Room (2*n+2+1) _:=hr
   exact Cj (Cy 3 GR.nd (CB (Di hr.units) (Cc 2) Cf)) (Cj (CQ (Cu (Dx hr.units) (Cc 3) Cz) (Co (Cp (CB (Di hr.units) (Cc 0) (CB (Di hr.units) (Cc 2) Cf)))) CG) (Cj (CQ (Cu (Dx hr.units) (Cc 3) Cz) (Co (Cp (CB (Di hr.units) (Cc 2) Cf))) CG) (Cj (CQ (Cu (Dx hr.units) (Cc 3) Cz) (Co (Cp (Cm Ju hr_columns_of_join (Ca (Cc 0) (Ca (Cc 1) (Ca (Cc 2) Ce)))))) CG) (Cj (Cy 4 GR.nd (Cm Ef hr_columns_by (Ca (Cc 0) (Ca (Cc 1) (Ca (CB (Di hr.units) (Cc 2) Cf) Ce))))) (Co (Cp (Ea (Cu (Dx hr.units) (Cc 3) Cz) (Cm EE hr_called_columns (Ca (Cc 4) (Ca (CB (Di hr.units) (Cc 2) Cf) Ce))) (Cc 4))))))))
  have c:=Dk 5 3 F GR rfl rfl b
  exact c
theorem LQ:Cw ["schema","look"] ["schema","look"] (Cn Gf):=⟨rfl,rfl,rfl,by decide +kernel,rfl,by decide +kernel,by decide +kernel⟩
theorem LM {f:Addr}{fd:FuncData}(F:Fun K "columns_of" "columns_of" Gf f fd)(T:Tx K mg)(Ef:Cal P w K mg base 22 "columns_by" (Df 10) 3)(Fj:Cal P w K mg base 1 "columns_by_name" Dr 1):DS P w K mg base CX0 23 f fd ["schema","look"] (spF ⟨K,P,w⟩ DZ 2):=by
 have b:BO P w K mg base 22 "columns_of" Gf f ["schema","look"] Hy:=λcdv A outer s H E hr=>by
  have hr_columns_by:Room 22 _:=hr.mono (by decide)
  have hr_columns_by_name:Room 1 _:=hr.mono (by decide)
  exact Co (Cp (Cm Ef hr_columns_by (Ca (Cm Fj hr_columns_by_name (Ca (Cc 0) Ce)) (Ca (IG Ce) (Ca (Cc 1) Ce)))))
 have c:=Py 2 2 F LQ rfl rfl b
 exact c
theorem HX:Cw ["_law_script","_law_k","_law_cell"] ["_law_script","_law_k"] (Cn Hj):=⟨rfl,rfl,rfl,by decide +kernel,rfl,by decide +kernel,by decide +kernel⟩
theorem N5 {f:Addr}{fd:FuncData}(F:Fun K "_law_hand" "_law_hand" Hj f fd)(T:Tx K mg) :DS P w K mg base CX0 1 f fd ["_law_script","_law_k"] (spF ⟨K,P,w⟩ E1 2):=by
 have b:BO P w K mg base 0 "_law_hand" Hj f ["_law_script","_law_k","_law_cell"] Hu:=λcdv A outer s H E hr=>by
  exact Cj (Cy 2 HX.nd Cf) (Cj (CQ (Cu (Nw hr.units) (Cc 1) (CF Dt T.b_len boot_len (Ca (Cc 0) Ce))) (Co (Cy 2 HX.nd (CB (Di hr.units) (Cc 0) (Cc 1)))) CG) (Co (Cp (IG (Ca (Ct EF (Cc 2) (CU Rh T.b_int boot_int (Ca (GS YX (Cc 2) (Ct UT Cf Cf)) Ce))) (Ca (Ct CM (Ct CM (Ct FT (Cc 2) Cf) (Ct EF Cf (Cc 1))) Cf) (Ca Cf Ce)))))))
 have c:=Dk 3 2 F HX rfl rfl b
 exact c
theorem E8:Cw ["_law_hand_here","_law_many","_law_digit","_law_turn","_law_mixed","_law_other"] ["_law_hand_here","_law_many"] (Cn Ht):=⟨rfl,rfl,rfl,by decide +kernel,rfl,by decide +kernel,by decide +kernel⟩
theorem Ow {f:Addr}{fd:FuncData}(F:Fun K "_law_take" "_law_take" Ht f fd)(T:Tx K mg) :DS P w K mg base CX0 1 f fd ["_law_hand_here","_law_many"] (spF ⟨K,P,w⟩ Cs 2):=by
 have b:BO P w K mg base 0 "_law_take" Ht f ["_law_hand_here","_law_many","_law_digit","_law_turn","_law_mixed","_law_other"] HB:=λcdv A outer s H E hr=>by
  exact Cj (CQ (Cu Te (CB (Di hr.units) (Cc 0) Cf) Cf) (Cj (Cy 2 E8.nd (Ct FT (CB (Di hr.units) (Cc 0) Cf) (Cc 1))) (Cj (Hk (Ct Lf (CB (Di hr.units) (Cc 0) Cf) (Cc 1)) (Um hr.units (Cc 0) Cf)) (Co (Cp (Cc 2))))) CG) (Cj (Hk (Ct CM (CB (Di hr.units) (Cc 0) Cf) Cf) (Um hr.units (Cc 0) Cf)) (Cj (Cy 3 E8.nd (CB (Di hr.units) (Cc 0) Cf)) (Cj (Cy 4 E8.nd (Ct FT (Ct EF (CB (Di hr.units) (Cc 0) Cf) (Ct CM (Ct CM Cf (Ct EF (Ct EF Cf (Cc 3)) (Cc 3))) (Ct EF Cf (Cc 3)))) Cf)) (Cj (Cy 5 E8.nd (Ct CM (Ct CM (Ct FT (Cc 4) Cf) (Ct EF (Cc 3) Cf)) Cf)) (Cj (Cy 4 E8.nd (Ct FT (Ct EF (Cc 4) (Cc 5)) Cf)) (Co (Cp (Ct FT (Ct CM (Ct Lf (Cc 4) Cf) (Ct Lf (Cc 4) Cf)) (Cc 1)))))))))
 have c:=Dk 6 2 F E8 rfl rfl b
 exact c
theorem Oa:Cw ["_law_hand_here","_law_some"] ["_law_hand_here","_law_some"] (Cn Hq):=⟨rfl,rfl,rfl,by decide +kernel,rfl,by decide +kernel,by decide +kernel⟩
theorem OK {f:Addr}{fd:FuncData}(F:Fun K "_law_pick" "_law_pick" Hq f fd)(T:Tx K mg)(CI:Cal P w K mg base 1 "_law_take" Cs 2):DS P w K mg base CX0 2 f fd ["_law_hand_here","_law_some"] (spF ⟨K,P,w⟩ CO 2):=by
 have b:BO P w K mg base 1 "_law_pick" Hq f ["_law_hand_here","_law_some"] Hz:=λcdv A outer s H E hr=>by
  have hr_law_take:Room 1 _:=hr.mono (by decide)
  exact Co (Cp (CB (Di hr.units) (Cc 1) (Cm CI hr_law_take (Ca (Cc 0) (Ca (CF Dt T.b_len boot_len (Ca (Cc 1) Ce)) Ce)))))
 have c:=Dk 2 2 F Oa rfl rfl b
 exact c
theorem EH:Cw ["_law_hand_here","_law_many","_law_most","_law_signs","_law_first","_law_step","_law_stem","_law_at"] ["_law_hand_here","_law_many","_law_most"] (Cn FW):=⟨rfl,rfl,rfl,by decide +kernel,rfl,by decide +kernel,by decide +kernel⟩
theorem NB {f:Addr}{fd:FuncData}(F:Fun K "_law_words" "_law_words" FW f fd)(T:Tx K mg)(CI:Cal P w K mg base 1 "_law_take" Cs 2)(D1:Cal P w K mg base 2 "_law_pick" CO 2):DS P w K mg base CX0 3 f fd ["_law_hand_here","_law_many","_law_most"] (spF ⟨K,P,w⟩ EA 3):=by
 have b:BO P w K mg base 2 "_law_words" FW f ["_law_hand_here","_law_many","_law_most","_law_signs","_law_first","_law_step","_law_stem","_law_at"] HY:=λcdv A outer s H E hr=>by
  have hr_law_take:Room 1 _:=hr.mono (by decide)
  have hr_law_pick:Room 2 _:=hr.mono (by decide)
  exact Cj (Cy 3 EH.nd Cz) (Cj (Hk (CW (Ca (Cm CI hr_law_take (Ca (Cc 0) (Ca Cf Ce))) (Ca (Cm D1 hr_law_pick (Ca (Cc 0) (Ca (JO (Ca Cf (Ca Cf (Ca Cf (Ca Cf (Ca Cf (Ca Cf Ce))))))) Ce))) Ce))) (Gj rfl (CS (Cr 4 EH.nd) (CS (Cr 5 EH.nd) Fp)))) (Cj (Cy 6 EH.nd (Ct EF (CB (Di hr.units) (Cc 3) (Cm CI hr_law_take (Ca (Cc 0) (Ca Cf Ce)))) (CF (Ma rfl) T.b_min boot_min (Ca (Ct Iv (Cc 2) Cf) (Ca (Cm D1 hr_law_pick (Ca (Cc 0) (Ca (JO (Ca Cf (Ca Cf (Ca Cf (Ca Cf (Ca Cf Ce)))))) Ce))) Ce))))) (Cj (Cy 7 EH.nd (Cm CI hr_law_take (Ca (Cc 0) (Ca (Ct CM (CF Dt T.b_len boot_len (Ca (Cc 6) Ce)) Cf) Ce)))) (Co (Cp (FU ["_law_k"] [(6,"_law_stem"),(7,"_law_at"),(3,"_law_signs"),(4,"_law_first"),(5,"_law_step")] (by exact Hg (Cn FW) rfl rfl ⟨rfl,by decide +kernel,by decide +kernel,by decide +kernel⟩ ⟨⟨rfl,.inl rfl,.inl rfl⟩,⟨rfl,.inl rfl,.inl rfl⟩,⟨rfl,.inl rfl,.inl rfl⟩,⟨rfl,.inl rfl,.inl rfl⟩,⟨rfl,.inl rfl,.inl rfl⟩,True.intro⟩) (FO T.b_range (Ca (Cc 1) Ce)) CN (λ_ _ _ _ _=>Cr 0 (show (["_law_k","_law_stem","_law_at","_law_signs","_law_first","_law_step"]:List Str).Nodup by decide +kernel)) (λ_ _ _ _ _=>DY) (λ_ _ _ _ _=>Ct CM (Ct CM (EO (Cc 1) ER (EU (Cc 2))) (CB (Di hr.units) (Cc 3) (Ct FT (Ct CM (Cc 4) (Ct EF (Cc 5) (Cc 0))) Cf))) (EO (Cc 1) (EU (Cc 2)) ER))))))))
 have c:=Dk 8 3 F EH rfl rfl b
 exact c
theorem De:Cw ["_law_hand_here","_law_tables","_law_columns_here","_law_values","_law_names","_law_words_here","_law_stock_here","_law_found","_law_name","_law_many","_law_shift","_law_row","_law_k","_law_some","_law_turn","_law_mine"] ["_law_hand_here","_law_tables","_law_columns_here","_law_values"] (Cn Fs):=⟨rfl,rfl,rfl,by decide +kernel,rfl,by decide +kernel,by decide +kernel⟩
theorem LD {f:Addr}{fd:FuncData}(F:Fun K "_law_schema" "_law_schema" Fs f fd)(T:Tx K mg)(HR:Cal P w K mg base 3 "_law_words" EA 3)(CI:Cal P w K mg base 1 "_law_take" Cs 2):DS P w K mg base CX0 4 f fd ["_law_hand_here","_law_tables","_law_columns_here","_law_values"] (spF ⟨K,P,w⟩ Ee 4):=by
 have b:BO P w K mg base 3 "_law_schema" Fs f ["_law_hand_here","_law_tables","_law_columns_here","_law_values","_law_names","_law_words_here","_law_stock_here","_law_found","_law_name","_law_many","_law_shift","_law_row","_law_k","_law_some","_law_turn","_law_mine"] HA:=λcdv A outer s H E hr=>by
  have hr_law_words:Room 3 _:=hr.mono (by decide)
  have hr_law_take:Room 1 _:=hr.mono (by decide)
  exact Cj (Cy 4 De.nd (CF (Mr hr.units rfl) T.b_sorted boot_sorted (Ca (Cm HR hr_law_words (Ca (Cc 0) (Ca (Ct CM Cf (Cm CI hr_law_take (Ca (Cc 0) (Ca (Cc 1) Ce)))) (Ca Cf Ce)))) Ce))) (Cj (Hk (CW (Ca (Cm HR hr_law_words (Ca (Cc 0) (Ca (Ct CM (Cc 2) Cf) (Ca Cf Ce)))) (Ca (Cm HR hr_law_words (Ca (Cc 0) (Ca (Ct CM (Cc 3) Cf) (Ca Cf Ce)))) Ce))) (Gj rfl (CS (Cr 5 De.nd) (CS (Cr 6 De.nd) Fp)))) (Cj (Cy 7 De.nd (IG Ce)) (Cj (GK BX rfl (Dv (Cc 4)) (Cr 8 De.nd) (Cj (Ui 9 10 11 rfl De.nd (Ca (Ct CM Cf (Cm CI hr_law_take (Ca (Cc 0) (Ca (Cc 2) Ce)))) (Ca (Cm CI hr_law_take (Ca (Cc 0) (Ca Cf Ce))) (Ca (IG Ce) Ce))) (by rfl)) (Cj (GK BX rfl (FO T.b_range (Ca (Cc 9) Ce)) (Cr 12 De.nd) (Cj (Hk (CW (Ca (Ct CM Cf (Cm CI hr_law_take (Ca (Cc 0) (Ca (Cc 3) Ce)))) (Ca (Cm CI hr_law_take (Ca (Cc 0) (Ca Cf Ce))) Ce))) (Gj rfl (CS (Cr 13 De.nd) (CS (Cr 14 De.nd) Fp)))) (Cj (Cy 15 De.nd (CU DV T.b_tuple BL (Ca (FU ["_law_j"] [(6,"_law_stock_here"),(14,"_law_turn")] (by exact Hg (Cn Fs) rfl rfl ⟨rfl,by decide +kernel,by decide +kernel,by decide +kernel⟩ ⟨⟨rfl,.inl rfl,.inl rfl⟩,⟨rfl,.inl rfl,.inl rfl⟩,True.intro⟩) (FO T.b_range (Ca (Cc 13) Ce)) CN (λ_ _ _ _ _=>Cr 0 (show (["_law_j","_law_stock_here","_law_turn"]:List Str).Nodup by decide +kernel)) (λ_ _ _ _ _=>DY) (λ_ _ _ _ _=>CB (Di hr.units) (Cc 1) (Ct FT (Ct CM (Cc 0) (Cc 2)) (CF Dt T.b_len boot_len (Ca (Cc 1) Ce))))) Ce))) (Co (Iq (IK (Cc 11) (Ca (CW (Ca (CB (Di hr.units) (Cc 5) (Ct FT (Ct CM (Cc 12) (Cc 10)) (CF Dt T.b_len boot_len (Ca (Cc 5) Ce)))) (Ca (Cc 15) Ce))) Ce))))))) (Co (Iq (IK (Cc 7) (Ca (CW (Ca (Cc 8) (Ca (CU DV T.b_tuple BL (Ca (Cc 11) Ce)) (Ca (Ct CM Cf (Cm CI hr_law_take (Ca (Cc 0) (Ca (Cc 9) Ce)))) Ce)))) Ce))))))) (Co (Cp (CU DV T.b_tuple BL (Ca (Cc 7) Ce)))))))
 have c:=Py 16 4 F De rfl rfl b
 exact c
theorem GC:Cw ["_law_schema_here","_law_look_here","_law_one","_law_words_here"] ["_law_schema_here","_law_look_here"] (Cn D4):=⟨rfl,rfl,rfl,by decide +kernel,rfl,by decide +kernel,by decide +kernel⟩
theorem Ik {f:Addr}{fd:FuncData}(F:Fun K "_law_columns" "_law_columns" D4 f fd)(hm:mg "_law_columns"=some (.ref f))(hb:Binds K fd ["_law_schema_here","_law_look_here"] [])(T:Tx K mg) :∀ n,DS P w K mg base CX0 (n+1) f fd ["_law_schema_here","_law_look_here"] (spF ⟨K,P,w⟩ (CD n) 2)
 | 0=>⟨λvs H Q E h=>by obtain ⟨th,mu,ds,_,r,hl,_⟩:=h;rw [r.len];exact hl,λA outer s H args us vs Q E hr he hb hv h=>by obtain ⟨th,mu,ds,_,r,hl,t⟩:=h;exact t.no.elim⟩
 | n+1=>by
  have DB:Cal P w K mg base (n+1) "_law_columns" (CD n) 2:=CL F hm (Ik F hm hb T  n) hb
  have b:BO P w K mg base (n+1) "_law_columns" D4 f ["_law_schema_here","_law_look_here","_law_one","_law_words_here"] (Fz (CD n)):=λcdv A outer s H E hr=>by
   have hr_law_columns:Room (n+1) _:=hr
   exact Cj (CQ (Cu (Dx hr.units) (CB (Di hr.units) (Cc 1) Cf) Cz) (Co (Cp (CB (Di hr.units) (FU ["_law_table"] [(1,"_law_look_here")] (by exact Hg (Cn D4) rfl rfl ⟨rfl,by decide +kernel,by decide +kernel,by decide +kernel⟩ ⟨⟨rfl,.inl rfl,.inl rfl⟩,True.intro⟩) (Dv (Cc 0)) CN (λ_ _ _ _ _=>Cr 0 (show (["_law_table","_law_look_here"]:List Str).Nodup by decide +kernel)) (λ_ _ _ _ _=>KO (Cu (Dx hr.units) (CB (Di hr.units) (Cc 0) Cf) (CB (Di hr.units) (Cc 1) Cf))) (λ_ _ _ _ _=>CU DV T.b_tuple BL (Ca (FU ["_law_column","_law_values"] [] (by exact Wx rfl rfl (by decide +kernel) (by decide +kernel) (by decide +kernel) (by decide +kernel)) (Dv (CB (Di hr.units) (Cc 0) Cf)) (Tv (KS CN (KS CN RE))) (λ_ _ _ _ _=>Gj rfl (CS (Cr 0 (show (["_law_column","_law_values"]:List Str).Nodup by decide +kernel)) (CS (Cr 1 (show (["_law_column","_law_values"]:List Str).Nodup by decide +kernel)) Fp))) (λ_ _ _ _ _=>DY) (λ_ _ _ _ _=>Cc 0)) Ce))) Cf))) CG) (Cj (Cy 2 GC.nd (Cm DB hr_law_columns (Ca (Cc 0) (Ca (CB (Di hr.units) (Cc 1) Cf) Ce)))) (Cj (CQ (Cu (Dx hr.units) (CB (Di hr.units) (Cc 1) Cf) Cz) (Co (Cp (CB (Di hr.units) (Cc 1) Cf))) CG) (Cj (CQ (Cu (Dx hr.units) (CB (Di hr.units) (Cc 1) Cf) Cz) (Cj (Cy 3 GC.nd (CU (Mz hr.units rfl) T.b_dict (by decide +kernel) (Ca (CU Mc T.b_list boot_list (Ca (CB (Di hr.units) (Cc 1) Cf) Ce)) Ce))) (Co (Cp (CU DV T.b_tuple BL (Ca (FU ["_law_column"] [(3,"_law_words_here")] (by exact Hg (Cn D4) rfl rfl ⟨rfl,by decide +kernel,by decide +kernel,by decide +kernel⟩ ⟨⟨rfl,.inl rfl,.inl rfl⟩,True.intro⟩) (Dv (Cc 2)) CN (λ_ _ _ _ _=>Cr 0 (show (["_law_column","_law_words_here"]:List Str).Nodup by decide +kernel)) (λ_ _ _ _ _=>DY) (λ_ _ _ _ _=>P7 hr.units (Cc 1) (Ca (Cc 0) (Ca (Cc 0) Ce)))) Ce))))) CG) (Cj (CQ (Cu (Dx hr.units) (CB (Di hr.units) (Cc 1) Cf) Cz) (Co (Cp (Ct CM (Cc 2) (CU DV T.b_tuple BL (Ca (FU ["_law_column"] [(2,"_law_one")] (by exact Hg (Cn D4) rfl rfl ⟨rfl,by decide +kernel,by decide +kernel,by decide +kernel⟩ ⟨⟨rfl,.inl rfl,.inl rfl⟩,True.intro⟩) (Dv (Cm DB hr_law_columns (Ca (Cc 0) (Ca (CB (Di hr.units) (Cc 1) Cf) Ce)))) CN (λ_ _ _ _ _=>Cr 0 (show (["_law_column","_law_one"]:List Str).Nodup by decide +kernel)) (λ_ _ _ _ _=>KO (Cu (Ky hr.units) (Cc 0) (Cc 1))) (λ_ _ _ _ _=>Cc 0)) Ce))))) CG) (Co (Cp (Cc 2)))))))
  have c:=Dk 4 2 F GC rfl rfl b
  exact c
theorem Ek:Cw ["_law_schema_here","_law_found","_law_name","_law_columns_here","_law_keys","_law_column","_law_values"] ["_law_schema_here"] (Cn GI):=⟨rfl,rfl,rfl,by decide +kernel,rfl,by decide +kernel,by decide +kernel⟩
theorem ML {f:Addr}{fd:FuncData}(F:Fun K "_law_stock" "_law_stock" GI f fd)(T:Tx K mg) :DS P w K mg base CX0 1 f fd ["_law_schema_here"] (spF ⟨K,P,w⟩ FX 1):=by
 have b:BO P w K mg base 0 "_law_stock" GI f ["_law_schema_here","_law_found","_law_name","_law_columns_here","_law_keys","_law_column","_law_values"] Io:=λcdv A outer s H E hr=>by
  exact Cj (Cy 1 Ek.nd (IG Ce)) (Cj (GK BX rfl (Dv (Cc 0)) (Gj rfl (CS (Cr 2 Ek.nd) (CS (Cr 3 Ek.nd) (CS (Cr 4 Ek.nd) Fp)))) (Co (GK BX rfl (Dv (Cc 3)) (Gj rfl (CS (Cr 5 Ek.nd) (CS (Cr 6 Ek.nd) Fp))) (Co (Iq (Rz (Cc 1) (Ca (CU Mc T.b_list boot_list (Ca (Cc 6) Ce)) Ce))))))) (Co (Cp (CF (Mr hr.units rfl) T.b_sorted boot_sorted (Ca (CU (LW rfl) T.b_set boot_set (Ca (Cc 1) Ce)) Ce)))))
 have c:=Py 7 1 F Ek rfl rfl b
 exact c
theorem Kl:Cw ["_law_hand_here","_law_columns_here","_law_stock_here","_law_word"] ["_law_hand_here","_law_columns_here","_law_stock_here"] (Cn HC):=⟨rfl,rfl,rfl,by decide +kernel,rfl,by decide +kernel,by decide +kernel⟩
theorem NK {f:Addr}{fd:FuncData}(F:Fun K "_law_test" "_law_test" HC f fd)(T:Tx K mg)(D1:Cal P w K mg base 2 "_law_pick" CO 2):DS P w K mg base CX0 3 f fd ["_law_hand_here","_law_columns_here","_law_stock_here"] (spF ⟨K,P,w⟩ Eg 3):=by
 have b:BO P w K mg base 2 "_law_test" HC f ["_law_hand_here","_law_columns_here","_law_stock_here","_law_word"] Hl:=λcdv A outer s H E hr=>by
  have hr_law_pick:Room 2 _:=hr.mono (by decide)
  exact Cj (Cy 3 Kl.nd (Cm D1 hr_law_pick (Ca (Cc 0) (Ca (JO (Ca Cz (Ca Cz (Ca Cz (Ca Cz (Ca Cz Ce)))))) Ce)))) (Co (Cp (CW (Ca (Cc 3) (Ca (Cm D1 hr_law_pick (Ca (Cc 0) (Ca (Cc 1) Ce))) (Ca (Cm D1 hr_law_pick (Ca (Cc 0) (Ca (Ea (Cu (Jr hr.units) (Cc 3) (CW (Ca Cz (Ca Cz Ce)))) (Cc 2) (Cc 1)) Ce))) Ce))))))
 have c:=Dk 4 3 F Kl rfl rfl b
 exact c
theorem Pe:Cw ["_law_look_here"] ["_law_look_here"] (Cn Iu):=⟨rfl,rfl,rfl,by decide +kernel,rfl,by decide +kernel,by decide +kernel⟩
theorem Lz {f:Addr}{fd:FuncData}(F:Fun K "_law_big" "_law_big" Iu f fd)(hm:mg "_law_big"=some (.ref f))(hb:Binds K fd ["_law_look_here"] [])(T:Tx K mg) :∀ n,DS P w K mg base CX0 (n+1) f fd ["_law_look_here"] (spF ⟨K,P,w⟩ (DM n) 1)
 | 0=>⟨λvs H Q E h=>by obtain ⟨th,mu,ds,_,r,hl,_⟩:=h;rw [r.len];exact hl,λA outer s H args us vs Q E hr he hb hv h=>by obtain ⟨th,mu,ds,_,r,hl,t⟩:=h;exact t.no.elim⟩
 | n+1=>by
  have Fg:Cal P w K mg base (n+1) "_law_big" (DM n) 1:=CL F hm (Lz F hm hb T  n) hb
  have b:BO P w K mg base (n+1) "_law_big" Iu f ["_law_look_here"] (E4 (DM n)):=λcdv A outer s H E hr=>by
   have hr_law_big:Room (n+1) _:=hr
   exact Cj (CQ (Cu (Dx hr.units) (CB (Di hr.units) (Cc 0) Cf) Cz) (Co (Cp Cf)) CG) (Cj (CQ (Cu (Dx hr.units) (CB (Di hr.units) (Cc 0) Cf) Cz) (Co (Cp (Ct EF (Cm Fg hr_law_big (Ca (CB (Di hr.units) (Cc 0) Cf) Ce)) (Cm Fg hr_law_big (Ca (CB (Di hr.units) (Cc 0) Cf) Ce))))) CG) (Co (Cp (Ct CM (Cm Fg hr_law_big (Ca (CB (Di hr.units) (Cc 0) Cf) Ce)) (Ea (Cu (Dx hr.units) (CB (Di hr.units) (Cc 0) Cf) Cz) (Cm Fg hr_law_big (Ca (CB (Di hr.units) (Cc 0) Cf) Ce)) Cf)))))
  have c:=Dk 1 1 F Pe rfl rfl b
  exact c
theorem DL:Cw ["_law_hand_here","_law_schema_here","_law_deep","_law_way","_law_one","_law_columns_here","_law_stock_here","_law_at","_law_free","_law_pairs","_law_other"] ["_law_hand_here","_law_schema_here","_law_deep"] (Cn E7):=⟨rfl,rfl,rfl,by decide +kernel,rfl,by decide +kernel,by decide +kernel⟩
theorem Kh {f:Addr}{fd:FuncData}(F:Fun K "_law_look" "_law_look" E7 f fd)(hm:mg "_law_look"=some (.ref f))(hb:Binds K fd ["_law_hand_here","_law_schema_here","_law_deep"] [])(T:Tx K mg)(CI:Cal P w K mg base 1 "_law_take" Cs 2)(D1:Cal P w K mg base 2 "_law_pick" CO 2)(DB:Cal P w K mg base 11 "_law_columns" (CD 10) 2)(Kq:Cal P w K mg base 1 "_law_stock" FX 1)(Jm:Cal P w K mg base 3 "_law_test" Eg 3)(Fg:Cal P w K mg base 11 "_law_big" (DM 10) 1):∀ n,DS P w K mg base CX0 (n+12) f fd ["_law_hand_here","_law_schema_here","_law_deep"] (spF ⟨K,P,w⟩ (Ej n) 3)
 | 0=>⟨λvs H Q E h=>by obtain ⟨th,mu,ds,_,r,hl,_⟩:=h;rw [r.len];exact hl,λA outer s H args us vs Q E hr he hb hv h=>by obtain ⟨th,mu,ds,_,r,hl,t⟩:=h;exact t.no.elim⟩
 | n+1=>by
  have HH:Cal P w K mg base (n+12) "_law_look" (Ej n) 3:=CL F hm (Kh F hm hb T CI D1 DB Kq Jm Fg n) hb
  have b:BO P w K mg base (n+12) "_law_look" E7 f ["_law_hand_here","_law_schema_here","_law_deep","_law_way","_law_one","_law_columns_here","_law_stock_here","_law_at","_law_free","_law_pairs","_law_other"] (C0 (Ej n)):=λcdv A outer s H E hr=>by
   have hr_law_take:Room 1 _:=hr.mono (by omega)
   have hr_law_pick:Room 2 _:=hr.mono (by omega)
   have hr_law_columns:Room 11 _:=hr.mono (by omega)
   have hr_law_stock:Room 1 _:=hr.mono (by omega)
   have hr_law_test:Room 3 _:=hr.mono (by omega)
   have hr_law_big:Room 11 _:=hr.mono (by omega)
   have hr_law_look:Room (n+12) _:=hr
   exact Cj (Cy 3 DL.nd (Cm CI hr_law_take (Ca (Cc 0) (Ca Cf Ce)))) (Cj (CQ (SVW.t (Hm (Cu (Nw hr.units) (Cc 2) Cf) (GQ (Cu (Dx hr.units) (Cc 3) Cf)))) (Co (Cp (CW (Ca Cz (Ca (CB (Di hr.units) (Cm D1 hr_law_pick (Ca (Cc 0) (Ca (Cc 1) Ce))) Cf) Ce))))) CG) (Cj (Cy 4 DL.nd (Cm HH hr_law_look (Ca (Cc 0) (Ca (Cc 1) (Ca (Ct Iv (Cc 2) Cf) Ce))))) (Cj (Hk (CW (Ca (Cm DB hr_law_columns (Ca (Cc 1) (Ca (Cc 4) Ce))) (Ca (Cm Kq hr_law_stock (Ca (Cc 1) Ce)) Ce))) (Gj rfl (CS (Cr 5 DL.nd) (CS (Cr 6 DL.nd) Fp)))) (Cj (CQ (Cu (Nw hr.units) (Cc 3) Cf) (Co (Cp (CW (Ca Cz (Ca (Cc 4) (Ca (CU DV T.b_tuple BL (Ca (FU ["_law_k"] [(0,"_law_hand_here"),(5,"_law_columns_here"),(6,"_law_stock_here")] (by exact Hg (Cn E7) rfl rfl ⟨rfl,by decide +kernel,by decide +kernel,by decide +kernel⟩ ⟨⟨rfl,.inl rfl,.inl rfl⟩,⟨rfl,.inl rfl,.inl rfl⟩,⟨rfl,.inl rfl,.inl rfl⟩,True.intro⟩) (FO T.b_range (Ca (Ct CM Cf (Cm CI hr_law_take (Ca (Cc 0) (Ca Cf Ce)))) Ce)) CN (λ_ _ _ _ _=>Cr 0 (show (["_law_k","_law_hand_here","_law_columns_here","_law_stock_here"]:List Str).Nodup by decide +kernel)) (λ_ _ _ _ _=>DY) (λ_ _ _ _ _=>Cm Jm hr_law_test (Ca (Cc 1) (Ca (Cc 2) (Ca (Cc 3) Ce))))) Ce)) Ce)))))) CG) (Cj (CQ (Cu (Dx hr.units) (Cc 3) Cf) (Cj (Cy 7 DL.nd (Cm CI hr_law_take (Ca (Cc 0) (Ca (CF Dt T.b_len boot_len (Ca (Cc 5) Ce)) Ce)))) (Co (Cp (CW (Ca Cz (Ca (Cc 4) (Ca (EO (Ct CM (EO (Cc 5) (EU (Cc 7)) ER) (EO (Cc 5) ER (EU (Cc 7)))) ER (EU (Ct CM Cf (Cm CI hr_law_take (Ca (Cc 0) (Ca (CF Dt T.b_len boot_len (Ca (Cc 5) Ce)) Ce)))))) Ce))))))) CG) (Cj (CQ (Cu (Dx hr.units) (Cc 3) Cf) (Cj (JZ 8 ["_law_word"] [(5,"_law_columns_here")] (by exact Hg (Cn E7) rfl rfl ⟨rfl,by decide +kernel,by decide +kernel,by decide +kernel⟩ ⟨⟨rfl,.inl rfl,.inl rfl⟩,True.intro⟩) (Dv (JO (Ca Cz (Ca Cz (Ca Cz (Ca Cz Ce)))))) CN (λ_ _ _ _ _=>Cr 0 (show (["_law_word","_law_columns_here"]:List Str).Nodup by decide +kernel)) (λ_ _ _ _ _=>KO (Cu (Ky hr.units) (Cc 0) (Cc 1))) (λ_ _ _ _ _=>Cc 0) DL.nd) (Cj (JZ 9 ["_law_word"] [(0,"_law_hand_here"),(5,"_law_columns_here")] (by exact Hg (Cn E7) rfl rfl ⟨rfl,by decide +kernel,by decide +kernel,by decide +kernel⟩ ⟨⟨rfl,.inl rfl,.inl rfl⟩,⟨rfl,.inl rfl,.inl rfl⟩,True.intro⟩) (Dv (EO (Cc 8) ER (EU Cf))) CN (λ_ _ _ _ _=>Cr 0 (show (["_law_word","_law_hand_here","_law_columns_here"]:List Str).Nodup by decide +kernel)) (λ_ _ _ _ _=>DY) (λ_ _ _ _ _=>CW (Ca (Cm D1 hr_law_pick (Ca (Cc 1) (Ca (Cc 2) Ce))) (Ca (Cc 0) Ce))) DL.nd) (Co (Cp (Ea (Cu (MJ hr.units) (Cc 9) (JO Ce)) (CW (Ca Cz (Ca (Cc 4) (Ca (CU DV T.b_tuple BL (Ca (Cc 9) Ce)) Ce)))) (Cc 4)))))) CG) (Cj (Cy 10 DL.nd (Cm HH hr_law_look (Ca (Cc 0) (Ca (Cc 1) (Ca (Ct Iv (Cc 2) Cf) Ce))))) (Cj (CQ (Cu (Dx hr.units) (Cc 3) Cf) (Co (Cp (Ea (Cu (Nw hr.units) (Ct EF (Cm Fg hr_law_big (Ca (Cc 4) Ce)) (Cm Fg hr_law_big (Ca (Cc 10) Ce))) Cf) (CW (Ca Cz (Ca (Cc 4) (Ca (Cc 10) Ce)))) (Cc 4)))) CG) (Cj (CQ (Cu (MJ hr.units) (Cm DB hr_law_columns (Ca (Cc 1) (Ca (Cc 10) Ce))) (Cc 5)) (Co (Cy 10 DL.nd (Ea (Cu Te (Cc 2) Cf) (CW (Ca Cz (Ca (Cc 4) (Ca (CW (Ca (Cm Jm hr_law_test (Ca (Cc 0) (Ca (Cc 5) (Ca (Cc 6) Ce)))) Ce)) Ce)))) (Cc 4)))) CG) (Co (Cp (CW (Ca (CB (Di hr.units) (JO (Ca Cz (Ca Cz Ce))) (Ct Iv (Cc 3) Cf)) (Ca (Cc 4) (Ca (Cc 10) Ce)))))))))))))))
  have c:=Dk 11 3 F DL rfl rfl b
  exact c
theorem LF:Cw ["_law_columns_here","_law_look_here"] ["_law_columns_here","_law_look_here"] (Cn Ge):=⟨rfl,rfl,rfl,by decide +kernel,rfl,by decide +kernel,by decide +kernel⟩
theorem LS {f:Addr}{fd:FuncData}(F:Fun K "_law_turned" "_law_turned" Ge f fd)(T:Tx K mg) :DS P w K mg base CX0 1 f fd ["_law_columns_here","_law_look_here"] (spF ⟨K,P,w⟩ Ei 2):=by
 have b:BO P w K mg base 0 "_law_turned" Ge f ["_law_columns_here","_law_look_here"] Hx:=λcdv A outer s H E hr=>by
  exact Co (Cp (CW (Ca Cz (Ca (Cc 1) (Ca (CU DV T.b_tuple BL (Ca (Pg rfl T.b_zip T.b_list (Ca (Cc 0) (Ca (Ct CM (EO (Cc 0) (EU Cf) ER) (EO (Cc 0) ER (EU Cf))) Ce))) Ce)) Ce)))))
 have c:=Dk 2 2 F LF rfl rfl b
 exact c
theorem Fi:Cw ["_law_script","_law_k","_law_hand_here","_law_schema_here","_law_turn","_law_look_here","_law_columns_here","_law_table","_law_turned_here","_law_some","_law_deep"] ["_law_script"] (Cn Kk):=⟨rfl,rfl,rfl,by decide +kernel,rfl,by decide +kernel,by decide +kernel⟩
theorem Y1 {f:Addr}{fd:FuncData}(F:Fun K "law" "law" Kk f fd)(T:Tx K mg)(OT:Cal P w K mg base 1 "_law_hand" E1 2)(Nf:Cal P w K mg base 4 "_law_schema" Ee 4)(HH:Cal P w K mg base 22 "_law_look" (Ej 10) 3)(CI:Cal P w K mg base 1 "_law_take" Cs 2)(DB:Cal P w K mg base 11 "_law_columns" (CD 10) 2)(Gp:Cal P w K mg base 16 "is_look" CV 2)(JH:Cal P w K mg base 23 "columns_of" DZ 2)(MX:Cal P w K mg base 1 "_law_turned" Ei 2):DS P w K mg base CX0 24 f fd ["_law_script"] (spF ⟨K,P,w⟩ Mh 1):=by
 have b:BO P w K mg base 23 "law" Kk f ["_law_script","_law_k","_law_hand_here","_law_schema_here","_law_turn","_law_look_here","_law_columns_here","_law_table","_law_turned_here","_law_some","_law_deep"] SH:=λcdv A outer s H E hr=>by
  have hr_law_hand:Room 1 _:=hr.mono (by decide)
  have hr_law_schema:Room 4 _:=hr.mono (by decide)
  have hr_law_look:Room 22 _:=hr.mono (by decide)
  have hr_law_take:Room 1 _:=hr.mono (by decide)
  have hr_law_columns:Room 11 _:=hr.mono (by decide)
  have hr_is_look:Room 16 _:=hr.mono (by decide)
  have hr_columns_of:Room 23 _:=hr.mono (by decide)
  have hr_law_turned:Room 1 _:=hr.mono (by decide)
  exact Cj (GK BX rfl (FO T.b_range (Ca (CF (QY rfl) T.b_max boot_max (Ca Cf (Ca (CF (Ma rfl) T.b_min boot_min (Ca Cf (Ca (CF Dt T.b_len boot_len (Ca (Cc 0) Ce)) Ce))) Ce))) Ce)) (Cr 1 Fi.nd) (Cj (Cy 2 Fi.nd (Cm OT hr_law_hand (Ca (Cc 0) (Ca (Cc 1) Ce)))) (Cj (Cy 3 Fi.nd (Cm Nf hr_law_schema (Ca (Cc 2) (Ca Cf (Ca Cf (Ca Cf Ce)))))) (Cj (GK BX rfl (FO T.b_range (Ca Cf Ce)) (Cr 4 Fi.nd) (Cj (Cy 5 Fi.nd (Cm HH hr_law_look (Ca (Cc 2) (Ca (Cc 3) (Ca (Ct CM Cf (Cm CI hr_law_take (Ca (Cc 2) (Ca Cf Ce)))) Ce))))) (Cj (Cy 6 Fi.nd (Cm DB hr_law_columns (Ca (Cc 3) (Ca (Cc 5) Ce)))) (Cj (CQ (SVW.t (Hm (Cu IJ (Cm Gp hr_is_look (Ca (Cc 3) (Ca (Cc 5) Ce))) GA) (GQ (Cu IJ (Cm Gp hr_is_look (Ca (Cc 3) (Ca (Cc 5) Ce))) GA)))) (Co (Cp GA)) CG) (Co (CQ (Cu (MJ hr.units) (CF (K3 hr.units hr.gd) T.b_repr (by decide +kernel) (Ca (Cm JH hr_columns_of (Ca (Cc 3) (Ca (Cc 5) Ce))) Ce)) (CF (K3 hr.units hr.gd) T.b_repr (by decide +kernel) (Ca (Cc 6) Ce))) (Co (Cp GA)) CG)))))) (Cj (Cy 7 Fi.nd (CW (Ca Cz (Ca (CB (Di hr.units) (CB (Di hr.units) (Cc 3) Cf) Cf) Ce)))) (Cj (Cy 6 Fi.nd (Cm DB hr_law_columns (Ca (Cc 3) (Ca (Cc 7) Ce)))) (Cj (Cy 8 Fi.nd (Cm MX hr_law_turned (Ca (Cc 6) (Ca (Cc 7) Ce)))) (Cj (CQ (SVW.t (Hm (Cu IJ (Cm Gp hr_is_look (Ca (Cc 3) (Ca (Cc 8) Ce))) GA) (GQ (Cu (MJ hr.units) (Cm JH hr_columns_of (Ca (Cc 3) (Ca (Cc 8) Ce))) (Ct CM (EO (Cc 6) (EU Cf) ER) (EO (Cc 6) ER (EU Cf))))))) (Co (Cp GA)) CG) (Cj (Cy 9 Fi.nd (IG (Ca (CW (Ca Cz (Ca (Cc 7) (Ca (Cc 8) Ce)))) (Ca (CW (Ca Cz (Ca (Cc 7) (Ca (CW (Ca Cz (Ca (Cc 8) (Ca (Cc 6) Ce)))) Ce)))) Ce)))) (Cj (Iq (IK (Cc 9) (Ca (CW (Ca Cz (Ca (Cc 7) (Ca (Xl (Cc 6)) Ce)))) Ce))) (Cj (CQ (Gd (Eo (CF (FD rfl) T.b_all boot_all (Ca (FU ["_law_one"] [(3,"_law_schema_here")] (by exact Hg (Cn Kk) rfl rfl ⟨rfl,by decide +kernel,by decide +kernel,by decide +kernel⟩ ⟨⟨rfl,.inl rfl,.inl rfl⟩,True.intro⟩) (Dv (Cc 9)) CN (λ_ _ _ _ _=>Cr 0 (show (["_law_one","_law_schema_here"]:List Str).Nodup by decide +kernel)) (λ_ _ _ _ _=>DY) (λ_ _ _ _ _=>GS MU (Cm Gp hr_is_look (Ca (Cc 1) (Ca (Cc 0) Ce))) GA)) Ce)))) (Co (Cp GA)) CG) (Cj (Cy 10 Fi.nd (Cc 7)) (Cj (GK BX rfl (FO T.b_range (Ca Cf Ce)) (Cr 4 Fi.nd) (Co (Cy 10 Fi.nd (CW (Ca Cz (Ca (Cc 10) (Ca (Ct Vb (CW (Ca (CW (Ca Cz (Ca (CB (Di hr.units) (Cc 6) Cf) (Ca (CB (Di hr.units) (Cc 6) (X2 Cf)) Ce)))) Ce)) (Ct CM Cf (Ct FT (Cc 4) Cf))) Ce))))))) (Co (CQ (SVW.t (Hm (Cu IJ (Cm Gp hr_is_look (Ca (Cc 3) (Ca (Cc 10) Ce))) GA) (GQ (Cu IJ (Cm Gp hr_is_look (Ca (Cc 3) (Ca (CW (Ca Cz (Ca (Cc 10) (Ca (CW (Ca (CW (Ca (CB (Di hr.units) (Cc 6) Cf) (Ca Cz Ce))) Ce)) Ce)))) Ce))) GA)))) (Co (Cp GA)) CG))))))))))))))) (Co (Cp GA))
 have c:=Dk 11 1 F Fi rfl rfl b
 exact c
end
end PG
namespace PV
open PySem L2 PyProof.Rows
section
variable {α β:Type} {ro:Ro} {mu:Sto} {d e:D} {a b c:Ex} {i:Nat} {o:Option D}
@[simp] theorem Q8 {x:α}{m:Sto}{f:α->Sto->Rs β}:bM (some (x,m)) f=f x m:=rfl
@[simp] theorem AbY:Cd 0 (some d::ro) mu=some (d,mu):=rfl
@[simp] theorem AbU {x1}:Cd 1 (x1::some d::ro) mu=some (d,mu):=rfl
@[simp] theorem Abv {x1 x2}:Cd 2 (x1::x2::some d::ro) mu=some (d,mu):=rfl
@[simp] theorem Aa6 {x1 x2 x3}:Cd 3 (x1::x2::x3::some d::ro) mu=some (d,mu):=rfl
@[simp] theorem AbZ {x1 x2 x3 x4}:Cd 4 (x1::x2::x3::x4::some d::ro) mu=some (d,mu):=rfl
@[simp] theorem Abo {x1 x2 x3 x4 x5}:Cd 5 (x1::x2::x3::x4::x5::some d::ro) mu=some (d,mu):=rfl
@[simp] theorem Abe {x1 x2 x3 x4 x5 x6}:Cd 6 (x1::x2::x3::x4::x5::x6::some d::ro) mu=some (d,mu):=rfl
@[simp] theorem Aa2 {x1 x2 x3 x4 x5 x6 x7}:Cd 7 (x1::x2::x3::x4::x5::x6::x7::some d::ro) mu=some (d,mu):=rfl
@[simp] theorem Abs {x1 x2 x3 x4 x5 x6 x7 x8}:Cd 8 (x1::x2::x3::x4::x5::x6::x7::x8::some d::ro) mu=some (d,mu):=rfl
@[simp] theorem AbD {x1 x2 x3 x4 x5 x6 x7 x8 x9}:Cd 9 (x1::x2::x3::x4::x5::x6::x7::x8::x9::some d::ro) mu=some (d,mu):=rfl
@[simp] theorem Aan {x1 x2 x3 x4 x5 x6 x7 x8 x9 x10}:Cd 10 (x1::x2::x3::x4::x5::x6::x7::x8::x9::x10::some d::ro) mu=some (d,mu):=rfl
@[simp] theorem ZR {x1 x2 x3 x4 x5 x6 x7 x8 x9 x10 x11}:Cd 11 (x1::x2::x3::x4::x5::x6::x7::x8::x9::x10::x11::some d::ro) mu=some (d,mu):=rfl
@[simp] theorem AaI {x1 x2 x3 x4 x5 x6 x7 x8 x9 x10 x11 x12}:Cd 12 (x1::x2::x3::x4::x5::x6::x7::x8::x9::x10::x11::x12::some d::ro) mu=some (d,mu):=rfl
@[simp] theorem Zj {x1 x2 x3 x4 x5 x6 x7 x8 x9 x10 x11 x12 x13}:Cd 13 (x1::x2::x3::x4::x5::x6::x7::x8::x9::x10::x11::x12::x13::some d::ro) mu=some (d,mu):=rfl
@[simp] theorem Z9 {x1 x2 x3 x4 x5 x6 x7 x8 x9 x10 x11 x12 x13 x14}:Cd 14 (x1::x2::x3::x4::x5::x6::x7::x8::x9::x10::x11::x12::x13::x14::some d::ro) mu=some (d,mu):=rfl
@[simp] theorem Zv {x1 x2 x3 x4 x5 x6 x7 x8 x9 x10 x11 x12 x13 x14 x15}:Cd 15 (x1::x2::x3::x4::x5::x6::x7::x8::x9::x10::x11::x12::x13::x14::x15::some d::ro) mu=some (d,mu):=rfl
@[simp] theorem z_C:eC d ro mu=some (d,mu):=rfl
@[simp] theorem Aaf {g:D->D->Sto->Rs D}:Ck g a b ro mu=bM (a ro mu) λx m1=>bM (b ro m1) λy m2=>g x y m2:=rfl
@[simp] theorem AbK {g:D->Sto->Rs D}:e1 g a ro mu=bM (a ro mu) λx m1=>g x m1:=rfl
@[simp] theorem AbJ:tV a ro mu=bM (a ro mu) λx m1=>(asB x).map λb=>(b,m1):=rfl
@[simp] theorem Zd {x:Bool}:asB (.bl x)=some x:=rfl
@[simp] theorem Z3 {t:Tx}:tNt t ro mu=bM (t ro mu) λb m1=>some (!b,m1):=rfl
@[simp] theorem ZT {t u:Tx}:tAn t u ro mu=bM (t ro mu) λx m1=>if x=true then u ro m1 else some (false,m1):=rfl
@[simp] theorem Aa4 {t u:Tx}:tO t u ro mu=bM (t ro mu) λx m1=>if x=true then some (true,m1) else u ro m1:=rfl
@[simp] theorem Xo:tY ro mu=some (true,mu):=rfl
noncomputable def anB (b:Ex)(ro:Ro):D->Sto->Rs D
 | .bl c,m1=>if c=true then b ro m1 else some (.bl false,m1)
 | _,_=>none
noncomputable def oB (b:Ex)(ro:Ro):D->Sto->Rs D
 | .bl c,m1=>if c=true then some (.bl true,m1) else b ro m1
 | _,_=>none
theorem AbP:eAn a b ro mu=bM (a ro mu) (anB b ro):=by
 unfold eAn
 congr 1
 funext x m
 cases x<;>rfl
theorem z_o:eO a b ro mu=bM (a ro mu) (oB b ro):=by
 unfold eO
 congr 1
 funext x m
 cases x<;>rfl
@[simp] theorem ZS:eAn a b ro mu=bM (a ro mu) (anB b ro):=AbP
@[simp] theorem AbA:eO a b ro mu=bM (a ro mu) (oB b ro):=z_o
@[simp] theorem AaH {x:Bool}:anB b ro (.bl x) mu=if x=true then b ro mu else some (.bl false,mu):=rfl
@[simp] theorem Aba {x:Bool}:oB b ro (.bl x) mu=if x=true then some (.bl true,mu) else b ro mu:=rfl
noncomputable def ntB:D->Sto->Rs D
 | .bl c,m1=>some (.bl (!c),m1)
 | _,_=>none
@[simp] theorem AbT:eNt a ro mu=bM (a ro mu) ntB:=by
 unfold eNt
 congr 1
 funext x m
 cases x<;>rfl
@[simp] theorem Aae {x:Bool}:ntB (.bl x) mu=some (.bl (!x),mu):=rfl
@[simp] theorem AbR {t:Tx}:eIf t a b ro mu=bM (t ro mu) λx m1=>if x=true then a ro m1 else b ro m1:=rfl
@[simp] theorem X5:Cg ro mu=some ([],mu):=rfl
@[simp] theorem XN {r:Exs}:Cb a r ro mu=bM (a ro mu) λx m1=>bM (r ro m1) λxs m2=>some (x::xs,m2):=rfl
@[simp] theorem Aam {r:Exs}:Dz r ro mu=bM (r ro mu) λxs m1=>some (.tup xs,m1):=rfl
@[simp] theorem ZZ {r:Exs}:Oc r ro mu=bM (r ro mu) λxs m1=>some (.lst xs,m1):=rfl
@[simp] theorem Y3 {r:Exs}:GF r ro mu=bM (r ro mu) λxs m1=>some (.ref m1.length,m1++[.lst xs]):=rfl
@[simp] theorem XS:ZM ro mu=some (.dct [] [],mu):=rfl
@[simp] theorem Ym:Zr ro mu=some (.ref mu.length,mu++[.dct [] []]):=rfl
@[simp] theorem X6 {f:Fn}{r:Exs}:Ci f r ro mu=bM (r ro mu) λxs m1=>f xs m1:=rfl
@[simp] theorem ZE:sNx ro mu=some ((.nx,ro),mu):=rfl
noncomputable def Xg (b:Sx):Fl×Ro->Sto->Rs (Fl×Ro)
 | (.nx,ro),m1=>b ro m1
 | p,m1=>some (p,m1)
@[simp] theorem Zz {s t:Sx}:Cv s t ro mu=bM (s ro mu) (Xg t):=by
 unfold Cv
 congr 1
 funext p m
 obtain ⟨f,r⟩:=p
 cases f<;>rfl
@[simp] theorem XX {t:Sx}:Xg t (.nx,ro) mu=t ro mu:=rfl
@[simp] theorem YM {t:Sx}:Xg t (.rt d,ro) mu=some ((.rt d,ro),mu):=rfl
@[simp] theorem AbS:sRt a ro mu=bM (a ro mu) λd m1=>some ((.rt d,ro),m1):=rfl
@[simp] theorem AbX:sEx a ro mu=bM (a ro mu) λ_ m1=>some ((.nx,ro),m1):=rfl
@[simp] theorem AaU {t:Tx}{s u:Sx}:sIf t s u ro mu=bM (t ro mu) λx m1=>if x=true then s ro m1 else u ro m1:=rfl
@[simp] theorem ZQ {i:Nat}:gNm i d ro mu=some (ro.set i (some d),mu):=rfl
@[simp] theorem AaG:Ew [] ro mu=some (ro,mu):=rfl
@[simp] theorem Z1 {g:Gx}{r:Gxs}{ds:List D}:CC g r (d::ds) ro mu=bM (g d ro mu) λro' m1=>r ds ro' m1:=rfl
@[simp] theorem W2 {r:Gxs}{x y:D}:gTp 2 r (.tup [x,y]) ro mu=r [x,y] ro mu:=rfl
@[simp] theorem YH {r:Gxs}{x y z:D}:gTp 3 r (.tup [x,y,z]) ro mu=r [x,y,z] ro mu:=rfl
@[simp] theorem XC {r:Gxs}{x y z u:D}:gTp 4 r (.tup [x,y,z,u]) ro mu=r [x,y,z,u] ro mu:=rfl
@[simp] theorem Aav {g:Gx}:CZ a g ro mu=bM (a ro mu) λd m1=>bM (g d ro m1) λro' m2=>some ((.nx,ro'),m2):=rfl
@[simp] theorem Y4 {i j:Nat}{r:Exs}:AbB i j r ro mu=bM (r ro mu) λds m1=>match ds with|[x,y]=>some ((.nx,(ro.set i (some x)).set j (some y)),m1)|_=>none:=rfl
@[simp] theorem WX {i j k:Nat}{r:Exs}:QA i j k r ro mu=bM (r ro mu) λds m1=>match ds with|[x,y,z]=>some ((.nx,((ro.set i (some x)).set j (some y)).set k (some z)),m1)|_=>none:=rfl
noncomputable def Xj:Fl×Ro->Sto->Rs D
 | (.rt d,_),m1=>some (d,m1)
 | (.nx,_),m1=>some (.non,m1)
 | _,_=>none
theorem WO {n:Nat}{m:Sx}{ds:List D}:fnB n m ds mu=bM (m (ds.map some++List.replicate (n-ds.length) none) mu) Xj:=by
 unfold fnB
 congr 1
 funext p q
 obtain ⟨f,r⟩:=p
 cases f<;>rfl
@[simp] theorem W3:Xj (.rt d,ro) mu=some (d,mu):=rfl
@[simp] theorem Yj:Xj (.nx,ro) mu=some (.non,mu):=rfl
noncomputable def Aar (m0:Sto):Fl×Ro->Sto->Rs D
 | (.rt d,_),m1=>Nj m0 m1 d
 | (.nx,_),m1=>Nj m0 m1 .non
 | _,_=>none
theorem ZK {n:Nat}{m:Sx}{ds:List D}:fnG n m ds mu=bM (m (ds.map some++List.replicate (n-ds.length) none) mu) (Aar mu):=by
 unfold fnG
 congr 1
 funext p q
 obtain ⟨f,r⟩:=p
 cases f<;>rfl
@[simp] theorem Wa {m0:Sto}:Aar m0 (.rt d,ro) mu=Nj m0 mu d:=rfl
@[simp] theorem ZH {x:Ix}{g:Gx}{s:Sx}:JA x g s ro mu=bM (x ro mu) λp m1=>FV p.2 m1 g s p.1 ro m1:=rfl
noncomputable def Kp (m1:Sto):D->Rs (List D×Option Nat)
 | .tup ds=>some ((ds,none),m1)
 | .lst ds=>some ((ds,none),m1)
 | .str x=>some ((chars x,none),m1)
 | .ref k=>match m1[k]? with
  | some (.lst ds)=>some ((ds,some k),m1)
  | _=>none
 | _=>none
@[simp] theorem AbG:Fh a ro mu=bM (a ro mu) λd m1=>Kp m1 d:=by
 unfold Fh
 congr 1
@[simp] theorem Aa8 {ds:List D}:Kp mu (.tup ds)=some ((ds,none),mu):=rfl
@[simp] theorem Abi {ds:List D}:Kp mu (.lst ds)=some ((ds,none),mu):=rfl
@[simp] theorem Abw {x:Str}:Kp mu (.str x)=some ((chars x,none),mu):=rfl
theorem PX {r:Exs}{n:Int}{m:Sto}(h:r ro mu=some ([.int n],m))(h0:-(2 ^ 62)≤n)(h1:n≤(sizeLine:Int)):iRg r ro mu=some ((E3 0 n.toNat,none),m):=by
 unfold iRg
 rw [h]
 simp only [bM,Us]
 rw [if_pos ⟨h0,h1⟩]
@[simp] theorem Aa7 {x:Ix}{nc:Nat}{fv:List Nat}{g:Gx}{t:Tx}:eLC x nc fv g t a ro mu=bM (x ro mu) λp m1=>bM (FA p.2 m1 g t a (r0 nc fv ro) p.1 m1) λys m2=>some (.lst ys,m2):=rfl
@[simp] theorem AaZ {nc:Nat}{fv:List Nat}:r0 nc fv ro=List.replicate nc none++fv.map λk=>ro.getD k none:=rfl
noncomputable def nR:D->Bool
 | .ref _=>false
 | _=>true
@[simp] theorem Wf {g g':D->D->Sto->Rs D}{c:Ex}:JS g g' a b c ro mu=bM (a ro mu) λx m1=>bM (b ro m1) λy m2=>bM (g x y m2) λz m3=>match asB z with|none=>none|some k=>if k=true then bM (c ro m3) λw' m4=>g' y w' m4 else some (.bl false,m3):=rfl
@[simp] theorem Zn {i j:Int}:leD (.int i) (.int j) mu=some (.bl (decide (i≤j)),mu):=rfl
@[simp] theorem Z0 {i j:Str}:leD (.str i) (.str j) mu=some (.bl (!decide (j.cps.toList<i.cps.toList)),mu):=rfl
@[simp] theorem Zs {i j:Int}:geD (.int i) (.int j) mu=some (.bl (decide (j≤i)),mu):=rfl
@[simp] theorem ZJ {i j:Int}:gtD (.int i) (.int j) mu=some (.bl (decide (j<i)),mu):=rfl
@[simp] theorem Aah {i j:Int}:ltG (.int i) (.int j) mu=some (.bl (decide (i<j)),mu):=by
 unfold ltG
 rw [if_pos (by simp [toPy,PyData.depth])]
 rfl
@[simp] theorem ZL {i j:Str}:ltG (.str i) (.str j) mu=some (.bl (decide (i.cps.toList<j.cps.toList)),mu):=by
 unfold ltG
 rw [if_pos (by simp [toPy,PyData.depth])]
 rfl
@[simp] theorem Xs {i j:Int}:Dc (.int i) (.int j) mu=some (.int (i+j),mu):=rfl
@[simp] theorem Yx {i j:Int}:N6 (.int i) (.int j) mu=some (.int (i-j),mu):=rfl
theorem Jp {i j:Int}(h:0<j):GB (.int i) (.int j) mu=some (.int (i % j),mu):=by unfold GB;dsimp only;rw [if_pos h]
@[simp] theorem SS {ds:List D}:FN [.tup ds] mu=some (.int ds.length,mu):=rfl
@[simp] theorem Yy {ds:List D}:FN [.lst ds] mu=some (.int ds.length,mu):=rfl
@[simp] theorem Y2 {x:Str}:FN [.str x] mu=some (.int x.length,mu):=rfl
@[simp] theorem YB {ds:List D}:FN [.set ds] mu=some (.int ds.length,mu):=rfl
@[simp] theorem WS {ds:List D}:Gg [.lst ds] mu=some (.tup ds,mu):=rfl
@[simp] theorem YL {ds:List D}:Gg [.tup ds] mu=some (.tup ds,mu):=rfl
@[simp] theorem XD {ds:List D}:Ou [.tup ds] mu=some (.lst ds,mu):=rfl
theorem WC (h:eqB mu d e=some r):eqD d e mu=some (.bl r,mu):=by unfold eqD;rw [h];rfl
@[simp] theorem Wu {i j:Int}:eqD (.int i) (.int j) mu=some (.bl (decide (i=j)),mu):=by
 refine WC ?_
 unfold eqB
 rw [if_pos (by simp [seen,Dj,toPy,PyData.depth])]
 simp only [seen,toPy,PyData.eqv]
 rfl
@[simp] theorem AaO {i j:Int}:neD (.int i) (.int j) mu=some (.bl (!decide (i=j)),mu):=by
 have:=@Wu mu i j
 unfold eqD at this
 unfold neD
 cases e:eqB mu (.int i) (.int j) with
 | none=>rw [e] at this;cases this
 | some r=>rw [e] at this;cases this;rfl
@[simp] theorem Za {i j:Bool}:neD (.bl i) (.bl j) mu=some (.bl (i != j),mu):=by
 unfold neD eqB
 rw [if_pos (by simp [seen,Dj,toPy,PyData.depth])]
 simp only [seen,toPy,PyData.eqv]
 cases i<;>cases j<;>rfl
@[simp] theorem Aaz {i j:Str}:eqD (.str i) (.str j) mu=some (.bl (decide (i=j)),mu):=by
 refine WC ?_
 unfold eqB
 rw [if_pos (by simp [seen,Dj,toPy,PyData.depth])]
 simp only [seen,toPy,PyData.eqv]
 rfl
@[simp] theorem M0 {ds:List D}:ixG (.tup (d::ds)) (.int 0) mu=some (d,mu):=by
 have:ixD (.tup (d::ds)) (.int 0) mu=some (d,mu):=by simp [ixD,atI,ixN]
 unfold ixG
 rw [this]
@[simp] theorem X3 {ds:List D}{x:D}:ixG (.tup (x::d::ds)) (.int 1) mu=some (d,mu):=by
 have:ixD (.tup (x::d::ds)) (.int 1) mu=some (d,mu):=by
  have h:(1:Int)<((x::d::ds).length:Int):=by simp;omega
  simp only [ixD,atI,ixN,h,if_true]
  rfl
 unfold ixG
 rw [this]
@[simp] theorem Y6 {ds:List D}{x y:D}:ixG (.tup (x::y::d::ds)) (.int 2) mu=some (d,mu):=by
 have:ixD (.tup (x::y::d::ds)) (.int 2) mu=some (d,mu):=by
  have h:(2:Int)<((x::y::d::ds).length:Int):=by simp;omega
  simp only [ixD,atI,ixN,h,if_true]
  rfl
 unfold ixG
 rw [this]
@[simp] theorem Y0 {ds:List D}:ixG (.lst (d::ds)) (.int 0) mu=some (d,mu):=by
 have:ixD (.lst (d::ds)) (.int 0) mu=some (d,mu):=by simp [ixD,atI,ixN,DX]
 unfold ixG
 rw [this]
theorem Z7 {ds:List D}{j:Nat}(s:D)(hs:s=.lst ds∨s=.tup ds)(h:ds[j]? = some d):ixG s (.int j) mu=some (d,mu):=by
 obtain ⟨hl,e⟩:=Af.mp h
 have a:atI ds (j:Int)=some d:=by
  unfold atI ixN
  rw [if_pos (by omega),if_pos (by omega)]
  simpa using h
 unfold ixG
 rcases hs with rfl|rfl<;>simp [ixD,DX,a]
theorem ZC {bs:List Bool}:JD [.lst (bs.map D.bl)] mu=some (.bl (bs.all id),mu):=by
 have:Km (bs.map D.bl)=some bs:=by
  induction bs with
  | nil=>rfl
  | cons b bs ih=>simp [Km,ih]
 simp [JD,quF,DX,this]
end
theorem KN {m0:Sto}{tg:Gx}{tt:Tx}{el:Ex}{ro:Ro}{mu:Sto}(p:D->Bool)(g:D->D):∀ ds:List D,(∀ d∈ds,∃ ro1,tg d ro mu=some (ro1,mu)∧tt ro1 mu=some (p d,mu)∧(p d=true->el ro1 mu=some (g d,mu)))->FA none m0 tg tt el ro ds mu=some ((ds.filter p).map g,mu)
 | [],_=>rfl
 | d::ds,h=>by
  obtain ⟨ro1,e1,e2,e3⟩:=h d (.head _)
  have ih:=KN (m0:=m0) p g ds λd' hd=>h d' (.tail _ hd)
  unfold FA
  rw [e1,D9,e2,D9]
  cases c:p d with
  | true=>rw [if_pos rfl,e3 c,D9,EB,if_pos (show gOk none m0 mu from True.intro),ih,D9,List.filter_cons_of_pos c,AL]
  | false=>rw [if_neg AF,EB,if_pos (show gOk none m0 mu from True.intro),ih,List.filter_cons_of_neg (by simp [c])]
theorem Ij {m0:Sto}{tg:Gx}{el:Ex}{ro:Ro}{mu:Sto}(g:D->D)(ds:List D)(h:∀ d∈ds,∃ ro1,tg d ro mu=some (ro1,mu)∧el ro1 mu=some (g d,mu)):FA none m0 tg tY el ro ds mu=some (ds.map g,mu):=by
 have:=KN (m0:=m0) (tg:=tg) (tt:=tY) (el:=el) (ro:=ro) (mu:=mu) (λ_=>true) g ds λd hd=>by
  obtain ⟨ro1,e1,e2⟩:=h d hd
  exact ⟨ro1,e1,rfl,λ_=>e2⟩
 rw [this,List.filter_eq_self.mpr (λ_ _=>rfl)]
theorem L7 {m0:Sto}{tg:Gx}{el:Ex}{ro:Ro}{mu:Sto}(g:D->Bool)(ds:List D)(h:∀ d∈ds,∃ ro1,tg d ro mu=some (ro1,mu)∧el ro1 mu=some (.bl (g d),mu)):FA none m0 tg tY el ro ds mu=some ((ds.map g).map D.bl,mu):=by
 rw [Ij (λd=>.bl (g d)) ds h,AI]
 rfl
@[simp] theorem Ss {mu:Sto}{ds:List D}{g:D->Bool}:JD [.lst ((ds.map g).map D.bl)] mu=some (.bl (ds.all g),mu):=by
 rw [ZC,List.all_map]
 rfl
end PV
namespace K1
open PySem L2 PyProof.Rows
noncomputable abbrev DR:Str:="abcdefghijklmnopqrstuvwxyz0123456789"
structure IsW (x:Str):Prop where
 lo:1≤x.length
 hi:x.length≤8
 al:∀ c∈x.cps.toList,c∈DR.cps.toList
theorem GZ:DR.cps.toList.length=36:=by decide +kernel
theorem SE:DR.cps.toList.Nodup:=by decide +kernel
theorem AaP (c:Nat)(n:Int)(h0:0≤n)(h7:n≤7):MulOk ⟨#[c]⟩ n:=by
 have e:n=0∨n=1∨n=2∨n=3∨n=4∨n=5∨n=6∨n=7:=by omega
 have l:(⟨#[c]⟩:Str).length=1:=rfl
 unfold MulOk
 rw [l]
 rcases e with rfl|rfl|rfl|rfl|rfl|rfl|rfl|rfl<;>decide
theorem mul_list (c:Nat)(n:Int)(h0:0≤n)(h7:n≤7):(Txt.mul ⟨#[c]⟩ n).cps.toList=List.replicate n.toNat c:=by
 have e:n=0∨n=1∨n=2∨n=3∨n=4∨n=5∨n=6∨n=7:=by omega
 rcases e with rfl|rfl|rfl|rfl|rfl|rfl|rfl|rfl<;>rfl
theorem Uo {x:Str}{j:Int}(h0:0≤j)(h1:j≤x.length):(Txt.slice x none (some j)).cps.toList=x.cps.toList.take j.toNat:=by
 have h:=slice_closes_to (x:=x) (j:=j) ⟨h0,by simpa [Str.length] using h1⟩
 rw [eq_of_beq h]
 simp
theorem OX {x:Str}{j:Int}(h0:0≤j)(h1:j≤x.length):(Txt.slice x (some j) none).cps.toList=x.cps.toList.drop j.toNat:=by
 rw [slice_from_eq h0 h1 rfl]
 apply B6
 simp [Str.length]
 omega
noncomputable def wrd (A B:Str)(fi st:Int)(k:Nat):Str:=A++⟨#[DR.cps.toList.getD ((fi+st*k) % 36).toNat 0]⟩++B
theorem Od (A B:Str)(fi st:Int)(k:Nat):(wrd A B fi st k).cps.toList=A.cps.toList++[DR.cps.toList.getD ((fi+st*k) % 36).toNat 0]++B.cps.toList:=by
 unfold wrd
 rw [Str.cps_append,Str.cps_append,Array.toList_append,Array.toList_append]
theorem HP {j:Int}(h0:0≤j)(h1:j<36):DR.cps.toList[j.toNat]? = some (DR.cps.toList.getD j.toNat 0):=by
 have h:j.toNat<DR.cps.toList.length:=by rw [GZ];omega
 rw [AJ,Ao h]
 rfl
noncomputable def K0 (st:Int):Prop:=st=1∨st=5∨st=7∨st=11∨st=13∨st=17
theorem Ua {fi st:Int}{j k:Nat}(hs:K0 st)(hj:j<6)(hk:k<6)(e:(fi+st*j) % 36=(fi+st*k) % 36):j=k:=by
 rcases hs with rfl|rfl|rfl|rfl|rfl|rfl<;>omega
theorem U0 {A B:Str}{fi st:Int}{j k:Nat}(hs:K0 st)(hj:j<6)(hk:k<6)(e:wrd A B fi st j=wrd A B fi st k):j=k:=by
 have h:=congrArg (λs:Str=>s.cps.toList) e
 simp only [Od,List.append_cancel_right_eq,List.append_cancel_left_eq,List.cons.injEq,and_true] at h
 refine Ua (fi:=fi) hs hj hk ?_
 have a0:=Bs (fi+st*j) (show (36:Int)≠0 by decide)
 have a1:=Bm (fi+st*j) (show (0:Int)<36 by decide)
 have b0:=Bs (fi+st*k) (show (36:Int)≠0 by decide)
 have b1:=Bm (fi+st*k) (show (0:Int)<36 by decide)
 have e1:=HP a0 a1
 have e2:=HP b0 b1
 rw [h,← e2] at e1
 have l1:((fi+st*j) % 36).toNat<DR.cps.toList.length:=by rw [GZ];omega
 have l2:((fi+st*k) % 36).toNat<DR.cps.toList.length:=by rw [GZ];omega
 rw [Ao l1,Ao l2] at e1
 have:=(List.getElem_inj SE).mp (AE e1)
 omega
theorem V3 {A B:Str}{fi st:Int}{k:Nat}{c:Nat}(hc:c∈DR.cps.toList)(hA:∀ x∈A.cps.toList,x=c)(hB:∀ x∈B.cps.toList,x=c)(hl:A.length+B.length≤7):IsW (wrd A B fi st k):=by
 have h:=Od A B fi st k
 have hl':(wrd A B fi st k).length=A.length+1+B.length:=by
  unfold wrd
  rw [PySem.Str.length_append,PySem.Str.length_append]
  rfl
 refine ⟨by omega,by omega,λx hx=>?_⟩
 rw [h] at hx
 rcases AR.mp hx with hy|hy
 ·rcases AR.mp hy with hz|hz
  ·rw [hA x hz];exact hc
  ·rw [An.mp hz]
   exact Ar (HP (Bs (fi+st*k) (show (36:Int)≠0 by decide)) (Bm (fi+st*k) (show (0:Int)<36 by decide)))
 ·rw [hB x hy];exact hc
noncomputable def N0 (A B:Str)(fi st:Int)(n:Nat):List Str:=(List.range n).map (wrd A B fi st)
theorem Va {A B:Str}{fi st:Int}{n:Nat}(hs:K0 st)(hn:n≤6):(N0 A B fi st n).Nodup:=by
 unfold N0
 rw [AZ,List.pairwise_map]
 refine List.Pairwise.imp_of_mem (λ{a b} ha hb hne e=>hne ?_) (AZ.mp List.nodup_range)
 exact U0 hs (Au (BN.mp ha) hn) (Au (BN.mp hb) hn) e
end K1
namespace PV
open PySem L2 PyProof.Rows K1
theorem RV {j:Int}{mu:Sto}(h0:0≤j)(h1:j<36):ixD (.str DR) (.int j) mu=some (.str ⟨#[DR.cps.toList.getD j.toNat 0]⟩,mu):=by
 unfold ixD
 dsimp only
 have h:j.toNat<DR.cps.toList.length:=by rw [GZ];omega
 have e:ixN DR.cps.toList.length j=some j.toNat:=by unfold ixN;rw [if_pos h0,if_pos (by rw [GZ];exact h1)]
 unfold atI
 rw [e,Option.bind_some,HP h0 h1]
 rfl
theorem Ol {j:Int}{mu:Sto}(h0:0≤j)(h1:j<36):ixG (.str DR) (.int j) mu=some (.str ⟨#[DR.cps.toList.getD j.toNat 0]⟩,mu):=by
 unfold ixG
 rw [RV h0 h1]
section
variable {ro:Ro} {mu:Sto} {d e:D} {a b c:Ex}
noncomputable def Ic (T:String)(d:D)(m1:Sto):Rs D:=if Es m1 d=true then some (.bl (isi T d),m1) else none
@[simp] theorem AaK {T:String}:Rw T a ro mu=bM (a ro mu) (Ic T):=rfl
@[simp] theorem Zb {T:String}:Ic T .non mu=some (.bl ("NoneType"==T),mu):=by simp [Ic,Es,isi,tyN]
@[simp] theorem Zo {T:String}{x:Bool}:Ic T (.bl x) mu=some (.bl ("bool"==T||T=="int"),mu):=by simp [Ic,Es,isi,tyN]
@[simp] theorem AaS {T:String}{x:Int}:Ic T (.int x) mu=some (.bl ("int"==T),mu):=by simp [Ic,Es,isi,tyN]
@[simp] theorem Aau {T:String}{x:Str}:Ic T (.str x) mu=some (.bl ("str"==T),mu):=by simp [Ic,Es,isi,tyN]
@[simp] theorem Zy {T:String}{x:List D}:Ic T (.tup x) mu=some (.bl ("tuple"==T),mu):=by simp [Ic,Es,isi,tyN]
@[simp] theorem Aay {T:String}{x:List D}:Ic T (.lst x) mu=some (.bl ("list"==T),mu):=by simp [Ic,Es,isi,tyN]
@[simp] theorem AaL {T:String}{x y:List D}:Ic T (.dct x y) mu=some (.bl ("dict"==T),mu):=by simp [Ic,Es,isi,tyN]
@[simp] theorem Z6 {T:String}{x:List D}:Ic T (.set x) mu=some (.bl ("set"==T),mu):=by simp [Ic,Es,isi,tyN]
@[simp] theorem AaW {x y:Bool}:isD (.bl x) (.bl y) mu=some (.bl (decide (x=y)),mu):=by cases x<;>cases y<;>rfl
@[simp] theorem Xh {x y:Bool}:Jq (.bl x) (.bl y) mu=some (.bl (!decide (x=y)),mu):=by cases x<;>cases y<;>rfl
@[simp] theorem Abl {P:Prop} [Decidable P]{q:Bool}:(if P then some (D.bl q,mu) else some (D.bl false,mu))=some (D.bl (decide P&&q),mu):=by
 by_cases c:P<;>simp [c]
@[simp] theorem Abk {P:Prop} [Decidable P]{q:Bool}:(if P then some (D.bl true,mu) else some (D.bl q,mu))=some (D.bl (decide P||q),mu):=by
 by_cases c:P<;>simp [c]
@[simp] theorem Zw {P:Prop} [Decidable P]{q:Bool}:(if P then some (q,mu) else some (false,mu))=some (decide P&&q,mu):=by
 by_cases c:P<;>simp [c]
@[simp] theorem Zm {P:Prop} [Decidable P]{q:Bool}:(if P then some (true,mu) else some (q,mu))=some (decide P||q,mu):=by
 by_cases c:P<;>simp [c]
@[simp] theorem Aa0 {p q:Px}:eSl a p q ro mu=bM (a ro mu) λd m1=>bM (p ro m1) λlo m2=>bM (q ro m2) λhi m3=>slD d lo hi m3:=rfl
@[simp] theorem Aao:pNo ro mu=some (none,mu):=rfl
noncomputable def pB:D->Sto->Rs (Option Int)
 | .int i,m1=>some (some i,m1)
 | _,_=>none
@[simp] theorem Abp:Fw a ro mu=bM (a ro mu) pB:=by
 unfold Fw
 congr 1
 funext x m
 cases x<;>rfl
@[simp] theorem AbL {i:Int}:pB (.int i) mu=some (some i,mu):=rfl
@[simp] theorem Uu {ds:List D}{lo hi:Option Int}:slD (.tup ds) lo hi mu=some (.tup (cutD ds lo hi),mu):=rfl
@[simp] theorem AaV {ds:List D}{lo hi:Option Int}:slD (.lst ds) lo hi mu=some (.lst (cutD ds lo hi),mu):=rfl
@[simp] theorem Ur {α:Type}{xs:List α}:cutD xs (some 1) none=xs.drop 1:=by
 unfold cutD
 have:=HT.MD xs.length 0 1
 rw [show (some (1:Int))=some ((1:Nat):Int) from rfl,this,HT.K8]
 cases xs with
 | nil=>rfl
 | cons a r=>simp
theorem Aal {x:Str}{n:Nat}:inG (.str ⟨#[n]⟩) (.str x) mu=some (.bl (decide (n∈x.cps.toList)),mu):=by
 have:inD (.str ⟨#[n]⟩) (.str x) mu=some (.bl (decide (n∈x.cps.toList)),mu):=by
  unfold inD inB
  simp only [seen,Option.map_some]
  rw [PySem.StrLaws.found_one]
 unfold inG
 rw [this]
theorem U2 {n:Nat}{ds:List D}:EJ n ds=true ↔ ∀ d∈ds,Dh n d=true:=by
 induction ds with
 | nil=>simp [EJ]
 | cons d ds ih=>simp [EJ,ih]
mutual
theorem Sb {n m:Nat}(h:n≤m):∀ {d:D},Dh n d=true->Dh m d=true
 | .non,_=>rfl
 | .bl _,_=>rfl
 | .int _,_=>rfl
 | .str _,_=>rfl
 | .ref k,e=>by
  simp only [Dh,Ae] at e ⊢
  omega
 | .tup ds,e=>by
  simp only [Dh] at e ⊢
  exact Gh h e
 | .lst ds,e=>by
  simp only [Dh] at e ⊢
  exact Gh h e
 | .set ds,e=>by
  simp only [Dh] at e ⊢
  exact Gh h e
 | .dct ks ds,e=>by
  simp only [Dh,Ab] at e ⊢
  exact ⟨Gh h e.1,Gh h e.2⟩
theorem Gh {n m:Nat}(h:n≤m):∀ {ds:List D},EJ n ds=true->EJ m ds=true
 | [],_=>rfl
 | d::ds,e=>by
  simp only [EJ,Ab] at e ⊢
  exact ⟨Sb h e.1,Gh h e.2⟩
end
theorem Fq (h:Dh 0 d=true):nR d=true:=by
 cases d<;>first|rfl|(simp [Dh] at h)
end
end PV
namespace PV
open PySem L2 PyProof.Rows K1
variable {mu:Sto}
theorem strs_map (ss:List Str):strsOf (ss.map D.str)=some ss:=by
 induction ss with
 | nil=>rfl
 | cons x xs ih=>simp [strsOf,ih]
noncomputable def ndB (ds:List D):Bool:=decide (ds.Nodup)
theorem SW (ds:List D):∀ r:List D,(ds.foldl Ff r).length≤r.length+ds.length∧((ds.foldl Ff r).length=r.length+ds.length->(∀ d∈ds,d∉r)∧ds.Nodup):=by
 induction ds with
 | nil=>intro r;simp
 | cons d ds ih =>
  intro r
  rw [List.foldl_cons]
  by_cases c:d∈r
  ·rw [show Ff r d=r by unfold Ff;rw [if_pos c]]
   have:=(ih r).1
   refine ⟨by simp;omega,λh=>?_⟩
   simp at h
   omega
  ·rw [show Ff r d=r++[d] by unfold Ff;rw [if_neg c]]
   obtain ⟨h1,h2⟩:=ih (r++[d])
   simp only [Az,List.length_cons,List.length_nil] at h1 h2 ⊢
   refine ⟨by omega,λh=>?_⟩
   obtain ⟨h3,h4⟩:=h2 (by omega)
   refine ⟨λe he=>?_,Bn.mpr ⟨λhd=>h3 d hd (by simp),h4⟩⟩
   rcases Am.mp he with rfl|he
   ·exact c
   ·exact λhr=>h3 e he (by simp [hr])
theorem QZ (ds:List D):∀ r:List D,(∀ d∈ds,d∉r)->ds.Nodup->ds.foldl Ff r=r++ds:=by
 induction ds with
 | nil=>intro r _ _;simp
 | cons d ds ih =>
  intro r h1 h2
  rw [List.foldl_cons,show Ff r d=r++[d] by unfold Ff;rw [if_neg (h1 d (.head _))]]
  rw [Bn] at h2
  rw [ih (r++[d]) (λe he hr=>?_) h2.2]
  ·simp
  ·rcases AR.mp hr with hr|hr
   ·exact h1 e (.tail _ he) hr
   ·rw [An.mp hr] at he
    exact h2.1 he
theorem MK {ds:List D}(h:ds.Nodup):Fy ds=ds:=by
 unfold Fy
 rw [QZ ds [] (λ_ _ h=>nomatch h) h]
 rfl
theorem OH {ds:List D}:(Fy ds).length=ds.length ↔ ds.Nodup:=by
 constructor
 ·intro h
  refine ((SW ds []).2 ?_).2
  rw [List.length_nil,Nat.zero_add]
  exact h
 ·intro h
  rw [MK h]
theorem Yp {ss:List Str}(h:ss.length<4000):Lv [.tup (ss.map D.str)] mu=some (.set (Fy (ss.map D.str)),mu):=by
 simp [Lv,sq1,HD,G6,strs_map,h]
theorem YY {ss:List Str}(h:ss.length<4000):Lv [.lst (ss.map D.str)] mu=some (.set (Fy (ss.map D.str)),mu):=by
 simp [Lv,sq1,HD,G6,DX,strs_map,h]
end PV
local macro_rules|`(tactic| simp_arith only [$ls,*])=>`(tactic| simp only [PV.Q8,PV.AbY,PV.AbU,PV.Abv,PV.Aa6,PV.AbZ,PV.Abo,PV.Abe,PV.Aa2,PV.Abs,PV.AbD,PV.Aan,PV.ZR,PV.AaI,PV.Zj,PV.Z9,PV.Zv,PV.z_C,PV.Aaf,PV.AbK,PV.AbJ,PV.Zd,PV.Z3,PV.ZT,PV.Aa4,PV.Xo,PV.ZS,PV.AbA,PV.AaH,PV.Aba,PV.AbT,PV.Aae,PV.AbR,PV.X5,PV.XN,PV.Aam,PV.ZZ,PV.Y3,PV.XS,PV.Ym,PV.X6,PV.ZE,PV.Zz,PV.XX,PV.YM,PV.AbS,PV.AbX,PV.AaU,PV.ZQ,PV.AaG,PV.Z1,PV.W2,PV.YH,PV.XC,PV.Aav,PV.Y4,PV.WX,PV.W3,PV.Yj,PV.Wa,PV.ZH,PV.AbG,PV.Aa8,PV.Abi,PV.Abw,PV.Aa7,PV.AaZ,PV.Wf,PV.Zn,PV.Z0,PV.Zs,PV.ZJ,PV.Aah,PV.ZL,PV.Xs,PV.Yx,PV.SS,PV.Yy,PV.Y2,PV.YB,PV.WS,PV.YL,PV.XD,PV.Wu,PV.AaO,PV.Za,PV.Aaz,PV.M0,PV.X3,PV.Y6,PV.Y0,PV.Ss,PV.AaK,PV.Zb,PV.Zo,PV.AaS,PV.Aau,PV.Zy,PV.Aay,PV.AaL,PV.Z6,PV.AaW,PV.Xh,PV.Abl,PV.Abk,PV.Zw,PV.Zm,PV.Aa0,PV.Aao,PV.Abp,PV.AbL,PV.Uu,PV.AaV,PV.Ur,if_true,A5,reduceIte,AN,Bool.true_eq_false,↓reduceIte,List.set_cons_zero,List.set_cons_succ,AL,List.map_nil,List.length_cons,List.length_nil,Nat.reduceAdd,Nat.reduceSub,List.replicate_succ,List.replicate_zero,List.reduceReplicate,List.cons_append,List.nil_append,Option.map_some,Bool.not_true,Bool.not_false,PV.WO,PV.ZK,List.getD_cons_zero,List.getD_cons_succ,Nat.zero_add,decide_true,decide_false,Bool.decide_eq_true,Bool.true_and,Bool.false_and,Bool.true_or,Bool.false_or,Bool.or_false,BC,String.reduceBEq,$ls,*])
namespace PG
open PySem L2 PV PyProof.Rows K1
variable {mu:Sto}
noncomputable def sgB (c:Nat):Bool:=decide (c∈DR.cps.toList)
noncomputable def sgs (x:Str):Bool:=x.cps.toList.all sgB
noncomputable def wB (x:Str):Bool:=(decide (1≤(x.length:Int))&&decide ((x.length:Int)≤8))&&sgs x
noncomputable def CJ:D->Bool
 | .str x=>wB x
 | _=>false
theorem CP {x:Str}:wB x=true ↔ IsW x:=by
 unfold wB sgs
 simp only [Ab,Ae,Aq,sgB]
 constructor
 ·exact λ⟨⟨h1,h2⟩,h3⟩=>⟨by omega,by omega,h3⟩
 ·exact λh=>⟨⟨by have:=h.lo;omega,by have:=h.hi;omega⟩,h.al⟩
theorem UQ {f:D->Bool}{x:Str}(h:∀ c,f (.str ⟨#[c]⟩)=sgB c):(chars x).all f=sgs x:=by
 unfold chars sgs
 rw [List.all_map]
 congr 1
 funext c
 exact h c
theorem JB (d:D)(h:nR d=true):DA [d] mu=some (.bl (CJ d),mu):=by
 cases d with
 | ref k=>cases h
 | str x =>
  have al:=L7 (m0:=mu) (tg:=gNm 0) (el:=Ck inG (Cd 0) (eC (.str "abcdefghijklmnopqrstuvwxyz0123456789"))) (ro:=[none]) (mu:=mu) (λd=>match d with|.str y=>sgs y|_=>false) (chars x) (λd hd=>by
   unfold chars at hd
   obtain ⟨c,_,rfl⟩:=Ay.mp hd
   refine ⟨_,rfl,?_⟩
   have:=Aal (mu:=mu) (x:=DR) (n:=c)
   simp [sgB,sgs] at this ⊢
   exact this)
  have sg:=UQ (x:=x) (f:=(λd=>match d with|.str y=>sgs y|_=>false)) (λc=>by simp [sgs])
  have W:CJ (.str x)=((decide (1≤(x.length:Int))&&decide ((x.length:Int)≤8))&&sgs x):=rfl
  rw [W]
  simp_arith only [DA,IA]
  cases h1:(decide (1≤(x.length:Int))&&decide ((x.length:Int)≤8))
  ·simp_arith only []
  ·simp_arith only [al,sg]
 | _=>simp_arith only [DA,IA,CJ]
noncomputable def Dn (lo hi:Int):D->Bool
 | .tup ds=>decide (lo≤(ds.length:Int))&&decide ((ds.length:Int)≤hi)
 | _=>false
theorem Gy (d:D)(lo hi:Int)(h:nR d=true):Dl [d,.int lo,.int hi] mu=some (.bl (Dn lo hi d),mu):=by
 cases d with
 | ref k=>cases h
 | _=>simp_arith only [Dl,Jc,Dn]
noncomputable def ND:D->Bool
 | .tup ds=>ds.all CJ
 | _=>false
theorem lows {n:Nat}{ds:List D}(h:Dh n (.tup ds)=true):∀ d∈ds,Dh n d=true:=U2.mp (by simpa [Dh] using h)
theorem nRs {ds:List D}(h:Dh 0 (.tup ds)=true):∀ d∈ds,nR d=true:=λd hd=>Fq (lows h d hd)
theorem Sq (d:D)(h:Dh 0 d=true):Ds [d] mu=some (.bl (ND d),mu):=by
 cases d with
 | ref k=>cases Fq h
 | tup ds =>
  have al:=L7 (m0:=mu) (tg:=gNm 0) (el:=Ci DA (Cb (Cd 0) Cg)) (ro:=[none]) (mu:=mu) CJ ds (λd hd=>⟨_,rfl,by simp_arith only [JB d (nRs h d hd)]⟩)
  simp_arith only [Ds,D8,ND,al]
 | _=>simp_arith only [Ds,D8,ND]
theorem IH {ds:List D}(h:ds.all CJ=true):∃ ss:List Str,ds=ss.map D.str∧∀ x∈ss,IsW x:=by
 induction ds with
 | nil=>exact ⟨[],rfl,λ_ h=>nomatch h⟩
 | cons d ds ih =>
  rw [List.all_cons,Ab] at h
  obtain ⟨ss,rfl,hs⟩:=ih h.2
  cases d with
  | str x =>
   refine ⟨x::ss,rfl,λy hy=>?_⟩
   rcases Am.mp hy with rfl|hy
   ·exact CP.mp h.1
   ·exact hs y hy
  | _=>simp [CJ] at h
open Classical in
theorem RS {ds:List D}{m:Sto}:(some (D.bl (decide (((Fy ds).length:Int)=(ds.length:Int))),m):Rs D)=some (D.bl (ndB ds),m):=by
 unfold ndB
 have:=@OH ds
 by_cases c:ds.Nodup
 ·rw [this.mpr c];simp [c]
 ·have c':¬ ((Fy ds).length:Int)=(ds.length:Int):=λe=>c (this.mp (by omega))
  simp [c,c']
theorem MP {ss:List Str}(h:ss.length<4000):Dg [.tup (ss.map D.str)] mu=some (.bl (ndB (ss.map D.str)),mu):=by
 simp_arith only [Dg,Ga,Yp h]
 exact RS
theorem UY {ss:List Str}(h:ss.length<4000):Dg [.lst (ss.map D.str)] mu=some (.bl (ndB (ss.map D.str)),mu):=by
 simp_arith only [Dg,Ga,YY h]
 exact RS
noncomputable def Ho (d:D):Bool:=Dn 1 4 d&&(ND d&&match d with|.tup ds=>ndB ds|_=>false)
theorem Y9 (d:D)(h:Dh 0 d=true):Eu [d,.int 1,.int 4] mu=some (.bl (Ho d),mu):=by
 unfold Ho
 simp_arith only [Eu,GO,Gy d 1 4 (Fq h)]
 cases c:Dn 1 4 d with
 | false=>simp_arith only []
 | true =>
  simp_arith only [Sq d h]
  cases c2:ND d with
  | false=>simp_arith only []
  | true =>
   cases d with
   | tup ds =>
    obtain ⟨ss,rfl,_⟩:=IH c2
    have l4:ss.length<4000:=by
     simp only [Dn,Ag,Ab,Ae] at c
     omega
    simp_arith only [MP l4]
   | _=>simp [ND] at c2
noncomputable def OC:D->Bool
 | .tup [a,b]=>CJ a&&Ho b
 | _=>false
theorem ON {d:D}(h:Dn 2 2 d=true):∃ a b,d=.tup [a,b]:=by
 cases d with
 | tup ds =>
  simp only [Dn,Ab,Ae] at h
  match ds,h with
  | [a,b],_=>exact ⟨a,b,rfl⟩
  | [],h=>simp at h
  | [a],h=>simp at h
  | a::b::c::ds,h=>simp at h;omega
 | _=>simp [Dn] at h
theorem Abm {d:D}(h:Dn 3 3 d=true):∃ a b c,d=.tup [a,b,c]:=by
 cases d with
 | tup ds =>
  simp only [Dn,Ab,Ae] at h
  match ds,h with
  | [a,b,c],_=>exact ⟨a,b,c,rfl⟩
  | [],h=>simp at h
  | [a],h=>simp at h
  | [a,b],h=>simp at h
  | a::b::c::d::ds,h=>simp at h;omega
 | _=>simp [Dn] at h
noncomputable def DO:D->D
 | .tup (a::_)=>a
 | _=>.non
noncomputable def WH:D->Bool
 | .tup ds=>(Dn 1 4 (.tup ds)&&ds.all OC)&&ndB (ds.map DO)
 | _=>false
theorem WV {m0:Sto}{ds:List D}{f:D->Bool}(hf:∀ d,f d=true->∃ a ds,d=.tup (a::ds)∧CJ a=true)(h:ds.all f=true):FA none m0 (gNm 0) tY (Ck ixG (Cd 0) (eC (.int 0))) [none] ds mu=some (ds.map DO,mu):=by
 refine Ij DO ds λd hd=>⟨_,rfl,?_⟩
 rw [Aq] at h
 obtain ⟨a,r,rfl,w⟩:=hf d (h d hd)
 simp_arith only [DO]
noncomputable def ZY:D->Int
 | .tup ds=>ds.length
 | _=>0
noncomputable def X0 (k c:D):Bool:=match k with
 | .int i=>decide (1≤i)&&decide (i≤ZY c)
 | _=>false
noncomputable def MC:D->Bool
 | .tup [n,c,k]=>(CJ n&&WH c)&&X0 k c
 | _=>false
noncomputable def ltS:D->D->Bool
 | .str x,.str y=>decide (x.cps.toList<y.cps.toList)
 | _,_=>false
noncomputable def LH (ds:List D):Bool:=(ds.zip ds.tail).all λp=>ltS p.1 p.2
noncomputable def Vn:D->Bool
 | .tup ds=>(Dn 1 4 (.tup ds)&&ds.all MC)&&LH (ds.map DO)
 | _=>false
end PG
namespace PV
open PySem L2 PyProof.Rows K1
theorem QX (ss:List Str):Et (ss.map D.str)=true:=by
 induction ss with
 | nil=>rfl
 | cons x xs ih=>simp [Et,Dj,ih]
theorem D6 {ss:List Str}:(ss.map D.str).Nodup ↔ ss.Nodup:=by
 rw [AZ,AZ,List.pairwise_map]
 constructor
 ·exact λh=>h.imp λn e=>n (by rw [e])
 ·exact λh=>h.imp λn e=>n (by injection e)
end PV
namespace PG
open PySem L2 PV PyProof.Rows K1
variable {mu:Sto}
end PG
namespace PV
open PySem L2 PyProof.Rows K1
theorem OE (ss:List Str):GY (ss.map D.str)=true:=by
 induction ss with
 | nil=>rfl
 | cons x xs ih=>simp [GY,hsh,ih]
theorem Om (ss:List Str):PyData.depthAll (CA (ss.map D.str))≤1:=by
 induction ss with
 | nil=>simp [CA,PyData.depthAll]
 | cons x xs ih=>simp [CA,toPy,PyData.depthAll,PyData.depth];omega
theorem P2 (x y:Str):ltT (.str x) (.str y)=decide (x.cps.toList<y.cps.toList):=by
 unfold ltT
 rw [show Dd (.str x) (.str y)=HK x y from rfl,Bool.eq_iff_iff,beq_iff_eq,GD,Ae]
theorem Qw {ss:List Str}(h:ss.length<64):F5 (ss.map D.str)=true:=by
 unfold F5
 simp only [Ab,Ae,Ag,Aq,Bool.or_eq_true,NO]
 refine ⟨⟨⟨h,λd hd=>?_⟩,λd hd e he=>?_⟩,.inl λd hd=>?_⟩
 ·obtain ⟨x,_,rfl⟩:=Ay.mp hd
  rfl
 ·obtain ⟨x,_,rfl⟩:=Ay.mp hd
  obtain ⟨y,_,rfl⟩:=Ay.mp he
  rfl
 ·obtain ⟨x,_,rfl⟩:=Ay.mp hd
  rfl
theorem X7 {ss:List Str}{mu:Sto}(h:ss.length<64):Og [.set (ss.map D.str)] mu=some (.lst (GX (ss.map D.str)),mu):=by
 simp only [Og,HD,UK,Qw h,if_true]
theorem XF {ss:List Str}{mu:Sto}(h:ss.length<64):Og [.lst (ss.map D.str)] mu=some (.lst (GX (ss.map D.str)),mu):=by
 simp only [Og,HD,UK,G6,DX,Qw h,if_true]
theorem Vp {ss:List Str}{mu:Sto}(h:ss.length<64):PQ [.lst (ss.map D.str)] mu=some (.lst (GX (ss.map D.str)),mu):=by
 unfold PQ
 rw [XF h]
theorem LV {es:List D}{ss:List Str}(h:es.Perm (ss.map D.str)):∃ ts:List Str,es=ts.map D.str∧ts.Perm ss:=by
 have al:∀ d∈es,∃ x,d=D.str x:=λd hd=>by
  obtain ⟨x,_,e⟩:=Ay.mp (h.mem_iff.mp hd)
  exact ⟨x,e.symm⟩
 have:∃ ts:List Str,es=ts.map D.str:=by
  clear h
  induction es with
  | nil=>exact ⟨[],rfl⟩
  | cons d es ih =>
   obtain ⟨x,rfl⟩:=al d (.head _)
   obtain ⟨ts,rfl⟩:=ih λd hd=>al d (.tail _ hd)
   exact ⟨x::ts,rfl⟩
 obtain ⟨ts,rfl⟩:=this
 refine ⟨ts,rfl,?_⟩
 have:=h.map (λd=>match d with|.str x=>x|_=>(⟨#[]⟩:Str))
 simpa [AI,Function.comp_def] using this
end PV
namespace PG
open PySem L2 PV PyProof.Rows K1
variable {mu:Sto}
theorem O2:∀ (ss:List Str),LH (ss.map D.str)=true ↔ ss.Pairwise λx y=>x.cps.toList<y.cps.toList
 | []=>by simp [LH]
 | [x]=>by simp [LH]
 | x::y::ss=>by
  have ih:=O2 (y::ss)
  have e:LH ((x::y::ss).map D.str)=(decide (x.cps.toList<y.cps.toList)&&LH ((y::ss).map D.str)):=rfl
  rw [e,Ab,ih,Ae]
  constructor
  ·intro ⟨h1,h2⟩
   refine List.pairwise_cons.mpr ⟨λz hz=>?_,h2⟩
   rcases Am.mp hz with rfl|hz
   ·exact h1
   ·exact List.lt_trans h1 ((List.pairwise_cons.mp h2).1 z hz)
  ·exact λh=>⟨(List.pairwise_cons.mp h).1 y (by simp),(List.pairwise_cons.mp h).2⟩
theorem UE {ss:List Str}(h:ss.Pairwise λx y=>x.cps.toList<y.cps.toList):ss.Nodup:=by
 rw [AZ]
 exact h.imp λl e=>by subst e;exact List.lt_irrefl _ l
theorem V7 (ss:List Str):decide (ss.map D.str=GX (Fy (ss.map D.str)))=LH (ss.map D.str):=by
 have ord:∀ (ts:List Str),∀ d∈ts.map D.str,HL d=true:=λts d hd=>by
  obtain ⟨x,_,rfl⟩:=Ay.mp hd
  rfl
 rw [Bool.eq_iff_iff,Ae,O2]
 constructor
 ·intro h
  have p:=EI (Fy (ss.map D.str))
  rw [← h] at p
  have nd:=OH.mp p.length_eq.symm
  have up:=Nk (Fy (ss.map D.str))
  rw [← h,List.pairwise_map] at up
  have ne:=AZ.mp (D6.mp nd)
  refine (up.and ne).imp λ{x y} ⟨l,n⟩=>?_
  have l':¬ y.cps.toList<x.cps.toList:=by
   unfold leT at l
   rw [P2] at l
   simpa using l
  have c:=J0 x y
  cases q:HK x y with
  | lt=>exact GD.mp q
  | eq=>exact (n (JF.mp q)).elim
  | gt=>exact (l' (KJ.mp q)).elim
 ·intro h
  rw [MK (D6.mpr (UE h))]
  refine KH (ord ss) (List.Perm.refl _) ?_
  rw [List.pairwise_map]
  refine h.imp λ{x y} l=>?_
  unfold leT
  rw [P2]
  have:=List.lt_asymm l
  simp [this]
end PG
namespace PV
open PySem L2 PyProof.Rows K1
variable {mu:Sto}
theorem Li {i j:Int}(h:CMul i j):F2 (.int i) (.int j) mu=some (.int (i*j),mu):=by
 unfold F2
 dsimp only
 rw [if_pos h]
theorem SF {i j:Int}(h:MN i j):K5 (.int i) (.int j) mu=some (.int (i / j),mu):=by
 unfold K5
 dsimp only
 rw [if_pos h]
theorem WJ {o i:Ex}{d:D}{ro:Ro}:gIx o i d ro mu=bM (o ro mu) λx m1=>bM (i ro m1) λe m2=>bM (putG x e d m2) λ_ m3=>some (ro,m3):=rfl
theorem WK {k:Nat}{ds:List D}{v:D}{j:Nat}(h:mu[k]? = some (.lst ds))(hj:j<ds.length):putG (.ref k) (.int j) v mu=some ((),mu.set k (.lst (ds.set j v))):=by
 have e:ixN ds.length (j:Int)=some j:=by
  unfold ixN
  rw [if_pos (by omega),if_pos (by omega),Int.toNat_natCast]
 simp only [putG,h,U8,e]
theorem PZ {k:Nat}{ds:List D}{d:D}{j:Nat}(h:mu[k]? = some (.lst ds))(hd:ds[j]? = some d):ixG (.ref k) (.int j) mu=some (d,mu):=by
 have:=(Af.mp hd).1
 have e:ixN ds.length (j:Int)=some j:=by
  unfold ixN
  rw [if_pos (by omega),if_pos (by omega),Int.toNat_natCast]
 have:ixD (.ref k) (.int j) mu=some (d,mu):=by
  simp only [ixD,DX,h,atI,e,Option.bind_some,hd,Option.map_some]
 unfold ixG
 rw [this]
theorem Ha {k:Nat}{o o':MO}(h:mu[k]? = some o):(mu.set k o')[k]? = some o':=by
 have:=(Af.mp h).1
 simp [this]
noncomputable def HandOk (mu:Sto)(k n:Nat):Prop:=∃ a b c:Int,mu[k]? = some (.lst [.int a,.int b,.int c])∧(-(2 ^ 63)<b∧b<2 ^ 63)∧0≤c∧c+n<2 ^ 40
theorem HandOk.mono {mu:Sto}{k n n':Nat}(h:HandOk mu k n)(l:n'≤n):HandOk mu k n':=by
 obtain ⟨a,b,c,h1,h2,h3,h4⟩:=h
 exact ⟨a,b,c,h1,h2,h3,by omega⟩
theorem HandOk.lt {k n:Nat}(h:HandOk mu k n):k<mu.length:=by
 obtain ⟨a,b,c,h1,_⟩:=h
 exact (Af.mp h1).1
noncomputable def Flat (mu:Sto):Prop:=∀ (j:Nat) (o:MO),mu[j]? = some o->Ni 0 o=true
structure Fr (k n:Nat) (mu mu':Sto):Prop where
 hand:HandOk mu' k n
 keep:∀ j,j≠k->mu'[j]? = mu[j]?
 len:mu'.length=mu.length
theorem Fr.refl {k n:Nat}{mu:Sto}(h:HandOk mu k n):Fr k n mu mu:=⟨h,λ_ _=>rfl,rfl⟩
theorem Fr.trans {k n n':Nat}{a b c:Sto}(x:Fr k n a b)(y:Fr k n' b c):Fr k n' a c:=⟨y.hand,λj hk=>(y.keep j hk).trans (x.keep j hk),y.len.trans x.len⟩
theorem Fr.mono {k n n':Nat}{a b:Sto}(x:Fr k n a b)(l:n'≤n):Fr k n' a b:=⟨x.hand.mono l,x.keep,x.len⟩
theorem Fr.flat {k n:Nat}{a b:Sto}(x:Fr k n a b)(h:Flat a):Flat b:=by
 intro j o e
 by_cases c:j=k
 ·subst c
  obtain ⟨_,_,_,h1,_⟩:=x.hand
  rw [h1] at e
  cases e
  rfl
 ·rw [x.keep j c] at e
  exact h j o e
noncomputable def Run (r:Rs D)(k n:Nat)(mu:Sto)(P:D->Prop):Prop:=∃ d mu',r=some (d,mu')∧Fr k n mu mu'∧P d
theorem W9 {ds:List D}{t:Int}(h0:0≤t)(h1:t<ds.length):∃ d,d∈ds∧ds[t.toNat]? = some d:=by
 have h:t.toNat<ds.length:=by omega
 exact ⟨ds[t.toNat],B7 h,Ao h⟩
theorem Qu {ds:List D}{d:D}{t:Int}(s:D)(hs:s=.lst ds∨s=.tup ds)(h0:0≤t)(h:ds[t.toNat]? = some d):ixG s (.int t) mu=some (d,mu):=by
 have:=Z7 (mu:=mu) s hs h
 rwa [Int.toNat_of_nonneg h0] at this
end PV
namespace PG
open PySem L2 PV PyProof.Rows K1
variable {mu:Sto}
theorem DQ {k n:Nat}{m:Int}(h:HandOk mu k (n+1))(m0:0<m)(m1:m<1073741824):Run (Cs [.ref k,.int m] mu) k n mu λd=>∃ t:Int,d=.int t∧0≤t∧t<m:=by
 obtain ⟨a,b,c,h1,h2,h3,h4⟩:=h
 have hk:k<mu.length:=(Af.mp h1).1
 have fr:∀ a' c':Int,0≤c'->c'≤c+1->Fr k n mu (mu.set k (.lst [.int a',.int b,.int c'])):=λa' c' z1 z2=>⟨⟨a',b,c',Ha h1,h2,z1,by omega⟩,λj hj=>by rw [AG (Ne.symm hj)],by simp⟩
 have i0:ixG (.ref k) (.int 0) mu=some (.int a,mu):=PZ (j:=0) h1 rfl
 by_cases ha:0<a
 ·refine ⟨.int (a % m),_,?_,fr (a / m) c h3 (by omega),a % m,rfl,Bs _ (by omega),Bm _ m0⟩
  have cd:MN a m:=⟨m0,m1⟩
  have p0:∀ v,putG (.ref k) (.int 0) v mu=some ((),mu.set k (.lst [v,.int b,.int c])):=λv=>WK (j:=0) h1 (by simp)
  have ha':decide (0<a)=true:=by simp [ha]
  simp_arith only [Cs,HB,i0,ha',Jp m0,SF cd,WJ,p0]
 ·refine ⟨.int (((b*(48271+2*(c+1)*(c+1)+65537*(c+1)) % 2305843009213693921*(b*(48271+2*(c+1)*(c+1)+65537*(c+1)) % 2305843009213693921 % 1000003+(c+1)*99991+11) % 2305843009213693907) / 97+(b*(48271+2*(c+1)*(c+1)+65537*(c+1)) % 2305843009213693921*(b*(48271+2*(c+1)*(c+1)+65537*(c+1)) % 2305843009213693921 % 1000003+(c+1)*99991+11) % 2305843009213693907) / 1000033) % m),_,?_,fr a (c+1) (by omega) (by omega),_,rfl,Bs _ (by omega),Bm _ m0⟩
  have hs:∀ o,(mu.set k o)[k]? = some o:=λo=>Ha h1
  have c1:CMul 2 (c+1):=.inl ⟨by decide,by decide⟩
  have c2:CMul (2*(c+1)) (c+1):=.inl ⟨by omega,by omega⟩
  have c3:CMul 65537 (c+1):=.inl ⟨by decide,by decide⟩
  have c4:∀ z,CMul b z:=λz=>.inl ⟨by omega,by omega⟩
  have c5:CMul (c+1) 99991:=.inr ⟨by decide,by decide⟩
  have c6:∀ y z:Int,CMul (y % 2305843009213693921) z:=λy z=>.inl ⟨by omega,by omega⟩
  have c7:∀ y:Int,MN y 97:=λy=>⟨by decide,by decide⟩
  have c8:∀ y:Int,MN y 1000033:=λy=>⟨by decide,by decide⟩
  have i2:ixG (.ref k) (.int 2) mu=some (.int c,mu):=PZ (j:=2) h1 rfl
  have p2:∀ v,putG (.ref k) (.int 2) v mu=some ((),mu.set k (.lst [.int a,.int b,v])):=λv=>WK (j:=2) h1 (by simp)
  have j1:∀ v,ixG (.ref k) (.int 1) (mu.set k (.lst [.int a,.int b,v]))=some (.int b,mu.set k (.lst [.int a,.int b,v])):=λv=>PZ (j:=1) (hs _) rfl
  have j2:∀ v,ixG (.ref k) (.int 2) (mu.set k (.lst [.int a,.int b,v]))=some (v,mu.set k (.lst [.int a,.int b,v])):=λv=>PZ (j:=2) (hs _) rfl
  have ha':decide (0<a)=false:=by simp [ha]
  simp_arith only [Cs,HB,i0,ha',Jp,Jp m0,SF,Li,WJ,i2,p2,j1,j2,c1,c2,c3,c4,c5,c6,c7,c8,Int.reduceLT]
theorem pick_run {k n:Nat}{s:D}{ds:List D}(hs:s=.lst ds∨s=.tup ds)(hn:ds≠[])(hl:ds.length<1073741824)(h:HandOk mu k (n+1)):Run (CO [.ref k,s] mu) k n mu λd=>d∈ds:=by
 have pos:0<ds.length:=List.length_pos_iff.mpr hn
 obtain ⟨_,mu',e,fr,t,rfl,t0,t1⟩:=DQ (m:=ds.length) h (by omega) (by omega)
 obtain ⟨d,hd,ed⟩:=W9 t0 t1
 refine ⟨d,mu',?_,fr,hd⟩
 have ix:=Qu (mu:=mu') s hs t0 ed
 rcases hs with rfl|rfl
 ·simp_arith only [CO,Hz,e,ix]
 ·simp_arith only [CO,Hz,e,ix]
theorem Ux:∀ c∈DR.cps.toList,decide (c<0x110000)=true:=by decide +kernel
theorem KW {x:Str}(h:∀ c∈x.cps.toList,c∈DR.cps.toList):PyData.strOk x=true:=by
 unfold PyData.strOk
 rw [← Array.all_toList,Aq]
 exact λc hc=>Ux c (h c hc)
theorem S4 {x y:Str}(h:x.length+y.length≤sizeLine):Dc (.str x) (.str y) mu=some (.str (x++y),mu):=by
 simp only [Dc,h,if_true]
theorem Ww {x:Str}{lo hi:Option Int}(h:PyData.strOk (Txt.slice x lo hi)=true):slD (.str x) lo hi mu=some (.str (Txt.slice x lo hi),mu):=by
 simp only [slD,h,if_true]
theorem J3 {k n:Nat}{many:Int}(m0:0≤many)(m6:many≤6)(h:HandOk mu k (n+5)):Run (EA [.ref k,.int many,.int 8] mu) k n mu λd=>∃ ws:List Str,d=.lst (ws.map D.str)∧(ws.length:Int)=many∧ws.Nodup∧∀ x∈ws,IsW x:=by
 obtain ⟨_,mu1,e1,f1,fi,rfl,a0,a1⟩:=DQ (m:=36) (n:=n+4) h (by decide) (by decide)
 obtain ⟨st,mu2,e2,f2,hst⟩:=pick_run (s:=.lst [.int 1,.int 5,.int 7,.int 11,.int 13,.int 17]) (n:=n+3) (.inl rfl) (by simp) (by decide) f1.hand
 obtain ⟨_,mu3,e3,f3,si,rfl,b0,b1⟩:=DQ (m:=36) (n:=n+2) f2.hand (by decide) (by decide)
 obtain ⟨mv,mu4,e4,f4,hmv⟩:=pick_run (s:=.lst [.int 0,.int 1,.int 0,.int 2,.int 7]) (n:=n+1) (.inl rfl) (by simp) (by decide) f3.hand
 obtain ⟨s',rfl,hs⟩:∃ s':Int,st=.int s'∧K0 s':=by
  simp only [Am,AQ,BB] at hst
  unfold K0
  rcases hst with rfl|rfl|rfl|rfl|rfl|rfl<;>exact ⟨_,rfl,by decide⟩
 obtain ⟨v,rfl,v0,v7⟩:∃ v:Int,mv=.int v∧0≤v∧v≤7:=by
  simp only [Am,AQ,BB] at hmv
  rcases hmv with rfl|rfl|rfl|rfl|rfl<;>exact ⟨_,rfl,by decide,by decide⟩
 have hmin:Oq [.int 7,.int v] mu4=some (.int v,mu4):=by
  have:(if v<7 then v else 7)=v:=by split<;>omega
  simp only [Oq,PV.ints2,Option.map_some,this]
 obtain ⟨ch,hc,ix3⟩:∃ ch,ch∈DR.cps.toList∧ixG (.str (Str.ofString "abcdefghijklmnopqrstuvwxyz0123456789")) (.int si) mu3=some (.str ⟨#[ch]⟩,mu3):=⟨_,Ar (HP b0 b1),Ol b0 b1⟩
 have len:(Txt.mul ⟨#[ch]⟩ v).length=v.toNat:=by
  have:=congrArg List.length (mul_list (ch) v v0 v7)
  simpa [Str.length] using this
 generalize hst:Txt.mul ⟨#[ch]⟩ v=stem at len
 have stl:stem.cps.toList=List.replicate v.toNat (ch):=by rw [← hst];exact mul_list _ v v0 v7
 have stAll:∀ x∈stem.cps.toList,x=ch:=λx hx=>by rw [stl] at hx;exact (List.mem_replicate.mp hx).2
 obtain ⟨_,mu5,e5,f5,at',rfl,c0,c1⟩:=DQ (m:=(stem.length:Int)+1) (n:=n) f4.hand (by omega) (by omega)
 have at2:at'≤stem.length:=by omega
 have sl1:=Uo (x:=stem) c0 at2
 have sl2:=OX (x:=stem) c0 at2
 have allA:∀ x∈(Txt.slice stem none (some at')).cps.toList,x=ch:=λx hx=>stAll x (by rw [sl1] at hx;exact List.mem_of_mem_take hx)
 have allB:∀ x∈(Txt.slice stem (some at') none).cps.toList,x=ch:=λx hx=>stAll x (by rw [sl2] at hx;exact List.mem_of_mem_drop hx)
 have lens:(Txt.slice stem none (some at')).length+(Txt.slice stem (some at') none).length≤7:=by
  have l1:=congrArg List.length sl1
  have l2:=congrArg List.length sl2
  simp only [Array.length_toList,Bc,BJ] at l1 l2
  have ls:stem.cps.size=v.toNat:=len
  unfold Str.length
  omega
 refine ⟨.lst ((N0 (Txt.slice stem none (some at')) (Txt.slice stem (some at') none) fi s' many.toNat).map D.str),mu5,?_,(((f1.trans f2).trans f3).trans f4).trans f5,_,rfl,by simp [N0];omega,Va hs (by omega),λx hx=>?_⟩
 ·have mo:MulOk ⟨#[ch]⟩ v:=AaP _ v v0 v7
  have okm:PyData.strOk stem=true:=KW λc h=>by rw [stAll c h];exact hc
  have okA:PyData.strOk (Txt.slice stem none (some at'))=true:=KW λc h=>by rw [allA c h];exact hc
  have okB:PyData.strOk (Txt.slice stem (some at') none)=true:=KW λc h=>by rw [allB c h];exact hc
  have zl:stem.length≤sizeLine:=by rw [AO];omega
  have lc:FA none mu5 (gNm 0) tY (Ck Dc (Ck Dc (eSl (Cd 1) pNo (Fw (Cd 2))) (Ck ixG (Cd 3) (Ck GB (Ck Dc (Cd 4) (Ck F2 (Cd 5) (Cd 0))) (eC (.int 36))))) (eSl (Cd 1) (Fw (Cd 2)) pNo)) [none,some (.str stem),some (.int at'),some (.str DR),some (.int fi),some (.int s')] (E3 0 many.toNat) mu5=some ((N0 (Txt.slice stem none (some at')) (Txt.slice stem (some at') none) fi s' many.toNat).map D.str,mu5):=by
   have ew:(N0 (Txt.slice stem none (some at')) (Txt.slice stem (some at') none) fi s' many.toNat).map D.str=(E3 0 many.toNat).map λd=>match d with|.int i=>.str (wrd (Txt.slice stem none (some at')) (Txt.slice stem (some at') none) fi s' i.toNat)|_=>.non:=by
    unfold N0 E3
    rw [AI,AI]
    refine List.map_congr_left λj _=>?_
    simp
   rw [ew]
   refine Ij _ _ λd hd=>⟨_,rfl,?_⟩
   unfold E3 at hd
   obtain ⟨j,hj,rfl⟩:=Ay.mp hd
   have i0:=Bs (fi+s'*(j:Int)) (show (36:Int)≠0 by decide)
   have i1:=Bm (fi+s'*(j:Int)) (show (0:Int)<36 by decide)
   have ix:=Ol (mu:=mu5) i0 i1
   have cm:CMul s' (j:Int):=.inl (by rcases hs with rfl|rfl|rfl|rfl|rfl|rfl<;>exact ⟨by decide,by decide⟩)
   have z1:(Txt.slice stem none (some at')).length+(⟨#[DR.cps.toList.getD ((fi+s'*(j:Int)) % 36).toNat 0]⟩:Str).length≤sizeLine:=by
    rw [AO,show (⟨#[DR.cps.toList.getD ((fi+s'*(j:Int)) % 36).toNat 0]⟩:Str).length=1 from rfl]
    omega
   have z2:(Txt.slice stem none (some at')++(⟨#[DR.cps.toList.getD ((fi+s'*(j:Int)) % 36).toNat 0]⟩:Str)).length+(Txt.slice stem (some at') none).length≤sizeLine:=by
    rw [AO,PySem.Str.length_append,show (⟨#[DR.cps.toList.getD ((fi+s'*(j:Int)) % 36).toNat 0]⟩:Str).length=1 from rfl]
    omega
   simp_arith only [Ww okA,Ww okB,Li cm,Jp,Int.reduceLT,Int.zero_add,ix,S4 z1,S4 z2,Int.toNat_natCast]
   rfl
  have mm:F2 (.str ⟨#[ch]⟩) (.int v) mu4=some (.str stem,mu4):=by
   unfold F2
   dsimp only
   rw [hst,if_pos ⟨mo,zl,okm⟩]
  have rg:=PX (mu:=mu5) (ro:=[some (.ref k),some (.int many),some (.int 8),some (.str DR),some (.int fi),some (.int s'),some (.str stem),some (.int at')]) (r:=Cb (Cd 1) Cg) (n:=many) (m:=mu5) rfl (by omega) (by rw [AO];omega)
  have rg':iRg (Cb (Cd 1) Cg) [some (.ref k),some (.int many),some (.int 8),some (.str (Str.ofString "abcdefghijklmnopqrstuvwxyz0123456789")),some (.int fi),some (.int s'),some (.str stem),some (.int at')] mu5=some ((E3 0 many.toNat,none),mu5):=rg
  simp_arith only [EA,HY,e1,e2,e3,ix3,Int.reduceSub,e4,hmin,mm,e5,rg',lc]
 ·unfold N0 at hx
  obtain ⟨j,_,rfl⟩:=Ay.mp hx
  exact V3 hc allA allB lens
theorem Uz {k n:Nat}{ns:List Int}(hk:k<64)(hn:n<2 ^ 39):∃ o,E1 [.lst (ns.map D.int),.int k] mu=some (.ref mu.length,mu++[o])∧HandOk (mu++[o]) mu.length n:=by
 have fin:∀ c:Int,∃ a b:Int,sRt (GF (Cb (Ck F2 (Cd 2) (Ci SM (Cb (Ck geD (Cd 2) (Ck TB (eC (.int 10)) (eC (.int 18)))) Cg))) (Cb (Ck Dc (Ck Dc (Ck GB (Cd 2) (eC (.int 2305843009213693951))) (Ck F2 (eC (.int 7919)) (Cd 1))) (eC (.int 3))) (Cb (eC (.int 0)) Cg)))) [some (.lst (ns.map D.int)),some (.int k),some (.int c)] mu=some ((.rt (.ref mu.length),[some (.lst (ns.map D.int)),some (.int k),some (.int c)]),mu++[.lst [.int a,.int b,.int 0]])∧(-(2 ^ 63)<b∧b<2 ^ 63):=by
  intro c
  refine ⟨c*(if (1000000000000000000:Int)≤c then 1 else 0),c % 2305843009213693951+7919*(k:Int)+3,?_,?_⟩
  ·have p1:QN 10 18:=⟨by decide,by decide,by decide⟩
   have p3:CMul 7919 (k:Int):=.inl ⟨by decide,by decide⟩
   have p4:CMul c (if (1000000000000000000:Int)≤c then 1 else 0):=.inr (by split<;>exact ⟨by decide,by decide⟩)
   simp [sRt,GF,Cb,Cg,Ck,Cd,Ci,eC,bM,geD,SD,TB,p1,SM,intOf,F2,p3,Dc,GB,p4]
  ·have:=Bs c (show (2305843009213693951:Int)≠0 by decide)
   have:=Bm c (show (0:Int)<2305843009213693951 by decide)
   omega
 have done:∀ (a b:Int),(-(2 ^ 63)<b∧b<2 ^ 63)->HandOk (mu++[.lst [.int a,.int b,.int 0]]) mu.length n:=λa b hb=>⟨a,b,0,by simp,hb,Int.le_refl _,by omega⟩
 by_cases c:k<ns.length
 ·have e:ixG (.lst (ns.map D.int)) (.int k) mu=some (.int ns[k],mu):=Z7 _ (.inl rfl) (by simp [c])
  obtain ⟨a,b,e2,hb⟩:=fin ns[k]
  refine ⟨_,?_,done a b hb⟩
  have c':decide ((k:Int)<((ns.map D.int).length:Int))=true:=by simp [c]
  generalize hR:sRt (GF _)=R at e2
  simp only [E1,Hu,hR]
  simp_arith only [c',e,e2]
 ·obtain ⟨a,b,e2,hb⟩:=fin 0
  refine ⟨_,?_,done a b hb⟩
  have c':decide ((k:Int)<((ns.map D.int).length:Int))=false:=by simp [c]
  generalize hR:sRt (GF _)=R at e2
  simp only [E1,Hu,hR]
  simp_arith only [c',e2]
end PG
namespace PV
open PySem L2 PyProof.Rows K1
variable {mu:Sto}
theorem GN {m0:Sto}{tg:Gx}{body:Sx}(Inv:Nat->Ro->Sto->Prop):∀ (ds:List D) (i:Nat) (ro:Ro) (mu:Sto),Inv i ro mu->(∀ j d ro mu,ds[j]? = some d->Inv (i+j) ro mu->∃ ro1 m1 ro2 m2,tg d ro mu=some (ro1,m1)∧body ro1 m1=some ((.nx,ro2),m2)∧Inv (i+j+1) ro2 m2) ->
  ∃ ro' mu',FV none m0 tg body ds ro mu=some ((.nx,ro'),mu')∧Inv (i+ds.length) ro' mu'
 | [],i,ro,mu,h,_=>⟨ro,mu,rfl,h⟩
 | d::ds,i,ro,mu,h,st=>by
  obtain ⟨ro1,m1,ro2,m2,e1,e2,h2⟩:=st 0 d ro mu rfl h
  obtain ⟨ro',mu',e3,h3⟩:=GN (m0:=m0) (tg:=tg) (body:=body) Inv ds (i+1) ro2 m2 h2 λj d' ro mu ed hi=>by
   have:=st (j+1) d' ro mu (by simpa using ed) (by rw [show i+(j+1)=i+1+j by omega];exact hi)
   rw [show i+(j+1)+1=i+1+j+1 by omega] at this
   exact this
  refine ⟨ro',mu',?_,by rw [List.length_cons,show i+(ds.length+1)=i+1+ds.length by omega];exact h3⟩
  unfold FV
  rw [e1,D9,e2,D9]
  dsimp only
  rw [EB,if_pos (show gOk none m0 m2 from True.intro),e3]
theorem Lh {n j:Nat}{d:D}(h:(E3 0 n)[j]? = some d):d=.int j∧j<n:=by
 unfold E3 at h
 rw [Av] at h
 cases q:(List.range n)[j]? with
 | none=>rw [q] at h;cases h
 | some k =>
  rw [q] at h
  obtain ⟨hj,e⟩:=Af.mp q
  rw [List.length_range] at hj
  rw [List.getElem_range] at e
  subst e
  exact ⟨by simpa using h.symm,hj⟩
theorem KL (n:Nat):(E3 0 n).length=n:=by simp [E3]
theorem append_at {mu':Sto}{r:Nat}{ds ds0:List D}{y:D}(h0:mu[r]? = some (.lst ds0))(h:mu'[r]? = some (.lst ds))(hl:ds.length<sizeLine){ro:Ro}{i:Nat}{e:Ex}(h1:Cd i ro mu=some (.ref r,mu))(h2:e ro mu=some (y,mu')):LK (Cd i) (Cb e Cg) ro mu=some (.non,mu'.set r (.lst (ds++[y]))):=by
 have ok:Es mu (.ref r)=true:=by simp [Es,h0]
 have a1:HD [y]=some y:=rfl
 simp only [LK,h1,Q8,ok,if_true,XN,X5,h2,a1,h,hl]
theorem Vx {n x y:Int}(hn:0<n)(h:x % n=y % n)(h1:x-y<n)(h2:y-x<n):x=y:=by
 have e1:=Int.mul_ediv_add_emod x n
 have e2:=Int.mul_ediv_add_emod y n
 have e:n*(x / n-y / n)=x-y:=by rw [Int.mul_sub];omega
 rcases Int.lt_trichotomy (x / n-y / n) 0 with c|c|c
 ·have:n*(x / n-y / n)≤n*(-1):=Int.mul_le_mul_of_nonneg_left (by omega) (by omega)
  omega
 ·rw [c] at e
  omega
 ·have:n*1≤n*(x / n-y / n):=Int.mul_le_mul_of_nonneg_left (by omega) (by omega)
  omega
noncomputable def rot (ws:List Str)(t:Int)(s:Nat):List Str:=(List.range s).map λj:Nat=>ws.getD (((j:Int)+t) % (ws.length:Int)).toNat ⟨#[]⟩
theorem Ly {ws:List Str}(hw:0<ws.length)(x:Int):ws[(x % (ws.length:Int)).toNat]? = some (ws.getD (x % (ws.length:Int)).toNat ⟨#[]⟩):=by
 have h0:=Bs x (show (ws.length:Int)≠0 by omega)
 have h1:=Bm x (show (0:Int)<ws.length by omega)
 have h:(x % (ws.length:Int)).toNat<ws.length:=by omega
 rw [AJ,Ao h]
 rfl
theorem P5 {ws:List Str}{t:Int}{s:Nat}(hw:0<ws.length):∀ x∈rot ws t s,x∈ws:=by
 intro x hx
 unfold rot at hx
 obtain ⟨j,_,rfl⟩:=Ay.mp hx
 exact Ar (Ly hw _)
theorem R8 {ws:List Str}{t:Int}{s:Nat}(hw:0<ws.length)(hd:ws.Nodup)(hs:s≤ws.length):(rot ws t s).Nodup:=by
 unfold rot
 rw [AZ,List.pairwise_map]
 refine List.Pairwise.imp_of_mem (λ{a b} ha hb hne e=>hne ?_) (AZ.mp List.nodup_range)
 rw [BN] at ha hb
 have a0:=Bs ((a:Int)+t) (show (ws.length:Int)≠0 by omega)
 have a1:=Bm ((a:Int)+t) (show (0:Int)<ws.length by omega)
 have b0:=Bs ((b:Int)+t) (show (ws.length:Int)≠0 by omega)
 have b1:=Bm ((b:Int)+t) (show (0:Int)<ws.length by omega)
 have e1:=Ly hw ((a:Int)+t)
 have e2:=Ly hw ((b:Int)+t)
 rw [e,← e2] at e1
 have l1:(((a:Int)+t) % (ws.length:Int)).toNat<ws.length:=by omega
 have l2:(((b:Int)+t) % (ws.length:Int)).toNat<ws.length:=by omega
 rw [Ao l1,Ao l2] at e1
 have h:=(List.getElem_inj hd).mp (AE e1)
 have:=Vx (n:=ws.length) (x:=(a:Int)+t) (y:=(b:Int)+t) (by omega) (by omega) (by omega) (by omega)
 omega
theorem M7 (ws:List Str)(t:Int)(s:Nat):(rot ws t s).length=s:=by simp [rot]
theorem UJ {ws:List Str}(hw:0<ws.length)(x:Int):ixG (.lst (ws.map D.str)) (.int (x % (ws.length:Int))) mu=some (.str (ws.getD (x % (ws.length:Int)).toNat ⟨#[]⟩),mu):=by
 have h0:=Bs x (show (ws.length:Int)≠0 by omega)
 refine Qu (ds:=ws.map D.str) _ (.inl rfl) h0 ?_
 rw [Av,Ly hw]
 rfl
mutual
noncomputable def okD:D->Bool
 | .ref _=>false
 | .tup ds=>decide (ds.length≤1000)&&okL ds
 | .lst ds=>okL ds
 | .dct ks ds=>okL ks&&okL ds
 | .set ds=>okL ds
 | _=>true
noncomputable def okL:List D->Bool
 | []=>true
 | d::ds=>okD d&&okL ds
end
mutual
theorem Tn:∀ {d:D},okD d=true->Dh 0 d=true
 | .non,_=>rfl
 | .bl _,_=>rfl
 | .int _,_=>rfl
 | .str _,_=>rfl
 | .ref k,e=>by simp [okD] at e
 | .tup ds,e=>by
  simp only [okD,Ab] at e
  simp only [Dh]
  exact Gb e.2
 | .lst ds,e=>by
  simp only [okD] at e
  simp only [Dh]
  exact Gb e
 | .set ds,e=>by
  simp only [okD] at e
  simp only [Dh]
  exact Gb e
 | .dct ks ds,e=>by
  simp only [okD,Ab] at e
  simp only [Dh,Ab]
  exact ⟨Gb e.1,Gb e.2⟩
theorem Gb:∀ {ds:List D},okL ds=true->EJ 0 ds=true
 | [],_=>rfl
 | d::ds,e=>by
  simp only [okL,Ab] at e
  simp only [EJ,Ab]
  exact ⟨Tn e.1,Gb e.2⟩
end
theorem M5 {ds:List D}:okL ds=true ↔ ∀ d∈ds,okD d=true:=by
 induction ds with
 | nil=>simp [okL]
 | cons d ds ih=>simp [okL,ih]
theorem KD (ss:List Str):okL (ss.map D.str)=true:=by
 rw [M5]
 intro d hd
 obtain ⟨x,_,rfl⟩:=Ay.mp hd
 rfl
end PV
namespace PG
open PySem L2 PV PyProof.Rows K1
variable {mu:Sto}
theorem Rl {ss:List Str}(h0:0<ss.length)(h4:ss.length≤4)(hd:ss.Nodup)(hw:∀ x∈ss,IsW x):Ho (.tup (ss.map D.str))=true:=by
 have W:Ho (.tup (ss.map D.str))=(Dn 1 4 (.tup (ss.map D.str))&&((ss.map D.str).all CJ&&ndB (ss.map D.str))):=rfl
 rw [W]
 simp only [Ab,Dn,Ag,Ae,Aq,ndB]
 refine ⟨⟨by omega,by omega⟩,λd hd=>?_,D6.mpr hd⟩
 obtain ⟨x,hx,rfl⟩:=Ay.mp hd
 exact CP.mpr (hw x hx)
noncomputable def L8:Sx:=(Cv (CZ (Dz (Cb (Ck Dc (eC (.int 1)) (Ci Cs (Cb (Cd 0) (Cb (Cd 3) Cg)))) (Cb (Ci Cs (Cb (Cd 0) (Cb (eC (.int 2)) Cg))) Cg))) (gTp 2 (CC (gNm 13) (CC (gNm 14) Ew)))) (Cv (CZ (Ci Gg (Cb (eLC (iRg (Cb (Cd 13) Cg)) 1 [6,14] (gNm 0) (tY) (Ck ixG (Cd 1) (Ck GB (Ck Dc (Cd 0) (Cd 2)) (Ci FN (Cb (Cd 1) Cg))))) Cg)) (gNm 15)) (sEx (LK (Cd 11) (Cb (Dz (Cb (Ck ixG (Cd 5) (Ck GB (Ck Dc (Cd 12) (Cd 10)) (Ci FN (Cb (Cd 5) Cg)))) (Cb (Cd 15) Cg))) Cg)))))
noncomputable def inS (cs:List Str):D->Bool
 | .str x=>decide (x∈cs)
 | _=>false
theorem SI {k n R b c j:Nat}{sh:Int}{a nms fnd nm1 x9:D}{ws st:List Str}{cs:List D}{x13 x14 x15:Option D}(hc:1≤c)(hc4:c≤4)(hw:0<ws.length)(hs:st.length=c+1)(sd:st.Nodup)(sW:∀ x∈st,IsW x)(hR:mu[R]? = some (.lst cs))(hcs:cs.length<100)(hkR:R≠k)(h:HandOk mu k (n+2)) :
  ∃ y13 y14 y15 m' vs,L8 [some (.ref k),some a,some (.int b),some (.int c),some nms,some (.lst (ws.map D.str)),some (.lst (st.map D.str)),some fnd,some nm1,some x9,some (.int sh),some (.ref R),some (.int j),x13,x14,x15] mu=some ((.nx,[some (.ref k),some a,some (.int b),some (.int c),some nms,some (.lst (ws.map D.str)),some (.lst (st.map D.str)),some fnd,some nm1,some x9,some (.int sh),some (.ref R),some (.int j),y13,y14,y15]),m') ∧
   m'[R]? = some (.lst (cs++[.tup [.str (ws.getD (((j:Int)+sh) % (ws.length:Int)).toNat ⟨#[]⟩),.tup vs]]))∧Ho (.tup vs)=true∧(okD (.tup vs)=true∧vs.all (inS st)=true)∧HandOk m' k n∧(∀ i,i≠k->i≠R->m'[i]? = mu[i]?)∧m'.length=mu.length:=by
 obtain ⟨_,m1,e1,f1,t1,rfl,a0,a1⟩:=DQ (m:=c) (n:=n+1) h (by omega) (by omega)
 obtain ⟨_,m2,e2,f2,t2,rfl,b0,b1⟩:=DQ (m:=2) (n:=n) f1.hand (by decide) (by decide)
 have fr:=f1.trans f2
 have hR2:m2[R]? = some (.lst cs):=(fr.keep R hkR).trans hR
 have st0:0<st.length:=by omega
 obtain ⟨s,hs1⟩:∃ s:Nat,1+t1=(s:Int):=⟨(1+t1).toNat,by omega⟩
 have lc:FA none m2 (gNm 0) tY (Ck ixG (Cd 1) (Ck GB (Ck Dc (Cd 0) (Cd 2)) (Ci FN (Cb (Cd 1) Cg)))) [none,some (.lst (st.map D.str)),some (.int t2)] (E3 0 s) m2=some ((rot st t2 s).map D.str,m2):=by
  have e:(rot st t2 s).map D.str=(E3 0 s).map λd=>match d with|.int i=>.str (st.getD ((i+t2) % (st.length:Int)).toNat ⟨#[]⟩)|_=>.non:=by
   unfold rot E3
   rw [AI,AI]
   refine List.map_congr_left λj _=>?_
   simp
  rw [e]
  refine Ij _ _ λd hd=>⟨_,rfl,?_⟩
  unfold E3 at hd
  obtain ⟨i,_,rfl⟩:=Ay.mp hd
  have l0:(0:Int)<(st.length:Int):=by omega
  simp_arith only [Ag,Jp l0,UJ st0,Int.zero_add]
 have rg:=PX (mu:=m2) (ro:=[some (.ref k),some a,some (.int b),some (.int c),some nms,some (.lst (ws.map D.str)),some (.lst (st.map D.str)),some fnd,some nm1,some x9,some (.int sh),some (.ref R),some (.int j),some (.int s),some (.int t2),x15]) (r:=Cb (Cd 13) Cg) (n:=s) (m:=m2) rfl (by omega) (by rw [AO];omega)
 rw [Int.toNat_natCast] at rg
 have l6:(0:Int)<(ws.length:Int):=by omega
 have ap:=append_at (ro:=[some (.ref k),some a,some (.int b),some (.int c),some nms,some (.lst (ws.map D.str)),some (.lst (st.map D.str)),some fnd,some nm1,some x9,some (.int sh),some (.ref R),some (.int j),some (.int s),some (.int t2),some (.tup ((rot st t2 s).map D.str))]) (i:=11) hR2 hR2 (y:=.tup [.str (ws.getD (((j:Int)+sh) % (ws.length:Int)).toNat ⟨#[]⟩),.tup ((rot st t2 s).map D.str)]) (by rw [AO];omega) rfl (e:=(Dz (Cb (Ck ixG (Cd 5) (Ck GB (Ck Dc (Cd 12) (Cd 10)) (Ci FN (Cb (Cd 5) Cg)))) (Cb (Cd 15) Cg)))) (by
  simp_arith only [Ag,Jp l6,UJ hw])
 refine ⟨some (.int s),some (.int t2),some (.tup ((rot st t2 s).map D.str)),_,(rot st t2 s).map D.str,?_,Ha hR2,Rl (by rw [M7];omega) (by rw [M7];omega) (R8 st0 sd (by omega)) (λx hx=>sW x (P5 st0 x hx)),?_,?_,?_,?_⟩
 ·unfold L8
  simp_arith only [e1,e2,hs1,rg,lc,ap]
 ·refine ⟨?_,?_⟩
  ·simp only [okD,KD,Ag,M7,BC,Ae]
   omega
  ·rw [List.all_map,Aq]
   intro x hx
   simpa [inS] using P5 st0 x hx
 ·obtain ⟨a,b,c',h1,h2⟩:=f2.hand
  exact ⟨a,b,c',by rw [AG hkR];exact h1,h2⟩
 ·intro i hik hiR
  rw [AG (Ne.symm hiR),fr.keep i hik]
 ·rw [List.length_set,fr.len]
end PG
namespace PV
open PySem L2 PyProof.Rows K1
variable {mu:Sto}
theorem TK (ws:List Str)(t:Int)(s:Nat):rot ws t (s+1)=rot ws t s++[ws.getD (((s:Int)+t) % (ws.length:Int)).toNat ⟨#[]⟩]:=by
 unfold rot
 rw [List.range_succ,AV]
 rfl
theorem HandOk.app {k n:Nat}{os:Sto}(h:HandOk mu k n):HandOk (mu++os) k n:=by
 have hk:=h.lt
 obtain ⟨a,b,c',q,r⟩:=h
 exact ⟨a,b,c',by rw [Ax hk];exact q,r⟩
theorem HandOk.set {k n j:Nat}{o:MO}(h:HandOk mu k n)(hj:j≠k):HandOk (mu.set j o) k n:=by
 obtain ⟨a,b,c',q,r⟩:=h
 exact ⟨a,b,c',by rw [AG hj];exact q,r⟩
theorem Wg {o:MO}{n:Nat}(h:Ni 0 o=true):Ni n o=true:=by
 cases o with
 | lst ds=>exact Gh (AX _) h
 | dct ks ds =>
  simp only [Ni,Ab] at h ⊢
  exact ⟨Gh (AX _) h.1,Gh (AX _) h.2⟩
theorem Na {m:Sto}{d:D}(hd:Dh 0 d=true)(hf:Flat (m.take mu.length)):Nj mu m d=some (d,m.take mu.length):=by
 have e:frz mu.length m 3 d=some d:=by
  unfold frz
  rw [if_pos (Sb (AX _) hd)]
 have al:(m.take mu.length).all (Ni mu.length)=true:=by
  rw [Aq]
  intro o ho
  obtain ⟨j,hj⟩:=A9.mp ho
  exact Wg (hf j o hj)
 unfold Nj
 rw [e]
 dsimp only
 rw [if_pos al]
end PV
namespace PG
open PySem L2 PV PyProof.Rows K1
variable {mu:Sto}
noncomputable def Th (st:List Str):D->Bool
 | .tup [_,.tup vs]=>vs.all (inS st)
 | _=>false
noncomputable def tabS (st:List Str):D->Bool
 | .tup [_,.tup cs,_]=>cs.all (Th st)
 | _=>false
theorem UL {k n R b c:Nat}{many:Nat}{sh:Int}{a nms fnd nm1:D}{ws st:List Str}(hc:1≤c)(hc4:c≤4)(hw:0<ws.length)(wW:∀ x∈ws,IsW x)(hs:st.length=c+1)(sd:st.Nodup)(sW:∀ x∈st,IsW x)(hm:many≤4)(hR:mu[R]? = some (.lst []))(hkR:R≠k)(h:HandOk mu k (n+2*many)){m0:Sto}{x12 x13 x14 x15:Option D} :
  ∃ (y12 y13 y14 y15:Option D) (mu':Sto) (cs:List D),FV none m0 (gNm 12) L8 (E3 0 many) [some (.ref k),some a,some (.int b),some (.int c),some nms,some (.lst (ws.map D.str)),some (.lst (st.map D.str)),some fnd,some nm1,some (.int many),some (.int sh),some (.ref R),x12,x13,x14,x15] mu=some ((.nx,[some (.ref k),some a,some (.int b),some (.int c),some nms,some (.lst (ws.map D.str)),some (.lst (st.map D.str)),some fnd,some nm1,some (.int many),some (.int sh),some (.ref R),y12,y13,y14,y15]),mu') ∧
   mu'[R]? = some (.lst cs)∧cs.length=many∧cs.all OC=true∧(okL cs=true∧cs.all (Th st)=true)∧cs.map DO=(rot ws sh many).map D.str∧HandOk mu' k n∧(∀ j,j≠k->j≠R->mu'[j]? = mu[j]?)∧mu'.length=mu.length:=by
 have key:=GN (m0:=m0) (tg:=gNm 12) (body:=L8) (λi ro m=>(∃ y12 y13 y14 y15,ro=[some (.ref k),some a,some (.int b),some (.int c),some nms,some (.lst (ws.map D.str)),some (.lst (st.map D.str)),some fnd,some nm1,some (.int many),some (.int sh),some (.ref R),y12,y13,y14,y15])∧(∃ cs:List D,m[R]? = some (.lst cs)∧cs.length=i∧cs.all OC=true∧(okL cs=true∧cs.all (Th st)=true)∧cs.map DO=(rot ws sh i).map D.str)∧i≤many∧HandOk m k (n+2*(many-i))∧(∀ j,j≠k->j≠R->m[j]? = mu[j]?)∧m.length=mu.length) (E3 0 many) 0 [some (.ref k),some a,some (.int b),some (.int c),some nms,some (.lst (ws.map D.str)),some (.lst (st.map D.str)),some fnd,some nm1,some (.int many),some (.int sh),some (.ref R),x12,x13,x14,x15] mu
  ⟨⟨x12,x13,x14,x15,rfl⟩,⟨[],hR,rfl,rfl,⟨rfl,rfl⟩,rfl⟩,AX _,h,λ_ _ _=>rfl,rfl⟩ λj d ro m ed hi=>by
   obtain ⟨⟨y12,y13,y14,y15,rfl⟩,⟨cs,hR',hl,ha,⟨ho,hos⟩,hf⟩,hle,hh,hkeep,hlen⟩:=hi
   obtain ⟨rfl,hj⟩:=Lh ed
   obtain ⟨z13,z14,z15,m',vs,e,g1,g2,⟨g3,gs⟩,g4,g5,g6⟩:=SI (n:=n+2*(many-(0+j+1))) (b:=b) (c:=c) (j:=j) (sh:=sh) (a:=a) (nms:=nms) (fnd:=fnd) (nm1:=nm1) (x9:=.int many) (x13:=y13) (x14:=y14) (x15:=y15) (ws:=ws) hc hc4 hw hs sd sW hR' (by omega) hkR (hh.mono (by omega))
   have wm:=wW _ (Ar (Ly hw ((j:Int)+sh)))
   refine ⟨_,m,_,m',rfl,e,⟨_,_,_,_,rfl⟩,⟨_,g1,by simp [hl],?_,?_,?_⟩,by omega,g4,λi hik hiR=>(g5 i hik hiR).trans (hkeep i hik hiR),g6.trans hlen⟩
   ·rw [List.all_append,ha]
    have:OC (.tup [.str (ws.getD (((j:Int)+sh) % (ws.length:Int)).toNat ⟨#[]⟩),.tup vs])=(wB (ws.getD (((j:Int)+sh) % (ws.length:Int)).toNat ⟨#[]⟩)&&Ho (.tup vs)):=rfl
    rw [List.all_cons,this,CP.mpr wm,g2]
    rfl
   ·refine ⟨?_,?_⟩
    ·rw [M5] at ho ⊢
     intro d hd
     rcases AR.mp hd with hd|hd
     ·exact ho d hd
     ·rw [An.mp hd]
      simp only [okD,okL,g3,List.length_cons,List.length_nil]
      simp only [okD] at g3
      rw [g3]
      rfl
    ·rw [List.all_append,hos,List.all_cons]
     simp only [Th,gs,List.all_nil,A4]
   ·rw [AV,hf,Nat.zero_add,TK,AV]
    rfl
 obtain ⟨ro',mu',e,⟨y12,y13,y14,y15,rfl⟩,⟨cs,a2,a3,a4,a5,a6⟩,_,a7,a8,a9⟩:=key
 rw [KL] at a3 a6 a7
 refine ⟨y12,y13,y14,y15,mu',cs,e,a2,by omega,a4,a5,by rw [a6,Nat.zero_add],a7.mono (by omega),a8,a9⟩
noncomputable def Qz:Sx:=(Cv (QA 9 10 11 (Cb (Ck Dc (eC (.int 1)) (Ci Cs (Cb (Cd 0) (Cb (Cd 2) Cg)))) (Cb (Ci Cs (Cb (Cd 0) (Cb (eC (.int 3)) Cg))) (Cb (GF Cg) Cg)))) (Cv (JA (iRg (Cb (Cd 9) Cg)) (gNm 12) L8) (sEx (LK (Cd 7) (Cb (Dz (Cb (Cd 8) (Cb (Ci Gg (Cb (Cd 11) Cg)) (Cb (Ck Dc (eC (.int 1)) (Ci Cs (Cb (Cd 0) (Cb (Cd 9) Cg)))) Cg)))) Cg)))))
theorem SA {R:Nat}{cs:List D}(h:mu[R]? = some (.lst cs)):Gg [.ref R] mu=some (.tup cs,mu):=by
 simp only [Gg,sq1,HD,G6,DX,h,Option.map_some]
theorem R9 {k n F b c:Nat}{nm:Str}{ws st:List Str}{a nms:D}{ts:List D}{x9 x10 x11 x12 x13 x14 x15:Option D}(hb:1≤b)(hb4:b≤4)(hc:1≤c)(hc4:c≤4)(hw:ws.length=b+2)(wd:ws.Nodup)(wW:∀ x∈ws,IsW x)(hs:st.length=c+1)(sd:st.Nodup)(sW:∀ x∈st,IsW x)(hW:IsW nm)(hF:mu[F]? = some (.lst ts))(hts:ts.length≤100)(hkF:F≠k)(h:HandOk mu k (n+11)) :
  ∃ y9 y10 y11 y12 y13 y14 y15 m2 cs,∃ q:Nat,Qz [some (.ref k),some a,some (.int b),some (.int c),some nms,some (.lst (ws.map D.str)),some (.lst (st.map D.str)),some (.ref F),some (.str nm),x9,x10,x11,x12,x13,x14,x15] mu=some ((.nx,[some (.ref k),some a,some (.int b),some (.int c),some nms,some (.lst (ws.map D.str)),some (.lst (st.map D.str)),some (.ref F),some (.str nm),y9,y10,y11,y12,y13,y14,y15]),m2) ∧
   m2[F]? = some (.lst (ts++[.tup [.str nm,.tup cs,.int q]]))∧MC (.tup [.str nm,.tup cs,.int q])=true∧(okD (.tup [.str nm,.tup cs,.int q])=true∧tabS st (.tup [.str nm,.tup cs,.int q])=true)∧HandOk m2 k n∧(∀ j,j<mu.length->j≠k->j≠F->m2[j]? = mu[j]?)∧mu.length≤m2.length:=by
 obtain ⟨_,m1,e1,f1,t1,rfl,a0,a1⟩:=DQ (m:=b) (n:=n+10) h (by omega) (by omega)
 obtain ⟨_,m2,e2,f2,t2,rfl,b0,b1⟩:=DQ (m:=3) (n:=n+9) f1.hand (by decide) (by decide)
 have fr:=f1.trans f2
 have hkl:=h.lt
 have hFl:F<mu.length:=(Af.mp hF).1
 obtain ⟨q,hq⟩:∃ q:Nat,1+t1=(q:Int):=⟨(1+t1).toNat,by omega⟩
 have hR:(m2++[MO.lst []])[m2.length]? = some (.lst []):=by simp
 have l2:=fr.len
 obtain ⟨y12,y13,y14,y15,m3,cs,e3,g1,g2,g3,⟨g4,gs⟩,g5,g6,g7,g8⟩:=UL (mu:=m2++[MO.lst []]) (k:=k) (n:=n+1) (R:=m2.length) (b:=b) (c:=c) (many:=q) (sh:=t2) (a:=a) (nms:=nms) (fnd:=.ref F) (nm1:=.str nm) (ws:=ws) (st:=st) hc hc4 (by omega) wW hs sd sW (by omega) hR (by omega) (f2.hand.app.mono (by omega)) (m0:=m2++[MO.lst []]) (x12:=x12) (x13:=x13) (x14:=x14) (x15:=x15)
 have F3:m3[F]? = some (.lst ts):=by
  rw [g7 F hkF (by omega),Ax (by omega),fr.keep F hkF,hF]
 obtain ⟨_,m4,e4,f4,t4,rfl,c0,c1⟩:=DQ (m:=q) (n:=n) g6 (by omega) (by omega)
 have F4:m4[F]? = some (.lst ts):=(f4.keep F hkF).trans F3
 obtain ⟨p,hp⟩:∃ p:Nat,1+t4=(p:Int):=⟨(1+t4).toNat,by omega⟩
 have ap:=append_at (ro:=[some (.ref k),some a,some (.int b),some (.int c),some nms,some (.lst (ws.map D.str)),some (.lst (st.map D.str)),some (.ref F),some (.str nm),some (.int q),some (.int t2),some (.ref m2.length),y12,y13,y14,y15]) (i:=7) F3 F4 (y:=.tup [.str nm,.tup cs,.int p]) (by rw [AO];omega) rfl (e:=(Dz (Cb (Cd 8) (Cb (Ci Gg (Cb (Cd 11) Cg)) (Cb (Ck Dc (eC (.int 1)) (Ci Cs (Cb (Cd 0) (Cb (Cd 9) Cg)))) Cg))))) (by
  simp_arith only [SA g1,e4,hp])
 have rg:=PX (mu:=m2++[MO.lst []]) (ro:=[some (.ref k),some a,some (.int b),some (.int c),some nms,some (.lst (ws.map D.str)),some (.lst (st.map D.str)),some (.ref F),some (.str nm),some (.int q),some (.int t2),some (.ref m2.length),x12,x13,x14,x15]) (r:=Cb (Cd 9) Cg) (n:=q) (m:=m2++[MO.lst []]) rfl (by omega) (by rw [AO];omega)
 rw [Int.toNat_natCast] at rg
 refine ⟨some (.int q),some (.int t2),some (.ref m2.length),y12,y13,y14,y15,_,cs,p,?_,Ha F4,?_,?_,f4.hand.set hkF,?_,?_⟩
 ·unfold Qz
  simp_arith only [e1,e2,hq,rg,e3,ap]
 ·have T:MC (.tup [.str nm,.tup cs,.int p])=((wB nm&&((Dn 1 4 (.tup cs)&&cs.all OC)&&ndB (cs.map DO)))&&(decide ((1:Int)≤p)&&decide ((p:Int)≤cs.length))):=rfl
  rw [T,CP.mpr hW,g3,g5]
  have nd:ndB ((rot ws t2 q).map D.str)=true:=by
   unfold ndB
   rw [Ae]
   exact D6.mpr (R8 (by omega) wd (by omega))
  rw [nd]
  simp only [Dn,BC,Bool.true_and,Ab,Ae]
  omega
 ·refine ⟨?_,gs⟩
  simp only [okD,okL,g4,List.length_cons,List.length_nil,BC,Bool.true_and,Ab,Ae]
  omega
 ·intro i hi hik hiF
  rw [AG (Ne.symm hiF),f4.keep i hik,g7 i hik (by omega),Ax (by omega),fr.keep i hik]
 ·rw [List.length_set]
  have:=f4.len
  simp only [Az,List.length_cons,List.length_nil] at g8
  omega
theorem Pz {k n a b c:Nat}(ha:1≤a)(ha4:a≤4)(hb:1≤b)(hb4:b≤4)(hc:1≤c)(hc4:c≤4)(hfl:Flat mu)(h:HandOk mu k (n+60)):Run (Ee [.ref k,.int a,.int b,.int c] mu) k n mu λd=>∃ ds,d=.tup ds∧Vn d=true∧okD d=true∧∃ st:List Str,st.length≤5∧ds.all (tabS st)=true:=by
 obtain ⟨_,m1,e1,f1,t1,rfl,a0,a1⟩:=DQ (m:=a) (n:=n+59) h (by omega) (by omega)
 obtain ⟨_,m2,e2,f2,nm,rfl,nl,nd,nW⟩:=J3 (many:=1+t1) (n:=n+54) (by omega) (by omega) f1.hand
 obtain ⟨_,m3,e3,f3,ws,rfl,wl,wd,wW⟩:=J3 (many:=(b:Int)+2) (n:=n+49) (by omega) (by omega) f2.hand
 obtain ⟨_,m4,e4,f4,st,rfl,sl,sd,sW⟩:=J3 (many:=(c:Int)+1) (n:=n+44) (by omega) (by omega) f3.hand
 have fr:=((f1.trans f2).trans f3).trans f4
 have l4:=fr.len
 obtain ⟨us,ue,up⟩:=LV (EI (nm.map D.str))
 have ul:=up.length_eq
 have ud:us.Nodup:=up.nodup_iff.mpr nd
 have hkl:=f4.hand.lt
 have key:=GN (m0:=m4++[MO.lst []]) (tg:=gNm 8) (body:=Qz) (λi ro m=>(∃ y8 y9 y10 y11 y12 y13 y14 y15,ro=[some (.ref k),some (.int a),some (.int b),some (.int c),some (.lst (us.map D.str)),some (.lst (ws.map D.str)),some (.lst (st.map D.str)),some (.ref m4.length),y8,y9,y10,y11,y12,y13,y14,y15]) ∧
   (∃ ts:List D,m[m4.length]? = some (.lst ts)∧ts.length=i∧ts.all MC=true∧(okL ts=true∧ts.all (tabS st)=true)∧ts.map DO=(us.take i).map D.str)∧i≤us.length∧HandOk m k (n+11*(us.length-i))∧(∀ j,j<m4.length->j≠k->m[j]? = m4[j]?)∧m4.length<m.length) (us.map D.str) 0
   [some (.ref k),some (.int a),some (.int b),some (.int c),some (.lst (us.map D.str)),some (.lst (ws.map D.str)),some (.lst (st.map D.str)),some (.ref m4.length),none,none,none,none,none,none,none,none] (m4++[MO.lst []])
   ⟨⟨_,_,_,_,_,_,_,_,rfl⟩,⟨[],by simp,rfl,rfl,⟨rfl,rfl⟩,by simp⟩,AX _,f4.hand.app.mono (by omega),λj hj _=>Ax hj,by simp⟩ λj d ro m ed hi=>by
  obtain ⟨⟨y8,y9,y10,y11,y12,y13,y14,y15,rfl⟩,⟨ts,hF,tl,ta,⟨to,tos⟩,tn⟩,hle,hh,hkeep,hlen⟩:=hi
  rw [Av] at ed
  cases q:us[j]? with
  | none=>rw [q] at ed;cases ed
  | some x =>
   rw [q] at ed
   have ed':D.str x=d:=by simpa using ed
   subst ed'
   obtain ⟨hj,ex⟩:=Af.mp q
   have hxm:x∈nm:=up.mem_iff.mp (by rw [← ex];exact B7 hj)
   obtain ⟨z9,z10,z11,z12,z13,z14,z15,m',cs,p,g1,g2,g3,⟨g4,gs⟩,g5,g6,g7⟩:=R9 (n:=n+11*(us.length-(0+j+1))) (a:=.int a) (b:=b) (c:=c) (nms:=.lst (us.map D.str)) (nm:=x) (x9:=y9) (x10:=y10) (x11:=y11) (x12:=y12) (x13:=y13) (x14:=y14) (x15:=y15) (ws:=ws) (st:=st) hb hb4 hc hc4 (by omega) wd wW (by omega) sd sW (nW x hxm) hF (by omega) (by omega) (hh.mono (by omega))
   refine ⟨_,m,_,m',rfl,g1,⟨_,_,_,_,_,_,_,_,rfl⟩,⟨_,g2,by simp [tl],?_,?_,?_⟩,by omega,g5,λi hi hik=>?_,by omega⟩
   ·rw [List.all_append,ta,List.all_cons,g3]
    rfl
   ·refine ⟨?_,?_⟩
    ·rw [M5] at to ⊢
     intro d hd
     rcases AR.mp hd with hd|hd
     ·exact to d hd
     ·rw [An.mp hd]
      exact g4
    ·rw [List.all_append,tos,List.all_cons,gs]
     rfl
   ·rw [AV,tn]
    have:=List.take_add_one (l:=us) (i:=0+j)
    rw [this,Nat.zero_add,q,AV]
    rfl
   ·rw [g6 i (by omega) hik (by omega),hkeep i hi hik]
 obtain ⟨ro',m5,e5,⟨_,_,_,_,_,_,_,_,rfl⟩,⟨ts,b1,b2,b3,⟨b4,bs⟩,b5⟩,_,b6,b7,b8⟩:=key
 rw [Ag,Nat.zero_add] at b2 b5 b6
 rw [List.take_length] at b5
 have okT:okD (.tup ts)=true:=by
  simp only [okD,b4,BC,Ae]
  omega
 have f5:Fr k n mu (m5.take mu.length):=by
  refine ⟨?_,λj hj=>?_,by rw [Bc];omega⟩
  ·obtain ⟨x,y,z,q,r1,r2,r3⟩:=b6
   exact ⟨x,y,z,by rw [Bx (by omega)];exact q,r1,r2,by omega⟩
  ·by_cases hj':j<mu.length
   ·rw [Bx hj',b7 j (by omega) hj,fr.keep j hj]
   ·rw [List.getElem?_eq_none (by rw [Bc];omega),List.getElem?_eq_none (by omega)]
 refine ⟨.tup ts,m5.take mu.length,?_,f5,ts,rfl,?_,okT,st,by omega,bs⟩
 ·have s64:nm.length<64:=by omega
  unfold Qz L8 at e5
  simp_arith only [Ee,HA,e1,e2,Vp s64,ue,e3,e4,e5,SA b1]
  exact Na (Tn okT) (f5.flat hfl)
 ·have W:Vn (.tup ts)=((Dn 1 4 (.tup ts)&&ts.all MC)&&LH (ts.map DO)):=rfl
  have rs:LH (us.map D.str)=true:=by
   have r:=V7 us
   rw [MK (D6.mpr ud)] at r
   rw [← r,Ae]
   rw [← ue]
   exact (Mm (λd hd=>by
    obtain ⟨x,_,rfl⟩:=Ay.mp hd
    rfl) (EI (nm.map D.str))).symm
  rw [W,b3,b5,rs]
  simp only [Dn,BC,Ab,Ae]
  omega
end PG
namespace PV
open PySem L2 PyProof.Rows K1
variable {mu:Sto}
theorem UP {m0:Sto}{tg:Gx}{el:Ex}{ro:Ro}(Inv:Nat->Sto->Prop)(P:Nat->D->Prop):∀ (ds:List D) (i:Nat) (mu:Sto),Inv i mu->(∀ j d mu,ds[j]? = some d->Inv (i+j) mu->∃ ro1 y m1,tg d ro mu=some (ro1,mu)∧el ro1 mu=some (y,m1)∧P (i+j) y∧Inv (i+j+1) m1) ->
  ∃ ys mu',FA none m0 tg tY el ro ds mu=some (ys,mu')∧Inv (i+ds.length) mu'∧ys.length=ds.length∧∀ j y,ys[j]? = some y->P (i+j) y
 | [],i,mu,h,_=>⟨[],mu,rfl,h,rfl,λj y e=>by simp at e⟩
 | d::ds,i,mu,h,st=>by
  obtain ⟨ro1,y,m1,e1,e2,p,h2⟩:=st 0 d mu rfl h
  obtain ⟨ys,mu',e3,h3,h4,h5⟩:=UP (m0:=m0) (tg:=tg) (el:=el) (ro:=ro) Inv P ds (i+1) m1 h2 λj d' mu ed hi=>by
   have:=st (j+1) d' mu (by simpa using ed) (by rw [show i+(j+1)=i+1+j by omega];exact hi)
   rw [show i+(j+1)+1=i+1+j+1 by omega,show i+(j+1)=i+1+j by omega] at this
   exact this
  refine ⟨y::ys,mu',?_,by rw [List.length_cons,show i+(ds.length+1)=i+1+ds.length by omega];exact h3,by simp [h4],λj z e=>?_⟩
  ·unfold FA
   rw [e1,D9]
   simp only [Xo,Q8,if_true]
   rw [e2,D9,EB,if_pos (show gOk none m0 m1 from True.intro),e3]
   rfl
  ·cases j with
   | zero=>cases e;exact p
   | succ j=>have:=h5 j z (by simpa using e);rw [show i+(j+1)=i+1+j by omega];exact this
theorem ZD {d e:D}(hd:En d=true)(he:En e=true):eqB mu d e=some (decide (d=e)):=by
 have a:=Ez hd
 have b:=Ez he
 have sd:seen mu d=d:=by cases d<;>first|rfl|(simp [En,hsh] at hd)
 have se:seen mu e=e:=by cases e<;>first|rfl|(simp [En,hsh] at he)
 unfold eqB
 rw [sd,se,G0 a.1,G0 b.1,if_pos,Hn a.1 b.1]
 rw [Jd a.1,Jd b.1]
 simp only [Bool.true_and,Ae]
 omega
theorem Z8 {d e:D}(hd:En d=true)(he:En e=true):eqD d e mu=some (.bl (decide (d=e)),mu):=by unfold eqD;rw [ZD hd he];rfl
theorem AaQ {d e:D}(hd:En d=true)(he:En e=true):neD d e mu=some (.bl (!decide (d=e)),mu):=by unfold neD;rw [ZD hd he];rfl
theorem QU (ss:List Str):Kw (ss.map D.str)≤1:=by
 rw [← M9 (OE ss)]
 exact Om ss
theorem Iw (ss:List Str):En (.tup (ss.map D.str))=true:=by
 unfold En
 rw [Ab,Ae]
 refine ⟨by unfold hsh;exact OE ss,?_⟩
 have:=QU ss
 unfold dpt
 omega
end PV
namespace PG
open PySem L2 PV PyProof.Rows K1
variable {mu:Sto}
structure Tb where
 nm:Str
 cs:List (Str×List Str)
 ks:Nat
noncomputable def clD (p:Str×List Str):D:=.tup [.str p.1,.tup (p.2.map D.str)]
noncomputable def tbD (t:Tb):D:=.tup [.str t.nm,.tup (t.cs.map clD),.int t.ks]
structure Abb (t:Tb):Prop where
 c1:1≤t.cs.length
 c4:t.cs.length≤4
 k1:1≤t.ks
 k4:t.ks≤t.cs.length
 vs:∀ p∈t.cs,p.2≠[]∧p.2.length≤4
theorem Lo {α:Type}{xs:List α}{j:Nat}(h:j≤xs.length):PV.cutD xs none (some (j:Int))=xs.take j:=by
 unfold PV.cutD
 rw [HT.K8,HT.MD]
 simp [Nat.min_eq_left h]
theorem S3 {α:Type}{xs:List α}{j:Nat}(h:j≤xs.length):PV.cutD xs (some (j:Int)) none=xs.drop j:=by
 unfold PV.cutD
 rw [HT.K8,HT.MD]
 rw [Nat.min_eq_left h]
 apply B6
 simp
end PG
namespace PV
open PySem L2 PyProof.Rows K1
variable {mu:Sto}
theorem Oi (x:Str)(ss:List Str):((CA (ss.map D.str)).any λy=>PyData.eqv y (toPy (.str x)))=decide (x∈ss):=by
 induction ss with
 | nil=>simp [CA]
 | cons y ys ih =>
  rw [AL,CA,List.any_cons,ih]
  simp only [toPy,PyData.eqv,Am]
  by_cases c:x=y
  ·subst c;simp
  ·have:(y==x)=false:=by simpa using λe:y=x=>c e.symm
   simp [c,this]
theorem Qy {x:Str}{ss:List Str}{s:D}(hs:s=.tup (ss.map D.str)∨s=.lst (ss.map D.str)):inB mu (.str x) s=some (decide (x∈ss)):=by
 have p:=QX ss
 have d:=Om ss
 rcases hs with rfl|rfl
 ·simp only [inB,seen,Dj,p,A4,Bool.true_and]
  rw [if_pos (by rw [Ae];omega),Oi]
 ·simp only [inB,seen,Dj,p,A4,Bool.true_and]
  rw [if_pos (by rw [Ae];omega),Oi]
theorem Ut {x:Str}{ss:List Str}:inG (.str x) (.tup (ss.map D.str)) mu=some (.bl (decide (x∈ss)),mu):=by simp only [inG,inD,Qy (.inl rfl),Option.map_some]
theorem Tw {x:Str}{ss:List Str}:Kt (.str x) (.tup (ss.map D.str)) mu=some (.bl (!decide (x∈ss)),mu):=by simp only [Kt,U4,Qy (.inl rfl),Option.map_some]
theorem MI {x a b:Str}:inG (.str x) (.tup [.str a,.str b]) mu=some (.bl (decide (x∈[a,b])),mu):=Ut (ss:=[a,b])
theorem Vd {x a b c:Str}:Kt (.str x) (.tup [.str a,.str b,.str c]) mu=some (.bl (!decide (x∈[a,b,c])),mu):=Tw (ss:=[a,b,c])
theorem Ih (x:Str):En (.str x)=true:=by simp [En,hsh,dpt]
theorem AaT {x:Str}{ks ds:List D}:inG (.str x) (.dct ks ds) mu=some (.bl (decide (D.str x∈ks)),mu):=by
 have:inD (.str x) (.dct ks ds) mu=none:=by simp [inD,inB,seen]
 simp only [inG,this,inC,FC,Ih,if_true]
 simp
theorem Wy {x:Str}{ks ds:List D}{v:D}(h:FI (.str x) ks ds=some v):ixG (.dct ks ds) (.str x) mu=some (v,mu):=by
 have:ixD (.dct ks ds) (.str x) mu=none:=by simp [ixD,DX]
 simp only [ixG,this,ixC,FC,Ih,if_true,h,Option.map_some]
noncomputable def isN:D->Bool
 | .non=>true
 | _=>false
theorem Sz {d:D}:isD d .non mu=some (.bl (isN d),mu):=by cases d<;>rfl
theorem YJ {d:D}:Jq d .non mu=some (.bl (!isN d),mu):=by cases d<;>rfl
noncomputable def prD (p:Str×Str):D:=.tup [.str p.1,.str p.2]
noncomputable def prK (p:Str×Str):D×D:=(.str p.1,.str p.2)
theorem NX (ps:List (Str×Str)):pairsOf (ps.map prD)=some (ps.map prK):=by
 induction ps with
 | nil=>rfl
 | cons p ps ih =>
  rw [AL,AL]
  unfold prD
  rw [pairsOf,if_pos (Ih _)]
  unfold prD at ih
  rw [ih]
  rfl
theorem Kd:∀ (ps:List (D×D)) (ks vs:List D),ks.length=vs.length->(ks++ps.map (·.1)).Nodup->putAll (ks,vs) ps=(ks++ps.map (·.1),vs++ps.map (·.2))
 | [],ks,vs,_,_=>by simp [putAll]
 | p::ps,ks,vs,l,n=>by
  have h1:p.1∉ks:=λh=>by
   rw [AL,Bv] at n
   exact n.2.2 p.1 h p.1 (.head _) rfl
  have:putAll (ks,vs) (p::ps)=putAll (ks++[p.1],vs++[p.2]) ps:=by
   unfold putAll
   rw [List.foldl_cons]
   congr 1
   unfold EM
   rw [if_neg h1]
  rw [this,Kd ps (ks++[p.1]) (vs++[p.2]) (by simp [l]) (by simpa using n)]
  simp
noncomputable def EW:List (Str×Str)->Str->Str
 | [],c=>c
 | p::r,c=>if p.1=c then p.2 else EW r c
theorem Sa (ps:List (Str×Str))(c:Str):(FI (.str c) ((ps.map prK).map (·.1)) ((ps.map prK).map (·.2))).getD (.str c)=.str (EW ps c):=by
 induction ps with
 | nil=>rfl
 | cons p ps ih =>
  rw [AL,AL,AL,FI]
  unfold EW prK
  dsimp only
  by_cases e:p.1=c
  ·rw [if_pos (by rw [e]),if_pos e]
   rfl
  ·rw [if_neg (λz=>e (by injection z)),if_neg e]
   exact ih
theorem V4 {ps:List (Str×Str)}(h:(ps.map (·.1)).Nodup):(([]:List D)++(ps.map prK).map (·.1)).Nodup:=by
 have e:(ps.map prK).map (·.1)=(ps.map (·.1)).map D.str:=by
  rw [AI,AI]
  rfl
 rw [List.nil_append,e]
 exact D6.mpr h
theorem WG {ps:List (Str×Str)}{s:D}(hs:s=.tup (ps.map prD)∨s=.lst (ps.map prD))(h:(ps.map (·.1)).Nodup):dctP [s] mu=some (.dct ((ps.map prK).map (·.1)) ((ps.map prK).map (·.2)),mu):=by
 have e:=Kd (ps.map prK) [] [] rfl (V4 h)
 rw [List.nil_append,List.nil_append] at e
 rcases hs with rfl|rfl<;>simp only [dctP,sq1,HD,G6,DX,NX,e]
theorem RX {ps:List (Str×Str)}{o:Ex}{a:Exs}{ro:Ro}{c:Str}{m1 m2:Sto}(ho:o ro mu=some (.dct ((ps.map prK).map (·.1)) ((ps.map prK).map (·.2)),m1))(ha:a ro m1=some ([.str c,.str c],m2)):Lu o a ro mu=some (.str (EW ps c),m2):=by
 simp only [Lu,ho,Q8,FC,Option.isSome_some,if_true,ha,QK,Ih,Sa]
end PV
namespace PG
open PySem L2 PV PyProof.Rows K1
variable {mu:Sto}
noncomputable def csD (cs:List Str):D:=.tup (cs.map D.str)
noncomputable def Em (cs:List Str):D->Bool
 | .str x=>decide (x∈cs)
 | _=>false
theorem Nq (cs ws:List Str):(ws.map D.str).all (Em cs)=ws.all λw=>decide (w∈cs):=by rw [List.all_map];rfl
theorem Ja {cs ws:List Str}{s:D}(hs:s=.lst (ws.map D.str)∨s=.tup (ws.map D.str)):Dp [csD cs,s] mu=some (.bl (ws.all λw=>decide (w∈cs)),mu):=by
 have al:=L7 (m0:=mu) (tg:=gNm 0) (el:=Ck inG (Cd 0) (Cd 1)) (ro:=[none,some (csD cs)]) (mu:=mu) (Em cs) (ws.map D.str) (λd hd=>by
  obtain ⟨w,_,rfl⟩:=Ay.mp hd
  exact ⟨_,rfl,by simp_arith only [csD,Ut];rfl⟩)
 rcases hs with rfl|rfl<;>simp_arith only [Dp,He,al,Nq]
noncomputable def Fd:D->Bool
 | .tup [a,b]=>CJ a&&CJ b
 | _=>false
theorem Vw (d:D)(h:Dh 0 d=true):Gr [d] mu=some (.bl (Fd d),mu):=by
 simp_arith only [Gr,JU,Gy d 2 2 (Fq h)]
 cases c:Dn 2 2 d with
 | false =>
  have:Fd d=false:=by
   unfold Fd
   split
   ·simp [Dn] at c
   ·rfl
  simp_arith only [this]
 | true =>
  obtain ⟨a,b,rfl⟩:=ON c
  have e:Fd (.tup [a,b])=(CJ a&&CJ b):=rfl
  simp_arith only [JB a (nRs h a (by simp)),e]
  cases c2:CJ a with
  | false=>simp_arith only []
  | true=>simp_arith only [JB b (nRs h b (by simp))]
theorem DT {d:D}(h:CJ d=true):∃ x,d=.str x∧IsW x:=by
 cases d with
 | str x=>exact ⟨x,rfl,CP.mp h⟩
 | _=>cases h
theorem LZ {ds:List D}(h:ds.all Fd=true):∃ ps:List (Str×Str),ds=ps.map prD∧∀ p∈ps,IsW p.1∧IsW p.2:=by
 induction ds with
 | nil=>exact ⟨[],rfl,λ_ h=>nomatch h⟩
 | cons d ds ih =>
  rw [List.all_cons,Ab] at h
  obtain ⟨ps,rfl,hp⟩:=ih h.2
  have h1:=h.1
  unfold Fd at h1
  split at h1
  ·rename_i a b
   rw [Ab] at h1
   obtain ⟨x,rfl,hx⟩:=DT h1.1
   obtain ⟨y,rfl,hy⟩:=DT h1.2
   refine ⟨(x,y)::ps,rfl,λp hp'=>?_⟩
   rcases Am.mp hp' with rfl|hp'
   ·exact ⟨hx,hy⟩
   ·exact hp p hp'
  ·cases h1
theorem KQ (ps:List (Str×Str)):(ps.map prD).map DO=(ps.map (·.1)).map D.str:=by
 rw [AI,AI]
 rfl
noncomputable def Ku (cs:List Str):D->Bool
 | .tup ds=>(Dn 1 cs.length (.tup ds)&&ds.all Fd)&&(ndB (ds.map DO)&&(ds.map DO).all (Em cs))
 | _=>false
theorem RU {d:D}(h:Fd d=true):∃ a ds,d=.tup (a::ds)∧CJ a=true:=by
 unfold Fd at h
 split at h
 ·rename_i a b
  rw [Ab] at h
  exact ⟨a,[b],rfl,h.1⟩
 ·cases h
theorem Ul {cs:List Str}:FN [csD cs] mu=some (.int cs.length,mu):=by
 unfold csD
 rw [SS,Ag]
theorem Q7 (cs:List Str)(hc:cs.length≤2000)(d:D)(h:Dh 0 d=true):FY [csD cs,d] mu=some (.bl (Ku cs d),mu):=by
 simp_arith only [FY,Ia,Ul,Gy d 1 cs.length (Fq h)]
 cases d with
 | tup ds =>
  have e:Ku cs (.tup ds)=((Dn 1 cs.length (.tup ds)&&ds.all Fd)&&(ndB (ds.map DO)&&(ds.map DO).all (Em cs))):=rfl
  rw [e]
  cases c:Dn 1 cs.length (.tup ds) with
  | false=>simp_arith only []
  | true =>
   have al:=L7 (m0:=mu) (tg:=gNm 0) (el:=Ci Gr (Cb (Cd 0) Cg)) (ro:=[none]) (mu:=mu) Fd ds (λd hd=>⟨_,rfl,by simp_arith only [Vw d (lows h d hd)]⟩)
   simp_arith only [al]
   cases c2:ds.all Fd with
   | false=>simp_arith only []
   | true =>
    obtain ⟨ps,rfl,_⟩:=LZ c2
    have l4:(ps.map (·.1)).length<4000:=by
     simp only [Dn,Ag,Ab,Ae] at c
     rw [Ag]
     omega
    simp_arith only [WV (λd=>RU) c2,KQ,UY l4]
    cases c3:ndB ((ps.map (·.1)).map D.str) with
    | false=>simp_arith only []
    | true=>simp_arith only [Ja (.inl rfl),Nq]
 | ref k=>cases Fq h
 | _=>simp_arith only [Dn,Ku]
theorem K4 {cs:List Str}{ps:List (Str×Str)}(h:(ps.map (·.1)).Nodup):Dy [csD cs,.tup (ps.map prD)] mu=some (csD (cs.map (EW ps)),mu):=by
 have al:=Ij (m0:=mu) (tg:=gNm 0) (el:=Lu (Cd 1) (Cb (Cd 0) (Cb (Cd 0) Cg))) (ro:=[none,some (.dct ((ps.map prK).map (·.1)) ((ps.map prK).map (·.2)))]) (mu:=mu) (λd=>match d with|.str c=>.str (EW ps c)|_=>.non) (cs.map D.str) (λd hd=>by
  obtain ⟨c,_,rfl⟩:=Ay.mp hd
  exact ⟨_,rfl,RX rfl rfl⟩)
 have e:(cs.map D.str).map (λd=>match d with|.str c=>D.str (EW ps c)|_=>.non)=(cs.map (EW ps)).map D.str:=by
  rw [AI,AI]
  rfl
 rw [e] at al
 simp_arith only [Dy,FL,csD,WG (.inl rfl) h,al]
noncomputable def wsB (hi:Int)(d:D):Bool:=Dn 1 hi d&&(ND d&&match d with|.tup ds=>ndB ds|_=>false)
theorem Po (hi:Int)(h4:hi≤2000)(d:D)(h:Dh 0 d=true):Eu [d,.int 1,.int hi] mu=some (.bl (wsB hi d),mu):=by
 unfold wsB
 simp_arith only [Eu,GO,Gy d 1 hi (Fq h)]
 cases c:Dn 1 hi d with
 | false=>simp_arith only []
 | true =>
  simp_arith only [Sq d h]
  cases c2:ND d with
  | false=>simp_arith only []
  | true =>
   cases d with
   | tup ds =>
    obtain ⟨ss,rfl,_⟩:=IH c2
    have l4:ss.length<4000:=by
     simp only [Dn,Ag,Ab,Ae] at c
     omega
    simp_arith only [MP l4]
   | _=>simp [ND] at c2
noncomputable def GU (cs:List Str):D->Bool
 | .tup [a,b,c]=>(CJ a&&(CJ b&&CJ c))&&(if Em ["is","not"] a=true then Em cs b else Em ["like","unlike"] a&&(Em cs b&&Em cs c))
 | _=>false
theorem Vo (cs:List Str)(d:D)(h:Dh 0 d=true):Gq [csD cs,d] mu=some (.bl (GU cs d),mu):=by
 simp_arith only [Gq,Kb,Gy d 3 3 (Fq h)]
 cases c:Dn 3 3 d with
 | false =>
  have:GU cs d=false:=by
   unfold GU
   split
   ·simp [Dn] at c
   ·rfl
  simp_arith only [this]
 | true =>
  obtain ⟨a,b,e,rfl⟩:=Abm c
  have al:=L7 (m0:=mu) (tg:=gNm 0) (el:=Ci DA (Cb (Cd 0) Cg)) (ro:=[none]) (mu:=mu) CJ [a,b,e] (λd hd=>⟨_,rfl,by simp_arith only [JB d (nRs h d hd)]⟩)
  have a3:JD [.lst [.bl (CJ a),.bl (CJ b),.bl (CJ e)]] mu=some (.bl (CJ a&&(CJ b&&CJ e)),mu):=by
   have:=Ss (mu:=mu) (ds:=[a,b,e]) (g:=CJ)
   simpa using this
  have E:GU cs (.tup [a,b,e])=((CJ a&&(CJ b&&CJ e))&&(if Em ["is","not"] a=true then Em cs b else Em ["like","unlike"] a&&(Em cs b&&Em cs e))):=rfl
  rw [E]
  simp_arith only [al,a3]
  cases c2:(CJ a&&(CJ b&&CJ e)) with
  | false=>simp_arith only []
  | true =>
   rw [Ab,Ab] at c2
   obtain ⟨x,rfl,_⟩:=DT c2.1
   obtain ⟨y,rfl,_⟩:=DT c2.2.1
   obtain ⟨z,rfl,_⟩:=DT c2.2.2
   have wi:=Ja (mu:=mu) (cs:=cs) (ws:=[y,z]) (.inr rfl)
   have wi':Dp [csD cs,.tup [.str y,.str z]] mu=some (.bl (Em cs (.str y)&&Em cs (.str z)),mu):=by
    have:(Em cs (.str y)&&Em cs (.str z))=[y,z].all λw=>decide (w∈cs):=by simp [Em]
    rw [this]
    exact wi
   have i1:inG (.str y) (csD cs) mu=some (.bl (Em cs (.str y)),mu):=Ut
   have i2:inG (.str x) (.tup [.str "is",.str "not"]) mu=some (.bl (Em ["is","not"] (.str x)),mu):=MI
   have i3:inG (.str x) (.tup [.str "like",.str "unlike"]) mu=some (.bl (Em ["like","unlike"] (.str x)),mu):=MI
   simp_arith only [i2]
   cases c3:Em ["is","not"] (.str x) with
   | true=>simp_arith only [i1]
   | false =>
    simp_arith only [i3]
    cases c4:Em ["like","unlike"] (.str x) with
    | false=>simp_arith only []
    | true=>simp_arith only [wi']
noncomputable def KZ (cs:List Str):D->Bool
 | .tup ds=>Dn 1 4 (.tup ds)&&ds.all (GU cs)
 | _=>false
theorem RK (cs:List Str)(d:D)(h:Dh 0 d=true):F1 [csD cs,d] mu=some (.bl (KZ cs d),mu):=by
 simp_arith only [F1,HZ,Gy d 1 4 (Fq h)]
 cases d with
 | tup ds =>
  have e:KZ cs (.tup ds)=(Dn 1 4 (.tup ds)&&ds.all (GU cs)):=rfl
  rw [e]
  cases c:Dn 1 4 (.tup ds) with
  | false=>simp_arith only []
  | true =>
   have al:=L7 (m0:=mu) (tg:=gNm 0) (el:=Ci Gq (Cb (Cd 1) (Cb (Cd 0) Cg))) (ro:=[none,some (csD cs)]) (mu:=mu) (GU cs) ds (λd hd=>⟨_,rfl,by simp_arith only [Vo cs d (lows h d hd)]⟩)
   simp_arith only [al]
 | ref k=>cases Fq h
 | _=>simp_arith only [Dn,KZ]
noncomputable def EV:Option (List Str)->D
 | none=>.non
 | some cs=>csD cs
noncomputable def Ob:D->List Str
 | .tup ds=>(strsOf ds).getD []
 | _=>[]
noncomputable def Vy:List D->List (Str×Str)
 | .tup [.str a,.str b]::r=>(a,b)::Vy r
 | _=>[]
theorem NR (ps:List (Str×Str)):Vy (ps.map prD)=ps:=by
 induction ps with
 | nil=>rfl
 | cons p ps ih =>
  rw [AL]
  unfold prD
  unfold prD at ih
  rw [Vy,ih]
noncomputable def prT:D->List (Str×Str)
 | .tup ds=>Vy ds
 | _=>[]
noncomputable def FJ (cs:List Str)(w:Str)(d:D):Option (List Str):=
 if w="rows" then (if KZ cs d=true then some cs else none)
 else if w="columns" then (if (wsB cs.length d&&(Ob d).all λx=>decide (x∈cs))=true then some (Ob d) else none)
 else if w="called" then (if Ku cs d=true then (if (cs.map (EW (prT d))).Nodup then some (cs.map (EW (prT d))) else none) else none)
 else none
theorem JQ {hi:Int}{d:D}(h:wsB hi d=true):∃ ss:List Str,d=csD ss∧Ob d=ss∧ss.Nodup∧1≤ss.length∧(ss.length:Int)≤hi∧∀ x∈ss,IsW x:=by
 unfold wsB at h
 rw [Ab,Ab] at h
 cases d with
 | tup ds =>
  obtain ⟨ss,rfl,hw⟩:=IH (show ds.all CJ=true from h.2.1)
  have:=h.1
  simp only [Dn,Ag,Ab,Ae] at this
  refine ⟨ss,rfl,by simp [Ob,PV.strs_map],?_,by omega,by omega,hw⟩
  have n:=h.2.2
  simp only [ndB,Ae] at n
  exact D6.mp n
 | _=>simp [Dn] at h
theorem IE {cs:List Str}{d:D}(h:Ku cs d=true):∃ ps:List (Str×Str),d=.tup (ps.map prD)∧prT d=ps∧(ps.map (·.1)).Nodup∧1≤ps.length∧(∀ p∈ps,IsW p.1∧IsW p.2)∧∀ p∈ps,p.1∈cs:=by
 cases d with
 | tup ds =>
  have e:((Dn 1 cs.length (.tup ds)&&ds.all Fd)&&(ndB (ds.map DO)&&(ds.map DO).all (Em cs)))=true:=h
  rw [Ab,Ab,Ab] at e
  obtain ⟨ps,rfl,hw⟩:=LZ e.1.2
  have l:=e.1.1
  simp only [Dn,Ag,Ab,Ae] at l
  have n:=e.2.1
  rw [KQ] at n
  simp only [ndB,Ae] at n
  have al:=e.2.2
  rw [KQ,Nq,Aq] at al
  refine ⟨ps,rfl,NR ps,D6.mp n,by omega,hw,λp hp=>?_⟩
  simpa using al p.1 (Ay.mpr ⟨p,hp,rfl⟩)
 | _=>simp [Ku] at h
theorem O1 {cs:List Str}(hc:cs.length≤2000){w:Str}{d:D}(h:Dh 0 d=true):DG [csD cs,.str w,d] mu=some (EV (FJ cs w d),mu):=by
 unfold FJ
 simp_arith only [DG,EL]
 by_cases c1:w="rows"
 ·simp_arith only [c1,RK cs d h]
  cases KZ cs d with
  | true=>simp_arith only [EV]
  | false=>simp_arith only [EV]
 ·simp_arith only [c1]
  by_cases c2:w="columns"
  ·simp_arith only [c2,Ul,Po cs.length (by omega) d h]
   cases c:wsB cs.length d with
   | false=>simp_arith only [EV]
   | true =>
    obtain ⟨ss,rfl,e,_⟩:=JQ c
    have wi:=Ja (mu:=mu) (cs:=cs) (ws:=ss) (.inr rfl)
    have wi':Dp [csD cs,csD ss] mu=some (.bl (ss.all λw=>decide (w∈cs)),mu):=wi
    simp_arith only [wi',e]
    cases ss.all λw=>decide (w∈cs) with
    | true=>simp_arith only [EV]
    | false=>simp_arith only [EV]
  ·simp_arith only [c2]
   by_cases c3:w="called"
   ·simp_arith only [c3,Q7 cs hc d h]
    cases c:Ku cs d with
    | false=>simp_arith only [EV]
    | true =>
     obtain ⟨ps,rfl,e,nd,_⟩:=IE c
     have ul:Dg [csD (cs.map (EW ps))] mu=some (.bl (ndB ((cs.map (EW ps)).map D.str)),mu):=MP (by rw [Ag];omega)
     simp_arith only [K4 nd,e,ul]
     by_cases c4:(cs.map (EW ps)).Nodup
     ·have:ndB ((cs.map (EW ps)).map D.str)=true:=by simp only [ndB,Ae];exact D6.mpr c4
      simp_arith only [this,c4,EV]
     ·have:ndB ((cs.map (EW ps)).map D.str)=false:=by simp only [ndB,decide_eq_false_iff_not];exact λz=>c4 (D6.mp z)
      simp_arith only [this,c4,EV]
   ·simp_arith only [c3,EV]
noncomputable def IV (one other:List Str):List Str:=one++other.filter λc=>!decide (c∈one)
theorem OY {m0:Sto}(one other:List Str):FA none m0 (gNm 0) (tV (Ck Kt (Cd 0) (Cd 1))) (Cd 0) [none,some (csD one)] (other.map D.str) mu=some ((other.filter λc=>!decide (c∈one)).map D.str,mu):=by
 have:=KN (m0:=m0) (tg:=gNm 0) (tt:=tV (Ck Kt (Cd 0) (Cd 1))) (el:=Cd 0) (ro:=[none,some (csD one)]) (mu:=mu) (λd=>!Em one d) id (other.map D.str) (λd hd=>by
  obtain ⟨c,_,rfl⟩:=Ay.mp hd
  refine ⟨_,rfl,?_,λ_=>rfl⟩
  have i:Kt (.str c) (csD one) mu=some (.bl (!Em one (.str c)),mu):=Tw
  simp_arith only [i])
 rw [this,List.map_id,List.filter_map]
 rfl
theorem Lc {one other:List Str}(h:one.length+other.length≤4000):Dm [csD one,csD other] mu=some (csD (IV one other),mu):=by
 have l:=List.length_filter_le (λc=>!decide (c∈one)) other
 have za:Dc (.tup (one.map D.str)) (.tup ((other.filter λc=>!decide (c∈one)).map D.str)) mu=some (csD (IV one other),mu):=by
  unfold Dc
  dsimp only
  rw [if_pos (by simp only [Ag,AO];omega)]
  simp [csD,IV]
 have lc:=OY (m0:=mu) (mu:=mu) one other
 unfold csD at lc ⊢
 unfold csD at za
 simp_arith only [Dm,FF,lc,za]
noncomputable def Ke (one:List Str)(w:Str)(other:List Str):Option (List Str):=if w="join" then some (IV one other) else if one=other then some one else none
theorem str_inj:∀ {a b:List Str},a.map D.str=b.map D.str->a=b
 | [],[],_=>rfl
 | [],_::_,h=>by cases h
 | _::_,[],h=>by cases h
 | x::a,y::b,h=>by
  rw [AL,AL] at h
  injection h with h1 h2
  injection h1 with h1
  rw [h1,str_inj h2]
theorem UO {a b:List Str}:csD a=csD b ↔ a=b:=by
 unfold csD
 constructor
 ·intro h
  injection h with h
  exact str_inj h
 ·intro h;rw [h]
theorem OS {one other:List Str}{w:Str}(h:one.length+other.length≤4000):DH [csD one,.str w,csD other] mu=some (EV (Ke one w other),mu):=by
 unfold Ke
 have eq:eqD (csD one) (csD other) mu=some (.bl (decide (csD one=csD other)),mu):=Z8 (Iw one) (Iw other)
 simp_arith only [DH,EN]
 by_cases c1:w="join"
 ·simp_arith only [c1,Lc h,EV]
 ·simp_arith only [c1,eq]
  by_cases c2:one=other
  ·subst c2;simp_arith only [EV]
  ·have:¬ csD one=csD other:=λz=>c2 (UO.mp z)
   simp_arith only [this,c2,EV]
noncomputable abbrev Kn:=List (Str×List Str)
noncomputable def knD (kn:Kn):D:=.dct (kn.map λp=>.str p.1) (kn.map λp=>csD p.2)
noncomputable def ES:Kn->Str->Option (List Str)
 | [],_=>none
 | p::r,x=>if p.1=x then some p.2 else ES r x
theorem Qd (kn:Kn)(x:Str):FI (.str x) (kn.map λp=>.str p.1) (kn.map λp=>csD p.2)=(ES kn x).map csD:=by
 induction kn with
 | nil=>rfl
 | cons p r ih =>
  rw [AL,AL,FI,ES]
  by_cases c:p.1=x
  ·rw [if_pos (by rw [c]),if_pos c];rfl
  ·rw [if_neg (λz=>c (by injection z)),if_neg c,ih]
theorem Uv (kn:Kn)(x:Str):decide (D.str x∈kn.map λp=>D.str p.1)=(ES kn x).isSome:=by
 induction kn with
 | nil=>simp [ES]
 | cons p r ih =>
  rw [ES,AL]
  by_cases c:p.1=x
  ·rw [if_pos c];simp [c]
  ·rw [if_neg c,← ih]
   have:¬ D.str x=D.str p.1:=λz=>c (by injection z with z;exact z.symm)
   simp [this]
theorem P9 {kn:Kn}{x:Str}{cs:List Str}(h:ES kn x=some cs):(x,cs)∈kn:=by
 induction kn with
 | nil=>cases h
 | cons p r ih =>
  rw [ES] at h
  by_cases c:p.1=x
  ·rw [if_pos c] at h
   cases h
   rw [← c]
   exact .head _
  ·rw [if_neg c] at h
   exact .tail _ (ih h)
noncomputable def ofC (kn:Kn)(w:Str)(b:D):Option (List Str):=if (decide (w="of")&&CJ b)=true then (match b with|.str x=>ES kn x|_=>none) else none
noncomputable def Cq (kn:Kn):Nat->D->Option (List Str)
 | 0,_=>none
 | n+1,d=>match d with
  | .tup [.str w,b]=>ofC kn w b
  | .tup [.str w,a,b]=>if w="of" then none else match Cq kn n a with
   | none=>none
   | some one=>if w∈(["join","union","gap"]:List Str) then (match Cq kn n b with
    | none=>none
    | some other=>Ke one w other) else FJ one w b
  | _=>none
theorem ED {kn:Kn}(hk:∀ p∈kn,p.2.length≤4):∀ (n:Nat) (d:D) (cs:List Str),Cq kn n d=some cs->cs.length≤4*2 ^ n
 | 0,_,_,h=>by cases h
 | n+1,d,cs,h=>by
  have two:2 ^ (n+1)=2*2 ^ n:=by rw [Nat.pow_succ];omega
  have pos:0<2 ^ n:=Nat.two_pow_pos n
  unfold Cq at h
  split at h
  ·unfold ofC at h
   split at h
   ·split at h
    ·have:=hk _ (P9 h)
     dsimp only at this
     omega
    ·cases h
   ·cases h
  ·split at h
   ·cases h
   ·split at h
    ·cases h
    ·rename_i one e1
     have l1:=ED hk n _ _ e1
     split at h
     ·split at h
      ·cases h
      ·rename_i other e2
       have l2:=ED hk n _ _ e2
       unfold Ke at h
       split at h
       ·cases h
        unfold IV
        have:=List.length_filter_le (λc=>!decide (c∈one)) other
        rw [Az]
        omega
       ·split at h
        ·cases h;omega
        ·cases h
     ·unfold FJ at h
      split at h
      ·split at h
       ·cases h;omega
       ·cases h
      ·split at h
       ·split at h
        ·rename_i c
         cases h
         rw [Ab] at c
         obtain ⟨ss,_,e,_,_,l,_⟩:=JQ c.1
         rw [e]
         omega
        ·cases h
       ·split at h
        ·split at h
         ·split at h
          ·cases h;rw [Ag];omega
          ·cases h
         ·cases h
        ·cases h
  ·cases h
theorem M1 (o:Option (List Str)):isN (EV o)=o.isNone:=by cases o<;>rfl
theorem RB {kn:Kn}{a b:D}(h:Dh 0 b=true):E5 [knD kn,.tup [a,b]] mu=some (.bl (CJ b&&match b with|.str x=>(ES kn x).isSome|_=>false),mu):=by
 simp_arith only [E5,Hh,JB b (Fq h)]
 cases c:CJ b with
 | false=>simp [c]
 | true =>
  obtain ⟨x,rfl,_⟩:=DT c
  have i:inG (.str x) (knD kn) mu=some (.bl (ES kn x).isSome,mu):=by rw [← Uv];exact AaT
  simp [c,i]
theorem YQ {kn:Kn}{a b c:D}:E5 [knD kn,.tup [a,b,c]] mu=some (.bl false,mu):=by
 simp [E5,Hh,WO]
theorem KU {kn:Kn}(hk:∀ p∈kn,p.2.length≤4):∀ (f:Nat) {n:Nat} (d:D) {mu:Sto},n≤f->n≤8->Dh 0 d=true->CK (f+1) [knD kn,d,.int n] mu=some (EV (Cq kn n d),mu)
 | f,0,d,mu,_,_,_=>by
  simp_arith only [CK,Eh,Int.natCast_zero,Cq,EV]
 | 0,n+1,_,_,h,_,_=>by omega
 | f+1,n+1,d,mu,hf,h8,h=>by
  have n0:¬ (((n+1:Nat):Int)=0):=by omega
  have n1:((n+1:Nat):Int)-1=(n:Int):=by omega
  rw [CK]
  simp_arith only [Eh,n0,Gy d 2 3 (Fq h)]
  cases c:Dn 2 3 d with
  | false =>
   have:Cq kn (n+1) d=none:=by
    unfold Cq
    split
    ·simp [Dn] at c
    ·simp [Dn] at c
    ·rfl
   simp_arith only [this,EV]
  | true =>
   cases d with
   | tup ds =>
    simp only [Dn,Ab,Ae] at c
    match ds,c,h with
    | [],c,h=>simp at c
    | [a],c,h=>simp at c
    | a::b::e::g::r,c,h=>simp at c;omega
    | [a,b],c,h =>
     have hb:=lows h b (by simp)
     cases a with
     | str w =>
      simp_arith only []
      by_cases cw:w="of"
      ·simp_arith only [cw,RB hb]
       cases cb:CJ b with
       | false =>
        have:Cq kn (n+1) (.tup [.str "of",b])=none:=by
         simp only [Cq,ofC,cb,Bool.and_false,AN,A5]
        simp_arith only [this,EV]
       | true =>
        obtain ⟨x,rfl,wx⟩:=DT cb
        have e:Cq kn (n+1) (.tup [.str "of",.str x])=ES kn x:=by
         have wb:CJ (.str x)=true:=CP.mpr wx
         simp only [Cq,ofC,wb,decide_true,A4,if_true]
        rw [e]
        cases el:ES kn x with
        | none=>simp_arith only [el,Option.isSome_none,EV]
        | some cs =>
         have ix:ixG (knD kn) (.str x) mu=some (csD cs,mu):=Wy (by rw [Qd,el];rfl)
         simp_arith only [el,Option.isSome_some,ix,EV]
      ·have:Cq kn (n+1) (.tup [.str w,b])=none:=by
        simp only [Cq,ofC,cw,decide_false,Bool.false_and,AN,A5]
       have d23:decide (((2:Nat):Int)=3)=false:=rfl
       simp_arith only [cw,this,EV,Sz,isN,d23]
     | ref k=>cases Fq (lows h (.ref k) (by simp))
     | _=>simp_arith only [Cq,EV]
    | [a,b,e],c,h =>
     have hb:=lows h b (by simp)
     have he:=lows h e (by simp)
     cases a with
     | str w =>
      simp_arith only []
      by_cases cw:w="of"
      ·have:Cq kn (n+1) (.tup [.str "of",b,e])=none:=by
        simp only [Cq,if_true]
       simp_arith only [cw,YQ,this,EV]
      ·have r1:=KU hk f (n:=n) b (mu:=mu) (by omega) (by omega) hb
       have E:Cq kn (n+1) (.tup [.str w,b,e])=match Cq kn n b with
         | none=>none
         | some one=>if w∈(["join","union","gap"]:List Str) then (match Cq kn n e with
          | none=>none
          | some other=>Ke one w other) else FJ one w e:=by
        conv=>lhs;unfold Cq
        dsimp only
        rw [if_neg cw]
       rw [E]
       have d33:decide (((3:Nat):Int)=3)=true:=rfl
       simp_arith only [cw,n1,r1,d33,Sz,M1]
       cases eo:Cq kn n b with
       | none=>simp_arith only [EV,Option.isNone_none]
       | some one =>
        have lo:=ED hk n _ _ eo
        have p8:2 ^ n≤2 ^ 7:=Br (by decide) (by omega)
        simp_arith only [EV,Option.isNone_some,Vd]
        by_cases cm:w∈(["join","union","gap"]:List Str)
        ·have r2:=KU hk f (n:=n) e (mu:=mu) (by omega) (by omega) he
         simp_arith only [cm,n1,r2,Sz,M1]
         cases eo2:Cq kn n e with
         | none=>simp_arith only [EV,Option.isNone_none]
         | some other =>
          have lo2:=ED hk n _ _ eo2
          simp_arith only [EV,Option.isNone_some,OS (one:=one) (other:=other) (w:=w) (mu:=mu) (by omega)]
        ·simp_arith only [cm,O1 (cs:=one) (w:=w) (mu:=mu) (by omega) he]
         rfl
     | ref k=>cases Fq (lows h (.ref k) (by simp))
     | _=>simp_arith only [Cq,EV]
   | _=>simp [Dn] at c
end PG
namespace PV
open PySem L2 PyProof.Rows K1
variable {mu:Sto}
theorem AbI {β:Type}{i:Ix}{nc:Nat}{fvs:List Nat}{tg:Gx}{tt:Tx}{st:Mx β}{b0:β}{fin:β->Sto->D×Sto}{ro:Ro}:eCo i nc fvs tg tt st b0 fin ro mu=bM (i ro mu) λp m1=>bM (cGo p.2 m1 tg tt st (r0 nc fvs ro) p.1 b0 m1) λb m2=>some (fin b m2):=rfl
theorem TY (k v:D)(ks ds:List D):(EM k v ks ds).1.length≤ks.length+1:=by
 unfold EM
 split
 ·exact Bi _
 ·rw [Az];exact Ah _
theorem Oo {m0:Sto}{tg:Gx}{kk vv:Ex}{ro:Ro}(g:D->D×D):∀ (ds:List D) (p:List D×List D),(∀ d∈ds,∃ ro1,tg d ro mu=some (ro1,mu)∧kk ro1 mu=some ((g d).1,mu)∧vv ro1 mu=some ((g d).2,mu)∧En (g d).1=true)->p.1.length+ds.length≤sizeLine->cGo none m0 tg tY (stD kk vv) ro ds p mu=some (putAll p (ds.map g),mu)
 | [],p,_,_=>rfl
 | d::ds,p,h,l=>by
  obtain ⟨ro1,e1,e2,e3,e4⟩:=h d (.head _)
  rw [List.length_cons] at l
  have ih:=Oo (m0:=m0) (tg:=tg) (kk:=kk) (vv:=vv) (ro:=ro) g ds (EM (g d).1 (g d).2 p.1 p.2) (λd' hd=>h d' (.tail _ hd)) (by have:=TY (g d).1 (g d).2 p.1 p.2;omega)
  unfold cGo
  rw [e1,D9]
  simp only [Xo,Q8,if_true,stD,e2,e3]
  rw [if_pos ⟨e4,by omega⟩,D9,EB,if_pos (show gOk none m0 mu from True.intro),ih]
  rfl
end PV
namespace PG
open PySem L2 PV PyProof.Rows K1
variable {mu:Sto}
structure TbK (t:Tb):Prop where
 ok:Abb t
 nw:IsW t.nm
 cw:∀ p∈t.cs,IsW p.1
 cn:(t.cs.map (·.1)).Nodup
 vw:∀ p∈t.cs,∀ x∈p.2,IsW x
theorem Pd {d:D}(h:Ho d=true):∃ ss:List Str,d=.tup (ss.map D.str)∧ss≠[]∧ss.length≤4∧∀ x∈ss,IsW x:=by
 unfold Ho at h
 rw [Ab,Ab] at h
 cases d with
 | tup ds =>
  obtain ⟨ss,rfl,hw⟩:=IH (show ds.all CJ=true from h.2.1)
  have:=h.1
  simp only [Dn,Ag,Ab,Ae] at this
  exact ⟨ss,rfl,λe=>by rw [e] at this;simp at this,by omega,hw⟩
 | _=>simp [Dn] at h
theorem RH {ds:List D}(h:ds.all OC=true):∃ cs:List (Str×List Str),ds=cs.map clD∧∀ p∈cs,(p.2≠[]∧p.2.length≤4)∧IsW p.1∧∀ x∈p.2,IsW x:=by
 induction ds with
 | nil=>exact ⟨[],rfl,λ_ h=>nomatch h⟩
 | cons d ds ih =>
  rw [List.all_cons,Ab] at h
  obtain ⟨cs,rfl,hc⟩:=ih h.2
  have h1:=h.1
  unfold OC at h1
  split at h1
  ·rename_i a b
   rw [Ab] at h1
   obtain ⟨ss,rfl,l1,l2,l3⟩:=Pd h1.2
   obtain ⟨x,rfl,hx⟩:=DT h1.1
   refine ⟨(x,ss)::cs,rfl,λq hq=>?_⟩
   rcases Am.mp hq with rfl|hq
   ·exact ⟨⟨l1,l2⟩,hx,l3⟩
   ·exact hc q hq
  ·cases h1
theorem Ts {d:D}(h:MC d=true):∃ t,d=tbD t∧TbK t:=by
 unfold MC at h
 split at h
 ·rename_i n c k
  rw [Ab,Ab] at h
  obtain ⟨⟨h1,h2⟩,h3⟩:=h
  obtain ⟨x,rfl,hx⟩:=DT h1
  cases c with
  | tup ds =>
   have h2':((Dn 1 4 (.tup ds)&&ds.all OC)&&ndB (ds.map DO))=true:=h2
   rw [Ab,Ab] at h2'
   obtain ⟨cs,rfl,hv⟩:=RH h2'.1.2
   have hl:=h2'.1.1
   simp only [Dn,Ag,Ab,Ae] at hl
   cases k with
   | int i =>
    simp only [X0,ZY,Ag,Ab,Ae] at h3
    have nd:=h2'.2
    have e:(cs.map clD).map DO=(cs.map (·.1)).map D.str:=by
     rw [AI,AI]
     rfl
    rw [e] at nd
    simp only [ndB,Ae] at nd
    refine ⟨⟨x,cs,i.toNat⟩,?_,⟨⟨by show 1≤cs.length;omega,by show cs.length≤4;omega,by show 1≤i.toNat;omega,by show i.toNat≤cs.length;omega,λp hp=>(hv p hp).1⟩,hx,λp hp=>(hv p hp).2.1,D6.mp nd,λp hp=>(hv p hp).2.2⟩⟩
    unfold tbD
    rw [Int.toNat_of_nonneg (by omega)]
   | _=>simp [X0] at h3
  | _=>simp [WH] at h2
 ·cases h
theorem Rr {ds:List D}(h:ds.all MC=true):∃ ts:List Tb,ds=ts.map tbD∧∀ t∈ts,TbK t:=by
 induction ds with
 | nil=>exact ⟨[],rfl,λ_ h=>nomatch h⟩
 | cons d ds ih =>
  rw [List.all_cons,Ab] at h
  obtain ⟨ts,rfl,hc⟩:=ih h.2
  obtain ⟨t,rfl,h1⟩:=Ts h.1
  refine ⟨t::ts,rfl,λq hq=>?_⟩
  rcases Am.mp hq with rfl|hq
  ·exact h1
  ·exact hc q hq
structure SK (ts:List Tb):Prop where
 l1:1≤ts.length
 l4:ts.length≤4
 ok:∀ t∈ts,TbK t
 nd:(ts.map Tb.nm).Nodup
noncomputable def scD (ts:List Tb):D:=.tup (ts.map tbD)
theorem UD {d:D}(h:Vn d=true):∃ ts,d=scD ts∧SK ts:=by
 cases d with
 | tup ds =>
  have h':((Dn 1 4 (.tup ds)&&ds.all MC)&&LH (ds.map DO))=true:=h
  rw [Ab,Ab] at h'
  obtain ⟨ts,rfl,ho⟩:=Rr h'.1.2
  have hl:=h'.1.1
  simp only [Dn,Ag,Ab,Ae] at hl
  refine ⟨ts,rfl,by omega,by omega,ho,?_⟩
  have e:(ts.map tbD).map DO=(ts.map Tb.nm).map D.str:=by
   rw [AI,AI]
   rfl
  have r:=h'.2
  rw [e,O2] at r
  exact UE r
 | _=>simp [Vn] at h
noncomputable def tcs (t:Tb):List Str:=t.cs.map (·.1)
noncomputable def D2 (ts:List Tb):Kn:=ts.map λt=>(t.nm,tcs t)
theorem Ie {ts:List Tb}(h:SK ts):∀ p∈D2 ts,p.2.length≤4:=by
 intro p hp
 obtain ⟨t,ht,rfl⟩:=Ay.mp hp
 show (t.cs.map (·.1)).length≤4
 rw [Ag]
 exact (h.ok t ht).ok.c4
theorem Qp {ts:List Tb}(h:SK ts):∀ p∈D2 ts,IsW p.1∧p.2≠[]∧p.2.Nodup∧∀ x∈p.2,IsW x:=by
 intro p hp
 obtain ⟨t,ht,rfl⟩:=Ay.mp hp
 have k:=h.ok t ht
 refine ⟨k.nw,λe=>?_,k.cn,λx hx=>?_⟩
 ·have:=congrArg List.length e
  have c1:=k.ok.c1
  simp [tcs] at this
  rw [this] at c1
  simp at c1
 ·obtain ⟨q,hq,rfl⟩:=Ay.mp hx
  exact k.cw q hq
theorem La {ts:List Tb}(h:SK ts):Dr [scD ts] mu=some (knD (D2 ts),mu):=by
 have lc:∀ t:Tb,FA none mu (gNm 0) tY (Ck ixG (Cd 0) (eC (.int 0))) [none] (t.cs.map clD) mu=some ((tcs t).map D.str,mu):=λt=>by
  have:=Ij (m0:=mu) (tg:=gNm 0) (el:=Ck ixG (Cd 0) (eC (.int 0))) (ro:=[none]) (mu:=mu) DO (t.cs.map clD) (λd hd=>by
   obtain ⟨p,_,rfl⟩:=Ay.mp hd
   exact ⟨_,rfl,by simp_arith only [clD,DO]⟩)
  rw [this,AI]
  unfold tcs
  rw [AI]
  rfl
 have cg:=Oo (m0:=mu) (mu:=mu) (tg:=gNm 0) (kk:=Ck ixG (Cd 0) (eC (.int 0))) (vv:=Ci Gg (Cb (eLC (Fh (Ck ixG (Cd 0) (eC (.int 1)))) 1 [] (gNm 0) (tY) (Ck ixG (Cd 0) (eC (.int 0)))) Cg)) (ro:=[none]) (λd=>match d with
   | .tup [.str n,.tup cs,_]=>(.str n,.tup (cs.map DO))
   | _=>(.non,.non)) (ts.map tbD) ([],[]) (λd hd=>by
  obtain ⟨t,_,rfl⟩:=Ay.mp hd
  refine ⟨_,rfl,by simp_arith only [tbD],?_,Ih _⟩
  have e:(t.cs.map clD).map DO=(tcs t).map D.str:=by
   unfold tcs
   rw [AI,AI]
   rfl
  simp_arith only [tbD,lc,e]) (by rw [Ag,AO];have:=h.l4;simp;omega)
 have ee:(ts.map tbD).map (λd=>match d with
   | .tup [.str n,.tup cs,_]=>(.str n,.tup (cs.map DO))
   | _=>((.non:D),(.non:D)))=(D2 ts).map λp=>(.str p.1,csD p.2):=by
  unfold D2
  rw [AI,AI]
  refine List.map_congr_left λt _=>?_
  have e:(t.cs.map clD).map DO=(tcs t).map D.str:=by
   unfold tcs
   rw [AI,AI]
   rfl
  show (D.str t.nm,D.tup ((t.cs.map clD).map DO))=_
  rw [e]
  rfl
 rw [ee] at cg
 have nd:(([]:List D)++((D2 ts).map λp=>(D.str p.1,csD p.2)).map (·.1)).Nodup:=by
  have e:((D2 ts).map λp=>(D.str p.1,csD p.2)).map (·.1)=(ts.map Tb.nm).map D.str:=by
   unfold D2
   rw [AI,AI,AI]
   rfl
  rw [List.nil_append,e]
  exact D6.mpr h.nd
 rw [Kd _ [] [] rfl nd] at cg
 unfold scD
 simp_arith only [Dr,Fv,AbI,cg,Wm,knD,AI]
 rfl
theorem Nx {ts:List Tb}(h:SK ts)(d:D)(hd:Dh 0 d=true):CV [scD ts,d] mu=some (.bl (Cq (D2 ts) 8 d).isSome,mu):=by
 have r:=KU (Ie h) 9 (n:=8) d (mu:=mu) (by decide) (by decide) hd
 have r':CK 10 [knD (D2 ts),d,.int 8] mu=some (EV (Cq (D2 ts) 8 d),mu):=r
 simp_arith only [CV,JV,La h,r',YJ,M1]
 cases Cq (D2 ts) 8 d<;>rfl
end PG
namespace PV
open PySem L2 PyProof.Rows K1
variable {mu:Sto}
mutual
noncomputable def okB (n:Nat):D->Bool
 | .ref _=>false
 | .set _=>false
 | .tup ds=>decide (ds.length≤n)&&IP n ds
 | .lst ds=>IP n ds
 | .dct ks ds=>IP n ks&&IP n ds
 | _=>true
noncomputable def IP (n:Nat):List D->Bool
 | []=>true
 | d::ds=>okB n d&&IP n ds
end
theorem N2 {n:Nat}{ds:List D}:IP n ds=true ↔ ∀ d∈ds,okB n d=true:=by
 induction ds with
 | nil=>simp [IP]
 | cons d ds ih=>simp [IP,ih]
mutual
theorem QL {n:Nat}:∀ {d:D},okB n d=true->Dh 0 d=true
 | .non,_=>rfl
 | .bl _,_=>rfl
 | .int _,_=>rfl
 | .str _,_=>rfl
 | .ref k,e=>by simp [okB] at e
 | .set k,e=>by simp [okB] at e
 | .tup ds,e=>by
  simp only [okB,Ab] at e
  simp only [Dh]
  exact Ib e.2
 | .lst ds,e=>by
  simp only [okB] at e
  simp only [Dh]
  exact Ib e
 | .dct ks ds,e=>by
  simp only [okB,Ab] at e
  simp only [Dh,Ab]
  exact ⟨Ib e.1,Ib e.2⟩
theorem Ib {n:Nat}:∀ {ds:List D},IP n ds=true->EJ 0 ds=true
 | [],_=>rfl
 | d::ds,e=>by
  simp only [IP,Ab] at e
  simp only [EJ,Ab]
  exact ⟨QL e.1,Ib e.2⟩
end
mutual
theorem PB {n m:Nat}(h:n≤m):∀ {d:D},okB n d=true->okB m d=true
 | .non,_=>rfl
 | .bl _,_=>rfl
 | .int _,_=>rfl
 | .str _,_=>rfl
 | .ref k,e=>by simp [okB] at e
 | .set k,e=>by simp [okB] at e
 | .tup ds,e=>by
  simp only [okB,Ab,Ae] at e ⊢
  exact ⟨by omega,Jz h e.2⟩
 | .lst ds,e=>by
  simp only [okB] at e ⊢
  exact Jz h e
 | .dct ks ds,e=>by
  simp only [okB,Ab] at e ⊢
  exact ⟨Jz h e.1,Jz h e.2⟩
theorem Jz {n m:Nat}(h:n≤m):∀ {ds:List D},IP n ds=true->IP m ds=true
 | [],_=>rfl
 | d::ds,e=>by
  simp only [IP,Ab] at e ⊢
  exact ⟨PB h e.1,Jz h e.2⟩
end
theorem SY (n:Nat)(ss:List Str):IP n (ss.map D.str)=true:=by
 rw [N2]
 intro d hd
 obtain ⟨x,_,rfl⟩:=Ay.mp hd
 rfl
noncomputable def eqS (x:Str):D->Bool
 | .str y=>decide (x=y)
 | _=>false
theorem O7:∀ {ss cs:List Str},ss.Nodup->(∀ x∈ss,x∈cs)->ss.length≤cs.length
 | [],_,_,_=>AX _
 | x::ss,cs,n,h=>by
  rw [Bn] at n
  have hx:x∈cs:=h x (.head _)
  have ih:=O7 (ss:=ss) (cs:=cs.erase x) n.2 (λy hy=>(List.mem_erase_of_ne (λe:y=x=>n.1 (by rw [← e];exact hy))).mpr (h y (.tail _ hy)))
  rw [List.length_erase_of_mem hx] at ih
  have:=List.length_pos_of_mem hx
  rw [List.length_cons]
  omega
end PV
namespace PG
open PySem L2 PV PyProof.Rows K1
variable {mu:Sto}
noncomputable def CsW (cs:List Str):Prop:=∀ x∈cs,IsW x
noncomputable def ltB (cs:List Str):D->Bool
 | .tup [.str a,.str b,.str c]=>decide (b∈cs)&&(if a∈(["is","not"]:List Str) then wB c else decide (a∈(["like","unlike"]:List Str))&&decide (c∈cs))
 | _=>false
theorem Uj:IsW "is":=CP.mp (by decide +kernel)
theorem Qx:IsW "not":=CP.mp (by decide +kernel)
theorem KR:IsW "like":=CP.mp (by decide +kernel)
theorem Ln:IsW "unlike":=CP.mp (by decide +kernel)
theorem TU {cs:List Str}(hw:CsW cs)(d:D):ltB cs d=GU cs d:=by
 by_cases c:∃ a b e,d=.tup [.str a,.str b,.str e]
 ·obtain ⟨a,b,e,rfl⟩:=c
  have E:GU cs (.tup [.str a,.str b,.str e])=((wB a&&(wB b&&wB e))&&(if decide (a∈(["is","not"]:List Str))=true then decide (b∈cs) else decide (a∈(["like","unlike"]:List Str))&&(decide (b∈cs)&&decide (e∈cs)))):=rfl
  have E2:ltB cs (.tup [.str a,.str b,.str e])=(decide (b∈cs)&&(if a∈(["is","not"]:List Str) then wB e else decide (a∈(["like","unlike"]:List Str))&&decide (e∈cs))):=rfl
  rw [E,E2]
  by_cases hb:b∈cs
  ·have wb:wB b=true:=CP.mpr (hw b hb)
   by_cases h1:a∈(["is","not"]:List Str)
   ·have wa:wB a=true:=by
     simp only [Am,AQ,BB] at h1
     rcases h1 with rfl|rfl
     ·exact CP.mpr Uj
     ·exact CP.mpr Qx
    simp [h1,hb,wa,wb]
   ·by_cases h2:a∈(["like","unlike"]:List Str)
    ·have wa:wB a=true:=by
      simp only [Am,AQ,BB] at h2
      rcases h2 with rfl|rfl
      ·exact CP.mpr KR
      ·exact CP.mpr Ln
     by_cases he:e∈cs
     ·have we:wB e=true:=CP.mpr (hw e he)
      simp [h1,h2,hb,he,wa,wb,we]
     ·simp [h1,h2,hb,he]
    ·simp [h1,h2]
  ·by_cases h1:a∈(["is","not"]:List Str)
   ·simp [h1,hb]
   ·simp [h1,hb]
 ·have e1:ltB cs d=false:=by
   unfold ltB
   split
   ·exact absurd ⟨_,_,_,rfl⟩ c
   ·rfl
  rw [e1]
  unfold GU
  split
  ·rename_i a b e
   by_cases w:(CJ a&&(CJ b&&CJ e))=true
   ·rw [Ab,Ab] at w
    obtain ⟨x,rfl,_⟩:=DT w.1
    obtain ⟨y,rfl,_⟩:=DT w.2.1
    obtain ⟨z,rfl,_⟩:=DT w.2.2
    exact absurd ⟨_,_,_,rfl⟩ c
   ·rw [Bool.not_eq_true] at w
    rw [w]
    rfl
  ·rfl
noncomputable def Yw (cs:List Str):D->Bool
 | .tup ds=>!(ds.length==0)&&(ds.all (Em cs)&&ndB ds)
 | _=>false
theorem XT {cs:List Str}{ds:List D}(h:ds.all (Em cs)=true):∃ ss:List Str,ds=ss.map D.str∧∀ x∈ss,x∈cs:=by
 induction ds with
 | nil=>exact ⟨[],rfl,λ_ h=>nomatch h⟩
 | cons d ds ih =>
  rw [List.all_cons,Ab] at h
  obtain ⟨ss,rfl,hs⟩:=ih h.2
  cases d with
  | str x =>
   refine ⟨x::ss,rfl,λy hy=>?_⟩
   rcases Am.mp hy with rfl|hy
   ·simpa [Em] using h.1
   ·exact hs y hy
  | _=>simp [Em] at h
end PG
namespace PV
open PySem L2 PyProof.Rows K1
variable {mu:Sto}
theorem S9 {xs:List D}(h:Et xs=true):neD (.lst xs) (.lst []) mu=some (.bl (!(xs.length==0)),mu):=by
 have:eqB mu (.lst xs) (.lst [])=some (xs.length==0):=by
  unfold eqB
  simp only [seen,Dj,Et,h,A4,Bool.true_and]
  rw [if_pos (by simp [toPy,CA,PyData.depth,PyData.depthAll])]
  cases xs<;>rfl
 unfold neD
 rw [this]
 rfl
end PV
namespace PG
open PySem L2 PV PyProof.Rows K1
variable {mu:Sto}
noncomputable def p2B:D->Bool
 | .tup ds=>decide ((ds.length:Int)=2)
 | _=>false
noncomputable def Zx:D->D
 | .tup [_,b]=>b
 | _=>.non
theorem WT {d:D}(h:p2B d=true):∃ a b,d=.tup [a,b]:=by
 cases d with
 | tup ds =>
  match ds,h with
  | [a,b],_=>exact ⟨a,b,rfl⟩
  | [],h=>simp [p2B] at h
  | [_],h=>simp [p2B] at h
  | _::_::_::_,h=>simp [p2B] at h;omega
 | _=>simp [p2B] at h
theorem SX {cs:List Str}(hw:CsW cs)(ds:List D):Ku cs (.tup ds)=(ds.all p2B&&(Yw cs (.tup (ds.map DO))&&ds.all λd=>CJ (Zx d))):=by
 have E:Ku cs (.tup ds)=((Dn 1 cs.length (.tup ds)&&ds.all Fd)&&(ndB (ds.map DO)&&(ds.map DO).all (Em cs))):=rfl
 have C:Yw cs (.tup (ds.map DO))=(!((ds.map DO).length==0)&&((ds.map DO).all (Em cs)&&ndB (ds.map DO))):=rfl
 rw [E,C]
 rw [Bool.eq_iff_iff]
 simp only [Ab,Aq,Bool.not_eq_true',BY,Dn,Ae,Ag]
 constructor
 ·rintro ⟨⟨⟨l1,l2⟩,pa⟩,nd,al⟩
  refine ⟨λd hd=>?_,⟨⟨by omega,al,nd⟩,λd hd=>?_⟩⟩
  ·have:=pa d hd
   unfold Fd at this
   split at this
   ·simp [p2B]
   ·cases this
  ·have:=pa d hd
   unfold Fd at this
   split at this
   ·rw [Ab] at this;exact this.2
   ·cases this
 ·rintro ⟨p2,⟨l0,al,nd⟩,ws⟩
  have fw:∀ d∈ds,CJ (DO d)=true:=λd hd=>by
   have:=al (DO d) (Ay.mpr ⟨d,hd,rfl⟩)
   cases e:DO d with
   | str x=>rw [e] at this;exact CP.mpr (hw x (by simpa [Em] using this))
   | _=>rw [e] at this;simp [Em] at this
  have pa:∀ d∈ds,Fd d=true:=λd hd=>by
   obtain ⟨a,b,rfl⟩:=WT (p2 d hd)
   have h1:=fw _ hd
   have h2:=ws _ hd
   simp only [DO] at h1
   simp only [Zx] at h2
   simp [Fd,h1,h2]
  obtain ⟨ss,es,hs⟩:=XT (cs:=cs) (ds:=ds.map DO) (Aq.mpr al)
  have n2:ss.Nodup:=by
   simp only [ndB,Ae] at nd
   rw [es] at nd
   exact D6.mp nd
  have l:=O7 n2 hs
  have l':=congrArg List.length es
  simp only [Ag] at l'
  exact ⟨⟨⟨by omega,by omega⟩,pa⟩,nd,al⟩
structure IW (cs:List Str):Prop where
 w:CsW cs
 ne:cs≠[]
 nd:cs.Nodup
noncomputable def Aaa (kn:Kn):Prop:=∀ p∈kn,IW p.2
theorem Tj {ts:List Tb}(h:SK ts):Aaa (D2 ts):=λp hp=>by
 obtain ⟨_,b,c,d⟩:=Qp h p hp
 exact ⟨d,b,c⟩
theorem Xv {one other:List Str}(a:IW one)(b:IW other):IW (IV one other):=by
 unfold IV
 refine ⟨λx hx=>?_,λe=>a.ne (List.append_eq_nil_iff.mp e).1,Bv.mpr ⟨a.nd,b.nd.filter _,λx hx y hy e=>?_⟩⟩
 ·rcases AR.mp hx with hx|hx
  ·exact a.w x hx
  ·exact b.w x (List.mem_filter.mp hx).1
 ·subst e
  have:=(List.mem_filter.mp hy).2
  simp [hx] at this
theorem RZ (ps:List (Str×Str))(c:Str):EW ps c=c∨∃ p∈ps,EW ps c=p.2:=by
 induction ps with
 | nil=>exact .inl rfl
 | cons p ps ih =>
  unfold EW
  by_cases e:p.1=c
  ·rw [if_pos e];exact .inr ⟨p,.head _,rfl⟩
  ·rw [if_neg e]
   rcases ih with h|⟨q,hq,h⟩
   ·exact .inl h
   ·exact .inr ⟨q,.tail _ hq,h⟩
theorem X1 {one:List Str}(a:IW one){w:Str}{d:D}{cs:List Str}(h:FJ one w d=some cs):IW cs:=by
 unfold FJ at h
 split at h
 ·split at h
  ·cases h;exact a
  ·cases h
 ·split at h
  ·split at h
   ·rename_i c
    cases h
    rw [Ab] at c
    obtain ⟨ss,_,e,nd,l,_,hw⟩:=JQ c.1
    rw [e]
    exact ⟨hw,λz=>by rw [z] at l;simp at l,nd⟩
   ·cases h
  ·split at h
   ·split at h
    ·rename_i c
     split at h
     ·rename_i n
      cases h
      obtain ⟨ps,_,e,_,_,hw,_⟩:=IE c
      rw [e] at n ⊢
      refine ⟨λx hx=>?_,λz=>a.ne (List.map_eq_nil_iff.mp z),n⟩
      obtain ⟨y,hy,rfl⟩:=Ay.mp hx
      rcases RZ ps y with q|⟨p,hp,q⟩
      ·rw [q];exact a.w y hy
      ·rw [q];exact (hw p hp).2
     ·cases h
    ·cases h
   ·cases h
theorem JC {kn:Kn}(hk:Aaa kn):∀ (n:Nat) (d:D) (cs:List Str),Cq kn n d=some cs->IW cs
 | 0,_,_,h=>by cases h
 | n+1,d,cs,h=>by
  unfold Cq at h
  split at h
  ·unfold ofC at h
   split at h
   ·split at h
    ·exact hk _ (P9 h)
    ·cases h
   ·cases h
  ·split at h
   ·cases h
   ·split at h
    ·cases h
    ·rename_i one e1
     have l1:=JC hk n _ _ e1
     split at h
     ·split at h
      ·cases h
      ·rename_i other e2
       have l2:=JC hk n _ _ e2
       unfold Ke at h
       split at h
       ·cases h;exact Xv l1 l2
       ·split at h
        ·cases h;exact l1
        ·cases h
     ·exact X1 l1 h
  ·cases h
noncomputable def fnd (ts:List Tb)(b:D):List (List Str):=(ts.filter λt=>eqS t.nm b).map tcs
theorem YR {ts:List Tb}(h:∀ t∈ts,IsW t.nm)(b:D):ofC (D2 ts) "of" b=(fnd ts b).head?:=by
 induction ts with
 | nil =>
  unfold ofC fnd D2
  simp only [List.map_nil,List.filter_nil,List.head?_nil]
  split
  ·cases b<;>rfl
  ·rfl
 | cons t ts ih =>
  have ih':=ih λt ht=>h t (.tail _ ht)
  unfold ofC fnd at ih' ⊢
  unfold D2 at ih' ⊢
  rw [AL]
  by_cases e:eqS t.nm b=true
  ·simp only [List.filter_cons,e,if_true]
   cases b with
   | str y =>
    have e':t.nm=y:=by simpa [eqS] using e
    subst e'
    have w:CJ (.str t.nm)=true:=CP.mpr (h t (.head _))
    simp only [w,decide_true,A4,if_true,AL,List.head?_cons,ES]
   | _=>simp [eqS] at e
  ·rw [List.filter_cons,if_neg e,← ih']
   cases b with
   | str y =>
    have e':¬ t.nm=y:=by simpa [eqS] using e
    simp only [ES,e',A5]
   | _=>rfl
theorem Xb {m0:Sto}(t:Tb):FA none m0 (gTp 2 (CC (gNm 0) (CC (gNm 1) Ew))) tY (Cd 0) [none,none] (t.cs.map clD) mu=some ((tcs t).map D.str,mu):=by
 have:=Ij (m0:=m0) (tg:=gTp 2 (CC (gNm 0) (CC (gNm 1) Ew))) (el:=Cd 0) (ro:=[none,none]) (mu:=mu) DO (t.cs.map clD) (λd hd=>by
  obtain ⟨p,_,rfl⟩:=Ay.mp hd
  exact ⟨_,rfl,rfl⟩)
 rw [this,AI]
 unfold tcs
 rw [AI]
 rfl
noncomputable def Yh:D->Str
 | .tup (.str n::_)=>n
 | _=>""
noncomputable def Y8:D->D
 | .tup [_,.tup cs,_]=>.tup (cs.map DO)
 | _=>.non
theorem Qr (t:Tb):Y8 (tbD t)=csD (tcs t):=by
 have e:(t.cs.map clD).map DO=(tcs t).map D.str:=by
  unfold tcs
  rw [AI,AI]
  rfl
 show D.tup ((t.cs.map clD).map DO)=_
 rw [e]
 rfl
theorem V5 (ts:List Tb)(b:D):((ts.map tbD).filter λd=>eqS (Yh d) b).map Y8=(fnd ts b).map csD:=by
 unfold fnd
 rw [List.filter_map,AI,AI]
 refine List.map_congr_left λt _=>?_
 exact Qr t
end PG
namespace PV
open PySem L2 PyProof.Rows K1
variable {mu:Sto}
theorem WY {r:Nat}{ds ys:List D}(h:mu[r]? = some (.lst ds))(hl:ds.length+ys.length≤sizeLine){ro:Ro}{i:Nat}{e:Ex}(h1:Cd i ro mu=some (.ref r,mu))(h2:e ro mu=some (.lst ys,mu)):S0 (Cd i) (Cb e Cg) ro mu=some (.non,mu.set r (.lst (ds++ys))):=by
 have ok:Es mu (.ref r)=true:=by simp [Es,h]
 have sq:sq1 [.lst ys] mu=some ys:=rfl
 simp only [S0,h1,Q8,ok,if_true,XN,X5,h2,sq,h,hl]
theorem Rc (L:List Str):∃ L':List Str,Fy (L.map D.str)=L'.map D.str∧L'.Nodup∧∀ x,x∈L' ↔ x∈L:=by
 have e:=Kc L []
 refine ⟨L.foldl Hv [],e.symm,?_,λx=>?_⟩
 ·have:=NL (L.map D.str) [] List.nodup_nil
  rw [← show (L.foldl Hv []).map D.str=(L.map D.str).foldl Ff [] from e] at this
  exact D6.mp this
 ·have:=Mb (L.map D.str) [] (.str x)
  rw [← show (L.foldl Hv []).map D.str=(L.map D.str).foldl Ff [] from e] at this
  simp only [Ay,D.str.injEq,exists_eq_right,AQ,false_or] at this
  exact this
theorem V9 {ss:List Str}(h:ss.length<64):PQ [.set (ss.map D.str)] mu=some (.lst (GX (ss.map D.str)),mu):=by
 unfold PQ
 rw [X7 h]
end PV
namespace PG
open PySem L2 PV PyProof.Rows K1
variable {mu:Sto}
structure Sch (ts:List Tb):Prop where
 k:SK ts
 st:∃ st:List Str,st.length≤5∧∀ t∈ts,∀ p∈t.cs,∀ x∈p.2,x∈st
theorem SU {st:List Str}{ts:List Tb}(h:(ts.map tbD).all (tabS st)=true):∀ t∈ts,∀ p∈t.cs,∀ x∈p.2,x∈st:=by
 rw [List.all_map,Aq] at h
 intro t ht p hp x hx
 have h1:(t.cs.map clD).all (Th st)=true:=h t ht
 rw [List.all_map,Aq] at h1
 have h2:(p.2.map D.str).all (inS st)=true:=h1 p hp
 rw [List.all_map,Aq] at h2
 simpa [inS] using h2 x hx
noncomputable def OB:Sx:=(sEx (S0 (Cd 1) (Cb (Ci Ou (Cb (Cd 6) Cg)) Cg)))
theorem TQ {st:List Str}{t:Tb}(hk:TbK t)(hs:∀ p∈t.cs,∀ x∈p.2,x∈st){m0:Sto}{sc a b c:D}{x5 x6:Option D}{L:List Str}(hL:L.length≤1000)(hLs:∀ x∈L,x∈st∧IsW x) :
  ∃ y5 y6,∃ L':List Str,FV none m0 (gTp 2 (CC (gNm 5) (CC (gNm 6) Ew))) OB (t.cs.map clD) [some sc,some (.ref mu.length),some a,some b,some c,x5,x6] (mu++[.lst (L.map D.str)])=some ((.nx,[some sc,some (.ref mu.length),some a,some b,some c,y5,y6]),mu++[.lst (L'.map D.str)])∧L'.length≤L.length+16∧(∀ x∈L',x∈st∧IsW x)∧L'≠[]:=by
 obtain ⟨ro',m',e,⟨y5,y6,rfl⟩,L',rfl,b1,b2,b3⟩:=GN (m0:=m0) (tg:=gTp 2 (CC (gNm 5) (CC (gNm 6) Ew))) (body:=OB) (λi ro m=>(∃ y5 y6,ro=[some sc,some (.ref mu.length),some a,some b,some c,y5,y6])∧∃ L':List Str,m=mu++[.lst (L'.map D.str)]∧L'.length≤L.length+4*i∧(∀ x∈L',x∈st∧IsW x)∧(i≠0->L'≠[])) (t.cs.map clD) 0 _ _
  ⟨⟨x5,x6,rfl⟩,L,rfl,by omega,hLs,λh=>absurd rfl h⟩ λj d ro m ed hi=>by
   obtain ⟨⟨y5,y6,rfl⟩,L',rfl,b1,b2,b3⟩:=hi
   rw [Av] at ed
   cases q:t.cs[j]? with
   | none=>rw [q] at ed;cases ed
   | some p =>
    rw [q] at ed
    have ed':clD p=d:=AE ed
    subst ed'
    have hj:=(Af.mp q).1
    have hm:p∈t.cs:=Ar q
    have c4:=hk.ok.c4
    have v4:=hk.ok.vs p hm
    have ex:=WY (mu:=mu++[.lst (L'.map D.str)]) (r:=mu.length) (ds:=L'.map D.str) (ys:=p.2.map D.str) (by simp) (by simp only [Ag,AO];omega) (ro:=[some sc,some (.ref mu.length),some a,some b,some c,some (.str p.1),some (.tup (p.2.map D.str))]) (i:=1) (e:=Ci Ou (Cb (Cd 6) Cg)) rfl rfl
    refine ⟨[some sc,some (.ref mu.length),some a,some b,some c,some (.str p.1),some (.tup (p.2.map D.str))],mu++[.lst (L'.map D.str)],_,mu++[.lst ((L'++p.2).map D.str)],?_,?_,⟨some (.str p.1),some (.tup (p.2.map D.str)),rfl⟩,L'++p.2,rfl,?_,?_,?_⟩
    ·simp_arith only [clD]
    ·unfold OB
     simp_arith only [ex,AV]
     simp
    ·rw [Az];omega
    ·intro x hx
     rcases AR.mp hx with hx|hx
     ·exact b2 x hx
     ·exact ⟨hs p hm x hx,hk.vw p hm x hx⟩
    ·intro _ z
     exact v4.1 (List.append_eq_nil_iff.mp z).2
 have c1:=hk.ok.c1
 have c4:=hk.ok.c4
 rw [Ag] at b1 b3
 exact ⟨y5,y6,L',e,by omega,b2,b3 (by omega)⟩
theorem Rn {ts:List Tb}(H:Sch ts)(hf:Flat mu):∃ ws:List Str,FX [scD ts] mu=some (.lst (ws.map D.str),mu)∧ws≠[]∧ws.length≤5∧∀ x∈ws,IsW x:=by
 obtain ⟨st,s5,hs⟩:=H.st
 obtain ⟨ro',m',e,⟨y2,y3,y4,y5,y6,rfl⟩,L,rfl,b1,b2,b3⟩:=GN (m0:=mu++[.lst []]) (tg:=gTp 3 (CC (gNm 2) (CC (gNm 3) (CC (gNm 4) Ew)))) (body:=JA (Fh (Cd 3)) (gTp 2 (CC (gNm 5) (CC (gNm 6) Ew))) OB) (λi ro m=>(∃ y2 y3 y4 y5 y6,ro=[some (scD ts),some (.ref mu.length),y2,y3,y4,y5,y6])∧∃ L:List Str,m=mu++[.lst (L.map D.str)]∧L.length≤16*i∧(∀ x∈L,x∈st∧IsW x)∧(i≠0->L≠[])) (ts.map tbD) 0 [some (scD ts),some (.ref mu.length),none,none,none,none,none] (mu++[.lst []])
  ⟨⟨_,_,_,_,_,rfl⟩,[],rfl,by simp,(λ_ h=>nomatch h),λh=>absurd rfl h⟩ λj d ro m ed hi=>by
   obtain ⟨⟨y2,y3,y4,y5,y6,rfl⟩,L,rfl,b1,b2,b3⟩:=hi
   rw [Av] at ed
   cases q:ts[j]? with
   | none=>rw [q] at ed;cases ed
   | some t =>
    rw [q] at ed
    have ed':tbD t=d:=AE ed
    subst ed'
    have hj:=(Af.mp q).1
    have ht:t∈ts:=Ar q
    have l4:=H.k.l4
    obtain ⟨z5,z6,L',e,l1,l2,l3⟩:=TQ (mu:=mu) (H.k.ok t ht) (hs t ht) (m0:=mu++[.lst (L.map D.str)]) (sc:=scD ts) (a:=.str t.nm) (b:=.tup (t.cs.map clD)) (c:=.int t.ks) (x5:=y5) (x6:=y6) (L:=L) (by omega) b2
    refine ⟨[some (scD ts),some (.ref mu.length),some (.str t.nm),some (.tup (t.cs.map clD)),some (.int t.ks),y5,y6],mu++[.lst (L.map D.str)],[some (scD ts),some (.ref mu.length),some (.str t.nm),some (.tup (t.cs.map clD)),some (.int t.ks),z5,z6],mu++[.lst (L'.map D.str)],?_,?_,⟨_,_,_,_,_,rfl⟩,L',rfl,by omega,l2,λ_=>l3⟩
    ·simp_arith only [tbD]
    ·simp_arith only [e]
 have l1:=H.k.l1
 have l4:=H.k.l4
 rw [Ag] at b1 b3
 obtain ⟨L',o1,o2,o3⟩:=Rc L
 have l5:L'.length≤5:=AA (O7 o2 λx hx=>(b2 x ((o3 x).mp hx)).1) s5
 obtain ⟨us,ue,up⟩:=LV (EI (L'.map D.str))
 refine ⟨us,?_,λz=>?_,by rw [up.length_eq];exact l5,λx hx=>(b2 x ((o3 x).mp (up.mem_iff.mp hx))).2⟩
 ·have sf:Lv [.ref mu.length] (mu++[.lst (L.map D.str)])=some (.set (L'.map D.str),mu++[.lst (L.map D.str)]):=by
   have g:(mu++[MO.lst (L.map D.str)])[mu.length]? = some (.lst (L.map D.str)):=by simp
   have l:(L.map D.str).length<4000:=by rw [Ag];omega
   simp only [Lv,sq1,HD,G6,DX,g,PV.strs_map,l,if_true,o1]
  have so:=V9 (mu:=mu++[.lst (L.map D.str)]) (ss:=L') (by omega)
  unfold scD at e ⊢
  unfold OB at e
  simp_arith only [FX,Io,e,sf,so,ue]
  have ok:Dh 0 (.lst (us.map D.str))=true:=by
   simp only [Dh]
   exact Gb (KD us)
  have ft:Flat ((mu++[MO.lst (L.map D.str)]).take mu.length):=by
   rw [List.take_left']
   ·exact hf
   ·rfl
  rw [Na ok ft,List.take_left']
  rfl
 ·have:L=[]:=by
   cases L with
   | nil=>rfl
   | cons x r =>
    have:x∈us:=up.mem_iff.mpr ((o3 x).mpr (.head _))
    rw [z] at this
    cases this
  exact b3 (by omega) this
theorem H0 {k n:Nat}{s:D}{ss:List Str}(hs:s=.lst (ss.map D.str)∨s=.tup (ss.map D.str))(hn:ss≠[])(hl:ss.length<5000)(h:HandOk mu k (n+1)):∃ x mu',CO [.ref k,s] mu=some (.str x,mu')∧Fr k n mu mu'∧x∈ss:=by
 obtain ⟨d,mu',e,fr,hd⟩:=pick_run (ds:=ss.map D.str) hs (by simpa using hn) (by rw [Ag];omega) h
 obtain ⟨x,hx,rfl⟩:=Ay.mp hd
 exact ⟨x,mu',e,fr,hx⟩
theorem Oj {k n:Nat}{cs ws:List Str}(hc:IW cs)(hl:cs.length≤2000)(hw:ws≠[])(hwl:ws.length≤5)(hww:∀ x∈ws,IsW x)(h:HandOk mu k (n+3)):Run (Eg [.ref k,csD cs,.lst (ws.map D.str)] mu) k n mu λd=>GU cs d=true∧okB 10 d=true:=by
 obtain ⟨a,m1,e1,f1,ha⟩:=H0 (s:=.lst ((["is","not","like","unlike","is"]:List Str).map D.str)) (n:=n+2) (.inl rfl) (by simp) (by decide) h
 obtain ⟨b,m2,e2,f2,hb⟩:=H0 (s:=csD cs) (n:=n+1) (.inr rfl) hc.ne (by omega) f1.hand
 have wb:=CP.mpr (hc.w b hb)
 have e1':CO [.ref k,.lst [.str "is",.str "not",.str "like",.str "unlike",.str "is"]] mu=some (.str a,m1):=e1
 have E:∀ c,GU cs (.tup [.str a,.str b,.str c])=((wB a&&(wB b&&wB c))&&(if decide (a∈(["is","not"]:List Str))=true then decide (b∈cs) else decide (a∈(["like","unlike"]:List Str))&&(decide (b∈cs)&&decide (c∈cs)))):=λc=>rfl
 by_cases c1:a∈(["is","not"]:List Str)
 ·obtain ⟨c,m3,e3,f3,hc3⟩:=H0 (s:=.lst (ws.map D.str)) (n:=n) (.inl rfl) hw (by omega) f2.hand
  refine ⟨.tup [.str a,.str b,.str c],m3,?_,(f1.trans f2).trans f3,?_,rfl⟩
  ·simp_arith only [Eg,Hl,e1',e2,MI,c1,e3]
  ·have wa:wB a=true:=by
    simp only [Am,AQ,BB] at c1
    rcases c1 with rfl|rfl
    ·exact CP.mpr Uj
    ·exact CP.mpr Qx
   rw [E,wa,wb,CP.mpr (hww c hc3)]
   simp [c1,hb]
 ·obtain ⟨c,m3,e3,f3,hc3⟩:=H0 (s:=csD cs) (n:=n) (.inr rfl) hc.ne (by omega) f2.hand
  have c2:a∈(["like","unlike"]:List Str):=by
   simp only [Am,AQ,BB,not_or] at ha c1 ⊢
   rcases ha with h|h|h|h|h
   ·exact absurd h c1.1
   ·exact absurd h c1.2
   ·exact .inl h
   ·exact .inr h
   ·exact absurd h c1.1
  refine ⟨.tup [.str a,.str b,.str c],m3,?_,(f1.trans f2).trans f3,?_,rfl⟩
  ·simp_arith only [Eg,Hl,e1',e2,MI,c1,e3]
  ·have wa:wB a=true:=by
    simp only [Am,AQ,BB] at c2
    rcases c2 with rfl|rfl
    ·exact CP.mpr KR
    ·exact CP.mpr Ln
   rw [E,wa,wb,CP.mpr (hc.w c hc3)]
   simp [c1,c2,hb,hc3]
theorem J4 {kn:Kn}:∀ (n:Nat) (d:D) (cs:List Str),Cq kn n d=some cs->Cq kn (n+1) d=some cs
 | 0,_,_,h=>by cases h
 | n+1,d,cs,h=>by
  unfold Cq at h ⊢
  split at h
  ·exact h
  ·rename_i w a b
   split at h
   ·cases h
   ·rename_i cw
    rw [if_neg cw]
    split at h
    ·cases h
    ·rename_i one e1
     rw [J4 n _ _ e1]
     dsimp only
     split at h
     ·rename_i cm
      rw [if_pos cm]
      split at h
      ·cases h
      ·rename_i other e2
       rw [J4 n _ _ e2]
       exact h
     ·rename_i cm
      rw [if_neg cm]
      exact h
  ·cases h
theorem GP {kn:Kn}{n m:Nat}{d:D}{cs:List Str}(h:Cq kn n d=some cs)(l:n≤m):Cq kn m d=some cs:=by
 induction m with
 | zero =>
  have:n=0:=by omega
  subst this
  exact h
 | succ m ih =>
  by_cases c:n=m+1
  ·subst c;exact h
  ·exact J4 m d cs (ih (by omega))
theorem Yv {ts:List Tb}{a:D}{x:Str}:FA none mu (gNm 0) (tV (Ck eqD (Ck ixG (Cd 0) (eC (.int 0))) (Ck ixG (Cd 1) (eC (.int 1))))) (Ci Gg (Cb (eLC (Fh (Ck ixG (Cd 0) (eC (.int 1)))) 2 [] (gTp 2 (CC (gNm 0) (CC (gNm 1) Ew))) (tY) (Cd 0)) Cg)) [none,some (.tup [a,.str x])] (ts.map tbD) mu=some ((fnd ts (.str x)).map csD,mu):=by
 have:=KN (m0:=mu) (tg:=gNm 0) (tt:=tV (Ck eqD (Ck ixG (Cd 0) (eC (.int 0))) (Ck ixG (Cd 1) (eC (.int 1))))) (el:=Ci Gg (Cb (eLC (Fh (Ck ixG (Cd 0) (eC (.int 1)))) 2 [] (gTp 2 (CC (gNm 0) (CC (gNm 1) Ew))) (tY) (Cd 0)) Cg)) (ro:=[none,some (.tup [a,.str x])]) (mu:=mu) (λd=>eqS (Yh d) (.str x)) Y8 (ts.map tbD) (λd hd=>by
  obtain ⟨t,_,rfl⟩:=Ay.mp hd
  refine ⟨_,rfl,?_,λ_=>?_⟩
  ·simp_arith only [tbD,Yh,eqS]
   first|rfl|(congr;done)|trace_state
  ·rw [Qr]
   simp_arith only [tbD,Xb,csD])
 rw [this,V5]
theorem Nb {kn:Kn}{w:Str}{b:D}{cs:List Str}(h:ofC kn w b=some cs):w="of"∧∃ x,b=.str x:=by
 unfold ofC at h
 split at h
 ·rename_i c
  rw [Ab,Ae] at c
  split at h
  ·exact ⟨c.1,_,rfl⟩
  ·cases h
 ·cases h
theorem Gk {ts:List Tb}(H:SK ts):∀ (f:Nat) {n:Nat} {d:D} {cs:List Str} {mu:Sto},n≤f->n≤8->Cq (D2 ts) n d=some cs->CD f [scD ts,d] mu=some (csD cs,mu)
 | f,0,d,cs,mu,_,_,h=>by cases h
 | 0,n+1,_,_,_,h,_,_=>by omega
 | f+1,n+1,d,cs,mu,hf,h8,h=>by
  rw [CD]
  unfold Cq at h
  split at h
  ·rename_i w b
   obtain ⟨rfl,x,rfl⟩:=Nb h
   have lc:=Yv (mu:=mu) (ts:=ts) (a:=.str "of") (x:=x)
   rw [YR (λt ht=>(H.ok t ht).nw)] at h
   unfold scD
   simp_arith only [Fz,lc]
   cases e:fnd ts (.str x) with
   | nil=>rw [e] at h;cases h
   | cons y ys =>
    rw [e] at h
    cases h
    simp_arith only []
  ·rename_i w a b
   split at h
   ·cases h
   ·rename_i cw
    split at h
    ·cases h
    ·rename_i one e1
     have r1:=Gk H f (mu:=mu) (by omega) (by omega) e1
     have lo:=ED (Ie H) n _ _ e1
     have p8:2 ^ n≤2 ^ 7:=Br (by decide) (by omega)
     simp_arith only [Fz,cw,r1]
     split at h
     ·rename_i cm
      split at h
      ·cases h
      ·rename_i other e2
       have r2:=Gk H f (mu:=mu) (by omega) (by omega) e2
       have lo2:=ED (Ie H) n _ _ e2
       have n1:¬ (w="columns"):=by rintro rfl;revert cm;decide +kernel
       have n2:¬ (w="called"):=by rintro rfl;revert cm;decide +kernel
       unfold Ke at h
       split at h
       ·rename_i cj
        cases h
        subst cj
        have l:=List.length_filter_le (λc=>!decide (c∈one)) other
        have za:Dc (.tup (one.map D.str)) (.tup ((other.filter λc=>!decide (c∈one)).map D.str)) mu=some (csD (IV one other),mu):=by
         unfold Dc
         dsimp only
         rw [if_pos (by simp only [Ag,AO];omega)]
         simp [csD,IV]
        have lc:=OY (m0:=mu) (mu:=mu) one other
        unfold csD at lc r2 ⊢
        unfold csD at za
        simp_arith only [n1,n2,r2,lc,za]
       ·rename_i cj
        split at h
        ·cases h
         simp_arith only [n1,n2,cj]
        ·cases h
     ·rename_i cm
      unfold FJ at h
      split at h
      ·rename_i c1
       split at h
       ·cases h
        have n1:¬ (w="columns"):=by rw [c1];decide +kernel
        have n2:¬ (w="called"):=by rw [c1];decide +kernel
        have n3:¬ (w="join"):=by rw [c1];decide +kernel
        simp_arith only [n1,n2,n3]
       ·cases h
      ·split at h
       ·rename_i c1 c2
        split at h
        ·rename_i c
         cases h
         rw [Ab] at c
         obtain ⟨ss,rfl,e,_⟩:=JQ c.1
         rw [e]
         simp_arith only [c2]
        ·cases h
       ·split at h
        ·rename_i c1 c2 c3
         split at h
         ·rename_i c
          split at h
          ·cases h
           obtain ⟨ps,rfl,e2,nd,_⟩:=IE c
           rw [e2]
           have ga:=Ij (m0:=mu) (tg:=gNm 0) (el:=Lu (Cd 1) (Cb (Cd 0) (Cb (Cd 0) Cg))) (ro:=[none,some (.dct ((ps.map prK).map (·.1)) ((ps.map prK).map (·.2)))]) (mu:=mu) (λd=>match d with|.str c=>.str (EW ps c)|_=>.non) (one.map D.str) (λd hd=>by
            obtain ⟨c,_,rfl⟩:=Ay.mp hd
            exact ⟨_,rfl,RX rfl rfl⟩)
           have e4:(one.map D.str).map (λd=>match d with|.str c=>D.str (EW ps c)|_=>.non)=(one.map (EW ps)).map D.str:=by
            rw [AI,AI]
            rfl
           rw [e4] at ga
           have zl:Ou [.tup (ps.map prD)] mu=some (.lst (ps.map prD),mu):=rfl
           subst c3
           simp_arith only [c2,zl,WG (.inr rfl) nd,csD,ga]
          ·cases h
         ·cases h
        ·cases h
  ·cases h
structure Bg (n:Nat) (d:D) (b:Int):Prop where
 lo:0≤b
 hi:b≤300*2 ^ n
 run:∀ (m:Nat) (mu:Sto),n≤m->DM m [d] mu=some (.int b,mu)
structure Good (kn:Kn) (n:Nat) (d:D):Prop where
 ok:okB 1000 d=true
 cs:∃ cs,Cq kn n d=some cs
 bg:∃ b,Bg n d b
theorem MR {n m:Nat}(l:n≤m):(2:Int) ^ n≤2 ^ m:=by
 have:=Br (n:=2) (by decide) l
 exact_mod_cast this
theorem Good.up {kn:Kn}{n m:Nat}{d:D}(h:Good kn n d)(l:n≤m):Good kn m d:=by
 obtain ⟨a,⟨cs,b⟩,⟨x,c1,c2,c3⟩⟩:=h
 refine ⟨a,⟨cs,GP b l⟩,x,c1,?_,λm' mu h=>c3 m' mu (by omega)⟩
 have:=MR l
 omega
theorem U9 {kn:Kn}{x:Str}{cs:List Str}(h:ES kn x=some cs)(hx:IsW x):Good kn 1 (.tup [.str "of",.str x]):=by
 refine ⟨rfl,⟨cs,?_⟩,6,by decide,by decide,λm mu l=>?_⟩
 ·have wb:CJ (.str x)=true:=CP.mpr hx
  simp only [Cq,ofC,wb,decide_true,A4,if_true,h]
 ·match m,l with
  | m+1,_=>simp_arith only [DM,E4]
theorem ok3 {w:Str}{a b:D}(ha:okB 1000 a=true)(hb:okB 1000 b=true):okB 1000 (.tup [.str w,a,b])=true:=by
 simp only [okB,IP,ha,hb,List.length_cons,List.length_nil,BC,A4]
 rfl
theorem JL {kn:Kn}{n:Nat}{w:Str}{a b:D}{one cs:List Str}(h:Good kn n a)(e:Cq kn n a=some one)(hb:okB 1000 b=true)(hw:w="rows"∨w="columns"∨w="called")(hs:FJ one w b=some cs):Good kn (n+1) (.tup [.str w,a,b]):=by
 obtain ⟨b0,c1,c2,c3⟩:=h.bg
 have n1:¬ (w="of"):=by rcases hw with rfl|rfl|rfl<;>decide +kernel
 have n2:¬ (w="join"):=by rcases hw with rfl|rfl|rfl<;>decide +kernel
 have n3:¬ (w="union"):=by rcases hw with rfl|rfl|rfl<;>decide +kernel
 have n4:¬ (w∈(["join","union","gap"]:List Str)):=by rcases hw with rfl|rfl|rfl<;>decide +kernel
 refine ⟨ok3 h.ok hb,⟨cs,?_⟩,b0,c1,?_,λm mu l=>?_⟩
 ·simp only [Cq,n1,A5,e,n4,hs]
 ·have:=MR (Bi n)
  have h2:(2:Int) ^ (n+1)=2 ^ n*2:=Int.pow_succ 2 n
  have h3:(0:Int)<2 ^ n:=Int.pow_pos (by decide)
  omega
 ·match m,l with
  | m+1,l=>simp_arith only [DM,E4,n1,n2,n3,c3 m mu (by omega),Int.add_zero]
theorem LA {kn:Kn}{n:Nat}{w:Str}{a b:D}{cs:List Str}(h:Good kn n a)(h':Good kn n b)(e:Cq kn n a=some cs)(e':Cq kn n b=some cs)(hw:w="union"∨w="gap"):Good kn (n+1) (.tup [.str w,a,b]):=by
 obtain ⟨b0,c1,c2,c3⟩:=h.bg
 obtain ⟨b1,d1,d2,d3⟩:=h'.bg
 have n1:¬ (w="of"):=by rcases hw with rfl|rfl<;>decide +kernel
 have n2:¬ (w="join"):=by rcases hw with rfl|rfl<;>decide +kernel
 have n4:w∈(["join","union","gap"]:List Str):=by rcases hw with rfl|rfl<;>decide +kernel
 have h2:(2:Int) ^ (n+1)=2 ^ n*2:=Int.pow_succ 2 n
 have h3:(0:Int)<2 ^ n:=Int.pow_pos (by decide)
 have hc:∃ cs,Cq kn (n+1) (.tup [.str w,a,b])=some cs:=⟨cs,by simp only [Cq,n1,A5,e,n4,if_true,e',Ke,n2]⟩
 by_cases u:w="union"
 ·refine ⟨ok3 h.ok h'.ok,hc,b0+b1,by omega,by omega,λm mu l=>?_⟩
  match m,l with
  | m+1,l =>
   subst u
   simp_arith only [DM,E4,n1,n2,c3 m mu (by omega),d3 m mu (by omega)]
 ·refine ⟨ok3 h.ok h'.ok,hc,b0,by omega,by omega,λm mu l=>?_⟩
  match m,l with
  | m+1,l=>simp_arith only [DM,E4,n1,n2,u,c3 m mu (by omega),Int.add_zero]
theorem Rp {kn:Kn}{n:Nat}{a b:D}{c1 c2:Int}(h:Good kn n a)(h':Good kn n b)(hn:n≤12)(g:Bg n a c1)(g':Bg n b c2)(l:c1*c2<300):Good kn (n+1) (.tup [.str "join",a,b]):=by
 obtain ⟨x1,e1⟩:=h.cs
 obtain ⟨x2,e2⟩:=h'.cs
 have n1:¬ (Str.ofString "join"=Str.ofString "of"):=by decide +kernel
 have n4:(Str.ofString "join")∈(["join","union","gap"]:List Str):=by decide +kernel
 have h2:(2:Int) ^ (n+1)=2 ^ n*2:=Int.pow_succ 2 n
 have h3:(0:Int)<2 ^ n:=Int.pow_pos (by decide)
 have t12:=MR hn
 refine ⟨ok3 h.ok h'.ok,⟨IV x1 x2,?_⟩,c1*c2,Int.mul_nonneg g.lo g'.lo,by omega,λm mu l=>?_⟩
 ·simp only [Cq,n1,A5,e1,n4,if_true,e2,Ke]
 ·have cm:CMul c1 c2:=.inl ⟨by have:=g.lo;omega,by have:=g.hi;have:(2:Int) ^ 12=4096:=(by decide);omega⟩
  match m,l with
  | m+1,l=>simp_arith only [DM,E4,n1,g.run m mu (by omega),g'.run m mu (by omega),Li cm]
noncomputable def dB (deep:Nat):Nat:=if deep≤2 then deep else 2*deep-2
theorem WM {hi:Int}{ss:List Str}(h0:ss≠[])(h4:(ss.length:Int)≤hi)(hd:ss.Nodup)(hw:∀ x∈ss,IsW x):wsB hi (csD ss)=true:=by
 have W:wsB hi (csD ss)=(Dn 1 hi (.tup (ss.map D.str))&&((ss.map D.str).all CJ&&ndB (ss.map D.str))):=rfl
 have p:0<ss.length:=List.length_pos_iff.mpr h0
 rw [W]
 simp only [Ab,Dn,Ag,Ae,Aq,ndB]
 refine ⟨⟨by omega,by omega⟩,λd hd=>?_,D6.mpr hd⟩
 obtain ⟨x,hx,rfl⟩:=Ay.mp hd
 exact CP.mpr (hw x hx)
theorem YT {ts:List Tb}{t:Tb}(ht:t∈ts):∃ cs,ES (D2 ts) t.nm=some cs:=by
 induction ts with
 | nil=>cases ht
 | cons u ts ih =>
  unfold D2
  rw [AL,ES]
  by_cases c:u.nm=t.nm
  ·rw [if_pos c];exact ⟨_,rfl⟩
  ·rw [if_neg c]
   rcases Am.mp ht with rfl|ht
   ·exact absurd rfl c
   ·exact ih ht
theorem Q2 {k n:Nat}{cs ws:List Str}(hc:IW cs)(hl:cs.length≤2000)(hw:ws≠[])(hwl:ws.length≤5)(hww:∀ x∈ws,IsW x){j:Nat}(hj:j≤2)(h:HandOk mu k (n+6)){m0:Sto}:∃ ys mu',FA none m0 (gNm 0) tY (Ci Eg (Cb (Cd 1) (Cb (Cd 2) (Cb (Cd 3) Cg)))) [none,some (.ref k),some (csD cs),some (.lst (ws.map D.str))] (E3 0 j) mu=some (ys,mu')∧Fr k n mu mu'∧ys.length=j∧∀ d∈ys,GU cs d=true∧okB 10 d=true:=by
 obtain ⟨ys,mu',e,fr,l,hp⟩:=UP (m0:=m0) (tg:=gNm 0) (el:=Ci Eg (Cb (Cd 1) (Cb (Cd 2) (Cb (Cd 3) Cg)))) (ro:=[none,some (.ref k),some (csD cs),some (.lst (ws.map D.str))]) (λi m=>Fr k (n+6-3*i) mu m) (λ_ d=>GU cs d=true∧okB 10 d=true) (E3 0 j) 0 mu (.refl h) λi d m ed fr=>by
  obtain ⟨rfl,hi⟩:=Lh ed
  obtain ⟨y,m1,e1,f1,hy⟩:=Oj (n:=n+6-3*(0+i+1)) hc hl hw hwl hww (fr.hand.mono (by omega))
  exact ⟨_,y,m1,rfl,by simp_arith only [e1],hy,fr.trans f1⟩
 rw [KL] at l
 refine ⟨ys,mu',e,fr.mono (by rw [KL];omega),l,λd hd=>?_⟩
 obtain ⟨i,hi⟩:=A9.mp hd
 exact hp i d hi
theorem Pn {cs:List Str}{ys:List D}(l1:1≤ys.length)(l4:ys.length≤4)(h:∀ d∈ys,GU cs d=true):KZ cs (.tup ys)=true:=by
 have e:KZ cs (.tup ys)=(Dn 1 4 (.tup ys)&&ys.all (GU cs)):=rfl
 rw [e]
 simp only [Dn,Ab,Ae,Aq]
 exact ⟨⟨by omega,by omega⟩,h⟩
theorem Ys {cs:List Str}{c w:Str}(nd:cs.Nodup)(hw:w∉cs):(cs.map (EW [(c,w)])).Nodup:=by
 rw [AZ,List.pairwise_map]
 refine List.Pairwise.imp_of_mem (λ{a b} ha hb hne e=>hne ?_) (AZ.mp nd)
 unfold EW EW at e
 dsimp only at e
 by_cases c1:c=a
 ·by_cases c2:c=b
  ·rw [← c1,← c2]
  ·rw [if_pos c1,if_neg c2] at e
   rw [e] at hw
   exact absurd hb hw
 ·by_cases c2:c=b
  ·rw [if_neg c1,if_pos c2] at e
   rw [← e] at hw
   exact absurd ha hw
  ·rw [if_neg c1,if_neg c2] at e
   exact e
theorem RW (ps:List (Str×Str)):Et (ps.map prD)=true:=by
 induction ps with
 | nil=>rfl
 | cons p ps ih=>rw [AL,Et,ih];rfl
theorem VQ (ss:List Str):Ob (csD ss)=ss:=by simp [Ob,csD,PV.strs_map]
noncomputable def frees:List Str:=["z9","y8","x7","w6"]
theorem Vm:∀ x∈frees,IsW x:=by
 intro x hx
 have:frees.all wB=true:=by decide +kernel
 exact CP.mp (Aq.mp this x hx)
set_option maxHeartbeats 4000000 in
theorem J2 {ts:List Tb}(H:Sch ts){k:Nat}:∀ (f:Nat) {n deep:Nat} {mu:Sto},1≤deep->deep≤f->deep≤5->Flat mu->HandOk mu k (n+20*3 ^ deep)->Run (Ej f [.ref k,scD ts,.int deep] mu) k n mu λd=>Good (D2 ts) (dB deep) d
 | 0,n,deep,mu,h1,hf,_,_,_=>by omega
 | f+1,n,deep,mu,h1,hf,h5,hfl,hh=>by
  have p3:20≤20*3 ^ deep:=by have:=Nat.pos_of_ne_zero (n:=3 ^ deep) (by simp);omega
  have p3':60≤20*3 ^ deep:=by
   have:=Br (n:=3) (by decide) h1
   omega
  obtain ⟨_,m1,e1,f1,way,rfl,a0,a1⟩:=DQ (m:=8) (n:=n+20*3 ^ deep-1) (hh.mono (by omega)) (by decide) (by decide)
  have mk:∀ d:D,Good (D2 ts) 1 d->Good (D2 ts) (dB deep) d:=λd g=>g.up (by unfold dB;split<;>omega)
  rw [Ej]
  by_cases c0:(decide ((deep:Int)<2)||decide (way=0))=true
  ·obtain ⟨d,m2,e2,f2,hd⟩:=pick_run (s:=scD ts) (ds:=ts.map tbD) (n:=n) (.inr rfl) (λz=>by have l:=congrArg List.length z;rw [Ag,List.length_nil] at l;have:=H.k.l1;omega) (by rw [Ag];have:=H.k.l4;omega) (f1.hand.mono (by omega))
   obtain ⟨t,ht,rfl⟩:=Ay.mp hd
   obtain ⟨cs,hcs⟩:=YT ht
   refine ⟨_,m2,?_,f1.trans f2,mk _ (U9 hcs (H.k.ok t ht).nw)⟩
   rw [Bool.or_eq_true,Ae,Ae] at c0
   rcases c0 with c0|c0
   ·simp_arith only [C0,e1,c0,e2,tbD]
   ·by_cases c:(deep:Int)<2
    ·simp_arith only [C0,e1,c,e2,tbD]
    ·simp_arith only [C0,e1,c,c0,e2,tbD]
  ·rw [Bool.or_eq_true,Ae,Ae,not_or] at c0
   obtain ⟨c1,c2⟩:=c0
   have d2:2≤deep:=by omega
   have dd:(deep:Int)-1=((deep-1:Nat):Int):=by omega
   have pw:3 ^ deep=3*3 ^ (deep-1):=by
    have:deep=(deep-1)+1:=by omega
    rw [this,Nat.pow_succ]
    simp
    omega
   have p1:1≤3 ^ (deep-1):=Nat.pos_of_ne_zero (by simp)
   obtain ⟨one,m2,e2,f2,g1⟩:=J2 H f (n:=n+20*3 ^ (deep-1)+15) (deep:=deep-1) (mu:=m1) (by omega) (by omega) (by omega) (f1.flat hfl) (f1.hand.mono (by omega))
   have fr2:=f1.trans f2
   obtain ⟨cs,ec⟩:=g1.cs
   have dl:dB (deep-1)+1≤dB deep:=by unfold dB;split<;>split<;>omega
   have d7:dB (deep-1)≤6:=by unfold dB;split<;>omega
   have lc:=Gk H.k 10 (n:=dB (deep-1)) (mu:=m2) (by omega) (by omega) ec
   obtain ⟨ws,es,w1,w2,w3⟩:=Rn H (fr2.flat hfl)
   have co:=JC (Tj H.k) _ _ _ ec
   have cl:=ED (Ie H.k) _ _ _ ec
   have c6:2 ^ dB (deep-1)≤2 ^ 6:=Br (by decide) d7
   have cl2:cs.length≤2000:=by omega
   have cp:0<cs.length:=List.length_pos_iff.mpr co.ne
   have up1:∀ d:D,Good (D2 ts) (dB (deep-1)+1) d->Good (D2 ts) (dB deep) d:=λd g=>g.up dl
   by_cases w3':way<3
   ·-- rows
    obtain ⟨_,m3,e3,f3,t3,rfl,b0,b1⟩:=DQ (m:=2) (n:=n+20*3 ^ (deep-1)+14) f2.hand (by decide) (by decide)
    obtain ⟨j,hj⟩:∃ j:Nat,1+t3=(j:Int):=⟨(1+t3).toNat,by omega⟩
    obtain ⟨ys,m4,e4,f4,l4,hy⟩:=Q2 (m0:=m3) (n:=n) (k:=k) (mu:=m3) (j:=j) co cl2 w1 w2 w3 (by omega) (f3.hand.mono (by omega))
    have ts1:KZ cs (.tup ys)=true:=Pn (by omega) (by omega) λd hd=>(hy d hd).1
    have oy:okB 1000 (.tup ys)=true:=by
     simp only [okB,Ab,Ae]
     exact ⟨by omega,N2.mpr λd hd=>PB (by decide) (hy d hd).2⟩
    refine ⟨.tup [.str "rows",one,.tup ys],m4,?_,(fr2.trans f3).trans f4,up1 _ (JL (cs:=cs) g1 ec oy (.inl rfl) (by simp only [FJ,if_true,ts1]))⟩
    have rg:=PX (mu:=m2) (ro:=[some (.ref k),some (scD ts),some (.int deep),some (.int way),some one,some (csD cs),some (.lst (ws.map D.str)),none,none,none,none]) (r:=Cb (Ck Dc (eC (.int 1)) (Ci Cs (Cb (Cd 0) (Cb (eC (.int 2)) Cg)))) Cg) (n:=j) (m:=m3) (by simp_arith only [e3,hj]) (by omega) (by rw [AO];omega)
    rw [Int.toNat_natCast] at rg
    simp_arith only [C0,e1,c1,c2,dd,e2,lc,es,w3',rg,e4]
   ·by_cases w3e:way=3
    ·-- columns
     subst w3e
     obtain ⟨_,m3,e3,f3,at',rfl,b0,b1⟩:=DQ (m:=cs.length) (n:=n+20*3 ^ (deep-1)+14) f2.hand (by omega) (by omega)
     obtain ⟨_,m4,e4,f4,t4,rfl,b2,b3⟩:=DQ (m:=cs.length) (n:=n) (f3.hand.mono (by omega)) (by omega) (by omega)
     obtain ⟨a,ha⟩:∃ a:Nat,at'=(a:Int):=⟨at'.toNat,by omega⟩
     obtain ⟨j,hj⟩:∃ j:Nat,1+t4=(j:Int):=⟨(1+t4).toNat,by omega⟩
     subst ha
     have pm:(cs.drop a++cs.take a).Perm cs:=by
      have:=List.perm_append_comm (l₁:=cs.drop a) (l₂:=cs.take a)
      rw [List.take_append_drop] at this
      exact this
     have sub:((cs.drop a++cs.take a).take j).Sublist (cs.drop a++cs.take a):=List.take_sublist _ _
     have ndS:((cs.drop a++cs.take a).take j).Nodup:=(pm.nodup_iff.mpr co.nd).sublist sub
     have inS':∀ x∈(cs.drop a++cs.take a).take j,x∈cs:=λx hx=>pm.mem_iff.mp (sub.subset hx)
     have lenS:((cs.drop a++cs.take a).take j).length=j:=by
      rw [Bc,pm.length_eq]
      omega
     have neS:(cs.drop a++cs.take a).take j≠[]:=λz=>by rw [z] at lenS;simp at lenS;omega
     have sg:FJ cs "columns" (csD ((cs.drop a++cs.take a).take j))=some ((cs.drop a++cs.take a).take j):=by
      have nr:¬ (Str.ofString "columns"=Str.ofString "rows"):=by decide +kernel
      have e2:=VQ ((cs.drop a++cs.take a).take j)
      have w:=WM (hi:=cs.length) neS (by omega) ndS (λx hx=>co.w x (inS' x hx))
      have al:(((cs.drop a++cs.take a).take j).all λx=>decide (x∈cs))=true:=by
       rw [Aq]
       intro x hx
       simpa using inS' x hx
      simp only [FJ,nr,A5,if_true,e2,w,al,A4]
     refine ⟨.tup [.str "columns",one,csD ((cs.drop a++cs.take a).take j)],m4,?_,(fr2.trans f3).trans f4,up1 _ (JL g1 ec ?_ (.inr (.inl rfl)) sg)⟩
     ·have s1:cutD (cs.map D.str) (some (a:Int)) none=(cs.drop a).map D.str:=by rw [S3 (by rw [Ag];omega),List.map_drop]
      have s2:cutD (cs.map D.str) none (some (a:Int))=(cs.take a).map D.str:=by rw [Lo (by rw [Ag];omega),List.map_take]
      have za:Dc (.tup ((cs.drop a).map D.str)) (.tup ((cs.take a).map D.str)) m3=some (csD (cs.drop a++cs.take a),m3):=by
       unfold Dc
       dsimp only
       have l1:(cs.drop a).length≤cs.length:=by rw [BJ];omega
       have l2:(cs.take a).length≤cs.length:=by rw [Bc];omega
       rw [if_pos (by simp only [Ag,AO];omega)]
       simp [csD]
      have s3:cutD ((cs.drop a++cs.take a).map D.str) none (some (j:Int))=((cs.drop a++cs.take a).take j).map D.str:=by
       rw [Lo (by rw [Ag,pm.length_eq];omega),List.map_take]
      unfold csD at za lc ⊢
      simp_arith only [C0,e1,c1,c2,dd,e2,lc,es,w3',Ag,e3,s1,s2,za,e4,hj,s3]
     ·simp only [csD,okB,SY,BC,Ae,Ag]
      omega
    ·by_cases w4:way=4
     ·-- called
      subst w4
      have lf:=OY (m0:=m2) (mu:=m2) cs frees
      have lf':FA none m2 (gNm 0) (tV (Ck Kt (Cd 0) (Cd 1))) (Cd 0) [none,some (csD cs)] [.str "z9",.str "y8",.str "x7",.str "w6"] m2=some ((frees.filter λc=>!decide (c∈cs)).map D.str,m2):=lf
      cases ef:(frees.filter λc=>!decide (c∈cs)) with
      | nil =>
       refine ⟨one,m2,?_,fr2.mono (by omega),up1 _ (g1.up (Bi _))⟩
       have n0:=S9 (mu:=m2) (xs:=[]) rfl
       have ct:cutD ([]:List D) none (some 1)=[]:=rfl
       have l0:((0:Nat)==0)=true:=rfl
       have lz:FA none m2 (gNm 0) tY (Dz (Cb (Ci CO (Cb (Cd 1) (Cb (Cd 2) Cg))) (Cb (Cd 0) Cg))) [none,some (.ref k),some (csD cs)] [] m2=some ([],m2):=rfl
       simp_arith only [C0,e1,c1,c2,dd,e2,lc,es,w3',w3e,lf',ef,ct,lz,n0,l0]
      | cons w r =>
       have hw:w∈frees.filter λc=>!decide (c∈cs):=by rw [ef];exact .head _
       have hw1:=Vm w (List.mem_filter.mp hw).1
       have hw2:w∉cs:=by simpa using (List.mem_filter.mp hw).2
       obtain ⟨c,m3,e3,f3,hc3⟩:=H0 (s:=csD cs) (n:=n) (.inr rfl) co.ne (by omega) (f2.hand.mono (by omega))
       have ct:cutD (D.str w::r.map D.str) none (some 1)=[.str w]:=by
        have:=Lo (xs:=D.str w::r.map D.str) (j:=1) (by simp)
        simpa using this
       have lz:FA none m2 (gNm 0) tY (Dz (Cb (Ci CO (Cb (Cd 1) (Cb (Cd 2) Cg))) (Cb (Cd 0) Cg))) [none,some (.ref k),some (csD cs)] [.str w] m2=some ([prD (c,w)],m3):=by
        unfold FA
        simp_arith only [e3,PR,FA,prD]
       have n0:=S9 (mu:=m3) (xs:=[prD (c,w)]) (RW [(c,w)])
       have l0:((1:Nat)==0)=false:=rfl
       have P:Ku cs (.tup [prD (c,w)])=true:=by
        have E:Ku cs (.tup [prD (c,w)])=((Dn 1 cs.length (.tup [prD (c,w)])&&[prD (c,w)].all Fd)&&(ndB ([prD (c,w)].map DO)&&([prD (c,w)].map DO).all (Em cs))):=rfl
        have p1:Fd (prD (c,w))=(wB c&&wB w):=rfl
        rw [E]
        simp only [Dn,List.all_cons,List.all_nil,p1,CP.mpr (co.w c hc3),CP.mpr hw1,A4,BC,AL,List.map_nil,ndB,Ab,Ae,List.length_cons,List.length_nil]
        refine ⟨⟨by omega,by omega⟩,by simp,?_⟩
        simpa [Em,prD,DO] using hc3
       have T:prT (.tup [prD (c,w)])=[(c,w)]:=rfl
       have sg:FJ cs "called" (.tup [prD (c,w)])=some (cs.map (EW [(c,w)])):=by
        have nr:¬ (Str.ofString "called"=Str.ofString "rows"):=by decide +kernel
        have nc:¬ (Str.ofString "called"=Str.ofString "columns"):=by decide +kernel
        simp only [FJ,nr,nc,A5,if_true,P,T,Ys co.nd hw2]
       refine ⟨.tup [.str "called",one,.tup [prD (c,w)]],m3,?_,fr2.trans f3,up1 _ (JL g1 ec rfl (.inr (.inr rfl)) sg)⟩
       simp_arith only [C0,e1,c1,c2,dd,e2,lc,es,w3',w3e,lf',ef,ct,lz,n0,l0]
     ·-- two looks
      obtain ⟨other,m3,e3,f3,g2⟩:=J2 H f (n:=n+3) (deep:=deep-1) (mu:=m2) (by omega) (by omega) (by omega) (fr2.flat hfl) (f2.hand.mono (by omega))
      have fr3:=fr2.trans f3
      by_cases w5:way=5
      ·subst w5
       obtain ⟨b1,B1⟩:=g1.bg
       obtain ⟨b2,B2⟩:=g2.bg
       have r1:=B1.run 10 m3 (by omega)
       have r2:=B2.run 10 m3 (by omega)
       have t6:=MR d7
       have e64:(2:Int) ^ 6=64:=by decide
       have h0:=B1.lo
       have h9:=B1.hi
       have cm:CMul b1 b2:=.inl ⟨by omega,by omega⟩
       by_cases lt:b1*b2<300
       ·refine ⟨.tup [.str "join",one,other],m3,?_,fr3.mono (by omega),up1 _ (Rp g1 g2 (by omega) B1 B2 lt)⟩
        simp_arith only [C0,e1,c1,c2,dd,e2,lc,es,w3',w3e,w4,e3,r1,r2,Li cm,lt]
       ·refine ⟨one,m3,?_,fr3.mono (by omega),up1 _ (g1.up (Bi _))⟩
        simp_arith only [C0,e1,c1,c2,dd,e2,lc,es,w3',w3e,w4,e3,r1,r2,Li cm,lt]
      ·obtain ⟨cs2,ec2⟩:=g2.cs
       have lc3:=Gk H.k 10 (n:=dB (deep-1)) (mu:=m3) (by omega) (by omega) ec2
       have ne:neD (csD cs2) (csD cs) m3=some (.bl (!decide (csD cs2=csD cs)),m3):=AaQ (Iw cs2) (Iw cs)
       obtain ⟨u,hu,eu⟩:∃ u:Str,(u="union"∨u="gap")∧∀ m:Sto,ixG (.lst [.str "union",.str "gap"]) (.int (way-6)) m=some (.str u,m):=by
        have:way=6∨way=7:=by omega
        rcases this with rfl|rfl
        ·exact ⟨"union",.inl rfl,λm=>Qu (ds:=[.str "union",.str "gap"]) _ (.inl rfl) (by decide) rfl⟩
        ·exact ⟨"gap",.inr rfl,λm=>Qu (ds:=[.str "union",.str "gap"]) _ (.inl rfl) (by decide) rfl⟩
       by_cases same:cs2=cs
       ·subst same
        refine ⟨.tup [.str u,one,other],m3,?_,fr3.mono (by omega),up1 _ (LA g1 g2 ec ec2 hu)⟩
        simp_arith only [C0,e1,c1,c2,dd,e2,lc,es,w3',w3e,w4,w5,e3,lc3,ne,eu]
       ·have sm:¬ csD cs2=csD cs:=λz=>same (UO.mp z)
        by_cases d3:(2:Int)<deep
        ·obtain ⟨y,m4,e4,f4,hy⟩:=Oj (n:=n) co cl2 w1 w2 w3 (f3.hand.mono (by omega))
         have ts1:KZ cs (.tup [y])=true:=Pn (by simp) (by simp) λd hd=>by rw [An.mp hd];exact hy.1
         have oy:okB 1000 (.tup [y])=true:=by
          simp only [okB,IP,PB (show 10≤1000 by decide) hy.2,List.length_cons,List.length_nil,A4]
          rfl
         have sg:FJ cs "rows" (.tup [y])=some cs:=by simp only [FJ,if_true,ts1]
         have g3:=JL g1 ec oy (.inl rfl) sg
         obtain ⟨x3,ec3⟩:=g3.cs
         have ec3':Cq (D2 ts) (dB (deep-1)+1) (.tup [.str "rows",one,.tup [y]])=some cs:=by
          have n1:¬ (Str.ofString "rows"=Str.ofString "of"):=by decide +kernel
          have n4:¬ (Str.ofString "rows"∈(["join","union","gap"]:List Str)):=by decide +kernel
          simp only [Cq,n1,A5,ec,n4,sg]
         have g4:=LA (g1.up (Bi _)) g3 (GP ec (Bi _)) ec3' hu
         refine ⟨.tup [.str u,one,.tup [.str "rows",one,.tup [y]]],m4,?_,fr3.trans f4,g4.up (by unfold dB;split<;>split<;>omega)⟩
         simp_arith only [C0,e1,c1,c2,dd,e2,lc,es,w3',w3e,w4,w5,e3,lc3,ne,sm,d3,e4,eu]
        ·refine ⟨.tup [.str u,one,one],m3,?_,fr3.mono (by omega),up1 _ (LA g1 g1 ec ec hu)⟩
         simp_arith only [C0,e1,c1,c2,dd,e2,lc,es,w3',w3e,w4,w5,e3,lc3,ne,sm,d3,eu]
end PG
namespace PV
open PySem L2 PyProof.Rows K1
variable {mu:Sto}
theorem WL {d e:D}(hd:hsh d=true)(he:hsh e=true)(l:dpt d≤60):eqD d e mu=some (.bl (decide (d=e)),mu):=by
 have sd:seen mu d=d:=by cases d<;>first|rfl|(simp [hsh] at hd)
 have se:seen mu e=e:=by cases e<;>first|rfl|(simp [hsh] at he)
 have:eqB mu d e=some (decide (d=e)):=by
  unfold eqB
  rw [sd,se,G0 hd,G0 he,if_pos,Hn hd he]
  rw [Jd hd,Jd he]
  simp only [Bool.true_and,Ae]
  omega
 unfold eqD
 rw [this]
 rfl
end PV
namespace PG
open PySem L2 PV PyProof.Rows K1
variable {mu:Sto}
noncomputable def Aaq (kn:Kn)(S:List D):Prop:=∀ d∈S,∃ l cs n,d=.tup [l,csD cs]∧hsh l=true∧dpt l≤60∧Cq kn n l=some cs
theorem QP {kn:Kn}{r:Nat}{S:List D}(g:mu[r]? = some (.lst S))(h:Aaq kn S){l:D}(hl:hsh l=true)(dl:dpt l≤60):∃ o:Option (List Str),DC [.ref r,l] mu=some (EV o,mu)∧∀ cs,o=some cs->∃ n,Cq kn n l=some cs:=by
 have key:∀ (T:List D) (x2 x3:Option D),(∀ d∈T,d∈S)->∃ (f:Fl) (ro:Ro),FV (some r) mu (gTp 2 (CC (gNm 2) (CC (gNm 3) Ew))) (sIf (tV (Ck eqD (Cd 2) (Cd 1))) (sRt (Cd 3)) (sNx)) T [some (.ref r),some l,x2,x3] mu=some ((f,ro),mu)∧((f=.nx)∨∃ cs n,f=.rt (csD cs)∧Cq kn n l=some cs):=by
  intro T
  induction T with
  | nil=>exact λx2 x3 _=>⟨.nx,_,rfl,.inl rfl⟩
  | cons d T ih =>
   intro x2 x3 hT
   obtain ⟨l',cs,n,rfl,h1,h2,h3⟩:=h d (hT d (.head _))
   have e:=WL (mu:=mu) h1 hl h2
   have tg:gTp 2 (CC (gNm 2) (CC (gNm 3) Ew)) (.tup [l',csD cs]) [some (.ref r),some l,x2,x3] mu=some ([some (.ref r),some l,some l',some (csD cs)],mu):=by simp_arith only []
   by_cases c:l'=l
   ·refine ⟨.rt (csD cs),[some (.ref r),some l,some l',some (csD cs)],?_,.inr ⟨cs,n,rfl,c▸h3⟩⟩
    have e':eqD l' l mu=some (.bl true,mu):=by rw [e,BE c]
    unfold FV
    rw [tg,D9]
    simp_arith only [e']
   ·obtain ⟨f,ro,e2,h4⟩:=ih (some l') (some (csD cs)) λd hd=>hT d (.tail _ hd)
    refine ⟨f,ro,?_,h4⟩
    have e':eqD l' l mu=some (.bl false,mu):=by rw [e,A1 c]
    unfold FV
    rw [tg,D9]
    simp_arith only [e']
    rw [EB,if_pos (show gOk (some r) mu mu from rfl)]
    exact e2
 obtain ⟨f,ro,e,hf⟩:=key S none none λd h=>h
 have iv:Kp mu (.ref r)=some ((S,some r),mu):=by simp only [Kp,g]
 rcases hf with rfl|⟨cs,n,rfl,hc⟩
 ·exact ⟨none,by simp_arith only [DC,FP,iv,e];rfl,(λcs h=>nomatch h)⟩
 ·exact ⟨some cs,by simp_arith only [DC,FP,iv,e];rfl,λcs' h=>⟨n,by cases h;exact hc⟩⟩
noncomputable def Stn (kn:Kn)(r m:Nat)(mu:Sto):Prop:=∃ S,mu[r]? = some (.lst S)∧Aaq kn S∧S.length≤m
theorem Ab1 {a b c:D}(h:hsh (.tup [a,b,c])=true):hsh b=true∧hsh c=true:=by
 simp only [hsh,GY,Ab,BC] at h
 exact ⟨h.2.1,h.2.2⟩
theorem Abx {a b c:D}{n:Nat}(h:dpt (.tup [a,b,c])≤n):dpt b≤n∧dpt c≤n:=by
 simp only [dpt,Kw] at h
 omega
theorem R0 {kn:Kn}{n m:Nat}{d:D}{a b:List Str}(h:Cq kn n d=some a)(h':Cq kn m d=some b):a=b:=by
 have x:=GP h (Nat.le_max_left n m)
 have y:=GP h' (Nat.le_max_right n m)
 rw [x] at y
 exact AE y
theorem ME {ts:List Tb}(H:SK ts){r:Nat}:∀ (f:Nat) {n m:Nat} {d:D} {cs:List Str} {mu:Sto},n≤f->n≤8->Cq (D2 ts) n d=some cs->hsh d=true->dpt d≤60->Stn (D2 ts) r m mu->m+2 ^ n≤5000 ->
  ∃ mu',Df f [knD (D2 ts),.ref r,d] mu=some (csD cs,mu')∧Stn (D2 ts) r (m+(2 ^ n-1)) mu'∧(∀ j,j≠r->mu'[j]? = mu[j]?)∧mu'.length=mu.length
 | f,0,m,d,cs,mu,_,_,h,_,_,_,_=>by cases h
 | 0,n+1,_,_,_,_,h,_,_,_,_,_,_=>by omega
 | f+1,n+1,m,d,cs,mu,hf,h8,h,hh,hd,st,hm=>by
  have two:2 ^ (n+1)=2*2 ^ n:=by rw [Nat.pow_succ];omega
  have pos:0<2 ^ n:=Nat.two_pow_pos n
  have up:Stn (D2 ts) r (m+(2 ^ (n+1)-1)) mu:=by
   obtain ⟨S,a,b,c⟩:=st
   exact ⟨S,a,b,by omega⟩
  have h0:=h
  rw [Df]
  unfold Cq at h
  split at h
  ·rename_i w b
   obtain ⟨rfl,x,rfl⟩:=Nb h
   refine ⟨mu,?_,up,λ_ _=>rfl,rfl⟩
   have el:ES (D2 ts) x=some cs:=by
    unfold ofC at h
    split at h
    ·exact h
    ·cases h
   have ix:ixG (knD (D2 ts)) (.str x) mu=some (csD cs,mu):=Wy (by rw [Qd,el];rfl)
   simp_arith only [DJ,ix]
  ·rename_i w a b
   obtain ⟨ha,hb⟩:=Ab1 hh
   obtain ⟨da,db⟩:=Abx hd
   split at h
   ·cases h
   ·rename_i cw
    split at h
    ·cases h
    ·rename_i one e1
     have lo:=ED (Ie H) n _ _ e1
     have p8:2 ^ n≤2 ^ 7:=Br (by decide) (by omega)
     by_cases cc:w="columns"
     ·subst cc
      refine ⟨mu,?_,up,λ_ _=>rfl,rfl⟩
      have ng:¬ (Str.ofString "columns"∈(["join","union","gap"]:List Str)):=by decide +kernel
      have nr:¬ (Str.ofString "columns"=Str.ofString "rows"):=by decide +kernel
      rw [if_neg ng] at h
      unfold FJ at h
      rw [if_neg nr,if_pos rfl] at h
      split at h
      ·rename_i c
       cases h
       rw [Ab] at c
       obtain ⟨ss,rfl,e,_⟩:=JQ c.1
       rw [e]
       simp_arith only [DJ,cw]
      ·cases h
     ·by_cases cj:w="join"
      ·subst cj
       have mj:(Str.ofString "join"∈(["join","union","gap"]:List Str)):=by decide +kernel
       rw [if_pos mj] at h
       split at h
       ·cases h
       ·rename_i other e2
        have lo2:=ED (Ie H) n _ _ e2
        have hc:cs=IV one other:=by
         unfold Ke at h
         rw [if_pos rfl] at h
         exact (AE h).symm
        obtain ⟨S,g,sn,sl⟩:=st
        obtain ⟨o,ef,ho⟩:=QP (mu:=mu) g sn hh hd
        cases o with
        | some cs' =>
         obtain ⟨n',hn'⟩:=ho cs' rfl
         have:=R0 hn' h0
         subst this
         refine ⟨mu,?_,up,λ_ _=>rfl,rfl⟩
         have ef':DC [.ref r,.tup [.str "join",a,b]] mu=some (csD cs',mu):=ef
         have nn:isD (csD cs') .non mu=some (.bl false,mu):=rfl
         simp_arith only [DJ,DP,cw,cc,ef',nn]
        | none =>
         have ef':DC [.ref r,.tup [.str "join",a,b]] mu=some (.non,mu):=ef
         have nn:isD .non .non mu=some (.bl true,mu):=rfl
         obtain ⟨m1,r1,s1,k1,l1⟩:=ME H f (m:=m) (mu:=mu) (by omega) (by omega) e1 ha da ⟨S,g,sn,sl⟩ (by omega)
         obtain ⟨m2,r2,s2,k2,l2⟩:=ME H f (m:=m+(2 ^ n-1)) (mu:=m1) (by omega) (by omega) e2 hb db s1 (by omega)
         obtain ⟨S2,g2,sn2,sl2⟩:=s2
         have jr:=Lc (mu:=m2) (one:=one) (other:=other) (by omega)
         have ap:=append_at (mu:=m2) (mu':=m2) (r:=r) (ds:=S2) (ds0:=S2) (y:=.tup [.tup [.str "join",a,b],csD (IV one other)]) g2 g2 (by rw [AO];omega) (ro:=[some (knD (D2 ts)),some (.ref r),some (.tup [.str "join",a,b]),some (csD (IV one other))]) (i:=1) (e:=(Dz (Cb (Cd 2) (Cb (Cd 3) Cg)))) rfl rfl
         refine ⟨m2.set r (.lst (S2++[.tup [.tup [.str "join",a,b],csD (IV one other)]])),?_,⟨_,Ha g2,λd' hd'=>?_,by rw [Az,List.length_singleton];omega⟩,λj hj=>?_,by rw [List.length_set];omega⟩
         ·simp_arith only [DJ,DP,cw,cc,ef',nn,r1,r2,jr,ap,hc]
         ·rcases AR.mp hd' with hd'|hd'
          ·exact sn2 d' hd'
          ·rw [An.mp hd',← hc]
           exact ⟨_,cs,n+1,rfl,hh,hd,h0⟩
         ·rw [AG (Ne.symm hj),k2 j hj,k1 j hj]
      ·obtain ⟨m1,r1,s1,k1,l1⟩:=ME H f (m:=m) (mu:=mu) (by omega) (by omega) e1 ha da st (by omega)
       refine ⟨m1,?_,?_,k1,l1⟩
       ·by_cases c3:w="called"
        ·subst c3
         have ng:¬ (Str.ofString "called"∈(["join","union","gap"]:List Str)):=by decide +kernel
         have nr:¬ (Str.ofString "called"=Str.ofString "rows"):=by decide +kernel
         rw [if_neg ng] at h
         unfold FJ at h
         rw [if_neg nr,if_neg cc,if_pos rfl] at h
         split at h
         ·rename_i c
          split at h
          ·cases h
           obtain ⟨ps,rfl,e2,nd,_⟩:=IE c
           rw [e2]
           simp_arith only [DJ,cw,cc,cj,r1,K4 nd]
          ·cases h
         ·cases h
        ·have:cs=one:=by
          split at h
          ·split at h
           ·cases h
           ·unfold Ke at h
            rw [if_neg cj] at h
            split at h
            ·exact (AE h).symm
            ·cases h
          ·unfold FJ at h
           split at h
           ·split at h
            ·exact (AE h).symm
            ·cases h
           ·first|(cases h;done)|(rw [if_neg cc,if_neg c3] at h;cases h)
         subst this
         simp_arith only [DJ,cw,cc,cj,r1,c3]
       ·obtain ⟨S,a,b,c⟩:=s1
        exact ⟨S,a,b,by omega⟩
  ·cases h
noncomputable def Hs (n:Nat)(d:D):Prop:=hsh d=true∧dpt d≤n
theorem Hs.up {n m:Nat}{d:D}(h:Hs n d)(l:n≤m):Hs m d:=⟨h.1,AA h.2 l⟩
theorem Jh {n:Nat}:∀ {ds:List D},(∀ d∈ds,Hs n d)->Hs (n+1) (.tup ds):=by
 intro ds h
 have:GY ds=true∧Kw ds≤n:=by
  induction ds with
  | nil=>exact ⟨rfl,AX _⟩
  | cons d ds ih =>
   obtain ⟨a,b⟩:=ih λd hd=>h d (.tail _ hd)
   obtain ⟨c,e⟩:=h d (.head _)
   refine ⟨by rw [GY,a,c];rfl,?_⟩
   rw [Kw]
   omega
 refine ⟨by rw [hsh];exact this.1,?_⟩
 rw [dpt]
 omega
theorem Le (x:Str):Hs 0 (.str x):=⟨rfl,AX _⟩
theorem M4 (ss:List Str):Hs 1 (csD ss):=Jh λd hd=>by
 obtain ⟨x,_,rfl⟩:=Ay.mp hd
 exact Le x
theorem WU (ps:List (Str×Str)):Hs 2 (.tup (ps.map prD)):=Jh λd hd=>by
 obtain ⟨p,_,rfl⟩:=Ay.mp hd
 exact Jh λd hd=>by
  simp only [Am,AQ,BB] at hd
  rcases hd with rfl|rfl<;>exact Le _
theorem YC {cs:List Str}{d:D}(h:GU cs d=true):Hs 1 d:=by
 unfold GU at h
 split at h
 ·rw [Ab,Ab,Ab] at h
  obtain ⟨⟨h1,h2,h3⟩,_⟩:=h
  obtain ⟨x,rfl,_⟩:=DT h1
  obtain ⟨y,rfl,_⟩:=DT h2
  obtain ⟨z,rfl,_⟩:=DT h3
  exact Jh λd hd=>by
   simp only [Am,AQ,BB] at hd
   rcases hd with rfl|rfl|rfl<;>exact Le _
 ·cases h
theorem XO {cs:List Str}{d:D}(h:KZ cs d=true):Hs 2 d:=by
 cases d with
 | tup ds =>
  have e:KZ cs (.tup ds)=(Dn 1 4 (.tup ds)&&ds.all (GU cs)):=rfl
  rw [e,Ab,Aq] at h
  exact Jh λd hd=>YC (h.2 d hd)
 | _=>cases h
theorem YI {one cs:List Str}{w:Str}{b:D}(h:FJ one w b=some cs):Hs 2 b:=by
 unfold FJ at h
 split at h
 ·split at h
  ·rename_i c
   exact XO c
  ·cases h
 ·split at h
  ·split at h
   ·rename_i c
    rw [Ab] at c
    obtain ⟨ss,rfl,_⟩:=JQ c.1
    exact (M4 ss).up (by decide)
   ·cases h
  ·split at h
   ·split at h
    ·rename_i c
     obtain ⟨ps,rfl,_⟩:=IE c
     exact WU ps
    ·cases h
   ·cases h
theorem Nd {kn:Kn}:∀ (n:Nat) (d:D) (cs:List Str),Cq kn n d=some cs->Hs (n+2) d
 | 0,_,_,h=>by cases h
 | n+1,d,cs,h=>by
  unfold Cq at h
  split at h
  ·rename_i w b
   obtain ⟨rfl,x,rfl⟩:=Nb h
   exact (Jh (n:=0) λd hd=>by
    simp only [Am,AQ,BB] at hd
    rcases hd with rfl|rfl<;>exact Le _).up (by omega)
  ·rename_i w a b
   split at h
   ·cases h
   ·split at h
    ·cases h
    ·rename_i one e1
     have ia:=Nd n a one e1
     have ib:Hs (n+2) b:=by
      split at h
      ·split at h
       ·cases h
       ·rename_i other e2
        exact Nd n b other e2
      ·exact (YI h).up (by omega)
     exact Jh λd hd=>by
      simp only [Am,AQ,BB] at hd
      rcases hd with rfl|rfl|rfl
      ·exact (Le _).up (by omega)
      ·exact ia
      ·exact ib
  ·cases h
theorem Lq {ts:List Tb}(H:SK ts)(hf:Flat mu){n:Nat}{d:D}{cs:List Str}(hn:n≤8)(h:Cq (D2 ts) n d=some cs):DZ [scD ts,d] mu=some (csD cs,mu):=by
 obtain ⟨h1,h2⟩:=Nd n d cs h
 have p8:2 ^ n≤2 ^ 8:=Br (by decide) hn
 obtain ⟨m',e,_,k,l⟩:=ME H (r:=mu.length) 10 (m:=0) (mu:=mu++[.lst []]) (by omega) hn h h1 (by omega) ⟨[],by simp,(λ_ h=>nomatch h),Ah _⟩ (by omega)
 have tk:m'.take mu.length=mu:=by
  apply A7
  intro j
  by_cases c:j<mu.length
  ·rw [Bx c,k j (by omega),Ax c]
  ·rw [List.getElem?_eq_none (by rw [Bc];omega),List.getElem?_eq_none (by omega)]
 have cr:=Na (mu:=mu) (m:=m') (d:=csD cs) (by simp only [csD,Dh];exact Gb (KD cs)) (by rw [tk];exact hf)
 rw [tk] at cr
 simp_arith only [DZ,Hy,La H,e,cr]
end PG
namespace PV
open PySem L2 PySem.Spec PyProof.Rows K1 Builtin.Str
theorem IY:∀ c∈DR.cps.toList,reprChar 39 c=[c]∧c≠39∧c<1114112:=by
 have:DR.cps.toList.all (λc=>decide (reprChar 39 c=[c])&&(decide (c≠39)&&decide (c<1114112)))=true:=by decide +kernel
 intro c hc
 have h:=Aq.mp this c hc
 simp only [Ab,Ae] at h
 exact h
theorem Lw:∀ (l:List Nat) (acc:Array Nat),(∀ c∈l,c∈DR.cps.toList)->l.foldl (λout c=>out++(reprChar 39 c).toArray) acc=acc++l.toArray
 | [],acc,_=>by simp
 | c::l,acc,h=>by
  rw [List.foldl_cons,Lw l _ λc hc=>h c (.tail _ hc),(IY c (h c (.head _))).1]
  apply Array.ext'
  simp
theorem PK {x:Str}(h:IsW x):reprText x=⟨(#[39]++x.cps).push 39⟩:=by
 have q:reprQuote x=39:=by
  unfold reprQuote
  have:x.cps.contains 39=false:=by
   rw [Bool.eq_false_iff]
   intro e
   have:=Array.contains_iff_mem.mp e
   exact (IY 39 (h.al 39 (by simpa using this))).2.1 rfl
  rw [this]
  rfl
 unfold reprText
 rw [q,← Array.foldl_toList,Lw _ _ h.al]
theorem O9 {x:Str}(h:IsW x):(reprText x).length≤10∧PyData.strOk (reprText x)=true:=by
 rw [PK h]
 have h8:=h.hi
 constructor
 ·unfold Str.length at h8 ⊢
  simp
  omega
 ·unfold PyData.strOk
  rw [Array.all_eq_true']
  intro c hc
  simp only [Array.mem_push,Array.mem_append] at hc
  rcases hc with (hc|hc)|hc
  ·simp at hc
   subst hc
   decide
  ·have:=(IY c (h.al c (by simpa using hc))).2.2
   simpa using this
  ·subst hc
   decide
mutual
noncomputable def rsz:D->Nat
 | .tup ds=>5+OO ds
 | .lst ds=>5+OO ds
 | _=>10
noncomputable def OO:List D->Nat
 | []=>0
 | d::ds=>rsz d+2+OO ds
end
mutual
noncomputable def rok:D->Prop
 | .tup ds=>NM ds
 | .str x=>IsW x
 | .non=>True
 | _=>False
noncomputable def NM:List D->Prop
 | []=>True
 | d::ds=>rok d∧NM ds
end
theorem F8 {a b:Str}(ha:PyData.strOk a=true)(hb:PyData.strOk b=true):PyData.strOk (a++b)=true:=by
 unfold PyData.strOk at ha hb ⊢
 rw [Str.cps_append,Array.all_append,ha,hb]
 rfl
theorem LB (sep:Str)(hs:PyData.strOk sep=true):∀ ts:List Str,(∀ t∈ts,PyData.strOk t=true)->PyData.strOk (Str.join sep ts)=true
 | [],_=>(show PyData.strOk (Str.ofString "")=true by decide +kernel)
 | [x],h=>h x (.head _)
 | x::y::r,h=>by
  show PyData.strOk (x++sep++Str.join sep (y::r))=true
  exact F8 (F8 (h x (.head _)) hs) (LB sep hs (y::r) λt ht=>h t (.tail _ ht))
mutual
theorem NU:∀ (d:D),rok d->(toPy d).showable=true∧(toPy d).hasDict=false∧(toPy d).shown.length≤rsz d∧PyData.strOk (toPy d).shown=true∧Dj d=true
 | .tup ds,h=>by
  obtain ⟨a,b,c,e,f⟩:=LX ds (by simpa only [rok] using h)
  have hc:PyData.strOk (Str.ofString ", ")=true:=by decide +kernel
  have h0:PyData.strOk (Str.ofString "(")=true:=by decide +kernel
  have h1:PyData.strOk (Str.ofString ",)")=true:=by decide +kernel
  have h2:PyData.strOk (Str.ofString ")")=true:=by decide +kernel
  have l0:(Str.ofString "(").length=1:=by decide +kernel
  have l1:(Str.ofString ",)").length=2:=by decide +kernel
  have l2:(Str.ofString ")").length=1:=by decide +kernel
  have l3:(Str.ofString ", ").length=2:=by decide +kernel
  refine ⟨by simp only [toPy,PyData.showable,a],by simp only [toPy,PyData.hasDict,b],?_,?_,by simp only [Dj,f]⟩
  ·simp only [toPy,PyData.shown,rsz]
   unfold tupleText
   rw [Str.length_append,Str.length_append,l0]
   have j:=StrLaws.join_length_le (Str.ofString ", ") (PyData.shownAll (CA ds))
   rw [l3] at j
   split
   ·rw [l1];omega
   ·rw [l2];omega
  ·simp only [toPy,PyData.shown]
   unfold tupleText
   refine F8 (F8 h0 (LB _ hc _ e)) ?_
   split
   ·exact h1
   ·exact h2
 | .str x,h=>by
  obtain ⟨a,b⟩:=O9 (by simpa only [rok] using h)
  exact ⟨rfl,rfl,by simpa only [toPy,PyData.shown,rsz] using a,by simpa only [toPy,PyData.shown] using b,rfl⟩
 | .non,_=>⟨rfl,rfl,by decide +kernel,by decide +kernel,rfl⟩
 | .lst _,h=>by simp only [rok] at h
 | .dct _ _,h=>by simp only [rok] at h
 | .set _,h=>by simp only [rok] at h
 | .ref _,h=>by simp only [rok] at h
 | .bl _,h=>by simp only [rok] at h
 | .int _,h=>by simp only [rok] at h
theorem LX:∀ (ds:List D),NM ds->PyData.showableAll (CA ds)=true∧PyData.hasDictAll (CA ds)=false∧((PyData.shownAll (CA ds)).map (·.length)).sum+(PyData.shownAll (CA ds)).length*2≤OO ds∧(∀ t∈PyData.shownAll (CA ds),PyData.strOk t=true)∧Et ds=true
 | [],_=>⟨rfl,rfl,Ah _,(λ_ h=>nomatch h),rfl⟩
 | d::ds,h=>by
  have h':rok d∧NM ds:=by simpa only [NM] using h
  obtain ⟨a,b,c,e,f⟩:=NU d h'.1
  obtain ⟨a',b',c',e',f'⟩:=LX ds h'.2
  refine ⟨by simp only [CA,PyData.showableAll,a,a',A4],by simp only [CA,PyData.hasDictAll,b,b',Bool.or_self],?_,λt ht=>?_,by simp only [Et,f,f',A4]⟩
  ·simp only [CA,PyData.shownAll,AL,List.sum_cons,List.length_cons,OO]
   omega
  ·simp only [CA,PyData.shownAll,Am] at ht
   rcases ht with rfl|ht
   ·exact e
   ·exact e' t ht
end
theorem V2 {mu:Sto}{d:D}(h:rok d)(hd:(toPy d).depth≤60)(hz:rsz d≤16777216):IU [d] mu=some (.str (toPy d).shown,mu):=by
 obtain ⟨a,b,c,e,f⟩:=NU d h
 have sd:seen mu d=d:=by cases d<;>first|rfl|(simp [rok] at h)
 unfold IU
 simp only [HD,sd,f,Qa,a,b,e,Bool.not_false,Bool.true_and,BC]
 rw [if_pos]
 rw [Ab,Ae,Ae,AO]
 omega
theorem Xd {mu:Sto}{s:Str}:neD (.str s) (.str s) mu=some (.bl false,mu):=by
 simp [neD,eqB,seen,Dj,toPy,PyData.eqv,PyData.depth]
theorem S8 {ds:List D}:NM ds ↔ ∀ d∈ds,rok d:=by
 induction ds with
 | nil=>simp [NM]
 | cons d ds ih=>simp [NM,ih]
theorem QD {n:Nat}:∀ {ds:List D},(∀ d∈ds,rsz d≤n)->OO ds≤ds.length*(n+2)
 | [],_=>AX _
 | d::ds,h=>by
  have:=QD λd hd=>h d (.tail _ hd)
  have:=h d (.head _)
  simp only [OO,List.length_cons,Nat.succ_mul]
  omega
theorem L9 {n:Nat}:∀ {ds:List D},(∀ d∈ds,(toPy d).depth≤n)->PyData.depthAll (CA ds)≤n
 | [],_=>by simp [CA,PyData.depthAll]
 | d::ds,h=>by
  have:=L9 λd hd=>h d (.tail _ hd)
  have:=h d (.head _)
  simp only [CA,PyData.depthAll]
  omega
end PV
namespace PV
open PySem L2 PyProof.Rows K1
variable {mu:Sto}
theorem Uy {xs ys:List D}(h:xs.length+ys.length≤sizeLine):Dc (.tup xs) (.tup ys) mu=some (.tup (xs++ys),mu):=by
 simp only [Dc,h,if_true]
theorem XW {i:Int}:U5 (.int i) mu=some (.int (-i),mu):=rfl
theorem Aai {ds:List D}:O4 (.tup ds) mu=some (.tup ds.reverse,mu):=rfl
theorem Zq {d:D}(hd:hsh d=true)(l:dpt d≤60):neD d d mu=some (.bl false,mu):=by
 have h:=WL (mu:=mu) hd hd l
 unfold eqD at h
 unfold neD
 cases e:eqB mu d d with
 | none=>rw [e] at h;cases h
 | some b =>
  rw [e] at h
  simp at h
  subst h
  rfl
theorem Xi {x:D}{n:Int}(h1:1≤n)(h2:n≤100):To (.tup [x]) (.int n) mu=some (.tup (List.replicate n.toNat [x]).flatten,mu):=by
 have:SJ (.tup [x]) (.int n) mu=some (.tup (List.replicate n.toNat [x]).flatten,mu):=by
  unfold SJ
  simp only []
  rw [if_pos]
  refine ⟨by omega,by omega,?_⟩
  simp
  omega
 simp only [To,F2,this]
theorem Ub {ds:List D}{d:D}(h:ds.getLast? = some d):ixG (.tup ds) (.int (-1)) mu=some (d,mu):=by
 have ne:ds≠[]:=by rintro rfl;simp at h
 have l:0<ds.length:=List.length_pos_iff.mpr ne
 have:atI ds (-1)=some d:=by
  rw [List.getLast?_eq_getElem?] at h
  have e:ixN ds.length (-1:Int)=some (ds.length-1):=by
   unfold ixN
   split<;>first|omega|(split<;>first|(congr 1;omega)|omega)
  unfold atI
  rw [e]
  exact h
 simp only [ixG,ixD,this,Option.map_some]
theorem UM {r:Nat}{tg:Gx}{el:Ex}{ro:Ro}{mu:Sto}(g:D->Bool):∀ ds:List D,(∀ d∈ds,∃ ro1,tg d ro mu=some (ro1,mu)∧el ro1 mu=some (.bl (g d),mu))->FA (some r) mu tg tY el ro ds mu=some ((ds.map g).map D.bl,mu)
 | [],_=>rfl
 | d::ds,h=>by
  obtain ⟨ro1,e1,e2⟩:=h d (.head _)
  have ih:=UM (r:=r) g ds λd' hd=>h d' (.tail _ hd)
  have t:tY ro1 mu=some (true,mu):=rfl
  unfold FA
  rw [e1,D9,t,D9,if_pos rfl,e2,D9,EB,if_pos (show gOk (some r) mu mu from rfl),ih,D9]
  rfl
end PV
namespace PG
open PySem L2 PV PyProof.Rows K1
variable {mu:Sto}
theorem Yi {cs:List Str}(h:∀ x∈cs,IsW x):rok (csD cs):=by
 unfold csD
 simp only [rok]
 exact S8.mpr λd hd=>by
  obtain ⟨x,hx,rfl⟩:=Ay.mp hd
  simpa only [rok] using h x hx
theorem Wc {cs:List Str}(h:∀ x∈cs,IsW x)(l:cs.length≤4000):IU [csD cs] mu=some (.str (toPy (csD cs)).shown,mu):=by
 refine V2 (Yi h) ?_ ?_
 ·have:=L9 (n:=0) (ds:=cs.map D.str) λd hd=>by
   obtain ⟨x,hx,rfl⟩:=Ay.mp hd
   exact Ah _
  unfold csD
  simp only [toPy,PyData.depth]
  omega
 ·have:=QD (n:=10) (ds:=cs.map D.str) λd hd=>by
   obtain ⟨x,hx,rfl⟩:=Ay.mp hd
   exact Ah _
  unfold csD
  simp only [rsz]
  rw [Ag] at this
  omega
theorem Qo:∀ {cs ds:List Str},cs.Nodup->cs.length=ds.length->cs.map (EW (cs.zip ds))=ds
 | [],[],_,_=>rfl
 | [],_::_,_,h=>by simp at h
 | _::_,[],_,h=>by simp at h
 | c::cs,d::ds,nd,h=>by
  rw [Bn] at nd
  have ih:=Qo (cs:=cs) (ds:=ds) nd.2 (by simpa using h)
  rw [AL,List.zip_cons_cons]
  have e0:EW ((c,d)::cs.zip ds) c=d:=by
   unfold EW
   rw [if_pos rfl]
  have e1:cs.map (EW ((c,d)::cs.zip ds))=cs.map (EW (cs.zip ds)):=List.map_congr_left λx hx=>by
   rw [EW,if_neg]
   rintro rfl
   exact nd.1 hx
  rw [e0,e1,ih]
theorem QM:∀ (cs ds:List Str),Jw (cs.map D.str) (ds.map D.str)=(cs.zip ds).map prD
 | [],_=>rfl
 | _::_,[]=>rfl
 | c::cs,d::ds=>by
  have:=QM cs ds
  unfold Jw at this ⊢
  rw [AL,AL,List.zip_cons_cons,List.zip_cons_cons,AL,AL,this]
  rfl
theorem U3 {cs ds:List Str}(hc:IW cs)(hd:CsW ds)(l:cs.length=ds.length):Ku cs (.tup ((cs.zip ds).map prD))=true:=by
 rw [SX hc.w]
 have ef:((cs.zip ds).map prD).map DO=cs.map D.str:=by
  rw [KQ,List.map_fst_zip (by omega)]
 have ne:cs.length≠0:=λe=>hc.ne (List.length_eq_zero_iff.mp e)
 simp only [Ab,Aq]
 refine ⟨λd h=>?_,?_,λd h=>?_⟩
 ·obtain ⟨p,_,rfl⟩:=Ay.mp h
  rfl
 ·have C:Yw cs (.tup (cs.map D.str))=(!((cs.map D.str).length==0)&&((cs.map D.str).all (Em cs)&&ndB (cs.map D.str))):=rfl
  rw [ef,C,Nq]
  simp only [Ag,Ab,Bool.not_eq_true',BY,Aq,Ae]
  refine ⟨ne,λx hx=>hx,?_⟩
  simp only [ndB,Ae]
  exact D6.mpr hc.nd
 ·obtain ⟨p,hp,rfl⟩:=Ay.mp h
  exact CP.mpr (hd p.2 (List.of_mem_zip hp).2)
noncomputable def trn (cs:List Str):List Str:=cs.drop 1++cs.take 1
theorem KG (cs:List Str):cs.length=(trn cs).length:=by
 unfold trn
 rw [Az,BJ,Bc]
 omega
theorem K7 (cs:List Str):(trn cs).Perm cs:=by
 unfold trn
 refine (List.perm_append_comm).trans ?_
 rw [List.take_append_drop]
theorem UI {cs:List Str}(h:IW cs):IW (trn cs):=
 ⟨λx hx=>h.w x ((K7 cs).mem_iff.mp hx),λe=>h.ne (by have:=KG cs;rw [e] at this;exact List.length_eq_zero_iff.mp this),(K7 cs).nodup_iff.mpr h.nd⟩
theorem O6 {cs:List Str}{d:D}(l:cs.length≤1000)(h:cs≠[]):Ei [csD cs,d] mu=some (.tup [.str "called",d,.tup ((cs.zip (trn cs)).map prD)],mu):=by
 have l0:0<cs.length:=List.length_pos_iff.mpr h
 have e1:cutD (cs.map D.str) none (some 1)=(cs.take 1).map D.str:=by
  have:=Lo (xs:=cs.map D.str) (j:=1) (by rw [Ag];omega)
  rw [List.map_take]
  exact this
 have e2:Dc (.tup ((cs.map D.str).drop 1)) (.tup ((cs.take 1).map D.str)) mu=some (csD (trn cs),mu):=by
  rw [Uy (by rw [BJ,Ag,Ag,Bc,AO];omega)]
  unfold csD trn
  rw [AV,List.map_drop]
 have ez:∀ ro:Ro,(eLZ (Cb (Cd 0) (Cb (Ck Dc (eSl (Cd 0) (Fw (eC (.int 1))) (pNo)) (eSl (Cd 0) (pNo) (Fw (eC (.int 1))))) Cg))) (some (csD cs)::ro) mu=some (.lst ((cs.zip (trn cs)).map prD),mu):=λro=>by
  unfold eLZ
  unfold csD at e2 ⊢
  simp_arith only [e1,e2]
  show some (D.lst (Jw (cs.map D.str) ((trn cs).map D.str)),mu)=_
  rw [QM]
 simp_arith only [Ei,Hx,ez]
noncomputable def Mt:Sx:=(Cv (CZ (Ci (Ej 10) (Cb (Cd 2) (Cb (Cd 3) (Cb (Ck Dc (eC (.int 1)) (Ci Cs (Cb (Cd 2) (Cb (eC (.int 5)) Cg)))) Cg)))) (gNm 5)) (Cv (CZ (Ci (CD 10) (Cb (Cd 3) (Cb (Cd 5) Cg))) (gNm 6)) (Cv (sIf (tO (tV (Ck Jq (Ci CV (Cb (Cd 3) (Cb (Cd 5) Cg))) (eC (.bl true)))) (tV (Ck Jq (Ci CV (Cb (Cd 3) (Cb (Cd 5) Cg))) (eC (.bl true))))) (sRt (eC (.bl false))) (sNx)) (sIf (tV (Ck neD (Ci IU (Cb (Ci DZ (Cb (Cd 3) (Cb (Cd 5) Cg))) Cg)) (Ci IU (Cb (Cd 6) Cg)))) (sRt (eC (.bl false))) (sNx)))))
noncomputable def N8:Sx:=(CZ (Dz (Cb (eC (.str "rows")) (Cb (Cd 10) (Cb (Ck To (Dz (Cb (Dz (Cb (eC (.str "like")) (Cb (Ck ixG (Cd 6) (eC (.int 0))) (Cb (Ck ixG (Cd 6) (e1 U5 (eC (.int 1)))) Cg)))) Cg)) (Ck Dc (eC (.int 1)) (Ck GB (Cd 4) (eC (.int 4))))) Cg)))) (gNm 10))
theorem Ue {ts:List Tb}(H:Sch ts){k n:Nat}{ns d1:D}{x4 x5 x6 x7 x8 x9 x10:Option D}(hf:Flat mu)(h:HandOk mu k (n+5000)) :
  ∃ y5 y6 m',Mt [some ns,some d1,some (.ref k),some (scD ts),x4,x5,x6,x7,x8,x9,x10] mu=some ((.nx,[some ns,some d1,some (.ref k),some (scD ts),x4,y5,y6,x7,x8,x9,x10]),m')∧Fr k n mu m':=by
 obtain ⟨_,m1,e1,f1,q,rfl,a0,a1⟩:=DQ (m:=5) (n:=n+4999) h (by decide) (by decide)
 obtain ⟨deep,hq,d1',d5⟩:∃ deep:Nat,(1:Int)+q=deep∧1≤deep∧deep≤5:=⟨(1+q).toNat,by omega,by omega,by omega⟩
 have p5:20*3 ^ deep≤4860:=by
  have:=Br (n:=3) (by decide) d5
  omega
 obtain ⟨l,m2,e2,f2,gl⟩:=J2 H (k:=k) 10 (n:=n+71) (deep:=deep) d1' (by omega) d5 (f1.flat hf) (f1.hand.mono (by omega))
 have fl2:=f2.flat (f1.flat hf)
 obtain ⟨cs,hcs⟩:=gl.cs
 have d8:dB deep≤8:=by unfold dB;split<;>omega
 have hcs8:=GP hcs d8
 have ok:=JC (Tj H.k) _ _ _ hcs
 have ln:=ED (Ie H.k) _ _ _ hcs8
 have lk:(Cq (D2 ts) 8 l).isSome=true:=by rw [hcs8];rfl
 have il:=Nx (mu:=m2) H.k l (QL gl.ok)
 have lc:CD 10 [scD ts,l] m2=some (csD cs,m2):=Gk H.k 10 (by omega) d8 hcs
 have co:=Lq (mu:=m2) H.k fl2 d8 hcs
 have re:=Wc (mu:=m2) (cs:=cs) ok.w (by omega)
 refine ⟨some l,some (csD cs),m2,?_,(f1.trans f2).mono (by omega)⟩
 unfold Mt
 simp_arith only [e1,hq,e2,lc,il,lk,co,re,Xd]
theorem QS {ts:List Tb}(H:Sch ts){k n:Nat}{ns d1:D}{x4 x5 x6 x7 x8 x9 x10:Option D}(hf:Flat mu)(h:HandOk mu k (n+30000)){m0:Sto} :
  ∃ y4 y5 y6 m',FV none m0 (gNm 4) Mt (E3 0 6) [some ns,some d1,some (.ref k),some (scD ts),x4,x5,x6,x7,x8,x9,x10] mu=some ((.nx,[some ns,some d1,some (.ref k),some (scD ts),y4,y5,y6,x7,x8,x9,x10]),m')∧Fr k n mu m':=by
 obtain ⟨ro',mu',e,⟨y4,y5,y6,rfl⟩,fr⟩:=GN (m0:=m0) (tg:=gNm 4) (body:=Mt) (λi ro m=>(∃ y4 y5 y6,ro=[some ns,some d1,some (.ref k),some (scD ts),y4,y5,y6,x7,x8,x9,x10])∧Fr k (n+30000-5000*i) mu m) (E3 0 6) 0 _ mu ⟨⟨x4,x5,x6,rfl⟩,.refl h⟩ λj d ro m ed ⟨⟨y4,y5,y6,er⟩,fr⟩=>by
   subst er
   obtain ⟨rfl,hj⟩:=Lh ed
   obtain ⟨z5,z6,m1,e1,f1⟩:=Ue (mu:=m) H (n:=n+30000-5000*(0+j+1)) (ns:=ns) (d1:=d1) (x4:=some (.int j)) (x5:=y5) (x6:=y6) (x7:=x7) (x8:=x8) (x9:=x9) (x10:=x10) (fr.flat hf) (fr.hand.mono (by omega))
   exact ⟨_,m,_,m1,rfl,e1,⟨_,_,_,rfl⟩,fr.trans f1⟩
 exact ⟨y4,y5,y6,mu',e,fr.mono (by rw [KL];omega)⟩
noncomputable def dq (tab:D)(c0 cl:Str):Nat->D
 | 0=>tab
 | i+1=>.tup [.str "rows",dq tab c0 cl i,.tup (List.replicate (1+i % 4) [D.tup [.str "like",.str c0,.str cl]]).flatten]
theorem OF (n:Nat)(x:D):(List.replicate n [x]).flatten=List.replicate n x:=by
 induction n with
 | zero=>rfl
 | succ n ih=>rw [List.replicate_succ,List.flatten_cons,ih];rfl
theorem Ql {kn:Kn}{tab:D}{cs:List Str}{c0 cl:Str}(h:Cq kn 1 tab=some cs)(ok:IW cs)(h0:c0∈cs)(hl:cl∈cs):∀ i,Cq kn (i+1) (dq tab c0 cl i)=some cs
 | 0=>h
 | i+1=>by
  have ih:=Ql h ok h0 hl i
  have ng:¬ (Str.ofString "rows"∈(["join","union","gap"]:List Str)):=by decide +kernel
  have no:¬ (Str.ofString "rows"=Str.ofString "of"):=by decide +kernel
  have tt:GU cs (.tup [.str "like",.str c0,.str cl])=true:=by
   have w1:CJ (.str "like")=true:=CP.mpr KR
   have w2:CJ (.str c0)=true:=CP.mpr (ok.w c0 h0)
   have w3:CJ (.str cl)=true:=CP.mpr (ok.w cl hl)
   rw [← TU ok.w]
   have w4:wB cl=true:=CP.mpr (ok.w cl hl)
   simp [ltB,h0,hl,w1,w2,w3,w4]
  unfold dq
  rw [Cq]
  simp only [no,A5,ih,ng]
  unfold FJ
  rw [if_pos rfl,if_pos]
  rw [OF]
  refine Pn (by rw [BH];omega) (by rw [BH];omega) λd hd=>?_
  rw [List.eq_of_mem_replicate hd]
  exact tt
theorem Wv {kn:Kn}{tab:D}{c0 cl:Str}:∀ n m,n≤m->Cq kn n (dq tab c0 cl m)=none
 | 0,_,_=>rfl
 | n+1,0,h=>by omega
 | n+1,m+1,h=>by
  have ih:=Wv (kn:=kn) (tab:=tab) (c0:=c0) (cl:=cl) n m (by omega)
  have no:¬ (Str.ofString "rows"=Str.ofString "of"):=by decide +kernel
  unfold dq
  rw [Cq]
  simp only [no,A5,ih]
theorem OR {tab:D}{c0 cl:Str}(h:Dh 0 tab=true):∀ i,Dh 0 (dq tab c0 cl i)=true
 | 0=>h
 | i+1=>by
  have:∀ n,EJ 0 (List.replicate n (D.tup [.str "like",.str c0,.str cl]))=true:=λn=>by
   induction n with
   | zero=>rfl
   | succ n ih=>rw [List.replicate_succ,EJ,ih];rfl
  rw [dq,OF]
  simp only [Dh,EJ,OR h i,this,A4]
theorem Sy {cs:List Str}{c0 cl:Str}{cr:List Str}(hc:cs=c0::cr)(hl:cs.getLast? = some cl){tab ns d1 d2 d3:D}{x4 x5 x7 x8 x9:Option D}{m0:Sto} :
  ∃ y4,FV none m0 (gNm 4) N8 (E3 0 7) [some ns,some d1,some d2,some d3,x4,x5,some (csD cs),x7,x8,x9,some tab] mu=some ((.nx,[some ns,some d1,some d2,some d3,y4,x5,some (csD cs),x7,x8,x9,some (dq tab c0 cl 7)]),mu):=by
 obtain ⟨ro',mu',e,⟨y4,rfl⟩,rfl⟩:=GN (m0:=m0) (tg:=gNm 4) (body:=N8) (λi ro m=>(∃ y4,ro=[some ns,some d1,some d2,some d3,y4,x5,some (csD cs),x7,x8,x9,some (dq tab c0 cl i)])∧m=mu) (E3 0 7) 0 _ mu ⟨⟨x4,rfl⟩,rfl⟩ λj d ro m ed ⟨⟨y4,er⟩,em⟩=>by
   subst er
   subst em
   obtain ⟨rfl,hj⟩:=Lh ed
   have i0:ixG (csD cs) (.int 0) m=some (.str c0,m):=by
    unfold csD
    rw [hc]
    exact M0
   have i1:ixG (csD cs) (.int (-1)) m=some (.str cl,m):=by
    unfold csD
    refine Ub ?_
    rw [List.getLast?_map,hl]
    rfl
   have md:GB (.int (j:Int)) (.int 4) m=some (.int ((j:Int) % 4),m):=Jp (by decide)
   have ml:=Xi (mu:=m) (x:=.tup [.str "like",.str c0,.str cl]) (n:=1+(j:Int) % 4) (by omega) (by omega)
   have en:(1+(j:Int) % 4).toNat=1+j % 4:=by omega
   rw [en] at ml
   refine ⟨_,m,[some ns,some d1,some d2,some d3,some (.int j),x5,some (csD cs),x7,x8,x9,some (dq tab c0 cl (0+j+1))],m,rfl,?_,⟨_,rfl⟩,rfl⟩
   rw [Nat.zero_add]
   unfold N8
   simp_arith only [i0,XW,i1,md,ml,dq]
 exact ⟨y4,e⟩
noncomputable def MV:Sx:=(Cv (CZ (Dz (Cb (eC (.str "of")) (Cb (Ck ixG (Ck ixG (Cd 3) (eC (.int 0))) (eC (.int 0))) Cg))) (gNm 7)) (Cv (CZ (Ci (CD 10) (Cb (Cd 3) (Cb (Cd 7) Cg))) (gNm 6)) (Cv (CZ (Ci Ei (Cb (Cd 6) (Cb (Cd 7) Cg))) (gNm 8)) (Cv (sIf (tO (tV (Ck Jq (Ci CV (Cb (Cd 3) (Cb (Cd 8) Cg))) (eC (.bl true)))) (tV (Ck neD (Ci DZ (Cb (Cd 3) (Cb (Cd 8) Cg))) (Ck Dc (eSl (Cd 6) (Fw (eC (.int 1))) (pNo)) (eSl (Cd 6) (pNo) (Fw (eC (.int 1)))))))) (sRt (eC (.bl false))) (sNx)) (Cv (CZ (GF (Cb (Dz (Cb (eC (.str "join")) (Cb (Cd 7) (Cb (Cd 8) Cg)))) (Cb (Dz (Cb (eC (.str "union")) (Cb (Cd 7) (Cb (Dz (Cb (eC (.str "columns")) (Cb (Cd 8) (Cb (Cd 6) Cg)))) Cg)))) Cg))) (gNm 9)) (Cv (sEx (LK (Cd 9) (Cb (Dz (Cb (eC (.str "columns")) (Cb (Cd 7) (Cb (e1 O4 (Cd 6)) Cg)))) Cg))) (Cv (sIf (tNt (tV (Ci JD (Cb (eLC (Fh (Cd 9)) 1 [3] (gNm 0) (tY) (Ck isD (Ci CV (Cb (Cd 1) (Cb (Cd 0) Cg))) (eC (.bl true)))) Cg)))) (sRt (eC (.bl false))) (sNx)) (Cv (CZ (Cd 7) (gNm 10)) (Cv (JA (iRg (Cb (eC (.int 7)) Cg)) (gNm 4) N8) (sIf (tO (tV (Ck Jq (Ci CV (Cb (Cd 3) (Cb (Cd 10) Cg))) (eC (.bl true)))) (tV (Ck Jq (Ci CV (Cb (Cd 3) (Cb (Dz (Cb (eC (.str "called")) (Cb (Cd 10) (Cb (Dz (Cb (Dz (Cb (Ck ixG (Cd 6) (eC (.int 0))) (Cb (eC (.str "k0")) Cg))) Cg)) Cg)))) Cg))) (eC (.bl false))))) (sRt (eC (.bl false))) (sNx)))))))))))
noncomputable def QG:Sx:=(Cv (CZ (Ci E1 (Cb (Cd 0) (Cb (Cd 1) Cg))) (gNm 2)) (Cv (CZ (Ci Ee (Cb (Cd 2) (Cb (eC (.int 4)) (Cb (eC (.int 4)) (Cb (eC (.int 4)) Cg))))) (gNm 3)) (Cv (JA (iRg (Cb (eC (.int 6)) Cg)) (gNm 4) Mt) MV)))
theorem Lb {kn:Kn}{n:Nat}{a b:D}{one:List Str}{w:Str}(e:Cq kn n a=some one)(h1:¬ w∈(["join","union","gap"]:List Str))(h2:¬ w="of"):Cq kn (n+1) (.tup [.str w,a,b])=FJ one w b:=by
 rw [Cq]
 simp only [h1,h2,A5,e]
theorem NJ {kn:Kn}{n:Nat}{a b:D}{one other:List Str}{w:Str}(e:Cq kn n a=some one)(e':Cq kn n b=some other)(h1:w∈(["join","union","gap"]:List Str))(h2:¬ w="of"):Cq kn (n+1) (.tup [.str w,a,b])=Ke one w other:=by
 rw [Cq]
 simp only [h1,h2,A5,if_true,e,e']
theorem OJ {one ss:List Str}(hs:IW ss)(l:ss.length≤one.length)(hi:∀ x∈ss,x∈one):FJ one "columns" (csD ss)=some ss:=by
 have nr:¬ (Str.ofString "columns"=Str.ofString "rows"):=by decide +kernel
 have st:Ob (csD ss)=ss:=by simp [Ob,csD,PV.strs_map]
 unfold FJ
 rw [if_neg nr,if_pos rfl,st,if_pos]
 rw [Ab]
 exact ⟨WM hs.ne (by omega) hs.nd hs.w,Aq.mpr λx hx=>by simpa using hi x hx⟩
theorem PL {cs:List Str}(h:IW cs):FJ cs "called" (.tup ((cs.zip (trn cs)).map prD))=some (trn cs):=by
 have nr:¬ (Str.ofString "called"=Str.ofString "rows"):=by decide +kernel
 have nc:¬ (Str.ofString "called"=Str.ofString "columns"):=by decide +kernel
 have p:=U3 h (UI h).w (KG cs)
 obtain ⟨ps,e1,e2,_⟩:=IE p
 have e3:ps=cs.zip (trn cs):=by
  rw [← e2]
  exact NR _
 unfold FJ
 rw [if_neg nr,if_neg nc,if_pos rfl,if_pos p,e2,e3,Qo h.nd (KG cs),if_pos (UI h).nd]
theorem Sv {t:Tb}{r:List Tb}(H:SK (t::r)){ns d1:D}{k:Nat}{x4 x5 x6 x7 x8 x9 x10:Option D}(hf:Flat mu) :
  ∃ y4 y6 y7 y8 y9 y10 m',MV [some ns,some d1,some (.ref k),some (scD (t::r)),x4,x5,x6,x7,x8,x9,x10] mu=some ((.nx,[some ns,some d1,some (.ref k),some (scD (t::r)),y4,x5,y6,y7,y8,y9,y10]),m')∧Flat m':=by
 have nw:IsW t.nm:=(Qp H (t.nm,tcs t) (.head _)).1
 have h1:Cq (D2 (t::r)) 1 (.tup [.str "of",.str t.nm])=some (tcs t):=by
  rw [Cq]
  unfold ofC
  have w:CJ (.str t.nm)=true:=CP.mpr nw
  rw [w]
  simp only [decide_true,A4,if_true]
  show ES ((t.nm,tcs t)::_) t.nm=_
  simp [ES]
 have ok:=JC (Tj H) _ _ _ h1
 have ln:=ED (Ie H) _ _ _ h1
 generalize hcs:tcs t=cs at h1 ok ln
 obtain ⟨c0,cr,hc⟩:∃ c0 cr,cs=c0::cr:=by
  cases cs with
  | nil=>exact absurd rfl ok.ne
  | cons c0 cr=>exact ⟨c0,cr,rfl⟩
 obtain ⟨cl,hl⟩:∃ cl,cs.getLast? = some cl:=by
  rw [hc]
  exact ⟨_,List.getLast?_eq_some_getLast (by simp)⟩
 have m0:c0∈cs:=by rw [hc];exact .head _
 have ml:cl∈cs:=List.mem_of_getLast? hl
 have sc:scD (t::r)=.tup (.tup [.str t.nm,.tup (t.cs.map clD),.int t.ks]::r.map tbD):=rfl
 have lt:Dh 0 (.tup [.str "of",.str t.nm])=true:=rfl
 have lcs:∀ ss:List Str,Dh 0 (csD ss)=true:=λss=>by simp only [csD,Dh];exact Gb (KD ss)
 have lpr:∀ ps:List (Str×Str),EJ 0 (ps.map prD)=true:=λps=>by
  induction ps with
  | nil=>rfl
  | cons p ps ih=>rw [AL,EJ,ih];rfl
 generalize htab:(D.tup [.str "of",.str t.nm])=tab at h1 lt
 have lc:∀ m,CD 10 [scD (t::r),tab] m=some (csD cs,m):=λm=>Gk H 10 (by omega) (by omega) h1
 have tr:∀ m,Ei [csD cs,tab] m=_:=λm=>O6 (mu:=m) (d:=tab) (cs:=cs) (by omega) ok.ne
 have h2:Cq (D2 (t::r)) 2 (.tup [.str "called",tab,.tup ((cs.zip (trn cs)).map prD)])=some (trn cs):=by
  rw [Lb h1 (by decide +kernel) (by decide +kernel),PL ok]
 have ltr:Dh 0 (.tup [.str "called",tab,.tup ((cs.zip (trn cs)).map prD)])=true:=by simp only [Dh,EJ,lt,lpr,A4]
 generalize htrd:(D.tup [.str "called",tab,.tup ((cs.zip (trn cs)).map prD)])=trd at h2 ltr tr
 have co:=Lq (mu:=mu) H hf (by decide) h2
 have il:∀ d cs n m,n≤8->Cq (D2 (t::r)) n d=some cs->Dh 0 d=true->CV [scD (t::r),d] m=some (.bl true,m):=λd cs n m hn h hd=>by
  rw [Nx H d hd,GP h hn]
  rfl
 have i1:=λm=>il trd _ 2 m (by decide) h2 ltr
 have ec1:PV.cutD (cs.map D.str) none (some 1)=(cs.take 1).map D.str:=by
  have:=Lo (xs:=cs.map D.str) (j:=1) (by rw [Ag,hc];simp)
  rw [List.map_take]
  exact this
 have e2:Dc (.tup ((cs.map D.str).drop 1)) (.tup ((cs.take 1).map D.str)) mu=some (csD (trn cs),mu):=by
  rw [Uy (by rw [BJ,Ag,Ag,Bc,AO];omega)]
  unfold csD trn
  rw [AV,List.map_drop]
 have ne:=Zq (mu:=mu) (M4 (trn cs)).1 (AA (M4 (trn cs)).2 (by decide))
 have rv:∀ m,O4 (csD cs) m=some (csD cs.reverse,m):=λm=>by
  unfold csD
  rw [Aai,List.map_reverse]
 have tm:=K7 cs
 have j1:Cq (D2 (t::r)) 3 (.tup [.str "join",tab,trd])=some (IV cs (trn cs)):=by
  rw [NJ (GP h1 (by decide)) h2 (by decide +kernel) (by decide +kernel)]
  rfl
 have j2:Cq (D2 (t::r)) 4 (.tup [.str "union",tab,.tup [.str "columns",trd,csD cs]])=some cs:=by
  have:Cq (D2 (t::r)) 3 (.tup [.str "columns",trd,csD cs])=some cs:=by
   rw [Lb h2 (by decide +kernel) (by decide +kernel),OJ ok (by rw [← KG];exact Ah _) λx hx=>tm.mem_iff.mpr hx]
  rw [NJ (GP h1 (by decide)) this (by decide +kernel) (by decide +kernel)]
  unfold Ke
  rw [if_neg (by decide +kernel),if_pos rfl]
 have j3:Cq (D2 (t::r)) 2 (.tup [.str "columns",tab,csD cs.reverse])=some cs.reverse:=by
  rw [Lb h1 (by decide +kernel) (by decide +kernel),OJ ⟨λx hx=>ok.w x (List.mem_reverse.mp hx),by simpa using ok.ne,(List.reverse_perm cs).nodup_iff.mpr ok.nd⟩ (by simp) λx hx=>List.mem_reverse.mp hx]
 have l1:Dh 0 (.tup [.str "join",tab,trd])=true:=by simp only [Dh,EJ,lt,ltr,A4]
 have l2:Dh 0 (.tup [.str "union",tab,.tup [.str "columns",trd,csD cs]])=true:=by simp only [Dh,EJ,lt,ltr,lcs,A4]
 have l3:Dh 0 (.tup [.str "columns",tab,csD cs.reverse])=true:=by simp only [Dh,EJ,lt,lcs,A4]
 generalize hm4:mu++[MO.lst [.tup [.str "join",tab,trd],.tup [.str "union",tab,.tup [.str "columns",trd,csD cs]]]]=m4
 have g4:m4[mu.length]? = some (.lst [.tup [.str "join",tab,trd],.tup [.str "union",tab,.tup [.str "columns",trd,csD cs]]]):=by rw [← hm4];simp
 have ap:=append_at (mu:=m4) (mu':=m4) (r:=mu.length) (y:=.tup [.str "columns",tab,csD cs.reverse]) g4 g4 (by rw [AO];exact (show (2:Nat)<16777216 by decide)) (ro:=[some ns,some d1,some (.ref k),some (scD (t::r)),x4,x5,some (csD cs),some tab,some trd,some (.ref mu.length),x10]) (i:=9) (e:=(Dz (Cb (eC (.str "columns")) (Cb (Cd 7) (Cb (e1 O4 (Cd 6)) Cg))))) rfl (by simp_arith only [rv])
 have g5:=Ha (o':=.lst ([.tup [.str "join",tab,trd],.tup [.str "union",tab,.tup [.str "columns",trd,csD cs]]]++[.tup [.str "columns",tab,csD cs.reverse]])) g4
 have fl5:Flat (m4.set mu.length (.lst ([.tup [.str "join",tab,trd],.tup [.str "union",tab,.tup [.str "columns",trd,csD cs]]]++[.tup [.str "columns",tab,csD cs.reverse]]))):=by
  intro j o ho
  by_cases c:j=mu.length
  ·subst c
   rw [g5] at ho
   cases ho
   simp only [List.cons_append,List.nil_append,Ni,EJ,l1,l2,l3,A4]
  ·rw [AG (Ne.symm c),← hm4] at ho
   have:j<(mu++[MO.lst [.tup [.str "join",tab,trd],.tup [.str "union",tab,.tup [.str "columns",trd,csD cs]]]]).length:=(Af.mp ho).1
   simp at this
   rw [Ax (by omega)] at ho
   exact hf j o ho
 generalize hm5:m4.set mu.length (.lst ([.tup [.str "join",tab,trd],.tup [.str "union",tab,.tup [.str "columns",trd,csD cs]]]++[.tup [.str "columns",tab,csD cs.reverse]]))=m5 at ap g5 fl5
 have wk:Kp m5 (.ref mu.length)=some (([.tup [.str "join",tab,trd],.tup [.str "union",tab,.tup [.str "columns",trd,csD cs]],.tup [.str "columns",tab,csD cs.reverse]],some mu.length),m5):=by
  simp only [Kp,g5]
  rfl
 have al:=UM (r:=mu.length) (tg:=gNm 0) (el:=(Ck isD (Ci CV (Cb (Cd 1) (Cb (Cd 0) Cg))) (eC (.bl true)))) (ro:=[none,some (scD (t::r))]) (mu:=m5) (λ_=>true) [.tup [.str "join",tab,trd],.tup [.str "union",tab,.tup [.str "columns",trd,csD cs]],.tup [.str "columns",tab,csD cs.reverse]] (λd hd=>by
  refine ⟨_,rfl,?_⟩
  simp only [Am,AQ,BB] at hd
  rcases hd with rfl|rfl|rfl
  ·simp_arith only [il _ _ 3 m5 (by decide) j1 l1]
  ·simp_arith only [il _ _ 4 m5 (by decide) j2 l2]
  ·simp_arith only [il _ _ 2 m5 (by decide) j3 l3])
 have af:JD [.lst [.bl true,.bl true,.bl true]] m5=some (.bl true,m5):=rfl
 obtain ⟨y4,dr⟩:=Sy (mu:=m5) (m0:=m5) hc hl (tab:=tab) (ns:=ns) (d1:=d1) (d2:=.ref k) (d3:=scD (t::r)) (x4:=x4) (x5:=x5) (x7:=some tab) (x8:=some trd) (x9:=some (.ref mu.length))
 have d7:=Ql h1 ok m0 ml 7
 have il7:=il _ _ 8 m5 (by decide) d7 (OR lt 7)
 have no7:CV [scD (t::r),.tup [.str "called",dq tab c0 cl 7,.tup [.tup [.str c0,.str "k0"]]]] m5=some (.bl false,m5):=by
  rw [Nx H _ (by simp only [Dh,EJ,OR lt 7,A4])]
  have:Cq (D2 (t::r)) 8 (.tup [.str "called",dq tab c0 cl 7,.tup [.tup [.str c0,.str "k0"]]])=none:=by
   have no:¬ (Str.ofString "called"=Str.ofString "of"):=by decide +kernel
   rw [Cq]
   simp only [no,A5,Wv 7 7 (Ah _)]
  rw [this]
  rfl
 have ix0:ixG (csD cs) (.int 0) m5=some (.str c0,m5):=by
  unfold csD
  rw [hc]
  exact M0
 have rg7:∀ (ro:Ro) (m:Sto),iRg (Cb (eC (.int 7)) Cg) ro m=some ((E3 0 7,none),m):=λro m=>PX (n:=7) rfl (by decide) (by rw [AO];decide)
 refine ⟨y4,some (csD cs),some tab,some trd,some (.ref mu.length),some (dq tab c0 cl 7),m5,?_,fl5⟩
 have sl1:slD (csD cs) (some 1) none mu=some (.tup ((cs.map D.str).drop 1),mu):=by unfold csD;rw [Uu,Ur]
 have sl2:slD (csD cs) none (some 1) mu=some (.tup ((cs.take 1).map D.str),mu):=by unfold csD;rw [Uu,ec1]
 have ix1:ixG (scD (t::r)) (.int 0) mu=some (.tup [.str t.nm,.tup (t.cs.map clD),.int t.ks],mu):=by rw [sc];exact M0
 unfold MV
 simp_arith only [ix1,htab,lc,tr,i1,co,sl1,sl2,e2,ne,hm4,ap,wk,al,af,rg7,dr,il7,ix0,no7]
theorem Xx {i:Nat}{ns:List Int}{x2 x3 x4 x5 x6 x7 x8 x9 x10:Option D}(hi:i<64)(hfl:Flat mu) :
  ∃ y2 y3 y4 y5 y6 y7 y8 y9 y10 m',QG [some (.lst (ns.map D.int)),some (.int i),x2,x3,x4,x5,x6,x7,x8,x9,x10] mu=some ((.nx,[some (.lst (ns.map D.int)),some (.int i),y2,y3,y4,y5,y6,y7,y8,y9,y10]),m')∧Flat m':=by
 obtain ⟨o,e1,h1⟩:=Uz (mu:=mu) (k:=i) (n:=41000) (ns:=ns) hi (by decide)
 have fl1:Flat (mu++[o]):=by
  intro j q hq
  by_cases c:j=mu.length
  ·subst c
   obtain ⟨_,_,_,h,_⟩:=h1
   rw [h] at hq
   cases hq
   rfl
  ·have:j<(mu++[o]).length:=(Af.mp hq).1
   simp at this
   rw [Ax (by omega)] at hq
   exact hfl j q hq
 obtain ⟨_,m2,e2,f2,ds,rfl,sb,ok,st,s5,sa⟩:=Pz (n:=40900) (a:=4) (b:=4) (c:=4) (by decide) (by decide) (by decide) (by decide) (by decide) (by decide) fl1 (h1.mono (by decide))
 obtain ⟨ts,et,K⟩:=UD sb
 have ed:ds=ts.map tbD:=by unfold scD at et;injection et
 subst ed
 have S:Sch ts:=⟨K,st,s5,SU sa⟩
 have e2':Ee [.ref mu.length,.int 4,.int 4,.int 4] (mu++[o])=some (scD ts,m2):=e2
 obtain ⟨y4,y5,y6,m3,e3,f3⟩:=QS (mu:=m2) S (n:=100) (ns:=.lst (ns.map D.int)) (d1:=.int i) (x4:=x4) (x5:=x5) (x6:=x6) (x7:=x7) (x8:=x8) (x9:=x9) (x10:=x10) (f2.flat fl1) (f2.hand.mono (by decide)) (m0:=m2)
 obtain ⟨t,r,rfl⟩:∃ t r,ts=t::r:=by
  cases ts with
  | nil=>have:=K.l1;simp at this
  | cons t r=>exact ⟨t,r,rfl⟩
 obtain ⟨z4,z6,z7,z8,z9,z10,m4,e4,f4⟩:=Sv (mu:=m3) K (ns:=.lst (ns.map D.int)) (d1:=.int i) (k:=mu.length) (x4:=y4) (x5:=y5) (x6:=y6) (x7:=x7) (x8:=x8) (x9:=x9) (x10:=x10) (f3.flat (f2.flat fl1))
 have rg1:∀ (ro:Ro) (m:Sto),iRg (Cb (eC (.int 6)) Cg) ro m=some ((E3 0 6,none),m):=λro m=>PX (n:=6) rfl (by decide) (by rw [AO];decide)
 refine ⟨some (.ref mu.length),some (scD (t::r)),z4,y5,z6,z7,z8,z9,z10,m4,?_,f4⟩
 unfold QG
 simp_arith only [e1,e2',rg1,e3,e4]
theorem Vk (ns:List Int):∃ mu',Mh [.lst (ns.map .int)] []=some (.bl true,mu'):=by
 obtain ⟨N,hN,h2,h5⟩:∃ N:Nat,(if (if (ns.length:Int)<6 then (ns.length:Int) else 6) > 2 then (if (ns.length:Int)<6 then (ns.length:Int) else 6) else 2)=(N:Int)∧2≤N∧N≤6:=by
  refine ⟨(if (if (ns.length:Int)<6 then (ns.length:Int) else 6) > 2 then (if (ns.length:Int)<6 then (ns.length:Int) else 6) else 2).toNat,?_,?_,?_⟩<;>split<;>split<;>omega
 obtain ⟨ro',mu',e,_⟩:=GN (m0:=[]) (tg:=gNm 1) (body:=QG) (λi ro m=>(∃ y1 y2 y3 y4 y5 y6 y7 y8 y9 y10,ro=[some (.lst (ns.map D.int)),y1,y2,y3,y4,y5,y6,y7,y8,y9,y10])∧Flat m) (E3 0 N) 0 [some (.lst (ns.map D.int)),none,none,none,none,none,none,none,none,none,none] [] ⟨⟨_,_,_,_,_,_,_,_,_,_,rfl⟩,λj o h=>by simp at h⟩ λj d ro m ed ⟨⟨y1,y2,y3,y4,y5,y6,y7,y8,y9,y10,er⟩,fl⟩=>by
   subst er
   obtain ⟨rfl,hj⟩:=Lh ed
   obtain ⟨z2,z3,z4,z5,z6,z7,z8,z9,z10,m',e,fl'⟩:=Xx (mu:=m) (i:=j) (ns:=ns) (x2:=y2) (x3:=y3) (x4:=y4) (x5:=y5) (x6:=y6) (x7:=y7) (x8:=y8) (x9:=y9) (x10:=y10) (by omega) fl
   exact ⟨_,m,_,m',rfl,e,⟨_,_,_,_,_,_,_,_,_,_,rfl⟩,fl'⟩
 refine ⟨mu',?_⟩
 have mn:Oq [.int 6,.int (ns.length:Int)] []=some (.int (if (ns.length:Int)<6 then (ns.length:Int) else 6),[]):=rfl
 have mx:Ti [.int 2,.int (if (ns.length:Int)<6 then (ns.length:Int) else 6)] []=some (.int N,[]):=by
  rw [← hN]
  rfl
 have rg:=PX (mu:=[]) (ro:=[some (.lst (ns.map D.int)),none,none,none,none,none,none,none,none,none,none]) (r:=(Cb (Ci Ti (Cb (eC (.int 2)) (Cb (Ci Oq (Cb (eC (.int 6)) (Cb (Ci FN (Cb (Cd 0) Cg)) Cg))) Cg))) Cg)) (n:=N) (m:=[]) (by simp_arith only [Ag,mn,mx]) (by omega) (by rw [AO];omega)
 rw [Int.toNat_natCast] at rg
 unfold QG MV Mt N8 at e
 simp_arith only [Mh,SH,rg,e]
end PG
namespace PG
open PySem L2 PV PyProof.Rows
noncomputable def FH (K:PySem.W.Frag)(x:Str)(st:Stmt):Prop:=∃ (f:Addr) (oc kV dc pm cd ct:Value) (od an:Option Addr) (sl:Array (Option Value)),PySem.W.nsIn K mainGlobals x=some (some (.ref f))∧K.lookup f=some ⟨oc,od,.func (PySem.W.fnOf x x (HE st) (EG st) (Cn st) .none kV dc pm an cd ct),sl⟩∧PySem.W.codeIn K cd x=true∧PySem.W.keepIn K (.ref f)=true
theorem fh {K:PySem.W.Frag}{x:Str}{st:Stmt}{f:Addr}{oc kV dc pm cd ct:Value}{od an:Option Addr}{sl:Array (Option Value)}(a:PySem.W.nsIn K mainGlobals x=some (some (.ref f)))(l:K.lookup f=some ⟨oc,od,.func (PySem.W.fnOf x x (HE st) (EG st) (Cn st) .none kV dc pm an cd ct),sl⟩)(c:PySem.W.codeIn K cd x=true)(k:PySem.W.keepIn K (.ref f)=true):FH K x st:=⟨f,oc,kV,dc,pm,cd,ct,od,an,sl,a,l,c,k⟩
theorem FH.go {K:PySem.W.Frag}{x:Str}{st:Stmt}{h:Heap}{mg:Str->Option Value}(H:FH K x st)(X:K.In h)(G:h.Ns mainGlobals mg):∃ f fd,Fun K x x st f fd∧mg x=some (.ref f):=by
 obtain ⟨_,_,_,_,_,_,_,_,_,_,a,l,c,k⟩:=H
 exact ⟨_,_,So l c k,PySem.W.mg_of X G a⟩
set_option maxHeartbeats 0 in
theorem all_mk {l:PySem.W.OpenLaw}{w:World}{K:PySem.W.Frag}{h:Heap}{mg:Str->Option Value}{fa:Addr}(X:K.In h)(G:h.Ns mainGlobals mg)(hfa:mg "law"=some (.ref fa)){t1 t2 t3 t4:Tok}{p1:Addr}{pn1:Nat}{ps1:Array (Option Value)}{pt1_0 pt1_1 pt1_2:Tok}
  (h1:FH K "is_word" G4) (h2:FH K "is_tuple" Hc) (h3:FH K "is_tuple_of_words" DF) (h4:FH K "are_unlike" Gi) (h5:FH K "are_words" GG) (h6:FH K "found_again" FQ) (h7:FH K "are_within" Fx) (h8:FH K "is_pair" IF) (h9:FH K "are_pairs" Fb) (h10:FH K "called_columns" Eb) (h11:FH K "is_test" Hb) (h12:FH K "are_tests" F0) (h13:FH K "columns_if_single" D7) (h14:FH K "joined_columns" Ed) (h15:FH K "columns_if_paired" D5) (h16:FH K "is_named" HF) (h17:FH K "columns_if_look" Er) (h18:FH K "columns_by_name" D0) (h19:FH K "is_look" IC) (h20:FH K "columns_of_join" Dq) (h21:FH K "columns_by" F9) (h22:FH K "columns_of" Gf) (h23:FH K "_law_hand" Hj) (h24:FH K "_law_take" Ht) (h25:FH K "_law_pick" Hq) (h26:FH K "_law_words" FW) (h27:FH K "_law_schema" Fs) (h28:FH K "_law_columns" D4) (h29:FH K "_law_stock" GI) (h30:FH K "_law_test" HC) (h31:FH K "_law_big" Iu) (h32:FH K "_law_look" E7) (h33:FH K "_law_turned" Ge) (h34:FH K "law" Kk)
  (z1:PySem.W.nsIn K mainGlobals "all"=some none) (z2:PySem.W.nsIn K mainGlobals "dict"=some none) (z3:PySem.W.nsIn K mainGlobals "int"=some none) (z4:PySem.W.nsIn K mainGlobals "isinstance"=some none) (z5:PySem.W.nsIn K mainGlobals "len"=some none) (z6:PySem.W.nsIn K mainGlobals "list"=some none) (z7:PySem.W.nsIn K mainGlobals "max"=some none) (z8:PySem.W.nsIn K mainGlobals "min"=some none) (z9:PySem.W.nsIn K mainGlobals "range"=some none) (z10:PySem.W.nsIn K mainGlobals "repr"=some none) (z11:PySem.W.nsIn K mainGlobals "set"=some none) (z12:PySem.W.nsIn K mainGlobals "sorted"=some none) (z13:PySem.W.nsIn K mainGlobals "str"=some none) (z14:PySem.W.nsIn K mainGlobals "tuple"=some none) (z15:PySem.W.nsIn K mainGlobals "zip"=some none)
  (g1:PySem.W.nsIn K mainGlobals "DEEPEST"=some (some (.int 8 t1))) (g2:PySem.W.nsIn K mainGlobals "LONGEST"=some (some (.int 8 t2))) (g3:PySem.W.nsIn K mainGlobals "MOST_TESTS"=some (some (.int 4 t3))) (g4:PySem.W.nsIn K mainGlobals "SIGNS"=some (some (.str "abcdefghijklmnopqrstuvwxyz0123456789" t4))) (q1:PySem.W.nsIn K mainGlobals "PAIRED"=some (some (.ref p1))) (m1:K.lookup p1=some ⟨.type "tuple",none,.seq #[.str "join" pt1_0,.str "union" pt1_1,.str "gap" pt1_2] pn1,ps1⟩) :
  ∃ fd:FuncData,(∀ (s:Shared) (v:Value),BindsTo s fd ⟨[v],[]⟩ [("_law_script",v)])∧∀ base:Heap,K.In base->base.Ns mainGlobals mg->DS l.prog w K mg base CX0 24 fa fd ["_law_script"] (spF ⟨K,l.prog,w⟩ Mh 1):=by
 have T:Tx K mg:=⟨A0 X G z1,A0 X G z2,A0 X G z3,A0 X G z4,A0 X G z5,A0 X G z6,A0 X G z7,A0 X G z8,A0 X G z9,A0 X G z10,A0 X G z11,A0 X G z12,A0 X G z13,A0 X G z14,A0 X G z15,⟨t1,PySem.W.mg_of X G g1⟩,⟨t2,PySem.W.mg_of X G g2⟩,⟨t3,PySem.W.mg_of X G g3⟩,⟨p1,_,_,_,PySem.W.mg_of X G q1,m1,rfl,rfl,rfl,(show (3:Nat)≤sizeLine by rw [AO];decide),.cons ⟨pt1_0,rfl⟩ (.cons ⟨pt1_1,rfl⟩ (.cons ⟨pt1_2,rfl⟩ (.nil)))⟩,⟨t4,PySem.W.mg_of X G g4⟩⟩
 obtain ⟨_,_,kV,dc,pm,cd,ct,_,an,_,a,lk,c,k⟩:=h34
 cases hfa.symm.trans (PySem.W.mg_of X G a)
 refine ⟨PySem.W.fnOf "law" "law" (HE Kk) (EG Kk) (Cn Kk) .none kV dc pm an cd ct,λs v=>.of_eq rfl,λbase _ _=>?_⟩
 obtain ⟨_,_,F,m⟩:=h1.go X G
 have C1:=CL (P:=l.prog) (w:=w) (base:=base) F m (Pw F T ) (F.binds λ_ _ _ _ _ _ us hl=>match us,hl with|[_],_=>rfl)
 obtain ⟨_,_,F,m⟩:=h2.go X G
 have C2:=CL (P:=l.prog) (w:=w) (base:=base) F m (N1 F T ) (F.binds λ_ _ _ _ _ _ us hl=>match us,hl with|[_,_,_],_=>rfl)
 obtain ⟨_,_,F,m⟩:=h3.go X G
 have C3:=CL (P:=l.prog) (w:=w) (base:=base) F m (Im F T C1) (F.binds λ_ _ _ _ _ _ us hl=>match us,hl with|[_],_=>rfl)
 obtain ⟨_,_,F,m⟩:=h4.go X G
 have C4:=CL (P:=l.prog) (w:=w) (base:=base) F m (LP F T ) (F.binds λ_ _ _ _ _ _ us hl=>match us,hl with|[_],_=>rfl)
 obtain ⟨_,_,F,m⟩:=h5.go X G
 have C5:=CL (P:=l.prog) (w:=w) (base:=base) F m (Nh F T C2 C3 C4) (F.binds λ_ _ _ _ _ _ us hl=>match us,hl with|[_,_,_],_=>rfl)
 obtain ⟨_,_,F,m⟩:=h6.go X G
 have C6:=CL (P:=l.prog) (w:=w) (base:=base) F m (K6 F T ) (F.binds λ_ _ _ _ _ _ us hl=>match us,hl with|[_,_],_=>rfl)
 obtain ⟨_,_,F,m⟩:=h7.go X G
 have C7:=CL (P:=l.prog) (w:=w) (base:=base) F m (LI F T ) (F.binds λ_ _ _ _ _ _ us hl=>match us,hl with|[_,_],_=>rfl)
 obtain ⟨_,_,F,m⟩:=h8.go X G
 have C8:=CL (P:=l.prog) (w:=w) (base:=base) F m (PH F T C2 C1) (F.binds λ_ _ _ _ _ _ us hl=>match us,hl with|[_],_=>rfl)
 obtain ⟨_,_,F,m⟩:=h9.go X G
 have C9:=CL (P:=l.prog) (w:=w) (base:=base) F m (M6 F T C2 C8 C4 C7) (F.binds λ_ _ _ _ _ _ us hl=>match us,hl with|[_,_],_=>rfl)
 obtain ⟨_,_,F,m⟩:=h10.go X G
 have C10:=CL (P:=l.prog) (w:=w) (base:=base) F m (Jx F T ) (F.binds λ_ _ _ _ _ _ us hl=>match us,hl with|[_,_],_=>rfl)
 obtain ⟨_,_,F,m⟩:=h11.go X G
 have C11:=CL (P:=l.prog) (w:=w) (base:=base) F m (Pm F T C2 C1 C7) (F.binds λ_ _ _ _ _ _ us hl=>match us,hl with|[_,_],_=>rfl)
 obtain ⟨_,_,F,m⟩:=h12.go X G
 have C12:=CL (P:=l.prog) (w:=w) (base:=base) F m (Ng F T C2 C11) (F.binds λ_ _ _ _ _ _ us hl=>match us,hl with|[_,_],_=>rfl)
 obtain ⟨_,_,F,m⟩:=h13.go X G
 have C13:=CL (P:=l.prog) (w:=w) (base:=base) F m (HW F T C12 C5 C7 C9 C10 C4) (F.binds λ_ _ _ _ _ _ us hl=>match us,hl with|[_,_,_],_=>rfl)
 obtain ⟨_,_,F,m⟩:=h14.go X G
 have C14:=CL (P:=l.prog) (w:=w) (base:=base) F m (JE F T ) (F.binds λ_ _ _ _ _ _ us hl=>match us,hl with|[_,_],_=>rfl)
 obtain ⟨_,_,F,m⟩:=h15.go X G
 have C15:=CL (P:=l.prog) (w:=w) (base:=base) F m (Ir F T C14) (F.binds λ_ _ _ _ _ _ us hl=>match us,hl with|[_,_,_],_=>rfl)
 obtain ⟨_,_,F,m⟩:=h16.go X G
 have C16:=CL (P:=l.prog) (w:=w) (base:=base) F m (Ov F T C1) (F.binds λ_ _ _ _ _ _ us hl=>match us,hl with|[_,_],_=>rfl)
 obtain ⟨_,_,F,m⟩:=h17.go X G
 have b:=F.binds (ps:=["known","thing","depth"]) λ_ _ _ _ _ _ us hl=>match us,hl with|[_,_,_],_=>rfl
 have C17:=CL (P:=l.prog) (w:=w) (base:=base) F m (Gs F m b T C2 C16 C13 C15 10) b
 obtain ⟨_,_,F,m⟩:=h18.go X G
 have C18:=CL (P:=l.prog) (w:=w) (base:=base) F m (Jl F T ) (F.binds λ_ _ _ _ _ _ us hl=>match us,hl with|[_],_=>rfl)
 obtain ⟨_,_,F,m⟩:=h19.go X G
 have C19:=CL (P:=l.prog) (w:=w) (base:=base) F m (O8 F T C17 C18) (F.binds λ_ _ _ _ _ _ us hl=>match us,hl with|[_,_],_=>rfl)
 obtain ⟨_,_,F,m⟩:=h21.go X G
 obtain ⟨_,_,F',m'⟩:=h20.go X G
 have b':=F'.binds (ps:=["known","seen","look"]) λ_ _ _ _ _ _ us hl=>match us,hl with|[_,_,_],_=>rfl
 have b:=F.binds (ps:=["known","seen","look"]) λ_ _ _ _ _ _ us hl=>match us,hl with|[_,_,_],_=>rfl
 have C21:=CL (P:=l.prog) (w:=w) (base:=base) F m (IS F m b F' m' b' T C10 C6 C14 10) b
 obtain ⟨_,_,F,m⟩:=h22.go X G
 have C22:=CL (P:=l.prog) (w:=w) (base:=base) F m (LM F T C21 C18) (F.binds λ_ _ _ _ _ _ us hl=>match us,hl with|[_,_],_=>rfl)
 obtain ⟨_,_,F,m⟩:=h23.go X G
 have C23:=CL (P:=l.prog) (w:=w) (base:=base) F m (N5 F T ) (F.binds λ_ _ _ _ _ _ us hl=>match us,hl with|[_,_],_=>rfl)
 obtain ⟨_,_,F,m⟩:=h24.go X G
 have C24:=CL (P:=l.prog) (w:=w) (base:=base) F m (Ow F T ) (F.binds λ_ _ _ _ _ _ us hl=>match us,hl with|[_,_],_=>rfl)
 obtain ⟨_,_,F,m⟩:=h25.go X G
 have C25:=CL (P:=l.prog) (w:=w) (base:=base) F m (OK F T C24) (F.binds λ_ _ _ _ _ _ us hl=>match us,hl with|[_,_],_=>rfl)
 obtain ⟨_,_,F,m⟩:=h26.go X G
 have C26:=CL (P:=l.prog) (w:=w) (base:=base) F m (NB F T C24 C25) (F.binds λ_ _ _ _ _ _ us hl=>match us,hl with|[_,_,_],_=>rfl)
 obtain ⟨_,_,F,m⟩:=h27.go X G
 have C27:=CL (P:=l.prog) (w:=w) (base:=base) F m (LD F T C26 C24) (F.binds λ_ _ _ _ _ _ us hl=>match us,hl with|[_,_,_,_],_=>rfl)
 obtain ⟨_,_,F,m⟩:=h28.go X G
 have b:=F.binds (ps:=["_law_schema_here","_law_look_here"]) λ_ _ _ _ _ _ us hl=>match us,hl with|[_,_],_=>rfl
 have C28:=CL (P:=l.prog) (w:=w) (base:=base) F m (Ik F m b T  10) b
 obtain ⟨_,_,F,m⟩:=h29.go X G
 have C29:=CL (P:=l.prog) (w:=w) (base:=base) F m (ML F T ) (F.binds λ_ _ _ _ _ _ us hl=>match us,hl with|[_],_=>rfl)
 obtain ⟨_,_,F,m⟩:=h30.go X G
 have C30:=CL (P:=l.prog) (w:=w) (base:=base) F m (NK F T C25) (F.binds λ_ _ _ _ _ _ us hl=>match us,hl with|[_,_,_],_=>rfl)
 obtain ⟨_,_,F,m⟩:=h31.go X G
 have b:=F.binds (ps:=["_law_look_here"]) λ_ _ _ _ _ _ us hl=>match us,hl with|[_],_=>rfl
 have C31:=CL (P:=l.prog) (w:=w) (base:=base) F m (Lz F m b T  10) b
 obtain ⟨_,_,F,m⟩:=h32.go X G
 have b:=F.binds (ps:=["_law_hand_here","_law_schema_here","_law_deep"]) λ_ _ _ _ _ _ us hl=>match us,hl with|[_,_,_],_=>rfl
 have C32:=CL (P:=l.prog) (w:=w) (base:=base) F m (Kh F m b T C24 C25 C28 C29 C30 C31 10) b
 obtain ⟨_,_,F,m⟩:=h33.go X G
 have C33:=CL (P:=l.prog) (w:=w) (base:=base) F m (LS F T ) (F.binds λ_ _ _ _ _ _ us hl=>match us,hl with|[_,_],_=>rfl)
 exact Y1 (So lk c k) T C23 C27 C32 C24 C28 C19 C22 C33
theorem NZ {K:Zc}{th:List Addr}{H:Hp}:∀ ns:List Int,RepL K th H (ns.map D.int) (ns.map V.int)
 | []=>.nil
 | i::ns=>.cons rfl (NZ ns)
theorem walk {l:PySem.W.OpenLaw}{q:Program}{loose:List Str}{XP:(Str->Option Value)->Heap->Prop}{YP:World->Heap->Prop}{d:DefRec}{K:Params->PySem.W.Frag}(hn:l.most=some 63)(hdf:d.params.defaults=[])
  (hY:∀ (w:World) (h:Heap),YP w h->(K w.params).In h)
  (F:∀ (w:World) (mg:Str->Option Value) (fa:Addr) (h:Heap),(K w.params).In h->h.Ns mainGlobals mg->mg d.name=some (.ref fa) ->
   ∃ fd:FuncData,(∀ (s:Shared) (u:Value),BindsTo s fd ⟨[u],[]⟩ [("_law_script",u)])∧∀ base:Heap,(K w.params).In base->base.Ns mainGlobals mg->DS l.prog w (K w.params) mg base CX0 24 fa fd ["_law_script"] (spF ⟨K w.params,l.prog,w⟩ Mh 1)) :
  PySem.W.WalkO q loose XP YP l.row.toRowW d [] (λf vs=>PySem.call f vs):=
 L2.Wo (n:=63) (k:=24) (x:="_law_script") (CX:=λ_=>CX0) (sp:=λw=>spF ⟨K w.params,l.prog,w⟩ Mh 1) hn (by decide) hdf ⟨rfl,by decide,by decide,rfl⟩ hY F (λw H a ns hl _ hS=>by
  obtain ⟨mu',e⟩:=Vk ns
  refine ⟨[],[],[.lst (ns.map D.int)],⟨rfl,List.nodup_nil,λk a o e=>by simp at e⟩,.cons ?_ .nil,rfl,.bl true,mu',e,λth' H' _ _ v rv=>rv⟩
  unfold Rep
  refine ⟨a,ns.map V.int,rfl,?_,NZ ns,by rw [Ag];exact AA hl (by decide)⟩
  rcases hS with hS|hS
  ·exact .inl ⟨by simp,hS⟩
  ·exact .inr hS) λ_ _ _ _ _ z=>z
end PG
local macro_rules|`({ scope:=$a,locals:=$b,globals:=$c,cells:=[],code:=$d,frame:=some $_ })=>`({ scope:=$a,locals:=$b,globals:=$c,cells:=[],code:=$d,frame:=none })
open PySem PySem.W PyProof.Rows
set_option maxRecDepth 100000 in
set_option maxHeartbeats 0 in
theorem PySem.Challenge.cw_lookback_k05_looks_let_holds : PySem.Challenge.rw_lookback_k05_looks_let.Holds := by
 w_on;o_law;k_head;(case hw=>w_witness2)
 k_fill
 refine PG.walk (l:=PySem.Challenge.rw_lookback_k05_looks_let) rfl rfl (λw h Y=>PySem.W.kIn_of Y) ?F
 case F =>
  intro w mg fa h KX G hmg
  refine' PG.all_mk KX G hmg ?h1 ?h2 ?h3 ?h4 ?h5 ?h6 ?h7 ?h8 ?h9 ?h10 ?h11 ?h12 ?h13 ?h14 ?h15 ?h16 ?h17 ?h18 ?h19 ?h20 ?h21 ?h22 ?h23 ?h24 ?h25 ?h26 ?h27 ?h28 ?h29 ?h30 ?h31 ?h32 ?h33 ?h34 ?z1 ?z2 ?z3 ?z4 ?z5 ?z6 ?z7 ?z8 ?z9 ?z10 ?z11 ?z12 ?z13 ?z14 ?z15 ?g1 ?g2 ?g3 ?g4 ?q1 ?m1
  case h1|h2|h3|h4|h5|h6|h7|h8|h9|h10|h11|h12|h13|h14|h15|h16|h17|h18|h19|h20|h21|h22|h23|h24|h25|h26|h27|h28|h29|h30|h31|h32|h33|h34=>(refine' PG.fh ?a ?l ?c ?k;(case a=>k_is);(case l=>k_is);(case c=>k_is);(case k=>k_is))
  (case z1=>k_is);(case z2=>k_is);(case z3=>k_is);(case z4=>k_is);(case z5=>k_is);(case z6=>k_is)
  (case z7=>k_is);(case z8=>k_is);(case z9=>k_is);(case z10=>k_is);(case z11=>k_is);(case z12=>k_is)
  (case z13=>k_is);(case z14=>k_is);(case z15=>k_is);(case g1=>k_is);(case g2=>k_is);(case g3=>k_is)
  (case g4=>k_is);(case q1=>k_is);(case m1=>k_is)
