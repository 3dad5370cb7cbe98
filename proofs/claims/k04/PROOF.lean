import PyProof.Rows.All
import Wide.All
import OpenK.AllK
import Wide.FinOn
import Lean
import PyProof.EqAt
import PyProof.EqKinds
import PyProof.TupleCall
import PySem.Challenge.RW_lookback_k04_fillings_or_not
set_option Elab.async false
set_option linter.all false
set_option compiler.extract_closed false
set_option maxRecDepth 100000
def Aa:=@PySem.wpAny_bind
def Ab:=@PySem.wpAny_pure
def Ac:=@Bool.and_eq_true
def Ad:=@PySem.Heap.get?_push_of_some
def Ae:=@List.getElem?_eq_some_iff
def Af:=@decide_eq_true_eq
def Ag:=@Nat.le_refl
def Ah:=@List.length_map
def Ai:=@PySem.Heap.get?_push_size
def Aj:=@List.mem_append_right
def Ak:=@List.getElem?_eq_getElem
def Al:=@PySem.Heap.lt_size
def Am:=@List.mem_of_getElem?
def An:=@List.mem_cons
def Ao:=@List.mem_singleton
def Ap:=@List.getElem?_map
def Aq:=@Array.getElem?_eq_getElem
def Ar:=@List.mem_map
def As:=@List.length_append
def Au:=@Nat.ne_of_lt
def Av:=@List.size_toArray
def Aw:=@List.all_eq_true
def Ax:=@Array.getElem?_toList
def Ay:=@List.getElem?_append_left
def Az:=@Bool.false_eq_true
def AA:=@PySem.Heap.SameBut.update
def AB:=@Option.some.inj
def AD:=@Nat.lt_of_lt_of_le
def AE:=@Bool.false_ne_true
def AF:=@List.nodup_iff_pairwise_ne
def AG:=@List.length_take
def AH:=@List.mem_append
def AI:=@PySem.wpAny_holding
def AJ:=@Nat.le_trans
def AK:=@List.getD_eq_getElem?_getD
def AL:=@PySem.wpAny_call_entry
def AM:=@List.getElem?_set_ne
def AN:=@PySem.Heap.get?_update_self
def AO:=@List.mem_iff_getElem?
def AQ:=@PySem.wpAny_callSpecial?_slot
def AR:=@PySem.wpAny_newObj_type
def AS:=@PySem.sizeLine_eq
def AU:=@List.getElem?_append_right
def AV:=@Nat.lt_succ_self
def AW:=@Nat.zero_le
def AX:=@List.mem_append_left
def AY:=@PyProof.Rows.slot_tuple_getitem
def AZ:=@PySem.W.mg_none_of
def A0:=@Nat.lt_succ_of_lt
def A1:=@List.map_cons
def A3:=@List.mem_range
def A4:=@List.not_mem_nil
def A5:=@PySem.Around.under_plainId
def A6:=@Nat.lt_irrefl
def A7:=@if_false
def A8:=@List.pairwise_map
def A9:=@decide_eq_false
def Ba:=@PySem.Heap.size_push
def Bb:=@PySem.wpAny_setState_of
def Bc:=@PySem.codeAny_builtin
def Bd:=@List.map_append
def Be:=@PyProof.Rows.F.plain_set_update_loop
def Bf:=@Array.getD_eq_getD_getElem?
def Bg:=@List.getElem?_take_of_lt
def Bh:=@PySem.W.kia_one
def Bi:=@PySem.wpAny_setField
def Bj:=@Array.getElem?_eq_none
def Bk:=@Int.emod_lt_of_pos
def Bl:=@PySem.wpAny_field
def Bm:=@List.nodup_cons
def Bn:=@PySem.PassesOwn.never
def Bo:=@PySem.wpAny_rule
def Bp:=@PySem.wpAny_seqItems
def Bq:=@PySem.F.slot_dict_valueiterator_next
def Br:=@List.length_range
def Bs:=@List.ext_getElem?
def Bt:=@PySem.Heap.get?_update_other
def Bu:=@List.map_map
def Bv:=@Nat.lt_or_ge
def Bw:=@List.of_mem_zip
def Bx:=@PySem.wpAny_dictEpoch
def By:=@Int.emod_nonneg
def Bz:=@PySem.F.slot_dict_keyiterator_next
def BA:=@List.length_drop
def BB:=@List.Pairwise.imp_of_mem
def BC:=@PySem.wpAny_typeOf
def BD:=@PySem.wpAny_dictEntries
def BE:=@Nat.zero_add
def BF:=@List.pairwise_cons
def BG:=@List.getElem_mem
def BH:=@List.pairwise_iff_getElem
def BI:=@List.drop_eq_getElem_cons
def BJ:=@List.getElem?_zip_eq_some
def BK:=@Classical.byContradiction
def BL:=@PyProof.Rows.F.entry_set_update_loop
def BM:=@decide_eq_true
def BN:=@List.Perm.refl
def BP:=@Bool.true_and
def BQ:=@Nat.ne_of_gt
def BR:=@List.mem_cons_of_mem
def BS:=@List.getElem?_replicate
def BU:=@Nat.le_succ
def BV:=@PySem.plainId_quiet
def BW:=@Array.toList_push
def BX:=@Nat.lt_trichotomy
def BY:=@List.nodup_append
def BZ:=@PySem.boot_len
def B0:=@Bool.eq_iff_iff
def B1:=@List.length_replicate
def B2:=@PySem.wpAny_mono
def B3:=@PySem.wpAny_isInstance
def B4:=@Nat.lt_or_eq_of_le
def B5:=@PySem.Heap.get?_none_of_le
def B6:=@PySem.wpAny_typeNameOfWhole_keyiter
def B7:=@PySem.wpAny_typeNameOfWhole_valiter
def B8:=@PySem.wpAny_truthy_bool
def B9:=@List.forIn_cons
def Ca:=@PyProof.Rows.boot_tuple
def Cb:=@PySem.mem_of_lookup
def Cc:=@List.getElem?_set_self
def Cd:=@PyProof.Rows.callWith_type1
def Ce:=@PySem.F.slot_tuple_iterator_next
namespace L2
open PySem PySem.Spec PyProof.Rows
noncomputable abbrev Key:=Sum Int Str
noncomputable def Vx:Key->Value->Bool
 | .inl k,v=>Value.isInt k v
 | .inr x,v=>Value.isStrOf x v
noncomputable def ZX (w:World):Key->Int
 | .inl k=>hashInt k
 | .inr x=>hashStr w x
theorem DH:∀ {k:Key} {v:Value},Vx k v=true->(∃ i t,k=Sum.inl i∧v=Value.int i t)∨(∃ x t,k=Sum.inr x∧v=Value.str x t)
 | .inl i,v,h=>by
  obtain ⟨t,e⟩:=Value.isInt_shape (k:=i) (v:=v) h
  exact .inl ⟨i,t,rfl,e⟩
 | .inr x,v,h=>by
  obtain ⟨t,e⟩:=Value.isStrOf_shape (x:=x) (v:=v) h
  exact .inr ⟨x,t,rfl,e⟩
theorem Xk (a b:Int):decide ((Sum.inl a:Key)=Sum.inl b)=(a==b):=by
 by_cases e:a=b
 ·subst e;simp
 ·have h:¬ (Sum.inl a:Key)=Sum.inl b:=λq=>e (Sum.inl.inj q)
  rw [A9 h]
  exact (beq_eq_false_iff_ne.mpr e).symm
theorem WV (a b:Str):decide ((Sum.inr a:Key)=Sum.inr b)=decide (a=b):=by
 by_cases e:a=b
 ·subst e;simp
 ·have h:¬ (Sum.inr a:Key)=Sum.inr b:=λq=>e (Sum.inr.inj q)
  rw [A9 h,A9 e]
theorem VQ (a:Int)(b:Str):decide ((Sum.inl a:Key)=Sum.inr b)=false:=A9 (λq=>nomatch q)
theorem XQ (a:Str)(b:Int):decide ((Sum.inr a:Key)=Sum.inl b)=false:=A9 (λq=>nomatch q)
noncomputable def Ot (prog:Program)(w:World):PySem.KeyKind prog w Key where
 is:=Vx
 hash:=ZX w
 inj:=λv a b ha hb=>by
  rcases DH ha with ⟨i,t,rfl,rfl⟩|⟨x,t,rfl,rfl⟩
  ·rcases DH hb with ⟨j,u,rfl,e⟩|⟨y,u,rfl,e⟩
   ·injection e with e1 _;rw [e1]
   ·exact nomatch e
  ·rcases DH hb with ⟨j,u,rfl,e⟩|⟨y,u,rfl,e⟩
   ·exact nomatch e
   ·injection e with e1 _;rw [e1]
 byValue:=λk v h=>by
  rcases DH h with ⟨i,t,rfl,rfl⟩|⟨x,t,rfl,rfl⟩<;>rfl
 pyHash:=λhv h=>by
  rcases DH hv with ⟨i,t,rfl,rfl⟩|⟨x,t,rfl,rfl⟩
  ·exact wpAny_pyHash_int h
  ·exact wpAny_pyHash_str h
 eqBool:=λhu hv h=>by
  rcases DH hu with ⟨i,t,rfl,rfl⟩|⟨x,t,rfl,rfl⟩
  ·rcases DH hv with ⟨j,u,rfl,rfl⟩|⟨y,u,rfl,rfl⟩
   ·rw [Xk] at h;exact wpAny_eqBool_int h
   ·rw [VQ] at h;exact SeqAt.EqAt.int_str i t y u _ _ _ _ h
  ·rcases DH hv with ⟨j,u,rfl,rfl⟩|⟨y,u,rfl,rfl⟩
   ·rw [XQ] at h;exact SeqAt.EqAt.str_int x t j u _ _ _ _ h
   ·rw [WV] at h;exact wpAny_eqBool_str h
 «strs»:=λk x t v h=>by
  rcases DH h with ⟨i,u,rfl,e⟩|⟨y,u,rfl,e⟩
  ·exact nomatch e
  ·injection e with e1 _
   subst e1
   cases v<;>rfl
inductive V where
 | non|bl (b:Bool)|int (i:Int)|str (x:Str)|byt (b:Array UInt8)|flt (b:UInt64)|ref (a:Addr)|ty (n:String)
 deriving DecidableEq
noncomputable def RelV:V->Value->Prop
 | .non,u=>u=Value.none
 | .bl b,u=>u=Value.bool b
 | .int i,u=>∃ t,u=Value.int i t
 | .str x,u=>∃ t,u=Value.str x t
 | .byt b,u=>∃ t,u=Value.bytes b t
 | .flt b,u=>∃ t,u=Value.float b t
 | .ref a,u=>u=Value.ref a
 | .ty n,u=>u=Value.type n
noncomputable abbrev Vals:List V->List Value->Prop:=Paired RelV
theorem Vals.length {xs:List V}{us:List Value}(r:Vals xs us):xs.length=us.length:=Paired.length r
theorem Vals.get:∀ {xs:List V} {us:List Value} {i:Nat} {x:V},Vals xs us->xs[i]? = some x->∃ u,us[i]? = some u∧RelV x u
 | _,_,_,_,.nil,e=>by simp at e
 | _,_,0,_,.cons r _,e=>by simp at e;subst e;exact ⟨_,rfl,r⟩
 | _,_,i+1,x,.cons _ t,e=>by
  obtain ⟨u,h1,h2⟩:=Vals.get (i:=i) (x:=x) t (by simpa using e)
  exact ⟨u,by simpa using h1,h2⟩
theorem Vals.set {x:V}{u:Value}(r:RelV x u):∀ {xs:List V} {us:List Value} (i:Nat),Vals xs us->Vals (xs.set i x) (us.set i u)
 | _,_,_,.nil=>.nil
 | _,_,0,.cons _ t=>.cons r t
 | _,_,i+1,.cons q t=>.cons q (Vals.set r i t)
theorem Vals.append:∀ {xs ys:List V} {us ws:List Value},Vals xs us->Vals ys ws->Vals (xs++ys) (us++ws)
 | _,_,_,_,.nil,s=>s
 | _,_,_,_,.cons r t,s=>.cons r (Vals.append t s)
theorem Vals.take:∀ {xs:List V} {us:List Value} (n:Nat),Vals xs us->Vals (xs.take n) (us.take n)
 | _,_,0,_=>.nil
 | _,_,_+1,.nil=>.nil
 | _,_,n+1,.cons r t=>.cons r (Vals.take n t)
theorem Vals.drop:∀ {xs:List V} {us:List Value} (n:Nat),Vals xs us->Vals (xs.drop n) (us.drop n)
 | _,_,0,r=>r
 | _,_,_+1,.nil=>.nil
 | _,_,n+1,.cons _ t=>Vals.drop n t
noncomputable def Xa:Option V->Option Value->Prop
 | some v,some u=>RelV v u
 | none,none=>True
 | _,_=>False
noncomputable def KV {κ:Type}:List (κ×V)->List (κ×Value)->Prop:=Paired λ(p:κ×V) (q:κ×Value)=>p.1=q.1∧RelV p.2 q.2
noncomputable def kV:Key->V
 | .inl i=>.int i
 | .inr x=>.str x
inductive HO where
  | lst (xs:List V)
  | tup (xs:List V)
  | dK (kvs:List (Key×V))|dT (kvs:List (List Key×V))
  | set (S:Int->Bool) (n:Nat)
  | ins (C dx:Addr) (fs:List (Str×V))
  | own (x:Addr)
  | xd (fs:List (Str×V))
  | met (f x:Addr)
  | rng (lo hi:Int)
  | frz (o:Obj) (u:HO)
  | tbl (ps:Array Value)
  | ext (φ:Heap->Prop)
noncomputable abbrev Hp:=Addr->Option HO
noncomputable def upd (H:Hp)(a:Addr)(o:HO):Hp:=λb=>if b=a then some o else H b
theorem Dw {H:Hp}{a:Addr}{o:HO}:upd H a o a=some o:=by unfold upd;rw [if_pos rfl]
theorem CQ {H:Hp}{a b:Addr}{o:HO}(h:b≠a):upd H a o b=H b:=by unfold upd;rw [if_neg h]
theorem CK {H:Hp}{a b:Addr}{o:HO}(h:H a=some o)(h':H b=none):a≠b:=by
 intro e;subst e;rw [h] at h';cases h'
section
variable (P:Program) (w:World)
noncomputable def ObjOk (H:Hp)(h:Heap)(a:Addr):HO->Prop
 | .lst xs=>xs.length≤sizeLine∧∃ (its:List Value) (n:Nat),Vals xs its∧h.get? a=some { cls:=.type "list",data:=.seq its.toArray n }
 | .tup xs=>(xs.length≤sizeLine∧∃ o,h.get? a=some o∧o.dict=none)∧∃ its:List Value,Vals xs its∧IsTup h a its.toArray
 | .dK kvs=>kvs.length≤sizeLine∧(a==sysModules)=false∧∃ vs,KV kvs vs∧h.DictOf (Ot P w) a vs
 | .dT kvs=>kvs.length≤sizeLine∧(a==sysModules)=false∧∃ xs:List (List Key×Addr×Value),
   Paired (λ(p:List Key×V) (q:List Key×Addr×Value)=>p.1=q.1∧H q.2.1=some (.tup (p.1.map kV))∧RelV p.2 q.2.2) kvs xs ∧
   ∃ o es ep,h.get? a=some o∧o.ExactDict∧o.data=.dict es ep∧es.toList=xs.map (entryOfKey (tupleKind (Ot P w)))∧(xs.map (·.1)).Nodup
 | .set S n=>h.SetOf (intKind P w) a S n
 | .ins C dx fs=>H dx=some (.own a)∧fs.length≤1000∧dx≠a∧h.get? a=some (PySem.W.instObj C dx) ∧
   ∃ mA,h.Ns1 dx mA∧(∀ f,Xa (fs.lookup f) (mA f))∧PySem.Within mA (fs.map (·.1))
 | .own _=>∃ o,h.get? a=some o
 | .xd fs=>∃ mA,h.Ns1 a mA∧∀ f,Xa (fs.lookup f) (mA f)
 | .rng lo hi=>∃ t u v,h.get? a=some { cls:=.type "range",data:=.fields #[.int lo t,.int hi u,.int 1 v] }
 | .frz o u=>h.get? a=some o∧ObjOk H h a u
 | .tbl ps=>h.get? a=some { cls:=.none,data:=.fields ps }
 | .met f x=>h.get? a=some (PySem.W.methodObj (.ref f) (.ref x))
 | .ext φ=>φ h∧(∃ o,h.get? a=some o)∧∀ h1 h2:Heap,φ h1->(∀ o,h1.get? a=some o->h2.get? a=some o)->φ h2
noncomputable def HOk (H:Hp)(h:Heap):Prop:=∀ a o,H a=some o->ObjOk P w H h a o
end
section
variable {P:Program} {w:World} {H H':Hp} {h h':Heap} {a:Addr} {o:HO}
theorem ObjOk.lt (x:ObjOk P w H h a o):a<h.objs.size:=by
 cases o with
 | lst xs=>obtain ⟨_,_,_,_,e⟩:=x;exact Al e
 | tup xs=>obtain ⟨_,_,_,p⟩:=x;exact p.lt
 | dK kvs=>obtain ⟨_,_,_,_,o,_,_,e,_⟩:=x;exact Al e
 | dT kvs=>obtain ⟨_,_,_,_,o,_,_,e,_⟩:=x;exact Al e
 | set S n=>obtain ⟨o,_,_,_,e,_⟩:=x;exact Al e
 | ins C dx fs=>obtain ⟨_,_,_,e,_⟩:=x;exact Al e
 | own y=>obtain ⟨_,e⟩:=x;exact Al e
 | xd fs=>obtain ⟨_,⟨_,_,_,e,_⟩,_⟩:=x;exact Al e
 | rng lo hi=>obtain ⟨_,_,_,e⟩:=x;exact Al e
 | frz ob u=>obtain ⟨e,_⟩:=x;exact Al e
 | tbl ps=>exact Al (show h.get? a=some _ from x)
 | met f y=>exact Al (show h.get? a=some _ from x)
 | ext φ=>obtain ⟨_,⟨_,e⟩,_⟩:=x;exact Al e
theorem Paired.mapP {α β:Type}{F G:α->β->Prop}:∀ {l₁:List α} {l₂:List β},Paired F l₁ l₂->(∀ a b,F a b->G a b)->Paired G l₁ l₂
 | _,_,.nil,_=>.nil
 | _,_,.cons r t,f=>.cons (f _ _ r) (Paired.mapP t f)
theorem ObjOk.stay (x:ObjOk P w H h a o)(k:∀ b u,(b=a∨H b=some (.own a))->h.get? b=some u->h'.get? b=some u)
  (ho:∀ b,H b=some (.own a)->H' b=some (.own a)) (ht:∀ b xs,H b=some (.tup xs)->H' b=some (.tup xs)):ObjOk P w H' h' a o:=by
 induction o with
 | lst xs=>obtain ⟨z,its,n,r,e⟩:=x;exact ⟨z,its,n,r,k _ _ (.inl rfl) e⟩
 | tup xs=>obtain ⟨⟨z,o1,z1,z2⟩,its,r,ob,e,c⟩:=x;exact ⟨⟨z,o1,k _ _ (.inl rfl) z1,z2⟩,its,r,ob,k _ _ (.inl rfl) e,c⟩
 | dK kvs=>obtain ⟨z,y,vs,r,ob,es,ep,e,c⟩:=x;exact ⟨z,y,vs,r,ob,es,ep,k _ _ (.inl rfl) e,c⟩
 | dT kvs =>
  obtain ⟨z,y,xs,r,ob,es,ep,e,c⟩:=x
  exact ⟨z,y,xs,Paired.mapP r λp q z=>⟨z.1,ht _ _ z.2.1,z.2.2⟩,ob,es,ep,k _ _ (.inl rfl) e,c⟩
 | set S n=>obtain ⟨ob,es,ep,t,e,c⟩:=x;exact ⟨ob,es,ep,t,k _ _ (.inl rfl) e,c⟩
 | ins C dx fs =>
  obtain ⟨d,z,ne,e,mA,⟨od,es,ep,e2,c⟩,r⟩:=x
  exact ⟨ho _ d,z,ne,k _ _ (.inl rfl) e,mA,⟨od,es,ep,k _ _ (.inr d) e2,c⟩,r⟩
 | own y=>obtain ⟨ob,e⟩:=x;exact ⟨ob,k _ _ (.inl rfl) e⟩
 | xd fs=>obtain ⟨mA,⟨od,es,ep,e,c⟩,r⟩:=x;exact ⟨mA,⟨od,es,ep,k _ _ (.inl rfl) e,c⟩,r⟩
 | rng lo hi=>obtain ⟨t,u,v,e⟩:=x;exact ⟨t,u,v,k _ _ (.inl rfl) e⟩
 | frz ob u ih=>obtain ⟨e,q⟩:=x;exact ⟨k _ _ (.inl rfl) e,ih q⟩
 | tbl ps =>
  have e:h.get? a=some { cls:=.none,data:=.fields ps }:=x
  show h'.get? a=some { cls:=.none,data:=.fields ps }
  exact k a _ (.inl rfl) e
 | met f y =>
  have e:h.get? a=some (PySem.W.methodObj (.ref f) (.ref y)):=x
  show h'.get? a=some (PySem.W.methodObj (.ref f) (.ref y))
  exact k a _ (.inl rfl) e
 | ext φ=>obtain ⟨p,⟨o,e⟩,st⟩:=x;exact ⟨st _ _ p λo q=>k _ _ (.inl rfl) q,⟨o,k _ _ (.inl rfl) e⟩,st⟩
theorem HOk.lt (x:HOk P w H h)(e:H a=some o):a<h.objs.size:=(x a o e).lt
theorem HOk.fresh (x:HOk P w H h)(e:h.objs.size≤a):H a=none:=by
 cases q:H a with
 | none=>rfl
 | some u=>exact absurd (AD (x.lt q) e) (A6 _)
theorem HOk.kept (x:HOk P w H h)(k:∀ b u,h.get? b=some u->h'.get? b=some u):HOk P w H h':=λa o e =>
 (x a o e).stay (λb u _ q=>k b u q) (λ_ q=>q) λ_ _ q=>q
theorem HOk.laid (x:HOk P w H h)(k:∀ b u,h.get? b=some u->h'.get? b=some u)(hp:h.objs.size≤a)(new:ObjOk P w (upd H a o) h' a o):HOk P w (upd H a o) h':=λb u e=>by
 have hn:=x.fresh hp
 by_cases hb:b=a
 ·subst hb;rw [Dw] at e;cases e;exact new
 ·rw [CQ hb] at e
  exact (x b u e).stay (λc v _ q=>k c v q) (λc q=>by rw [CQ (CK q hn)];exact q) λc xs q=>by rw [CQ (CK q hn)];exact q
end
noncomputable def Rd (H:Hp)(a:Addr)(u:HO):Prop:=H a=some u∨∃ o,H a=some (.frz o u)
theorem Rd.ok {P:Program}{w:World}{H:Hp}{h:Heap}{a:Addr}{u:HO}(r:Rd H a u)(x:HOk P w H h):ObjOk P w H h a u:=by
 rcases r with r|⟨o,r⟩
 ·exact x a u r
 ·obtain ⟨_,q⟩:=x a _ r
  exact q
noncomputable def Mut:Option HO->Prop
 | some (.lst _)=>True
 | some (.dK _)=>True
 | some (.dT _)=>True
 | some (.set _ _)=>True
 | some (.ins _ _ _)=>True
 | some (.ext _)=>True
 | _=>False
section
variable {P:Program} {w:World} {H:Hp} {h h':Heap} {x e:Addr} {o':HO}
theorem HOk.write (ok:HOk P w H h)(mu:Mut (H x))(he:e=x∨H e=some (.own x))(k:∀ b u,b≠e->h.get? b=some u->h'.get? b=some u)(heo:∃ u,h'.get? e=some u)
  (new:ObjOk P w (upd H x o') h' x o'):HOk P w (upd H x o') h':=λb u q=>by
 have nown:∀ c y,H c=some (.own y)->c≠x:=λc y r z=>by subst z;rw [r] at mu;exact mu
 have ntup:∀ c xs,H c=some (.tup xs)->c≠x:=λc xs r z=>by subst z;rw [r] at mu;exact mu
 by_cases hb:b=x
 ·subst hb;rw [Dw] at q;cases q;exact new
 ·rw [CQ hb] at q
  by_cases hbe:b=e
  ·have q':H b=some (.own x):=by
    rcases he with z|z
    ·exact absurd (hbe.trans z) hb
    ·rw [hbe];exact z
   rw [q] at q';cases q'
   obtain ⟨v,hv⟩:=heo
   exact ⟨v,by rw [hbe];exact hv⟩
  ·refine (ok b u q).stay (λc v hc r=>k c v ?_ r) (λc r=>by rw [CQ (nown c b r)];exact r) λc xs r=>by rw [CQ (ntup c xs r)];exact r
   rcases hc with rfl|hc
   ·exact hbe
   ·rintro rfl
    rcases he with z|z
    ·exact nown c b hc z
    ·rw [hc] at z;cases z;exact hb rfl
end
structure Un (fs ex:List Addr) (H H':Hp) (h h':Heap):Prop where
 keep:∀ b o,h.get? b=some o->H b=none->b∉fs->b∉ex->h'.get? b=some o
 slot:∀ b o,h.get? b=some o->H b=none->b∈fs->b∉ex->∃ sl,h'.get? b=some { o with slots:=sl }
 free:∀ b o,h.get? b=some o->H b=none->b∉ex->H' b=none
 there:∀ b o,h.get? b=some o->b∉ex->∃ o',h'.get? b=some o'
 tups:∀ b xs,H b=some (.tup xs)->H' b=some (.tup xs)
 frzs:∀ b o u,H b=some (.frz o u)->H' b=some (.frz o u)
 tbls:∀ b ps,H b=some (.tbl ps)->∃ more,H' b=some (.tbl (ps++more))
section
variable {fs fs' ex ex':List Addr} {H H1 H2:Hp} {h h1 h2 h':Heap} {a x e:Addr} {o:HO}
theorem Un.any (u:Un fs ex H H1 h h1){b:Addr}{ob:Obj}(q:h.get? b=some ob)(n:H b=none)(hx:b∉ex):∃ sl,h1.get? b=some { ob with slots:=sl }:=by
 by_cases hb:b∈fs
 ·exact u.slot b ob q n hb hx
 ·exact ⟨ob.slots,u.keep b ob q n hb hx⟩
theorem Un.kept (k:∀ b u,h.get? b=some u->h'.get? b=some u):Un fs ex H H h h':=
 ⟨λb ob q _ _ _=>k b ob q,λb ob q _ _ _=>⟨ob.slots,k b ob q⟩,λ_ _ _ n _=>n,λb ob q _=>⟨ob,k b ob q⟩,λ_ _ q=>q,λ_ _ _ q=>q,λ_ ps q=>⟨#[],by rw [q];simp⟩⟩
theorem Un.refl:Un fs ex H H h h:=Un.kept λ_ _ q=>q
theorem Un.laid (k:∀ b u,h.get? b=some u->h'.get? b=some u)(hp:h.objs.size≤a)(hn:H a=none):Un fs ex H (upd H a o) h h' where
 keep:=λb u q _ _ _=>k b u q
 slot:=λb u q _ _ _=>⟨u.slots,k b u q⟩
 free:=λb u q n _=>by rw [CQ (Au (AD (Al q) hp))];exact n
 there:=λb u q _=>⟨u,k b u q⟩
 tups:=λb xs q=>by rw [CQ (CK q hn)];exact q
 frzs:=λb u xs q=>by rw [CQ (CK q hn)];exact q
 tbls:=λb ps q=>⟨#[],by rw [CQ (CK q hn),q];simp⟩
theorem Un.write (mu:Mut (H x))(he:e=x∨H e=some (.own x))(k:∀ b u,b≠e->h.get? b=some u->h'.get? b=some u)(heo:∃ u,h'.get? e=some u):Un fs ex H (upd H x o) h h':=by
 have hx:∀ b,H b=none->b≠x:=λb n z=>by subst z;rw [n] at mu;exact mu
 have hb:∀ b,H b=none->b≠e:=λb n z=>by
  subst z
  rcases he with r|r
  ·exact hx b n r
  ·rw [n] at r;cases r
 have hm:∀ b u,H b=some u->¬ Mut (some u)->b≠x:=λb u q nm z=>by subst z;rw [q] at mu;exact nm mu
 refine ⟨λb u q n _ _=>k b u (hb b n) q,λb u q n _ _=>⟨u.slots,k b u (hb b n) q⟩,λb u q n _=>by rw [CQ (hx b n)];exact n,λb u q _=>?_,
  λb xs q=>by rw [CQ (hm b _ q λz=>z)];exact q,λb u xs q=>by rw [CQ (hm b _ q λz=>z)];exact q,λb ps q=>⟨#[],by rw [CQ (hm b _ q λz=>z),q];simp⟩⟩
 by_cases hbe:b=e
 ·subst hbe;exact heo
 ·exact ⟨u,k b u hbe q⟩
end
noncomputable def trk (h:Heap)(H:Hp):List Addr:=(List.range h.objs.size).filter λa=>(H a).isSome
noncomputable def LD (h:Heap)(H:Hp):Heap:=PySem.W.hideAll h (trk h H)
theorem Qw (h:Heap)(H:Hp):(LD h H).objs.size=h.objs.size:=PySem.W.hideAll_size _ _
theorem SD {h:Heap}{H:Hp}{b:Addr}{o:Obj}(e:h.get? b=some o)(n:H b=none):(LD h H).get? b=some o:=
 PySem.W.hideAll_get _ e λhm=>by
  have q:(H b).isSome=true:=(List.mem_filter.mp hm).2
  rw [n] at q;simp at q
theorem T8 {h:Heap}{H:Hp}{b:Addr}{o:Obj}(e:(LD h H).get? b=some o):h.get? b=some o∧H b=none:=by
 have e':h.get? b=some o:=PySem.W.of_hideAll (trk h H) e
 refine ⟨e',?_⟩
 cases q:H b with
 | none=>rfl
 | some x =>
  have hm:b∈trk h H:=List.mem_filter.mpr ⟨A3.mpr (Al e'),by simp [q]⟩
  have z:(LD h H).get? b=none:=PySem.W.hideAll_none (trk h H) hm
  rw [z] at e;cases e
noncomputable def Uy (g h:Heap)(L:Addr):List (Addr×Obj):=(List.range h.objs.size).filterMap λa=>if a=L∨(g.get? a).isSome=true then none else (h.get? a).map λo=>(a,o)
noncomputable def rest (g h:Heap)(L d:Addr):List (Addr×Obj):=(Uy g h L).filter λp=>decide (p.1≠d)
structure Mod (K:PySem.W.Frag) (mg:Str->Option Value) (base:Heap):Prop where
 kin:K.In base
 glob:base.Ns mainGlobals mg
 blt:∃ mb,base.Ns builtinsNs mb∧∀ x:Str,x≠"__name__"->mb x=bootBuiltins x
 nolimit:base.NoLimit
structure Cx where
 prog:Program
 w:World
 K:PySem.W.Frag
 mg:Str->Option Value
 base:Heap
 A:Around
 N:List Str
 s₀:Shared
 H₀:Hp
 env:Env
 outer:List Env
 stack:List Env
 ex:List Addr
 fn:Str->Bool
 calm:Bool
 pn:List (Addr×Obj)
 xe:Value->Shared->Prop
noncomputable def frs (l:List Env):List Addr:=l.filterMap (·.frame)
noncomputable abbrev Cx.fs (X:Cx):List Addr:=frs X.outer
noncomputable def Vis (sc:Scope)(x:Str):Prop:=sc.names.lookup x=some .local∨sc.names.lookup x=some .cell∨sc.names.lookup x=some .free
noncomputable def Loc (sc:Scope)(x:Str):Prop:=sc.names.lookup x=some .local∨sc.names.lookup x=some .cell
noncomputable def Look (env:Env)(h:Heap)(m:Str->Option Value)(x:Str)(u:Value):Prop:=
 (env.kindOf x=some .local∧m x=some u)∨((env.kindOf x=some .cell∨env.kindOf x=some .free)∧∃ c,env.cells.lookup x=some c∧h.IsCell c (some u))
structure Cx.Ok (X:Cx):Prop where
 mod:Mod X.K X.mg X.base
 kind:X.env.scope.kind=.function
 glob:X.env.globals=mainGlobals
 blt:X.env.builtins=builtinsNs
 above:X.s₀.heap.objs.size≤X.env.locals
 inj:∀ x y c,X.env.cells.lookup x=some c->X.env.cells.lookup y=some c->x=y
 has:∀ x,(X.env.kindOf x=some .cell∨X.env.kindOf x=some .free)->∃ c,X.env.cells.lookup x=some c
 cab:∀ x c,X.fn x=true->X.env.cells.lookup x=some c->X.s₀.heap.objs.size≤c
 hd:X.calm=true->X.A.handled=none
 frames:X.A.frames=some X.stack
 stk:X.stack=X.outer∨(X.stack=X.env::X.outer∧X.env.frame=some X.env.locals)
 exf:∀ b∈X.ex,b≠X.env.locals∧∀ x c,X.env.cells.lookup x=some c->c≠b
 bs:∀ b o,X.base.get? b=some o->X.s₀.heap.get? b=some o∧X.H₀ b=none
 bsz:X.base.objs.size≤X.s₀.heap.objs.size
 noex:∀ b o,X.base.get? b=some o->b∉X.ex
 exfs:∀ b∈X.ex,b∉X.fs
 funs:X.s₀.heap.FunFrames X.base X.outer
 frf:∀ b∈X.fs,X.H₀ b=none
structure Inv (X:Cx) (pins:List (Addr×Obj)) (σ:List (Option V)) (H:Hp) (s:Shared):Prop where
 ok:X.Ok
 os:s.os=X.s₀.os
 bare:AllBare s.gens
 base:Un X.fs X.ex X.H₀ H X.s₀.heap s.heap
 loc:∃ m,s.heap.Ns X.env.locals m∧∀ (i:Nat) (x:Str) (v:V),X.N[i]? = some x->σ[i]? = some (some v)->Vis X.env.scope x->∃ u,RelV v u∧Look X.env s.heap m x u
 cell:∀ x c,X.env.cells.lookup x=some c->∃ v,s.heap.IsCell c v
 free:H X.env.locals=none
 freeC:∀ x c,X.env.cells.lookup x=some c->H c=none
 pin:∀ p∈X.pn++pins,s.heap.get? p.1=some p.2∧H p.1=none∧p.1≠X.env.locals∧p.1∉X.fs∧∀ v,p.2.data≠.cell v
 hok:HOk X.prog X.w H s.heap
 len:σ.length=X.N.length
section
variable {X:Cx} {pins:List (Addr×Obj)} {σ:List (Option V)} {H H':Hp} {s:Shared} {h':Heap}
theorem Cx.Ok.nofr (ok:X.Ok){b:Addr}{o:Obj}(e:X.base.get? b=some o):b∉X.fs:=λhb=>by
 have:=(ok.funs.mem hb).1
 rw [e] at this;cases this
theorem Inv.bs (I:Inv X pins σ H s):∀ b o,X.base.get? b=some o->s.heap.get? b=some o∧H b=none:=λb o e =>
 ⟨I.base.keep b o (I.ok.bs b o e).1 (I.ok.bs b o e).2 (I.ok.nofr e) (I.ok.noex b o e),I.base.free b o (I.ok.bs b o e).1 (I.ok.bs b o e).2 (I.ok.noex b o e)⟩
theorem Inv.bk (I:Inv X pins σ H s):∀ b o,X.base.get? b=some o->s.heap.get? b=some o:=λb o e=>(I.bs b o e).1
theorem Inv.mod (I:Inv X pins σ H s):Mod X.K X.mg X.base:=I.ok.mod
theorem Inv.kIn (I:Inv X pins σ H s):X.K.In s.heap:=I.ok.mod.kin.keeps I.bk
theorem Inv.fr (I:Inv X pins σ H s):∃ m,Fr X.base X.env.locals s.heap m:=
 let ⟨m,hn,_⟩:=I.loc
 ⟨m,hn,I.bk,AJ I.ok.bsz I.ok.above⟩
theorem Inv.lt (I:Inv X pins σ H s):X.env.locals<s.heap.objs.size:=let ⟨_,hn,_⟩:=I.loc;hn.lt
theorem Inv.sz (I:Inv X pins σ H s):X.s₀.heap.objs.size≤s.heap.objs.size:=AJ I.ok.above (Nat.le_of_lt I.lt)
theorem Inv.nofs (I:Inv X pins σ H s){a:Addr}(h:s.heap.objs.size≤a):a∉X.fs:=λhb=>by
 obtain ⟨_,o,ho,_⟩:=I.ok.funs.mem hb
 exact absurd (AD (Al ho) (AJ I.sz h)) (A6 _)
theorem Inv.cne (I:Inv X pins σ H s):∀ x c,X.env.cells.lookup x=some c->c≠X.env.locals:=λx c e z=>by
 obtain ⟨v,o,ho,hd⟩:=I.cell x c e
 obtain ⟨m,⟨o',es,ep,ho',hd',_⟩,_⟩:=I.loc
 rw [z,ho'] at ho;cases ho;rw [hd'] at hd;cases hd
theorem Inv.funs (I:Inv X pins σ H s):s.heap.FunFrames X.base X.outer:=by
 have all:∀ (l:List Env),(∀ b∈frs l,b∈X.fs)->X.s₀.heap.FunFrames X.base l->s.heap.FunFrames X.base l:=by
  intro l
  induction l with
  | nil=>intro _ _;trivial
  | cons env r ih =>
   intro hs hl
   obtain ⟨hk,⟨L,o,hf,hn,ho,hd⟩,hr⟩:=hl
   have hL:L∈X.fs:=hs L (by unfold frs;rw [List.filterMap_cons,hf];exact List.mem_cons_self)
   obtain ⟨sl,e⟩:=I.base.slot L o ho (I.ok.frf L hL) hL λz=>I.ok.exfs L z hL
   exact ⟨hk,⟨L,_,hf,hn,e,hd⟩,ih (λb hb=>hs b (by unfold frs;rw [List.filterMap_cons,hf];exact BR _ hb)) hr⟩
 exact all X.outer (λ_ hb=>hb) I.ok.funs
theorem Inv.stack (I:Inv X pins σ H s):s.heap.FunFrames X.base X.stack:=by
 rcases I.ok.stk with e|⟨e,hf⟩
 ·rw [e];exact I.funs
 ·rw [e]
  obtain ⟨m,hn,_⟩:=I.loc
  refine .cons (by rw [I.ok.kind];decide) hf hn ?_ I.funs
  exact B5 (AJ I.ok.bsz I.ok.above)
theorem Inv.stkSub (I:Inv X pins σ H s):∀ b∈frs X.stack,b∈X.env.locals::X.fs:=λb hb=>by
 rcases I.ok.stk with e|⟨e,hf⟩
 ·rw [e] at hb;exact BR _ hb
 ·rw [e] at hb
  unfold frs at hb
  rw [List.filterMap_cons,hf] at hb
  exact hb
theorem Inv.stkFree (I:Inv X pins σ H s):∀ b∈frs X.stack,H b=none:=λb hb=>by
 rcases An.mp (I.stkSub b hb) with e|hb
 ·rw [e];exact I.free
 ·obtain ⟨_,o,ho,_⟩:=I.ok.funs.mem hb
  exact I.base.free b o ho (I.ok.frf b hb) λz=>I.ok.exfs b z hb
theorem Inv.step {g':Array GenState}{t':Nat}{d':Drawn}{ch:List Addr}(I:Inv X pins σ H s)
  (hch:∀ b∈ch,(b∈X.ex∨X.s₀.heap.objs.size≤b)∧b≠X.env.locals∧(∀ x c,X.env.cells.lookup x=some c->c≠b)∧∀ p∈X.pn++pins,p.1≠b)
  (keep:∀ b o,b≠X.env.locals->b∉X.fs->b∉ch->s.heap.get? b=some o->H b=none->h'.get? b=some o)
  (slot:∀ b o,b≠X.env.locals->b∈X.fs->b∉ch->s.heap.get? b=some o->H b=none->∃ sl,h'.get? b=some { o with slots:=sl }) (free:∀ b o,b∉ch->s.heap.get? b=some o->H b=none->H' b=none)
  (there:∀ b o,b∉ch->s.heap.get? b=some o->∃ o',h'.get? b=some o')
  (tups:∀ b xs,H b=some (.tup xs)->H' b=some (.tup xs)) (frzs:∀ b o u,H b=some (.frz o u)->H' b=some (.frz o u)) (tbls:∀ b ps,H b=some (.tbl ps)->∃ more,H' b=some (.tbl (ps++more)))
  (ns:∀ m,s.heap.Ns X.env.locals m->h'.Ns X.env.locals m) (hok:HOk X.prog X.w H' h') (hg:AllBare g') :
  Inv X pins σ H' { s with heap:=h',gens:=g',drawn:=d',toks:=t' }:=by
 have neL:∀ b o,X.s₀.heap.get? b=some o->b≠X.env.locals:=λb o e=>Au (AD (Al e) I.ok.above)
 have neC:∀ b o,X.s₀.heap.get? b=some o->b∉X.ex->b∉ch:=λb o e hx hb=>by
  rcases (hch b hb).1 with z|z
  ·exact hx z
  ·exact absurd (AD (Al e) z) (A6 _)
 have cellK:∀ x c,X.env.cells.lookup x=some c->∀ v,s.heap.IsCell c v->h'.IsCell c v:=λx c e v ⟨o,ho,hd⟩=>by
  have nch:c∉ch:=λz=>(hch c z).2.2.1 x c e rfl
  by_cases hc:c∈X.fs
  ·obtain ⟨sl,q⟩:=slot c o (I.cne x c e) hc nch ho (I.freeC x c e)
   exact ⟨_,q,hd⟩
  ·exact ⟨o,keep c o (I.cne x c e) hc nch ho (I.freeC x c e),hd⟩
 refine ⟨I.ok,I.os,hg,⟨λb o e n hb hx=>?_,λb o e n hb hx=>?_,λb o e n hx=>?_,λb o e hx=>?_,λb xs e=>tups b xs (I.base.tups b xs e),λb o xs e=>frzs b o xs (I.base.frzs b o xs e),λb ps e=>?_⟩,?_,λx c e=>?_,?_,λx c e=>?_,λp hp=>?_,hok,I.len⟩
 ·exact keep b o (neL b o e) hb (neC b o e hx) (I.base.keep b o e n hb hx) (I.base.free b o e n hx)
 ·obtain ⟨sl,e1⟩:=I.base.slot b o e n hb hx
  obtain ⟨sl',e2⟩:=slot b _ (neL b o e) hb (neC b o e hx) e1 (I.base.free b o e n hx)
  exact ⟨sl',e2⟩
 ·obtain ⟨o',e1⟩:=I.base.there b o e hx
  exact free b o' (neC b o e hx) e1 (I.base.free b o e n hx)
 ·obtain ⟨o',e1⟩:=I.base.there b o e hx
  exact there b o' (neC b o e hx) e1
 ·obtain ⟨m1,e1⟩:=I.base.tbls b ps e
  obtain ⟨m2,e2⟩:=tbls b _ e1
  exact ⟨m1++m2,by rw [e2,Array.append_assoc]⟩
 ·obtain ⟨m,hn,hl⟩:=I.loc
  refine ⟨m,ns m hn,λi x v e1 e2 e3=>?_⟩
  obtain ⟨u,r,l⟩:=hl i x v e1 e2 e3
  refine ⟨u,r,?_⟩
  rcases l with l|⟨k,c,e,z⟩
  ·exact .inl l
  ·exact .inr ⟨k,c,e,cellK x c e _ z⟩
 ·obtain ⟨v,z⟩:=I.cell x c e
  exact ⟨v,cellK x c e v z⟩
 ·obtain ⟨m,⟨o,_,_,ho,_⟩,_⟩:=I.loc
  exact free _ o (λz=>(hch _ z).2.1 rfl) ho I.free
 ·obtain ⟨v,o,ho,hd⟩:=I.cell x c e
  exact free c o (λz=>(hch c z).2.2.1 x c e rfl) ho (I.freeC x c e)
 ·obtain ⟨e,n,ne,nf,d⟩:=I.pin p hp
  have nch:p.1∉ch:=λz=>(hch p.1 z).2.2.2 p hp rfl
  exact ⟨keep p.1 p.2 ne nf nch e n,free p.1 p.2 nch e n,ne,nf,d⟩
theorem Inv.un {t':Nat}(I:Inv X pins σ H s)(u:Un X.fs [] H H' s.heap h')(hok:HOk X.prog X.w H' h'):Inv X pins σ H' { s with heap:=h',toks:=t' }:=by
 obtain ⟨m,⟨o,es,ep,ho,r⟩,_⟩:=id I.loc
 obtain ⟨sl,hL⟩:=u.any ho I.free (by simp)
 exact I.step (g':=s.gens) (d':=s.drawn) (ch:=[]) (λ_ z=>nomatch z) (λb o _ hb _ e n=>u.keep b o e n hb (by simp)) (λb o _ hb _ e n=>u.slot b o e n hb (by simp)) (λb o _ e n=>u.free b o e n (by simp)) (λb o _ e=>u.there b o e (by simp)) u.tups u.frzs u.tbls (λm' hm=>by
  obtain ⟨o',es',ep',ho',r'⟩:=hm
  rw [ho] at ho';cases ho'
  exact ⟨_,es',ep',hL,r'⟩) hok I.bare
theorem Inv.call {g':Array GenState}{t':Nat}{d':Drawn}{ch:List Addr}(I:Inv X pins σ H s)(u:Un (frs X.stack) ch H H' s.heap h')(hok:HOk X.prog X.w H' h')(hg:AllBare g')
  (hch:∀ b∈ch,(b∈X.ex∨X.s₀.heap.objs.size≤b)∧b≠X.env.locals∧(∀ x c,X.env.cells.lookup x=some c->c≠b)∧∀ p∈X.pn++pins,p.1≠b) :
  Inv X pins σ H' { s with heap:=h',gens:=g',drawn:=d',toks:=t' }:=by
 obtain ⟨m,⟨o,es,ep,ho,r⟩,_⟩:=id I.loc
 obtain ⟨sl,hL⟩:=u.any ho I.free λz=>(hch _ z).2.1 rfl
 exact I.step (ch:=ch) hch (λb o hL hb hc e n=>u.keep b o e n (λz=>(An.mp (I.stkSub b z)).elim hL hb) hc) (λb o _ _ hc e n=>u.any e n hc) (λb o hc e n=>u.free b o e n hc) (λb o hc e=>u.there b o e hc) u.tups u.frzs u.tbls (λm' hm=>by
  obtain ⟨o',es',ep',ho',r'⟩:=hm
  rw [ho] at ho';cases ho'
  exact ⟨_,es',ep',hL,r'⟩) hok hg
theorem Inv.turned {t':Nat}{it:Addr}(I:Inv X pins σ H s)(k:∀ b o,b≠it->s.heap.get? b=some o->h'.get? b=some o)(hn:H it=none)(hL:it≠X.env.locals)
  (h1:it∈X.ex∨X.s₀.heap.objs.size≤it) (h2:∀ x c,X.env.cells.lookup x=some c->c≠it) (h3:∀ p∈X.pn++pins,p.1≠it):Inv X pins σ H { s with heap:=h',toks:=t' }:=by
 have nit:∀ b u,H b=some u->b≠it:=λb u e z=>by rw [z,hn] at e;cases e
 refine I.step (g':=s.gens) (d':=s.drawn) (ch:=[it]) (λb hb=>?_) (λb o _ _ hc e _=>k b o (λz=>hc (by simp [z])) e) (λb o _ _ hc e _=>⟨o.slots,k b o (λz=>hc (by simp [z])) e⟩) (λ_ _ _ _ n=>n)
  (λb o hc e=>⟨o,k b o (λz=>hc (by simp [z])) e⟩) (λ_ _ e=>e) (λ_ _ _ e=>e) (λb ps e=>⟨#[],by rw [e];simp⟩) (λm hm=>?_) (λb u e=>?_) I.bare
 ·have e:b=it:=by simpa using hb
  subst e
  exact ⟨h1,hL,h2,h3⟩
 ·obtain ⟨o,es,ep,ho,r⟩:=hm
  exact ⟨o,es,ep,k _ o (Ne.symm hL) ho,r⟩
 ·refine (I.hok b u e).stay (λc v hc q=>k c v ?_ q) (λ_ q=>q) λ_ _ q=>q
  rcases hc with z|z
  ·rw [z];exact nit b u e
  ·exact nit c _ z
theorem Inv.tok (I:Inv X pins σ H s)(t:Nat):Inv X pins σ H { s with toks:=t }:=I.un (h':=s.heap) (t':=t) Un.refl I.hok
theorem Inv.kept {t':Nat}(I:Inv X pins σ H s)(k:∀ b u,s.heap.get? b=some u->h'.get? b=some u):Inv X pins σ H { s with heap:=h',toks:=t' }:=I.un (Un.kept k) (I.hok.kept k)
theorem Inv.laid {a:Addr}{o:HO}{t':Nat}(I:Inv X pins σ H s)(k:∀ b u,s.heap.get? b=some u->h'.get? b=some u)(hp:s.heap.objs.size≤a)(new:ObjOk X.prog X.w (upd H a o) h' a o) :
  Inv X pins σ (upd H a o) { s with heap:=h',toks:=t' }:=I.un (Un.laid k hp (I.hok.fresh hp)) (I.hok.laid k hp new)
theorem Inv.write {x e:Addr}{o:HO}{t':Nat}(I:Inv X pins σ H s)(mu:Mut (H x))(he:e=x∨H e=some (.own x))(k:∀ b u,b≠e->s.heap.get? b=some u->h'.get? b=some u)(heo:∃ u,h'.get? e=some u)
  (new:ObjOk X.prog X.w (upd H x o) h' x o):Inv X pins σ (upd H x o) { s with heap:=h',toks:=t' }:=I.un (Un.write mu he k heo) (I.hok.write mu he k heo new)
theorem Inv.pins_of {pins':List (Addr×Obj)}(I:Inv X pins σ H s)(h:∀ p∈pins',s.heap.get? p.1=some p.2∧H p.1=none∧p.1≠X.env.locals∧p.1∉X.fs∧∀ v,p.2.data≠.cell v):Inv X pins' σ H s:=
 ⟨I.ok,I.os,I.bare,I.base,I.loc,I.cell,I.free,I.freeC,λp hp=>(AH.mp hp).elim (λz=>I.pin p (AX _ z)) (h p),I.hok,I.len⟩
theorem MB {N:List Str}(hN:N.Nodup){i j:Nat}{x:Str}(a:N[i]? = some x)(b:N[j]? = some x):i=j:=by
 obtain ⟨h1,e1⟩:=Ae.mp a
 obtain ⟨h2,e2⟩:=Ae.mp b
 exact (List.getElem_inj hN).mp (e1.trans e2.symm)
theorem Pz {M:Model}{A:Around}{E:Value->Shared->Prop}{i:Nat}{x:Str}{v:V}{u:Value}{Q:Unit->Shared->Prop}(I:Inv X pins σ H s)(hN:X.N.Nodup)(hi:X.N[i]? = some x)(hx:Loc X.env.scope x)(r:RelV v u)
  (h:∀ s',Inv X pins (σ.set i (some v)) H s'->(∃ a,Heap.SameBut a s.heap s'.heap∧(a=X.env.locals∨X.env.cells.lookup x=some a))->Q () s') (hf:X.fn x=true∨X.env.scope.names.lookup x=some .local:=by first|exact .inl rfl|exact .inr rfl|assumption):wpAny M A (storeName X.env x u) Q E s:=by
 obtain ⟨m,hn,hl⟩:=id I.loc
 have hcls:(X.env.scope.kind==.class||(X.env.scope.kind==.module&&X.env.locals != X.env.globals))=false:=by rw [I.ok.kind];rfl
 have hiσ:i<σ.length:=by rw [I.len];exact (Ae.mp hi).1
 have cne:=I.cne
 have tracked:∀ {a:Addr} {h':Heap},(∃ o,s.heap.get? a=some o∧H a=none)->Heap.SameBut a s.heap h'->HOk X.prog X.w H h':=λ{a h'} ha hs b ob e=>by
  obtain ⟨_,_,hfree⟩:=ha
  refine (I.hok b ob e).stay (λc w' hc q=>(hs.2 c ?_).trans q) (λ_ q=>q) λ_ _ q=>q
  rintro rfl
  rcases hc with rfl|hc
  ·rw [hfree] at e;cases e
  ·rw [hfree] at hc;cases hc
 rcases hx with hk|hk
 ·refine wpAny_storeName_local hk hn (λh' hn' hs=>?_) hcls
  obtain ⟨oL,_,_,hoL,_⟩:=id hn
  refine h _ ⟨I.ok,I.os,I.bare,⟨λb o e n hb hx=>?_,λb o e n hb hx=>?_,I.base.free,λb o e hx=>?_,I.base.tups,I.base.frzs,I.base.tbls⟩,⟨_,hn',λj y v' e1 e2 e3=>?_⟩,λy c e=>?_,I.free,I.freeC,λp hp=>?_,tracked ⟨oL,hoL,I.free⟩ hs,by simpa using I.len⟩ ⟨_,hs,.inl rfl⟩
  ·exact (hs.2 b (Au (AD (Al e) I.ok.above))).trans (I.base.keep b o e n hb hx)
  ·obtain ⟨sl,e1⟩:=I.base.slot b o e n hb hx
   exact ⟨sl,(hs.2 b (Au (AD (Al e) I.ok.above))).trans e1⟩
  ·obtain ⟨o',e1⟩:=I.base.there b o e hx
   exact ⟨o',(hs.2 b (Au (AD (Al e) I.ok.above))).trans e1⟩
  ·by_cases hj:j=i
   ·subst hj
    rw [hi] at e1;cases e1
    rw [Cc hiσ] at e2
    cases e2
    exact ⟨u,r,.inl ⟨hk,by simp⟩⟩
   ·rw [AM (Ne.symm hj)] at e2
    obtain ⟨u',r',q⟩:=hl j y v' e1 e2 e3
    refine ⟨u',r',?_⟩
    rcases q with ⟨k,e⟩|⟨k,c,e,z⟩
    ·refine .inl ⟨k,?_⟩
     have:y≠x:=λe=>hj (MB hN e1 (e▸hi))
     simp [this,e]
    ·exact .inr ⟨k,c,e,z.sameBut hs (cne y c e)⟩
  ·obtain ⟨w',z⟩:=I.cell y c e
   exact ⟨w',z.sameBut hs (cne y c e)⟩
  ·obtain ⟨e,n,ne,nf,d⟩:=I.pin p hp
   exact ⟨(hs.2 p.1 ne).trans e,n,ne,nf,d⟩
 ·have hfn:X.fn x=true:=by
   rcases hf with z|z
   ·exact z
   ·rw [z] at hk;cases hk
  obtain ⟨c,hc⟩:=I.ok.has x (.inl hk)
  obtain ⟨w',z⟩:=I.cell x c hc
  refine wpAny_storeName_cell I.ok.kind hk hc z (λh' hc' hs=>?_)
  obtain ⟨oc,hoc,hocd⟩:=id z
  refine h { s with heap:=h' } ⟨I.ok,I.os,I.bare,⟨λb o e n hb hx=>?_,λb o e n hb hx=>?_,I.base.free,λb o e hx=>?_,I.base.tups,I.base.frzs,I.base.tbls⟩,⟨m,hn.sameBut hs (Ne.symm (cne x c hc)),λj y v' e1 e2 e3=>?_⟩,λy c' e=>?_,I.free,I.freeC,λp hp=>?_,tracked ⟨oc,hoc,I.freeC x c hc⟩ hs,by simpa using I.len⟩ ⟨c,hs,.inr hc⟩
  ·exact (hs.2 b (Au (AD (Al e) (I.ok.cab x c hfn hc)))).trans (I.base.keep b o e n hb hx)
  ·obtain ⟨sl,e1⟩:=I.base.slot b o e n hb hx
   exact ⟨sl,(hs.2 b (Au (AD (Al e) (I.ok.cab x c hfn hc)))).trans e1⟩
  ·obtain ⟨o',e1⟩:=I.base.there b o e hx
   exact ⟨o',(hs.2 b (Au (AD (Al e) (I.ok.cab x c hfn hc)))).trans e1⟩
  ·by_cases hj:j=i
   ·subst hj
    rw [hi] at e1;cases e1
    rw [Cc hiσ] at e2
    cases e2
    exact ⟨u,r,.inr ⟨.inl hk,c,hc,hc'⟩⟩
   ·rw [AM (Ne.symm hj)] at e2
    obtain ⟨u',r',q⟩:=hl j y v' e1 e2 e3
    refine ⟨u',r',?_⟩
    rcases q with q|⟨k,c',e,z'⟩
    ·exact .inl q
    ·refine .inr ⟨k,c',e,z'.sameBut hs ?_⟩
     rintro rfl
     exact hj (MB hN e1 (I.ok.inj _ _ _ e hc▸hi))
  ·by_cases hcc:c'=c
   ·subst hcc;exact ⟨_,hc'⟩
   ·obtain ⟨w2,z2⟩:=I.cell y c' e
    exact ⟨w2,z2.sameBut hs hcc⟩
  ·obtain ⟨e,n,ne,nf,d⟩:=I.pin p hp
   refine ⟨(hs.2 p.1 ?_).trans e,n,ne,nf,d⟩
   intro q
   rw [q,hoc] at e
   have q':oc=p.2:=AB e
   exact d w' (by rw [← q'];exact hocd)
theorem Fx {M:Model}{A:Around}{E:Value->Shared->Prop}{i:Nat}{x:Str}{v:V}{u:Value}{Q:Unit->Shared->Prop}(I:Inv X pins σ H s)(hN:X.N.Nodup)(hi:X.N[i]? = some x)(hx:Loc X.env.scope x)(r:RelV v u)
  (h:∀ s',Inv X pins (σ.set i (some v)) H s'->Q () s') (hf:X.fn x=true∨X.env.scope.names.lookup x=some .local:=by first|exact .inl rfl|exact .inr rfl|assumption):wpAny M A (storeName X.env x u) Q E s:=
 Pz I hN hi hx r (λs' I' _=>h s' I') hf
theorem Inv.call' {s':Shared}{ch:List Addr}(I:Inv X pins σ H s)(ho:s'.os=s.os)(u:Un (frs X.stack) ch H H' s.heap s'.heap)(hok:HOk X.prog X.w H' s'.heap)(hg:AllBare s'.gens)
  (hch:∀ b∈ch,(b∈X.ex∨X.s₀.heap.objs.size≤b)∧b≠X.env.locals∧(∀ x c,X.env.cells.lookup x=some c->c≠b)∧∀ p∈X.pn++pins,p.1≠b):Inv X pins σ H' s':=by
 obtain ⟨h',g',d',t',o'⟩:=s'
 have e:o'=s.os:=ho
 subst e
 exact I.call (g':=g') (t':=t') (d':=d') u hok hg hch
end
noncomputable abbrev XK:=Value->Option Addr->Hp->Prop
noncomputable abbrev St:=List (Option V)
noncomputable abbrev VK:=V->Hp->Prop
noncomputable abbrev TE:=St->Hp->VK->Prop
noncomputable abbrev TT:=St->Hp->(Bool->Hp->Prop)->Prop
noncomputable abbrev TA:=St->Hp->(List V->Hp->Prop)->Prop
structure Ends where
 nx:St->Hp->Prop
 rt:VK
 bk:St->Hp->Prop:=λ_ _=>False
 ct:St->Hp->Prop:=λ_ _=>False
noncomputable abbrev TS:=Ends->St->Hp->Prop
noncomputable def EP (X:Cx)(pins:List (Addr×Obj))(σ:St)(Q:VK)(u:Value)(s':Shared):Prop:=∃ v H',Inv X pins σ H' s'∧RelV v u∧Q v H'
noncomputable def TP (X:Cx)(pins:List (Addr×Obj))(σ:St)(Q:Bool->Hp->Prop)(b:Bool)(s':Shared):Prop:=∃ H',Inv X pins σ H' s'∧Q b H'
noncomputable def AP (X:Cx)(pins:List (Addr×Obj))(σ:St)(Q:List V->Hp->Prop)(us:List Value)(s':Shared):Prop:=∃ vs H',Inv X pins σ H' s'∧Vals vs us∧Q vs H'
noncomputable def SP (X:Cx)(pins:List (Addr×Obj))(D:Ends)(f:Flow)(s':Shared):Prop:=
 match f with
 | .next=>∃ σ' H',Inv X pins σ' H' s'∧D.nx σ' H'
 | .brk=>∃ σ' H',Inv X pins σ' H' s'∧D.bk σ' H'
 | .cont=>∃ σ' H',Inv X pins σ' H' s'∧D.ct σ' H'
 | .ret u=>∃ v σ' H',Inv X pins σ' H' s'∧RelV v u∧D.rt v H'
noncomputable def PE (X:Cx)(e:Expr)(t:TE):Prop:=
 ∀ (pins:List (Addr×Obj)) (s:Shared) (σ:St) (H:Hp) (Q:VK),Inv X pins σ H s->t σ H Q->wpAny (model X.prog X.w) X.A (eval e X.env) (EP X pins σ Q) X.xe s
noncomputable def PT (X:Cx)(e:Expr)(t:TT):Prop:=
 ∀ (pins:List (Addr×Obj)) (s:Shared) (σ:St) (H:Hp) (Q:Bool->Hp->Prop),Inv X pins σ H s->t σ H Q->wpAny (model X.prog X.w) X.A (isTrue e X.env (eval e X.env)) (TP X pins σ Q) X.xe s
noncomputable def PW (X:Cx)(e:Expr)(t:TT):Prop:=
 ∀ (whole:Sem Value) (pins:List (Addr×Obj)) (s:Shared) (σ:St) (H:Hp) (Q:Bool->Hp->Prop),Inv X pins σ H s->t σ H Q->wpAny (model X.prog X.w) X.A (isTrue e X.env whole) (TP X pins σ Q) X.xe s
theorem PW.pt {X:Cx}{e:Expr}{t:TT}(h:PW X e t):PT X e t:=h _
noncomputable def PA (X:Cx)(es:List Expr)(t:TA):Prop:=
 ∀ (pos:Pos) (pins:List (Addr×Obj)) (s:Shared) (σ:St) (H:Hp) (Q:List V->Hp->Prop),Inv X pins σ H s->t σ H Q->wpAny (model X.prog X.w) X.A (spliced (backTo pos (starEach es X.env))) (AP X pins σ Q) X.xe s
noncomputable def PS (X:Cx)(st:Stmt)(t:TS):Prop:=
 ∀ (pins:List (Addr×Obj)) (s:Shared) (σ:St) (H:Hp) (D:Ends),Inv X pins σ H s->t D σ H->wpAny (model X.prog X.w) X.A (exec st X.env) (SP X pins D) X.xe s
noncomputable def PSs (X:Cx)(st:List Stmt)(t:TS):Prop:=
 ∀ (pins:List (Addr×Obj)) (s:Shared) (σ:St) (H:Hp) (D:Ends),Inv X pins σ H s->t D σ H->wpAny (model X.prog X.w) X.A (execs st X.env) (SP X pins D) X.xe s
theorem thn {α:Type}{t:Sem α}{Q Q':α->Shared->Prop}{M:Model}{A:Around}{E:Value->Shared->Prop}{s:Shared}(h:wpAny M A t Q E s)(hQ:∀ a s,Q a s->Q' a s):wpAny M A t Q' E s:=B2 h hQ λ_ _ x=>x
section
variable {X:Cx}
noncomputable def Zr (i:Nat):TE:=fun σ H Q=>∃ v,σ[i]? = some (some v)∧Q v H
noncomputable def tC (v:V):TE:=λ_ H Q=>Q v H
theorem Q4 {i:Nat}{x:Str}{pos:Pos}(hN:X.N[i]? = some x)(hv:Vis X.env.scope x)(hd:(x==("__debug__":Str))=false:=by decide)(hcd:(x==("__classdict__":Str))=false:=by decide):PE X (.Name x pos) (Zr i):=by
 intro pins s σ H Q I h
 obtain ⟨v,e,h⟩:=h
 obtain ⟨m,hn,hl⟩:=I.loc
 obtain ⟨u,r,l⟩:=hl i x v hN e hv
 have fin:EP X pins σ Q u s:=⟨v,H,I,r,h⟩
 rcases l with ⟨hk,hm⟩|⟨hk,c,hc,hcell⟩
 ·exact wpAny_Name (wpAny_loadName_local I.ok.kind hk hn hm fin) hd
 ·rcases hk with hk|hk
  ·exact wpAny_Name (wpAny_loadName_cell I.ok.kind hk hc hcell fin) hd
  ·exact wpAny_Name (wpAny_loadName_free I.ok.kind hk hc hcell fin hcd) hd
theorem Sb {i j pos}:PE X (.Constant (.int i) j pos) (tC (.int i)):=λ_ _ _ H _ I h=>wpAny_Constant_int ⟨.int i,H,I.tok _,⟨_,rfl⟩,h⟩
theorem ZE {b j pos}:PE X (.Constant (.bool b) j pos) (tC (.bl b)):=λ_ _ _ H _ I h=>Constant_bool ⟨.bl b,H,I,rfl,h⟩
theorem Xh {j pos}:PE X (.Constant .none j pos) (tC .non):=λ_ _ _ H _ I h=>Constant_none ⟨.non,H,I,rfl,h⟩
theorem XH {x j pos}:PE X (.Constant (.str x) j pos) (tC (.str x)):=λ_ _ _ H _ I h=>Calls.Constant_str ⟨.str x,H,I.tok _,⟨_,rfl⟩,h⟩
noncomputable def Gl (X:Cx)(x:Str):Prop:=X.env.kindOf x=some .globalImplicit
theorem UJ {E:Value->Shared->Prop}{pins:List (Addr×Obj)}{s:Shared}{σ:St}{H:Hp}{x:Str}{u:Value}{pos:Pos}{Q:Value->Shared->Prop}(I:Inv X pins σ H s)(hg:Gl X x)(hm:X.mg x=some u)(h:Q u s)
  (hd:(x==("__debug__":Str))=false:=by decide):wpAny (model X.prog X.w) X.A (eval (.Name x pos) X.env) Q E s:=
 Calls.Name_function_global I.ok.kind hg (Calls.loadGlobal_global (by rw [I.ok.glob];exact I.mod.glob.keeps I.bk) hm h) hd
theorem IF {E:Value->Shared->Prop}{pins:List (Addr×Obj)}{s:Shared}{σ:St}{H:Hp}{x:Str}{u:Value}{pos:Pos}{Q:Value->Shared->Prop}(I:Inv X pins σ H s)(hg:Gl X x)(hm:X.mg x=none)(hv:bootBuiltins x=some u)(h:Q u s)
  (hn:x≠"__name__":=by decide) (hd:(x==("__debug__":Str))=false:=by decide):wpAny (model X.prog X.w) X.A (eval (.Name x pos) X.env) Q E s:=by
 obtain ⟨mb,h1,h2⟩:=I.mod.blt
 exact Calls.Name_function_global I.ok.kind hg (Calls.loadGlobal_builtin (by rw [I.ok.glob];exact I.mod.glob.keeps I.bk) hm (by rw [I.ok.blt];exact h1.keeps I.bk) ((h2 x hn).trans hv) h) hd
theorem Vb {x:Str}{v:V}{u:Value}{pos:Pos}(hg:Gl X x)(hm:X.mg x=none)(hv:bootBuiltins x=some u)(r:RelV v u)(hn:x≠"__name__":=by decide)(hd:(x==("__debug__":Str))=false:=by decide):PE X (.Name x pos) (tC v):=
 λ_ _ _ H _ I h=>IF I hg hm hv ⟨v,H,I,r,h⟩ hn hd
variable {a b:Expr} {ta tb:TE} {pos:Pos}
noncomputable def tB (t:TE):TT:=fun σ H Q=>t σ H λx H1=>∃ c,x=.bl c∧Q c H1
theorem Xe {e:Expr}{t:TE}(h:PE X e t)(he:∀ whole,isTrue e X.env whole=(do let v←whole;standAt e.pos;holding [v] (truthy v)):=by intro _;rfl):PT X e (tB t):=by
 intro pins s σ H Q I hw
 refine isTrue_plain (thn (h pins s σ H _ I hw) λv s1 ⟨x,H1,I1,r1,q1⟩=>?_) (he _)
 obtain ⟨d,rfl,q⟩:=q1
 cases r1
 exact B8 ⟨H1,I1,q⟩
variable {tA tB':TT} {rest:List Expr}
noncomputable def tOr (t u:TT):TT:=fun σ H Q=>t σ H λc H1=>if c=true then Q true H1 else u σ H1 Q
noncomputable def Aay (t:TT):TT:=fun σ H Q=>t σ H λc H1=>Q (!c) H1
theorem V6 (ha:PT X a tA):PW X (.BoolOp .Or [a] pos) tA:=by
 intro wh pins s σ H Q I h
 refine isTrue_or (thn (ha pins s σ H Q I h) λc s1 e=>?_)
 cases c with
 | false=>exact isTrue_or_nil e
 | true=>exact e
theorem ZG (ha:PT X a tA)(hb:PW X (.BoolOp .Or (b::rest) pos) tB'):PW X (.BoolOp .Or (a::b::rest) pos) (tOr tA tB'):=by
 intro wh pins s σ H Q I h
 refine isTrue_or (thn (ha pins s σ H _ I h) λc s1 ⟨H1,I1,q1⟩=>?_)
 cases c with
 | true=>exact ⟨H1,I1,q1⟩
 | false=>exact hb wh pins s1 σ H1 Q I1 q1
theorem XG (ha:PT X a tA):PT X (.UnaryOp .Not a pos) (Aay tA):=by
 intro pins s σ H Q I h
 exact isTrue_not (ha pins s σ H (λc H1=>Q (!c) H1) I h)
noncomputable def Zd (ta tb:TE):TE:=fun σ H Q=>ta σ H λx H1=>∃ c,x=.bl c∧if c=true then tb σ H1 Q else Q (.bl false) H1
theorem WD {op}{t:TE}(h:PE X a t):PE X (.BoolOp op [a] pos) t:=λpins s σ H Q I hw=>BoolOp_one (h pins s σ H Q I hw)
theorem Xm (ha:PE X a ta)(hb:PE X (.BoolOp .And (b::rest) pos) tb):PE X (.BoolOp .And (a::b::rest) pos) (Zd ta tb):=by
 intro pins s σ H Q I h
 refine BoolOp_and (thn (ha pins s σ H _ I h) λv s1 ⟨x,H1,I1,r1,q1⟩=>?_)
 obtain ⟨c,rfl,q1⟩:=q1
 cases r1
 refine B8 ?_
 cases c with
 | true=>exact hb pins s1 σ H1 Q I1 q1
 | false=>exact ⟨.bl false,H1,I1,rfl,q1⟩
end
noncomputable def SqL (K:PySem.W.Frag)(H:Hp)(a:Addr)(xs:List V):Prop:=
 Rd H a (.lst xs) ∨
  ∃ (o:Obj) (its:Array Value) (n:Nat),K.lookup a=some o∧o.cls=.type "list"∧o.dict=none∧o.data=.seq its n∧its.size≤sizeLine∧Vals xs its.toList
noncomputable def SqT (K:PySem.W.Frag)(H:Hp)(a:Addr)(xs:List V):Prop:=
 Rd H a (.tup xs) ∨
  ∃ (o:Obj) (its:Array Value) (n:Nat),K.lookup a=some o∧o.cls=.type "tuple"∧o.dict=none∧o.data=.seq its n∧its.size≤sizeLine∧Vals xs its.toList
noncomputable def Aad:Value->Option V
 | .none=>some .non
 | .bool b=>some (.bl b)
 | .int i _=>some (.int i)
 | .str x _=>some (.str x)
 | .bytes b _=>some (.byt b)
 | .float b _=>some (.flt b)
 | .ref a=>some (.ref a)
 | .type n=>some (.ty n)
 | _=>none
theorem RelV.abs {x:V}{u:Value}(r:RelV x u):Aad u=some x:=by
 cases x with
 | non=>cases r;rfl
 | bl _=>cases r;rfl
 | int _=>obtain ⟨t,rfl⟩:=r;rfl
 | str _=>obtain ⟨t,rfl⟩:=r;rfl
 | byt _=>obtain ⟨t,rfl⟩:=r;rfl
 | flt _=>obtain ⟨t,rfl⟩:=r;rfl
 | ref _=>cases r;rfl
 | ty _=>cases r;rfl
theorem RelV.inj {x y:V}{u:Value}(r:RelV x u)(q:RelV y u):x=y:=AB (r.abs.symm.trans q.abs)
theorem Vals.inj:∀ {xs ys:List V} {us:List Value},Vals xs us->Vals ys us->xs=ys
 | _,_,_,.nil,.nil=>rfl
 | _,_,_,.cons r t,.cons r' t'=>by rw [r.inj r',Vals.inj t t']
section
variable {X:Cx} {pins:List (Addr×Obj)} {σ:St} {H:Hp} {s:Shared} {a:Addr} {xs ys:List V}
theorem SqL.of {K:PySem.W.Frag}(h:H a=some (.lst xs)):SqL K H a xs:=.inl (.inl h)
theorem SqT.of {K:PySem.W.Frag}(h:H a=some (.tup xs)):SqT K H a xs:=.inl (.inl h)
theorem Inv.list (I:Inv X pins σ H s)(h:SqL X.K H a xs):∃ its:List Value,Vals xs its∧PlainL s.heap a its.toArray∧xs.length≤sizeLine:=by
 rcases h with h|⟨o,its,n,hk,hc,hd,hs,hz,r⟩
 ·obtain ⟨z,its,n,r,e⟩:=h.ok I.hok
  exact ⟨its,r,⟨_,n,e,rfl,rfl,rfl⟩,z⟩
 ·refine ⟨its.toList,r,⟨o,n,I.kIn a o hk,hc,hd,by simpa using hs⟩,?_⟩
  have e:=r.length
  simp only [Array.length_toList] at e
  omega
theorem Inv.tupleD (I:Inv X pins σ H s)(h:SqT X.K H a xs):∃ o,s.heap.get? a=some o∧o.dict=none∧o.cls=.type "tuple":=by
 rcases h with h|⟨o,its,n,hk,hc,hd,hs,hz,r⟩
 ·obtain ⟨⟨z,o,g1,g2⟩,its,r,o',g3,g4,_⟩:=h.ok I.hok
  rw [g1] at g3
  cases g3
  exact ⟨o,g1,g2,g4⟩
 ·exact ⟨o,I.kIn a o hk,hd,hc⟩
theorem Inv.tuple (I:Inv X pins σ H s)(h:SqT X.K H a xs):∃ its:List Value,Vals xs its∧IsTup s.heap a its.toArray∧xs.length≤sizeLine:=by
 rcases h with h|⟨o,its,n,hk,hc,_,hs,hz,r⟩
 ·obtain ⟨⟨z,_⟩,its,r,p⟩:=h.ok I.hok
  exact ⟨its,r,p,z⟩
 ·refine ⟨its.toList,r,⟨o,I.kIn a o hk,hc,n,by simpa using hs⟩,?_⟩
  have e:=r.length
  simp only [Array.length_toList] at e
  omega
theorem Inv.list_inj (I:Inv X pins σ H s)(h:SqL X.K H a xs)(h':SqL X.K H a ys):xs=ys:=by
 obtain ⟨its,r,⟨o,n,e,_,_,d⟩,_⟩:=I.list h
 obtain ⟨its',r',⟨o',n',e',_,_,d'⟩,_⟩:=I.list h'
 rw [e] at e';cases e'
 rw [d] at d'
 injection d' with d1 _
 have:its=its':=by simpa using congrArg Array.toList d1
 subst this
 exact r.inj r'
theorem Inv.tuple_inj (I:Inv X pins σ H s)(h:SqT X.K H a xs)(h':SqT X.K H a ys):xs=ys:=by
 obtain ⟨its,r,⟨o,e,_,n,d⟩,_⟩:=I.tuple h
 obtain ⟨its',r',⟨o',e',_,n',d'⟩,_⟩:=I.tuple h'
 rw [e] at e';cases e'
 rw [d] at d'
 injection d' with d1 _
 have:its=its':=by simpa using congrArg Array.toList d1
 subst this
 exact r.inj r'
end
noncomputable abbrev Cx.wish (X:Cx) (E:Value->Shared->Prop):Cx:={ X with xe:=E }
noncomputable abbrev Cx.nox (X:Cx):Cx:=X.wish λ_ _=>False
theorem Cx.Ok.wish {X:Cx}(ok:X.Ok)(E:Value->Shared->Prop):(X.wish E).Ok:=
 ⟨ok.mod,ok.kind,ok.glob,ok.blt,ok.above,ok.inj,ok.has,ok.cab,ok.hd,ok.frames,ok.stk,ok.exf,ok.bs,ok.bsz,ok.noex,ok.exfs,ok.funs,ok.frf⟩
theorem Cx.Ok.unwish {X:Cx}{E:Value->Shared->Prop}(ok:(X.wish E).Ok):X.Ok:=
 ⟨ok.mod,ok.kind,ok.glob,ok.blt,ok.above,ok.inj,ok.has,ok.cab,ok.hd,ok.frames,ok.stk,ok.exf,ok.bs,ok.bsz,ok.noex,ok.exfs,ok.funs,ok.frf⟩
section
variable {X:Cx} {pins:List (Addr×Obj)} {σ:St} {H:Hp} {s:Shared} {E:Value->Shared->Prop}
theorem Inv.wish (I:Inv X pins σ H s)(E:Value->Shared->Prop):Inv (X.wish E) pins σ H s:=⟨I.ok.wish E,I.os,I.bare,I.base,I.loc,I.cell,I.free,I.freeC,I.pin,I.hok,I.len⟩
theorem Inv.unwish (I:Inv (X.wish E) pins σ H s):Inv X pins σ H s:=⟨I.ok.unwish,I.os,I.bare,I.base,I.loc,I.cell,I.free,I.freeC,I.pin,I.hok,I.len⟩
theorem SP.unwish {D:Ends}{f:Flow}{s':Shared}(h:SP (X.wish E) pins D f s'):SP X pins D f s':=by
 cases f with
 | next=>obtain ⟨σ',H',I,q⟩:=h;exact ⟨σ',H',I.unwish,q⟩
 | brk=>obtain ⟨σ',H',I,q⟩:=h;exact ⟨σ',H',I.unwish,q⟩
 | cont=>obtain ⟨σ',H',I,q⟩:=h;exact ⟨σ',H',I.unwish,q⟩
 | ret u=>obtain ⟨v,σ',H',I,r,q⟩:=h;exact ⟨v,σ',H',I.unwish,r,q⟩
theorem PSs.nox {st:List Stmt}{t:TS}(h:PSs X.nox st t):PSs X st t:=λpins s σ H D I hw =>
 B2 (h pins s σ H D (I.wish _) hw) (λ_ _ q=>q.unwish) λ_ _ z=>False.elim z
end
section
variable {X:Cx} {st:Stmt} {rest:List Stmt} {t u:TS} {e:Expr} {te:TE} {pos:Pos}
noncomputable def ZJ:TS:=λD σ H=>D.nx σ H
noncomputable def AaH (t u:TS):TS:=λD σ H=>t { D with nx:=u D } σ H
theorem Vq:PSs X [] ZJ:=λ_ _ σ H _ I h=>wpAny_execs_nil ⟨σ,H,I,h⟩
theorem Rw (h1:PS X st t)(h2:PSs X rest u):PSs X (st::rest) (AaH t u):=by
 intro pins s σ H D I h
 refine wpAny_execs_cons (thn (h1 pins s σ H { D with nx:=u D } I h) λf s1 q=>?_)
 cases f with
 | next =>
  obtain ⟨σ',H',I',q⟩:=q
  exact h2 pins s1 σ' H' D I' q
 | ret v=>exact q
 | brk=>exact q
 | cont=>exact q
theorem TX (h1:PS X st t):PSs X [st] t:=by
 intro pins s σ H D I h
 refine wpAny_execs_cons (thn (h1 pins s σ H D I h) λf s1 q=>?_)
 cases f with
 | next=>exact wpAny_execs_nil q
 | ret v=>exact q
 | brk=>exact q
 | cont=>exact q
theorem Inv.quiet {pins:List (Addr×Obj)}{σ:St}{H:Hp}{s:Shared}(I:Inv X pins σ H s):interactive X.env=false:=by simp [interactive,I.ok.kind]
noncomputable def ZC (te:TE):TS:=λD σ H=>te σ H λ_ H1=>D.nx σ H1
theorem Ub (he:PE X e te)(hs:swapsWith e none pos.line X.env=pure false:=by rfl):PS X (.Expr e pos) (ZC te):=by
 intro pins s σ H D I h
 exact wpAny_Expr_any (thn (he pins s σ H _ I h) λv s1 ⟨x,H1,I1,r1,q1⟩=>⟨σ,H1,I1,q1⟩) I.quiet hs
noncomputable def AaL (te:TE):TS:=λD σ H=>te σ H D.rt
theorem V9 (he:PE X e te):PS X (.Return (some e) pos) (AaL te):=by
 intro pins s σ H D I h
 exact wpAny_Return_some (thn (he pins s σ H _ I h) λv s1 ⟨x,H1,I1,r1,q1⟩=>⟨x,σ,H1,I1,r1,q1⟩)
noncomputable def ZV (c:TT)(t u:TS):TS:=λD σ H=>c σ H λb H1=>if b=true then t D σ H1 else u D σ H1
theorem Yo {c:Expr}{a b:List Stmt}{tc:TT}(hc:PT X c tc)(ha:PSs X a t)(hb:PSs X b u):PS X (.If c a b pos) (ZV tc t u):=by
 intro pins s σ H D I h
 refine wpAny_If (thn (hc pins s σ H _ I h) λd s1 ⟨H1,I1,q1⟩=>?_)
 cases d with
 | true=>exact ha pins s1 σ H1 D I1 q1
 | false=>exact hb pins s1 σ H1 D I1 q1
end
noncomputable abbrev TG:=V->St->Hp->(St->Hp->Prop)->Prop
noncomputable abbrev TGs:=List V->St->Hp->(St->Hp->Prop)->Prop
noncomputable def PG (X:Cx)(target:Expr)(t:TG):Prop:=
 ∀ (pins:List (Addr×Obj)) (s:Shared) (σ:St) (H:Hp) (v:V) (u:Value) (Q:St->Hp->Prop),Inv X pins σ H s->RelV v u->t v σ H Q ->
  wpAny (model X.prog X.w) X.A (assign target X.env u) (λ_ s'=>∃ σ' H',Inv X pins σ' H' s'∧Q σ' H') X.xe s
noncomputable def PGs (X:Cx)(ts:List Expr)(t:TGs):Prop:=
 ∀ (pins:List (Addr×Obj)) (s:Shared) (σ:St) (H:Hp) (vs:List V) (us:List Value) (Q:St->Hp->Prop),Inv X pins σ H s->Vals vs us->t vs σ H Q ->
  wpAny (model X.prog X.w) X.A (assignInOrder ((assignEach ts X.env).map (·.2)) us) (λ_ s'=>∃ σ' H',Inv X pins σ' H' s'∧Q σ' H') X.xe s
noncomputable abbrev QW:=V->V->V->Hp->(Hp->Prop)->Prop
noncomputable def UN (X:Cx)(t:QW):Prop:=
 ∀ (pins:List (Addr×Obj)) (s:Shared) (σ:St) (H:Hp) (o i v:V) (ov iv u:Value) (Q:Hp->Prop),Inv X pins σ H s->RelV o ov->RelV i iv->RelV v u->t o i v H Q ->
  wpAny (model X.prog X.w) X.A (setItem ov iv u) (λ_ s'=>∃ H',Inv X pins σ H' s'∧Q H') X.xe s
section
variable {X:Cx} {pos:Pos}
noncomputable def QX (i:Nat):TG:=λv σ H Q=>Q (σ.set i (some v)) H
theorem Tv {i:Nat}{x:Str}(hN:X.N.Nodup)(hi:X.N[i]? = some x)(hx:Loc X.env.scope x)(hf:X.fn x=true∨X.env.scope.names.lookup x=some .local:=by first|exact .inl rfl|exact .inr rfl|assumption):PG X (.Name x pos) (QX i):=by
 intro pins s σ H v u Q I r h
 exact wpAny_assign_Name (Fx I hN hi hx r (λs' I'=>⟨_,H,I',h⟩) hf)
noncomputable def Aaf:TGs:=λvs σ H Q=>vs=[]∧Q σ H
noncomputable def Yd (t:TG)(u:TGs):TGs:=λvs σ H Q=>∃ v r,vs=v::r∧t v σ H fun σ' H'=>u r σ' H' Q
theorem US:PGs X [] Aaf:=by
 intro pins s σ H vs us Q I r h
 obtain ⟨e,h⟩:=h
 subst e
 cases r
 exact assignInOrder_nil ⟨σ,H,I,h⟩
theorem SU {e:Expr}{es:List Expr}{t:TG}{u:TGs}(h1:PG X e t)(h2:PGs X es u)
  (hs:(assignEach (e::es) X.env).map (·.2)=assign e X.env::(assignEach es X.env).map (·.2):=by rfl):PGs X (e::es) (Yd t u):=by
 intro pins s σ H vs us Q I r h
 obtain ⟨v,vr,e1,h⟩:=h
 subst e1
 cases r with
 | cons r rr =>
  rw [hs]
  refine assignInOrder_cons (thn (h1 pins s σ H _ _ _ I r h) λ_ s1 ⟨σ1,H1,I1,q1⟩=>?_)
  exact h2 pins s1 σ1 H1 _ _ Q I1 rr q1
noncomputable def Z3 (K:PySem.W.Frag)(n:Nat)(t:TGs):TG:=λv σ H Q=>∃ a xs,v=.ref a∧SqT K H a xs∧xs.length=n∧t xs σ H Q
theorem WL {es:List Expr}{k:Nat}{t:TGs}{n:Nat}(hc:X.calm=true)(h:PGs X es t)
  (hn:(assignEach es X.env).length=n:=by rfl) (hst:(assignEach es X.env).findIdx? (·.1)=none:=by rfl):PG X (.Tuple es k pos) (Z3 X.K n t):=by
 intro pins s σ H v u Q I r hw
 obtain ⟨a,xs,e1,hq,hl,hw⟩:=hw
 subst e1
 cases r
 obtain ⟨its,rv,ht,hz⟩:=I.tuple hq
 refine assign_Tuple_tuple (I.ok.hd hc) ht (by simp [hn,← hl,rv.length]) hst λh' hx=>?_
 have I1:Inv X pins σ H { s with heap:=h' }:=I.kept (t':=s.toks) λb o e=>hx b o (Au (Al e)) e
 exact h pins _ σ H xs _ Q I1 (by simpa using rv) hw
noncomputable def Aam (to ti:TE)(t:QW):TG:=λv σ H Q=>to σ H λo H1=>ti σ H1 λi H2=>t o i v H2 λH3=>Q σ H3
theorem WM {o i:Expr}{to ti:TE}{t:QW}(ho:PE X o to)(hi:PE X i ti)(hs:UN X t)
  (ha:∀ v,assign (.Subscript o i pos) X.env v=(do
   let ov←holding [v] (eval o X.env)
   let iv←holding [v,ov] (eval i X.env)
   standAt pos
   holding [v,ov,iv] (setItem ov iv v)
   release [v,ov,iv] []):=by intro _;rfl):PG X (.Subscript o i pos) (Aam to ti t):=by
 intro pins s σ H v u Q I r h
 rw [ha]
 refine Aa (AI (thn (ho pins s σ H _ I h) λov s1 ⟨x,H1,I1,r1,q1⟩=>?_))
 refine Aa (AI (thn (hi pins s1 σ H1 _ I1 q1) λiv s2 ⟨y,H2,I2,r2,q2⟩=>?_))
 refine Aa (wpAny_standAt (Aa (AI (thn (hs pins s2 σ H2 x y v ov iv u _ I2 r1 r2 r q2) λ_ s3 ⟨H3,I3,q3⟩=>?_))))
 exact wpAny_release ⟨σ,H3,I3,q3⟩
noncomputable def TB (te:TE)(g:TG):TS:=λD σ H=>te σ H λx H1=>g x σ H1 D.nx
theorem XN {tg e:Expr}{te:TE}{g:TG}(he:PE X e te)(hg:PG X tg g)(hs:swapsWithSole [tg] e pos.line X.env=pure false:=by rfl)(hw:swappedStores [tg] e X.env=pure none:=by rfl)
  (h1:(assignEach [tg] X.env).map (·.2)=[assign tg X.env]:=by rfl):PS X (.Assign [tg] e pos) (TB te g):=by
 intro pins s σ H D I h
 refine wpAny_Assign_stores (thn (he pins s σ H _ I h) λv s1 ⟨x,H1,I1,r1,q1⟩=>?_) hs hw
 rw [h1]
 exact thn (hg pins s1 σ H1 x v _ I1 r1 q1) λ_ s2 q=>q
theorem Wt {i:Nat}{x:Str}{e:Expr}{te:TE}{pos':Pos}(hN:X.N.Nodup)(hi:X.N[i]? = some x)(hx:Loc X.env.scope x)(he:PE X e te)(hs:swapsWith e (some (.Name x pos')) pos.line X.env=pure false:=by rfl)(hf:X.fn x=true∨X.env.scope.names.lookup x=some .local:=by first|exact .inl rfl|exact .inr rfl|assumption) :
  PS X (.Assign [.Name x pos'] e pos) (TB te (QX i)):=by
 intro pins s σ H D I h
 refine wpAny_Assign_Name (thn (he pins s σ H _ I h) λv s1 ⟨y,H1,I1,r1,q1⟩=>?_) hs
 exact Fx I1 hN hi hx r1 (λs2 I2=>⟨_,H1,I2,q1⟩) hf
end
structure It where
 go:Nat->Hp->Prop
 yld:Nat->Hp->V->Hp->Prop
 stop:Nat->Hp->Prop
noncomputable def FT (X:Cx)(pins:List (Addr×Obj))(H:Hp)(b:Addr):Prop:=
 H b=none∧b≠X.env.locals∧b∉X.fs∧(b∈X.ex∨X.s₀.heap.objs.size≤b)∧(∀ x c,X.env.cells.lookup x=some c->c≠b)∧∀ p∈X.pn++pins,p.1≠b
theorem Inv.fpOk {X:Cx}{pins:List (Addr×Obj)}{σ:St}{H H':Hp}{s:Shared}{b:Addr}(I:Inv X pins σ H s)(hb:s.heap.objs.size≤b)(hn:H' b=none):FT X pins H' b:=by
 refine ⟨hn,BQ (AD I.lt hb),I.nofs hb,.inr (AJ I.sz hb),λx c e z=>?_,λp hp z=>?_⟩
 ·obtain ⟨v,q⟩:=I.cell x c e
  exact absurd (AD q.lt (by rw [z];exact hb)) (A6 _)
 ·exact absurd (AD (Al (I.pin p hp).1) (by rw [z];exact hb)) (A6 _)
structure Turn (P:Program) (w:World) (K:PySem.W.Frag) (tg:Expr) (J:It) (fp:List Addr) (it:Addr) (tn:Nat->Heap->Prop):Prop where
 mem:it∈fp
 obj:∀ i h,tn i h->∀ b∈fp,∃ o,h.get? b=some o∧∀ v,o.data≠.cell v
 keep:∀ i h h',tn i h->(∀ b∈fp,∀ o,h.get? b=some o->h'.get? b=some o)->tn i h'
 item:∀ (X:Cx),X.prog=P->X.w=w->X.K=K->X.calm=true->∀ (i:Nat) (pins:List (Addr×Obj)) (s:Shared) (σ:St) (H:Hp) (E:Value->Shared->Prop),Inv X pins σ H s->(∀ b∈fp,FT X pins H b)->tn i s.heap->J.go i H ->
  wpAny (model P w) X.A (pyNext (.ref it)) (λr s1=>∃ u,r=some u ∧
   wpAny (model P w) X.A (letOwnedTupleGo tg (.ref it) u) (λ_ s2=>∃ x H',Inv X pins σ H' s2∧RelV x u∧J.yld i H x H'∧tn (i+1) s2.heap∧∀ b∈fp,H' b=none) E s1) E s
 done:∀ (X:Cx),X.prog=P->X.w=w->X.K=K->X.calm=true->∀ (i:Nat) (pins:List (Addr×Obj)) (s:Shared) (σ:St) (H:Hp) (E:Value->Shared->Prop),Inv X pins σ H s->(∀ b∈fp,FT X pins H b)->tn i s.heap->J.stop i H ->
  wpAny (model P w) X.A (pyNext (.ref it)) (λr s1=>r=none∧Inv X pins σ H s1) E s
 self:∀ (A:Around) (i:Nat) (s:Shared) (Q:Value->Shared->Prop) (E:Value->Shared->Prop),tn i s.heap->Q (.ref it) s->wpAny (model P w) A (pyIter (.ref it)) Q E s
noncomputable abbrev TI:=St->Hp->(It->Hp->Prop)->Prop
noncomputable def PIE (X:Cx)(pins:List (Addr×Obj))(σ:St)(tg:Expr)(R:It->Hp->Prop)(itv:Value)(s2:Shared):Prop:=
 ∃ (it:Addr) (fp:List Addr) (tn:Nat->Heap->Prop) (J:It) (H':Hp),itv=.ref it∧Inv X pins σ H' s2∧Turn X.prog X.w X.K tg J fp it tn∧tn 0 s2.heap∧(∀ b∈fp,FT X pins H' b)∧R J H'
noncomputable def PI (X:Cx)(tg iter:Expr)(wi:TI):Prop:=
 ∀ (pins:List (Addr×Obj)) (s:Shared) (σ:St) (H:Hp) (R:It->Hp->Prop),Inv X pins σ H s->wi σ H R ->
  wpAny (model X.prog X.w) X.A (eval iter X.env) (λv s1=>wpAny (model X.prog X.w) X.A (pyIter v) (PIE X pins σ tg R) X.xe s1) X.xe s
theorem OK {M:Model}{A:Around}{E:Value->Shared->Prop}{s:Shared}{tg:Expr}{it:Addr}{u:Value}{o:Obj}{n:String}{vs:Array Value}{Q:Unit->Shared->Prop}(ho:s.heap.get? it=some o)(hc:o.cls=.type n)(hd:o.data=.fields vs)
  (hn:["enumerate","zip","dict_itemiterator","dict_reverseitemiterator","odict_iterator","itertools.zip_longest","itertools.pairwise"].contains n=false) (hQ:Q () s):wpAny M A (letOwnedTupleGo tg (.ref it) u) Q E s:=by
 unfold letOwnedTupleGo
 cases tg<;>first
  | exact Ab hQ
  | (cases u<;>first
    | exact Ab hQ
    | (refine Aa (wpAny_load ho ?_);rw [hc,hd];show wpAny M A (if (["enumerate","zip","dict_itemiterator","dict_reverseitemiterator","odict_iterator","itertools.zip_longest","itertools.pairwise"].contains n&&vs[0]?==some (rawInt _))=true then _ else _) Q E s;rw [if_neg (by intro h;rw [hn,Bool.false_and] at h;cases h)];exact Ab hQ))
noncomputable def Itl (K:PySem.W.Frag)(a:Addr):It:=
 ⟨λi H=>∃ xs x,SqL K H a xs∧xs[i]? = some x,λi H x H'=>H'=H∧∀ xs,SqL K H a xs->xs[i]? = some x,λi H=>∃ xs,SqL K H a xs∧xs.length≤i⟩
noncomputable def Itt (K:PySem.W.Frag)(a:Addr):It:=
 ⟨λi H=>∃ xs x,SqT K H a xs∧xs[i]? = some x,λi H x H'=>H'=H∧∀ xs,SqT K H a xs->xs[i]? = some x,λi H=>∃ xs,SqT K H a xs∧xs.length≤i⟩
noncomputable def Itr (lo:Int)(n:Nat):It:=⟨λi _=>i<n,λi H x H'=>H'=H∧x=.int (lo+i),λi _=>n≤i⟩
theorem PD {P:Program}{w:World}{K:PySem.W.Frag}{tg:Expr}(a it:Addr):Turn P w K tg (Itl K a) [it] it (λi h=>h.IsListIter it a i) where
 mem:=by simp
 obj:=λi h st b hb=>by
  have e:b=it:=by simpa using hb
  subst e
  obtain ⟨o,e,c,d⟩:=st
  exact ⟨o,e,λv z=>by rw [d] at z;cases z⟩
 keep:=λi h h' st k=>st.at λo e=>k it (by simp) o e
 item:=by
  intro X hP hw hK hc i pins s σ H E I hf st hg
  subst hP hw hK
  obtain ⟨xs,x,hq,hx⟩:=hg
  obtain ⟨its,rv,p,hz⟩:=I.list hq
  obtain ⟨u,hu,ru⟩:=rv.get hx
  obtain ⟨f0,f1,f2,f3,f4,f5⟩:=hf it (by simp)
  refine wpAny_pyNext_list_item st p.isList (x:=u) (by simpa using hu) λh' st' sb=>?_
  have I1:Inv X pins σ H { s with heap:=h' }:=I.turned (t':=s.toks) (λb o hb e=>(sb.2 b hb).trans e) f0 f1 f3 f4 f5
  obtain ⟨o,e,c,d⟩:=id st'
  exact ⟨u,rfl,OK (s:={ s with heap:=h' }) e c d (by decide) ⟨x,H,I1,ru,⟨rfl,λys hy=>by rw [I.list_inj hy hq];exact hx⟩,st',λb hb=>(hf b hb).1⟩⟩
 done:=by
  intro X hP hw hK hc i pins s σ H E I hf st hg
  subst hP hw hK
  obtain ⟨xs,hq,hx⟩:=hg
  obtain ⟨its,rv,p,hz⟩:=I.list hq
  obtain ⟨f0,f1,f2,f3,f4,f5⟩:=hf it (by simp)
  have hl:=rv.length
  exact wpAny_pyNext_list_end (I.ok.hd hc) st p.isList (by simp;omega) λh' eb=>⟨rfl,I.turned (t':=s.toks) (λb o hb e=>eb b o hb e) f0 f1 f3 f4 f5⟩
 self:=λ_ _ _ _ _ st h=>wpAny_pyIter_listiter st h
theorem Nj {P:Program}{w:World}{K:PySem.W.Frag}{tg:Expr}(a it:Addr):Turn P w K tg (Itt K a) [it] it (λi h=>h.IsTupleIter it a i) where
 mem:=by simp
 obj:=λi h st b hb=>by
  have e:b=it:=by simpa using hb
  subst e
  obtain ⟨o,e,c,d⟩:=st
  exact ⟨o,e,λv z=>by rw [d] at z;cases z⟩
 keep:=λi h h' st k=>st.at λo e=>k it (by simp) o e
 item:=by
  intro X hP hw hK hc i pins s σ H E I hf st hg
  subst hP hw hK
  obtain ⟨xs,x,hq,hx⟩:=hg
  obtain ⟨its,rv,p,hz⟩:=I.tuple hq
  obtain ⟨u,hu,ru⟩:=rv.get hx
  obtain ⟨f0,f1,f2,f3,f4,f5⟩:=hf it (by simp)
  refine wpAny_pyNext_tuple_item st (show s.heap.IsTuple a its.toArray from p) (x:=u) (by simpa using hu) λh' st' sb=>?_
  have I1:Inv X pins σ H { s with heap:=h' }:=I.turned (t':=s.toks) (λb o hb e=>(sb.2 b hb).trans e) f0 f1 f3 f4 f5
  obtain ⟨o,e,c,d⟩:=id st'
  exact ⟨u,rfl,OK (s:={ s with heap:=h' }) e c d (by decide) ⟨x,H,I1,ru,⟨rfl,λys hy=>by rw [I.tuple_inj hy hq];exact hx⟩,st',λb hb=>(hf b hb).1⟩⟩
 done:=by
  intro X hP hw hK hc i pins s σ H E I hf st hg
  subst hP hw hK
  obtain ⟨xs,hq,hx⟩:=hg
  obtain ⟨its,rv,p,hz⟩:=I.tuple hq
  obtain ⟨f0,f1,f2,f3,f4,f5⟩:=hf it (by simp)
  have hl:=rv.length
  exact wpAny_pyNext_tuple_end (I.ok.hd hc) st (show s.heap.IsTuple a its.toArray from p) (by simp;omega) λh' eb=>⟨rfl,I.turned (t':=s.toks) (λb o hb e=>eb b o hb e) f0 f1 f3 f4 f5⟩
 self:=λ_ _ _ _ _ st h=>wpAny_pyIter_tupleiter st h
theorem NQ {P:Program}{w:World}{K:PySem.W.Frag}{tg:Expr}(it:Addr)(lo:Int)(n:Nat):Turn P w K tg (Itr lo n) [it] it (λi h=>IsRangeIter h it (lo+(i:Nat)*1) ((n:Int)-(i:Nat)) 1) where
 mem:=by simp
 obj:=λi h st b hb=>by
  have e:b=it:=by simpa using hb
  subst e
  exact ⟨_,st,λv z=>by
   have z':Data.fields _=Data.cell v:=z
   cases z'⟩
 keep:=λi h h' st k=>k it (by simp) _ st
 item:=by
  intro X hP hw hK hc i pins s σ H E I hf st hg
  subst hP hw hK
  obtain ⟨f0,f1,f2,f3,f4,f5⟩:=hf it (by simp)
  have W:=Walks.range (prog:=X.prog) (w:=X.w) (I.ok.hd hc) it lo 1 n
  refine W.item i s _ _ hg st λv h' tk hv st' kk=>?_
  obtain ⟨t,rfl⟩:=hv
  have I1:Inv X pins σ H { s with heap:=h',toks:=tk }:=I.turned (λb o hb e=>kk b o (by simpa using hb) e) f0 f1 f3 f4 f5
  refine ⟨_,rfl,OK (s:={ s with heap:=h',toks:=tk }) (n:="range_iterator") st' rfl rfl (by decide) ⟨.int (lo+i),H,I1,⟨t,?_⟩,⟨rfl,rfl⟩,st',λb hb=>(hf b hb).1⟩⟩
  rw [Int.mul_one]
 done:=by
  intro X hP hw hK hc i pins s σ H E I hf st hg
  subst hP hw hK
  obtain ⟨f0,f1,f2,f3,f4,f5⟩:=hf it (by simp)
  exact wpAny_pyNext_range_end (I.ok.hd hc) st (by have:n≤i:=hg;omega) λh' eb=>⟨rfl,I.turned (t':=s.toks) (λb o hb e=>eb b o hb e) f0 f1 f3 f4 f5⟩
 self:=λ_ _ _ _ _ st h=>wpAny_pyIter_rangeiter st h
section
variable {X:Cx} {tg:Expr}
noncomputable def Zb (K:PySem.W.Frag)(tl:TE):TI:=fun σ H R=>tl σ H λx H1=>∃ a,x=.ref a∧(∃ xs,SqL K H1 a xs)∧R (Itl K a) H1
noncomputable def ZR (K:PySem.W.Frag)(tl:TE):TI:=fun σ H R=>tl σ H λx H1=>∃ a,x=.ref a∧(∃ xs,SqT K H1 a xs)∧R (Itt K a) H1
theorem O2 {l:Expr}{tl:TE}(hl:PE X l tl):PI X tg l (Zb X.K tl):=by
 intro pins s σ H R I h
 refine thn (hl pins s σ H _ I h) λv s1 ⟨x,H1,I1,r1,q1⟩=>?_
 obtain ⟨a,e,⟨xs,hq⟩,q⟩:=q1
 subst e
 cases r1
 obtain ⟨its,rv,p,hz⟩:=I1.list hq
 refine wpAny_pyIter_list p.isList ?_
 refine ⟨s1.heap.objs.size,[s1.heap.objs.size],_,_,H1,rfl,I1.kept (t':=s1.toks) λb o e=>Ad _ e,PD a _,⟨_,Ai _ rfl,rfl,rfl⟩,λb hb=>?_,q⟩
 have e:b=s1.heap.objs.size:=by simpa using hb
 subst e
 exact I1.fpOk (Ag _) (I1.hok.fresh (Ag _))
theorem WO {l:Expr}{tl:TE}(hl:PE X l tl):PI X tg l (ZR X.K tl):=by
 intro pins s σ H R I h
 refine thn (hl pins s σ H _ I h) λv s1 ⟨x,H1,I1,r1,q1⟩=>?_
 obtain ⟨a,e,⟨xs,hq⟩,q⟩:=q1
 subst e
 cases r1
 obtain ⟨its,rv,p,hz⟩:=I1.tuple hq
 refine wpAny_pyIter_tuple (show s1.heap.IsTuple a its.toArray from p) ?_
 refine ⟨s1.heap.objs.size,[s1.heap.objs.size],_,_,H1,rfl,I1.kept (t':=s1.toks) λb o e=>Ad _ e,Nj a _,⟨_,Ai _ rfl,rfl,rfl⟩,λb hb=>?_,q⟩
 have e:b=s1.heap.objs.size:=by simpa using hb
 subst e
 exact I1.fpOk (Ag _) (I1.hok.fresh (Ag _))
theorem Q0 {pins:List (Addr×Obj)}{σ:St}{H:Hp}{s:Shared}{R:It->Hp->Prop}{E:Value->Shared->Prop}{lo hi:Int}{t u v:Tok}{tk:Nat}(I:Inv X pins σ H s)(h1:-(2 ^ 62)≤lo)(h2:lo<2 ^ 62)(h3:-(2 ^ 62)≤hi)(h4:hi<2 ^ 62)
  (q:R (Itr lo (hi-lo).toNat) H):wpAny (model X.prog X.w) X.A (pyIter (.ref s.heap.objs.size)) (PIE X pins σ tg R) E { s with heap:=s.heap.push { cls:=.type "range",data:=.fields #[.int lo t,.int hi u,.int 1 v] },toks:=tk }:=by
 refine wpAny_pyIter_range (IsRange.new ..) (small_one h1 h2 h3 h4) ?_
 have I1:Inv X pins σ H { s with heap:=s.heap.push { cls:=.type "range",data:=.fields #[.int lo t,.int hi u,.int 1 v] },toks:=tk }:=I.kept λb o e=>Ad _ e
 refine ⟨(s.heap.push { cls:=.type "range",data:=.fields #[.int lo t,.int hi u,.int 1 v] }).objs.size,[(s.heap.push { cls:=.type "range",data:=.fields #[.int lo t,.int hi u,.int 1 v] }).objs.size],_,_,H,rfl,
  I1.kept (t':=tk) λb o e=>Ad _ e,NQ _ lo (hi-lo).toNat,?_,λb hb=>?_,q⟩
 ·have e1:lo+((0:Nat):Int)*1=lo:=by simp
  have e2:(((hi-lo).toNat:Nat):Int)-((0:Nat):Int)=Builtin.Range.rangeSize lo hi 1:=by rw [rangeSize_one];split<;>omega
  show IsRangeIter _ _ (lo+((0:Nat):Int)*1) ((((hi-lo).toNat:Nat):Int)-((0:Nat):Int)) 1
  rw [e1,e2]
  exact Ai _ rfl
 ·have e:b=(s.heap.push { cls:=.type "range",data:=.fields #[.int lo t,.int hi u,.int 1 v] }).objs.size:=by simpa using hb
  subst e
  exact I1.fpOk (Ag _) (I1.hok.fresh (Ag _))
noncomputable def ZI (ta:TA):TI:=fun σ H R=>ta σ H λvs H1=>∃ j:Int,vs=[.int j]∧-(2 ^ 62)≤j∧j<2 ^ 62∧R (Itr 0 j.toNat) H1
theorem Qp {a:Expr}{ta:TA}{p pos:Pos}(hg:Gl X "range")(hm:X.mg "range"=none)(ha:PA X [a] ta)(hs:starEach [a] X.env=[(false,eval a X.env)]:=by rfl):PI X tg (.Call (.Name "range" p) [a] [] pos) (ZI ta):=by
 intro pins s σ H R I h
 refine Call_ (IF I hg hm boot_range (Cd (thn (ha pos pins s σ H _ I h) λus s1 ⟨vs,H1,I1,r1,q1⟩=>?_) hs rfl))
 obtain ⟨j,e,q1,q2,q⟩:=q1
 subst e
 cases r1 with
 | cons r rr =>
  cases rr
  obtain ⟨t,rfl⟩:=r
  exact call_range_1 (Q0 I1 (by omega) (by omega) q1 q2 (by simpa using q))
noncomputable def Aah (wi:TI)(g:TG)(tb:TS):TS:=λD σ H=>wi σ H λJ H1=>∃ W:Nat->Nat->St->Hp->Prop,(∃ m,W 0 m σ H1)∧∀ i m σ H,W i m σ H ->
 (J.stop i H∧D.nx σ H)∨(J.go i H∧∃ N:St->Hp->Prop,(∀ σ' H',N σ' H'->∃ m',m'<m∧W (i+1) m' σ' H')∧∀ x H',J.yld i H x H'->g x σ H' fun σ2 H2=>tb { D with nx:=N,ct:=N,bk:=D.nx } σ2 H2)
noncomputable def GB (fp:List Addr)(h:Heap):List (Addr×Obj):=fp.filterMap λb=>(h.get? b).map λo=>(b,o)
theorem D8 {fp:List Addr}{h:Heap}{b:Addr}{o:Obj}(hb:b∈fp)(e:h.get? b=some o):(b,o)∈GB fp h:=List.mem_filterMap.mpr ⟨b,hb,by rw [e];rfl⟩
theorem Lc {fp:List Addr}{h:Heap}{p:Addr×Obj}(hp:p∈GB fp h):p.1∈fp∧h.get? p.1=some p.2:=by
 obtain ⟨b,hb,e⟩:=List.mem_filterMap.mp hp
 cases q:h.get? b with
 | none=>rw [q] at e;cases e
 | some o =>
  rw [q] at e
  have e':(b,o)=p:=AB e
  subst e'
  exact ⟨hb,q⟩
theorem Inv.pinned {pins:List (Addr×Obj)}{σ:St}{H:Hp}{s:Shared}{fp:List Addr}(I:Inv X pins σ H s)(hf:∀ b∈fp,FT X pins H b)(ho:∀ b∈fp,∃ o,s.heap.get? b=some o∧∀ v,o.data≠.cell v):Inv X (pins++GB fp s.heap) σ H s:=
 I.pins_of λp hp=>(AH.mp hp).elim (λz=>I.pin p (Aj _ z)) λz=>by
  obtain ⟨hb,e⟩:=Lc z
  obtain ⟨f0,f1,f2,_⟩:=hf p.1 hb
  obtain ⟨o,e',d⟩:=ho p.1 hb
  rw [e] at e';cases e'
  exact ⟨e,f0,f1,f2,d⟩
theorem Inv.unpinned {pins pl:List (Addr×Obj)}{σ:St}{H:Hp}{s:Shared}(I:Inv X (pins++pl) σ H s):Inv X pins σ H s:=I.pins_of λp hp=>I.pin p (Aj _ (AX _ hp))
theorem Wb {iter:Expr}{body:List Stmt}{wi:TI}{g:TG}{tb:TS}{pos:Pos}(hp:PassesOwn (model X.prog X.w) X.A X.env X.xe)(hc:X.calm=true)(hi:PI X tg iter wi)(hg:PG X tg g)(hb:PSs X body tb)
  (hs:∀ x,foldedSetIterable iter X.env x=pure x:=by intro _;rfl):PS X (.For tg iter body [] pos) (Aah wi g tb):=by
 intro pins s σ H D I h
 refine wpAny_For (thn (hi pins s σ H _ I h) λv s1 h1=>thn h1 λitv s2 h2=>?_) hs
 obtain ⟨it,fp,tn,J,H2,e,I2,T,st2,f2,W,⟨m0,w0⟩,turn⟩:=h2
 subst e
 have stat:∀ {H':Hp},(∀ b∈fp,H' b=none)->∀ b∈fp,FT X pins H' b:=λhn b hb=>⟨hn b hb,(f2 b hb).2⟩
 refine codeAny_forLoop_any (λn s'=>∃ i σ' H',Inv X pins σ' H' s'∧tn i s'.heap∧(∀ b∈fp,H' b=none)∧W i n σ' H') ?_ m0 ⟨0,σ,H2,I2,st2,λb hb=>(f2 b hb).1,w0⟩
 rintro n s3 ⟨i,σ3,H3,I3,st3,fr3,w3⟩
 rcases turn i n σ3 H3 w3 with ⟨stop,qn⟩|⟨go,N,hN,step⟩
 ·refine wpAny_passesOwn hp (thn (T.done X rfl rfl rfl hc i pins s3 σ3 H3 X.xe I3 (stat fr3) st3 stop) λr s4 ⟨hr,I4⟩=>?_)
  subst hr
  exact wpAny_execs_nil ⟨σ3,H3,I4,qn⟩
 ·refine wpAny_passesOwn hp (thn (T.item X rfl rfl rfl hc i pins s3 σ3 H3 X.xe I3 (stat fr3) st3 go) λr s4 ⟨u,hr,h4⟩=>?_)
  subst hr
  refine wpAny_passesOwn hp (thn h4 λ_ s5 ⟨x,H5,I5,r5,y5,st5,fr5⟩=>?_)
  have I5':=I5.pinned (stat fr5) (T.obj _ _ st5)
  refine wpAny_passesOwn hp (thn (hg _ s5 σ3 H5 x u _ I5' r5 (step x H5 y5)) λ_ s6 ⟨σ6,H6,I6,q6⟩=>?_)
  refine wpAny_passesOwn hp (thn (hb _ s6 σ6 H6 _ I6 q6) λf s7 q7=>?_)
  have again:∀ {σ7:St} {H7:Hp},Inv X (pins++GB fp s5.heap) σ7 H7 s7->N σ7 H7->∃ m,m<n∧∃ i σ' H',Inv X pins σ' H' s7∧tn i s7.heap∧(∀ b∈fp,H' b=none)∧W i m σ' H':=λ{σ7 H7} I7 n7=>by
   obtain ⟨m',hm,w7⟩:=hN σ7 H7 n7
   refine ⟨m',hm,i+1,σ7,H7,I7.unpinned,T.keep _ _ _ st5 λb hb o e=>(I7.pin (b,o) (Aj _ (Aj _ (D8 hb e)))).1,λb hb=>?_,w7⟩
   obtain ⟨o,e,d⟩:=T.obj _ _ st5 b hb
   exact (I7.pin (b,o) (Aj _ (Aj _ (D8 hb e)))).2.1
  cases f with
  | next=>obtain ⟨σ7,H7,I7,n7⟩:=q7;exact again I7 n7
  | cont=>obtain ⟨σ7,H7,I7,n7⟩:=q7;exact again I7 n7
  | brk=>obtain ⟨σ7,H7,I7,q7⟩:=q7;exact ⟨σ7,H7,I7.unpinned,q7⟩
  | ret v=>obtain ⟨x7,σ7,H7,I7,r7,q7⟩:=q7;exact ⟨x7,σ7,H7,I7.unpinned,r7,q7⟩
end
noncomputable abbrev R2:=V->V->Hp->VK->Prop
noncomputable def OpR (X:Cx)(f:Value->Value->Sem Value)(r:R2):Prop:=
 ∀ (pins:List (Addr×Obj)) (s:Shared) (σ:St) (H:Hp) (x y:V) (v u:Value) (Q:VK),Inv X pins σ H s->RelV x v->RelV y u->r x y H Q ->
  wpAny (model X.prog X.w) X.A (f v u) (EP X pins σ Q) X.xe s
noncomputable def UnR (X:Cx)(f:Value->Sem Value)(r:V->Hp->VK->Prop):Prop:=
 ∀ (pins:List (Addr×Obj)) (s:Shared) (σ:St) (H:Hp) (x:V) (v:Value) (Q:VK),Inv X pins σ H s->RelV x v->r x H Q ->
  wpAny (model X.prog X.w) X.A (f v) (EP X pins σ Q) X.xe s
noncomputable def FJ (X:Cx)(f:Value)(r:List V->Hp->VK->Prop):Prop:=
 ∀ (pins:List (Addr×Obj)) (s:Shared) (σ:St) (H:Hp) (xs:List V) (us:List Value) (Q:VK),Inv X pins σ H s->Vals xs us->r xs H Q ->
  wpAny (model X.prog X.w) X.A (call f us) (EP X pins σ Q) X.xe s
noncomputable def tOp (r:R2)(ta tb:TE):TE:=fun σ H Q=>ta σ H λx H1=>tb σ H1 λy H2=>r x y H2 Q
noncomputable def tUn (r:V->Hp->VK->Prop)(ta:TE):TE:=fun σ H Q=>ta σ H λx H1=>r x H1 Q
noncomputable def rI (C:Int->Int->Prop)(g:Int->Int->V):R2:=λx y H Q=>∃ i j,x=.int i∧y=.int j∧C i j∧Q (g i j) H
noncomputable def rI0 (g:Int->Int->V):R2:=λx y H Q=>∃ i j,x=.int i∧y=.int j∧Q (g i j) H
noncomputable def rU (g:Int->V):V->Hp->VK->Prop:=λx H Q=>∃ i,x=.int i∧Q (g i) H
section
variable {X:Cx} {a b c:Expr} {ta tb tc:TE} {pos:Pos}
theorem Wy (ha:PE X a ta)(hb:PE X b tb){pins:List (Addr×Obj)}{s:Shared}{σ:St}{H:Hp}{R:V->V->Hp->Prop}(I:Inv X pins σ H s)
  (h:ta σ H λx H1=>tb σ H1 λy H2=>R x y H2) {Q:Value->Shared->Prop} {f:Value->Value->Sem Value}
  (hf:∀ v u s2 x y H2,Inv X pins σ H2 s2->RelV x v->RelV y u->R x y H2->wpAny (model X.prog X.w) X.A (f v u) Q X.xe s2) :
  wpAny (model X.prog X.w) X.A (eval a X.env) (λv s₁=>wpAny (model X.prog X.w) X.A (eval b X.env) (λu s₂=>wpAny (model X.prog X.w) X.A (f v u) Q X.xe s₂) X.xe s₁) X.xe s:=by
 refine thn (ha pins s σ H _ I h) λv s1 ⟨x,H1,I1,r1,q1⟩=>?_
 refine thn (hb pins s1 σ H1 _ I1 q1) λu s2 ⟨y,H2,I2,r2,q2⟩=>?_
 exact hf v u s2 x y H2 I2 r1 r2 q2
theorem Ym {op:Operator}{r:R2}(ho:OpR X (binaryOp op) r)(ha:PE X a ta)(hb:PE X b tb):PE X (.BinOp a op b pos) (tOp r ta tb):=by
 intro pins s σ H Q I h
 exact wpAny_BinOp (Wy ha hb I h λv u s2 x y H2 I2 rx ry q=>ho pins s2 σ H2 x y v u Q I2 rx ry q)
theorem Y4 {op:UnaryOp}{r:V->Hp->VK->Prop}(ho:UnR X (unaryOp op) r)(ha:PE X a ta):PE X (.UnaryOp op a pos) (tUn r ta):=by
 intro pins s σ H Q I h
 exact UnaryOp_ (thn (ha pins s σ H _ I h) λv s1 ⟨x,H1,I1,r1,q1⟩=>ho pins s1 σ H1 x v Q I1 r1 q1)
theorem opI {f:Value->Value->Sem Value}{C:Int->Int->Prop}{g:Int->Int->Int}
  (rule:∀ (i j:Int) (t u:Tok) (s:Shared) (Q:Value->Shared->Prop) (E:Value->Shared->Prop),C i j->Q (.int (g i j) s.toks) { s with toks:=s.toks+1 }->wpAny (model X.prog X.w) X.A (f (.int i t) (.int j u)) Q E s) :
  OpR X f (rI C λi j=>.int (g i j)):=by
 intro pins s σ H x y v u Q I rx ry h
 obtain ⟨i,j,rfl,rfl,hc,q⟩:=h
 obtain ⟨t,rfl⟩:=rx
 obtain ⟨t',rfl⟩:=ry
 exact rule i j t t' s _ _ hc ⟨.int (g i j),H,I.tok _,⟨_,rfl⟩,q⟩
theorem Zn {f:Value->Value->Sem Value}{g:Int->Int->Int}
  (rule:∀ (i j:Int) (t u:Tok) (s:Shared) (Q:Value->Shared->Prop) (E:Value->Shared->Prop),Q (.int (g i j) s.toks) { s with toks:=s.toks+1 }->wpAny (model X.prog X.w) X.A (f (.int i t) (.int j u)) Q E s) :
  OpR X f (rI0 λi j=>.int (g i j)):=by
 intro pins s σ H x y v u Q I rx ry h
 obtain ⟨i,j,rfl,rfl,q⟩:=h
 obtain ⟨t,rfl⟩:=rx
 obtain ⟨t',rfl⟩:=ry
 exact rule i j t t' s _ _ ⟨.int (g i j),H,I.tok _,⟨_,rfl⟩,q⟩
theorem XO {f:Value->Value->Sem Value}{g:Int->Int->Bool}
  (rule:∀ (i j:Int) (t u:Tok) (s:Shared) (Q:Value->Shared->Prop) (E:Value->Shared->Prop),Q (.bool (g i j)) s->wpAny (model X.prog X.w) X.A (f (.int i t) (.int j u)) Q E s) :
  OpR X f (rI0 λi j=>.bl (g i j)):=by
 intro pins s σ H x y v u Q I rx ry h
 obtain ⟨i,j,rfl,rfl,q⟩:=h
 obtain ⟨t,rfl⟩:=rx
 obtain ⟨t',rfl⟩:=ry
 exact rule i j t t' s _ _ ⟨.bl (g i j),H,I,rfl,q⟩
noncomputable def Lw (i j:Int):Prop:=0<j∧j<1073741824
noncomputable def Qt (i j:Int):Prop:=0≤j∧j≤1000000∧i.natAbs<2 ^ 64
noncomputable def CMul (i j:Int):Prop:=(-(2 ^ 64)<i∧i<2 ^ 64)∨(-(2 ^ 64)<j∧j<2 ^ 64)
theorem CMul.ok {i j:Int}(h:CMul i j):IntMulOk i j:=by
 rcases h with ⟨h1,h2⟩|⟨h1,h2⟩
 ·exact .of_left (intBits_le_64 h1 h2)
 ·exact .of_right (intBits_le_64 h1 h2)
theorem WZ:OpR X (binaryOp .Add) (rI0 λi j=>.int (i+j)):=Zn λ_ _ _ _ _ _ _ q=>add_int q
theorem V2:OpR X (binaryOp .Sub) (rI0 λi j=>.int (i-j)):=Zn λ_ _ _ _ _ _ _ q=>sub_int q
theorem WE:OpR X (binaryOp .Mult) (rI CMul λi j=>.int (i*j)):=opI λ_ _ _ _ _ _ _ hc q=>mul_int q hc.ok
theorem U9:OpR X (binaryOp .FloorDiv) (rI Lw λi j=>.int (i / j)):=opI λi j _ _ _ _ _ hc q=>by
 have h1:(0:Int)<j:=hc.1
 have h2:j<1073741824:=hc.2
 exact floordiv_int (by omega) (by rw [Int.fdiv_eq_ediv_of_nonneg i (by omega)];exact q) (.inl (PyProof.noPylong_small (by omega)))
theorem VN:OpR X (binaryOp .Mod) (rI (λ_ j=>0<j) λi j=>.int (i % j)):=opI λi j _ _ _ _ _ hc q=>by
 have h1:(0:Int)<j:=hc
 exact mod_int' (by omega) (by rw [Int.fmod_eq_emod_of_nonneg i (by omega)];exact q)
theorem VV:OpR X (binaryOp .Pow) (rI Qt λi j=>.int (i ^ j.toNat)):=opI λ_ _ _ _ _ _ _ hc q=>pow_int_small hc.1 hc.2.1 hc.2.2 q
theorem unI {f:Value->Sem Value}{g:Int->Int}
  (rule:∀ (i:Int) (t:Tok) (s:Shared) (Q:Value->Shared->Prop) (E:Value->Shared->Prop),Q (.int (g i) s.toks) { s with toks:=s.toks+1 }->wpAny (model X.prog X.w) X.A (f (.int i t)) Q E s) :
  UnR X f (rU λi=>.int (g i)):=by
 intro pins s σ H x v Q I rx h
 obtain ⟨i,rfl,q⟩:=h
 obtain ⟨t,rfl⟩:=rx
 exact rule i t s _ _ ⟨.int (g i),H,I.tok _,⟨_,rfl⟩,q⟩
theorem WA:UnR X (unaryOp .USub) (rU λi=>.int (-i)):=unI λ_ _ _ _ _ q=>neg_int q
theorem LW {pins:List (Addr×Obj)}{σ:St}{H:Hp}{s:Shared}{Q:VK}{k k':Bool}(I:Inv X pins σ H s)(q:Q (.bl k) H)(e:k=k'):EP X pins σ Q (.bool k') s:=by
 subst e
 exact ⟨.bl k,H,I,rfl,q⟩
theorem YF:OpR X (compareOp .LtE) (rI0 λi j=>.bl (decide (i≤j))):=XO λ_ _ _ _ _ _ _ q=>le_int q
theorem YR:OpR X (compareOp .Gt) (rI0 λi j=>.bl (decide (j<i))):=XO λ_ _ _ _ _ _ _ q=>gt_int q
theorem Y0:OpR X (compareOp .GtE) (rI0 λi j=>.bl (decide (j≤i))):=XO λ_ _ _ _ _ _ _ q=>ge_int q
theorem Qs:OpR X (compareOp .In) (λx y H Q=>∃ i j,x=.str i∧y=.str j∧Q (.bl (!(Builtin.Str.occurrences j i 0 j.length 1).isEmpty)) H):=by
 intro pins s σ H x y v u Q I rx ry h
 obtain ⟨i,j,rfl,rfl,q⟩:=h
 obtain ⟨t,rfl⟩:=rx
 obtain ⟨t',rfl⟩:=ry
 exact in_str (LW I q rfl)
theorem TJ:OpR X (compareOp .IsNot) (λx y H Q=>y=.non∧Q (.bl (!decide (x=.non))) H):=by
 intro pins s σ H x y v u Q I rx ry h
 obtain ⟨rfl,q⟩:=h
 cases ry
 refine isnot_none_gen (LW I q ?_)
 cases x<;>first
  | (cases rx;rfl)
  | (obtain ⟨t,rfl⟩:=rx;rfl)
theorem Lu:OpR X (compareOp .NotIn) (λx y H Q=>∃ i j,x=.str i∧y=.str j∧Q (.bl (!(!(Builtin.Str.occurrences j i 0 j.length 1).isEmpty))) H):=by
 intro pins s σ H x y v u Q I rx ry h
 obtain ⟨i,j,rfl,rfl,q⟩:=h
 obtain ⟨t,rfl⟩:=rx
 obtain ⟨t',rfl⟩:=ry
 exact notIn_str (LW I q rfl)
theorem SW (b:Expr){op:CmpOp}(h:op≠.In:=by decide)(h2:op≠.NotIn:=by decide):behindInMarks op b=false:=by
 have e1:(op==CmpOp.In)=false:=by cases op<;>first|rfl|exact absurd rfl h
 have e2:(op==CmpOp.NotIn)=false:=by cases op<;>first|rfl|exact absurd rfl h2
 cases b<;>simp [behindInMarks,e1,e2]
theorem TQ {op:CmpOp}{r:R2}(ho:OpR X (compareOp op) r)(ha:PE X a ta)(hb:PE X b tb)(hm:behindInMarks op b=false):PE X (.Compare a [op] [b] pos) (tOp r ta tb):=by
 intro pins s σ H Q I h
 exact wpAny_Compare1 (Wy ha hb I h λv u s2 x y H2 I2 rx ry q=>ho pins s2 σ H2 x y v u Q I2 rx ry q) hm
noncomputable def Vw (t:TE):TT:=fun σ H Q=>t σ H λx H'=>∃ k,x=.bl k∧Q k H'
theorem Ti {op:CmpOp}{r:R2}(ho:OpR X (compareOp op) r)(ha:PE X a ta)(hb:PE X b tb)(hm:behindInMarks op b=false):PT X (.Compare a [op] [b] pos) (Vw (tOp r ta tb)):=by
 intro pins s σ H Q I h
 refine wpAny_isTrue_Compare1 (thn (ha pins s σ H _ I h) λv s1 ⟨x,H1,I1,r1,q1⟩=>thn (hb pins s1 σ H1 _ I1 q1) λu s2 ⟨y,H2,I2,r2,q2⟩ =>
  thn (ho pins s2 σ H2 x y v u _ I2 r1 r2 q2) λc s3 ⟨z,H3,I3,r3,k,e,q3⟩=>?_) hm
 subst e
 cases r3
 exact B8 ⟨H3,I3,q3⟩
noncomputable def Se (r r':R2)(ta tb tc:TE):TE:=fun σ H Q=>ta σ H λx H1=>tb σ H1 λy H2=>r x y H2 λz H3=>∃ k,z=.bl k ∧
 (if k=true then tc σ H3 λw' H4=>r' y w' H4 Q else Q (.bl false) H3)
theorem RU {op op':CmpOp}{r r':R2}(ho:OpR X (compareOp op) r)(ho':OpR X (compareOp op') r')(ha:PE X a ta)(hb:PE X b tb)(hc:PE X c tc)
  (hm:lastMarks [op,op'] [b,c]=false:=by with_unfolding_all rfl):PE X (.Compare a [op,op'] [b,c] pos) (Se r r' ta tb tc):=by
 intro pins s σ H Q I h
 refine Compare_chain (thn (ha pins s σ H _ I h) λv s1 ⟨x,H1,I1,r1,q1⟩=>chain_link (thn (hb pins s1 σ H1 _ I1 q1) λu s2 ⟨y,H2,I2,r2,q2⟩ =>
  thn (ho pins s2 σ H2 x y v u _ I2 r1 r2 q2) λd s3 ⟨z,H3,I3,r3,k,e,q3⟩=>?_)) hm
 subst e
 cases r3
 refine B8 ?_
 cases k with
 | false=>exact ite_ff ⟨.bl false,H3,I3,rfl,q3⟩
 | true=>exact ite_tt (chain_last (thn (hc pins s3 σ H3 _ I3 q3) λw' s4 ⟨z',H4,I4,r4,q4⟩=>ho' pins s4 σ H4 y z' u w' Q I4 r2 r4 q4))
theorem Im:(sizeLine:Nat)<2 ^ 63:=by rw [AS];decide
theorem Nr:OpR X (binaryOp .Add) (λx y H Q=>∃ i j,x=.str i∧y=.str j∧i.length+j.length≤sizeLine∧Q (.str (i++j)) H):=by
 intro pins s σ H x y v u Q I rx ry h
 obtain ⟨i,j,rfl,rfl,hz,q⟩:=h
 obtain ⟨t,rfl⟩:=rx
 obtain ⟨t',rfl⟩:=ry
 exact add_str (λt' tk=>⟨.str (i++j),H,I.tok _,⟨_,rfl⟩,q⟩) hz
theorem vals1 {x:V}{us:List Value}(r:Vals [x] us):∃ u,us=[u]∧RelV x u:=by
 cases r with
 | cons r1 r2=>cases r2;exact ⟨_,rfl,r1⟩
theorem vals2 {x y:V}{us:List Value}(r:Vals [x,y] us):∃ u w',us=[u,w']∧RelV x u∧RelV y w':=by
 cases r with
 | cons r1 r2 =>
  cases r2 with
  | cons r3 r4=>cases r4;exact ⟨_,_,rfl,r1,r3⟩
theorem Qg (hc:X.calm=true):FJ X (.builtin "max") (λxs H Q=>∃ i j,xs=[.int i,.int j]∧Q (.int (if j > i then j else i)) H):=by
 intro pins s σ H xs us Q I r h
 obtain ⟨i,j,rfl,q⟩:=h
 obtain ⟨u,w',rfl,⟨t,rfl⟩,⟨t',rfl⟩⟩:=vals2 r
 refine max_two_ints (I.ok.hd hc) λh' tk k=>⟨_,H,I.kept k,?_,q⟩
 by_cases hj:j > i
 ·rw [if_pos hj,if_pos hj];exact ⟨_,rfl⟩
 ·rw [if_neg hj,if_neg hj];exact ⟨_,rfl⟩
theorem PZ (hc:X.calm=true):FJ X (.builtin "min") (λxs H Q=>∃ i j,xs=[.int i,.int j]∧Q (.int (if j<i then j else i)) H):=by
 intro pins s σ H xs us Q I r h
 obtain ⟨i,j,rfl,q⟩:=h
 obtain ⟨u,w',rfl,⟨t,rfl⟩,⟨t',rfl⟩⟩:=vals2 r
 refine min_two_ints (I.ok.hd hc) λh' tk k=>⟨_,H,I.kept k,?_,q⟩
 by_cases hj:j<i
 ·rw [if_pos hj,if_pos hj];exact ⟨_,rfl⟩
 ·rw [if_neg hj,if_neg hj];exact ⟨_,rfl⟩
theorem KC:FJ X (.type "int") (λxs H Q=>(∃ i,xs=[.int i]∧Q (.int i) H)∨∃ k,xs=[.bl k]∧Q (.int (if k then 1 else 0)) H):=by
 intro pins s σ H xs us Q I r h
 rcases h with ⟨i,rfl,q⟩|⟨k,rfl,q⟩
 ·obtain ⟨u,rfl,t,rfl⟩:=vals1 r
  exact call_int_int ⟨.int i,H,I,⟨_,rfl⟩,q⟩
 ·obtain ⟨u,rfl,r1⟩:=vals1 r
  cases r1
  exact call_int_bool ⟨.int (if k then 1 else 0),H,I.tok _,⟨_,rfl⟩,q⟩
end
structure ObjM (h:Heap) (x dx C:Addr) (mA:Str->Option Value):Prop where
 obj:h.get? x=some (PySem.W.instObj C dx)
 ns:h.Ns1 dx mA
 ne:dx≠x
theorem PN {h:Heap}{dx:Addr}{mA:Str->Option Value}(n:h.Ns1 dx mA):∃ od,h.get? dx=some od∧∀ name,PySem.W.lookIn name od=some (mA name):=by
 obtain ⟨o,es,ep,ho,hd,hk,_,hm⟩:=n
 refine ⟨o,ho,λname=>?_⟩
 have e:=hm name
 unfold nsFind findBy at e
 rw [← Array.find?_toList] at e
 unfold PySem.W.lookIn
 rw [hd]
 dsimp only
 split
 ·rename_i y q
  rw [q] at e
  exact congrArg some e
 ·rename_i q
  rw [q] at e
  have a:es.toList.any (·.refKey)=false:=by
   rw [List.any_eq_false]
   intro y hy
   obtain ⟨z,t,hkey⟩:=hk y (Array.mem_toList_iff.mp hy)
   simp [DictEntry.refKey,hkey]
  have a':¬ es.toList.any (·.refKey)=true:=by rw [a];exact AE
  rw [if_neg a']
  exact congrArg some e
theorem ObjM.look {h:Heap}{x dx C:Addr}{mA:Str->Option Value}(I:ObjM h x dx C mA):∃ od,PySem.W.InstAt h x (PySem.W.instObj C dx) C (some od)∧∀ name,PySem.W.lookIn name od=some (mA name):=
 let ⟨od,ho,hl⟩:=PN I.ns
 ⟨od,⟨I.obj,rfl,rfl,ho⟩,hl⟩
section
variable {P:Program} {w:World} {H H':Hp} {h h':Heap} {a C dx:Addr} {fs fs':List (Str×V)}
theorem Ur (hok:HOk P w H h)(e:H a=some (.ins C dx fs)):∃ mA,ObjM h a dx C mA∧(∀ f,Xa (fs.lookup f) (mA f))∧PySem.Within mA (fs.map (·.1))∧fs.length≤1000∧H dx=some (.own a):=by
 obtain ⟨d,z,ne,ob,mA,n,r,q⟩:=(show ObjOk P w H h a (.ins C dx fs) from hok a _ e)
 exact ⟨mA,⟨ob,n,ne⟩,r,q,z,d⟩
end
structure Cls (K:PySem.W.Frag) (C:Addr):Prop where
 pg:PySem.W.plainGet K C Str.empty=true
 hd:PySem.W.hasDictIn K C=true
 po:PySem.W.plainOver K C=true
 sa:PySem.W.findIn K (.ref C) "__setattr__"=some (some (.builtin "object.__setattr__"))
theorem Cls.get {K:PySem.W.Frag}{C:Addr}(c:Cls K C)(f:Str):PySem.W.plainGet K C f=true:=c.pg
section
variable {X:Cx} {pins:List (Addr×Obj)} {σ:St} {H:Hp} {s:Shared} {A:Around} {E:Value->Shared->Prop} {Q:Value->Shared->Prop} {c:Value} {b:Bool}
inductive Ij (K:PySem.W.Frag) (H:Hp):V->Value->Prop where
 | non:Ij K H .non (.type "NoneType")
 | bl (x:Bool):Ij K H (.bl x) (.type "bool")
 | int (i:Int):Ij K H (.int i) (.type "int")
 | str (x:Str):Ij K H (.str x) (.type "str")
 | flt (x:UInt64):Ij K H (.flt x) (.type "float")
 | lst {a:Addr} {xs:List V} (e:H a=some (.lst xs)):Ij K H (.ref a) (.type "list")
 | frz {a:Addr} {o:Obj} {xs:List V} (e:H a=some (.frz o (.lst xs))):Ij K H (.ref a) (.type "list")
 | tup {a:Addr} {xs:List V} (e:H a=some (.tup xs)):Ij K H (.ref a) (.type "tuple")
 | dK {a:Addr} {kvs:List (Key×V)} (e:H a=some (.dK kvs)):Ij K H (.ref a) (.type "dict")
 | dT {a:Addr} {kvs:List (List Key×V)} (e:H a=some (.dT kvs)):Ij K H (.ref a) (.type "dict")
 | ins {a C dx:Addr} {fs:List (Str×V)} (e:H a=some (.ins C dx fs)) (cl:Cls K C) (ha:PySem.W.findIn K (.ref C) "__class__"=some (some (.builtin "object.__class__")))
   (hn:PySem.W.specialIn K (.builtin "object.__class__") "__get__"=some (some (.builtin "getset_descriptor.__get__"))) (htk:PySem.W.takesIn K (.builtin "object.__class__")=some true)
   (hm:PySem.W.mroIn K C (.type "object")=some true):Ij K H (.ref a) (.ref C)
theorem FU {x:V}{u t:Value}(I:Inv X pins σ H s)(rx:RelV x u)(ty:Ij X.K H x t)(e:PySem.W.kitOne X.K t c=some b)(h:∀ tk,Q (.bool b) { s with toks:=tk }) :
  wpAny (model X.prog X.w) A (call (.builtin "isinstance") [u,c]) Q E s:=by
 cases ty with
 | non=>cases (show u=Value.none from rx);exact Bh PySem.W.kitx_none I.kIn True.intro e (λz=>nomatch z) h
 | bl y=>cases (show u=Value.bool y from rx);exact Bh PySem.W.kitx_bool I.kIn True.intro e (λz=>nomatch z) h
 | int i=>obtain ⟨t,q⟩:=(show ∃ t,u=Value.int i t from rx);cases q;exact Bh PySem.W.kitx_int I.kIn True.intro e (λz=>nomatch z) h
 | str y=>obtain ⟨t,q⟩:=(show ∃ t,u=Value.str y t from rx);cases q;exact Bh PySem.W.kitx_str I.kIn True.intro e (λz=>nomatch z) h
 | flt y=>obtain ⟨t,q⟩:=(show ∃ t,u=Value.float y t from rx);cases q;exact Bh PySem.W.kitx_float I.kIn True.intro e (λz=>nomatch z) h
 | @lst a xs ea =>
  cases (show u=Value.ref a from rx)
  obtain ⟨_,_,n,_,h1⟩:=(show ObjOk X.prog X.w H s.heap a (.lst xs) from I.hok a _ ea)
  exact Bh PySem.W.kitx_list I.kIn ⟨_,h1,rfl⟩ e (λz=>nomatch z) h
 | @frz a ob xs ea =>
  cases (show u=Value.ref a from rx)
  obtain ⟨_,_,_,n,_,h1⟩:=(show ObjOk X.prog X.w H s.heap a (.frz ob (.lst xs)) from I.hok a _ ea)
  exact Bh PySem.W.kitx_list I.kIn ⟨_,h1,rfl⟩ e (λz=>nomatch z) h
 | @tup a xs ea =>
  cases (show u=Value.ref a from rx)
  obtain ⟨_,_,_,p⟩:=(show ObjOk X.prog X.w H s.heap a (.tup xs) from I.hok a _ ea)
  obtain ⟨o,h1,h2,_⟩:=p
  exact Bh PySem.W.kitx_tuple I.kIn ⟨o,h1,h2⟩ e (λz=>nomatch z) h
 | @dK a kvs ea =>
  cases (show u=Value.ref a from rx)
  obtain ⟨_,_,vs,_,p⟩:=(show ObjOk X.prog X.w H s.heap a (.dK kvs) from I.hok a _ ea)
  obtain ⟨o,es,ep,h1,h2,_⟩:=p
  exact Bh PySem.W.kitx_dict I.kIn ⟨o,h1,h2.1⟩ e (λz=>nomatch z) h
 | @dT a kvs ea =>
  cases (show u=Value.ref a from rx)
  obtain ⟨_,_,xs,_,o,es,ep,h1,h2,_⟩:=(show ObjOk X.prog X.w H s.heap a (.dT kvs) from I.hok a _ ea)
  exact Bh PySem.W.kitx_dict I.kIn ⟨o,h1,h2.1⟩ e (λz=>nomatch z) h
 | @ins a C dx fs ea cl ha hn htk hm =>
  cases (show u=Value.ref a from rx)
  obtain ⟨mA,O,_⟩:=Ur I.hok ea
  obtain ⟨od,J,_⟩:=O.look
  exact Bh (PySem.W.kitx_own (cl.get _) cl.hd ha hn htk hm) I.kIn J e (λz=>nomatch z) h
end
structure Room (k:Nat) (A:Around):Prop where
 hd:A.handled=none
 dp:A.depth+3*k+5<recursionLimit
 un:A.units+16*k+200<cLine
 gd:A.guards=some []
theorem Room.mono {j k:Nat}{A:Around}(r:Room k A)(h:j≤k):Room j A:=⟨r.hd,by have:=r.dp;omega,by have:=r.un;omega,r.gd⟩
theorem Room.deeper {k:Nat}{A:Around}(r:Room (k+1) A)(env:Env):Room k (A.deeper env):=
 ⟨r.hd,by have:=r.dp;show A.depth+1+3*k+5<_;omega,by have:=r.un;show A.units+3+16*k+200<_;omega,r.gd⟩
theorem Room.depth {k:Nat}{A:Around}(r:Room k A):A.depth<recursionLimit:=by have:=r.dp;omega
theorem Room.units {k:Nat}{A:Around}(r:Room k A):A.units+64<cLine:=by have:=r.un;omega
noncomputable def AaG:TA:=λ_ H Q=>Q [] H
noncomputable def X5 (ta:TE)(tr:TA):TA:=fun σ H Q=>ta σ H λx H1=>tr σ H1 λxs H2=>Q (x::xs) H2
section
variable {X:Cx} {e:Expr} {es:List Expr} {te:TE} {t:TA} {pos:Pos}
theorem Nx:PA X [] AaG:=λ_ _ _ _ H Q I h=>Calls.spliced_nil ⟨[],H,I,.nil,h⟩
theorem Jt (ha:PE X e te)(hr:PA X es t)(hs:starEach (e::es) X.env=(false,eval e X.env)::starEach es X.env:=by rfl):PA X (e::es) (X5 te t):=by
 intro pos pins s σ H Q I h
 rw [hs]
 show wpAny _ _ (spliced ((false,eval e X.env)::backTo pos (starEach es X.env))) _ _ s
 refine Calls.spliced_cons (thn (ha pins s σ H _ I h) λu s1 ⟨x,H1,I1,r1,q1⟩=>?_)
 exact thn (hr pos pins s1 σ H1 _ I1 q1) λus s2 ⟨xs,H2,I2,r2,q2⟩=>⟨x::xs,H2,I2,.cons r1 r2,q2⟩
noncomputable def Z8 (t:TA):TE:=fun σ H Q=>t σ H λxs H1=>xs.length≤sizeLine∧∀ p,H1 p=none->Q (.ref p) (upd H1 p (.tup xs))
noncomputable def Aas (t:TA):TE:=fun σ H Q=>t σ H λxs H1=>xs.length≤sizeLine∧∀ p,H1 p=none->Q (.ref p) (upd H1 p (.lst xs))
theorem VU {x1}(h:PA X es t):PE X (.Tuple es x1 pos) (Z8 t):=by
 intro pins s σ H Q I hq
 refine wpAny_Tuple_spliced (thn (h pos pins s σ H _ I hq) λus s1 ⟨xs,H1,I1,r,z,q⟩=>⟨by rw [← r.length];exact z,?_⟩)
 have hf:H1 s1.heap.objs.size=none:=I1.hok.fresh (Ag _)
 refine ⟨.ref s1.heap.objs.size,upd H1 s1.heap.objs.size (.tup xs),I1.laid (t':=s1.toks) (λb u e=>Ad _ e) (Ag _) ?_,rfl,q _ hf⟩
 exact ⟨⟨z,⟨_,Ai _ rfl,rfl⟩⟩,us,r,⟨_,Ai _ rfl,rfl,_,rfl⟩⟩
theorem SI (h:PA X es t):PE X (.List es pos) (Aas t):=by
 intro pins s σ H Q I hq
 refine wpAny_List_spliced (thn (h pos pins s σ H _ I hq) λus s1 ⟨xs,H1,I1,r,z,q⟩=>⟨by rw [← r.length];exact z,?_⟩)
 have hf:H1 s1.heap.objs.size=none:=I1.hok.fresh (Ag _)
 refine ⟨.ref s1.heap.objs.size,upd H1 s1.heap.objs.size (.lst xs),I1.laid (t':=s1.toks) (λb u e=>Ad _ e) (Ag _) ?_,rfl,q _ hf⟩
 exact ⟨z,us,0,r,Ai _ rfl⟩
end
noncomputable abbrev Sp:=List V->Hp->VK->XK->Prop
noncomputable abbrev CXT:=List Env->Hp->Shared->XK->Value->Shared->Prop
structure To (P:Program) (w:World) (K:PySem.W.Frag) (mg:Str->Option Value) (base:Heap) (A:Around) (outer:List Env) (s:Shared) (H:Hp):Prop where
 frames:A.frames=some outer
 mod:Mod K mg base
 bs:∀ b o,base.get? b=some o->s.heap.get? b=some o∧H b=none
 bsz:base.objs.size≤s.heap.objs.size
 funs:s.heap.FunFrames base outer
 frf:∀ b∈frs outer,H b=none
 hok:HOk P w H s.heap
 bare:AllBare s.gens
noncomputable def CE (outer:List Env)(P:Program)(w:World)(H:Hp)(s:Shared)(Q:VK)(u:Value)(s':Shared):Prop:=
 ∃ v H',s'.os=s.os∧AllBare s'.gens∧Un (frs outer) [] H H' s.heap s'.heap∧HOk P w H' s'.heap∧RelV v u∧Q v H'
noncomputable def CR (CX:CXT)(outer:List Env)(P:Program)(w:World)(H:Hp)(s:Shared)(Q:VK)(E:XK)(r:Result)(s':Shared):Prop:=
 match r with
 | .ok (.ret u)=>CE outer P w H s Q u s'
 | .ok _=>False
 | .error e=>CX outer H s E e s'
structure D3 (P:Program) (w:World) (K:PySem.W.Frag) (mg:Str->Option Value) (base:Heap) (CX:CXT) (k:Nat) (f:Addr) (fd:FuncData) (ps:List Str) (sp:Sp):Prop where
 len:∀ vs H Q E,sp vs H Q E->vs.length=ps.length
 run:∀ (A:Around) (outer:List Env) (s:Shared) (H:Hp) (args:Args) (us:List Value) (vs:List V) (Q:VK) (E:XK),Room k A->To P w K mg base A outer s H->BindsTo s fd args (ps.zip us)->Vals vs us->sp vs H Q E ->
  codeAny (model P w) A (.call (.ref f) args) (CR CX outer P w H s Q E) s
section
variable {X:Cx} {pins:List (Addr×Obj)} {σ:St} {H:Hp} {s s':Shared}
theorem Inv.env0 (I:Inv X pins σ H s):To X.prog X.w X.K X.mg X.base X.A X.stack s H:=
 ⟨I.ok.frames,I.ok.mod,I.bs,AJ I.ok.bsz I.sz,I.stack,I.stkFree,I.hok,I.bare⟩
theorem Inv.after {Q:VK}{u:Value}(I:Inv X pins σ H s)(h:CE X.stack X.prog X.w H s Q u s'):EP X pins σ Q u s':=by
 obtain ⟨v,H',os,bare,un,hok,r,q⟩:=h
 obtain ⟨hh,g,d,t,os'⟩:=s'
 obtain rfl:os'=s.os:=os
 exact ⟨v,H',I.call (h':=hh) (g':=g) (d':=d) (t':=t) (ch:=[]) un hok bare (λb z=>absurd z (by simp)),r,q⟩
end
noncomputable def Y6 (sp:Sp)(dvs:List V)(E:XK)(t:TA):TE:=fun σ H Q=>t σ H λvs H1=>sp (vs++dvs) H1 Q E
noncomputable def Binds (K:PySem.W.Frag)(fd:FuncData)(ps:List Str)(ds:List Value):Prop:=
 ∀ (s:Shared) (us:List Value),K.In s.heap->(us++ds).length=ps.length->BindsTo s fd ⟨us,[]⟩ (ps.zip (us++ds))
theorem Binds.all {K:PySem.W.Frag}{fd:FuncData}{ps:List Str}(h:∀ us:List Value,us.length=ps.length->bindArgs fd ⟨us,[]⟩=pure (ps.zip us)):Binds K fd ps []:=λs us _ hl=>by
 rw [List.append_nil] at hl ⊢
 exact .of_eq (h us hl)
noncomputable def Passes (CX:CXT)(X:Cx)(E:XK):Prop:=∀ (pins:List (Addr×Obj)) (σ:St) (H:Hp) (s:Shared) (e:Value) (s':Shared),Inv X pins σ H s->CX X.stack H s E e s'->X.xe e s'
section
variable {X:Cx} {CX:CXT} {k:Nat} {f C:Addr} {fd:FuncData} {ps:List Str} {sp:Sp} {dvs:List V} {ds:List Value} {E:XK} {x m:Str} {p pos apos:Pos} {e o:Expr} {es:List Expr} {ta:TE} {t:TA}
theorem Xd {pins:List (Addr×Obj)}{σ:St}{H:Hp}{s:Shared}{Q:VK}{us:List Value}{vs:List V}(F:D3 X.prog X.w X.K X.mg X.base CX k f fd ps sp)(hr:Room k X.A)(hb:Binds X.K fd ps ds)(hd:Vals dvs ds)(hx:Passes CX X E)
  (I:Inv X pins σ H s) (r:Vals vs us) (h:sp (vs++dvs) H Q E):wpAny (model X.prog X.w) X.A (call (.ref f) us) (EP X pins σ Q) X.xe s:=by
 have r2:Vals (vs++dvs) (us++ds):=r.append hd
 have hl:(us++ds).length=ps.length:=by rw [← r2.length];exact F.len _ _ _ _ h
 refine wpAny_call (codeAny_mono (F.run X.A X.stack s H ⟨us,[]⟩ (us++ds) (vs++dvs) Q E hr I.env0 (hb s us I.kIn hl) r2 h) λr s' hq=>?_)
 cases r with
 | error e=>exact hx pins σ H s e s' I hq
 | ok fl =>
  cases fl with
  | ret u=>exact I.after hq
  | next=>exact False.elim hq
  | brk=>exact False.elim hq
  | cont=>exact False.elim hq
theorem TU (F:D3 X.prog X.w X.K X.mg X.base CX k f fd ps sp)(hr:Room k X.A)(hg:Gl X x)(hm:X.mg x=some (.ref f))(hk:PySem.W.keepIn X.K (.ref f)=true)(hb:Binds X.K fd ps ds)(hd:Vals dvs ds)(hx:Passes CX X E)
  (ha:PA X (e::es) t) (hdb:(x==("__debug__":Str))=false:=by decide) (he:starEach (e::es) X.env=(false,eval e X.env)::starEach es X.env:=by rfl) (hpl:(backTo pos (starEach es X.env)).any (·.1)=false:=by rfl) :
  PE X (.Call (.Name x p) (e::es) [] pos) (Y6 sp dvs E t):=by
 intro pins s σ H Q I h
 refine wpAny_Call_Name_kw (UJ I hg hm ?_ hdb)
 refine PySem.W.callWith_K (h₀:=X.base) I.ok.mod.kin hk (thn (ha pos pins s σ H _ I h) λus s1 ⟨vs,H1,I1,r,q⟩=>⟨I1.kIn,?_⟩) he hpl
 exact Xd F hr hb hd hx I1 r q
end
structure CN (N P:List Str) (sc:Scope):Prop where
 kind:sc.kind=.function
 co:sc.isCoroutine=false
 gen:sc.isGenerator=false
 nd:N.Nodup
 pre:N.take P.length=P
 par:∀ x∈P,sc.names.lookup x=some .local∨sc.names.lookup x=some .cell
 nofree:∀ y∈sc.names,y.2≠.free
theorem Kw {kindOf:Str->Option NameKind}{x:Str}:∀ {binds:List (Str×Value)} {m:Str->Option Value},(∀ v,(x,v)∉binds)->bindL kindOf binds m x=m x
 | [],_,_=>rfl
 | (n,v)::r,m,h=>by
  unfold bindL
  rw [Kw λw hw=>h w (BR _ hw)]
  split
  ·have:x≠n:=by rintro rfl;exact h v List.mem_cons_self
   simp [this]
  ·rfl
theorem Ky {kindOf:Str->Option NameKind}{x:Str}:∀ {binds:List (Str×Value)} {m:Str->Option Value},(∀ v,(x,v)∉binds)->bindC kindOf binds m x=m x
 | [],_,_=>rfl
 | (n,v)::r,m,h=>by
  unfold bindC
  rw [Ky λw hw=>h w (BR _ hw)]
  split
  ·rfl
  ·have:x≠n:=by rintro rfl;exact h v List.mem_cons_self
   simp [this]
theorem Kx {kindOf:Str->Option NameKind}{x:Str}{v:Value}:∀ {P:List Str} {vs:List Value} {i:Nat} {m:Str->Option Value},P.Nodup->P[i]? = some x->vs[i]? = some v->kindOf x=some .local ->
  bindL kindOf (P.zip vs) m x=some v
 | [],_,_,_,_,h,_,_=>by simp at h
 | _::_,[],_,_,_,_,h,_=>by simp at h
 | p::P,w::vs,0,m,nd,h1,h2,hk=>by
  simp at h1 h2;subst h1;subst h2
  show bindL kindOf ((p,w)::P.zip vs) m p=_
  unfold bindL
  rw [Kw λv hv=>(Bm.mp nd).1 (Bw hv).1,if_pos hk]
  simp
 | p::P,w::vs,i+1,m,nd,h1,h2,hk=>by
  show bindL kindOf ((p,w)::P.zip vs) m x=_
  unfold bindL
  exact Kx (i:=i) (Bm.mp nd).2 (by simpa using h1) (by simpa using h2) hk
theorem KO {kindOf:Str->Option NameKind}{x:Str}{v:Value}:∀ {P:List Str} {vs:List Value} {i:Nat} {m:Str->Option Value},P.Nodup->P[i]? = some x->vs[i]? = some v->kindOf x≠some .local ->
  bindC kindOf (P.zip vs) m x=some v
 | [],_,_,_,_,h,_,_=>by simp at h
 | _::_,[],_,_,_,_,h,_=>by simp at h
 | p::P,w::vs,0,m,nd,h1,h2,hk=>by
  simp at h1 h2;subst h1;subst h2
  show bindC kindOf ((p,w)::P.zip vs) m p=_
  unfold bindC
  rw [Ky λv hv=>(Bm.mp nd).1 (Bw hv).1,if_neg hk]
  simp
 | p::P,w::vs,i+1,m,nd,h1,h2,hk=>by
  show bindC kindOf ((p,w)::P.zip vs) m x=_
  unfold bindC
  exact KO (i:=i) (Bm.mp nd).2 (by simpa using h1) (by simpa using h2) hk
noncomputable def start (N:List Str)(vs:List V):St:=vs.map some++List.replicate (N.length-vs.length) none
noncomputable def Kn (CX:CXT)(P:Program)(w:World)(K:PySem.W.Frag)(mg:Str->Option Value)(base:Heap)(N:List Str)(qual:Str)(scope:Scope)(f:Addr)(cd:Value)(A:Around)(outer:List Env)(s:Shared)(H:Hp)(E:XK):Cx where
 prog:=P
 w:=w
 K:=K
 mg:=mg
 base:=base
 A:=A.deeper (envOfC qual scope s.heap.objs.size f cd)
 N:=N
 s₀:=s
 H₀:=H
 env:=envOfC qual scope s.heap.objs.size f cd
 outer:=outer
 stack:=envOfC qual scope s.heap.objs.size f cd::outer
 ex:=[]
 calm:=true
 fn:=λ_=>true
 pn:=[]
 xe:=λe s'=>wpAny (model P w) (A.deeper (envOfC qual scope s.heap.objs.size f cd)) (leaving (envOfC qual scope s.heap.objs.size f cd) e) (λ_ s''=>CX outer H s E e s'') (λe' s''=>CX outer H s E e' s'') s'
theorem Mg {sc:Scope}{n:Nat}{x:Str}(h:sc.names.lookup x=some .cell):∃ c,(cellsFrom n sc.names []).lookup x=some c:=by
 have q:=PySem.W.cellsFrom_some sc.names n [] (.inl h)
 exact Option.isSome_iff_exists.mp q
theorem Qi {CX:CXT}{P:Program}{w:World}{K:PySem.W.Frag}{mg:Str->Option Value}{base:Heap}{N ps:List Str}{qual:Str}{scope:Scope}{f:Addr}{cd:Value}{A:Around}{outer:List Env}{s s1:Shared}{H:Hp}{E:XK}{us:List Value}{vs:List V}
  (S:CN N ps scope) (hd:A.handled=none) (e0:To P w K mg base A outer s H) (hl:vs.length=ps.length) (r:Vals vs us)
  (x:InCallC s s.heap.objs.size (bindL (envOfC qual scope s.heap.objs.size f cd).kindOf (ps.zip us) λ_=>none) (cellsFrom (s.heap.objs.size+1) scope.names []) (bindC (envOfC qual scope s.heap.objs.size f cd).kindOf (ps.zip us) λ_=>none) s1) :
  Inv (Kn CX P w K mg base N qual scope f cd A outer s H E) [] (start N vs) H s1:=by
 have hpl:ps.length≤N.length:=by have:=congrArg List.length S.pre;rw [AG] at this;omega
 obtain ⟨h1,tk,rfl,hk⟩:=x.done
 have noA:∀ b:Addr,b∉(Kn CX P w K mg base N qual scope f cd A outer s H E).ex:=λb z=>absurd (show b∈([]:List Addr) from z) (by simp)
 refine ⟨⟨e0.mod,S.kind,rfl,rfl,Ag _,λy z c h1 h2=>?_,λy hy=>?_,λy c _ h=>?_,λ_=>hd,Around.frames_deeper e0.frames,.inr ⟨rfl,rfl⟩,λb z=>absurd z (noA b),e0.bs,e0.bsz,λb _ _=>noA b,λb z=>absurd z (noA b),e0.funs,e0.frf⟩,
  rfl,e0.bare,Un.kept hk,⟨_,x.toInCall.ns,λi y v h1 h2 h3=>?_⟩,λy c h=>⟨_,x.cell y c h⟩,e0.hok.fresh (Ag _),λy c h=>?_,λp hp=>absurd (show p∈([]:List (Addr×Obj)) from hp) (by simp),e0.hok.kept hk,?_⟩
 ·exact name_of_addr x.apart (Cb h1) (Cb h2)
 ·have hy:scope.names.lookup y=some .cell∨scope.names.lookup y=some .free:=hy
  rcases hy with hy|hy
  ·exact Mg hy
  ·exact absurd rfl (S.nofree _ (Cb hy))
 ·exact Nat.le_of_lt (x.above y c (Cb h))
 ·have hi:i<vs.length:=by
   unfold start at h2
   by_cases hi:i<vs.length
   ·exact hi
   ·rw [AU (by simpa using hi)] at h2
    rw [BS] at h2
    split at h2<;>cases h2
  have ha:vs[i]? = some v:=by
   unfold start at h2
   rw [Ay (by simpa using hi),Ap] at h2
   cases e:vs[i]? with
   | none=>rw [e] at h2;cases h2
   | some a=>rw [e] at h2;cases h2;rfl
  obtain ⟨u,hu,rv⟩:=r.get ha
  have hp:ps[i]? = some y:=by
   rw [← S.pre,Bg (by omega)];exact h1
  have ndP:ps.Nodup:=by rw [← S.pre];exact S.nd.sublist (List.take_sublist _ _)
  refine ⟨u,rv,?_⟩
  rcases S.par y (Am hp) with k|k
  ·exact .inl ⟨k,Kx ndP hp hu k⟩
  ·obtain ⟨c,e⟩:=Mg (n:=s.heap.objs.size+1) k
   refine .inr ⟨.inl k,c,e,?_⟩
   have q:=x.cell y c e
   rw [KO ndP hp hu (by show scope.names.lookup y≠_;rw [k];decide)] at q
   exact q
 ·exact e0.hok.fresh (Nat.le_of_lt (x.above y c (Cb h)))
 ·unfold start
  show _=N.length
  rw [As,Ah,B1]
  omega
theorem Zz {CX:CXT}{P:Program}{w:World}{K:PySem.W.Frag}{mg:Str->Option Value}{base:Heap}{k:Nat}{f:Addr}{name qual:Str}{params:Arguments}{body:List Stmt}{scope:Scope}{dV kV doc pm cdv ct oc:Value}{an od:Option Addr}
  {osl:Array (Option Value)} {N ps:List Str} {sp:Sp} (lk:K.lookup f=some ⟨oc,od,.func (PySem.W.fnOf name qual params body scope dV kV doc pm an cdv ct),osl⟩) (hcd:PySem.W.codeIn K cdv qual=true) (S:CN N ps scope)
  (len:∀ vs H Q E,sp vs H Q E->vs.length=ps.length)
  (hbody:∀ (A:Around) (outer:List Env) (s:Shared) (H:Hp) (vs:List V) (Q:VK) (E:XK),Room k (A.deeper (envOfC qual scope s.heap.objs.size f cdv))->sp vs H Q E ->
   ∃ t,PSs (Kn CX P w K mg base N qual scope f cdv A outer s H E) body t∧t { nx:=λ_ H'=>Q .non H',rt:=Q } (start N vs) H) :
  D3 P w K mg base CX (k+1) f (PySem.W.fnOf name qual params body scope dV kV doc pm an cdv ct) ps sp:=by
 refine ⟨len,λA outer s H args us vs Q E hr e0 hb r hsp=>?_⟩
 have hl:=len _ _ _ _ hsp
 have KX:K.In s.heap:=e0.mod.kin.keeps λb o e=>(e0.bs b o e).1
 have lim:s.heap.NoLimit:=e0.mod.nolimit.keeps λb o e=>(e0.bs b o e).1
 have hkind:∀ y∈ps.zip us,scope.names.lookup y.1=some .local∨(scope.names.lookup y.1=some .cell∧((cellsFrom (s.heap.objs.size+1) scope.names []).lookup y.1).isSome=true):=λ⟨n,v⟩ hy=>by
  rcases S.par n (Bw hy).1 with q|q
  ·exact .inl q
  ·exact .inr ⟨q,PySem.W.cellsFrom_some _ _ _ (.inl q)⟩
 refine codeAny_call_function hr.depth (KX _ _ lk) rfl S.co S.gen rfl (PySem.W.codeRec_of KX hcd) (hb _ _ _ _ ?_)
 refine wpAny_newFunctionEnv_cells S.kind hkind λenv he s1 x=>?_
 subst he
 refine ⟨lim.keeps x.toInCall.keep,codeAny_func ?_⟩
 obtain ⟨t,ht,hq⟩:=hbody A outer s H vs Q E (hr.deeper _) hsp
 have I:Inv (Kn CX P w K mg base N qual scope f cdv A outer s H E) [] (start N vs) H s1:=Qi S hr.hd e0 hl r x
 refine B2 (ht [] s1 (start N vs) H _ I hq) (λfl s' hs=>?_) λe s' hs=>hs
 have fin:∀ {σ':St} {H':Hp} {v:V} {u:Value},Inv (Kn CX P w K mg base N qual scope f cdv A outer s H E) [] σ' H' s'->RelV v u->Q v H'->CE outer P w H s Q u s':=
  λ{σ' H' v u} J rv q=>⟨v,H',J.os,J.bare,J.base,J.hok,rv,q⟩
 cases fl with
 | ret u =>
  obtain ⟨v,σ',H',J,rv,q⟩:=hs
  exact fin J rv q
 | next =>
  obtain ⟨σ',H',J,q⟩:=hs
  exact fin (v:=V.non) (u:=Value.none) J rfl q
 | brk =>
  obtain ⟨_,_,_,q⟩:=hs
  exact False.elim q
 | cont =>
  obtain ⟨_,_,_,q⟩:=hs
  exact False.elim q
section
variable {X:Cx} {x:Str} {p pos:Pos} {e:Expr} {es:List Expr} {t:TA} {id T:String} {r:List V->Hp->VK->Prop}
noncomputable def tCB (r:List V->Hp->VK->Prop)(t:TA):TE:=fun σ H Q=>t σ H λvs H1=>r vs H1 Q
theorem Kc (hc:FJ X (.builtin id) r)(hg:Gl X x)(hm:X.mg x=none)(hv:bootBuiltins x=some (.builtin id))(ha:PA X (e::es) t)(hn:x≠"__name__":=by decide)(hdb:(x==("__debug__":Str))=false:=by decide)
  (he:starEach (e::es) X.env=(false,eval e X.env)::starEach es X.env:=by rfl) (hpl:(backTo pos (starEach es X.env)).any (·.1)=false:=by rfl):PE X (.Call (.Name x p) (e::es) [] pos) (tCB r t):=by
 intro pins s σ H Q I h
 refine wpAny_Call_Name_kw (IF I hg hm hv ?_ hn hdb)
 exact PyProof.Rows.callWith_builtin1 (thn (ha pos pins s σ H _ I h) λus s1 ⟨vs,H1,I1,r1,q1⟩=>hc pins s1 σ H1 vs us Q I1 r1 q1) he hpl
theorem Qq (hc:FJ X (.type T) r)(hg:Gl X x)(hm:X.mg x=none)(hv:bootBuiltins x=some (.type T))(ha:PA X (e::es) t)(hn:x≠"__name__":=by decide)(hdb:(x==("__debug__":Str))=false:=by decide)
  (he:starEach (e::es) X.env=(false,eval e X.env)::starEach es X.env:=by rfl) (hpl:(backTo pos (starEach es X.env)).any (·.1)=false:=by rfl):PE X (.Call (.Name x p) (e::es) [] pos) (tCB r t):=by
 intro pins s σ H Q I h
 refine wpAny_Call_Name_kw (IF I hg hm hv ?_ hn hdb)
 exact Cd (thn (ha pos pins s σ H _ I h) λus s1 ⟨vs,H1,I1,r1,q1⟩=>hc pins s1 σ H1 vs us Q I1 r1 q1) he hpl
end
end L2
namespace HT
open PySem PyProof.Rows
section
open PySem.SeqAt
open PySem.AutoSeq1 (wpAny_loadPart')
open PySem.MeetsSeq PySem.MeetsSeq2 PySem.MeetsSeq3
end
section
variable {prog:Program} {w:World} {A:Around} {E:Value->Shared->Prop} {s:Shared}
theorem Tz {t b:Addr}{vs ws:List Value}{Q:Value->Shared->Prop}(ht:IsTup s.heap t vs.toArray)(hb:IsTup s.heap b ws.toArray)(hv:vs≠[])
  (h1:ws=[]->Q (.ref t) s) (h2:ws≠[]->Q (.ref s.heap.objs.size) { s with heap:=s.heap.push { cls:=.type "tuple",data:=.seq (vs++ws).toArray } })
  (hsz:vs.length+ws.length≤sizeLine):wpAny (model prog w) A (binaryOp .Add (.ref t) (.ref b)) Q E s:=by
 obtain ⟨⟨cls,dd,data,sl⟩,ho,hc,n,hd⟩:=id ht
 obtain ⟨⟨cls2,dd2,data2,sl2⟩,ho2,hc2,n2,hd2⟩:=id hb
 simp only at hc hd hc2 hd2
 subst hc hd hc2 hd2
 have e:vs.toArray++ws.toArray=(vs++ws).toArray:=by simp
 by_cases hw:ws=[]
 ·exact concat_meets ⟨_,ho,rfl⟩ ⟨_,ho2,rfl⟩ noFill_tuple_add seq_tuple_add PySem.F.slot_tuple_add PySem.F.entry_tuple_add (PySem.F.args_tuple_add_2 _ _)
   (tuple_addW1 t b vs.toArray ws.toArray n n2 dd dd2 sl sl2 (by simpa using hv) (by simp [hw])) ⟨ho,ho2,h1 hw⟩
 ·refine concat_meets ⟨_,ho,rfl⟩ ⟨_,ho2,rfl⟩ noFill_tuple_add seq_tuple_add PySem.F.slot_tuple_add PySem.F.entry_tuple_add (PySem.F.args_tuple_add_2 _ _)
   (tuple_addW2 t b vs.toArray ws.toArray n n2 dd dd2 sl sl2 (by simpa using hv) (by simpa using hw) (by rw [Av,Av];exact hsz)) ⟨ho,ho2,?_⟩
  rw [e]
  exact h2 hw
noncomputable def sIx (n d:Nat):Option Int->Nat
 | none=>d
 | some v=>if v<0 then (v+(n:Int)).toNat else min v.toNat n
theorem Jz (n d:Nat):sIx n d none=d:=rfl
theorem Lh (n d k:Nat):sIx n d (some (k:Int))=min k n:=by
 show (if (k:Int)<0 then ((k:Int)+(n:Int)).toNat else min (k:Int).toNat n)=min k n
 rw [if_neg (by omega),Int.toNat_natCast]
theorem WH (n d:Nat)(hd:d≤n)(o:Option Int):sIx n d o≤n:=by
 cases o with
 | none=>exact hd
 | some v =>
  show (if v<0 then (v+(n:Int)).toNat else min v.toNat n)≤n
  by_cases hv:v<0
  ·rw [if_pos hv];omega
  ·rw [if_neg hv];exact Nat.min_le_right _ _
theorem OX (v:Int)(n d:Nat):(if v<0 then max (v+(n:Int)) 0 else min v (n:Int))=((sIx n d (some v):Nat):Int):=by
 show (if v<0 then max (v+(n:Int)) 0 else min v (n:Int))=(((if v<0 then (v+(n:Int)).toNat else min v.toNat n):Nat):Int)
 by_cases hv:v<0
 ·simp only [if_pos hv];omega
 ·simp only [if_neg hv];omega
theorem NG (lo hi:Option Int)(n:Nat):Builtin.Slice.sliceAdjust lo hi 1 (n:Int)=(((sIx n 0 lo:Nat):Int),((sIx n n hi:Nat):Int)):=by
 have h1:¬ ((1:Int)<0):=by omega
 unfold Builtin.Slice.sliceAdjust
 simp only [h1,A7]
 refine Prod.ext ?_ ?_
 ·cases lo with
  | none=>rfl
  | some v=>exact OX v n 0
 ·cases hi with
  | none=>rfl
  | some v=>exact OX v n n
theorem N0 (i j:Nat):Builtin.Slice.slicePlaces (i:Int) (j:Int) 1=j-i:=by
 unfold Builtin.Slice.slicePlaces
 have h1:(1:Int) > 0:=by omega
 simp only [h1,if_true,Int.ediv_one]
 split<;>omega
theorem Fs {v:Value}{o:Option Int}{Q:Option Int->Shared->Prop}(p:IsPart v o)(h:Q o s):wpAny (model prog w) A (Builtin.Slice.slicePartIndex v) Q E s:=by
 cases p with
 | none=>exact slicePart_none h
 | int i t=>exact slicePart_int h
theorem FW {sl:Addr}{vl vu:Value}{lo hi:Option Int}{n:Nat}{Q:Int×Int×Nat->Shared->Prop}(hs:s.heap.IsSliceOf sl vl vu .none)(pl:IsPart vl lo)(pu:IsPart vu hi)
  (h:Q (((sIx n 0 lo:Nat):Int),1,sIx n n hi-sIx n 0 lo) s):wpAny (model prog w) A (Builtin.Slice.sliceApplied (.ref sl) (pure (n:Int))) Q E s:=by
 obtain ⟨os,hos,hcs,hds⟩:=id hs
 unfold Builtin.Slice.sliceApplied Builtin.Slice.sliceFields
 refine Aa (Aa (Bl hos hds (x:=vl) rfl (Aa (Bl hos hds (x:=vu) rfl (Aa (Bl hos hds (x:=.none) rfl (Ab ?_)))))))
 refine Aa (slicePart_none ?_)
 show wpAny _ _ (if ((1:Int)==0)=true then _ else _) _ _ s
 rw [if_neg (by decide)]
 refine Aa (Fs pl (Aa (Fs pu (Aa (Ab ?_)))))
 show wpAny _ _ (match Builtin.Slice.sliceAdjust lo hi 1 (n:Int) with|(lo,hi)=>pure (lo,(1:Int),Builtin.Slice.slicePlaces lo hi 1)) _ _ s
 rw [NG lo hi n]
 show wpAny _ _ (pure (((sIx n 0 lo:Nat):Int),(1:Int),Builtin.Slice.slicePlaces ((sIx n 0 lo:Nat):Int) ((sIx n n hi:Nat):Int) 1)) _ _ s
 rw [N0]
 exact Ab h
theorem Qy (xs:Array Value)(i k:Nat):((List.range k).filterMap λ(m:Nat)=>xs[((i:Int)+(m:Int)*1).toNat]?).toArray=((xs.toList.drop i).take k).toArray:=by
 have e:(λ(m:Nat)=>xs[((i:Int)+(m:Int)*1).toNat]?)=λm=>xs[i+m]?:=by
  funext m
  have:((i:Int)+(m:Int)*1).toNat=i+m:=by omega
  rw [this]
 rw [e]
 have:=pick_run xs i k
 rw [List.filterMap_map] at this
 have e2:((λx=>xs[x]?)∘λx=>i+x)=λm=>xs[i+m]?:=rfl
 rw [e2] at this
 rw [this]
theorem Ic {t sl:Addr}{items:Array Value}{vl vu:Value}{lo hi:Option Int}{Q:Value->Shared->Prop}(ht:IsTup s.heap t items)(hs:s.heap.IsSliceOf sl vl vu .none)(pl:IsPart vl lo)(pu:IsPart vu hi)
  (hw:¬ (sIx items.size 0 lo=0∧sIx items.size items.size hi=items.size))
  (h:Q (.ref s.heap.objs.size) { s with heap:=s.heap.push { cls:=.type "tuple",data:=.seq ((items.toList.drop (sIx items.size 0 lo)).take (sIx items.size items.size hi-sIx items.size 0 lo)).toArray } })
  (hsz:items.size≤sizeLine):wpAny (model prog w) A (getItem (.ref t) (.ref sl)) Q E s:=by
 have htake:sizeOk (.seq ((items.toList.drop (sIx items.size 0 lo)).take (sIx items.size items.size hi-sIx items.size 0 lo)).toArray):=by
  show ((items.toList.drop (sIx items.size 0 lo)).take (sIx items.size items.size hi-sIx items.size 0 lo)).toArray.size≤sizeLine
  rw [Av,AG,BA,Array.length_toList]
  omega
 have hj:sIx items.size items.size hi≤items.size:=WH _ _ (Ag _) hi
 obtain ⟨os,hos,hcs,hds⟩:=id hs
 have hTs:s.TypeIs (.ref sl) "slice":=⟨os,hos,hcs⟩
 unfold getItem
 try with_reducible refine AI ?_
 first|refine Aa (Ab ?_)|skip
 refine Aa (wpAny_sequenceKey ht.typeIs (by decide) ?_)
 refine Aa (AQ (name:=Str.ofString "__getitem__") ht.typeIs AY
  (AL AY ht.typeIs entry_tuple_getitem ?_ (args_tuple_getitem _ _)))
 show wpAny _ _ (Builtin.Tuple.tupleItemsOf (.ref t) >>= _) _ _ s
 refine Aa (tupleItemsOf_ ht ?_)
 refine Aa (BC hTs ?_)
 rw [if_pos (by decide)]
 refine Aa (FW hs pl pu ?_)
 have hno:¬ ((((sIx items.size 0 lo:Nat):Int)==0&&(1:Int)==1&&(sIx items.size items.size hi-sIx items.size 0 lo)==items.size)=true):=by
  intro q
  rw [Ac,Ac] at q
  have q1:((sIx items.size 0 lo:Nat):Int)=0:=eq_of_beq q.1.1
  have q2:sIx items.size items.size hi-sIx items.size 0 lo=items.size:=eq_of_beq q.2
  exact hw ⟨by omega,by omega⟩
 show wpAny _ _ (if (((sIx items.size 0 lo:Nat):Int)==0&&(1:Int)==1&&(sIx items.size items.size hi-sIx items.size 0 lo)==items.size)=true then _ else _) _ _ s
 rw [if_neg hno,Qy]
 first
  | exact Aa (m:=Builtin.Tuple.tupleExact _) (AR (Ab ⟨_,rfl,Ab h⟩) htake)
  | exact Aa (m:=Builtin.Tuple.tupleExact _) (AR (Aa (Ab (Ab ⟨_,rfl,Ab h⟩))) htake)
  | exact Aa (Aa (m:=Builtin.Tuple.tupleExact _) (AR (Ab (Ab ⟨_,rfl,Ab h⟩)) htake))
  | exact Aa (Aa (m:=Builtin.Tuple.tupleExact _) (AR (Ab ⟨_,rfl,Ab h⟩) htake))
end
end HT
namespace L2
open PySem PySem.Spec PyProof.Rows
noncomputable abbrev TO:=St->Hp->(Option Int->Hp->Prop)->Prop
noncomputable def PO (X:Cx)(e:Option Expr)(t:TO):Prop:=
 ∀ (pins:List (Addr×Obj)) (s:Shared) (σ:St) (H:Hp) (Q:Option Int->Hp->Prop),Inv X pins σ H s->t σ H Q ->
  wpAny (model X.prog X.w) X.A (evalPart e X.env) (λu s'=>∃ o H',Inv X pins σ H' s'∧IsPart u o∧Q o H') X.xe s
noncomputable def U8:TO:=λ_ H Q=>Q none H
noncomputable def Yg (t:TE):TO:=fun σ H Q=>t σ H λx H1=>∃ i,x=.int i∧Q (some i) H1
section
variable {X:Cx} {e:Expr} {te:TE} {lo hi:Option Expr} {tl th:TO} {pos p2:Pos}
theorem Ve:PO X none U8:=by
 intro pins s σ H Q I h
 rw [evalPart_none]
 exact Ab ⟨none,H,I,.none,h⟩
theorem Vm (h:PE X e te):PO X (some e) (Yg te):=by
 intro pins s σ H Q I hw
 rw [evalPart_some]
 refine thn (h pins s σ H _ I hw) λu s1 ⟨x,H1,I1,r1,q1⟩=>?_
 obtain ⟨i,rfl,q⟩:=q1
 obtain ⟨t,rfl⟩:=r1
 exact ⟨some i,H1,I1,.int i t,q⟩
noncomputable def SlR (X:Cx)(r:V->Option Int->Option Int->Hp->VK->Prop):Prop:=
 ∀ (pins:List (Addr×Obj)) (s:Shared) (σ:St) (H:Hp) (x:V) (v vl vu:Value) (lo hi:Option Int) (sl:Addr) (Q:VK),Inv X pins σ H s->RelV x v->s.heap.IsSliceOf sl vl vu .none->IsPart vl lo->IsPart vu hi->r x lo hi H Q ->
  ∃ T id,typeLookup (.type T) "__getitem__"=pure (some (.builtin id))∧s.TypeIs v T∧wpAny (model X.prog X.w) X.A (getItem v (.ref sl)) (EP X pins σ Q) X.xe s
noncomputable def tSl (r:V->Option Int->Option Int->Hp->VK->Prop)(te:TE)(tl th:TO):TE:=fun σ H Q=>te σ H λx H1=>tl σ H1 λl H2=>th σ H2 λu H3=>r x l u H3 Q
theorem RA {r:V->Option Int->Option Int->Hp->VK->Prop}(hr:SlR X r)(he:PE X e te)(hl:PO X lo tl)(hu:PO X hi th):PE X (.Subscript e (.Slice lo hi none p2) pos) (tSl r te tl th):=by
 intro pins s σ H Q I h
 refine Subscript_ (thn (he pins s σ H _ I h) λv s1 ⟨x,H1,I1,r1,q1⟩=>?_)
 refine wpAny_Slice (thn (hl pins s1 σ H1 _ I1 q1) λvl s2 ⟨l,H2,I2,pl,q2⟩=>thn (hu pins s2 σ H2 _ I2 q2) λvu s3 ⟨u,H3,I3,pu,q3⟩=>?_)
 rw [evalPart_none]
 refine Ab ?_
 have I4:Inv X pins σ H3 { s3 with heap:=s3.heap.push { cls:=.type "slice",data:=.fields #[vl,vu,.none] } }:=I3.kept (t':=s3.toks) λb ob q=>Ad _ q
 obtain ⟨T,id,hT,ht,hg⟩:=hr pins { s3 with heap:=s3.heap.push { cls:=.type "slice",data:=.fields #[vl,vu,.none] } } σ H3 x v vl vu l u s3.heap.objs.size Q I4 r1 (Heap.IsSliceOf.new ..) pl pu q3
 show wpAny (model X.prog X.w) X.A (subscriptTail e (.Slice lo hi none p2) v (.ref s3.heap.objs.size)) (EP X pins σ Q) X.xe { s3 with heap:=s3.heap.push { cls:=.type "slice",data:=.fields #[vl,vu,.none] } }
 exact tail_any (ops:=[.ref s3.heap.objs.size,v]) ht hT hg (by with_unfolding_all rfl)
noncomputable def Mz (xs:List V)(lo hi:Option Int):List V:=(xs.drop (HT.sIx xs.length 0 lo)).take (HT.sIx xs.length xs.length hi-HT.sIx xs.length 0 lo)
theorem IU (xs:List V)(lo hi:Option Int):(Mz xs lo hi).length≤xs.length:=by
 unfold Mz
 rw [AG,BA]
 omega
noncomputable def AaF (K:PySem.W.Frag):V->Option Int->Option Int->Hp->VK->Prop:=λx lo hi H Q=>∃ a xs,x=.ref a∧SqT K H a xs ∧
 ¬ (HT.sIx xs.length 0 lo=0∧HT.sIx xs.length xs.length hi=xs.length)∧∀ p,H p=none->Q (.ref p) (upd H p (.tup (Mz xs lo hi)))
theorem Ws:SlR X (AaF X.K):=by
 intro pins s σ H x v vl vu lo hi sl Q I rx hs pl pu h
 obtain ⟨a,xs,rfl,hx,hw,q⟩:=h
 cases rx
 obtain ⟨its,r,ht,hz⟩:=I.tuple hx
 have hlen:its.toArray.size=xs.length:=by rw [Av];exact r.length.symm
 refine ⟨"tuple",_,AY.lookup,ht.typeIs,?_⟩
 refine HT.Ic ht hs pl pu (by rw [hlen];exact hw) ?_ (by rw [hlen];exact hz)
 rw [hlen]
 refine ⟨.ref s.heap.objs.size,_,I.laid (t':=s.toks) (o:=.tup (Mz xs lo hi)) (λb ob q=>Ad _ q) (Ag _) ?_,rfl,q _ (I.hok.fresh (Ag _))⟩
 exact ⟨⟨AJ (IU xs lo hi) hz,⟨_,Ai _ rfl,rfl⟩⟩,_,(r.drop (HT.sIx xs.length 0 lo)).take (HT.sIx xs.length xs.length hi-HT.sIx xs.length 0 lo),IsTup.new _ _⟩
noncomputable def XX (K:PySem.W.Frag):R2:=λx y H Q=>∃ a b xs ys,x=.ref a∧y=.ref b∧SqT K H a xs∧SqT K H b ys∧xs≠[]∧xs.length+ys.length≤sizeLine ∧
 (ys=[]->Q (.ref a) H)∧(ys≠[]->∀ p,H p=none->Q (.ref p) (upd H p (.tup (xs++ys))))
theorem Vals.nil_iff {xs:List V}{us:List Value}(r:Vals xs us):us=[] ↔ xs=[]:=by
 cases r with
 | nil=>simp
 | cons _ _=>simp
theorem T4:OpR X (binaryOp .Add) (XX X.K):=by
 intro pins s σ H x y v u Q I rx ry h
 obtain ⟨a,b,xs,ys,rfl,rfl,ha,hb,hx,hz,q1,q2⟩:=h
 cases rx
 cases ry
 obtain ⟨its,r1,p1,_⟩:=I.tuple ha
 obtain ⟨its2,r2,p2,_⟩:=I.tuple hb
 refine HT.Tz p1 p2 (λz=>hx (r1.nil_iff.mp z)) (λz=>⟨.ref a,H,I,rfl,q1 (r2.nil_iff.mp z)⟩) (λz=>?_) (by rw [← r1.length,← r2.length];exact hz)
 refine ⟨.ref s.heap.objs.size,_,I.laid (t':=s.toks) (o:=.tup (xs++ys)) (λb ob q=>Ad _ q) (Ag _) ?_,rfl,q2 (λw=>z (r2.nil_iff.mpr w)) _ (I.hok.fresh (Ag _))⟩
 exact ⟨⟨by rw [As];exact hz,⟨_,Ai _ rfl,rfl⟩⟩,_,r1.append r2,IsTup.new _ _⟩
end
noncomputable def ixN (n:Nat)(i:Int):Option Nat:=if 0≤i then (if i<n then some i.toNat else none) else if -(n:Int)≤i then some (i+n).toNat else none
noncomputable def atI {α:Type}(xs:List α)(i:Int):Option α:=(ixN xs.length i).bind λj=>xs[j]?
theorem OC {n:Nat}{i:Int}{j:Nat}(h:ixN n i=some j):seqIndex? i n=some j∧j<n∧-(n:Int)≤i∧i<n:=by
 unfold ixN at h
 by_cases h0:0≤i
 ·rw [if_pos h0] at h
  by_cases h1:i<n
  ·rw [if_pos h1] at h
   have e:i.toNat=j:=AB h
   exact ⟨by rw [seqIndex_of h0 h1,e],by omega,by omega,h1⟩
  ·rw [if_neg h1] at h;cases h
 ·rw [if_neg h0] at h
  by_cases h1:-(n:Int)≤i
  ·rw [if_pos h1] at h
   have e:(i+n).toNat=j:=AB h
   exact ⟨by rw [seqIndex_neg (by omega) h1,e],by omega,h1,by omega⟩
  ·rw [if_neg h1] at h;cases h
theorem Jp {α:Type}{xs:List α}{i:Int}{v:α}(h:atI xs i=some v):∃ j,seqIndex? i xs.length=some j∧xs[j]? = some v∧j<xs.length∧-(xs.length:Int)≤i∧i<xs.length:=by
 unfold atI at h
 cases e:ixN xs.length i with
 | none=>rw [e] at h;cases h
 | some j =>
  rw [e] at h
  obtain ⟨h1,h2,h3,h4⟩:=OC e
  exact ⟨j,h1,h,h2,h3,h4⟩
noncomputable def Ov (b:Expr):Prop:=∀ o i,subscripted b false o i=operate [o,i] (getItem o i)
noncomputable def IxR (X:Cx)(r:R2):Prop:=
 ∀ (value slice:Expr) (pins:List (Addr×Obj)) (s:Shared) (σ:St) (H:Hp) (x y:V) (v u:Value) (Q:VK),Inv X pins σ H s->RelV x v->RelV y u->r x y H Q ->
  subscripted slice false v u=operate [v,u] (getItem v u)->wpAny (model X.prog X.w) X.A (subscriptTail value slice v u) (EP X pins σ Q) X.xe s
noncomputable def MtR (X:Cx)(id:String)(r:V->List V->Hp->VK->Prop):Prop:=
 ∀ (pins:List (Addr×Obj)) (s:Shared) (σ:St) (H:Hp) (x:V) (xs:List V) (v:Value) (us:List Value) (Q:VK),Inv X pins σ H s->RelV x v->Vals xs us->r x xs H Q ->
  wpAny (model X.prog X.w) X.A (call (.builtin id) (v::us)) (EP X pins σ Q) X.xe s
section
variable {X:Cx} {a b:Expr} {ta tb:TE} {pos:Pos}
theorem IxR.or {r r':R2}(h:IxR X r)(h':IxR X r'):IxR X (λx y H Q=>r x y H Q∨r' x y H Q):=by
 intro value slice pins s σ H x y v u Q I rx ry q hs
 rcases q with q|q
 ·exact h value slice pins s σ H x y v u Q I rx ry q hs
 ·exact h' value slice pins s σ H x y v u Q I rx ry q hs
theorem Y8 {r:R2}(hr:IxR X r)(ha:PE X a ta)(hb:PE X b tb)(hs:Ov b):PE X (.Subscript a b pos) (tOp r ta tb):=by
 intro pins s σ H Q I h
 exact Subscript_ (Wy ha hb I h λv u s2 x y H2 I2 rx ry q=>hr a b pins s2 σ H2 x y v u Q I2 rx ry q (hs _ _))
noncomputable def Xv (K:PySem.W.Frag):R2:=λx y H Q=>∃ p xs i v,x=.ref p∧y=.int i∧SqL K H p xs∧atI xs i=some v∧Q v H
noncomputable def Y7 (K:PySem.W.Frag):R2:=λx y H Q=>∃ p xs i v,x=.ref p∧y=.int i∧SqT K H p xs∧atI xs i=some v∧Q v H
noncomputable def X6:R2:=λx y H Q=>∃ z i c,x=.str z∧y=.int i∧z.length≤sizeLine∧atI z.cps.toList i=some c∧Q (.str ⟨#[c]⟩) H
theorem T6:IxR X (Xv X.K):=by
 intro value slice pins s σ H x y v u Q I rx ry h hs
 obtain ⟨p,xs,i,z,rfl,rfl,hq,he,q⟩:=h
 cases rx
 obtain ⟨t,rfl⟩:=ry
 obtain ⟨its,r,pl,hz⟩:=I.list hq
 obtain ⟨j,h1,h2,h3,h4,h5⟩:=Jp he
 obtain ⟨w,ew,rw'⟩:=r.get h2
 have hl:=r.length
 have hn:=Im
 have fin:EP X pins σ Q w s:=⟨z,H,I,rw',q⟩
 by_cases h0:0≤i
 ·have hj:i.toNat=j:=by
   rw [seqIndex_of h0 h5] at h1
   exact AB h1
  exact item_listR pl.isList h0 (by omega) (by rw [hj];simpa using ew) fin hs
 ·have hj:(i+(its.toArray.size:Int)).toNat=j:=by
   rw [seqIndex_neg (by omega) h4] at h1
   rw [Av,← hl]
   exact AB h1
  exact subscriptTail_builtinR (x:=w) pl.isList.typeIs slot_list_getitem.lookup
   (wpAny_getItem_list_neg (Q:=λr s'=>r=w∧EP X pins σ Q r s') pl.isList (by omega) (by rw [Av]<;>omega) (by omega) (by rw [hj];simpa using ew) ⟨rfl,fin⟩) hs
theorem WU:IxR X (Y7 X.K):=by
 intro value slice pins s σ H x y v u Q I rx ry h hs
 obtain ⟨p,xs,i,z,rfl,rfl,hq,he,q⟩:=h
 cases rx
 obtain ⟨t,rfl⟩:=ry
 obtain ⟨its,r,pl,hz⟩:=I.tuple hq
 obtain ⟨j,h1,h2,h3,h4,h5⟩:=Jp he
 obtain ⟨w,ew,rw'⟩:=r.get h2
 have hl:=r.length
 have hn:=Im
 have fin:EP X pins σ Q w s:=⟨z,H,I,rw',q⟩
 exact subscriptTail_builtinR (x:=w) pl.typeIs slot_tuple_getitem.lookup
  (getItem_tuple (j:=j) (Q:=λr s'=>r=w∧EP X pins σ Q r s') pl (by omega) (by omega) (by rw [Av,← hl];exact h1) (by simpa using ew) ⟨rfl,fin⟩) hs
theorem Xy:IxR X X6:=by
 intro value slice pins s σ H x y v u Q I rx ry h hs
 obtain ⟨z,i,c,rfl,rfl,hz,he,q⟩:=h
 obtain ⟨t,rfl⟩:=rx
 obtain ⟨t',rfl⟩:=ry
 obtain ⟨j,h1,h2,h3,h4,h5⟩:=Jp he
 have hl:z.cps.toList.length=z.length:=by simp [Str.length]
 rw [hl] at h1 h4 h5
 have hn:=Im
 exact tail_any (typeIs_str s z t) slot_str_getitem.lookup (getItem_str (c:=c) (by
  have e1:decide (i < -(2 ^ 63:Int))=false:=A9 (by omega)
  have e2:decide (i ≥ 2 ^ 63)=false:=A9 (by omega)
  rw [e1,e2,Bool.or_false]) (by rw [h1];simpa using h2) ⟨.str ⟨#[c]⟩,H,I.tok _,⟨_,rfl⟩,q⟩) hs
noncomputable def rIx (K:PySem.W.Frag):R2:=λx y H Q=>Xv K x y H Q∨Y7 K x y H Q∨X6 x y H Q
theorem WS:IxR X (rIx X.K):=T6.or (WU.or Xy)
theorem Nn (its:List Value)(n j:Nat)(u:Value):Obj.mapSeq (·.setIfInBounds j u) { cls:=.type "list",data:=.seq its.toArray n }={ cls:=.type "list",data:=.seq (its.set j u).toArray n }:=by
 simp [Obj.mapSeq]
theorem Inv.lst {pins:List (Addr×Obj)}{σ:St}{H:Hp}{s:Shared}{p:Addr}{xs:List V}(I:Inv X pins σ H s)(h:H p=some (.lst xs)) :
  ∃ (its:List Value) (n:Nat),Vals xs its∧s.heap.get? p=some { cls:=.type "list",data:=.seq its.toArray n }∧xs.length≤sizeLine:=by
 obtain ⟨z,its,n,r,e⟩:=I.hok p _ h
 exact ⟨its,n,r,e,z⟩
theorem Inv.lstUpd {pins:List (Addr×Obj)}{σ:St}{H:Hp}{s:Shared}{p:Addr}{xs ys:List V}{its its':List Value}{n n':Nat}{f:Obj->Obj}(I:Inv X pins σ H s)(h:H p=some (.lst xs))
  (ho:s.heap.get? p=some { cls:=.type "list",data:=.seq its.toArray n }) (hf:f { cls:=.type "list",data:=.seq its.toArray n }={ cls:=.type "list",data:=.seq its'.toArray n' }) (r:Vals ys its') (hz:ys.length≤sizeLine) (t:Nat) :
  Inv X pins σ (upd H p (.lst ys)) { s with heap:=s.heap.update p f,toks:=t }:=by
 have e:(s.heap.update p f).get? p=some { cls:=.type "list",data:=.seq its'.toArray n' }:=by
  rw [AN f ho (by rw [hf]<;>rfl),hf]
 refine I.write (x:=p) (e:=p) (by rw [h];trivial) (.inl rfl) (λb u hb q=>(Bt _ _ (Ne.symm hb)).trans q) ⟨_,e⟩ ?_
 exact ⟨hz,its',n',r,e⟩
noncomputable def Zj:V->V->V->Hp->(Hp->Prop)->Prop:=λo i v H Q=>∃ p xs k j,o=.ref p∧i=.int k∧H p=some (.lst xs)∧ixN xs.length k=some j∧Q (upd H p (.lst (xs.set j v)))
theorem set_list:UN X Zj:=by
 intro pins s σ H o i v ov iv u Q I ro ri rv h
 obtain ⟨p,xs,k,j,rfl,rfl,hp,hj,q⟩:=h
 cases ro
 obtain ⟨t,rfl⟩:=ri
 obtain ⟨its,n,r,ho,hz⟩:=I.lst hp
 obtain ⟨h1,h2,h3,h4⟩:=OC hj
 have hl:=r.length
 have hn:=Im
 have I':Inv X pins σ (upd H p (.lst (xs.set j v))) { s with heap:=s.heap.update p (Obj.mapSeq (·.setIfInBounds j u)) }:=
  I.lstUpd hp ho (Nn its n j u) (r.set rv j) (by rw [List.length_set];exact hz) s.toks
 by_cases h0:0≤k
 ·have hk:k.toNat=j:=by
   rw [seqIndex_of h0 h4] at h1
   exact AB h1
  exact PySem.W.ki_setAt ho h0 (by omega) (by rw [Av,← hl];exact h4) (by rw [hk];exact ⟨_,I',q⟩)
 ·have hk:(k+(its.toArray.size:Int)).toNat=j:=by
   rw [seqIndex_neg (by omega) h3] at h1
   rw [Av,← hl]
   exact AB h1
  exact PySem.W.ki_setBack ho (by omega) (by rw [Av,← hl];exact h3) (by omega) (by rw [hk];exact ⟨_,I',q⟩)
theorem Lq (lo hi:Option Int)(n:Nat):(sliceBounds lo hi none n).1=((HT.sIx n 0 lo:Nat):Int)∧(sliceBounds lo hi none n).2.1=((HT.sIx n n hi:Nat):Int)∧(sliceBounds lo hi none n).2.2=1:=by
 refine ⟨?_,?_,rfl⟩
 ·cases lo with
  | none=>simp [sliceBounds,HT.sIx]
  | some i =>
   simp only [sliceBounds,HT.sIx,Option.getD_none,show (1:Int) > 0 by decide,if_true]
   by_cases h:i<0
   ·simp only [h,if_true]<;>omega
   ·simp only [h,A7]<;>omega
 ·cases hi with
  | none=>simp [sliceBounds,HT.sIx]
  | some i =>
   simp only [sliceBounds,HT.sIx,Option.getD_none,show (1:Int) > 0 by decide,if_true]
   by_cases h:i<0
   ·simp only [h,if_true]<;>omega
   ·simp only [h,A7]<;>omega
theorem Kp (its:List Value)(lo hi:Option Int):slicePick its.toArray lo hi none=((its.drop (HT.sIx its.length 0 lo)).take (HT.sIx its.length its.length hi-HT.sIx its.length 0 lo)).toArray:=by
 obtain ⟨h1,h2,h3⟩:=Lq lo hi its.toArray.size
 unfold slicePick
 rw [h1,h2,h3]
 simp only [sliceRange_one,pick_run,Av]<;>rfl
noncomputable def Yl (K:PySem.W.Frag):V->Option Int->Option Int->Hp->VK->Prop:=λx lo hi H Q=>∃ a xs,x=.ref a∧SqL K H a xs∧∀ p,H p=none->Q (.ref p) (upd H p (.lst (Mz xs lo hi)))
theorem Ua:SlR X (Yl X.K):=by
 intro pins s σ H x v vl vu lo hi sl Q I rx hs pl pu h
 obtain ⟨a,xs,rfl,hx,q⟩:=h
 cases rx
 obtain ⟨its,r,ht,hz⟩:=I.list hx
 have hlen:=r.length
 refine ⟨"list",_,slot_list_getitem.lookup,ht.isList.typeIs,?_⟩
 refine wpAny_getItem_list_slice ht.isList hs pl pu .none (by simp) ?_ (by rw [Av]<;>omega)
 rw [Kp,← hlen]
 refine ⟨.ref s.heap.objs.size,_,I.laid (t':=s.toks) (o:=.lst (Mz xs lo hi)) (λb ob q=>Ad _ q) (Ag _) ?_,rfl,q _ (I.hok.fresh (Ag _))⟩
 exact ⟨AJ (IU xs lo hi) hz,_,0,(r.drop (HT.sIx xs.length 0 lo)).take (HT.sIx xs.length xs.length hi-HT.sIx xs.length 0 lo),Ai _ rfl⟩
theorem GD:FJ X (.builtin "len") (λxs H Q=>∃ p ys,xs=[.ref p]∧(SqL X.K H p ys∨SqT X.K H p ys)∧Q (.int ys.length) H):=by
 intro pins s σ H xs us Q I r h
 obtain ⟨p,ys,rfl,hq,q⟩:=h
 obtain ⟨u,rfl,rx⟩:=vals1 r
 cases rx
 have hn:=Im
 rcases hq with hq|hq
 ·obtain ⟨its,r',pl,hz⟩:=I.list hq
  have hlen:=r'.length
  exact Calls.call_len_list pl.isList (by simp only [Av]<;>omega) ⟨.int ys.length,H,I.tok _,⟨s.toks+1,by rw [Av,hlen]⟩,q⟩
 ·obtain ⟨its,r',pl,hz⟩:=I.tuple hq
  have hlen:=r'.length
  exact len_tuple pl (by simp only [Av]<;>omega) ⟨.int ys.length,H,I.tok _,⟨s.toks+1,by rw [Av,hlen]⟩,q⟩
theorem LI:FJ X (.builtin "len") (λxs H Q=>∃ z,xs=[.str z]∧z.length≤sizeLine∧Q (.int z.length) H):=by
 intro pins s σ H xs us Q I r h
 obtain ⟨z,rfl,hz,q⟩:=h
 obtain ⟨u,rfl,t,rfl⟩:=vals1 r
 have hn:=Im
 exact len_str (by omega) ⟨.int z.length,H,I.tok _,⟨_,rfl⟩,q⟩
theorem LB:FJ X (.type "list") (λxs H Q=>∃ p ys,xs=[.ref p]∧(SqL X.K H p ys∨SqT X.K H p ys)∧∀ l,H l=none->Q (.ref l) (upd H l (.lst ys))):=by
 intro pins s σ H xs us Q I r h
 obtain ⟨p,ys,rfl,hq,q⟩:=h
 obtain ⟨u,rfl,rx⟩:=vals1 r
 cases rx
 have fin:∀ (its:List Value),Vals ys its->ys.length≤sizeLine->∀ (h':Heap) (c':Nat),(∀ b o',s.heap.get? b=some o'->h'.get? b=some o') ->
   h'.get? s.heap.objs.size=some { cls:=.type "list",dict:=none,data:=.seq its.toArray c',slots:=#[] }->EP X pins σ Q (.ref s.heap.objs.size) { s with heap:=h' }:=λits r' hz h' c' kp e =>
  ⟨.ref s.heap.objs.size,_,I.laid (t':=s.toks) kp (Ag _) (show ObjOk X.prog X.w _ h' _ (.lst ys) from ⟨hz,its,c',r',e⟩),rfl,q _ (I.hok.fresh (Ag _))⟩
 rcases hq with hq|hq
 ·obtain ⟨its,r',pl,hz⟩:=I.list hq
  have hlen:=r'.length
  obtain ⟨o,ho,hc,n,hd⟩:=pl.isList
  exact call_list_seq p (.inl rfl) ho hc hd (λh' c' kp e=>fin its r' hz h' c' kp e) (by simp only [Av]<;>omega)
 ·obtain ⟨its,r',pl,hz⟩:=I.tuple hq
  have hlen:=r'.length
  obtain ⟨o,ho,hc,n,hd⟩:=pl
  exact call_list_seq p (.inr rfl) ho hc hd (λh' c' kp e=>fin its r' hz h' c' kp e) (by simp only [Av]<;>omega)
theorem Ke:FJ X (.type "tuple") (λxs H Q=>∃ p ys,xs=[.ref p]∧((SqL X.K H p ys∧∀ l,H l=none->Q (.ref l) (upd H l (.tup ys)))∨(SqT X.K H p ys∧Q (.ref p) H))):=by
 intro pins s σ H xs us Q I r h
 obtain ⟨p,ys,rfl,h⟩:=h
 obtain ⟨u,rfl,rx⟩:=vals1 r
 cases rx
 rcases h with ⟨hq,q⟩|⟨hq,q⟩
 ·obtain ⟨its,r',pl,hz⟩:=I.list hq
  have hlen:=r'.length
  refine call_tuple_list pl.isList (λh' kp=>?_) (by simp only [Av]<;>omega)
  have I1:Inv X pins σ H { s with heap:=h' }:=I.kept (t':=s.toks) kp
  have I2:Inv X pins σ (upd H h'.objs.size (.tup ys)) { s with heap:=h'.push { cls:=.type "tuple",data:=.seq its.toArray } }:=
   I1.laid (t':=s.toks) (λb o e=>Ad _ e) (Ag _) (show ObjOk X.prog X.w _ _ _ (.tup ys) from ⟨⟨hz,⟨_,Ai _ rfl,rfl⟩⟩,its,r',IsTup.new _ _⟩)
  exact ⟨.ref h'.objs.size,_,I2,rfl,q _ (I1.hok.fresh (Ag _))⟩
 ·obtain ⟨its,r',pl,hz⟩:=I.tuple hq
  exact call_tuple_same pl ⟨.ref p,H,I,rfl,q⟩
noncomputable def tyV (K:PySem.W.Frag)(T:String)(x:V)(H:Hp):Prop:=match x with
 | .str _=>T="str"
 | .int _=>T="int"
 | .ref p=>(T="list"∧∃ xs,SqL K H p xs)∨(T="tuple"∧∃ o,K.lookup p=some o∧o.cls=.type "tuple"∧o.dict=none) ∨
   (T="dict"∧((∃ kvs,H p=some (.dK kvs))∨∃ kvs,H p=some (.dT kvs)))∨(T="set"∧∃ S n,H p=some (.set S n))
 | _=>False
theorem We {pins:List (Addr×Obj)}{σ:St}{H:Hp}{s:Shared}{T:String}{x:V}{v:Value}(I:Inv X pins σ H s)(r:RelV x v)(ty:tyV X.K T x H) :
  s.TypeIs v T∧∀ a,v=.ref a->∃ ob,s.heap.get? a=some ob∧ob.dict=none:=by
 cases x with
 | str z =>
  obtain ⟨t,rfl⟩:=r
  cases (show T="str" from ty)
  exact ⟨typeIs_str s z t,λ_ e=>nomatch e⟩
 | int i =>
  obtain ⟨t,rfl⟩:=r
  cases (show T="int" from ty)
  exact ⟨typeIs_int s i t,λ_ e=>nomatch e⟩
 | ref p =>
  cases r
  rcases ty with ⟨rfl,xs,hq⟩|⟨rfl,o,hk,hc,hd⟩|⟨rfl,hk⟩|⟨rfl,S,n,hk⟩
  ·obtain ⟨its,_,pl,_⟩:=I.list hq
   refine ⟨pl.isList.typeIs,λa e=>?_⟩
   cases e
   obtain ⟨o,n,e,c,hd,_⟩:=pl
   exact ⟨o,e,hd⟩
  ·refine ⟨⟨o,I.kIn p o hk,hc⟩,λa e=>?_⟩
   cases e
   exact ⟨o,I.kIn _ o hk,hd⟩
  ·have z:∃ o,s.heap.get? p=some o∧o.ExactDict:=by
    rcases hk with ⟨kvs,hk⟩|⟨kvs,hk⟩
    ·obtain ⟨_,_,_,_,o,_,_,e,ex,_⟩:=I.hok p _ hk
     exact ⟨o,e,ex⟩
    ·obtain ⟨_,_,_,_,o,_,_,e,ex,_⟩:=I.hok p _ hk
     exact ⟨o,e,ex⟩
   obtain ⟨o,e,ex⟩:=z
   refine ⟨⟨o,e,ex.1⟩,λa e2=>?_⟩
   cases e2
   exact ⟨o,e,ex.2.1⟩
  ·obtain ⟨o,_,_,_,e,ex,_⟩:=I.hok p _ hk
   refine ⟨⟨o,e,ex.1⟩,λa e2=>?_⟩
   cases e2
   exact ⟨o,e,ex.2.1⟩
 | _=>exact False.elim ty
noncomputable def tBM (K:PySem.W.Frag)(T:String)(r:V->List V->Hp->VK->Prop)(to:TE)(t:TA):TE:=fun σ H Q=>to σ H λx H1=>tyV K T x H1∧t σ H1 λxs H2=>r x xs H2 Q
variable {o e:Expr} {es:List Expr} {to:TE} {t:TA} {name:Str} {apos cpos:Pos} {T id:String} {r:V->List V->Hp->VK->Prop}
theorem Yq (pa:PlainAttrs T)(slot:Slot T name id)(hty:typeOf (.builtin id)=pure (.type "method_descriptor"))(hm:MtR X id r)(ho:PE X o to)(ha:PA X (e::es) t)
  (hbase:attributeBase o name X.env (eval o X.env)=eval o X.env:=by rfl)
  (hfew:((backTo cpos (starEach (e::es) X.env)).all (λx=>!x.1)&&(backToKw cpos (keywordEach [] X.env)).all (λx=>x.1.isSome)
   && decide ((e::es).length+([]:List Keyword).length+(if ([]:List Keyword).isEmpty then 0 else 1)<30))=true:=by rfl)
  (hline:(apos.endLine==cpos.line)=true:=by rfl) (hs:starEach (e::es) X.env=(false,eval e X.env)::starEach es X.env:=by rfl) (hplain:(backTo cpos (starEach es X.env)).any (·.1)=false:=by rfl) :
  PE X (.Call (.Attribute o name apos) (e::es) [] cpos) (tBM X.K T r to t):=by
 intro pins s σ H Q I h
 refine wpAny_Call_method_late hbase hfew hline rfl (thn (ho pins s σ H _ I h) λv s1 ⟨x,H1,I1,r1,ty,q1⟩=>?_)
 obtain ⟨h1,h2⟩:=We I1 r1 ty
 refine ⟨T,id,pa,slot,hty,h1,h2,?_⟩
 have hA:=ha cpos pins s1 σ H1 _ I1 q1
 rw [hs] at hA ⊢
 refine Calls.callWith_builtin (by show (false||(backTo cpos (starEach es X.env)).any (·.1))=false;rw [hplain]<;>rfl) (Calls.evalArgs_plain ?_)
 exact thn hA λus s2 ⟨vs,H2,I2,r2,q2⟩=>hm pins s2 σ H2 x vs v us Q I2 r1 r2 q2
end
noncomputable def MtM (X:Cx)(id:String)(r:V->List V->Hp->VK->Prop):Prop:=
 ∀ (pins:List (Addr×Obj)) (s:Shared) (σ:St) (H:Hp) (x:V) (xs:List V) (v:Value) (us:List Value) (Q:VK),Inv X pins σ H s->RelV x v->Vals xs us->r x xs H Q ->
  wpAny (model X.prog X.w) X.A (call (.builtin id) (v::us)) (EP X pins σ Q) X.xe s
theorem Vals.one:∀ {x:V} {us:List Value},Vals [x] us->∃ u,us=[u]∧RelV x u
 | _,_,.cons r .nil=>⟨_,rfl,r⟩
theorem Vals.reverse {xs:List V}{us:List Value}(h:Vals xs us):Vals xs.reverse us.reverse:=by
 induction h with
 | nil=>exact .nil
 | cons r t ih=>rw [List.reverse_cons,List.reverse_cons];exact Vals.append ih (.cons r .nil)
theorem Vals.rep {xs:List V}{us:List Value}(h:Vals xs us):∀ k:Nat,Vals (List.replicate k xs).flatten (List.replicate k us).flatten
 | 0=>.nil
 | k+1=>by
  rw [List.replicate_succ,List.replicate_succ,List.flatten_cons,List.flatten_cons]
  exact Vals.append h (Vals.rep h k)
theorem foldl_rep (its:List Value):∀ (k:Nat) (acc:List Value),
  List.foldl (λx1 x2=>x1++x2) acc.toArray (List.replicate k its.toArray)=(acc++(List.replicate k its).flatten).toArray
 | 0,acc=>by simp
 | k+1,acc=>by
  have e:acc.toArray++its.toArray=(acc++its).toArray:=by simp
  have e2:(acc++its)++(List.replicate k its).flatten=acc++(List.replicate (k+1) its).flatten:=by
   rw [List.replicate_succ,List.flatten_cons,List.append_assoc]
  rw [← e2,← foldl_rep its k (acc++its),← e,List.replicate_succ,List.foldl_cons]
section
variable {X:Cx} {pins:List (Addr×Obj)} {σ:St} {H:Hp} {s:Shared} {l b:Addr} {xs ys zs:List V}
theorem Inv.lset {its its':List Value}{n:Nat}{f:Array Value->Array Value}{t':Nat}(I:Inv X pins σ H s)(hH:H l=some (.lst xs))
  (e:s.heap.get? l=some { cls:=.type "list",data:=.seq its.toArray n }) (hf:f its.toArray=its'.toArray) (hv:Vals ys its') (hz:ys.length≤sizeLine) :
  Inv X pins σ (upd H l (.lst ys)) { s with heap:=s.heap.update l (Obj.mapSeq f),toks:=t' }:=by
 have q:=PySem.IsL.update e f
 rw [hf] at q
 refine I.write (x:=l) (e:=l) (by rw [hH];exact trivial) (.inl rfl) (λb' u hb hu=>(Bt s.heap (Obj.mapSeq f) (Ne.symm hb)).trans hu) ⟨_,q⟩ ?_
 exact ⟨hz,its',_,hv,q⟩
theorem Inv.lstM (I:Inv X pins σ H s)(hH:H l=some (.lst xs)):xs.length≤sizeLine∧∃ (its:List Value) (n:Nat),Vals xs its∧xs.length=its.length∧s.heap.get? l=some { cls:=.type "list",data:=.seq its.toArray n }:=by
 obtain ⟨z,its,n,r,e⟩:=I.hok l _ hH
 exact ⟨z,its,n,r,r.length,e⟩
end
section
variable {X:Cx}
noncomputable def Uj:V->List V->Hp->VK->Prop:=λx vs H Q=>∃ l xs y,x=.ref l∧vs=[y]∧H l=some (.lst xs)∧xs.length<sizeLine∧Q .non (upd H l (.lst (xs++[y])))
theorem Qd:MtM X "list.append" Uj:=by
 intro pins s σ H x vs v us Q I rx rv h
 obtain ⟨l,xs,y,rfl,rfl,hH,hz,q⟩:=h
 cases rx
 obtain ⟨u,rfl,ru⟩:=rv.one
 obtain ⟨z,its,n,r,hl,e⟩:=I.lstM hH
 refine call_meets F.slot_list_append ⟨_,e,rfl⟩ F.entry_list_append (F.args_list_append_2 _ _) (PySem.list_append l its.toArray n u (by rw [Av];omega)) ⟨e,?_⟩
 refine ⟨.non,_,I.lset (its':=its++[u]) hH e (by simp) (r.append (.cons ru .nil)) ?_,rfl,q⟩
 rw [As,List.length_singleton]
 omega
theorem len_rep {α:Type}(xs:List α)(k:Nat):(List.replicate k xs).flatten.length=k*xs.length:=by
 induction k with
 | zero=>simp
 | succ k ih=>rw [List.replicate_succ,List.flatten_cons,As,ih,Nat.succ_mul,Nat.add_comm]
end
end L2
namespace Att
open PySem PySem.W PySem.Calls PyProof.Rows
theorem Jc {P:Params}{h:Heap}:∀ (ns:List Int) (vs:List Value),WellAll P h vs (ns.map WData.int)->IntsAre vs ns:=by
 intro ns
 induction ns with
 | nil =>
  intro vs w
  rw [List.map_nil] at w
  cases w
  exact .nil
 | cons n ns ih =>
  intro vs w
  rw [A1] at w
  cases w with
  | cons a b =>
   cases a
   exact .cons _ _ (ih _ b)
theorem PL {l:OpenLaw}{n:Nat}(hn:l.most=some n){P:Params}{h:Heap}{args:List WData}{vals:List Value}
  (hpre:l.row.toRowW.claim.pre args=true) (hwl:WellAll P h vals args) :
  ∃ a vs ns,vals=[Value.ref a]∧args=[WData.list (ns.map WData.int)]∧h.get? a=some { cls:=.type "list",data:=.seq vs.toArray }∧IntsAre vs ns∧ns.length≤n:=by
 have hsh:WShape.hasAll [] args [.list .int]=true:=(pre_splitW hpre).1
 have hc:l.pre.holds [] { args:=args }=true:=(pre_splitW hpre).2
 obtain ⟨d,r,rfl,h1,h2⟩:=hasAllW_cons hsh
 obtain rfl:=hasAllW_nil h2
 obtain ⟨xs,rfl,h3⟩:=hasW_list h1
 obtain ⟨ns,rfl⟩:=items_int h3
 have hlen:ns.length≤n:=by
  unfold OpenLaw.pre at hc
  have h4:(WTm.not (.lt (.lit (.int (n:Int))) (.len (.arg 0)))).holds [] { args:=[.list (ns.map .int)] }=true:=by
   have h4:=(holds_andW hc).1
   rw [hn] at h4
   exact h4
  have h5:=condW_of h4 (w_not (w_lt w_lit (w_len_list (w_arg rfl))))
  rw [Ah] at h5
  refine Nat.le_of_not_lt λq=>?_
  have q':(n:Int)<((ns.length:Nat):Int):=by omega
  first
   | (rw [BM q'] at h5;exact absurd h5 (by decide))
   | (simp at h5;omega)
 cases hwl with
 | cons w1 w2 =>
  cases w2
  cases w1 with
  | list ho hall=>exact ⟨_,_,ns,rfl,rfl,ho,Jc ns _ hall,hlen⟩
theorem PX (l:OpenLaw)(args:List WData):l.row.toRowW.claim.post args (.bool true) args=true:=
 postW_of (r:=l.row.toRowW) (X:=(true==true))
  (show WShape.has [] (.bool true) .bool=true by first|rfl|decide|simp [WShape.has,WShape.arms,WShape.armsAll])
  (show (WTm.eq .res (.lit (.bool true))).value [] { args:=args,res:=some (.bool true),after:=args }=some (.bool (true==true)) from w_eq_bool (w_res rfl) w_lit) rfl
theorem MZ {l:OpenLaw}{n:Nat}{q:Program}{loose:List Str}{XP:(Str->Option Value)->Heap->Prop}{YP:World->Heap->Prop}{d:DefRec}
  (hn:l.most=some n) (hdf:d.params.defaults=[])
  (call:∀ (w:World) (s₀ s₁:Shared) (mg mb:Str->Option Value) (fa:Addr) (o:Obj) (pm cd doc:Value) (a:Addr) (vs:List Value) (ns:List Int),
   Ground q loose [] XP w s₀ mg mb s₁.heap->YP w s₁.heap ->
   s₁.heap.get? fa=some o->o.data=.func (docDef d.name d.params d.body d.scope pm cd doc)->s₁.heap.CodeRec cd d.name->mg d.name=some (.ref fa) ->
   s₁.heap.get? a=some { cls:=.type "list",data:=.seq vs.toArray }->IntsAre vs ns->ns.length≤n->s₁.gens=#[] ->
   codeAny (model l.prog w) callerA (.call (.ref fa) ⟨[.ref a],[]⟩) (λr s'=>r=.ok (.ret (.bool true))∧OldK s₁.heap s'.heap∧s'.os=s₁.os∧AllBare s'.gens) s₁) :
  WalkO q loose XP YP l.row.toRowW d [] (λf vs=>PySem.call f vs):=by
 intro w s₀ s₁ mg mb G Y fa o pm cd doc dV kV ho hd hcd hD hmg hg args vals as hpre hlay hrd hwl hlo
 obtain rfl:dV=.none:=Dflts.none hD hdf
 obtain rfl:kV=.none:=Dflts.noKw hD
 obtain ⟨a,vs,ns,rfl,rfl,hobj,hints,hlen⟩:=PL hn hpre hwl
 refine enter_call (codeAny_mono (call w s₀ s₁ mg mb fa o pm cd doc a vs ns G Y ho (fd_plain hd) hcd hmg hobj hints hlen hg) λr s' hq=>?_)
 obtain ⟨rfl,h2,h3,h4⟩:=hq
 exact ⟨.inl ⟨.bool true,.bool true,[],rfl,λ_=>rfl,.bool true,PX l _,λ_=>⟨List.Pairwise.nil,λ_ hm=>(nomatch hm)⟩⟩,h2,h3,h4⟩
end Att
namespace L2
open PySem PySem.Spec PyProof.Rows
theorem KZ:∀ {vs:List Value} {ns:List Int},IntsAre vs ns->Vals (ns.map V.int) vs
 | _,_,.nil=>.nil
 | _,_,.cons n t h=>.cons ⟨t,rfl⟩ (KZ h)
noncomputable def Xl (H:Hp):Prop:=∀ b,H b=none∨∃ o xs,H b=some (.frz o (.lst xs))
theorem RY {P:Program}{w:World}{K:PySem.W.Frag}{mg mb:Str->Option Value}{CX:CXT}{k:Nat}{fa a:Addr}{fd:FuncData}{x:Str}{sp:Sp}{s₁:Shared}{vs:List Value}{ns:List Int}
  (KX:K.In s₁.heap) (hns:s₁.heap.Ns mainGlobals mg) (hb:s₁.heap.Ns builtinsNs mb) (hbb:∀ x:Str,x≠"__name__"->mb x=bootBuiltins x) (hlim:s₁.heap.NoLimit) (hg:s₁.gens=#[])
  (ha:s₁.heap.get? a=some { cls:=.type "list",data:=.seq vs.toArray }) (hi:IntsAre vs ns) (hl:ns.length≤sizeLine) (hr:Room k callerA)
  (F:∀ base:Heap,K.In base->base.Ns mainGlobals mg->D3 P w K mg base CX k fa fd [x] sp) (hbind:∀ (s:Shared) (u:Value),BindsTo s fd ⟨[u],[]⟩ [(x,u)])
  (hsp:∀ H:Hp,Xl H->SqL K H a (ns.map V.int)->sp [.ref a] H (λv _=>v=.bl true) λ_ _ _=>False)
  (hCX:∀ H e s',CX [] H s₁ (λ_ _ _=>False) e s'->False) :
  codeAny (model P w) callerA (.call (.ref fa) ⟨[.ref a],[]⟩) (λr s'=>r=.ok (.ret (.bool true))∧OldK s₁.heap s'.heap∧s'.os=s₁.os∧AllBare s'.gens) s₁:=by
 have rv:=KZ hi
 have lenV:=hi.length
 have core:∀ H:Hp,Xl H->SqL K H a (ns.map V.int)->HOk P w H s₁.heap->(∀ b,H b≠none->b=a)->(H a≠none->K.lookup a=none) ->
   codeAny (model P w) callerA (.call (.ref fa) ⟨[.ref a],[]⟩) (λr s'=>r=.ok (.ret (.bool true))∧OldK s₁.heap s'.heap∧s'.os=s₁.os∧AllBare s'.gens) s₁:=by
  intro H hO hS hok hA hK
  have base_of:∀ {b:Addr} {o:Obj},s₁.heap.get? b=some o->H b=none->(LD s₁.heap H).get? b=some o:=λe n=>SD e n
  have noA:∀ {b:Addr} {o:Obj} {es:Array DictEntry} {ep:Nat},s₁.heap.get? b=some o->o.data=.dict es ep->H b=none:=λ{b o es ep} e d=>by
   cases q:H b with
   | none=>rfl
   | some u =>
    have e':b=a:=hA b (by rw [q];simp)
    subst e'
    rw [ha] at e;cases e
    have d':Data.seq vs.toArray _=Data.dict es ep:=d
    cases d'
  have nsK:∀ {b:Addr} {m:Str->Option Value},s₁.heap.Ns b m->(LD s₁.heap H).Ns b m:=λ{b m} ⟨o,es,ep,e,d,r⟩=>⟨o,es,ep,base_of e (noA e d),d,r⟩
  have hKb:K.In (LD s₁.heap H):=λb o e=>base_of (KX b o e) (by
   cases q:H b with
   | none=>rfl
   | some u =>
    have e':b=a:=hA b (by rw [q];simp)
    subst e'
    rw [hK (by rw [q];simp)] at e;cases e)
  have hM:Mod K mg (LD s₁.heap H):=⟨hKb,nsK hns,⟨mb,nsK hb,hbb⟩,let ⟨mc,h1,h2⟩:=hlim;⟨mc,nsK h1,h2⟩⟩
  have e0:To P w K mg (LD s₁.heap H) callerA [] s₁ H:=⟨rfl,hM,λb o e=>T8 e,Nat.le_of_eq (Qw _ _),trivial,λb hb=>absurd (show b∈([]:List Addr) from hb) (by simp),hok,.of_eq hg⟩
  refine codeAny_mono ((F _ hKb (nsK hns)).run callerA [] s₁ H ⟨[.ref a],[]⟩ [.ref a] [.ref a] _ _ hr e0 (hbind s₁ (.ref a)) (.cons rfl .nil) (hsp H hO hS)) λr s' h=>?_
  cases r with
  | error e=>exact (hCX H e s' h).elim
  | ok fl =>
   cases fl with
   | next=>exact False.elim h
   | brk=>exact False.elim h
   | cont=>exact False.elim h
   | ret u =>
    obtain ⟨v,H',os,bare,un,hok',r',q⟩:=h
    have q':v=.bl true:=q
    subst q'
    obtain rfl:u=Value.bool true:=r'
    refine ⟨rfl,OldK.of_keep λb o e=>?_,os,bare⟩
    cases q:H b with
    | none=>exact un.keep b o e q (by intro z;exact absurd (show b∈([]:List Addr) from z) (by simp)) (by simp)
    | some u =>
     rcases hO b with z|⟨ob,xs,z⟩
     ·rw [q] at z;cases z
     ·have z2:=un.frzs b ob _ z
      obtain ⟨e1,_⟩:=hok b _ z
      obtain ⟨e2,_⟩:=hok' b _ z2
      rw [e] at e1;cases e1
      exact e2
 cases hk:K.lookup a with
 | some o =>
  have e:=KX a o hk
  rw [ha] at e
  cases e
  refine core (λ_=>none) (λ_=>.inl rfl) (.inr ⟨_,vs.toArray,_,hk,rfl,rfl,rfl,by rw [Av,lenV];exact hl,by simpa using rv⟩) (λb u z=>by have z':(none:Option HO)=some u:=z;cases z') (λb z=>absurd rfl z) λz=>absurd rfl z
 | none =>
  refine core (λb=>if b=a then some (.frz { cls:=.type "list",data:=.seq vs.toArray } (.lst (ns.map V.int))) else none) (λb=>?_) (.inl (.inr ⟨{ cls:=.type "list",data:=.seq vs.toArray },if_pos rfl⟩)) (λb u z=>?_) (λb z=>?_) λ_=>hk
  ·by_cases hb:b=a
   ·exact .inr ⟨_,_,if_pos hb⟩
   ·exact .inl (if_neg hb)
  ·by_cases hb:b=a
   ·have z':=(if_pos hb).symm.trans z
    cases z'
    subst hb
    exact ⟨ha,by rw [Ah];exact hl,vs,_,rv,ha⟩
   ·have z':=(if_neg hb).symm.trans z
    cases z'
  ·by_cases hb:b=a
   ·exact hb
   ·exact absurd (if_neg hb) z
theorem U1 {l:PySem.W.OpenLaw}{n k:Nat}{q:Program}{loose:List Str}{XP:(Str->Option Value)->Heap->Prop}{YP:World->Heap->Prop}{d:DefRec}{K:Params->PySem.W.Frag}{CX:World->CXT}{sp:World->Sp}{x:Str}
  (hn:l.most=some n) (hn2:n≤sizeLine) (hdf:d.params.defaults=[]) (hr:Room k callerA)
  (hY:∀ (w:World) (h:Heap),YP w h->(K w.params).In h)
  (F:∀ (w:World) (mg:Str->Option Value) (fa:Addr) (h:Heap),(K w.params).In h->h.Ns mainGlobals mg->mg d.name=some (.ref fa) ->
   ∃ fd:FuncData,(∀ (s:Shared) (u:Value),BindsTo s fd ⟨[u],[]⟩ [(x,u)]) ∧
    ∀ base:Heap,(K w.params).In base->base.Ns mainGlobals mg->D3 l.prog w (K w.params) mg base (CX w) k fa fd [x] (sp w))
  (hsp:∀ (w:World) (H:Hp) (a:Addr) (ns:List Int),ns.length≤n->Xl H->SqL (K w.params) H a (ns.map V.int)->sp w [.ref a] H (λv _=>v=.bl true) λ_ _ _=>False)
  (hCX:∀ (w:World) (H:Hp) (s:Shared) (e:Value) (s':Shared),CX w [] H s (λ_ _ _=>False) e s'->False) :
  PySem.W.WalkO q loose XP YP l.row.toRowW d [] (λf vs=>PySem.call f vs):=by
 refine Att.MZ hn hdf λw s₀ s₁ mg mb fa o pm cd doc a vs ns G Y ho hd hcd hmg hobj hints hlen hg=>?_
 have KX:=hY w _ Y
 obtain ⟨fd,hb,hF⟩:=F w mg fa _ KX G.T.g hmg
 exact RY KX G.T.g G.T.b G.T.builtins G.T.nolimit hg hobj hints (AJ hlen hn2) hr hF hb (λH hO hS=>hsp w H a ns hlen hO hS) λH e s'=>hCX w H s₁ e s'
noncomputable def Ge (s:Stmt):Arguments:=match s with
 | .FunctionDef _ a _ _ _ _ _ _ _ _=>a
 | _=>{ posonlyargs:=[],args:=[],vararg:=none,kwonlyargs:=[],kw_defaults:=[],kwarg:=none,defaults:=[] }
noncomputable def Ek (s:Stmt):List Stmt:=match s with
 | .FunctionDef _ _ b _ _ _ _ _ _ _=>b
 | _=>[]
noncomputable def Cr (s:Stmt):Scope:=match s with
 | .FunctionDef _ _ _ _ _ _ sc _ _ _=>sc
 | _=>{ kind:=.function,names:=[],isGenerator:=false,isCoroutine:=false }
noncomputable abbrev CX0:CXT:=λ_ _ _ _ _ _=>False
noncomputable abbrev E0:XK:=λ_ _ _=>False
theorem YL {X:Cx}:Passes CX0 X E0:=λ_ _ _ _ _ _ _ h=>h.elim
structure Fun (K:PySem.W.Frag) (x qual:Str) (st:Stmt) (f:Addr) (fd:FuncData):Prop where
 ex:∃ (oc:Value) (od:Option Addr) (kV doc pm:Value) (an:Option Addr) (cdv ct:Value) (osl:Array (Option Value)),
  fd=PySem.W.fnOf x qual (Ge st) (Ek st) (Cr st) .none kV doc pm an cdv ct∧K.lookup f=some ⟨oc,od,.func fd,osl⟩∧PySem.W.codeIn K cdv qual=true
 kp:PySem.W.keepIn K (.ref f)=true
section
variable {P:Program} {w:World} {K:PySem.W.Frag} {mg:Str->Option Value} {base:Heap}
theorem Fun.ok {x qual:Str}{st:Stmt}{f:Addr}{fd:FuncData}{N ps:List Str}{k:Nat}{sp:Sp}(F:Fun K x qual st f fd)(S:CN N ps (Cr st))(len:∀ vs H Q E,sp vs H Q E->vs.length=ps.length)
  (hbody:∀ (cdv:Value) (A:Around) (outer:List Env) (s:Shared) (H:Hp) (vs:List V) (Q:VK) (E:XK),Room k (A.deeper (envOfC qual (Cr st) s.heap.objs.size f cdv))->sp vs H Q E ->
   ∃ t,PSs (Kn CX0 P w K mg base N qual (Cr st) f cdv A outer s H E).nox (Ek st) t∧t { nx:=λ_ H'=>Q .non H',rt:=Q } (start N vs) H):D3 P w K mg base CX0 (k+1) f fd ps sp:=by
 obtain ⟨oc,od,kV,doc,pm,an,cdv,ct,osl,rfl,lk,hcd⟩:=F.ex
 refine Zz lk hcd S len λA outer s H vs Q E hr hsp=>?_
 obtain ⟨t,h,q⟩:=hbody cdv A outer s H vs Q E hr hsp
 exact ⟨t,h.nox,q⟩
theorem Fun.binds {x qual:Str}{st:Stmt}{f:Addr}{fd:FuncData}{ps:List Str}(F:Fun K x qual st f fd)
  (h:∀ (kV doc pm:Value) (an:Option Addr) (cdv ct:Value) (us:List Value),us.length=ps.length->bindArgs (PySem.W.fnOf x qual (Ge st) (Ek st) (Cr st) .none kV doc pm an cdv ct) ⟨us,[]⟩=pure (ps.zip us)):Binds K fd ps []:=by
 obtain ⟨oc,od,kV,doc,pm,an,cdv,ct,osl,rfl,lk,hcd⟩:=F.ex
 exact .all (h kV doc pm an cdv ct)
theorem RB {x qual:Str}{st:Stmt}{f:Addr}{oc:Value}{od an:Option Addr}{osl:Array (Option Value)}{kV doc pm cdv ct:Value}(l:K.lookup f=some ⟨oc,od,.func (PySem.W.fnOf x qual (Ge st) (Ek st) (Cr st) .none kV doc pm an cdv ct),osl⟩)
  (c:PySem.W.codeIn K cdv qual=true) (k:PySem.W.keepIn K (.ref f)=true):Fun K x qual st f (PySem.W.fnOf x qual (Ge st) (Ek st) (Cr st) .none kV doc pm an cdv ct):=⟨⟨oc,od,kV,doc,pm,an,cdv,ct,osl,rfl,l,c⟩,k⟩
end
section
variable {X:Cx}
theorem pv (i:Nat){x:Str}{pos:Pos}(hN:X.N[i]? = some x:=by rfl)(hv:Vis X.env.scope x:=by first|exact Or.inl rfl|exact Or.inr (Or.inl rfl)|exact Or.inr (Or.inr rfl))(hd:(x==("__debug__":Str))=false:=by decide)
  (hcd:(x==("__classdict__":Str))=false:=by decide):PE X (.Name x pos) (Zr i):=Q4 hN hv hd hcd
end
noncomputable abbrev Go (prog:Program) (w:World) (A:Around) {α:Type} (t:Sem α) (Q:α->Shared->Prop) (s:Shared):Prop:=wpAny (model prog w) A t Q (λ_ _=>False) s
noncomputable def tests (env:Env)(ifs:List Expr):Sem Bool:=forIn ifs true λc r =>
 if r=true then (isTrue c env (eval c env) >>= λok=>pure (ForInStep.yield ok)) else pure (ForInStep.yield r)
noncomputable def TN (prog:Program)(w:World)(A:Around)(target elt:Expr)(ifs:List Expr)(it acc:Value)(env:Env)(fin:Shared->Prop)(v:Value)(s:Shared):Prop:=
 Go prog w A (letOwnedTupleGo target it v) (λ_ s1=>Go prog w A (assign target env v) (λ_ s2=>Go prog w A (tests env ifs) (λok s3 =>
  if ok=true then Go prog w A (eval elt env) (λx s4=>Go prog w A (call (.builtin "list.append") [acc,x]) (λ_ s5=>fin s5) s4) s3 else fin s3) s2) s1) s
theorem IX {prog:Program}{w:World}{A:Around}{R:Result->Shared->Prop}{s:Shared}{elt target iter:Expr}{ifs:List Expr}{scope:Scope}{pos:Pos}{it acc:Value}{env:Env}(J:Nat->Shared->Prop)
  (turn:∀ (n:Nat) (z:Shared),J n z->Go prog w A (pyNext it) (λr z1=>match r with
   | .none=>R (.ok .next) z1
   | .some v=>TN prog w A target elt ifs it acc env (λz2=>∃ m,m<n∧J m z2) v z1) z) (n:Nat) (h:J n s) :
  codeAny (model prog w) A (Code.compLoop (Expr.ListComp elt [⟨target,iter,ifs,0⟩] scope pos) 0 it acc env) R s:=by
 have step:∀ (n:Nat) (z:Shared),J n z->Go prog w A (compTurn (Expr.ListComp elt [⟨target,iter,ifs,0⟩] scope pos) 0 it acc env)
   (λfin z'=>match fin with
    | .done f=>R (.ok f) z'
    | .again c'=>c'=Code.compLoop (Expr.ListComp elt [⟨target,iter,ifs,0⟩] scope pos) 0 it acc env∧∃ m,m<n∧J m z') z:=by
  intro n z hz
  rw [compTurn_list]
  refine Aa (wpAny_standAt (Aa (thn (turn n z hz) λr z1 h1=>?_)))
  cases r with
  | none=>exact Ab h1
  | some v =>
   refine Aa (thn h1 λ_ z2 h2=>Aa (thn h2 λ_ z3 h3=>Aa (thn h3 λok z4 h4=>?_)))
   cases ok with
   | false=>exact Ab (And.intro rfl h4)
   | true=>exact Aa (Aa (thn h4 λx z5 h5=>Aa (thn h5 λ_ z6 h6=>Ab (Ab (And.intro rfl h6)))))
 refine codeAny_loop rfl J (λn z hz=>?_) n h
 exact wpAny_noted (B2 (step n z hz) (λ_ _ q=>q) λ_ _ q=>q.elim)
theorem HE {scope:Scope}{env:Env}(h:∀ y∈scope.names,y.2=.free->∃ c,env.cells.lookup y.1=some c) :
  ∃ cl,closureFor scope env=pure cl∧(∀ x c,cl.lookup x=some c->env.cells.lookup x=some c)∧∀ y∈scope.names,y.2=.free->∃ c,cl.lookup y.1=some c:=by
 have gen:∀ (l:List (Str×NameKind)) (acc:List (Str×Addr)),(∀ y∈l,y.2=.free->∃ c,env.cells.lookup y.1=some c)->(∀ x c,acc.lookup x=some c->env.cells.lookup x=some c) ->
   ∃ cl,(forIn l acc λ(x:Str×NameKind) (r:List (Str×Addr))=>if (x.2==NameKind.free)=true then do let c←cellOf env x.1;pure (ForInStep.yield ((x.1,c)::r)) else pure (ForInStep.yield r))=(pure cl:Sem (List (Str×Addr))) ∧
    (∀ x c,cl.lookup x=some c->env.cells.lookup x=some c)∧(∀ y∈l,y.2=.free->∃ c,cl.lookup y.1=some c)∧∀ x c,acc.lookup x=some c->∃ c',cl.lookup x=some c':=by
  intro l
  induction l with
  | nil=>intro acc _ ha;exact ⟨acc,rfl,ha,λ_ z=>(nomatch z),λx c e=>⟨c,e⟩⟩
  | cons y r ih =>
   intro acc hl ha
   obtain ⟨n,k⟩:=y
   by_cases hk:k=.free
   ·subst hk
    obtain ⟨c,hc⟩:=hl (n,.free) List.mem_cons_self rfl
    have ha':∀ x c',((n,c)::acc).lookup x=some c'->env.cells.lookup x=some c':=λx c' e=>by
     by_cases hx:x=n
     ·subst hx
      have hb:(x==x)=true:=beq_iff_eq.mpr rfl
      simp only [List.lookup,hb] at e
      cases e;exact hc
     ·have hb:(x==n)=false:=beq_eq_false_iff_ne.mpr hx
      simp only [List.lookup,hb] at e
      exact ha x c' e
    obtain ⟨cl,h1,h2,h3,h4⟩:=ih ((n,c)::acc) (λy hy=>hl y (BR _ hy)) ha'
    refine ⟨cl,?_,h2,λy hy hf=>?_,λx c' e=>?_⟩
    ·rw [B9]
     have e:cellOf env n=pure c:=by unfold cellOf;rw [hc]
     simp only [beq_self_eq_true,if_true,e,pure_bind]
     exact h1
    ·refine (An.mp hy).elim (λz=>?_) λhy=>?_
     ·subst z
      have hb:(n==n)=true:=beq_iff_eq.mpr rfl
      exact h4 n c (by simp only [List.lookup,hb])
     ·exact h3 y hy hf
    ·by_cases hx:x=n
     ·subst hx
      have hb:(x==x)=true:=beq_iff_eq.mpr rfl
      exact h4 x c (by simp only [List.lookup,hb])
     ·have hb:(x==n)=false:=beq_eq_false_iff_ne.mpr hx
      exact h4 x c' (by simp only [List.lookup,hb];exact e)
   ·obtain ⟨cl,h1,h2,h3,h4⟩:=ih acc (λy hy=>hl y (BR _ hy)) ha
    refine ⟨cl,?_,h2,λy hy hf=>?_,h4⟩
    ·rw [B9]
     have e:(k==NameKind.free)=false:=by simpa using hk
     simp only [e,Az,A7,pure_bind]
     exact h1
    ·refine (An.mp hy).elim (λz=>?_) λhy=>?_
     ·subst z
      exact absurd hf hk
     ·exact h3 y hy hf
 obtain ⟨cl,h1,h2,h3,_⟩:=gen scope.names [] h (λx c e=>by simp at e)
 refine ⟨cl,?_,h2,h3⟩
 unfold closureFor
 rw [← h1]
 simp only [bind_pure]
noncomputable def CH (X:Cx)(scope:Scope)(N:List Str)(cl:List (Str×Addr))(C:Addr)(s₁:Shared)(H₁:Hp)(fp:List Addr):Cx where
 prog:=X.prog
 w:=X.w
 K:=X.K
 mg:=X.mg
 base:=X.base
 A:=X.A
 N:=N
 s₀:=s₁
 H₀:=H₁
 env:=compEnvC scope cl C X.env
 outer:=X.stack
 stack:=X.stack
 ex:=fp
 fn:=λ_=>false
 calm:=X.calm
 pn:=[]
 xe:=λ_ _=>False
noncomputable def PF (X:Cx)(ifs:List Expr)(t:TT):Prop:=
 ∀ (pins:List (Addr×Obj)) (s:Shared) (σ:St) (H:Hp) (Q:Bool->Hp->Prop),Inv X pins σ H s->t σ H Q ->
  wpAny (model X.prog X.w) X.A (tests X.env ifs) (TP X pins σ Q) X.xe s
noncomputable def ZY:TT:=λ_ H Q=>Q true H
theorem Xw {X:Cx}:PF X [] ZY:=λ_ _ _ H _ I h=>wpAny_tests_nil ⟨H,I,h⟩
theorem Wf {X:Cx}{c:Expr}{t:TT}(h:PT X c t):PF X [c] t:=λpins s σ H Q I q=>wpAny_tests_one (h pins s σ H Q I q)
noncomputable def FvOk (X:Cx)(sc:Scope):List (Nat×Str)->Prop
 | []=>True
 | p::r=>(X.N[p.1]? = some p.2∧(X.env.scope.names.lookup p.2=some .cell∨X.env.scope.names.lookup p.2=some .free)∧(sc.names.lookup p.2=some .cell∨sc.names.lookup p.2=some .free))∧FvOk X sc r
theorem FvOk.get {X:Cx}{sc:Scope}:∀ {l:List (Nat×Str)} {k:Nat} {p:Nat×Str},FvOk X sc l->l[k]? = some p ->
  X.N[p.1]? = some p.2∧(X.env.scope.names.lookup p.2=some .cell∨X.env.scope.names.lookup p.2=some .free)∧(sc.names.lookup p.2=some .cell∨sc.names.lookup p.2=some .free)
 | [],_,_,_,h=>(by simp at h)
 | _::_,0,_,hf,h=>by simp at h;subst h;exact hf.1
 | _::_,k+1,_,hf,h=>FvOk.get (k:=k) hf.2 (by simpa using h)
noncomputable def st0 (nc:Nat)(fv:List (Nat×Str))(σ:St):St:=List.replicate nc none++fv.map λp=>σ.getD p.1 none
noncomputable def Z2 (J:It)(st:St)(g:TG)(tt:TT)(te:TE)(Q:VK)(H1:Hp):Prop:=
 ∃ W:Nat->Nat->List V->St->Hp->Prop,(∃ m,W 0 m [] st H1)∧∀ i m ys σ' H',W i m ys σ' H'->ys.length≤sizeLine ∧
  ((J.stop i H'∧∀ p,H' p=none->Q (.ref p) (upd H' p (.lst ys))) ∨
   (J.go i H'∧∀ x H2,J.yld i H' x H2->g x σ' H2 fun σ3 H3=>tt σ3 H3 λb H4 =>
    if b=true then te σ3 H4 λv H5=>∃ m',m'<m∧W (i+1) m' (ys++[v]) σ3 H5 else ∃ m',m'<m∧W (i+1) m' ys σ3 H4))
noncomputable def tLC (wi:TI)(nc:Nat)(fv:List (Nat×Str))(g:TG)(tt:TT)(te:TE):TE:=fun σ H Q=>wi σ H λJ H1=>Z2 J (st0 nc fv σ) g tt te Q H1
theorem FD {scope:Scope}{env:Env}{x:Str}(hcell:∀ y∈scope.names,y.2≠.cell)
  (h:(relabel scope env).names.lookup x=some .cell∨(relabel scope env).names.lookup x=some .free):(x,NameKind.free)∈scope.names:=by
 have key:∀ k,(relabel scope env).names.lookup x=some k->k=.cell∨k=.free->(x,NameKind.free)∈scope.names:=λk hk hkk=>by
  have hm:=Cb hk
  obtain ⟨⟨n,k'⟩,hy,e⟩:=Ar.mp hm
  dsimp only at e
  by_cases hc:(k'==NameKind.free&&env.scope.kind==.function&&env.kindOf n==some .cell)=true
  ·rw [if_pos hc] at e
   cases e
   have:k'=.free:=by
    rw [Ac,Ac] at hc
    exact beq_iff_eq.mp hc.1.1
   subst this
   exact hy
  ·rw [if_neg hc] at e
   cases e
   rcases hkk with e|e
   ·subst e;exact absurd rfl (hcell _ hy)
   ·subst e;exact hy
 rcases h with h|h
 ·exact key _ h (.inl rfl)
 ·exact key _ h (.inr rfl)
theorem Un.lay {fs ex:List Addr}{H H':Hp}{h h':Heap}{D:Addr}{o:HO}(u:Un fs ex H H' h h')(hD:h.objs.size≤D)(hn:H' D=none):Un fs ex H (upd H' D o) h h' where
 keep:=u.keep
 slot:=u.slot
 free:=λb ob q n hx=>by
  rw [CQ (Au (AD (Al q) hD))]
  exact u.free b ob q n hx
 there:=u.there
 tups:=λb xs q=>by have:=u.tups b xs q;rw [CQ (CK this hn)];exact this
 frzs:=λb ob xs q=>by have:=u.frzs b ob xs q;rw [CQ (CK this hn)];exact this
 tbls:=λb ps q=>by
  obtain ⟨m,e⟩:=u.tbls b ps q
  exact ⟨m,by rw [CQ (CK e hn)];exact e⟩
theorem HOk.lay {P:Program}{w:World}{H:Hp}{h:Heap}{D:Addr}{o:HO}(x:HOk P w H h)(hn:H D=none)(new:ObjOk P w (upd H D o) h D o):HOk P w (upd H D o) h:=λb u e=>by
 by_cases hb:b=D
 ·subst hb;rw [Dw] at e;cases e;exact new
 ·rw [CQ hb] at e
  exact (x b u e).stay (λc v _ q=>q) (λc q=>by rw [CQ (CK q hn)];exact q) λc xs q=>by rw [CQ (CK q hn)];exact q
theorem Un.same {fs ex:List Addr}{H H':Hp}{h h1 h2:Heap}{C:Addr}(u:Un fs ex H H' h h1)(hC:h.objs.size≤C)(sb:Heap.SameBut C h1 h2):Un fs ex H H' h h2:=by
 have ne:∀ b o,h.get? b=some o->b≠C:=λb o e=>Au (AD (Al e) hC)
 refine ⟨λb o q n hb hx=>(sb.2 b (ne b o q)).trans (u.keep b o q n hb hx),λb o q n hb hx=>?_,u.free,λb o q hx=>?_,u.tups,u.frzs,u.tbls⟩
 ·obtain ⟨sl,e⟩:=u.slot b o q n hb hx
  exact ⟨sl,(sb.2 b (ne b o q)).trans e⟩
 ·obtain ⟨o',e⟩:=u.there b o q hx
  exact ⟨o',(sb.2 b (ne b o q)).trans e⟩
theorem HOk.same {P:Program}{w:World}{H:Hp}{h1 h2:Heap}{C:Addr}(x:HOk P w H h1)(hn:H C=none)(sb:Heap.SameBut C h1 h2):HOk P w H h2:=λb u e=>by
 refine (x b u e).stay (λc v hc q=>(sb.2 c ?_).trans q) (λ_ q=>q) λ_ _ q=>q
 rcases hc with rfl|hc
 ·exact CK e hn
 ·exact CK hc hn
section
variable {X:Cx} {tg iter elt:Expr} {ifs:List Expr} {scope:Scope} {pos:Pos} {wi:TI} {own:List Str} {fv:List (Nat×Str)} {g:TG} {tt:TT} {te:TE}
structure JJ (X:Cx) (scope:Scope) (fv:List (Nat×Str)):Prop where
 calm:X.calm=true
 kind:scope.kind=.function
 cell:∀ y∈scope.names,y.2≠.cell
 names:∀ y∈scope.names,y.2=.local->scope.names.lookup y.1=some .local
 free:∀ y∈scope.names,y.2=.free->X.env.kindOf y.1=some .cell∨X.env.kindOf y.1=some .free
 fv:FvOk X (relabel scope X.env) fv
theorem Jw {pins:List (Addr×Obj)}{σ:St}{H:Hp}{s:Shared}{fp:List Addr}{cl:List (Str×Addr)}{h₁:Heap}{own:List Str}(I:Inv X pins σ H s)(L:JJ X scope fv)(hf:∀ b∈fp,FT X pins H b)(hfo:∀ b∈fp,∃ o,s.heap.get? b=some o)
  (hsub:∀ x c,cl.lookup x=some c->X.env.cells.lookup x=some c) (hhas:∀ y∈scope.names,y.2=.free->∃ c,cl.lookup y.1=some c)
  (hns:h₁.Ns (s.heap.objs.size+1) (λx=>([]:List (Str×Value)).reverse.lookup x)) (hold:∀ b o,s.heap.get? b=some o->h₁.get? b=some o) (hD:h₁.get? s.heap.objs.size=some { cls:=.type "list",data:=.seq #[] 0 }) {tk:Nat} :
  Inv (CH X scope (own++fv.map (·.2)) cl (s.heap.objs.size+1) s H fp) [(s.heap.objs.size,{ cls:=.type "list",data:=.seq #[] 0 })] (st0 own.length fv σ) H { s with heap:=h₁,toks:=tk }:=by
 have nst:∀ b,s.heap.objs.size≤b->b∉frs X.stack:=λb hb hm=>by
  rcases An.mp (I.stkSub b hm) with e|e
  ·exact absurd I.lt (by rw [← e];exact Nat.not_lt.mpr hb)
  ·exact I.nofs hb e
 have fpst:∀ b∈fp,b∉frs X.stack:=λb hb hm=>by
  obtain ⟨_,f1,f2,_⟩:=hf b hb
  rcases An.mp (I.stkSub b hm) with e|e
  ·exact f1 e
  ·exact f2 e
 have celllt:∀ x c,cl.lookup x=some c->c<s.heap.objs.size:=λx c e=>by
  obtain ⟨v,z⟩:=I.cell x c (hsub x c e)
  exact z.lt
 refine ⟨⟨I.ok.mod,L.kind,I.ok.glob,I.ok.blt,BU _,λx y c h1 h2=>I.ok.inj x y c (hsub _ _ h1) (hsub _ _ h2),λx hx=>hhas (x,.free) (FD L.cell hx) rfl,λ_ _ z=>Bool.noConfusion z,I.ok.hd,I.ok.frames,.inl rfl,
   λb hb=>⟨?_,λx c e z=>?_⟩,I.bs,AJ I.ok.bsz I.sz,λb o e hb=>?_,fpst,I.stack,I.stkFree⟩,
  rfl,I.bare,Un.kept hold,⟨_,hns,λi x v e1 e2 e3=>?_⟩,λx c e=>?_,I.hok.fresh (BU _),λx c e=>I.freeC x c (hsub x c e),λp hp=>?_,I.hok.kept hold,?_⟩
 ·obtain ⟨o,e⟩:=hfo b hb
  exact Au (A0 (Al e))
 ·exact (hf b hb).2.2.2.2.1 x c (hsub x c e) z
 ·obtain ⟨_,_,_,f3,_⟩:=hf b hb
  rcases f3 with f3|f3
  ·exact I.ok.noex b o e f3
  ·exact absurd (AD (Al e) (AJ I.ok.bsz f3)) (A6 _)
 ·-- a name that is read
  have e1':(own++fv.map (·.2))[i]? = some x:=e1
  unfold st0 at e2
  by_cases hi:i<own.length
  ·rw [Ay (by simpa using hi),BS] at e2
   split at e2<;>cases e2
  ·rw [AU (by simpa using hi),B1,Ap] at e2
   rw [AU (by simpa using hi),Ap] at e1'
   cases hp:fv[i-own.length]? with
   | none=>rw [hp] at e1';cases e1'
   | some p =>
    rw [hp] at e1' e2
    have ex:p.2=x:=AB e1'
    have ev:σ.getD p.1 none=some v:=AB e2
    obtain ⟨q1,q2,q3⟩:=L.fv.get hp
    rw [ex] at q1 q2 q3
    have hσ:σ[p.1]? = some (some v):=by
     rw [AK] at ev
     cases q:σ[p.1]? with
     | none=>rw [q] at ev;cases ev
     | some w=>rw [q] at ev;exact congrArg some ev
    obtain ⟨m,_,hl⟩:=I.loc
    obtain ⟨u,r,l⟩:=hl p.1 x v q1 hσ (by rcases q2 with z|z;exact .inr (.inl z);exact .inr (.inr z))
    refine ⟨u,r,.inr ⟨q3,?_⟩⟩
    rcases l with ⟨k,_⟩|⟨_,c,ec,z⟩
    ·exfalso
     have k':X.env.scope.names.lookup x=some .local:=k
     rcases q2 with z|z<;>rw [k'] at z<;>cases z
    ·obtain ⟨c',ec'⟩:=hhas (x,.free) (FD L.cell q3) rfl
     have:c'=c:=AB ((hsub x c' ec').symm.trans ec)
     subst this
     obtain ⟨o,ho,hd⟩:=z
     exact ⟨c',ec',o,hold _ _ ho,hd⟩
 ·obtain ⟨v,o,ho,hd⟩:=I.cell x c (hsub x c e)
  exact ⟨v,o,hold _ _ ho,hd⟩
 ·have e:p=(s.heap.objs.size,{ cls:=.type "list",data:=.seq #[] 0 }):=by simpa [CH] using hp
  subst e
  exact ⟨hD,I.hok.fresh (Ag _),Au (AV _),nst _ (Ag _),λv z=>by cases z⟩
 ·show (st0 own.length fv σ).length=(own++fv.map (·.2)).length
  unfold st0
  simp
theorem X4 (L:JJ X scope fv)(hi:PI X tg iter wi)
  (hg:∀ cl C s₁ H₁ fp,PG (CH X scope (own++fv.map (·.2)) cl C s₁ H₁ fp) tg g)
  (ht:∀ cl C s₁ H₁ fp,PF (CH X scope (own++fv.map (·.2)) cl C s₁ H₁ fp) ifs tt)
  (he:∀ cl C s₁ H₁ fp,PE (CH X scope (own++fv.map (·.2)) cl C s₁ H₁ fp) elt te)
  (hs:∀ x,foldedSetIterable iter X.env x=pure x:=by intro _;rfl) :
  PE X (.ListComp elt [⟨tg,iter,ifs,0⟩] scope pos) (tLC wi own.length fv g tt te):=by
 intro pins s σ H Q I h
 rw [eval_ListComp]
 obtain ⟨cl,hclos,hsub,hhas⟩:=HE (scope:=scope) (env:=X.env) λy hy hf=>I.ok.has y.1 (L.free y hy hf)
 refine wpAny_comprehension_free (use:=none) rfl hs hclos L.kind L.names (thn (hi pins s σ H _ I h) λv s1 h1=>thn h1 λitv s2 h2=>?_)
 obtain ⟨it,fp,tn,J,H2,e,I2,T,st2,f2,W,⟨m0,w0⟩,turn⟩:=h2
 subst e
 have hfo:∀ b∈fp,∃ o,s2.heap.get? b=some o:=λb hb=>let ⟨o,e,_⟩:=T.obj _ _ st2 b hb;⟨o,e⟩
 refine AR (wpAny_newFunctionEnv L.cell (by intro y hy;simp at hy) (λh₁ hns₁ hsb₁=>?_) L.kind)
 dsimp only at hns₁ hsb₁ ⊢
 have hCe:(s2.heap.push { cls:=.type "list",dict:=none,data:=.seq ([]:List Value).toArray }).objs.size=s2.heap.objs.size+1:=Ba _ _
 rw [hCe] at hns₁ hsb₁ ⊢
 have old:∀ b o,s2.heap.get? b=some o->h₁.get? b=some o:=λb o e=>hsb₁.extBut b o (Au (A0 (Al e))) (Ad _ (Ad _ e))
 have hD₁:h₁.get? s2.heap.objs.size=some { cls:=.type "list",data:=.seq #[] 0 }:=hsb₁.extBut _ _ (Au (AV _)) (Ad _ (Ai _ rfl))
 have I4:=Jw (own:=own) (tk:=s2.toks+([]:List (Str×Value)).length) I2 L f2 hfo hsub hhas hns₁ old hD₁
 generalize hXc:CH X scope (own++fv.map (·.2)) cl (s2.heap.objs.size+1) s2 H2 fp=Xc at I4
 have hg':=hg cl (s2.heap.objs.size+1) s2 H2 fp
 have ht':=ht cl (s2.heap.objs.size+1) s2 H2 fp
 have he':=he cl (s2.heap.objs.size+1) s2 H2 fp
 have st4:tn 0 h₁:=T.keep _ _ _ st2 λb _ o e=>old b o e
 have celllt:∀ x c,cl.lookup x=some c->c<s2.heap.objs.size:=λx c e=>by
  obtain ⟨v,z⟩:=I2.cell x c (hsub x c e)
  exact z.lt
 have nst:s2.heap.objs.size∉frs X.stack:=λhm=>by
  rcases An.mp (I2.stkSub _ hm) with e|e
  ·exact absurd I2.lt (by rw [← e];exact A6 _)
  ·exact I2.nofs (Ag _) e
 rw [hXc] at hg' ht' he'
 have loop:∀ s4:Shared,s4={ s2 with heap:=h₁,toks:=s2.toks+([]:List (Str×Value)).length } ->
   codeAny (model X.prog X.w) X.A (.compLoop (.ListComp elt [⟨tg,iter,ifs,0⟩] scope pos) 0 (.ref it) (.ref s2.heap.objs.size) (compEnvC scope cl (s2.heap.objs.size+1) X.env))
    (compPost (model X.prog X.w) X.A X.xe none (EP X pins σ Q) (.ref s2.heap.objs.size) (s2.heap.objs.size+1)) s4:=by
  rintro s4 rfl
  have fpok:∀ {pl:List (Addr×Obj)} {H':Hp},(∀ p∈pl,p.1=s2.heap.objs.size)->(∀ b∈fp,H' b=none)->∀ b∈fp,FT Xc pl H' b:=λ{pl H'} hpl hn b hb=>by
   obtain ⟨o,eo⟩:=hfo b hb
   have blt:=Al eo
   subst hXc
   refine ⟨hn b hb,Au (A0 blt),λhm=>?_,.inl hb,λx c e=>(f2 b hb).2.2.2.2.1 x c (hsub x c e),λp hp=>?_⟩
   ·obtain ⟨_,f1,f3,_⟩:=f2 b hb
    rcases An.mp (I2.stkSub b hm) with e|e
    ·exact f1 e
    ·exact f3 e
   ·have hp':p∈pl:=by simpa [CH] using hp
    rw [hpl p hp']
    exact BQ blt
  have xP:Xc.prog=X.prog:=by subst hXc;rfl
  have xw:Xc.w=X.w:=by subst hXc;rfl
  have xK:Xc.K=X.K:=by subst hXc;rfl
  have xA:Xc.A=X.A:=by subst hXc;rfl
  have xc:Xc.calm=true:=by subst hXc;exact L.calm
  have xx:Xc.xe=λ_ _=>False:=by subst hXc;rfl
  have xe:Xc.env=compEnvC scope cl (s2.heap.objs.size+1) X.env:=by subst hXc;rfl
  have xs:Xc.s₀=s2:=by subst hXc;rfl
  have xH:Xc.H₀=H2:=by subst hXc;rfl
  have xf:Xc.fs=frs X.stack:=by subst hXc;rfl
  have xex:Xc.ex=fp:=by subst hXc;rfl
  have xpn:Xc.pn=[]:=by subst hXc;rfl
  refine IX (λn s'=>∃ i ys its k σ' H',Inv Xc [(s2.heap.objs.size,{ cls:=.type "list",data:=.seq its k })] σ' H' s'∧Vals ys its.toList∧tn i s'.heap∧(∀ b∈fp,H' b=none)∧W i n ys σ' H') ?_ m0
   ⟨0,[],#[],0,_,H2,I4,.nil,st4,λb hb=>(f2 b hb).1,w0⟩
  rintro n s5 ⟨i,ys,its,k,σ5,H5,I5,r5,st5,fr5,w5⟩
  obtain ⟨hlen,hst⟩:=turn i n ys σ5 H5 w5
  have hf5:=fpok (pl:=[(s2.heap.objs.size,{ cls:=.type "list",data:=.seq its k })]) (λp hp=>by simp at hp;rw [hp]) fr5
  rcases hst with ⟨stop,qn⟩|⟨go,step⟩
  ·-- the end
   have d:=T.done Xc xP xw xK xc i _ s5 σ5 H5 (λ_ _=>False) I5 hf5 st5 stop
   rw [xA] at d
   refine thn d λr s6 ⟨hr,I6⟩=>?_
   subst hr
   obtain ⟨m,hn,_⟩:=I6.loc
   rw [xe] at hn
   refine ⟨m,hn,λh' sb=>?_⟩
   obtain ⟨eD,nD,_⟩:=I6.pin (s2.heap.objs.size,_) (Aj _ (Ao.mpr rfl))
   have nC:H5 (s2.heap.objs.size+1)=none:=by have:=I6.free;rw [xe] at this;exact this
   refine ⟨.ref s2.heap.objs.size,upd H5 s2.heap.objs.size (.lst ys),?_,rfl,qn _ nD⟩
   have U:Un (frs X.stack) fp H2 H5 s2.heap s6.heap:=by have:=I6.base;rw [xf,xex,xs,xH] at this;exact this
   have ok6:HOk X.prog X.w H5 s6.heap:=by have:=I6.hok;rw [xP,xw] at this;exact this
   have eD':h'.get? s2.heap.objs.size=some { cls:=.type "list",data:=.seq its k }:=(sb.2 _ (Au (AV _))).trans eD
   refine I2.call' (s':={ s6 with heap:=h' }) (by have:=I6.os;rw [xs] at this;exact this) ((U.same (BU _) sb).lay (Ag _) nD) ((ok6.same nC sb).lay nD ?_) I6.bare λb hb=>?_
   ·exact ⟨hlen,its.toList,k,r5,by simpa using eD'⟩
   ·obtain ⟨_,f1,_,f3,f4,f5⟩:=f2 b hb
    exact ⟨f3,f1,f4,f5⟩
  ·have d:=T.item Xc xP xw xK xc i _ s5 σ5 H5 (λ_ _=>False) I5 hf5 st5 go
   rw [xA] at d
   refine thn d λr s6 ⟨u,hr,h6⟩=>?_
   subst hr
   refine thn h6 λ_ s7 ⟨x,H7,I7,r7,y7,st7,fr7⟩=>?_
   have I7':=I7.pinned (fpok (pl:=[(s2.heap.objs.size,{ cls:=.type "list",data:=.seq its k })]) (λp hp=>by simp at hp;rw [hp]) fr7) (T.obj _ _ st7)
   have a:=hg' _ s7 σ5 H7 x u _ I7' r7 (step x H7 y7)
   rw [xP,xw,xA,xx,xe] at a
   refine thn a λ_ s8 ⟨σ8,H8,I8,q8⟩=>?_
   have b:=ht' _ s8 σ8 H8 _ I8 q8
   rw [xP,xw,xA,xx,xe] at b
   refine thn b λok s9 ⟨H9,I9,q9⟩=>?_
   have back:∀ {s':Shared} {σ':St} {H':Hp},Inv Xc ([(s2.heap.objs.size,{ cls:=.type "list",data:=.seq its k })]++GB fp s7.heap) σ' H' s' ->
     tn (i+1) s'.heap∧(∀ b∈fp,H' b=none)∧s'.heap.get? s2.heap.objs.size=some { cls:=.type "list",data:=.seq its k }∧H' s2.heap.objs.size=none:=λ{s' σ' H'} J'=>by
    refine ⟨T.keep _ _ _ st7 λb hb o e=>(J'.pin (b,o) (Aj _ (Aj _ (D8 hb e)))).1,λb hb=>?_,?_,?_⟩
    ·obtain ⟨o,e,_⟩:=T.obj _ _ st7 b hb
     exact (J'.pin (b,o) (Aj _ (Aj _ (D8 hb e)))).2.1
    ·exact (J'.pin (s2.heap.objs.size,_) (Aj _ (AX _ (Ao.mpr rfl)))).1
    ·exact (J'.pin (s2.heap.objs.size,_) (Aj _ (AX _ (Ao.mpr rfl)))).2.1
   cases ok with
   | false =>
    rw [if_neg AE] at q9 ⊢
    obtain ⟨m',hm,w9⟩:=q9
    obtain ⟨b1,b2,_,_⟩:=back I9
    exact ⟨m',hm,i+1,ys,its,k,σ8,H9,I9.unpinned,r5,b1,b2,w9⟩
   | true =>
    rw [if_pos rfl] at q9 ⊢
    have c:=he' _ s9 σ8 H9 _ I9 q9
    rw [xP,xw,xA,xx,xe] at c
    refine thn c λu' s10 ⟨y,H10,I10,r10,m',hm,w10⟩=>?_
    obtain ⟨b1,b2,b3,b4⟩:=back I10
    have hz:its.size≤sizeLine:=by
     have e:=r5.length
     simp only [Array.length_toList] at e
     omega
    refine wpAny_list_append_plain (hsz:=hz) ⟨k,b3⟩ λh' hl' sb=>?_
    obtain ⟨k',hk'⟩:=hl'
    have I11:Inv Xc [] σ8 H10 s10:=I10.pins_of λp hp=>nomatch hp
    have nDL:s2.heap.objs.size≠Xc.env.locals:=by rw [xe];exact Au (AV _)
    have I12:Inv Xc [] σ8 H10 { s10 with heap:=h' }:=I11.turned (t':=s10.toks) (it:=s2.heap.objs.size) (λb o hb e=>(sb.2 b hb).trans e) b4 nDL
     (.inr (by rw [xs];exact Ag _)) (λx c e=>by rw [xe] at e;exact Au (celllt x c e)) (λp hp=>by rw [xpn] at hp;exact nomatch hp)
    have I13:Inv Xc [(s2.heap.objs.size,{ cls:=.type "list",data:=.seq (its.push u') k' })] σ8 H10 { s10 with heap:=h' }:=I12.pins_of λp hp=>by
     have e:p=(s2.heap.objs.size,{ cls:=.type "list",data:=.seq (its.push u') k' }):=by simpa using hp
     subst e
     exact ⟨hk',b4,nDL,by rw [xf];exact nst,λv z=>by cases z⟩
    refine ⟨m',hm,i+1,ys++[y],its.push u',k',σ8,H10,I13,?_,T.keep _ _ _ b1 λb hb o e=>(sb.2 b ?_).trans e,b2,w10⟩
    ·rw [BW]
     exact r5.append (.cons r10 .nil)
    ·obtain ⟨o',eo⟩:=hfo b hb
     exact Au (Al eo)
 exact codeAny_compStart_list (loop _ rfl) (T.self _ 0 _ _ _ st4 (loop _ rfl))
end
section
variable {X:Cx}
theorem Mw:OpR X (compareOp .IsNot) (λx y H Q=>∃ a b,x=.bl a∧y=.bl b∧Q (.bl (a != b)) H):=by
 intro pins s σ H x y v u Q I rx ry h
 obtain ⟨a,b,rfl,rfl,q⟩:=h
 cases rx
 cases ry
 exact isnot_bool (LW I q rfl)
theorem TC {bs:List Bool}{us:List Value}(r:Vals (bs.map V.bl) us){i:Nat}{v:Value}(e:us[i]? = some v):∃ b,bs[i]? = some b∧v=.bool b:=by
 have hl:=r.length
 rw [Ah] at hl
 have hi:i<us.length:=(Ae.mp e).1
 obtain ⟨u,hu,ru⟩:=r.get (i:=i) (x:=V.bl (bs[i]'(by omega))) (by simp)
 rw [e] at hu
 cases hu
 exact ⟨_,by simp,ru⟩
theorem Nk (bs:List Bool):((List.range bs.length).all λi=>(bs[i]?).getD true)=bs.all id:=by
 refine B0.mpr ⟨λh=>Aw.mpr λb hb=>?_,λh=>Aw.mpr λi hi=>?_⟩
 ·obtain ⟨k,lk,rfl⟩:=List.mem_iff_getElem.mp hb
  simpa [lk] using Aw.mp h k (A3.mpr lk)
 ·have lk:i<bs.length:=A3.mp hi
  simpa [lk] using Aw.mp h bs[i] (BG lk)
theorem Q3 (hc:X.calm=true):FJ X (.builtin "all") (λxs H Q=>∃ (p:Addr) (bs:List Bool),xs=[.ref p]∧SqL X.K H p (bs.map V.bl)∧Q (.bl (bs.all id)) H):=by
 intro pins s σ H xs us Q I r h
 obtain ⟨p,bs,rfl,hq,q⟩:=h
 obtain ⟨u,rfl,ru⟩:=vals1 r
 cases ru
 obtain ⟨its,rv,pl,hz⟩:=I.list hq
 obtain ⟨m,F⟩:=I.fr
 have hlt:p<s.heap.objs.size:=by obtain ⟨o,n,e,_⟩:=pl;exact Al e
 refine call_all_walk (wpAny_pyIter_list pl.isList ?_)
 refine ⟨s.heap.objs.size,[s.heap.objs.size,p],[s.heap.objs.size],its.toArray.size,_,_,λi=>(bs[i]?).getD true,rfl,
  Walks.list (A:=X.A.in1) (I.ok.hd hc) _ p (Au hlt) its.toArray,⟨⟨_,Ai _ rfl,rfl,rfl⟩,pl.isList.push _⟩,λi v s' Q' E' hP hQ=>?_,λh' tk hk=>?_⟩
 ·obtain ⟨b,e,rfl⟩:=TC rv (i:=i) (v:=v) (by simpa using hP)
  exact B8 (by simpa only [e,Option.getD_some] using hQ)
 ·have e:((List.range its.toArray.size).all λi=>(bs[i]?).getD true)=bs.all id:=by
   rw [Av,← rv.length,Ah]
   exact Nk bs
  rw [e]
  exact ⟨.bl _,H,I.kept λb x e=>hk b x (λhm=>absurd (Al e) (by rw [Ao.mp hm];exact A6 _)) (Ad _ e),rfl,q⟩
theorem NN:OpR X (binaryOp .Mult) (λx y H Q=>∃ (z:Str) (n:Int),x=.str z∧y=.int n∧MulOk z n∧Q (.str (Txt.mul z n)) H):=by
 intro pins s σ H x y v u Q I rx ry h
 obtain ⟨z,n,rfl,rfl,hok,q⟩:=h
 obtain ⟨t,rfl⟩:=rx
 obtain ⟨t',rfl⟩:=ry
 exact SB.mul hok λt' k=>⟨.str _,H,I.tok _,⟨_,rfl⟩,q⟩
theorem part_of {v:Value}{o:Option Int}(p:IsPart v o):∃ l:Option (Int×Tok),v=partValue l∧l.map (·.1)=o:=by
 cases p with
 | none=>exact ⟨none,rfl,rfl⟩
 | int i t=>exact ⟨some (i,t),rfl,rfl⟩
theorem VR:SlR X (λx lo hi H Q=>∃ z:Str,x=.str z∧z.length≤sizeLine∧Q (.str (Txt.slice z lo hi)) H):=by
 intro pins s σ H x v vl vu lo hi sl Q I rx hs pl pu h
 obtain ⟨z,rfl,hz,q⟩:=h
 obtain ⟨t,rfl⟩:=rx
 obtain ⟨l,rfl,rfl⟩:=part_of pl
 obtain ⟨u,rfl,rfl⟩:=part_of pu
 refine ⟨"str",_,PySem.F.slot_str_getitem.lookup,typeIs_str _ _ _,?_⟩
 refine wpAny_getItem_str_slice (l:=l) (u:=u) (st:=none) hs rfl (post_val_or_str ⟨AJ (Txt.slice_le z _ _) hz,λt' k=>?_⟩)
 exact ⟨.str _,H,I.tok _,⟨_,rfl⟩,q⟩
end
section
variable {X:Cx} {pins:List (Addr×Obj)} {σ:St} {H:Hp} {s:Shared} {h':Heap}
theorem Inv.turnedL {t':Nat}{ch:List Addr}(I:Inv X pins σ H s)(k:∀ b o,b∉ch->s.heap.get? b=some o->h'.get? b=some o)(hf:∀ b∈ch,FT X pins H b):Inv X pins σ H { s with heap:=h',toks:=t' }:=by
 have nit:∀ b u,H b=some u->b∉ch:=λb u e z=>by rw [(hf b z).1] at e;cases e
 refine I.step (g':=s.gens) (d':=s.drawn) (ch:=ch) (λb hb=>?_) (λb o _ _ hc e _=>k b o hc e) (λb o _ _ hc e _=>⟨o.slots,k b o hc e⟩) (λ_ _ _ _ n=>n) (λb o hc e=>⟨o,k b o hc e⟩)
  (λ_ _ e=>e) (λ_ _ _ e=>e) (λb ps e=>⟨#[],by rw [e];simp⟩) (λm hm=>?_) (λb u e=>?_) I.bare
 ·obtain ⟨_,f1,_,f3,f4,f5⟩:=hf b hb
  exact ⟨f3,f1,f4,f5⟩
 ·obtain ⟨o,es,ep,ho,r⟩:=hm
  exact ⟨o,es,ep,k _ o (λz=>(hf _ z).2.1 rfl) ho,r⟩
 ·refine (I.hok b u e).stay (λc v hc q=>k c v ?_ q) (λ_ q=>q) λ_ _ q=>q
  rcases hc with z|z
  ·rw [z];exact nit b u e
  ·exact nit c _ z
theorem Inv.lay {T:Addr}{o:HO}(I:Inv X pins σ H s)(hf:FT X pins H T)(hs:X.s₀.heap.objs.size≤T)(new:ObjOk X.prog X.w (upd H T o) s.heap T o):Inv X pins σ (upd H T o) s:=by
 obtain ⟨f0,f1,f2,f3,f4,f5⟩:=hf
 refine ⟨I.ok,I.os,I.bare,I.base.lay hs f0,I.loc,I.cell,?_,λx c e=>?_,λp hp=>?_,I.hok.lay f0 new,I.len⟩
 ·rw [CQ (Ne.symm f1)];exact I.free
 ·rw [CQ (f4 x c e)];exact I.freeC x c e
 ·obtain ⟨e,n,r⟩:=I.pin p hp
  exact ⟨e,by rw [CQ (f5 p hp)];exact n,r⟩
end
noncomputable def Its (x:Str):It:=⟨λi _=>i<x.cps.size,λi H v H'=>H'=H∧∃ c,x.cps[i]? = some c∧v=.str ⟨#[c]⟩,λi _=>i=x.cps.size⟩
theorem Rh {P:Program}{w:World}{K:PySem.W.Frag}{tg:Expr}{ty:String}(x:Str)(t:Tok)(it:Addr)
  (W:∀ A:Around,A.handled=none->Walks P w A it [it] [it] x.cps.size (SignAt x) (λi h=>h.IsStrIter it ty x t i)) (W0:∀ A:Around,∀ i (s:Shared) (Q:Value->Shared->Prop) (E:Value->Shared->Prop),s.heap.IsStrIter it ty x t i->Q (.ref it) s->wpAny (model P w) A (pyIter (.ref it)) Q E s)
  (hn:["enumerate","zip","dict_itemiterator","dict_reverseitemiterator","odict_iterator","itertools.zip_longest","itertools.pairwise"].contains ty=false):Turn P w K tg (Its x) [it] it (λi h=>h.IsStrIter it ty x t i) where
 mem:=by simp
 obj:=λi h st b hb=>by
  have e:b=it:=by simpa using hb
  subst e
  obtain ⟨o,e,c,d⟩:=st
  exact ⟨o,e,λv z=>by rw [d] at z;cases z⟩
 keep:=λi h h' st k=>by
  obtain ⟨o,e,r⟩:=st
  exact ⟨o,k it (by simp) o e,r⟩
 item:=by
  intro X hP hw hK hc i pins s σ H E I hf st hg
  subst hP hw hK
  refine (W X.A (I.ok.hd hc)).item i s _ _ hg st λv h' tk hv st' kk=>?_
  obtain ⟨c,u,hc',rfl⟩:=hv
  have I1:Inv X pins σ H { s with heap:=h',toks:=tk }:=I.turnedL kk hf
  obtain ⟨o,e,c2,d⟩:=id st'
  exact ⟨_,rfl,OK (s:={ s with heap:=h',toks:=tk }) e c2 d hn ⟨.str ⟨#[c]⟩,H,I1,⟨u,rfl⟩,⟨rfl,c,hc',rfl⟩,st',λb hb=>(hf b hb).1⟩⟩
 done:=by
  intro X hP hw hK hc i pins s σ H E I hf st hg
  subst hP hw hK
  have e:i=x.cps.size:=hg
  subst e
  exact (W X.A (I.ok.hd hc)).done s _ _ st λh' tk kk=>⟨rfl,I.turnedL kk hf⟩
 self:=λA i s Q E st h=>W0 A i s Q E st h
noncomputable def Aav (tl:TE):TI:=fun σ H R=>tl σ H λx H1=>∃ z,x=.str z∧R (Its z) H1
theorem W9 {X:Cx}{tg l:Expr}{tl:TE}(hl:PE X l tl):PI X tg l (Aav tl):=by
 intro pins s σ H R I h
 refine thn (hl pins s σ H _ I h) λv s1 ⟨x,H1,I1,r1,q1⟩=>?_
 obtain ⟨z,e,q⟩:=q1
 subst e
 obtain ⟨t,rfl⟩:=r1
 have fin:∀ ty:String,(∀ A:Around,A.handled=none->Walks X.prog X.w A s1.heap.objs.size [s1.heap.objs.size] [s1.heap.objs.size] z.cps.size (SignAt z) (λi h=>h.IsStrIter s1.heap.objs.size ty z t i)) ->
   (∀ A:Around,∀ i (s:Shared) (Q:Value->Shared->Prop) (E:Value->Shared->Prop),s.heap.IsStrIter s1.heap.objs.size ty z t i->Q (.ref s1.heap.objs.size) s->wpAny (model X.prog X.w) A (pyIter (.ref s1.heap.objs.size)) Q E s) ->
   ["enumerate","zip","dict_itemiterator","dict_reverseitemiterator","odict_iterator","itertools.zip_longest","itertools.pairwise"].contains ty=false ->
   PIE X pins σ tg R (.ref s1.heap.objs.size) { s1 with heap:=s1.heap.push { cls:=.type ty,data:=.fields #[.str z t,.int 0 0] } }:=λty W W0 hn=>by
  refine ⟨s1.heap.objs.size,[s1.heap.objs.size],_,_,H1,rfl,I1.kept (t':=s1.toks) λb o e=>Ad _ e,Rh z t _ W W0 hn,⟨_,Ai _ rfl,rfl,rfl⟩,λb hb=>?_,q⟩
  have e:b=s1.heap.objs.size:=by simpa using hb
  subst e
  exact I1.fpOk (Ag _) (I1.hok.fresh (Ag _))
 cases ha:z.cps.all (·<128)
 ·exact wpAny_pyIter_wide ha (fin _ (λA hA=>Walks.strWide hA _ z t) (λA i s Q E st h=>wpAny_pyIter_striter_wide st h) (by decide))
 ·exact wpAny_pyIter_ascii ha (fin _ (λA hA=>Walks.strAscii hA _ z t) (λA i s Q E st h=>wpAny_pyIter_striter_ascii st h) (by decide))
noncomputable def Itz (K:PySem.W.Frag)(a b:Addr):It:=
 ⟨λi H=>∃ xs ys x y,SqL K H a xs∧SqL K H b ys∧xs[i]? = some x∧ys[i]? = some y,
  λi H v H'=>∃ T x y,v=.ref T∧H T=none∧H'=upd H T (.tup [x,y])∧(∀ xs,SqL K H a xs->xs[i]? = some x)∧∀ ys,SqL K H b ys->ys[i]? = some y,
  λi H=>∃ xs ys,SqL K H a xs∧SqL K H b ys∧(xs.length≤i∨ys.length≤i)⟩
noncomputable def YA (z TI TO i1 i2 l1 l2:Addr)(i:Nat)(h:Heap):Prop:=
 IsZip h z TI TO .none∧IsPair h TI (.ref i1) (.ref i2)∧(∃ a b,IsPair h TO a b)∧h.IsListIter i1 l1 i∧h.IsListIter i2 l2 i
theorem S9 {P:Program}{w:World}{K:PySem.W.Frag}{elts:List Expr}{k:Nat}{pos:Pos}(z TI TO i1 i2 l1 l2:Addr)(D:ZipApart z TI TO i1 i2 l1 l2) :
  Turn P w K (.Tuple elts k pos) (Itz K l1 l2) [z,TI,TO,i1,i2] z (YA z TI TO i1 i2 l1 l2) where
 mem:=by simp
 obj:=λi h st b hb=>by
  obtain ⟨h1,h2,⟨_,_,h3⟩,⟨o4,h4,_,d4⟩,⟨o5,h5,_,d5⟩⟩:=st
  have hb':b=z∨b=TI∨b=TO∨b=i1∨b=i2:=by simpa using hb
  rcases hb' with e|e|e|e|e<;>subst e
  ·exact ⟨_,h1,λv e=>by cases e⟩
  ·exact ⟨_,h2,λv e=>by cases e⟩
  ·exact ⟨_,h3,λv e=>by cases e⟩
  ·exact ⟨_,h4,λv e=>by rw [d4] at e;cases e⟩
  ·exact ⟨_,h5,λv e=>by rw [d5] at e;cases e⟩
 keep:=λi h h' st kk=>by
  obtain ⟨h1,h2,⟨a,b,h3⟩,h4,h5⟩:=st
  exact ⟨kk z (by simp) _ h1,kk TI (by simp) _ h2,⟨a,b,kk TO (by simp) _ h3⟩,h4.at λo e=>kk i1 (by simp) o e,h5.at λo e=>kk i2 (by simp) o e⟩
 item:=by
  intro X hP hw hK hc i pins s σ H E I hf st hg
  subst hP hw hK
  obtain ⟨xs,ys,x,y,hq1,hq2,hx,hy⟩:=hg
  obtain ⟨its1,rv1,p1,hz1⟩:=I.list hq1
  obtain ⟨its2,rv2,p2,hz2⟩:=I.list hq2
  obtain ⟨u1,hu1,ru1⟩:=rv1.get hx
  obtain ⟨u2,hu2,ru2⟩:=rv2.get hy
  obtain ⟨h1,h2,⟨a,b,h3⟩,h4,h5⟩:=st
  have D':=D
  refine wpAny_pyNext_zip_item D h1 h2 h3 h4 h5 p1.isList p2.isList (x:=u1) (y:=u2) (by simpa using hu1) (by simpa using hu2) λh' a1 a2 a3 a4 a5 a6 hk=>?_
  have lt:∀ {c:Addr} {o:Obj},s.heap.get? c=some o->c≠s.heap.objs.size:=λe=>Au (Al e)
  refine ⟨_,rfl,wpAny_letOwnedTupleGo_zip a1 λh'' b1 sb=>?_⟩
  have nT:s.heap.objs.size≠z:=Ne.symm (lt h1)
  have kk:∀ b o,b∉[z,TI,TO,i1,i2]->s.heap.get? b=some o->h''.get? b=some o:=λb o hb e=>by
   simp only [An,A4,or_false,not_or] at hb
   exact (sb.2 b hb.1).trans (hk b o hb.1 hb.2.2.1 hb.2.2.2.1 hb.2.2.2.2 e)
  have I1:Inv X pins σ H { s with heap:=h'',toks:=s.toks }:=I.turnedL kk hf
  have hn:H s.heap.objs.size=none:=I.hok.fresh (Ag _)
  have fT:FT X pins H s.heap.objs.size:=I.fpOk (Ag _) hn
  have I2:Inv X pins σ (upd H s.heap.objs.size (.tup [x,y])) { s with heap:=h'',toks:=s.toks }:=I1.lay fT I.sz
   ⟨⟨by show 2≤sizeLine;decide,_,(sb.2 _ nT).trans a5,rfl⟩,[u1,u2],.cons ru1 (.cons ru2 .nil),⟨_,(sb.2 _ nT).trans a5,rfl,_,rfl⟩⟩
  refine ⟨.ref s.heap.objs.size,_,I2,rfl,⟨_,x,y,rfl,hn,rfl,λxs' hx'=>by rw [I.list_inj hx' hq1];exact hx,λys' hy'=>by rw [I.list_inj hy' hq2];exact hy⟩,?_,λb hb=>?_⟩
  ·exact ⟨b1,(sb.2 _ D.TIz).trans (hk _ _ D.TIz D.TITO D.TIi1 D.TIi2 h2),⟨_,_,(sb.2 _ D.TOz).trans a2⟩,a3.at λo e=>(sb.2 _ D.i1z).trans e,a4.at λo e=>(sb.2 _ D.i2z).trans e⟩
  ·have hb':b=z∨b=TI∨b=TO∨b=i1∨b=i2:=by simpa using hb
   have ne:b≠s.heap.objs.size:=by
    obtain ⟨o4,e4,_⟩:=h4
    obtain ⟨o5,e5,_⟩:=h5
    rcases hb' with e|e|e|e|e<;>subst e
    ·exact lt h1
    ·exact lt h2
    ·exact lt h3
    ·exact lt e4
    ·exact lt e5
   rw [CQ ne]
   exact (hf b hb).1
 done:=by
  intro X hP hw hK hc i pins s σ H E I hf st hg
  subst hP hw hK
  obtain ⟨xs,ys,hq1,hq2,hend⟩:=hg
  obtain ⟨its1,rv1,p1,hz1⟩:=I.list hq1
  obtain ⟨its2,rv2,p2,hz2⟩:=I.list hq2
  obtain ⟨h1,h2,⟨a,b,h3⟩,h4,h5⟩:=st
  have l1:=rv1.length
  have l2:=rv2.length
  refine wpAny_pyNext_zip_end (I.ok.hd hc) D h1 h2 h3 h4 h5 p1.isList p2.isList (by
   rcases hend with e|e
   ·exact .inl (by simp;omega)
   ·exact .inr (by simp;omega)) λh' hk=>⟨rfl,I.turnedL (t':=s.toks) (λb o hb e=>?_) hf⟩
  simp only [An,A4,or_false,not_or] at hb
  exact hk b o hb.1 hb.2.2.1 hb.2.2.2.1 hb.2.2.2.2 e
 self:=λA i s Q E st h=>wpAny_pyIter_zip st.1 h
theorem WW {a b:Nat}(h:a<b∨b<a):a≠b:=by omega
theorem Mf (n a b:Nat)(h1:a<n)(h2:b<n):ZipApart (n+4) (n+2) (n+3) n (n+1) a b:=by
 constructor<;>(refine WW ?_;omega)
noncomputable def Aap (K:PySem.W.Frag)(ta:TA):TI:=fun σ H R=>ta σ H λvs H1=>∃ a b,vs=[.ref a,.ref b]∧(∃ xs,SqL K H1 a xs)∧(∃ ys,SqL K H1 b ys)∧R (Itz K a b) H1
theorem Wx {X:Cx}{a b:Expr}{ta:TA}{p pos:Pos}{elts:List Expr}{k:Nat}{tp:Pos}(hg:Gl X "zip")(hm:X.mg "zip"=none)(hz:bootBuiltins "zip"=some (.type "zip"))(ha:PA X [a,b] ta)(hs:starEach [a,b] X.env=[(false,eval a X.env),(false,eval b X.env)]:=by rfl)(hs2:starEach [b] X.env=[(false,eval b X.env)]:=by rfl) :
  PI X (.Tuple elts k tp) (.Call (.Name "zip" p) [a,b] [] pos) (Aap X.K ta):=by
 intro pins s σ H R I h
 refine Call_ (IF I hg hm hz (Cd (thn (ha pos pins s σ H _ I h) λus s1 ⟨vs,H1,I1,r1,q1⟩=>?_) (by rw [hs,hs2]) (by rw [hs2];rfl)))
 obtain ⟨a1,a2,e,⟨xs,hx⟩,⟨ys,hy⟩,q⟩:=q1
 subst e
 obtain ⟨u1,u2,rfl,ra,rb⟩:=vals2 r1
 cases ra
 cases rb
 obtain ⟨its1,rv1,p1,_⟩:=I1.list hx
 obtain ⟨its2,rv2,p2,_⟩:=I1.list hy
 have lt1:a1<s1.heap.objs.size:=by obtain ⟨o,n,e,_⟩:=p1;exact Al e
 have lt2:a2<s1.heap.objs.size:=by obtain ⟨o,n,e,_⟩:=p2;exact Al e
 refine call_zip_2 p1.isList p2.isList λh' z1 z2 z3 z4 z5 hsz hk=>?_
 refine wpAny_pyIter_zip z1 ?_
 refine ⟨s1.heap.objs.size+4,[s1.heap.objs.size+4,s1.heap.objs.size+2,s1.heap.objs.size+3,s1.heap.objs.size,s1.heap.objs.size+1],_,_,H1,rfl,I1.kept (t':=s1.toks) λb o e=>hk b o e,
  S9 _ _ _ _ _ a1 a2 ?_,⟨z1,z2,⟨_,_,z3⟩,z4,z5⟩,λb hb=>?_,q⟩
 ·exact Mf _ _ _ lt1 lt2
 ·have hle:s1.heap.objs.size≤b:=by
   have hb':b=s1.heap.objs.size+4∨b=s1.heap.objs.size+2∨b=s1.heap.objs.size+3∨b=s1.heap.objs.size∨b=s1.heap.objs.size+1:=by simpa using hb
   rcases hb' with rfl|rfl|rfl|rfl|rfl<;>simp
  exact I1.fpOk hle (I1.hok.fresh hle)
section
variable {prog:Program} {w:World} {A:Around} {E:Value->Shared->Prop} {s:Shared}
theorem Pa:isSubtype (.type "tuple") (.type "set")=pure false:=(by rw [isSubtype_type];kernel_rfl)
theorem JF:isSubtype (.type "tuple") (.type "frozenset")=pure false:=(by rw [isSubtype_type];kernel_rfl)
noncomputable abbrev ET (led:Bool):Obj:={ cls:=.type "set",dict:=none,data:=.set #[] 0 (.fresh 0 0 led) }
theorem call_cls {T nw ini:String}{args:List Value}{Q Q1:Value->Shared->Prop}(ft:TypeCalled T nw ini)(hct:checkTypeCall T ⟨args,[]⟩=pure ())
  (hn:codeAny (model prog w) A.in1 (.call (.builtin nw) ⟨.type T::args,[]⟩) (wants Q1 E) s)
  (hi:∀ obj z,Q1 obj z->z.TypeIs obj T∧codeAny (model prog w) A.in1 (.call (.builtin ini) ⟨obj::args,[]⟩) (wants (λr z'=>r=.none∧Q obj z') E) z) :
  wpAny (model prog w) A (PySem.call (.type T) args) Q E s:=by
 have m1:=ft.made
 have m2:=ft.sub
 have m3:=ft.notType
 have m4:=ft.canCreate
 obtain ⟨_,_,m5⟩:=ft.mro
 have cl:wpAny (model prog w) A.in1 (callAny (.type T) ⟨args,[]⟩) (λfin z=>match fin with
   | .done f=>wants Q E (.ok f) z
   | .again c'=>c'.quiet=true∧codeAny (model prog w) A c' (wants Q E) z) (λe z=>wants Q E (.error e) z) s:=by
  refine Ab (And.intro (Code.quiet_builtin _ (by decide +kernel)) (Bc PySem.F.entry_type_call ?_))
  rw [Around.under_plain (weight_type_call_type T args []) (by rfl)]
  repeat (any_goals (first|wp_step|assumption))
  refine codeAny_mono hn λr z hz=>?_
  cases r with
  | error e=>exact hz
  | ok fl =>
   cases fl<;>first|exact hz.elim|skip
   rename_i obj
   obtain ⟨hT,hc⟩:=hi _ _ hz
   have m6:=ft.init.lookup
   have m7:=ft.init.bind obj
   repeat (any_goals (first|wp_step|assumption))
   refine codeAny_mono hc λr2 z2 h2=>?_
   cases r2 with
   | error e=>exact h2
   | ok f2 =>
    cases f2<;>first|exact h2.elim|skip
    obtain ⟨e0,hq⟩:=h2
    subst e0
    repeat (any_goals (first|wp_step|assumption))
 exact wpAny_call (codeAny_of_tree cl)
end
structure LcS (esc scope:Scope):Prop where
 kind:scope.kind=.function
 cell:∀ y∈scope.names,y.2≠.cell
 names:∀ y∈scope.names,y.2=.local->scope.names.lookup y.1=some .local
 free:∀ y∈scope.names,y.2=.free->esc.names.lookup y.1=some .cell∨esc.names.lookup y.1=some .free
theorem HL {X:Cx}{scope:Scope}{fv:List (Nat×Str)}(esc:Scope)(he:X.env.scope=esc)(hc:X.calm=true)(h:LcS esc scope)(hf:FvOk X (relabel scope X.env) fv):JJ X scope fv:=
 ⟨hc,h.kind,h.cell,h.names,λy hy hk=>by subst he;exact h.free y hy hk,hf⟩
end L2
namespace PV
open PySem L2 PySem.Spec PyProof.Rows
structure Zc where
 K:PySem.W.Frag
 P:Program
 w:World
noncomputable abbrev _root_.L2.Cx.z (X:Cx):Zc:=⟨X.K,X.prog,X.w⟩
inductive D where
 | non|bl (b:Bool)|int (i:Int)|str (x:Str)|tup (ds:List D)|lst (ds:List D)|dct (ks vs:List D)|set (ds:List D)|ref (k:Nat)
noncomputable instance:DecidableEq D:=λa b=>Classical.propDecidable (a=b)
inductive MO where
 | lst (ds:List D)|dct (ks ds:List D)
noncomputable abbrev Sto:=List MO
noncomputable abbrev Rs (α:Type):=Option (α×Sto)
noncomputable abbrev Ro:=List (Option D)
noncomputable abbrev Ex:=Ro->Sto->Rs D
noncomputable abbrev Exs:=Ro->Sto->Rs (List D)
noncomputable abbrev Tx:=Ro->Sto->Rs Bool
inductive Fl where
 | nx|bk|ct|rt (d:D)
noncomputable abbrev Sx:=Ro->Sto->Rs (Fl×Ro)
noncomputable abbrev Fn:=List D->Sto->Rs D
noncomputable def bM {α β:Type}(r:Rs α)(f:α->Sto->Rs β):Rs β:=match r with
 | none=>none
 | some (a,m)=>f a m
theorem CL {α β:Type}{a:α}{m:Sto}{f:α->Sto->Rs β}:bM (some (a,m)) f=f a m:=rfl
theorem Gh {α β:Type}{r:Rs α}{f:α->Sto->Rs β}{b:β}{m':Sto}(h:bM r f=some (b,m')):∃ a m,r=some (a,m)∧f a m=some (b,m'):=by
 cases r with
 | none=>cases h
 | some p=>exact ⟨p.1,p.2,rfl,h⟩
mutual
noncomputable def CA (w:World):D->Int
 | .non=>reduceHash 0xFCA86420
 | .int i=>hashInt i
 | .str x=>hashStr w x
 | .tup ds=>reduceHash (Builtin.Tuple.tupleHashOf (E3 w ds))
 | _=>0
noncomputable def E3 (w:World):List D->List Int
 | []=>[]
 | d::ds=>CA w d::E3 w ds
end
mutual
noncomputable def dpt:D->Nat
 | .tup ds=>Ib ds+1
 | _=>0
noncomputable def Ib:List D->Nat
 | []=>0
 | d::ds=>max (dpt d) (Ib ds)
end
mutual
noncomputable def hsh:D->Bool
 | .non=>true
 | .int _=>true
 | .str _=>true
 | .tup ds=>FA ds
 | _=>false
noncomputable def FA:List D->Bool
 | []=>true
 | d::ds=>hsh d&&FA ds
end
noncomputable def D7 (d:D):Bool:=hsh d&&decide (dpt d≤8)
structure KeysOk (ks:List D):Prop where
 len:ks.length≤sizeLine
 nd:ks.Nodup
 ok:∀ k∈ks,D7 k=true
theorem Fy (w:World)(ds:List D):E3 w ds=ds.map (CA w):=by induction ds with
 | nil=>rfl
 | cons d ds ih=>rw [E3,ih];rfl
noncomputable def WJ (a:Addr)(xs:List (Int×V×V))(h:Heap):Prop:=(a==sysModules)=false∧∃ o es ep,h.get? a=some o∧o.ExactDict∧o.data=.dict es ep∧Paired (λ(x:Int×V×V) (e:DictEntry)=>e.hash=x.1∧RelV x.2.1 e.key∧RelV x.2.2 e.val) xs es.toList
noncomputable def E1 (a:Addr)(xs:List (Int×V×V)):HO:=.ext (WJ a xs)
noncomputable def UK (w:World)(a:Addr)(us:List V)(h:Heap):Prop:=∃ o es ep t,h.get? a=some o∧o.ExactSet∧o.data=.set es ep t∧es.size<scanBound∧t.fits es.size=true∧Vals us (es.toList.map (·.2)) ∧
 (w.params.followText "set-order"=true∨t.led=true∧(t.plain=false∨es.size≤1))
noncomputable def L9 (w:World)(a:Addr)(us:List V):HO:=.ext (UK w a us)
noncomputable def FzL (K:Zc)(th:List Addr)(H:Hp)(a:Addr)(vs:List V):Prop:=(a∉th∧Rd H a (.lst vs)) ∨
 ∃ (o:Obj) (its:Array Value) (n:Nat),K.K.lookup a=some o∧o.cls=.type "list"∧o.dict=none∧o.data=.seq its n∧its.size≤sizeLine∧Vals vs its.toList
theorem FzL.sq {K:Zc}{th:List Addr}{H:Hp}{a:Addr}{vs:List V}(h:FzL K th H a vs):SqL K.K H a vs:=h.elim (λh=>.inl h.2) .inr
mutual
noncomputable def Rep (K:Zc)(th:List Addr)(H:Hp):D->V->Prop
 | .non,v=>v=.non
 | .bl b,v=>v=.bl b
 | .int i,v=>v=.int i
 | .str x,v=>v=.str x∧x.length≤sizeLine∧PyData.strOk x=true
 | .tup ds,v=>∃ a vs,v=.ref a∧SqT K.K H a vs∧RepL K th H ds vs∧ds.length≤sizeLine
 | .lst ds,v=>∃ a vs,v=.ref a∧FzL K th H a vs∧RepL K th H ds vs∧ds.length≤sizeLine
 | .dct ks ds,v=>∃ a xs,v=.ref a∧a∉th∧H a=some (E1 a xs)∧xs.map (·.1)=E3 K.w ks∧RepL K th H ks (xs.map (·.2.1))∧RepL K th H ds (xs.map (·.2.2))∧KeysOk ks
 | .set ds,v=>∃ a us vs,v=.ref a∧a∉th∧H a=some (L9 K.w a us)∧us.Perm vs∧RepL K th H ds vs∧ds.Nodup
 | .ref k,v=>∃ a,v=.ref a∧th[k]? = some a
noncomputable def RepL (K:Zc)(th:List Addr)(H:Hp):List D->List V->Prop
 | [],vs=>vs=[]
 | d::ds,vs=>∃ v r,vs=v::r∧Rep K th H d v∧RepL K th H ds r
end
section
variable {K:Zc} {th th':List Addr} {H H':Hp}
theorem RepL.nil:RepL K th H [] []:=by unfold RepL;rfl
theorem RepL.cons {d:D}{ds:List D}{v:V}{r:List V}(h:Rep K th H d v)(t:RepL K th H ds r):RepL K th H (d::ds) (v::r):=by unfold RepL;exact ⟨v,r,rfl,h,t⟩
theorem RepL.inv {d:D}{ds:List D}{vs:List V}(h:RepL K th H (d::ds) vs):∃ v r,vs=v::r∧Rep K th H d v∧RepL K th H ds r:=by unfold RepL at h;exact h
theorem RepL.inv0 {vs:List V}(h:RepL K th H [] vs):vs=[]:=by unfold RepL at h;exact h
theorem RepL.len:∀ {ds:List D} {vs:List V},RepL K th H ds vs->vs.length=ds.length
 | [],_,h=>by rw [h.inv0];rfl
 | d::ds,_,h=>by obtain ⟨v,r,rfl,_,t⟩:=h.inv;simp [RepL.len t]
theorem RepL.get:∀ {ds:List D} {vs:List V} {i:Nat} {d:D},RepL K th H ds vs->ds[i]? = some d->∃ v,vs[i]? = some v∧Rep K th H d v
 | [],_,_,_,_,e=>by simp at e
 | d::ds,_,0,d',h,e=>by obtain ⟨v,r,rfl,h1,_⟩:=h.inv;simp at e;subst e;exact ⟨v,rfl,h1⟩
 | d::ds,_,i+1,d',h,e=>by
  obtain ⟨v,r,rfl,_,t⟩:=h.inv
  obtain ⟨u,e1,e2⟩:=RepL.get (i:=i) t (by simpa using e)
  exact ⟨u,by simpa using e1,e2⟩
theorem RepL.getV:∀ {ds:List D} {vs:List V} {i:Nat} {v:V},RepL K th H ds vs->vs[i]? = some v->∃ d,ds[i]? = some d∧Rep K th H d v
 | [],_,_,_,h,e=>by rw [h.inv0] at e;simp at e
 | d::ds,_,0,v',h,e=>by obtain ⟨v,r,rfl,h1,_⟩:=h.inv;simp at e;subst e;exact ⟨d,rfl,h1⟩
 | d::ds,_,i+1,v',h,e=>by
  obtain ⟨v,r,rfl,_,t⟩:=h.inv
  obtain ⟨u,e1,e2⟩:=RepL.getV (i:=i) t (by simpa using e)
  exact ⟨u,by simpa using e1,e2⟩
theorem RepL.app:∀ {ds es:List D} {vs us:List V},RepL K th H ds vs->RepL K th H es us->RepL K th H (ds++es) (vs++us)
 | [],_,_,_,h,t=>by rw [h.inv0];exact t
 | d::ds,_,_,_,h,t=>by obtain ⟨v,r,rfl,h1,h2⟩:=h.inv;exact .cons h1 (RepL.app h2 t)
theorem RepL.take:∀ {ds:List D} {vs:List V} (n:Nat),RepL K th H ds vs->RepL K th H (ds.take n) (vs.take n)
 | _,_,0,_=>by simp only [List.take_zero];exact .nil
 | [],_,n+1,h=>by rw [h.inv0];exact .nil
 | d::ds,_,n+1,h=>by obtain ⟨v,r,rfl,h1,h2⟩:=h.inv;exact .cons h1 (RepL.take n h2)
theorem RepL.drop:∀ {ds:List D} {vs:List V} (n:Nat),RepL K th H ds vs->RepL K th H (ds.drop n) (vs.drop n)
 | _,_,0,h=>h
 | [],_,n+1,h=>by rw [h.inv0];exact .nil
 | d::ds,_,n+1,h=>by obtain ⟨v,r,rfl,h1,h2⟩:=h.inv;exact RepL.drop n h2
theorem RepL.rev:∀ {ds:List D} {vs:List V},RepL K th H ds vs->RepL K th H ds.reverse vs.reverse
 | [],_,h=>by rw [h.inv0];exact .nil
 | d::ds,_,h=>by
  obtain ⟨v,r,rfl,h1,h2⟩:=h.inv
  rw [List.reverse_cons,List.reverse_cons]
  exact (RepL.rev h2).app (.cons h1 .nil)
theorem RepL.setAt:∀ {ds:List D} {vs:List V} (i:Nat) {d:D} {v:V},RepL K th H ds vs->Rep K th H d v->RepL K th H (ds.set i d) (vs.set i v)
 | [],_,_,_,_,h,_=>by rw [h.inv0];exact .nil
 | d::ds,_,0,_,_,h,g=>by obtain ⟨v,r,rfl,h1,h2⟩:=h.inv;exact .cons g h2
 | d::ds,_,i+1,_,_,h,g=>by obtain ⟨v,r,rfl,h1,h2⟩:=h.inv;exact .cons h1 (RepL.setAt i h2 g)
structure Ext (th:List Addr) (H:Hp) (th':List Addr) (H':Hp):Prop where
 pre:∃ more,th'=th++more
 out:∀ a o,a∉th->H a=some o->a∉th'
 keep:∀ a o,a∉th->H a=some o->H' a=some o
theorem Ext.refl (th:List Addr)(H:Hp):Ext th H th H:=⟨⟨[],by simp⟩,λ_ _ n _=>n,λ_ _ _ h=>h⟩
theorem Ext.trans {th2:List Addr}{H2:Hp}(a:Ext th H th' H')(b:Ext th' H' th2 H2):Ext th H th2 H2:=by
 obtain ⟨m1,e1⟩:=a.pre
 obtain ⟨m2,e2⟩:=b.pre
 exact ⟨⟨m1++m2,by rw [e2,e1,List.append_assoc]⟩,λx o n h=>b.out x o (a.out x o n h) (a.keep x o n h),λx o n h=>b.keep x o (a.out x o n h) (a.keep x o n h)⟩
theorem Ext.at (e:Ext th H th' H'){k:Nat}{a:Addr}(h:th[k]? = some a):th'[k]? = some a:=by
 obtain ⟨m,rfl⟩:=e.pre
 rw [Ay (Ae.mp h).1]
 exact h
theorem Ext.new {p:Addr}(h:H p=none)(o:HO):Ext th H th (upd H p o):=⟨⟨[],by simp⟩,λ_ _ n _=>n,λa u _ e=>by rw [CQ (CK e h)];exact e⟩
theorem Ext.newM {p:Addr}(h:H p=none)(o:HO):Ext th H (th++[p]) (upd H p o):=⟨⟨[p],rfl⟩,λa u n e z=>(AH.mp z).elim n λz=>(by rw [Ao.mp z,h] at e;cases e),
 λa u _ e=>by rw [CQ (CK e h)];exact e⟩
theorem Ext.mut {p:Addr}(h:p∈th)(o:HO):Ext th H th (upd H p o):=⟨⟨[],by simp⟩,λ_ _ n _=>n,λa u n e=>by rw [CQ (λz=>n (by rw [z];exact h))];exact e⟩
theorem Ext.rd (e:Ext th H th' H'){a:Addr}{u:HO}(n:a∉th)(h:Rd H a u):a∉th'∧Rd H' a u:=by
 rcases h with h|⟨o,h⟩
 ·exact ⟨e.out _ _ n h,.inl (e.keep _ _ n h)⟩
 ·exact ⟨e.out _ _ n h,.inr ⟨o,e.keep _ _ n h⟩⟩
theorem Ext.fz (e:Ext th H th' H'){a:Addr}{vs:List V}(h:FzL K th H a vs):FzL K th' H' a vs:=h.elim (λh=>.inl (e.rd h.1 h.2)) .inr
noncomputable def HB (th:List Addr)(H:Hp):Prop:=∀ a,a∈th->∃ o,H a=some o∧((∃ xs,o=.lst xs)∨∃ φ,o=.ext φ)
theorem Ext.sqT (e:Ext th H th' H')(t:HB th H){a:Addr}{xs:List V}(h:SqT K.K H a xs):SqT K.K H' a xs:=by
 rcases h with h|h
 ·refine .inl (e.rd (λz=>?_) h).2
  obtain ⟨o',q,q2⟩:=t a z
  rcases h with h|⟨o,h⟩
  ·rcases q2 with ⟨_,rfl⟩|⟨_,rfl⟩<;>(rw [q] at h;cases h)
  ·rcases q2 with ⟨_,rfl⟩|⟨_,rfl⟩<;>(rw [q] at h;cases h)
 ·exact .inr h
mutual
theorem Rep.ext (e:Ext th H th' H')(t:HB th H):∀ {d:D} {v:V},Rep K th H d v->Rep K th' H' d v
 | .non,_,h=>h
 | .bl _,_,h=>h
 | .int _,_,h=>h
 | .str _,_,h=>h
 | .tup ds,_,h=>by
  unfold Rep at h ⊢
  obtain ⟨a,vs,q,h1,h2,z⟩:=h
  exact ⟨a,vs,q,e.sqT t h1,RepL.ext e t h2,z⟩
 | .lst ds,_,h=>by
  unfold Rep at h ⊢
  obtain ⟨a,vs,q,h1,h2,z⟩:=h
  exact ⟨a,vs,q,e.fz h1,RepL.ext e t h2,z⟩
 | .dct ks ds,_,h=>by
  unfold Rep at h ⊢
  obtain ⟨a,xs,q,n,h1,h2,h3,h4,h5⟩:=h
  exact ⟨a,xs,q,e.out _ _ n h1,e.keep _ _ n h1,h2,RepL.ext e t h3,RepL.ext e t h4,h5⟩
 | .set ds,_,h=>by
  unfold Rep at h ⊢
  obtain ⟨a,us,vs,q,n,h1,h2,h3,h4⟩:=h
  exact ⟨a,us,vs,q,e.out _ _ n h1,e.keep _ _ n h1,h2,RepL.ext e t h3,h4⟩
 | .ref k,_,h=>by
  unfold Rep at h ⊢
  obtain ⟨a,q,h1⟩:=h
  exact ⟨a,q,e.at h1⟩
theorem RepL.ext (e:Ext th H th' H')(t:HB th H):∀ {ds:List D} {vs:List V},RepL K th H ds vs->RepL K th' H' ds vs
 | [],_,h=>by rw [h.inv0];exact .nil
 | _::_,_,h=>by
  obtain ⟨v,r,rfl,h1,h2⟩:=h.inv
  exact .cons (Rep.ext e t h1) (RepL.ext e t h2)
end
theorem VI {N:List Addr}(hN:N.Nodup){i j:Nat}{x:Addr}(a:N[i]? = some x)(b:N[j]? = some x):i=j:=by
 obtain ⟨hi,ei⟩:=Ae.mp a
 obtain ⟨hj,ej⟩:=Ae.mp b
 have:=BH.mp hN
 rcases BX i j with h|h|h
 ·exact absurd (ei.trans ej.symm) (this i j hi hj h)
 ·exact h
 ·exact absurd (ej.trans ei.symm) (this j i hj hi h)
noncomputable def MRep (K:Zc)(th:List Addr)(H:Hp)(a:Addr):MO->Prop
 | .lst ds=>∃ vs,H a=some (.lst vs)∧RepL K th H ds vs∧ds.length≤sizeLine
 | .dct ks ds=>∃ xs,H a=some (E1 a xs)∧xs.map (·.1)=E3 K.w ks∧RepL K th H ks (xs.map (·.2.1))∧RepL K th H ds (xs.map (·.2.2))∧KeysOk ks
theorem MRep.ext (e:Ext th H th' H')(t:HB th H){a:Addr}{o:MO}(ha:∀ u,H a=some u->H' a=some u)(h:MRep K th H a o):MRep K th' H' a o:=by
 cases o with
 | lst ds=>obtain ⟨vs,q1,q2,z⟩:=h;exact ⟨vs,ha _ q1,q2.ext e t,z⟩
 | dct ks ds=>obtain ⟨xs,q1,q2,q3,q4,z⟩:=h;exact ⟨xs,ha _ q1,q2,q3.ext e t,q4.ext e t,z⟩
structure StoOk (K:Zc) (th:List Addr) (mu:Sto) (H:Hp):Prop where
 len:th.length=mu.length
 nd:th.Nodup
 at':∀ (k:Nat) (a:Addr) (o:MO),th[k]? = some a->mu[k]? = some o->MRep K th H a o
theorem StoOk.out {mu:Sto}(s:StoOk K th mu H):HB th H:=λa ha=>by
 obtain ⟨k,hk,rfl⟩:=List.mem_iff_getElem.mp ha
 have hk':k<mu.length:=by rw [← s.len];exact hk
 have q:=s.at' k th[k] mu[k] (by simp) (by simp)
 cases e:mu[k] with
 | lst ds=>rw [e] at q;obtain ⟨vs,q,_⟩:=q;exact ⟨_,q,.inl ⟨_,rfl⟩⟩
 | dct ks ds=>rw [e] at q;obtain ⟨vs,q,_⟩:=q;exact ⟨_,q,.inr ⟨_,rfl⟩⟩
theorem StoOk.new {mu:Sto}(s:StoOk K th mu H){p:Addr}(h:H p=none)(o:HO):StoOk K th mu (upd H p o):=
 ⟨s.len,s.nd,λk a o' e1 e2=>(s.at' k a o' e1 e2).ext (.new h o) s.out λu q=>by rw [CQ (CK q h)];exact q⟩
theorem StoOk.newG {mu:Sto}(s:StoOk K th mu H){p:Addr}(h:H p=none)(o:HO)(mo:MO)(r:MRep K (th++[p]) (upd H p o) p mo):StoOk K (th++[p]) (mu++[mo]) (upd H p o):=by
 have ex:Ext th H (th++[p]) (upd H p o):=.newM h _
 refine ⟨by simp [s.len],?_,λk a o' e1 e2=>?_⟩
 ·refine BY.mpr ⟨s.nd,by simp,λx hx y hy=>?_⟩
  rw [Ao.mp hy]
  obtain ⟨xs,q,_⟩:=s.out x hx
  exact CK q h
 ·by_cases hk:k<th.length
  ·rw [Ay hk] at e1
   rw [Ay (by rw [← s.len];exact hk)] at e2
   exact (s.at' k a o' e1 e2).ext ex s.out λu q=>by rw [CQ (CK q h)];exact q
  ·have hk2:k=th.length:=by
    have:=(Ae.mp e1).1
    simp at this
    omega
   subst hk2
   have e1':a=p:=by simpa using e1.symm
   have e2':o'=mo:=by rw [s.len] at e2;simpa using e2.symm
   subst e1' e2'
   exact r
theorem StoOk.newM {mu:Sto}(s:StoOk K th mu H){p:Addr}(h:H p=none){ds:List D}{vs:List V}(r:RepL K th H ds vs)(hz:ds.length≤sizeLine):StoOk K (th++[p]) (mu++[.lst ds]) (upd H p (.lst vs)):=
 s.newG h _ _ ⟨vs,Dw,r.ext (.newM h _) s.out,hz⟩
theorem StoOk.putG {mu:Sto}(s:StoOk K th mu H){k:Nat}{a:Addr}(hk:th[k]? = some a)(o:HO)(mo:MO)(r:MRep K th (upd H a o) a mo):StoOk K th (mu.set k mo) (upd H a o):=by
 have ex:Ext th H th (upd H a o):=.mut (Am hk) _
 refine ⟨by simp [s.len],s.nd,λj b o' e1 e2=>?_⟩
 by_cases hj:j=k
 ·subst hj
  rw [hk] at e1
  cases e1
  have:j<mu.length:=by rw [← s.len];exact (Ae.mp hk).1
  have e2':o'=mo:=by simpa [this] using e2.symm
  subst e2'
  exact r
 ·rw [AM (Ne.symm hj)] at e2
  have nb:b≠a:=λz=>by
   subst z
   exact hj (VI s.nd e1 hk)
  exact (s.at' j b o' e1 e2).ext ex s.out λu q=>by rw [CQ nb];exact q
theorem StoOk.put {mu:Sto}(s:StoOk K th mu H){k:Nat}{a:Addr}(hk:th[k]? = some a){ds:List D}{vs:List V}(r:RepL K th H ds vs)(hz:ds.length≤sizeLine):StoOk K th (mu.set k (.lst ds)) (upd H a (.lst vs)):=
 s.putG hk _ _ ⟨vs,Dw,r.ext (.mut (Am hk) _) s.out,hz⟩
theorem KeysOk.nil:KeysOk []:=⟨AW _,List.nodup_nil,λ_ h=>nomatch h⟩
theorem StoOk.newD {mu:Sto}(s:StoOk K th mu H){p:Addr}(h:H p=none):StoOk K (th++[p]) (mu++[.dct [] []]) (upd H p (E1 p [])):=
 s.newG h _ _ ⟨[],Dw,rfl,.nil,.nil,.nil⟩
noncomputable def Tr (K:Zc){A:Type}(th:List Addr)(H:Hp)(r:Rs A)(k:A->List Addr->Sto->Hp->Prop):Prop:=
 ∃ a mu',r=some (a,mu')∧∀ th' H',Ext th H th' H'->StoOk K th' mu' H'->k a th' mu' H'
theorem Tr.mono {A:Type}{r:Rs A}{k k':A->List Addr->Sto->Hp->Prop}(h:Tr K th H r k)(f:∀ a th' mu' H',Ext th H th' H'->StoOk K th' mu' H'->k a th' mu' H'->k' a th' mu' H'):Tr K th H r k':=by
 obtain ⟨a,mu',e,q⟩:=h
 exact ⟨a,mu',e,λth' H' x s=>f a th' mu' H' x s (q th' H' x s)⟩
theorem Tr.ahead {A:Type}{r:Rs A}{k:A->List Addr->Sto->Hp->Prop}(h:Tr K th H r k)(x:Ext th H th' H'):Tr K th' H' r k:=by
 obtain ⟨a,mu',e,q⟩:=h
 exact ⟨a,mu',e,λth2 H2 y s=>q th2 H2 (x.trans y) s⟩
theorem Tr.bind {A B:Type}{r:Rs A}{f:A->Sto->Rs B}{k:B->List Addr->Sto->Hp->Prop}(h:Tr K th H (bM r f) k):Tr K th H r λa th1 mu1 H1=>Tr K th1 H1 (f a mu1) k:=by
 obtain ⟨b,mu',e,q⟩:=h
 obtain ⟨a,m,e1,e2⟩:=Gh e
 exact ⟨a,m,e1,λth1 H1 x1 s1=>⟨b,mu',e2,λth' H' x s=>q th' H' (x1.trans x) s⟩⟩
theorem Tr.bindE {A B:Type}{r:Rs A}{f:A->Sto->Rs B}{k:B->List Addr->Sto->Hp->Prop}(h:Tr K th H (bM r f) k):Tr K th H r λa th1 mu1 H1=>r=some (a,mu1)∧Tr K th1 H1 (f a mu1) k:=by
 obtain ⟨b,mu',e,q⟩:=h
 obtain ⟨a,m,e1,e2⟩:=Gh e
 exact ⟨a,m,e1,λth1 H1 x1 s1=>⟨e1,b,mu',e2,λth' H' x s=>q th' H' (x1.trans x) s⟩⟩
theorem Tr.ret {A:Type}{a:A}{mu:Sto}{k:A->List Addr->Sto->Hp->Prop}(h:Tr K th H (some (a,mu)) k)(s:StoOk K th mu H):k a th mu H:=by
 obtain ⟨b,mu',e,q⟩:=h
 cases e
 exact q th H (.refl _ _) s
theorem Tr.retX {A:Type}{a:A}{mu:Sto}{k:A->List Addr->Sto->Hp->Prop}(h:Tr K th H (some (a,mu)) k)(x:Ext th H th' H')(s:StoOk K th' mu H'):k a th' mu H':=by
 obtain ⟨b,mu',e,q⟩:=h
 cases e
 exact q th' H' x s
theorem Tr.no {A:Type}{k:A->List Addr->Sto->Hp->Prop}(h:Tr K th H (none:Rs A) k):False:=by
 obtain ⟨b,mu',e,q⟩:=h
 cases e
noncomputable def EnvOk (K:Zc)(th:List Addr)(H:Hp)(ro:Ro)(st:L2.St):Prop:=ro.length=st.length∧∀ (i:Nat) (d:D),ro[i]? = some (some d)->∃ v,st[i]? = some (some v)∧Rep K th H d v
theorem EnvOk.ext {ro:Ro}{st:L2.St}(h:EnvOk K th H ro st)(e:Ext th H th' H')(t:HB th H):EnvOk K th' H' ro st:=⟨h.1,λi d q=>by
 obtain ⟨v,a,b⟩:=h.2 i d q
 exact ⟨v,a,b.ext e t⟩⟩
theorem EnvOk.set {ro:Ro}{st:L2.St}(h:EnvOk K th H ro st)(i:Nat){d:D}{v:V}(r:Rep K th H d v):EnvOk K th H (ro.set i (some d)) (st.set i (some v)):=by
 refine ⟨by simp [h.1],λj d' q=>?_⟩
 by_cases hj:j=i
 ·subst hj
  have hl:j<ro.length:=by
   have:=(Ae.mp q).1
   simpa using this
  have:d'=d:=by simpa [hl] using q.symm
  subst this
  exact ⟨v,by simp [← h.1,hl],r⟩
 ·rw [AM (Ne.symm hj)] at q ⊢
  exact h.2 j d' q
noncomputable abbrev KV' (K:Zc) (Q:VK):D->List Addr->Sto->Hp->Prop:=λd th' _ H'=>∀ v,Rep K th' H' d v->Q v H'
noncomputable def rdE (K:Zc)(m:Ex):TE:=λst H Q=>∃ th mu ro,StoOk K th mu H∧EnvOk K th H ro st∧Tr K th H (m ro mu) (KV' K Q)
noncomputable def rdA (K:Zc)(m:Exs):TA:=λst H Q=>∃ th mu ro,StoOk K th mu H∧EnvOk K th H ro st∧Tr K th H (m ro mu) λds th' _ H'=>∀ vs,RepL K th' H' ds vs->Q vs H'
noncomputable def rdT (K:Zc)(m:Tx):TT:=λst H Q=>∃ th mu ro,StoOk K th mu H∧EnvOk K th H ro st∧Tr K th H (m ro mu) λb _ _ H'=>Q b H'
noncomputable def W4 (K:Zc)(E:Ends)(p:Fl×Ro)(th:List Addr)(_:Sto)(H:Hp):Prop:=∀ st',EnvOk K th H p.2 st'->match p.1 with
 | .nx=>E.nx st' H
 | .bk=>E.bk st' H
 | .ct=>E.ct st' H
 | .rt d=>∀ v,Rep K th H d v->E.rt v H
noncomputable def rdS (K:Zc)(m:Sx):TS:=λE st H=>∃ th mu ro,StoOk K th mu H∧EnvOk K th H ro st∧Tr K th H (m ro mu) (W4 K E)
noncomputable def r2 (K:Zc)(op:D->D->Sto->Rs D):R2:=λx y H Q=>∃ th mu d e,StoOk K th mu H∧Rep K th H d x∧Rep K th H e y∧Tr K th H (op d e mu) (KV' K Q)
noncomputable def rL (K:Zc)(f:Fn):List V->Hp->VK->Prop:=λxs H Q=>∃ th mu ds,StoOk K th mu H∧RepL K th H ds xs∧Tr K th H (f ds mu) (KV' K Q)
end
structure SV (X:Cx) (e:Expr) (m:Ex):Prop where
 r:PE X e (rdE X.z m)
structure SVT (X:Cx) (e:Expr) (m:Tx):Prop where
 r:PT X e (rdT X.z m)
structure SVW (X:Cx) (e:Expr) (m:Tx):Prop where
 r:PW X e (rdT X.z m)
noncomputable def SVA (X:Cx)(es:List Expr)(m:Exs):Prop:=PA X es (rdA X.z m)∧∀ ro mu ds mu',m ro mu=some (ds,mu')->ds.length=es.length
structure SVS (X:Cx) (s:Stmt) (m:Sx):Prop where
 r:PS X s (rdS X.z m)
structure SVB (X:Cx) (b:List Stmt) (m:Sx):Prop where
 r:PSs X b (rdS X.z m)
noncomputable def OpV (X:Cx)(f:Value->Value->Sem Value)(op:D->D->Sto->Rs D):Prop:=OpR X f (r2 X.z op)
noncomputable def CallV (X:Cx)(f:Value)(g:Fn):Prop:=FJ X f (rL X.z g)
theorem PE.weak {X:Cx}{e:Expr}{t t':TE}(h:PE X e t)(f:∀ st H Q,t' st H Q->t st H Q):PE X e t':=λpins s st H Q I q=>h pins s st H Q I (f st H Q q)
theorem PT.weak {X:Cx}{e:Expr}{t t':TT}(h:PT X e t)(f:∀ st H Q,t' st H Q->t st H Q):PT X e t':=λpins s st H Q I q=>h pins s st H Q I (f st H Q q)
theorem PW.weak {X:Cx}{e:Expr}{t t':TT}(h:PW X e t)(f:∀ st H Q,t' st H Q->t st H Q):PW X e t':=λwh pins s st H Q I q=>h wh pins s st H Q I (f st H Q q)
theorem PA.weak {X:Cx}{e:List Expr}{t t':TA}(h:PA X e t)(f:∀ st H Q,t' st H Q->t st H Q):PA X e t':=λpos pins s st H Q I q=>h pos pins s st H Q I (f st H Q q)
theorem PS.weak {X:Cx}{e:Stmt}{t t':TS}(h:PS X e t)(f:∀ E st H,t' E st H->t E st H):PS X e t':=λpins s st H E I q=>h pins s st H E I (f E st H q)
theorem PSs.weak {X:Cx}{e:List Stmt}{t t':TS}(h:PSs X e t)(f:∀ E st H,t' E st H->t E st H):PSs X e t':=λpins s st H E I q=>h pins s st H E I (f E st H q)
section
variable {X:Cx} {K:Zc} {th:List Addr} {mu:Sto} {H:Hp}
noncomputable def Cj (i:Nat):Ex:=λro mu=>match ro[i]? with
 | some (some d)=>some (d,mu)
 | _=>none
noncomputable def eC (d:D):Ex:=λ_ mu=>some (d,mu)
theorem Ci (i:Nat){x:Str}{pos:Pos}(hN:X.N[i]? = some x:=by rfl)(hv:Vis X.env.scope x:=by first|exact Or.inl rfl|exact Or.inr (Or.inl rfl)|exact Or.inr (Or.inr rfl))(hd:(x==("__debug__":Str))=false:=by decide)
  (hcd:(x==("__classdict__":Str))=false:=by decide):SV X (.Name x pos) (Cj i):=⟨PE.weak (Q4 hN hv hd hcd) λst H Q h=>by
 obtain ⟨th,mu,ro,so,en,t⟩:=h
 unfold Cj at t
 cases e:ro[i]? with
 | none=>rw [e] at t;exact t.no.elim
 | some o =>
  cases o with
  | none=>rw [e] at t;exact t.no.elim
  | some d =>
   rw [e] at t
   obtain ⟨v,ev,rv⟩:=en.2 i d e
   exact ⟨v,ev,t.ret so v rv⟩⟩
theorem Ih {e:Expr}{d:D}{v:V}(h:PE X e (tC v))(r:∀ K th H,Rep K th H d v):SV X e (eC d):=⟨PE.weak h λst H Q q=>by
 obtain ⟨th,mu,ro,so,en,t⟩:=q
 exact t.ret so v (r _ _ _)⟩
theorem Cp {i j pos}:SV X (.Constant (.int i) j pos) (eC (.int i)):=Ih Sb λ_ _ _=>by unfold Rep;rfl
theorem FG {i j pos}:SV X (.Constant (.bool i) j pos) (eC (.bl i)):=Ih ZE λ_ _ _=>by unfold Rep;rfl
theorem NH {j pos}:SV X (.Constant .none j pos) (eC .non):=Ih Xh λ_ _ _=>by unfold Rep;rfl
theorem GS {i j pos}(h:i.length≤sizeLine∧PyData.strOk i=true:=by decide +kernel):SV X (.Constant (.str i) j pos) (eC (.str i)):=Ih XH λ_ _ _=>by unfold Rep;exact ⟨rfl,h⟩
noncomputable def Cq (g:D->D->Sto->Rs D)(a b:Ex):Ex:=λro mu=>bM (a ro mu) λx m1=>bM (b ro m1) λy m2=>g x y m2
theorem L6 {a b:Ex}{g:D->D->Sto->Rs D}{st:L2.St}{Q:VK}(h:rdE K (Cq g a b) st H Q):tOp (r2 K g) (rdE K a) (rdE K b) st H Q:=by
 obtain ⟨th,mu,ro,so,en,t⟩:=h
 refine ⟨th,mu,ro,so,en,t.bind.mono λx th1 mu1 H1 e1 s1 t1 v rv=>?_⟩
 exact ⟨th1,mu1,ro,s1,en.ext e1 so.out,t1.bind.mono λy th2 mu2 H2 e2 s2 t2 u ru=>⟨th2,mu2,x,y,s2,rv.ext e2 s1.out,ru,t2⟩⟩
theorem Cz {a b:Expr}{op:Operator}{g:D->D->Sto->Rs D}{ma mb:Ex}{pos:Pos}(ho:OpV X (binaryOp op) g)(ha:SV X a ma)(hb:SV X b mb):SV X (.BinOp a op b pos) (Cq g ma mb):=
 ⟨PE.weak (Ym ho ha.r hb.r) λ_ _ _ h=>L6 h⟩
theorem IA {a b:Expr}{op:CmpOp}{g:D->D->Sto->Rs D}{ma mb:Ex}{pos:Pos}(ho:OpV X (compareOp op) g)(ha:SV X a ma)(hb:SV X b mb)(hm:behindInMarks op b=false:=by first|exact SW _|with_unfolding_all rfl):SV X (.Compare a [op] [b] pos) (Cq g ma mb):=
 ⟨PE.weak (TQ ho ha.r hb.r hm) λ_ _ _ h=>L6 h⟩
theorem DZ {a b:Expr}{g:D->D->Sto->Rs D}{ma mb:Ex}{pos:Pos}(ho:IxR X (r2 X.z g))(ha:SV X a ma)(hb:SV X b mb)(hs:Ov b:=by intro _ _;rfl):SV X (.Subscript a b pos) (Cq g ma mb):=
 ⟨PE.weak (Y8 ho ha.r hb.r hs) λ_ _ _ h=>L6 h⟩
noncomputable def e1 (g:D->Sto->Rs D)(a:Ex):Ex:=λro mu=>bM (a ro mu) λx m1=>g x m1
noncomputable def asB:D->Option Bool
 | .bl b=>some b
 | _=>none
noncomputable def tV (a:Ex):Tx:=λro mu=>bM (a ro mu) λx m1=>(asB x).map λb=>(b,m1)
theorem L5 {d:D}{b:Bool}{v:V}(h:asB d=some b)(r:Rep K th H d v):v=.bl b:=by
 cases d with
 | bl c=>cases h;exact r
 | _=>cases h
theorem Vy {a:Ex}{st:L2.St}{Q:Bool->Hp->Prop}(h:rdT K (tV a) st H Q):Vw (rdE K a) st H Q:=by
 obtain ⟨th,mu,ro,so,en,t⟩:=h
 refine ⟨th,mu,ro,so,en,t.bind.mono λx th1 mu1 H1 e1 s1 t1 v rv=>?_⟩
 cases e:asB x with
 | none=>rw [e] at t1;exact t1.no.elim
 | some b=>rw [e] at t1;exact ⟨b,L5 e rv,t1.ret s1⟩
theorem EV {e:Expr}{m:Ex}(h:SV X e m)(he:∀ whole,isTrue e X.env whole=(do let v←whole;standAt e.pos;holding [v] (truthy v)):=by intro _;rfl):SVT X e (tV m):=⟨PT.weak (Xe h.r he) λ_ _ _ h=>Vy h⟩
theorem Dz {a b:Expr}{op:CmpOp}{g:D->D->Sto->Rs D}{ma mb:Ex}{pos:Pos}(ho:OpV X (compareOp op) g)(ha:SV X a ma)(hb:SV X b mb)(hm:behindInMarks op b=false:=by first|exact SW _|with_unfolding_all rfl):SVT X (.Compare a [op] [b] pos) (tV (Cq g ma mb)):=
 ⟨PT.weak (Ti ho ha.r hb.r hm) λ_ _ _ h=>by
  obtain ⟨th,mu,ro,so,en,t⟩:=Vy h
  exact L6 ⟨th,mu,ro,so,en,t⟩⟩
noncomputable def tNt (a:Tx):Tx:=λro mu=>bM (a ro mu) λb m1=>some (!b,m1)
theorem EU {e:Expr}{m:Tx}{pos:Pos}(h:SVT X e m):SVT X (.UnaryOp .Not e pos) (tNt m):=⟨PT.weak (XG h.r) λst H Q h=>by
 obtain ⟨th,mu,ro,so,en,t⟩:=h
 exact ⟨th,mu,ro,so,en,t.bind.mono λb th1 mu1 H1 e1 s1 t1=>t1.ret s1⟩⟩
noncomputable def tAn (a b:Tx):Tx:=λro mu=>bM (a ro mu) λx m1=>if x=true then b ro m1 else some (false,m1)
noncomputable def tO (a b:Tx):Tx:=λro mu=>bM (a ro mu) λx m1=>if x=true then some (true,m1) else b ro m1
theorem Gn {a:Expr}{m:Tx}{pos:Pos}(ha:SVT X a m):SVW X (.BoolOp .Or [a] pos) m:=⟨V6 ha.r⟩
theorem GF {a b:Expr}{rest:List Expr}{m n:Tx}{pos:Pos}(ha:SVT X a m)(hb:SVW X (.BoolOp .Or (b::rest) pos) n):SVW X (.BoolOp .Or (a::b::rest) pos) (tO m n):=⟨PW.weak (ZG ha.r hb.r) λst H Q h=>by
 obtain ⟨th,mu,ro,so,en,t⟩:=h
 refine ⟨th,mu,ro,so,en,t.bind.mono λb th1 mu1 H1 e1 s1 t1=>?_⟩
 cases b with
 | true=>exact t1.ret s1
 | false=>exact ⟨th1,mu1,ro,s1,en.ext e1 so.out,t1⟩⟩
theorem SVW.t {e:Expr}{m:Tx}(h:SVW X e m):SVT X e m:=⟨PW.pt h.r⟩
noncomputable def eAn (a b:Ex):Ex:=λro mu=>bM (a ro mu) λx m1=>match asB x with
 | none=>none
 | some c=>if c=true then b ro m1 else some (.bl false,m1)
noncomputable def eO (a b:Ex):Ex:=λro mu=>bM (a ro mu) λx m1=>match asB x with
 | none=>none
 | some c=>if c=true then some (.bl true,m1) else b ro m1
noncomputable def eNt (a:Ex):Ex:=λro mu=>bM (a ro mu) λx m1=>match asB x with
 | none=>none
 | some c=>some (.bl (!c),m1)
theorem NU {a:Expr}{op}{m:Ex}{pos:Pos}(h:SV X a m):SV X (.BoolOp op [a] pos) m:=⟨WD h.r⟩
theorem NS {a b:Expr}{rest:List Expr}{m n:Ex}{pos:Pos}(ha:SV X a m)(hb:SV X (.BoolOp .And (b::rest) pos) n):SV X (.BoolOp .And (a::b::rest) pos) (eAn m n):=⟨PE.weak (Xm ha.r hb.r) λst H Q h=>by
 obtain ⟨th,mu,ro,so,en,t⟩:=h
 refine ⟨th,mu,ro,so,en,t.bind.mono λx th1 mu1 H1 e1 s1 t1 v rv=>?_⟩
 cases e:asB x with
 | none=>rw [e] at t1;exact t1.no.elim
 | some c =>
  rw [e] at t1
  refine ⟨c,L5 e rv,?_⟩
  cases c with
  | true=>exact ⟨th1,mu1,ro,s1,en.ext e1 so.out,t1⟩
  | false=>exact t1.ret s1 _ (by unfold Rep;rfl)⟩
noncomputable def eIf (c:Tx)(a b:Ex):Ex:=λro mu=>bM (c ro mu) λx m1=>if x=true then a ro m1 else b ro m1
noncomputable def Cm:Exs:=λ_ mu=>some ([],mu)
noncomputable def Cg (a:Ex)(r:Exs):Exs:=λro mu=>bM (a ro mu) λx m1=>bM (r ro m1) λxs m2=>some (x::xs,m2)
theorem Ck:SVA X [] Cm:=by
 refine ⟨PA.weak Nx λst H Q h=>?_,λro mu ds mu' h=>by cases h;rfl⟩
 obtain ⟨th,mu,ro,so,en,t⟩:=h
 exact t.ret so [] .nil
theorem Cf {e:Expr}{es:List Expr}{m:Ex}{n:Exs}(ha:SV X e m)(hr:SVA X es n)(hs:starEach (e::es) X.env=(false,eval e X.env)::starEach es X.env:=by rfl):SVA X (e::es) (Cg m n):=by
 refine ⟨PA.weak (Jt ha.r hr.1 hs) λst H Q h=>?_,λro mu ds mu' h=>?_⟩
 ·obtain ⟨th,mu,ro,so,en,t⟩:=h
  refine ⟨th,mu,ro,so,en,t.bind.mono λx th1 mu1 H1 e1 s1 t1 v rv=>?_⟩
  exact ⟨th1,mu1,ro,s1,en.ext e1 so.out,t1.bind.mono λxs th2 mu2 H2 e2 s2 t2 vs rvs=>t2.ret s2 _ (.cons (rv.ext e2 s1.out) rvs)⟩
 ·obtain ⟨x,m1,_,h⟩:=Gh h
  obtain ⟨xs,m2,h1,h⟩:=Gh h
  cases h
  rw [List.length_cons,List.length_cons,hr.2 _ _ _ _ h1]
noncomputable def D4 (a:Exs):Ex:=λro mu=>bM (a ro mu) λxs m1=>some (.tup xs,m1)
noncomputable def Ia (a:Exs):Ex:=λro mu=>bM (a ro mu) λxs m1=>some (.lst xs,m1)
noncomputable def G3 (a:Exs):Ex:=λro mu=>bM (a ro mu) λxs m1=>some (.ref m1.length,m1++[.lst xs])
theorem Rep.newTup (so:StoOk K th mu H){p:Addr}(h:H p=none){ds:List D}{vs:List V}(r:RepL K th H ds vs)(hz:ds.length≤sizeLine):Rep K th (upd H p (.tup vs)) (.tup ds) (.ref p):=by
 unfold Rep
 exact ⟨p,vs,rfl,SqT.of Dw,r.ext (.new h _) so.out,hz⟩
theorem StoOk.notin (so:StoOk K th mu H){p:Addr}(h:H p=none):p∉th:=λz=>by
 obtain ⟨xs,e,_⟩:=so.out p z
 rw [h] at e
 cases e
theorem Rep.newLst (so:StoOk K th mu H){p:Addr}(h:H p=none){ds:List D}{vs:List V}(r:RepL K th H ds vs)(hz:ds.length≤sizeLine):Rep K th (upd H p (.lst vs)) (.lst ds) (.ref p):=by
 unfold Rep
 exact ⟨p,vs,rfl,.inl ⟨so.notin h,.inl Dw⟩,r.ext (.new h _) so.out,hz⟩
theorem DO {es:List Expr}{m:Exs}{x1}{pos:Pos}(h:SVA X es m)(hl:es.length≤1000:=by decide):SV X (.Tuple es x1 pos) (D4 m):=⟨PE.weak (VU h.1) λst H Q q=>by
 obtain ⟨th,mu,ro,so,en,t⟩:=q
 obtain ⟨d,mu',e,_⟩:=id t
 obtain ⟨xs0,m0,e0,_⟩:=Gh e
 have hn:=h.2 _ _ _ _ e0
 have tb:Tr X.z th H (m ro mu) λds th' mu' H'=>ds.length≤1000∧Tr X.z th' H' (some (D.tup ds,mu')) (KV' X.z Q):=by
  obtain ⟨a,mu1,e1,q1⟩:=t.bind
  exact ⟨a,mu1,e1,λth' H' x s=>⟨by rw [h.2 _ _ _ _ e1];exact hl,q1 th' H' x s⟩⟩
 refine ⟨th,mu,ro,so,en,tb.mono λxs th1 mu1 H1 e1 s1 t1 vs rvs=>⟨?_,λp hp=>?_⟩⟩
 ·rw [rvs.len];exact AJ t1.1 (by decide)
 ·exact t1.2.retX (.new hp _) (s1.new hp _) _ (Rep.newTup s1 hp rvs (AJ t1.1 (by decide)))⟩
theorem S0 {es:List Expr}{m:Exs}{C:List D->Sto->Rs D}{st:L2.St}{ro:Ro}{k:D->List Addr->Sto->Hp->Prop}(h:SVA X es m)(hl:es.length≤1000)(t:Tr K th H (bM (m ro mu) C) k) :
  Tr K th H (m ro mu) λds th' mu' H'=>ds.length≤1000∧Tr K th' H' (C ds mu') k:=by
 obtain ⟨a,mu1,e1,q1⟩:=t.bind
 exact ⟨a,mu1,e1,λth' H' x s=>⟨by rw [h.2 _ _ _ _ e1];exact hl,q1 th' H' x s⟩⟩
theorem Hr {es:List Expr}{m:Exs}{pos:Pos}(h:SVA X es m)(hl:es.length≤1000:=by decide):SV X (.List es pos) (Ia m):=⟨PE.weak (SI h.1) λst H Q q=>by
 obtain ⟨th,mu,ro,so,en,t⟩:=q
 refine ⟨th,mu,ro,so,en,(S0 (st:=st) h hl t).mono λxs th1 mu1 H1 e1 s1 t1 vs rvs=>⟨?_,λp hp=>?_⟩⟩
 ·rw [rvs.len];exact AJ t1.1 (by decide)
 ·exact t1.2.retX (.new hp _) (s1.new hp _) _ (Rep.newLst s1 hp rvs (AJ t1.1 (by decide)))⟩
theorem Jq {es:List Expr}{m:Exs}{pos:Pos}(h:SVA X es m)(hl:es.length≤1000:=by decide):SV X (.List es pos) (G3 m):=⟨PE.weak (SI h.1) λst H Q q=>by
 obtain ⟨th,mu,ro,so,en,t⟩:=q
 refine ⟨th,mu,ro,so,en,(S0 (st:=st) h hl t).mono λxs th1 mu1 H1 e1 s1 t1 vs rvs=>⟨?_,λp hp=>?_⟩⟩
 ·rw [rvs.len];exact AJ t1.1 (by decide)
 ·refine t1.2.retX (.newM hp _) (s1.newM hp rvs (AJ t1.1 (by decide))) _ ?_
  unfold Rep
  exact ⟨p,rfl,by rw [← s1.len];simp⟩⟩
noncomputable def Cn (f:Fn)(a:Exs):Ex:=λro mu=>bM (a ro mu) λxs m1=>f xs m1
theorem RI {f:Fn}{a:Exs}{st:L2.St}{Q:VK}(h:rdE K (Cn f a) st H Q):tCB (rL K f) (rdA K a) st H Q:=by
 obtain ⟨th,mu,ro,so,en,t⟩:=h
 exact ⟨th,mu,ro,so,en,t.bind.mono λxs th1 mu1 H1 e1 s1 t1 vs rvs=>⟨th1,mu1,xs,s1,rvs,t1⟩⟩
theorem CC {x:Str}{id:String}{g:Fn}{e:Expr}{es:List Expr}{m:Exs}{p pos:Pos}(hc:CallV X (.builtin id) g)(hm:X.mg x=none)(hv:bootBuiltins x=some (.builtin id))(ha:SVA X (e::es) m)(hg:Gl X x:=by rfl)
  (hn:x≠"__name__":=by decide) (hdb:(x==("__debug__":Str))=false:=by decide) (hs1:starEach (e::es) X.env=(false,eval e X.env)::starEach es X.env:=by rfl) (hs2:(backTo pos (starEach es X.env)).any (·.1)=false:=by rfl):SV X (.Call (.Name x p) (e::es) [] pos) (Cn g m):=
 ⟨PE.weak (Kc hc hg hm hv ha.1 hn hdb hs1 hs2) λ_ _ _ h=>RI h⟩
theorem Du {x:Str}{T:String}{g:Fn}{e:Expr}{es:List Expr}{m:Exs}{p pos:Pos}(hc:CallV X (.type T) g)(hm:X.mg x=none)(hv:bootBuiltins x=some (.type T))(ha:SVA X (e::es) m)(hg:Gl X x:=by rfl)
  (hn:x≠"__name__":=by decide) (hdb:(x==("__debug__":Str))=false:=by decide) (hs1:starEach (e::es) X.env=(false,eval e X.env)::starEach es X.env:=by rfl) (hs2:(backTo pos (starEach es X.env)).any (·.1)=false:=by rfl):SV X (.Call (.Name x p) (e::es) [] pos) (Cn g m):=
 ⟨PE.weak (Qq hc hg hm hv ha.1 hn hdb hs1 hs2) λ_ _ _ h=>RI h⟩
noncomputable def spF (K:Zc)(f:Fn)(n:Nat):Sp:=λvs H Q _=>∃ th mu ds,StoOk K th mu H∧RepL K th H ds vs∧ds.length=n∧Tr K th H (f ds mu) (KV' K Q)
structure Cal (P:Program) (w:World) (K:PySem.W.Frag) (mg:Str->Option Value) (base:Heap) (k:Nat) (x:Str) (f:Fn) (n:Nat):Prop where
 ex:∃ (ps:List Str) (a:Addr) (fd:FuncData),ps.length=n∧D3 P w K mg base CX0 k a fd ps (spF ⟨K,P,w⟩ f n)∧Binds K fd ps []∧PySem.W.keepIn K (.ref a)=true∧mg x=some (.ref a)
theorem Cy {x:Str}{k:Nat}{f:Fn}{n:Nat}{e:Expr}{es:List Expr}{m:Exs}{p pos:Pos}(C:Cal X.prog X.w X.K X.mg X.base k x f n)(hr:Room k X.A)(ha:SVA X (e::es) m)(hl:(e::es).length=n:=by rfl)(hg:Gl X x:=by rfl)
  (hdb:(x==("__debug__":Str))=false:=by decide) (he:starEach (e::es) X.env=(false,eval e X.env)::starEach es X.env:=by rfl) (hpl:(backTo pos (starEach es X.env)).any (·.1)=false:=by rfl):SV X (.Call (.Name x p) (e::es) [] pos) (Cn f m):=⟨by
 obtain ⟨ps,a,fd,hn,F,b,kp,mm⟩:=C.ex
 refine PE.weak (TU F hr hg mm kp b .nil YL ha.1 hdb he hpl) λst H Q h=>?_
 obtain ⟨th,mu,ro,so,en,t⟩:=h
 have tb:Tr X.z th H (m ro mu) λds th' mu' H'=>ds.length=n∧Tr X.z th' H' (f ds mu') (KV' X.z Q):=by
  obtain ⟨a,mu1,e1,q1⟩:=t.bind
  exact ⟨a,mu1,e1,λth' H' x s=>⟨by rw [ha.2 _ _ _ _ e1];exact hl,q1 th' H' x s⟩⟩
 exact ⟨th,mu,ro,so,en,tb.mono λxs th1 mu1 H1 e1 s1 t1 vs rvs=>⟨th1,mu1,xs,s1,by simpa using rvs,t1.1,t1.2⟩⟩⟩
noncomputable def sNx:Sx:=λro mu=>some ((.nx,ro),mu)
noncomputable def CJ (a b:Sx):Sx:=λro mu=>bM (a ro mu) λp m1=>match p.1 with
 | .nx=>b p.2 m1
 | _=>some (p,m1)
theorem Dy:SVB X [] sNx:=⟨PSs.weak Vq λE st H h=>by
 obtain ⟨th,mu,ro,so,en,t⟩:=h
 exact t.ret so st en⟩
theorem Cv {s:Stmt}{m:Sx}(h:SVS X s m):SVB X [s] m:=⟨TX h.r⟩
theorem Cs {s:Stmt}{r:List Stmt}{m n:Sx}(h1:SVS X s m)(h2:SVB X r n):SVB X (s::r) (CJ m n):=⟨PSs.weak (Rw h1.r h2.r) λE st H h=>by
 obtain ⟨th,mu,ro,so,en,t⟩:=h
 refine ⟨th,mu,ro,so,en,t.bind.mono λp th1 mu1 H1 e1 s1 t1 st' en'=>?_⟩
 obtain ⟨fl,ro'⟩:=p
 cases fl with
 | nx=>exact ⟨th1,mu1,ro',s1,en',t1⟩
 | bk=>exact t1.ret s1 st' en'
 | ct=>exact t1.ret s1 st' en'
 | rt d=>exact t1.ret s1 st' en'⟩
noncomputable def sRt (a:Ex):Sx:=λro mu=>bM (a ro mu) λd m1=>some ((.rt d,ro),m1)
theorem CB {e:Expr}{m:Ex}{pos:Pos}(h:SV X e m):SVS X (.Return (some e) pos) (sRt m):=⟨PS.weak (V9 h.r) λE st H h=>by
 obtain ⟨th,mu,ro,so,en,t⟩:=h
 exact ⟨th,mu,ro,so,en,t.bind.mono λd th1 mu1 H1 e1 s1 t1 v rv=>t1.ret s1 st (en.ext e1 so.out) v rv⟩⟩
noncomputable def sEx (a:Ex):Sx:=λro mu=>bM (a ro mu) λ_ m1=>some ((.nx,ro),m1)
theorem Jy {e:Expr}{m:Ex}{pos:Pos}(h:SV X e m)(hs:swapsWith e none pos.line X.env=pure false:=by rfl):SVS X (.Expr e pos) (sEx m):=⟨PS.weak (Ub h.r hs) λE st H h=>by
 obtain ⟨th,mu,ro,so,en,t⟩:=h
 exact ⟨th,mu,ro,so,en,t.bind.mono λd th1 mu1 H1 e1 s1 t1 v rv=>t1.ret s1 st (en.ext e1 so.out)⟩⟩
noncomputable def sIf (c:Tx)(a b:Sx):Sx:=λro mu=>bM (c ro mu) λx m1=>if x=true then a ro m1 else b ro m1
theorem DW {c:Expr}{a b:List Stmt}{mc:Tx}{ma mb:Sx}{pos:Pos}(hc:SVT X c mc)(ha:SVB X a ma)(hb:SVB X b mb):SVS X (.If c a b pos) (sIf mc ma mb):=⟨PS.weak (Yo hc.r ha.r hb.r) λE st H h=>by
 obtain ⟨th,mu,ro,so,en,t⟩:=h
 refine ⟨th,mu,ro,so,en,t.bind.mono λb th1 mu1 H1 e1 s1 t1=>?_⟩
 cases b with
 | true=>exact ⟨th1,mu1,ro,s1,en.ext e1 so.out,t1⟩
 | false=>exact ⟨th1,mu1,ro,s1,en.ext e1 so.out,t1⟩⟩
noncomputable abbrev Gx:=D->Ro->Sto->Rs Ro
noncomputable abbrev Gxs:=List D->Ro->Sto->Rs Ro
noncomputable def rdG (K:Zc)(g:Gx):TG:=λv st H Q=>∃ th mu ro d,StoOk K th mu H∧EnvOk K th H ro st∧Rep K th H d v∧Tr K th H (g d ro mu) λro' th' _ H'=>∀ st',EnvOk K th' H' ro' st'->Q st' H'
noncomputable def AaM (K:Zc)(g:Gxs):TGs:=λvs st H Q=>∃ th mu ro ds,StoOk K th mu H∧EnvOk K th H ro st∧RepL K th H ds vs∧Tr K th H (g ds ro mu) λro' th' _ H'=>∀ st',EnvOk K th' H' ro' st'->Q st' H'
structure SVG (X:Cx) (e:Expr) (g:Gx):Prop where
 r:PG X e (rdG X.z g)
structure Vn (X:Cx) (es:List Expr) (g:Gxs):Prop where
 r:PGs X es (AaM X.z g)
theorem PG.weak {e:Expr}{t t':TG}(h:PG X e t)(f:∀ v st H Q,t' v st H Q->t v st H Q):PG X e t':=λpins s st H v u Q I r q=>h pins s st H v u Q I r (f v st H Q q)
theorem PGs.weak {e:List Expr}{t t':TGs}(h:PGs X e t)(f:∀ v st H Q,t' v st H Q->t v st H Q):PGs X e t':=λpins s st H v u Q I r q=>h pins s st H v u Q I r (f v st H Q q)
noncomputable def gNm (i:Nat):Gx:=λd ro mu=>some (ro.set i (some d),mu)
theorem Cu (i:Nat){x:Str}{pos:Pos}(hN:X.N.Nodup)(hi:X.N[i]? = some x:=by rfl)(hx:Loc X.env.scope x:=by first|exact Or.inl rfl|exact Or.inr rfl)(hf:X.fn x=true∨X.env.scope.names.lookup x=some .local:=by first|exact .inl rfl|exact .inr rfl):SVG X (.Name x pos) (gNm i):=
 ⟨PG.weak (Tv hN hi hx hf) λv st H Q h=>by
  obtain ⟨th,mu,ro,d,so,en,r,t⟩:=h
  exact t.ret so _ (en.set i r)⟩
noncomputable def CM:Gxs:=λds ro mu=>match ds with
 | []=>some (ro,mu)
 | _=>none
noncomputable def Co (g:Gx)(r:Gxs):Gxs:=λds ro mu=>match ds with
 | d::ds=>bM (g d ro mu) λro' m1=>r ds ro' m1
 | []=>none
theorem Dj:Vn X [] CM:=⟨PGs.weak US λv st H Q h=>by
 obtain ⟨th,mu,ro,ds,so,en,r,t⟩:=h
 cases ds with
 | nil=>exact ⟨r.inv0,t.ret so _ en⟩
 | cons d ds=>exact t.no.elim⟩
theorem Cw {e:Expr}{es:List Expr}{g:Gx}{gs:Gxs}(h1:SVG X e g)(h2:Vn X es gs)(hs:(assignEach (e::es) X.env).map (·.2)=assign e X.env::(assignEach es X.env).map (·.2):=by rfl):Vn X (e::es) (Co g gs):=⟨PGs.weak (SU h1.r h2.r hs) λv st H Q h=>by
 obtain ⟨th,mu,ro,ds,so,en,r,t⟩:=h
 cases ds with
 | nil=>exact t.no.elim
 | cons d ds =>
  obtain ⟨v,vr,rfl,r1,r2⟩:=r.inv
  refine ⟨v,vr,rfl,th,mu,ro,d,so,en,r1,?_⟩
  exact Tr.mono (Tr.bind t) λro' th1 mu1 H1 e1 s1 t1 st' en'=>⟨th1,mu1,ro',ds,s1,en',r2.ext e1 so.out,t1⟩⟩
noncomputable def gTp (n:Nat)(g:Gxs):Gx:=λd ro mu=>match d with
 | .tup ds=>if ds.length=n then g ds ro mu else none
 | _=>none
theorem DI {es:List Expr}{k n:Nat}{g:Gxs}{pos:Pos}(hc:X.calm=true)(h:Vn X es g)(hn:(assignEach es X.env).length=n:=by rfl)(hst:(assignEach es X.env).findIdx? (·.1)=none:=by rfl):SVG X (.Tuple es k pos) (gTp n g):=
 ⟨PG.weak (WL hc h.r hn hst) λv st H Q q=>by
  obtain ⟨th,mu,ro,d,so,en,r,t⟩:=q
  cases d with
  | tup ds =>
   unfold Rep at r
   obtain ⟨a,vs,rfl,hs,rl,_⟩:=r
   unfold gTp at t;dsimp only at t
   by_cases e:ds.length=n
   ·rw [if_pos e] at t
    exact ⟨a,vs,rfl,hs,by rw [rl.len];exact e,th,mu,ro,ds,so,en,rl,t⟩
   ·rw [if_neg e] at t;exact t.no.elim
  | _=>exact t.no.elim⟩
noncomputable def Di (a:Ex)(g:Gx):Sx:=λro mu=>bM (a ro mu) λd m1=>bM (g d ro m1) λro' m2=>some ((.nx,ro'),m2)
theorem Ul {a:Ex}{g:Gx}{st:L2.St}{E:Ends}(h:rdS K (Di a g) E st H):TB (rdE K a) (rdG K g) E st H:=by
 obtain ⟨th,mu,ro,so,en,t⟩:=h
 refine ⟨th,mu,ro,so,en,t.bind.mono λd th1 mu1 H1 e1 s1 t1 v rv=>?_⟩
 refine ⟨th1,mu1,ro,d,s1,en.ext e1 so.out,rv,t1.bind.mono λro' th2 mu2 H2 e2 s2 t2 st' en'=>?_⟩
 exact t2.ret s2 st' en'
theorem Gz {tg e:Expr}{m:Ex}{g:Gx}{pos:Pos}(he:SV X e m)(hg:SVG X tg g)(hs:swapsWithSole [tg] e pos.line X.env=pure false:=by rfl)(hw:swappedStores [tg] e X.env=pure none:=by rfl)
  (h1:(assignEach [tg] X.env).map (·.2)=[assign tg X.env]:=by rfl):SVS X (.Assign [tg] e pos) (Di m g):=⟨PS.weak (XN he.r hg.r hs hw h1) λ_ _ _ h=>Ul h⟩
theorem CS (i:Nat){x:Str}{e:Expr}{m:Ex}{pos pos':Pos}(hN:X.N.Nodup)(he:SV X e m)(hi:X.N[i]? = some x:=by rfl)(hx:Loc X.env.scope x:=by first|exact Or.inl rfl|exact Or.inr rfl)(hs:swapsWith e (some (.Name x pos')) pos.line X.env=pure false:=by rfl)
  (hf:X.fn x=true∨X.env.scope.names.lookup x=some .local:=by first|exact .inl rfl|exact .inr rfl):SVS X (.Assign [.Name x pos'] e pos) (Di m (gNm i)):=⟨PS.weak (Wt hN hi hx he.r hs hf) λE st H h=>by
 obtain ⟨th,mu,ro,so,en,t⟩:=h
 refine ⟨th,mu,ro,so,en,t.bind.mono λd th1 mu1 H1 e1 s1 t1 v rv=>?_⟩
 exact t1.ret s1 _ ((en.ext e1 so.out).set i rv)⟩
noncomputable def Aae (i j:Nat)(a:Exs):Sx:=λro mu=>bM (a ro mu) λds m1=>match ds with
 | [x,y]=>some ((.nx,(ro.set i (some x)).set j (some y)),m1)
 | _=>none
noncomputable def fnB (n:Nat)(m:Sx):Fn:=λds mu=>bM (m (ds.map some++List.replicate (n-ds.length) none) mu) λp m1=>match p.1 with
 | .rt d=>some (d,m1)
 | .nx=>some (.non,m1)
 | _=>none
theorem IV {N:List Str}{ds:List D}{vs:List V}(r:RepL K th H ds vs):EnvOk K th H (ds.map some++List.replicate (N.length-ds.length) none) (L2.start N vs):=by
 unfold L2.start
 refine ⟨by simp [r.len],λi d e=>?_⟩
 by_cases hi:i<ds.length
 ·rw [Ay (by simpa using hi),Ap] at e
  cases q:ds[i]? with
  | none=>rw [q] at e;cases e
  | some d' =>
   rw [q] at e
   have:d'=d:=by simpa using e
   subst this
   obtain ⟨v,ev,rv⟩:=r.get q
   exact ⟨v,by rw [Ay (by simpa [r.len] using hi),Ap,ev];rfl,rv⟩
 ·rw [AU (by simpa using hi),BS] at e
  split at e<;>cases e
theorem Zx {P:Program}{w:World}{K:PySem.W.Frag}{mg:Str->Option Value}{base:Heap}{x qual:Str}{st:Stmt}{f:Addr}{fd:FuncData}{N ps:List Str}{k:Nat}{m:Sx}(F:Fun K x qual st f fd)(S:CN N ps (Cr st))
  (hbody:∀ (cdv:Value) (A:Around) (outer:List Env) (s:Shared) (H:Hp) (E:XK),Room k (A.deeper (envOfC qual (Cr st) s.heap.objs.size f cdv)) ->
   SVB (Kn CX0 P w K mg base N qual (Cr st) f cdv A outer s H E).nox (Ek st) m):D3 P w K mg base CX0 (k+1) f fd ps (spF ⟨K,P,w⟩ (fnB N.length m) ps.length):=by
 refine F.ok S (λvs H Q E h=>?_) (λcdv A outer s H vs Q E hr h=>?_)
 ·obtain ⟨th,mu,ds,_,r,hl,_⟩:=h
  rw [r.len]
  exact hl
 ·obtain ⟨th,mu,ds,so,r,hl,t⟩:=h
  refine ⟨_,(hbody cdv A outer s H E hr).r,?_⟩
  refine ⟨th,mu,_,so,IV r,t.bind.mono λp th1 mu1 H1 e1 s1 t1 st' en'=>?_⟩
  obtain ⟨fl,ro'⟩:=p
  cases fl with
  | nx=>exact t1.ret s1 _ (by unfold Rep;rfl)
  | bk=>exact t1.no.elim
  | ct=>exact t1.no.elim
  | rt d=>exact λv rv=>t1.ret s1 v rv
theorem DJ (n np:Nat){P:Program}{w:World}{K:PySem.W.Frag}{mg:Str->Option Value}{base:Heap}{x qual:Str}{st:Stmt}{f:Addr}{fd:FuncData}{N ps:List Str}{k:Nat}{m:Sx}(F:Fun K x qual st f fd)(S:CN N ps (Cr st))(hn:N.length=n)(hp:ps.length=np)
  (hbody:∀ (cdv:Value) (A:Around) (outer:List Env) (s:Shared) (H:Hp) (E:XK),Room k (A.deeper (envOfC qual (Cr st) s.heap.objs.size f cdv)) ->
   SVB (Kn CX0 P w K mg base N qual (Cr st) f cdv A outer s H E).nox (Ek st) m):D3 P w K mg base CX0 (k+1) f fd ps (spF ⟨K,P,w⟩ (fnB n m) np):=by
 subst hn hp
 exact Zx F S hbody
theorem Dx {P:Program}{w:World}{K:PySem.W.Frag}{mg:Str->Option Value}{base:Heap}{x:Str}{st:Stmt}{f:Addr}{fd:FuncData}{ps:List Str}{k n:Nat}{g:Fn}(F:Fun K x x st f fd)(hm:mg x=some (.ref f))(h:D3 P w K mg base CX0 k f fd ps (spF ⟨K,P,w⟩ g n))(hb:Binds K fd ps [])(hn:ps.length=n:=by rfl):Cal P w K mg base k x g n:=
 ⟨ps,f,fd,hn,h,hb,F.kp,hm⟩
noncomputable abbrev Ix:=Ro->Sto->Rs (List D×Option Nat)
noncomputable def gOk (g:Option Nat)(m0 m:Sto):Prop:=match g with
 | none=>True
 | some k=>m0[k]? = m[k]?
structure Qk (K:Zc) (J:It) (th:List Addr) (mu:Sto) (H:Hp) (ds:List D) (g:Option Nat):Prop where
 sz:ds.length≤sizeLine
 go:∀ th' mu' H',Ext th H th' H'->StoOk K th' mu' H'->gOk g mu mu'->∀ (i:Nat) (d:D),ds[i]? = some d->J.go i H'∧∀ x H2,J.yld i H' x H2->Ext th' H' th' H2∧StoOk K th' mu' H2∧Rep K th' H2 d x
 stop:∀ th' mu' H',Ext th H th' H'->StoOk K th' mu' H'->gOk g mu mu'->J.stop ds.length H'
noncomputable def rdI (K:Zc)(m:Ix):TI:=λst H R=>∃ th mu ro,StoOk K th mu H∧EnvOk K th H ro st∧Tr K th H (m ro mu) λp th' mu' H'=>∀ J,Qk K J th' mu' H' p.1 p.2->R J H'
structure SVI (X:Cx) (tg iter:Expr) (m:Ix):Prop where
 r:PI X tg iter (rdI X.z m)
theorem PI.weak {tg e:Expr}{t t':TI}(h:PI X tg e t)(f:∀ st H R,t' st H R->t st H R):PI X tg e t':=λpins s st H R I q=>h pins s st H R I (f st H R q)
open Classical in
noncomputable def DY {A:Type}(g:Option Nat)(m0 m:Sto)(r:Rs A):Rs A:=if gOk g m0 m then r else none
theorem Fh {A:Type}{g:Option Nat}{m0 m:Sto}{r:Rs A}{p:A×Sto}(h:DY g m0 m r=some p):gOk g m0 m∧r=some p:=by
 unfold DY at h
 by_cases e:gOk g m0 m
 ·rw [if_pos e] at h;exact ⟨e,h⟩
 ·rw [if_neg e] at h;cases h
noncomputable def D2 (g:Option Nat)(m0:Sto)(tg:Gx)(body:Sx):List D->Ro->Sto->Rs (Fl×Ro)
 | [],ro,mu=>some ((.nx,ro),mu)
 | d::ds,ro,mu=>bM (tg d ro mu) λro1 m1=>bM (body ro1 m1) λp m2=>match p.1 with
  | .nx=>DY g m0 m2 (D2 g m0 tg body ds p.2 m2)
  | .ct=>DY g m0 m2 (D2 g m0 tg body ds p.2 m2)
  | .bk=>some ((.nx,p.2),m2)
  | .rt d=>some ((.rt d,p.2),m2)
noncomputable def FO (i:Ix)(tg:Gx)(body:Sx):Sx:=λro mu=>bM (i ro mu) λp m1=>D2 p.2 m1 tg body p.1 ro m1
theorem Ed {tg iter:Expr}{body:List Stmt}{i:Ix}{g:Gx}{m:Sx}{pos:Pos}(hp:PassesOwn (model X.prog X.w) X.A X.env X.xe)(hc:X.calm=true)(hi:SVI X tg iter i)(hg:SVG X tg g)(hb:SVB X body m)
  (hs:∀ x,foldedSetIterable iter X.env x=pure x:=by intro _;rfl):SVS X (.For tg iter body [] pos) (FO i g m):=⟨PS.weak (Wb hp hc hi.r hg.r hb.r hs) λE st H h=>by
 obtain ⟨th,mu,ro,so,en,t⟩:=h
 refine ⟨th,mu,ro,so,en,t.bind.mono λp th1 mu1 H1 e1 s1 t1 J ok=>?_⟩
 obtain ⟨ds,gd⟩:=p
 have en1:=en.ext e1 so.out
 refine ⟨λk n st' H'=>n=ds.length-k∧k≤ds.length∧∃ th' mu' ro',StoOk X.z th' mu' H'∧EnvOk X.z th' H' ro' st'∧Ext th1 H1 th' H'∧gOk gd mu1 mu'∧Tr X.z th' H' (D2 gd mu1 g m (ds.drop k) ro' mu') (W4 X.z E),⟨_,rfl,AW _,th1,mu1,ro,s1,en1,.refl _ _,?_,t1⟩,?_⟩
 ·cases gd with
  | none=>exact True.intro
  | some k=>exact rfl
 rintro k n st2 H2 ⟨rfl,hk,th2,mu2,ro2,s2,en2,e2,g2,t2⟩
 by_cases lt:k<ds.length
 ·refine .inr ?_
  have ek:ds[k]? = some ds[k]:=by simp
  obtain ⟨a1,a2⟩:=ok.go th2 mu2 H2 e2 s2 g2 k ds[k] ek
  refine ⟨a1,λst' H'=>k+1≤ds.length∧∃ th' mu' ro',StoOk X.z th' mu' H'∧EnvOk X.z th' H' ro' st'∧Ext th1 H1 th' H'∧gOk gd mu1 mu'∧Tr X.z th' H' (D2 gd mu1 g m (ds.drop (k+1)) ro' mu') (W4 X.z E),λst' H' q=>⟨ds.length-(k+1),by omega,rfl,q⟩,λx H3 y=>?_⟩
  obtain ⟨e3,s3,r3⟩:=a2 x H3 y
  rw [BI lt] at t2
  unfold D2 at t2
  refine ⟨th2,mu2,ro2,ds[k],s3,en2.ext e3 s2.out,r3,?_⟩
  refine (t2.ahead e3).bind.mono λro4 th4 mu4 H4 e4 s4 t4 st4 en4=>?_
  refine ⟨th4,mu4,ro4,s4,en4,t4.bind.mono λp th5 mu5 H5 e5 s5 t5 st5 en5=>?_⟩
  obtain ⟨fl,ro5⟩:=p
  have e15:Ext th1 H1 th5 H5:=((e2.trans e3).trans e4).trans e5
  cases fl with
  | nx =>
   obtain ⟨a,mu',q1,q2⟩:=t5
   obtain ⟨go5,q1⟩:=Fh q1
   exact ⟨lt,th5,mu5,ro5,s5,en5,e15,go5,a,mu',q1,q2⟩
  | ct =>
   obtain ⟨a,mu',q1,q2⟩:=t5
   obtain ⟨go5,q1⟩:=Fh q1
   exact ⟨lt,th5,mu5,ro5,s5,en5,e15,go5,a,mu',q1,q2⟩
  | bk=>exact t5.ret s5 st5 en5
  | rt d=>exact t5.ret s5 st5 en5
 ·have e:k=ds.length:=by omega
  subst e
  rw [List.drop_length] at t2
  unfold D2 at t2
  exact .inl ⟨ok.stop th2 mu2 H2 e2 s2 g2,t2.ret s2 st2 en2⟩⟩
end
end PV
namespace L2
open PySem PySem.Spec PyProof.Rows
section
variable {X:Cx} {tg iter elt:Expr} {ifs:List Expr} {scope:Scope} {pos:Pos} {wi:TI} {own:List Str} {fv:List (Nat×Str)} {g:TG} {tt:TT} {te:TE}
theorem WG {pos2:Pos}{pins:List (Addr×Obj)}{s:Shared}{σ:L2.St}{H:Hp}{Q:VK}{use:Option (Value->Sem Unit)}{Qc:Value->Shared->Prop}(L:JJ X scope fv)(hi:PI X tg iter wi)
  (hg:∀ cl C s₁ H₁ fp,PG (CH X scope (own++fv.map (·.2)) cl C s₁ H₁ fp) tg g)
  (ht:∀ cl C s₁ H₁ fp,PF (CH X scope (own++fv.map (·.2)) cl C s₁ H₁ fp) ifs tt)
  (he:∀ cl C s₁ H₁ fp,PE (CH X scope (own++fv.map (·.2)) cl C s₁ H₁ fp) elt te)
  (hs:∀ x,foldedSetIterable iter X.env x=pure x) (I:Inv X pins σ H s) (h:tLC wi own.length fv g tt te σ H Q)
  (fin:∀ (s6:Shared) (H':Hp) (D C:Addr) (m:Str->Option Value),Inv X pins σ H' s6->FT X pins H' C->s6.heap.Ns C m->Q (.ref D) H'->compPost (model X.prog X.w) X.A X.xe use Qc (.ref D) C (.ok .next) s6) :
  wpAny (model X.prog X.w) X.A (comprehension (.ListComp elt [⟨tg,iter,ifs,0⟩] scope pos) scope X.env pos2 (newList []) false (eval iter X.env) use) Qc X.xe s:=by
 obtain ⟨cl,hclos,hsub,hhas⟩:=HE (scope:=scope) (env:=X.env) λy hy hf=>I.ok.has y.1 (L.free y hy hf)
 refine wpAny_comprehension_free (use:=use) rfl hs hclos L.kind L.names (thn (hi pins s σ H _ I h) λv s1 h1=>thn h1 λitv s2 h2=>?_)
 obtain ⟨it,fp,tn,J,H2,e,I2,T,st2,f2,W,⟨m0,w0⟩,turn⟩:=h2
 subst e
 have hfo:∀ b∈fp,∃ o,s2.heap.get? b=some o:=λb hb=>let ⟨o,e,_⟩:=T.obj _ _ st2 b hb;⟨o,e⟩
 refine AR (wpAny_newFunctionEnv L.cell (by intro y hy;simp at hy) (λh₁ hns₁ hsb₁=>?_) L.kind)
 dsimp only at hns₁ hsb₁ ⊢
 have hCe:(s2.heap.push { cls:=.type "list",dict:=none,data:=.seq ([]:List Value).toArray }).objs.size=s2.heap.objs.size+1:=Ba _ _
 rw [hCe] at hns₁ hsb₁ ⊢
 have old:∀ b o,s2.heap.get? b=some o->h₁.get? b=some o:=λb o e=>hsb₁.extBut b o (Au (A0 (Al e))) (Ad _ (Ad _ e))
 have hD₁:h₁.get? s2.heap.objs.size=some { cls:=.type "list",data:=.seq #[] 0 }:=hsb₁.extBut _ _ (Au (AV _)) (Ad _ (Ai _ rfl))
 have I4:=Jw (own:=own) (tk:=s2.toks+([]:List (Str×Value)).length) I2 L f2 hfo hsub hhas hns₁ old hD₁
 generalize hXc:CH X scope (own++fv.map (·.2)) cl (s2.heap.objs.size+1) s2 H2 fp=Xc at I4
 have hg':=hg cl (s2.heap.objs.size+1) s2 H2 fp
 have ht':=ht cl (s2.heap.objs.size+1) s2 H2 fp
 have he':=he cl (s2.heap.objs.size+1) s2 H2 fp
 have st4:tn 0 h₁:=T.keep _ _ _ st2 λb _ o e=>old b o e
 have celllt:∀ x c,cl.lookup x=some c->c<s2.heap.objs.size:=λx c e=>by
  obtain ⟨v,z⟩:=I2.cell x c (hsub x c e)
  exact z.lt
 have nst:s2.heap.objs.size∉frs X.stack:=λhm=>by
  rcases An.mp (I2.stkSub _ hm) with e|e
  ·exact absurd I2.lt (by rw [← e];exact A6 _)
  ·exact I2.nofs (Ag _) e
 rw [hXc] at hg' ht' he'
 have loop:∀ s4:Shared,s4={ s2 with heap:=h₁,toks:=s2.toks+([]:List (Str×Value)).length } ->
   codeAny (model X.prog X.w) X.A (.compLoop (.ListComp elt [⟨tg,iter,ifs,0⟩] scope pos) 0 (.ref it) (.ref s2.heap.objs.size) (compEnvC scope cl (s2.heap.objs.size+1) X.env))
    (compPost (model X.prog X.w) X.A X.xe use Qc (.ref s2.heap.objs.size) (s2.heap.objs.size+1)) s4:=by
  rintro s4 rfl
  have fpok:∀ {pl:List (Addr×Obj)} {H':Hp},(∀ p∈pl,p.1=s2.heap.objs.size)->(∀ b∈fp,H' b=none)->∀ b∈fp,FT Xc pl H' b:=λ{pl H'} hpl hn b hb=>by
   obtain ⟨o,eo⟩:=hfo b hb
   have blt:=Al eo
   subst hXc
   refine ⟨hn b hb,Au (A0 blt),λhm=>?_,.inl hb,λx c e=>(f2 b hb).2.2.2.2.1 x c (hsub x c e),λp hp=>?_⟩
   ·obtain ⟨_,f1,f3,_⟩:=f2 b hb
    rcases An.mp (I2.stkSub b hm) with e|e
    ·exact f1 e
    ·exact f3 e
   ·have hp':p∈pl:=by simpa [CH] using hp
    rw [hpl p hp']
    exact BQ blt
  have xP:Xc.prog=X.prog:=by subst hXc;rfl
  have xw:Xc.w=X.w:=by subst hXc;rfl
  have xK:Xc.K=X.K:=by subst hXc;rfl
  have xA:Xc.A=X.A:=by subst hXc;rfl
  have xc:Xc.calm=true:=by subst hXc;exact L.calm
  have xx:Xc.xe=λ_ _=>False:=by subst hXc;rfl
  have xe:Xc.env=compEnvC scope cl (s2.heap.objs.size+1) X.env:=by subst hXc;rfl
  have xs:Xc.s₀=s2:=by subst hXc;rfl
  have xH:Xc.H₀=H2:=by subst hXc;rfl
  have xf:Xc.fs=frs X.stack:=by subst hXc;rfl
  have xex:Xc.ex=fp:=by subst hXc;rfl
  have xpn:Xc.pn=[]:=by subst hXc;rfl
  refine IX (λn s'=>∃ i ys its k σ' H',Inv Xc [(s2.heap.objs.size,{ cls:=.type "list",data:=.seq its k })] σ' H' s'∧Vals ys its.toList∧tn i s'.heap∧(∀ b∈fp,H' b=none)∧W i n ys σ' H') ?_ m0
   ⟨0,[],#[],0,_,H2,I4,.nil,st4,λb hb=>(f2 b hb).1,w0⟩
  rintro n s5 ⟨i,ys,its,k,σ5,H5,I5,r5,st5,fr5,w5⟩
  obtain ⟨hlen,hst⟩:=turn i n ys σ5 H5 w5
  have hf5:=fpok (pl:=[(s2.heap.objs.size,{ cls:=.type "list",data:=.seq its k })]) (λp hp=>by simp at hp;rw [hp]) fr5
  rcases hst with ⟨stop,qn⟩|⟨go,step⟩
  ·-- the end
   have d:=T.done Xc xP xw xK xc i _ s5 σ5 H5 (λ_ _=>False) I5 hf5 st5 stop
   rw [xA] at d
   refine thn d λr s6 ⟨hr,I6⟩=>?_
   subst hr
   obtain ⟨m,hn,_⟩:=I6.loc
   rw [xe] at hn
   obtain ⟨eD,nD,_⟩:=I6.pin (s2.heap.objs.size,_) (Aj _ (Ao.mpr rfl))
   have nC:H5 (s2.heap.objs.size+1)=none:=by have:=I6.free;rw [xe] at this;exact this
   have U:Un (frs X.stack) fp H2 H5 s2.heap s6.heap:=by have:=I6.base;rw [xf,xex,xs,xH] at this;exact this
   have ok6:HOk X.prog X.w H5 s6.heap:=by have:=I6.hok;rw [xP,xw] at this;exact this
   have J6:Inv X pins σ (upd H5 s2.heap.objs.size (.lst ys)) s6:=I2.call' (s':=s6) (by have:=I6.os;rw [xs] at this;exact this) (U.lay (Ag _) nD) (ok6.lay nD ⟨hlen,its.toList,k,r5,by simpa using eD⟩) I6.bare λb hb=>by
    obtain ⟨_,f1,_,f3,f4,f5⟩:=f2 b hb
    exact ⟨f3,f1,f4,f5⟩
   exact fin s6 _ _ _ m J6 (I2.fpOk (BU _) (by rw [CQ (BQ (AV _))];exact nC)) hn (qn _ nD)
  ·have d:=T.item Xc xP xw xK xc i _ s5 σ5 H5 (λ_ _=>False) I5 hf5 st5 go
   rw [xA] at d
   refine thn d λr s6 ⟨u,hr,h6⟩=>?_
   subst hr
   refine thn h6 λ_ s7 ⟨x,H7,I7,r7,y7,st7,fr7⟩=>?_
   have I7':=I7.pinned (fpok (pl:=[(s2.heap.objs.size,{ cls:=.type "list",data:=.seq its k })]) (λp hp=>by simp at hp;rw [hp]) fr7) (T.obj _ _ st7)
   have a:=hg' _ s7 σ5 H7 x u _ I7' r7 (step x H7 y7)
   rw [xP,xw,xA,xx,xe] at a
   refine thn a λ_ s8 ⟨σ8,H8,I8,q8⟩=>?_
   have b:=ht' _ s8 σ8 H8 _ I8 q8
   rw [xP,xw,xA,xx,xe] at b
   refine thn b λok s9 ⟨H9,I9,q9⟩=>?_
   have back:∀ {s':Shared} {σ':St} {H':Hp},Inv Xc ([(s2.heap.objs.size,{ cls:=.type "list",data:=.seq its k })]++GB fp s7.heap) σ' H' s' ->
     tn (i+1) s'.heap∧(∀ b∈fp,H' b=none)∧s'.heap.get? s2.heap.objs.size=some { cls:=.type "list",data:=.seq its k }∧H' s2.heap.objs.size=none:=λ{s' σ' H'} J'=>by
    refine ⟨T.keep _ _ _ st7 λb hb o e=>(J'.pin (b,o) (Aj _ (Aj _ (D8 hb e)))).1,λb hb=>?_,?_,?_⟩
    ·obtain ⟨o,e,_⟩:=T.obj _ _ st7 b hb
     exact (J'.pin (b,o) (Aj _ (Aj _ (D8 hb e)))).2.1
    ·exact (J'.pin (s2.heap.objs.size,_) (Aj _ (AX _ (Ao.mpr rfl)))).1
    ·exact (J'.pin (s2.heap.objs.size,_) (Aj _ (AX _ (Ao.mpr rfl)))).2.1
   cases ok with
   | false =>
    rw [if_neg AE] at q9 ⊢
    obtain ⟨m',hm,w9⟩:=q9
    obtain ⟨b1,b2,_,_⟩:=back I9
    exact ⟨m',hm,i+1,ys,its,k,σ8,H9,I9.unpinned,r5,b1,b2,w9⟩
   | true =>
    rw [if_pos rfl] at q9 ⊢
    have c:=he' _ s9 σ8 H9 _ I9 q9
    rw [xP,xw,xA,xx,xe] at c
    refine thn c λu' s10 ⟨y,H10,I10,r10,m',hm,w10⟩=>?_
    obtain ⟨b1,b2,b3,b4⟩:=back I10
    have hz:its.size≤sizeLine:=by
     have e:=r5.length
     simp only [Array.length_toList] at e
     omega
    refine wpAny_list_append_plain (hsz:=hz) ⟨k,b3⟩ λh' hl' sb=>?_
    obtain ⟨k',hk'⟩:=hl'
    have I11:Inv Xc [] σ8 H10 s10:=I10.pins_of λp hp=>nomatch hp
    have nDL:s2.heap.objs.size≠Xc.env.locals:=by rw [xe];exact Au (AV _)
    have I12:Inv Xc [] σ8 H10 { s10 with heap:=h' }:=I11.turned (t':=s10.toks) (it:=s2.heap.objs.size) (λb o hb e=>(sb.2 b hb).trans e) b4 nDL
     (.inr (by rw [xs];exact Ag _)) (λx c e=>by rw [xe] at e;exact Au (celllt x c e)) (λp hp=>by rw [xpn] at hp;exact nomatch hp)
    have I13:Inv Xc [(s2.heap.objs.size,{ cls:=.type "list",data:=.seq (its.push u') k' })] σ8 H10 { s10 with heap:=h' }:=I12.pins_of λp hp=>by
     have e:p=(s2.heap.objs.size,{ cls:=.type "list",data:=.seq (its.push u') k' }):=by simpa using hp
     subst e
     exact ⟨hk',b4,nDL,by rw [xf];exact nst,λv z=>by cases z⟩
    refine ⟨m',hm,i+1,ys++[y],its.push u',k',σ8,H10,I13,?_,T.keep _ _ _ b1 λb hb o e=>(sb.2 b ?_).trans e,b2,w10⟩
    ·rw [BW]
     exact r5.append (.cons r10 .nil)
    ·obtain ⟨o',eo⟩:=hfo b hb
     exact Au (Al eo)
 exact codeAny_compStart_list (loop _ rfl) (T.self _ 0 _ _ _ st4 (loop _ rfl))
theorem Le {C:Addr}{h h':Heap}(sb:Heap.SameBut C h h'):∀ b o,b∉[C]->h.get? b=some o->h'.get? b=some o:=λb o hb e=>(sb.2 b (by simpa using hb)).trans e
theorem Sr {i:Nat}{x:Str}{px spos:Pos}(L:JJ X scope fv)(hi:PI X tg iter wi)
  (hg:∀ cl C s₁ H₁ fp,PG (CH X scope (own++fv.map (·.2)) cl C s₁ H₁ fp) tg g)
  (ht:∀ cl C s₁ H₁ fp,PF (CH X scope (own++fv.map (·.2)) cl C s₁ H₁ fp) ifs tt)
  (he:∀ cl C s₁ H₁ fp,PE (CH X scope (own++fv.map (·.2)) cl C s₁ H₁ fp) elt te)
  (hN:X.N.Nodup) (hix:X.N[i]? = some x) (hx:Loc X.env.scope x) (hf:X.fn x=true∨X.env.scope.names.lookup x=some .local)
  (hsw:swapsWith (.ListComp elt [⟨tg,iter,ifs,0⟩] scope pos) (some (.Name x px)) spos.line X.env=pure true) (hs:∀ x,foldedSetIterable iter X.env x=pure x) :
  PS X (.Assign [.Name x px] (.ListComp elt [⟨tg,iter,ifs,0⟩] scope pos) spos) (TB (tLC wi own.length fv g tt te) (QX i)):=by
 intro pins s σ H E I h
 (rw [exec_Assign_Name_used _ _ _ _ hsw])
 refine Aa (wpAny_standAt (Aa ?_))
 show wpAny _ X.A (do let _←comprehension (.ListComp elt [⟨tg,iter,ifs,0⟩] scope pos) scope X.env _ (newList []) false (eval iter X.env) (some (assign (.Name x px) X.env))) _ _ s
 refine Aa (B2 (WG (use:=some (assign (.Name x px) X.env)) (Qc:=λ_ s'=>SP X pins E .next s') (pos:=pos) L hi hg ht he hs I h λs6 H' D C m J6 fC nsC q=>?_) (λ_ s' hq=>Ab (Ab hq)) λ_ _ e=>e)
 obtain ⟨oC,es,ep,hoC,hdC,rC⟩:=id nsC
 have J7:Inv X (pins++[(C,oC)]) σ H' s6:=J6.pins_of λp hp=>(AH.mp hp).elim (λz=>J6.pin p (Aj _ z)) λz=>by
  have e:p=(C,oC):=by simpa using z
  subst e
  obtain ⟨f0,f1,f2,_⟩:=fC
  exact ⟨hoC,f0,f1,f2,λv z=>by rw [hdC] at z;cases z⟩
 show wpAny _ X.A (assign (.Name x px) X.env (.ref D)) _ _ _
 refine wpAny_assign_Name (Fx J7 hN hix hx (show RelV (.ref D) (.ref D) from rfl) (λs8 I8=>?_) hf)
 have eC:=(I8.pin (C,oC) (Aj _ (Aj _ (Ao.mpr rfl)))).1
 refine ⟨m,⟨oC,es,ep,eC,hdC,rC⟩,λh' sb=>?_⟩
 exact ⟨_,H',(I8.unpinned).turnedL (ch:=[C]) (t':=s8.toks) (Le sb) (λb hb=>by rw [Ao.mp hb];exact fC),q⟩
end
end L2
namespace PV
open PySem L2 PySem.Spec PyProof.Rows
section
variable {X:Cx} {K:Zc} {th:List Addr} {mu:Sto} {H:Hp}
noncomputable def Gf (g:Option Nat)(m0:Sto)(tg:Gx)(tt:Tx)(el:Ex)(ro:Ro):List D->Sto->Rs (List D)
 | [],mu=>some ([],mu)
 | d::ds,mu=>bM (tg d ro mu) λro1 m1=>bM (tt ro1 m1) λb m2 =>
  if b=true then bM (el ro1 m2) λy m3=>DY g m0 m3 (bM (Gf g m0 tg tt el ro ds m3) λys m4=>some (y::ys,m4)) else DY g m0 m2 (Gf g m0 tg tt el ro ds m2)
noncomputable def r0 (nc:Nat)(fvs:List Nat)(ro:Ro):Ro:=List.replicate nc none++fvs.map λk=>ro.getD k none
noncomputable def eLC (i:Ix)(nc:Nat)(fvs:List Nat)(tg:Gx)(tt:Tx)(el:Ex):Ex:=λro mu=>bM (i ro mu) λp m1=>bM (Gf p.2 m1 tg tt el (r0 nc fvs ro) p.1 m1) λys m2=>some (.lst ys,m2)
noncomputable def PH (nc:Nat)(tg:Gx):Prop:=∀ d ro mu ro' mu',tg d ro mu=some (ro',mu')->ro'.length=ro.length∧∀ i,nc≤i->ro'[i]? = ro[i]?
noncomputable def OD (nc:Nat)(tg:Gxs):Prop:=∀ d ro mu ro' mu',tg d ro mu=some (ro',mu')->ro'.length=ro.length∧∀ i,nc≤i->ro'[i]? = ro[i]?
theorem CP {nc i:Nat}(h:i<nc:=by decide):PH nc (gNm i):=λd ro mu ro' mu' e=>by
 cases e
 exact ⟨by simp,λj hj=>AM (by omega)⟩
theorem ER {nc:Nat}:OD nc CM:=λds ro mu ro' mu' e=>by
 cases ds with
 | nil=>cases e;exact ⟨rfl,λ_ _=>rfl⟩
 | cons d ds=>cases e
theorem Dc {nc:Nat}{g:Gx}{gs:Gxs}(h1:PH nc g)(h2:OD nc gs):OD nc (Co g gs):=λds ro mu ro' mu' e=>by
 cases ds with
 | nil=>cases e
 | cons d ds =>
  obtain ⟨ro1,m1,e1,e2⟩:=Gh e
  obtain ⟨a1,a2⟩:=h1 _ _ _ _ _ e1
  obtain ⟨b1,b2⟩:=h2 _ _ _ _ _ e2
  exact ⟨b1.trans a1,λi hi=>(b2 i hi).trans (a2 i hi)⟩
theorem Fu {nc n:Nat}{g:Gxs}(h:OD nc g):PH nc (gTp n g):=λd ro mu ro' mu' e=>by
 cases d with
 | tup ds =>
  unfold gTp at e
  dsimp only at e
  by_cases q:ds.length=n
  ·rw [if_pos q] at e;exact h _ _ _ _ _ e
  ·rw [if_neg q] at e;cases e
 | _=>cases e
theorem MF {nc:Nat}{fv:List (Nat×Str)}{ro:Ro}{st:L2.St}(en:EnvOk K th H ro st):EnvOk K th H (r0 nc (fv.map (·.1)) ro) (st0 nc fv st):=by
 unfold r0 st0
 refine ⟨by simp,λi d e=>?_⟩
 by_cases hi:i<nc
 ·rw [Ay (by simpa using hi),BS] at e
  split at e<;>cases e
 ·rw [AU (by simpa using hi)] at e ⊢
  simp only [B1,Bu,Ap] at e ⊢
  cases q:fv[i-nc]? with
  | none=>rw [q] at e;cases e
  | some p =>
   rw [q] at e
   have e':ro.getD p.1 none=some d:=by simpa using e
   rw [AK] at e'
   have e2:ro[p.1]? = some (some d):=by
    cases w:ro[p.1]? with
    | none=>rw [w] at e';cases e'
    | some o=>rw [w] at e';exact congrArg some e'
   obtain ⟨v,ev,rv⟩:=en.2 _ _ e2
   exact ⟨v,by simp [AK,ev],rv⟩
theorem JZ {nc:Nat}{fvs:List Nat}{ro:Ro}{i:Nat}{d:D}(e:(r0 nc fvs ro)[i]? = some (some d)):nc≤i:=by
 rcases Bv i nc with h|h
 ·unfold r0 at e
  rw [Ay (by simpa using h),BS] at e
  split at e<;>cases e
 ·exact h
theorem S3 {i:Ix}{nc:Nat}{fv:List (Nat×Str)}{tg:Gx}{tt:Tx}{el:Ex}{st:L2.St}{Q:VK}(ow:PH nc tg)(h:rdE K (eLC i nc (fv.map (·.1)) tg tt el) st H Q):tLC (rdI K i) nc fv (rdG K tg) (rdT K tt) (rdE K el) st H Q:=by
 obtain ⟨th,mu,ro,so,en,t⟩:=h
 refine ⟨th,mu,ro,so,en,t.bind.mono λp th1 mu1 H1 e1 s1 t1 J ok=>?_⟩
 obtain ⟨ds,gd⟩:=p
 have en1:=MF (nc:=nc) (fv:=fv) (en.ext e1 so.out)
 generalize hro:r0 nc (fv.map (·.1)) ro=ro0 at t1 en1
 have own:∀ i d,ro0[i]? = some (some d)->nc≤i:=λi d e=>by subst hro;exact JZ e
 refine ⟨λk n ys st' H'=>n=ds.length-k∧k≤ds.length∧∃ th' mu' zs,StoOk K th' mu' H'∧EnvOk K th' H' ro0 st'∧Ext th1 H1 th' H'∧gOk gd mu1 mu'∧RepL K th' H' zs ys∧zs.length≤k ∧
  Tr K th' H' (Gf gd mu1 tg tt el ro0 (ds.drop k) mu') λrest th'' mu'' H''=>∀ th3 H3 v,Ext th'' H'' th3 H3->StoOk K th3 mu'' H3->Rep K th3 H3 (.lst (zs++rest)) v->Q v H3,⟨_,rfl,AW _,th1,mu1,[],s1,en1,.refl _ _,?_,.nil,AW _,?_⟩,?_⟩
 ·cases gd with
  | none=>exact True.intro
  | some k=>exact rfl
 ·exact t1.bind.mono λrest th2 mu2 H2 e2 s2 t2 th3 H3 v e3 s3 rv=>t2.retX e3 s3 v rv
 rintro k n ys st2 H2 ⟨rfl,hk,th2,mu2,zs,s2,en2,e2,g2,rz,hz,t2⟩
 have hsz:=ok.sz
 dsimp only at hsz
 refine ⟨by rw [rz.len];omega,?_⟩
 by_cases lt:k<ds.length
 ·refine .inr ?_
  have ek:ds[k]? = some ds[k]:=by simp
  obtain ⟨a1,a2⟩:=ok.go th2 mu2 H2 e2 s2 g2 k ds[k] ek
  refine ⟨a1,λx H3 y=>?_⟩
  obtain ⟨e3,s3,r3⟩:=a2 x H3 y
  rw [BI lt] at t2
  unfold Gf at t2
  refine ⟨th2,mu2,ro0,ds[k],s3,en2.ext e3 s2.out,r3,?_⟩
  refine (t2.ahead e3).bindE.mono λro1 th4 mu4 H4 e4 s4 t4 st4 en4=>?_
  obtain ⟨eq4,t4⟩:=t4
  obtain ⟨ol,ow'⟩:=ow _ _ _ _ _ eq4
  have back:∀ {th' H'},Ext th4 H4 th' H'->EnvOk K th' H' ro0 st4:=λ{th' H'} ex=>by
   have en':=en4.ext ex s4.out
   refine ⟨by rw [← ol];exact en'.1,λi d e=>?_⟩
   exact en'.2 i d (by rw [ow' i (own i d e)];exact e)
  refine ⟨th4,mu4,ro1,s4,en4,t4.bind.mono λb th5 mu5 H5 e5 s5 t5=>?_⟩
  have e14:Ext th1 H1 th5 H5:=((e2.trans e3).trans e4).trans e5
  cases b with
  | false =>
   obtain ⟨a,mu',q1,q2⟩:=t5
   obtain ⟨go5,q1⟩:=Fh q1
   refine ⟨ds.length-(k+1),by omega,rfl,lt,th5,mu5,zs,s5,back e5,e14,go5,rz.ext ((e3.trans e4).trans e5) s2.out,by omega,a,mu',q1,q2⟩
  | true =>
   refine ⟨th5,mu5,ro1,s5,en4.ext e5 s4.out,Tr.mono (Tr.bind t5) λy th6 mu6 H6 e6 s6 t6 v rv=>?_⟩
   obtain ⟨a,mu',q1,q2⟩:=t6
   obtain ⟨go6,q1⟩:=Fh q1
   obtain ⟨rest,m7,q3,q4⟩:=Gh q1
   cases q4
   refine ⟨ds.length-(k+1),by omega,rfl,lt,th6,mu6,zs++[y],s6,back (e5.trans e6),e14.trans e6,go6,(rz.ext (((e3.trans e4).trans e5).trans e6) s2.out).app (.cons rv .nil),by rw [As];exact Nat.add_le_add_right hz 1,rest,mu',q3,λth7 H7 e7 s7 th8 H8 v' e8 s8 rv'=>?_⟩
   rw [List.append_assoc] at rv'
   exact q2 th7 H7 e7 s7 th8 H8 v' e8 s8 rv'
 ·have e:k=ds.length:=by omega
  subst e
  rw [List.drop_length] at t2
  unfold Gf at t2
  refine .inl ⟨ok.stop th2 mu2 H2 e2 s2 g2,λp hp=>?_⟩
  refine t2.ret s2 th2 _ _ (.new hp _) (s2.new hp _) ?_
  rw [List.append_nil]
  exact Rep.newLst s2 hp rz (by omega)
noncomputable def tY:Tx:=λ_ mu=>some (true,mu)
structure SVF (X:Cx) (ifs:List Expr) (m:Tx):Prop where
 r:PF X ifs (rdT X.z m)
theorem D0:SVF X [] tY:=⟨λpins s st H Q I h=>Xw pins s st H Q I (by
 obtain ⟨th,mu,ro,so,en,t⟩:=h
 exact t.ret so)⟩
theorem UU {c:Expr}{m:Tx}(h:SVT X c m):SVF X [c] m:=⟨Wf h.r⟩
section
variable {tg iter elt:Expr} {ifs:List Expr} {scope:Scope} {pos:Pos} {i:Ix} {g:Gx} {tt:Tx} {el:Ex}
theorem GH (own:List Str)(fv:List (Nat×Str))(L:JJ X scope fv)(hi:SVI X tg iter i)(ow:PH own.length g)
  (hg:∀ cl C s₁ H₁ fp,SVG (CH X scope (own++fv.map (·.2)) cl C s₁ H₁ fp) tg g)
  (ht:∀ cl C s₁ H₁ fp,SVF (CH X scope (own++fv.map (·.2)) cl C s₁ H₁ fp) ifs tt)
  (he:∀ cl C s₁ H₁ fp,SV (CH X scope (own++fv.map (·.2)) cl C s₁ H₁ fp) elt el)
  (hs:∀ x,foldedSetIterable iter X.env x=pure x:=by intro _;rfl):SV X (.ListComp elt [⟨tg,iter,ifs,0⟩] scope pos) (eLC i own.length (fv.map (·.1)) g tt el):=
 ⟨PE.weak (X4 (own:=own) (g:=rdG X.z g) (tt:=rdT X.z tt) (te:=rdE X.z el) L hi.r (λcl C s₁ H₁ fp=>(hg cl C s₁ H₁ fp).r) (λcl C s₁ H₁ fp=>(ht cl C s₁ H₁ fp).r) (λcl C s₁ H₁ fp=>(he cl C s₁ H₁ fp).r) hs) λ_ _ _ h=>S3 ow h⟩
theorem Pk (j:Nat){x:Str}{px spos:Pos}(own:List Str)(fv:List (Nat×Str))(L:JJ X scope fv)(hi:SVI X tg iter i)(ow:PH own.length g)
  (hg:∀ cl C s₁ H₁ fp,SVG (CH X scope (own++fv.map (·.2)) cl C s₁ H₁ fp) tg g)
  (ht:∀ cl C s₁ H₁ fp,SVF (CH X scope (own++fv.map (·.2)) cl C s₁ H₁ fp) ifs tt)
  (he:∀ cl C s₁ H₁ fp,SV (CH X scope (own++fv.map (·.2)) cl C s₁ H₁ fp) elt el)
  (hN:X.N.Nodup) (hix:X.N[j]? = some x:=by rfl) (hx:Loc X.env.scope x:=by first|exact Or.inl rfl|exact Or.inr rfl) (hf:X.fn x=true∨X.env.scope.names.lookup x=some .local:=by first|exact .inl rfl|exact .inr rfl)
  (hsw:swapsWith (.ListComp elt [⟨tg,iter,ifs,0⟩] scope pos) (some (.Name x px)) spos.line X.env=pure true:=by rfl) (hs:∀ x,foldedSetIterable iter X.env x=pure x:=by intro _;rfl) :
  SVS X (.Assign [.Name x px] (.ListComp elt [⟨tg,iter,ifs,0⟩] scope pos) spos) (Di (eLC i own.length (fv.map (·.1)) g tt el) (gNm j)):=
 ⟨PS.weak (Sr (own:=own) (g:=rdG X.z g) (tt:=rdT X.z tt) (te:=rdE X.z el) L hi.r (λcl C s₁ H₁ fp=>(hg cl C s₁ H₁ fp).r) (λcl C s₁ H₁ fp=>(ht cl C s₁ H₁ fp).r) (λcl C s₁ H₁ fp=>(he cl C s₁ H₁ fp).r) hN hix hx hf hsw hs) λE st H h=>by
  obtain ⟨th,mu,ro,so,en,t⟩:=h
  refine S3 ow ⟨th,mu,ro,so,en,t.bind.mono λd th1 mu1 H1 e1 s1 t1 v rv=>?_⟩
  exact t1.ret s1 _ ((en.ext e1 so.out).set j rv)⟩
end
noncomputable def chars (x:Str):List D:=x.cps.toList.map λc=>.str ⟨#[c]⟩
noncomputable def Et (a:Ex):Ix:=λro mu=>bM (a ro mu) λd m1=>match d with
 | .tup ds=>some ((ds,none),m1)
 | .lst ds=>some ((ds,none),m1)
 | .str x=>some ((chars x,none),m1)
 | .ref k=>match m1[k]? with
  | some (.lst ds)=>some ((ds,some k),m1)
  | _=>none
 | _=>none
theorem Kz {a:Addr}{ds:List D}{g:Option Nat}(hz:ds.length≤sizeLine)(h:∀ th' mu' H',Ext th H th' H'->StoOk K th' mu' H'->gOk g mu mu'->∃ vs,SqL K.K H' a vs∧RepL K th' H' ds vs):Qk K (Itl K.K a) th mu H ds g where
 sz:=hz
 go:=λth' mu' H' e s go i d ed=>by
  obtain ⟨vs,h1,h2⟩:=h th' mu' H' e s go
  obtain ⟨v,ev,rv⟩:=h2.get ed
  refine ⟨⟨vs,v,h1,ev⟩,λx H2 y=>?_⟩
  obtain ⟨rfl,y⟩:=y
  have ex:=y vs h1
  rw [ev] at ex
  cases ex
  exact ⟨.refl _ _,s,rv⟩
 stop:=λth' mu' H' e s go=>by
  obtain ⟨vs,h1,h2⟩:=h th' mu' H' e s go
  exact ⟨vs,h1,by rw [h2.len];exact Ag _⟩
theorem Rn {a:Addr}{ds:List D}{vs:List V}(so:StoOk K th mu H)(hz:ds.length≤sizeLine)(h:SqT K.K H a vs)(r:RepL K th H ds vs):Qk K (Itt K.K a) th mu H ds none where
 sz:=hz
 go:=λth' mu' H' e s go i d ed=>by
  have h1:=e.sqT so.out h
  obtain ⟨v,ev,rv⟩:=(r.ext e so.out).get ed
  refine ⟨⟨vs,v,h1,ev⟩,λx H2 y=>?_⟩
  obtain ⟨rfl,y⟩:=y
  have ex:=y vs h1
  rw [ev] at ex
  cases ex
  exact ⟨.refl _ _,s,rv⟩
 stop:=λth' mu' H' e s go=>⟨vs,e.sqT so.out h,by rw [r.len];exact Ag _⟩
theorem ML {x:Str}{c:Nat}(ok:PyData.strOk x=true)(h:c∈x.cps.toList):Rep K th H (.str ⟨#[c]⟩) (.str ⟨#[c]⟩):=by
 unfold Rep
 refine ⟨rfl,by show 1≤sizeLine;decide,?_⟩
 unfold PyData.strOk at ok ⊢
 rw [← Array.all_toList] at ok ⊢
 simpa using Aw.mp ok c h
theorem RT {x:Str}(hz:x.length≤sizeLine)(ok:PyData.strOk x=true):Qk K (Its x) th mu H (chars x) none where
 sz:=by unfold chars;rw [Ah,Array.length_toList];exact hz
 go:=λth' mu' H' e s go i d ed=>by
  unfold chars at ed
  rw [Ap] at ed
  cases q:x.cps.toList[i]? with
  | none=>rw [q] at ed;cases ed
  | some c =>
   rw [q] at ed
   have hd:D.str ⟨#[c]⟩=d:=by simpa using ed
   subst hd
   have hlt:=(Ae.mp q).1
   refine ⟨by show i<x.cps.size;simpa using hlt,λv H2 y=>?_⟩
   obtain ⟨rfl,c',hc',rfl⟩:=y
   have:c'=c:=by
    rw [← Ax,q] at hc'
    exact (AB hc').symm
   subst this
   exact ⟨.refl _ _,s,ML ok (Am q)⟩
 stop:=λth' mu' H' e s go=>by show (chars x).length=x.cps.size;unfold chars;simp
theorem DQ {tg e:Expr}{m:Ex}(h:SV X e m):SVI X tg e (Et m):=⟨by
 intro pins s st H R I q
 obtain ⟨th,mu,ro,so,en,t⟩:=q
 obtain ⟨p,mu',e1,q1⟩:=id t
 obtain ⟨d,m1,e2,e3⟩:=Gh e1
 have t':=t.bindE
 cases d with
 | tup ds =>
  refine WO h.r pins s st H R I ⟨th,mu,ro,so,en,t'.mono λd th1 mu1 H1 x1 s1 t1 v rv=>?_⟩
  obtain ⟨eq,t1⟩:=t1
  rw [e2] at eq
  cases eq
  unfold Rep at rv
  obtain ⟨a,vs,rfl,hs,rl,hz⟩:=rv
  exact ⟨a,rfl,⟨vs,hs⟩,t1.ret s1 _ (Rn s1 hz hs rl)⟩
 | lst ds =>
  refine O2 h.r pins s st H R I ⟨th,mu,ro,so,en,t'.mono λd th1 mu1 H1 x1 s1 t1 v rv=>?_⟩
  obtain ⟨eq,t1⟩:=t1
  rw [e2] at eq
  cases eq
  unfold Rep at rv
  obtain ⟨a,vs,rfl,hs,rl,hz⟩:=rv
  exact ⟨a,rfl,⟨vs,hs.sq⟩,t1.ret s1 _ (Kz hz λth' mu' H' e s' _=>⟨vs,(e.fz hs).sq,rl.ext e s1.out⟩)⟩
 | str x =>
  refine W9 h.r pins s st H R I ⟨th,mu,ro,so,en,t'.mono λd th1 mu1 H1 x1 s1 t1 v rv=>?_⟩
  obtain ⟨eq,t1⟩:=t1
  rw [e2] at eq
  cases eq
  unfold Rep at rv
  obtain ⟨rfl,hz,ok⟩:=rv
  exact ⟨x,rfl,t1.ret s1 _ (RT hz ok)⟩
 | ref k =>
  refine O2 h.r pins s st H R I ⟨th,mu,ro,so,en,t'.mono λd th1 mu1 H1 x1 s1 t1 v rv=>?_⟩
  obtain ⟨eq,t1⟩:=t1
  rw [e2] at eq
  cases eq
  unfold Rep at rv
  obtain ⟨a,rfl,ha⟩:=rv
  dsimp only at t1
  cases em:m1[k]? with
  | none=>rw [em] at t1;exact t1.no.elim
  | some o =>
   cases o with
   | dct _ _=>rw [em] at t1;exact t1.no.elim
   | lst ds =>
    rw [em] at t1
    obtain ⟨vs,h1,h2,hz⟩:=s1.at' k a _ ha em
    refine ⟨a,rfl,⟨vs,.inl (.inl h1)⟩,t1.ret s1 _ (Kz hz λth' mu' H' e s' go=>?_)⟩
    have em':mu'[k]? = some (.lst ds):=by rw [← em];exact (show m1[k]? = mu'[k]? from go).symm
    obtain ⟨vs',h1',h2',_⟩:=s'.at' k a _ (e.at ha) em'
    exact ⟨vs',.inl (.inl h1'),h2'⟩
 | non=>cases e3
 | bl b=>cases e3
 | int b=>cases e3
 | dct _ _=>cases e3
 | set _=>cases e3⟩
end
mutual
noncomputable def toPy:D->PyData
 | .non=>.none
 | .bl b=>.bool b
 | .int i=>.int i
 | .str x=>.str x
 | .tup ds=>.tuple (CD ds)
 | .lst ds=>.list (CD ds)
 | .dct _ _=>.none
 | .set _=>.none
 | .ref _=>.none
noncomputable def CD:List D->List PyData
 | []=>[]
 | d::ds=>toPy d::CD ds
end
mutual
noncomputable def CU:D->Bool
 | .tup ds=>Eg ds
 | .lst ds=>Eg ds
 | .dct _ _=>false
 | .set _=>false
 | .ref _=>false
 | _=>true
noncomputable def Eg:List D->Bool
 | []=>true
 | d::ds=>CU d&&Eg ds
end
noncomputable def seen (mu:Sto):D->D
 | .ref k=>match mu[k]? with
  | some (.lst ds)=>.lst ds
  | _=>.ref k
 | d=>d
noncomputable def eqB (mu:Sto)(d e:D):Option Bool:=if CU (seen mu d)&&CU (seen mu e)&&decide (min (toPy (seen mu d)).depth (toPy (seen mu e)).depth≤60) then some (PyData.eqv (toPy (seen mu d)) (toPy (seen mu e))) else none
noncomputable def eqD (d e:D)(mu:Sto):Rs D:=(eqB mu d e).map λb=>(.bl b,mu)
noncomputable def neD (d e:D)(mu:Sto):Rs D:=(eqB mu d e).map λb=>(.bl (!b),mu)
section
variable {X:Cx} {K:Zc} {th:List Addr} {mu:Sto} {H:Hp}
mutual
theorem EC {pins:List (Addr×Obj)}{st:L2.St}{s:Shared}(I:L2.Inv X pins st H s):∀ (d:D) (v:V) (u:Value),CU d=true->Rep X.z th H d v->RelV v u->∃ as,Reads s.heap u (toPy d) as∧(toPy d).canLay0=true
 | .non,_,_,_,r,q=>by cases (show _=_ from r);cases q;exact ⟨_,.none,rfl⟩
 | .bl b,_,_,_,r,q=>by cases (show _=_ from r);cases q;exact ⟨_,.bool b,rfl⟩
 | .int i,_,_,_,r,q=>by cases (show _=_ from r);obtain ⟨t,rfl⟩:=q;exact ⟨_,.int i t,rfl⟩
 | .str x,_,_,_,r,q=>by obtain ⟨rfl,hz,ok⟩:=(show _∧_∧_ from r);obtain ⟨t,rfl⟩:=q;exact ⟨_,.str x t,ok⟩
 | .tup ds,_,_,p,r,q=>by
  unfold Rep at r
  obtain ⟨a,vs,rfl,hs,rl,_⟩:=r
  cases q
  obtain ⟨its,rv,⟨o,h1,h2,n,h3⟩,_⟩:=I.tuple hs
  unfold CU at p
  obtain ⟨as,h4,h5⟩:=FF I ds vs its p rl rv
  exact ⟨as,by unfold toPy;exact .tuple h1 h2 h3 (by simpa using h4),by unfold toPy PyData.canLay0;exact h5⟩
 | .lst ds,_,_,p,r,q=>by
  unfold Rep at r
  obtain ⟨a,vs,rfl,hs,rl,_⟩:=r
  cases q
  obtain ⟨its,rv,⟨o,n,h1,h2,_,h3⟩,_⟩:=I.list hs.sq
  unfold CU at p
  obtain ⟨as,h4,h5⟩:=FF I ds vs its p rl rv
  exact ⟨_,by unfold toPy;exact .list h1 h2 h3 (by simpa using h4),by unfold toPy PyData.canLay0;exact h5⟩
 | .dct _ _,_,_,p,_,_=>by cases p
 | .set _,_,_,p,_,_=>by cases p
 | .ref k,_,_,p,_,_=>by cases p
theorem FF {pins:List (Addr×Obj)}{st:L2.St}{s:Shared}(I:L2.Inv X pins st H s):∀ (ds:List D) (vs:List V) (us:List Value),Eg ds=true->RepL X.z th H ds vs->Vals vs us->∃ as,ReadsAll s.heap us (CD ds) as∧PyData.canLayAll0 (CD ds)=true
 | [],_,_,_,r,q=>by cases r.inv0;cases q;exact ⟨_,.nil,rfl⟩
 | d::ds,_,_,p,r,q=>by
  obtain ⟨v,r',rfl,r1,r2⟩:=r.inv
  unfold Eg at p
  rw [Ac] at p
  cases q with
  | cons q1 q2 =>
   obtain ⟨as,a1,a2⟩:=EC I d v _ p.1 r1 q1
   obtain ⟨bs,b1,b2⟩:=FF I ds r' _ p.2 r2 q2
   exact ⟨_,.cons a1 b1,by unfold CD PyData.canLayAll0;rw [a2,b2];rfl⟩
end
theorem Em {pins:List (Addr×Obj)}{st:L2.St}{s:Shared}(I:L2.Inv X pins st H s)(so:StoOk X.z th mu H){d:D}{v:V}{u:Value}(p:CU (seen mu d)=true)(r:Rep X.z th H d v)(q:RelV v u):∃ as,Reads s.heap u (toPy (seen mu d)) as∧(toPy (seen mu d)).canLay0=true:=by
 cases d with
 | ref k =>
  unfold seen at p ⊢
  dsimp only at p ⊢
  cases e:mu[k]? with
  | none=>rw [e] at p;cases p
  | some o =>
   cases o with
   | dct _ _=>rw [e] at p;cases p
   | lst ds =>
    rw [e] at p
    dsimp only at p ⊢
    unfold Rep at r
    obtain ⟨a,rfl,ha⟩:=r
    obtain ⟨vs,h1,rl,hz⟩:=so.at' k a _ ha e
    cases q
    obtain ⟨its,rv,⟨o,n,h2,h3,_,h4⟩,_⟩:=I.list (.inl (.inl h1))
    unfold CU at p
    obtain ⟨as,h5,h6⟩:=FF I ds vs its p rl rv
    exact ⟨_,by unfold toPy;exact .list h2 h3 h4 (by simpa using h5),by unfold toPy PyData.canLay0;exact h6⟩
 | _=>exact EC I _ v u p r q
theorem E5 (hu:X.A.units+64<cLine):OpV X (compareOp .Eq) eqD:=by
 intro pins s st H x y v u Q I rx ry h
 obtain ⟨th,mu,d,e,so,r1,r2,t⟩:=h
 unfold eqD eqB at t
 by_cases hc:(CU (seen mu d)&&CU (seen mu e)&&decide (min (toPy (seen mu d)).depth (toPy (seen mu e)).depth≤60))=true
 ·rw [if_pos hc] at t
  rw [Ac,Ac,Af] at hc
  obtain ⟨as,a1,a2⟩:=Em I so hc.1.1 r1 rx
  obtain ⟨bs,b1,b2⟩:=Em I so hc.1.2 r2 ry
  exact SeqAt.rcAt_reads a1 b1 a2 b2 (by omega) _ _ _ _ ⟨.bl _,H,I,rfl,t.ret so _ rfl⟩
 ·rw [if_neg hc] at t
  exact t.no.elim
theorem Lf (hu:X.A.units+64<cLine):OpV X (compareOp .NotEq) neD:=by
 intro pins s st H x y v u Q I rx ry h
 obtain ⟨th,mu,d,e,so,r1,r2,t⟩:=h
 unfold neD eqB at t
 by_cases hc:(CU (seen mu d)&&CU (seen mu e)&&decide (min (toPy (seen mu d)).depth (toPy (seen mu e)).depth≤60))=true
 ·rw [if_pos hc] at t
  rw [Ac,Ac,Af] at hc
  obtain ⟨as,a1,a2⟩:=Em I so hc.1.1 r1 rx
  obtain ⟨bs,b1,b2⟩:=Em I so hc.1.2 r2 ry
  exact SeqAt.rcNeAt_reads a1 b1 a2 b2 (by omega) _ _ _ _ ⟨.bl _,H,I,rfl,t.ret so _ rfl⟩
 ·rw [if_neg hc] at t
  exact t.no.elim
noncomputable def inB (mu:Sto)(d c:D):Option Bool:=match d,seen mu c with
 | .str x,.str y=>some (!(Builtin.Str.occurrences y x 0 y.length 1).isEmpty)
 | d,.tup ds=>if CU d&&Eg ds&&decide (min (PyData.depthAll (CD ds)) (toPy d).depth≤60) then some ((CD ds).any λy=>PyData.eqv y (toPy d)) else none
 | d,.lst ds=>if CU d&&Eg ds&&decide (min (PyData.depthAll (CD ds)) (toPy d).depth≤60) then some ((CD ds).any λy=>PyData.eqv y (toPy d)) else none
 | _,_=>none
noncomputable def inD (d c:D)(mu:Sto):Rs D:=(inB mu d c).map λb=>(.bl b,mu)
noncomputable def UO (d c:D)(mu:Sto):Rs D:=(inB mu d c).map λb=>(.bl (!b),mu)
theorem Mi {d c:D}{b:Bool}(h:inB mu d c=some b):(∃ x y,d=.str x∧c=.str y∧b = !(Builtin.Str.occurrences y x 0 y.length 1).isEmpty) ∨
  ∃ ds,(seen mu c=.tup ds∨seen mu c=.lst ds)∧CU d=true∧Eg ds=true∧min (PyData.depthAll (CD ds)) (toPy d).depth≤60∧b=(CD ds).any λy=>PyData.eqv y (toPy d):=by
 have fin:∀ ds,(if CU d&&Eg ds&&decide (min (PyData.depthAll (CD ds)) (toPy d).depth≤60) then some ((CD ds).any λy=>PyData.eqv y (toPy d)) else none)=some b->CU d=true∧Eg ds=true∧min (PyData.depthAll (CD ds)) (toPy d).depth≤60∧b=(CD ds).any λy=>PyData.eqv y (toPy d):=λds e=>by
  by_cases hc:(CU d&&Eg ds&&decide (min (PyData.depthAll (CD ds)) (toPy d).depth≤60))=true
  ·rw [if_pos hc] at e
   rw [Ac,Ac,Af] at hc
   exact ⟨hc.1.1,hc.1.2,hc.2,(AB e).symm⟩
  ·rw [if_neg hc] at e;cases e
 unfold inB at h
 cases hs:seen mu c with
 | tup ds=>rw [hs] at h;cases d<;>exact .inr ⟨ds,.inl rfl,fin ds h⟩
 | lst ds=>rw [hs] at h;cases d<;>exact .inr ⟨ds,.inr rfl,fin ds h⟩
 | str y =>
  rw [hs] at h
  cases d with
  | str x =>
   have:c=.str y:=by
    cases c with
    | ref k =>
     unfold seen at hs
     dsimp only at hs
     cases e:mu[k]? with
     | none=>rw [e] at hs;cases hs
     | some o=>cases o<;>(rw [e] at hs;cases hs)
    | _=>exact hs
   exact .inl ⟨x,y,rfl,this,(AB h).symm⟩
  | _=>cases h
 | non=>rw [hs] at h;cases d<;>cases h
 | bl _=>rw [hs] at h;cases d<;>cases h
 | int _=>rw [hs] at h;cases d<;>cases h
 | dct _ _=>rw [hs] at h;cases d<;>cases h
 | set _=>rw [hs] at h;cases d<;>cases h
 | ref _=>rw [hs] at h;cases d<;>cases h
theorem Xn (hu:X.A.units+64<cLine):OpV X (compareOp .In) inD:=by
 intro pins s st H x y v u Q I rx ry h
 obtain ⟨th,mu,d,c,so,r1,r2,t⟩:=h
 unfold inD at t
 cases e:inB mu d c with
 | none=>rw [e] at t;exact t.no.elim
 | some b =>
  rw [e] at t
  have q:Q (.bl b) H:=t.ret so _ rfl
  rcases Mi e with ⟨x',y',rfl,rfl,hb⟩|⟨ds,hs,p1,p2,p3,hb⟩
  ·obtain ⟨rfl,_⟩:=(show _∧_ from r1)
   obtain ⟨rfl,_⟩:=(show _∧_ from r2)
   exact Qs pins s st H _ _ v u Q I rx ry ⟨x',y',rfl,rfl,by rw [← hb];exact q⟩
  ·obtain ⟨as,a1,a2⟩:=EC I d x v p1 r1 rx
   have pc:CU (seen mu c)=true:=by rcases hs with e|e<;>(rw [e];unfold CU;exact p2)
   obtain ⟨bs,b1,b2⟩:=Em I so pc r2 ry
   rw [hb] at q
   rcases hs with e|e
   ·rw [e] at b1 b2
    unfold toPy at b1 b2
    exact SeqAt.in_tuple_reads b1 a1 b2 a2 (by omega) ⟨.bl _,H,I,rfl,q⟩
   ·rw [e] at b1 b2
    unfold toPy at b1 b2
    exact SeqAt.in_list_reads b1 a1 b2 a2 (by omega) ⟨.bl _,H,I,rfl,q⟩
theorem T5 (hu:X.A.units+64<cLine):OpV X (compareOp .NotIn) UO:=by
 intro pins s st H x y v u Q I rx ry h
 obtain ⟨th,mu,d,c,so,r1,r2,t⟩:=h
 unfold UO at t
 cases e:inB mu d c with
 | none=>rw [e] at t;exact t.no.elim
 | some b =>
  rw [e] at t
  have q:Q (.bl (!b)) H:=t.ret so _ rfl
  rcases Mi e with ⟨x',y',rfl,rfl,hb⟩|⟨ds,hs,p1,p2,p3,hb⟩
  ·obtain ⟨rfl,_⟩:=(show _∧_ from r1)
   obtain ⟨rfl,_⟩:=(show _∧_ from r2)
   exact Lu pins s st H _ _ v u Q I rx ry ⟨x',y',rfl,rfl,by rw [← hb];exact q⟩
  ·obtain ⟨as,a1,a2⟩:=EC I d x v p1 r1 rx
   have pc:CU (seen mu c)=true:=by rcases hs with e|e<;>(rw [e];unfold CU;exact p2)
   obtain ⟨bs,b1,b2⟩:=Em I so pc r2 ry
   rw [hb] at q
   rcases hs with e|e
   ·rw [e] at b1 b2
    unfold toPy at b1 b2
    exact SeqAt.notIn_tuple_reads b1 a1 b2 a2 (by omega) ⟨.bl _,H,I,rfl,q⟩
   ·rw [e] at b1 b2
    unfold toPy at b1 b2
    exact SeqAt.notIn_list_reads b1 a1 b2 a2 (by omega) ⟨.bl _,H,I,rfl,q⟩
end
section
variable {X:Cx} {K:Zc} {th:List Addr} {mu:Sto} {H:Hp}
noncomputable def Vf (d e:D)(mu:Sto):Rs D:=match d,e with
 | .int i,.int j=>some (.int (i-j),mu)
 | _,_=>none
theorem O9:OpV X (binaryOp .Sub) Vf:=by
 intro pins s st H x y v u Q I rx ry h
 obtain ⟨th,mu,d,e,so,r1,r2,t⟩:=h
 cases d with
 | int i =>
  cases e with
  | int j=>exact V2 pins s st H x y v u Q I rx ry ⟨i,j,r1,r2,t.ret so _ rfl⟩
  | _=>exact t.no.elim
 | _=>exact t.no.elim
noncomputable instance (i j:Int):Decidable (CMul i j):=by unfold CMul;infer_instance
noncomputable instance (i j:Int):Decidable (Lw i j):=by unfold Lw;infer_instance
noncomputable instance (i j:Int):Decidable (Qt i j):=by unfold Qt;infer_instance
theorem PC {x y:Str}(hx:PyData.strOk x=true)(hy:PyData.strOk y=true):PyData.strOk (x++y)=true:=by
 unfold PyData.strOk at *
 show (Array.all (x.cps++y.cps) _)=true
 rw [← Array.all_toList] at *
 rw [Array.toList_append,List.all_append,hx,hy]
 rfl
theorem len_app (x y:Str):(x++y).length=x.length+y.length:=by
 show (x.cps++y.cps).size=_
 rw [Array.size_append]
 rfl
noncomputable def F5 (d e:D)(mu:Sto):Rs D:=match d,e with
 | .int i,.int j=>if 0<j then some (.int (i % j),mu) else none
 | _,_=>none
theorem E7:OpV X (binaryOp .Mod) F5:=by
 intro pins s st H x y v u Q I rx ry h
 obtain ⟨th,mu,d,e,so,r1,r2,t⟩:=h
 cases d with
 | int i =>
  cases e with
  | int j =>
   unfold F5 at t;dsimp only at t
   by_cases c:0<j
   ·rw [if_pos c] at t;exact VN pins s st H x y v u Q I rx ry ⟨i,j,r1,r2,c,t.ret so _ rfl⟩
   ·rw [if_neg c] at t;exact t.no.elim
  | _=>exact t.no.elim
 | _=>exact t.no.elim
noncomputable def JO (d e:D)(mu:Sto):Rs D:=match d,e with
 | .int i,.int j=>if Lw i j then some (.int (i / j),mu) else none
 | _,_=>none
theorem Kb:OpV X (binaryOp .FloorDiv) JO:=by
 intro pins s st H x y v u Q I rx ry h
 obtain ⟨th,mu,d,e,so,r1,r2,t⟩:=h
 cases d with
 | int i =>
  cases e with
  | int j =>
   unfold JO at t;dsimp only at t
   by_cases c:Lw i j
   ·rw [if_pos c] at t;exact U9 pins s st H x y v u Q I rx ry ⟨i,j,r1,r2,c,t.ret so _ rfl⟩
   ·rw [if_neg c] at t;exact t.no.elim
  | _=>exact t.no.elim
 | _=>exact t.no.elim
noncomputable def QM (d e:D)(mu:Sto):Rs D:=match d,e with
 | .int i,.int j=>if Qt i j then some (.int (i ^ j.toNat),mu) else none
 | _,_=>none
theorem Vp:OpV X (binaryOp .Pow) QM:=by
 intro pins s st H x y v u Q I rx ry h
 obtain ⟨th,mu,d,e,so,r1,r2,t⟩:=h
 cases d with
 | int i =>
  cases e with
  | int j =>
   unfold QM at t;dsimp only at t
   by_cases c:Qt i j
   ·rw [if_pos c] at t;exact VV pins s st H x y v u Q I rx ry ⟨i,j,r1,r2,c,t.ret so _ rfl⟩
   ·rw [if_neg c] at t;exact t.no.elim
  | _=>exact t.no.elim
 | _=>exact t.no.elim
noncomputable instance (z:Str) (n:Int):Decidable (MulOk z n):=by unfold MulOk;infer_instance
noncomputable def Fp (d e:D)(mu:Sto):Rs D:=match d,e with
 | .int i,.int j=>if CMul i j then some (.int (i*j),mu) else none
 | .str z,.int n=>if MulOk z n∧(Txt.mul z n).length≤sizeLine∧PyData.strOk (Txt.mul z n)=true then some (.str (Txt.mul z n),mu) else none
 | _,_=>none
theorem EB:OpV X (binaryOp .Mult) Fp:=by
 intro pins s st H x y v u Q I rx ry h
 obtain ⟨th,mu,d,e,so,r1,r2,t⟩:=h
 cases d with
 | int i =>
  cases e with
  | int j =>
   unfold Fp at t;dsimp only at t
   by_cases c:CMul i j
   ·rw [if_pos c] at t;exact WE pins s st H x y v u Q I rx ry ⟨i,j,r1,r2,c,t.ret so _ rfl⟩
   ·rw [if_neg c] at t;exact t.no.elim
  | _=>exact t.no.elim
 | str z =>
  cases e with
  | int j =>
   unfold Fp at t;dsimp only at t
   by_cases c:MulOk z j∧(Txt.mul z j).length≤sizeLine∧PyData.strOk (Txt.mul z j)=true
   ·rw [if_pos c] at t;exact NN pins s st H x y v u Q I rx ry ⟨z,j,r1.1,r2,c.1,t.ret so _ ⟨rfl,c.2⟩⟩
   ·rw [if_neg c] at t;exact t.no.elim
  | _=>exact t.no.elim
 | _=>exact t.no.elim
theorem Rj {a b:Addr}{ys:List V}{pins:List (Addr×Obj)}{st:L2.St}{s:Shared}{Q:VK}(I:L2.Inv X pins st H s)(ha:SqT X.K H a [])(hb:SqT X.K H b ys)(q:Q (.ref b) H):wpAny (model X.prog X.w) X.A (binaryOp .Add (.ref a) (.ref b)) (EP X pins st Q) X.xe s:=by
 obtain ⟨its,r1,p1,_⟩:=I.tuple ha
 obtain ⟨its2,r2,p2,_⟩:=I.tuple hb
 have e:its=[]:=by cases r1;rfl
 subst e
 obtain ⟨⟨cls,dd,data,sl⟩,ho,hc,n,hd⟩:=id p1
 obtain ⟨⟨cls2,dd2,data2,sl2⟩,ho2,hc2,n2,hd2⟩:=id p2
 simp only at hc hd hc2 hd2
 subst hc hd hc2 hd2
 exact concat_meets ⟨_,ho,rfl⟩ ⟨_,ho2,rfl⟩ noFill_tuple_add seq_tuple_add PySem.F.slot_tuple_add PySem.F.entry_tuple_add (PySem.F.args_tuple_add_2 _ _)
   (tuple_addW0 a b _ its2.toArray n n2 dd dd2 sl sl2 (by simp)) ⟨ho,ho2,⟨.ref b,H,I,rfl,q⟩⟩
theorem Ue {a b:Addr}{xs ys:List V}{pins:List (Addr×Obj)}{st:L2.St}{s:Shared}{Q:VK}(I:L2.Inv X pins st H s)(ha:SqL X.K H a xs)(hb:SqL X.K H b ys)(hz:xs.length+ys.length≤sizeLine)(q:∀ p,H p=none->Q (.ref p) (upd H p (.lst (xs++ys)))):wpAny (model X.prog X.w) X.A (binaryOp .Add (.ref a) (.ref b)) (EP X pins st Q) X.xe s:=by
 obtain ⟨its,r1,⟨o1,n1,p1,c1,d1,e1⟩,_⟩:=I.list ha
 obtain ⟨its2,r2,⟨o2,n2,p2,c2,d2,e2⟩,_⟩:=I.list hb
 obtain ⟨cls,dd,data,sl⟩:=o1
 obtain ⟨cls2,dd2,data2,sl2⟩:=o2
 simp only at c1 d1 e1 c2 d2 e2
 subst c1 d1 e1 c2 d2 e2
 refine concat_meets ⟨_,p1,rfl⟩ ⟨_,p2,rfl⟩ noFill_list_add seq_list_add PySem.F.slot_list_add PySem.F.entry_list_add (PySem.F.args_list_add_2 _ _)
   (list_addW a b _ its2.toArray n1 n2 _ _ sl sl2 (by rw [Av,Av,← r1.length,← r2.length];exact hz)) ⟨p1,p2,?_⟩
 refine ⟨.ref s.heap.objs.size,_,I.laid (t':=s.toks) (o:=.lst (xs++ys)) (λb ob q=>Ad _ q) (Ag _) ?_,rfl,q _ (I.hok.fresh (Ag _))⟩
 exact ⟨by rw [As];exact hz,its++its2,0,r1.append r2,by simpa using Ai _ rfl⟩
noncomputable def DV (mu:Sto):D->Option (List D)
 | .lst ds=>some ds
 | .ref k=>match mu[k]? with
  | some (.lst ds)=>some ds
  | _=>none
 | _=>none
theorem Eo (so:StoOk K th mu H){d:D}{ds:List D}{v:V}(h:DV mu d=some ds)(r:Rep K th H d v):∃ a vs,v=.ref a∧SqL K.K H a vs∧RepL K th H ds vs∧ds.length≤sizeLine:=by
 cases d with
 | lst es=>cases h;unfold Rep at r;obtain ⟨a,vs,rfl,h1,h2,h3⟩:=r;exact ⟨a,vs,rfl,h1.sq,h2,h3⟩
 | ref k =>
  unfold DV at h
  dsimp only at h
  cases e:mu[k]? with
  | none=>rw [e] at h;cases h
  | some o =>
   cases o with
   | dct _ _=>rw [e] at h;cases h
   | lst es =>
    rw [e] at h
    cases h
    unfold Rep at r
    obtain ⟨a,rfl,ha⟩:=r
    obtain ⟨vs,h1,h2,h3⟩:=so.at' k a _ ha e
    exact ⟨a,vs,rfl,.inl (.inl h1),h2,h3⟩
 | _=>cases h
noncomputable def CT (d e:D)(mu:Sto):Rs D:=match d,e with
 | .int i,.int j=>some (.int (i+j),mu)
 | .str x,.str y=>if x.length+y.length≤sizeLine then some (.str (x++y),mu) else none
 | .tup xs,.tup ys=>if xs.length+ys.length≤sizeLine then some (.tup (xs++ys),mu) else none
 | d,e=>match DV mu d,DV mu e with
  | some xs,some ys=>if xs.length+ys.length≤sizeLine then some (.lst (xs++ys),mu) else none
  | _,_=>none
theorem CI:OpV X (binaryOp .Add) CT:=by
 intro pins s st H x y v u Q I rx ry h
 obtain ⟨th,mu,d,e,so,r1,r2,t⟩:=h
 have lists:∀ (t:Tr X.z th H (match DV mu d,DV mu e with
  | some xs,some ys=>if xs.length+ys.length≤sizeLine then some (D.lst (xs++ys),mu) else none
  | _,_=>none) (KV' X.z Q)),wpAny (model X.prog X.w) X.A (binaryOp .Add v u) (EP X pins st Q) X.xe s:=λt=>by
  cases e1:DV mu d with
  | none=>rw [e1] at t;exact t.no.elim
  | some xs =>
   cases e2:DV mu e with
   | none=>rw [e1,e2] at t;exact t.no.elim
   | some ys =>
    rw [e1,e2] at t
    dsimp only at t
    by_cases c:xs.length+ys.length≤sizeLine
    ·rw [if_pos c] at t
     obtain ⟨a,vs,rfl,h1,h2,h3⟩:=Eo so e1 r1
     obtain ⟨b,us,rfl,k1,k2,k3⟩:=Eo so e2 r2
     cases rx
     cases ry
     refine Ue I h1 k1 (by rw [h2.len,k2.len];exact c) λp hp=>t.retX (.new hp _) (so.new hp _) _ (Rep.newLst so hp (h2.app k2) (by rw [As];exact c))
    ·rw [if_neg c] at t;exact t.no.elim
 cases d with
 | int i =>
  cases e with
  | int j=>exact WZ pins s st H x y v u Q I rx ry ⟨i,j,r1,r2,t.ret so _ rfl⟩
  | _=>exact lists t
 | str i =>
  cases e with
  | str j =>
   unfold CT at t;dsimp only at t
   by_cases c:i.length+j.length≤sizeLine
   ·rw [if_pos c] at t
    exact Nr pins s st H x y v u Q I rx ry ⟨i,j,r1.1,r2.1,c,t.ret so _ ⟨rfl,by rw [len_app];exact c,PC r1.2.2 r2.2.2⟩⟩
   ·rw [if_neg c] at t;exact t.no.elim
  | _=>exact lists t
 | tup xs =>
  cases e with
  | tup ys =>
   unfold CT at t;dsimp only at t
   by_cases c:xs.length+ys.length≤sizeLine
   ·rw [if_pos c] at t
    unfold Rep at r1 r2
    obtain ⟨a,vs,rfl,h1,h2,h3⟩:=r1
    obtain ⟨b,us,rfl,k1,k2,k3⟩:=r2
    cases rx
    cases ry
    cases xs with
    | nil =>
     cases h2.inv0
     exact Rj I h1 k1 (t.ret so _ (by unfold Rep;exact ⟨b,us,rfl,k1,k2,k3⟩))
    | cons x0 xs0 =>
     obtain ⟨v0,vr,rfl,_,_⟩:=h2.inv
     refine T4 pins s st H (.ref a) (.ref b) _ _ Q I rfl rfl ⟨a,b,v0::vr,us,rfl,rfl,h1,k1,by simp,by rw [h2.len,k2.len];exact c,λhu=>?_,λ_ p hp=>t.retX (.new hp _) (so.new hp _) _ (Rep.newTup so hp (h2.app k2) (by rw [As];exact c))⟩
     subst hu
     have:ys=[]:=List.length_eq_zero_iff.mp (by rw [← k2.len];rfl)
     subst this
     rw [List.append_nil] at t
     exact t.ret so _ (by unfold Rep;exact ⟨a,_,rfl,h1,h2,h3⟩)
   ·rw [if_neg c] at t;exact t.no.elim
  | _=>exact lists t
 | _=>exact lists t
noncomputable def RC (f:Int->Int->Bool)(g:Str->Str->Bool)(d e:D)(mu:Sto):Rs D:=match d,e with
 | .int i,.int j=>some (.bl (f i j),mu)
 | .str i,.str j=>some (.bl (g i j),mu)
 | _,_=>none
noncomputable def leD:=RC (λi j=>decide (i≤j)) λi j=>!decide (j.cps.toList<i.cps.toList)
noncomputable def gtD:=RC (λi j=>decide (j<i)) λi j=>decide (j.cps.toList<i.cps.toList)
noncomputable def geD:=RC (λi j=>decide (j≤i)) λi j=>!decide (i.cps.toList<j.cps.toList)
theorem Ll {op:CmpOp}{f:Int->Int->Bool}{g:Str->Str->Bool}(h1:OpR X (compareOp op) (rI0 λi j=>.bl (f i j)))
  (h2:∀ (i j:Str) (t t':Tok) (s:Shared) (Q:Value->Shared->Prop),Q (.bool (g i j)) s->wpAny (model X.prog X.w) X.A (compareOp op (.str i t) (.str j t')) Q X.xe s):OpV X (compareOp op) (RC f g):=by
 intro pins s st H x y v u Q I rx ry h
 obtain ⟨th,mu,d,e,so,r1,r2,t⟩:=h
 cases d with
 | int i =>
  cases e with
  | int j=>exact h1 pins s st H x y v u Q I rx ry ⟨i,j,r1,r2,t.ret so _ rfl⟩
  | _=>exact t.no.elim
 | str i =>
  cases e with
  | str j =>
   obtain ⟨rfl,_⟩:=(show _∧_ from r1)
   obtain ⟨rfl,_⟩:=(show _∧_ from r2)
   obtain ⟨t1,rfl⟩:=rx
   obtain ⟨t2,rfl⟩:=ry
   exact h2 i j t1 t2 s _ ⟨.bl _,H,I,rfl,t.ret so _ rfl⟩
  | _=>exact t.no.elim
 | _=>exact t.no.elim
theorem Ra:OpV X (compareOp .LtE) leD:=Ll YF λi j t t' s Q h=>PySem.P.le_str h
theorem V0:OpV X (compareOp .Gt) gtD:=Ll YR λi j t t' s Q h=>PySem.P.gt_str h
theorem WT:OpV X (compareOp .GtE) geD:=Ll Y0 λi j t t' s Q h=>PySem.P.ge_str h
noncomputable def isB:D->D->Option Bool
 | .non,.non=>some true
 | .bl a,.bl b=>some (a==b)
 | .non,.bl _=>none
 | .ref _,.non=>some false
 | .tup _,.non=>some false
 | .lst _,.non=>some false
 | .str _,.non=>some false
 | .int _,.non=>some false
 | .bl _,.non=>some false
 | .dct _ _,.non=>some false
 | .set _,.non=>some false
 | _,_=>none
noncomputable def isD (d e:D)(mu:Sto):Rs D:=(isB d e).map λb=>(.bl b,mu)
noncomputable def Mc (d e:D)(mu:Sto):Rs D:=(isB d e).map λb=>(.bl (!b),mu)
theorem Oj:OpV X (compareOp .IsNot) Mc:=by
 intro pins s st H x y v u Q I rx ry h
 obtain ⟨th,mu,d,e,so,r1,r2,t⟩:=h
 cases e with
 | non =>
  have go:∀ b,isB d .non=some b->(b=decide (x=.non))->wpAny (model X.prog X.w) X.A (compareOp .IsNot v u) (EP X pins st Q) X.xe s:=λb eb ex=>by
   unfold Mc at t
   rw [eb] at t
   have q:Q (.bl (!b)) H:=t.ret so _ rfl
   exact TJ pins s st H x y v u Q I rx ry ⟨r2,by rw [← ex];exact q⟩
  cases d with
  | non=>exact go _ rfl (by rw [show x=_ from r1];rfl)
  | bl b=>exact go _ rfl (by rw [show x=_ from r1];rfl)
  | int b=>exact go _ rfl (by rw [show x=_ from r1];rfl)
  | str b=>exact go _ rfl (by rw [r1.1];rfl)
  | tup b=>exact go _ rfl (by unfold Rep at r1;obtain ⟨a,vs,rfl,_⟩:=r1;rfl)
  | lst b=>exact go _ rfl (by unfold Rep at r1;obtain ⟨a,vs,rfl,_⟩:=r1;rfl)
  | dct _ _=>exact go _ rfl (by unfold Rep at r1;obtain ⟨a,xs,rfl,_⟩:=r1;rfl)
  | set _=>exact go _ rfl (by unfold Rep at r1;obtain ⟨a,us,vs,rfl,_⟩:=r1;rfl)
  | ref b=>exact go _ rfl (by unfold Rep at r1;obtain ⟨a,rfl,_⟩:=r1;rfl)
 | bl b =>
  cases d with
  | bl a=>exact Mw pins s st H x y v u Q I rx ry ⟨a,b,r1,r2,t.ret so _ rfl⟩
  | _=>exact t.no.elim
 | _=>cases d<;>exact t.no.elim
noncomputable def Lx (g g':D->D->Sto->Rs D)(a b c:Ex):Ex:=λro mu=>bM (a ro mu) λx m1=>bM (b ro m1) λy m2=>bM (g x y m2) λz m3=>match asB z with
 | none=>none
 | some k=>if k=true then bM (c ro m3) λw' m4=>g' y w' m4 else some (.bl false,m3)
theorem Ql {g g':D->D->Sto->Rs D}{a b c:Ex}{st:L2.St}{Q:VK}(h:rdE K (Lx g g' a b c) st H Q):Se (r2 K g) (r2 K g') (rdE K a) (rdE K b) (rdE K c) st H Q:=by
 obtain ⟨th,mu,ro,so,en,t⟩:=h
 refine ⟨th,mu,ro,so,en,t.bind.mono λx th1 mu1 H1 e1 s1 t1 v rv=>?_⟩
 refine ⟨th1,mu1,ro,s1,en.ext e1 so.out,t1.bind.mono λy th2 mu2 H2 e2 s2 t2 u ru=>?_⟩
 refine ⟨th2,mu2,x,y,s2,rv.ext e2 s1.out,ru,t2.bind.mono λz th3 mu3 H3 e3 s3 t3 w rw'=>?_⟩
 cases e:asB z with
 | none=>rw [e] at t3;exact t3.no.elim
 | some k =>
  rw [e] at t3
  refine ⟨k,L5 e rw',?_⟩
  cases k with
  | false=>exact t3.ret s3 _ rfl
  | true =>
   exact ⟨th3,mu3,ro,s3,(en.ext e1 so.out).ext (e2.trans e3) s1.out,Tr.mono (Tr.bind t3) λw' th4 mu4 H4 e4 s4 t4 z' rz=>⟨th4,mu4,y,w',s4,(ru.ext e3 s2.out).ext e4 s3.out,rz,t4⟩⟩
theorem RW {a b c:Expr}{op op':CmpOp}{g g':D->D->Sto->Rs D}{ma mb mc:Ex}{pos:Pos}(ho:OpV X (compareOp op) g)(ho':OpV X (compareOp op') g')(ha:SV X a ma)(hb:SV X b mb)(hc:SV X c mc)
  (hm:lastMarks [op,op'] [b,c]=false:=by with_unfolding_all rfl):SV X (.Compare a [op,op'] [b,c] pos) (Lx g g' ma mb mc):=⟨PE.weak (RU ho ho' ha.r hb.r hc.r hm) λ_ _ _ h=>Ql h⟩
noncomputable def ixD (d e:D)(mu:Sto):Rs D:=match e with
 | .int i=>match d with
  | .tup ds=>(atI ds i).map λx=>(x,mu)
  | .str z=>(atI z.cps.toList i).map λc=>(.str ⟨#[c]⟩,mu)
  | d=>match DV mu d with
   | some ds=>(atI ds i).map λx=>(x,mu)
   | none=>none
 | _=>none
theorem OH {ds:List D}{vs:List V}{i:Int}{d:D}(r:RepL K th H ds vs)(h:atI ds i=some d):∃ v,atI vs i=some v∧Rep K th H d v:=by
 unfold atI at h ⊢
 rw [r.len]
 cases e:ixN ds.length i with
 | none=>rw [e] at h;cases h
 | some j =>
  rw [e] at h
  obtain ⟨v,e1,e2⟩:=r.get (show ds[j]? = some d from h)
  exact ⟨v,e1,e2⟩
theorem Uz {α:Type}{xs:List α}{i:Int}{v:α}(h:atI xs i=some v):v∈xs:=by
 obtain ⟨j,_,e,_⟩:=Jp h
 exact Am e
theorem Z1:IxR X (r2 X.z ixD):=by
 intro value slice pins s st H x y v u Q I rx ry h hsub
 obtain ⟨th,mu,d,e,so,r1,r2,t⟩:=h
 cases e with
 | int i =>
  have lists:∀ (t:Tr X.z th H (match DV mu d with
   | some ds=>(atI ds i).map λx=>(x,mu)
   | none=>none) (KV' X.z Q)),Xv X.K x y H Q:=λt=>by
   cases e1:DV mu d with
   | none=>rw [e1] at t;exact t.no.elim
   | some ds =>
    rw [e1] at t
    dsimp only at t
    cases e2:atI ds i with
    | none=>rw [e2] at t;exact t.no.elim
    | some x' =>
     rw [e2] at t
     obtain ⟨a,vs,rfl,h1,h2,h3⟩:=Eo so e1 r1
     obtain ⟨v',w1,w2⟩:=OH h2 e2
     exact ⟨a,vs,i,v',rfl,r2,h1,w1,t.ret so _ w2⟩
  refine WS value slice pins s st H x y v u Q I rx ry ?_ hsub
  cases d with
  | tup ds =>
   unfold ixD at t;dsimp only at t
   cases e2:atI ds i with
   | none=>rw [e2] at t;exact t.no.elim
   | some x' =>
    rw [e2] at t
    unfold Rep at r1
    obtain ⟨a,vs,rfl,h1,h2,h3⟩:=r1
    obtain ⟨v',w1,w2⟩:=OH h2 e2
    exact .inr (.inl ⟨a,vs,i,v',rfl,r2,h1,w1,t.ret so _ w2⟩)
  | str z =>
   unfold ixD at t;dsimp only at t
   cases e2:atI z.cps.toList i with
   | none=>rw [e2] at t;exact t.no.elim
   | some c =>
    rw [e2] at t
    exact .inr (.inr ⟨z,i,c,r1.1,r2,r1.2.1,e2,t.ret so _ (ML r1.2.2 (Uz e2))⟩)
  | _=>exact .inl (lists t)
 | _=>exact t.no.elim
noncomputable abbrev Px:=Ro->Sto->Rs (Option Int)
noncomputable def pNo:Px:=λ_ mu=>some (none,mu)
noncomputable def DD (a:Ex):Px:=λro mu=>bM (a ro mu) λd m1=>match d with
 | .int i=>some (some i,m1)
 | _=>none
noncomputable def rdP (K:Zc)(m:Px):TO:=λst H Q=>∃ th mu ro,StoOk K th mu H∧EnvOk K th H ro st∧Tr K th H (m ro mu) λo _ _ H'=>Q o H'
structure SVP (X:Cx) (e:Option Expr) (m:Px):Prop where
 r:PO X e (rdP X.z m)
theorem PO.weak {e:Option Expr}{t t':TO}(h:PO X e t)(f:∀ st H Q,t' st H Q->t st H Q):PO X e t':=λpins s st H Q I q=>h pins s st H Q I (f st H Q q)
theorem Dl:SVP X none pNo:=⟨PO.weak Ve λst H Q h=>by
 obtain ⟨th,mu,ro,so,en,t⟩:=h
 exact t.ret so⟩
theorem Dn {e:Expr}{m:Ex}(h:SV X e m):SVP X (some e) (DD m):=⟨PO.weak (Vm h.r) λst H Q h=>by
 obtain ⟨th,mu,ro,so,en,t⟩:=h
 refine ⟨th,mu,ro,so,en,t.bind.mono λd th1 mu1 H1 e1 s1 t1 v rv=>?_⟩
 cases d with
 | int i=>exact ⟨i,rv,t1.ret s1⟩
 | _=>exact t1.no.elim⟩
noncomputable def cutD {α:Type}(xs:List α)(lo hi:Option Int):List α:=(xs.drop (HT.sIx xs.length 0 lo)).take (HT.sIx xs.length xs.length hi-HT.sIx xs.length 0 lo)
theorem OV {ds:List D}{vs:List V}(r:RepL K th H ds vs)(lo hi:Option Int):RepL K th H (cutD ds lo hi) (Mz vs lo hi):=by
 unfold cutD Mz
 rw [r.len]
 exact (r.drop _).take _
theorem Mp {α:Type}(xs:List α)(lo hi:Option Int):(cutD xs lo hi).length≤xs.length:=by
 unfold cutD
 rw [AG,BA]
 omega
noncomputable def slD (d:D)(lo hi:Option Int)(mu:Sto):Rs D:=match d with
 | .tup ds=>some (.tup (cutD ds lo hi),mu)
 | .str z=>if PyData.strOk (Txt.slice z lo hi)=true then some (.str (Txt.slice z lo hi),mu) else none
 | d=>match DV mu d with
  | some ds=>some (.lst (cutD ds lo hi),mu)
  | none=>none
noncomputable def r3 (K:Zc)(op:D->Option Int->Option Int->Sto->Rs D):V->Option Int->Option Int->Hp->VK->Prop:=λx lo hi H Q=>∃ th mu d,StoOk K th mu H∧Rep K th H d x∧Tr K th H (op d lo hi mu) (KV' K Q)
noncomputable def eSl (a:Ex)(p q:Px):Ex:=λro mu=>bM (a ro mu) λd m1=>bM (p ro m1) λlo m2=>bM (q ro m2) λhi m3=>slD d lo hi m3
theorem Hi {prog:Program}{w:World}{A:Around}{E:Value->Shared->Prop}{s:Shared}{t sl:Addr}{items:Array Value}{vl vu:Value}{lo hi:Option Int}{Q:Value->Shared->Prop}(ht:IsTup s.heap t items)(hs:s.heap.IsSliceOf sl vl vu .none)(pl:IsPart vl lo)(pu:IsPart vu hi)
  (h1:HT.sIx items.size 0 lo=0) (h2:HT.sIx items.size items.size hi=items.size) (h:Q (.ref t) s):wpAny (model prog w) A (getItem (.ref t) (.ref sl)) Q E s:=by
 obtain ⟨os,hos,hcs,hds⟩:=id hs
 have hTs:s.TypeIs (.ref sl) "slice":=⟨os,hos,hcs⟩
 unfold getItem
 try with_reducible refine AI ?_
 first|refine Aa (Ab ?_)|skip
 refine Aa (wpAny_sequenceKey ht.typeIs (by decide) ?_)
 refine Aa (AQ (name:=Str.ofString "__getitem__") ht.typeIs AY
  (AL AY ht.typeIs entry_tuple_getitem ?_ (args_tuple_getitem _ _)))
 show wpAny _ _ (Builtin.Tuple.tupleItemsOf (.ref t) >>= _) _ _ s
 refine Aa (tupleItemsOf_ ht ?_)
 refine Aa (BC hTs ?_)
 rw [if_pos (by decide)]
 refine Aa (HT.FW hs pl pu ?_)
 rw [h1,h2]
 dsimp only
 rw [if_pos (by simp)]
 unfold Builtin.Tuple.tupleIsExact
 refine Aa (Aa (BC ht.typeIs (Ab ?_)))
 rw [if_pos (by decide)]
 exact Aa (Bo (Ab ⟨_,rfl,Ab h⟩))
theorem Aao:SlR X (r3 X.z slD):=by
 intro pins s st H x v vl vu lo hi sl Q I rx hs pl pu h
 obtain ⟨th,mu,d,so,r,t⟩:=h
 have lists:∀ (t:Tr X.z th H (match DV mu d with
   | some ds=>some (D.lst (cutD ds lo hi),mu)
   | none=>none) (KV' X.z Q)),Yl X.K x lo hi H Q:=λt=>by
   cases e1:DV mu d with
   | none=>rw [e1] at t;exact t.no.elim
   | some ds =>
    rw [e1] at t
    obtain ⟨a,vs,rfl,h1,h2,h3⟩:=Eo so e1 r
    exact ⟨a,vs,rfl,h1,λp hp=>t.retX (.new hp _) (so.new hp _) _ (Rep.newLst so hp (OV h2 lo hi) (AJ (Mp ds lo hi) h3))⟩
 cases d with
 | tup ds =>
  unfold Rep at r
  obtain ⟨a,vs,rfl,h1,h2,h3⟩:=r
  by_cases c:HT.sIx vs.length 0 lo=0∧HT.sIx vs.length vs.length hi=vs.length
  ·cases rx
   obtain ⟨its,rv,ht,hz⟩:=I.tuple h1
   have hlen:its.toArray.size=vs.length:=by rw [Av];exact rv.length.symm
   refine ⟨"tuple",_,AY.lookup,ht.typeIs,?_⟩
   refine Hi ht hs pl pu (by rw [hlen];exact c.1) (by rw [hlen];exact c.2) ⟨.ref a,H,I,rfl,t.ret so _ ?_⟩
   have e:cutD ds lo hi=ds:=by
    unfold cutD
    rw [← h2.len,c.1,c.2,h2.len]
    simp
   rw [e]
   unfold Rep
   exact ⟨a,vs,rfl,h1,h2,h3⟩
  ·exact Ws pins s st H _ v vl vu lo hi sl Q I rx hs pl pu ⟨a,vs,rfl,h1,c,λp hp=>t.retX (.new hp _) (so.new hp _) _ (Rep.newTup so hp (OV h2 lo hi) (AJ (Mp ds lo hi) h3))⟩
 | str z =>
  unfold slD at t;dsimp only at t
  by_cases c:PyData.strOk (Txt.slice z lo hi)=true
  ·rw [if_pos c] at t
   exact VR pins s st H _ v vl vu lo hi sl Q I rx hs pl pu ⟨z,r.1,r.2.1,t.ret so _ ⟨rfl,AJ (Txt.slice_le z _ _) r.2.1,c⟩⟩
  ·rw [if_neg c] at t;exact t.no.elim
 | _=>exact Ua pins s st H _ v vl vu lo hi sl Q I rx hs pl pu (lists t)
theorem Dp {e:Expr}{lo hi:Option Expr}{m:Ex}{p q:Px}{p2 pos:Pos}(he:SV X e m)(hl:SVP X lo p)(hh:SVP X hi q):SV X (.Subscript e (.Slice lo hi none p2) pos) (eSl m p q):=⟨PE.weak (RA Aao he.r hl.r hh.r) λst H Q h=>by
 obtain ⟨th,mu,ro,so,en,t⟩:=h
 refine ⟨th,mu,ro,so,en,t.bind.mono λd th1 mu1 H1 e1 s1 t1 v rv=>?_⟩
 refine ⟨th1,mu1,ro,s1,en.ext e1 so.out,t1.bind.mono λlo' th2 mu2 H2 e2 s2 t2=>?_⟩
 refine ⟨th2,mu2,ro,s2,(en.ext e1 so.out).ext e2 s1.out,t2.bind.mono λhi' th3 mu3 H3 e3 s3 t3=>?_⟩
 exact ⟨th3,mu3,d,s3,(rv.ext e2 s1.out).ext e3 s2.out,t3⟩⟩
noncomputable def tyN:D->String
 | .non=>"NoneType"|.bl _=>"bool"|.int _=>"int"|.str _=>"str"|.tup _=>"tuple"|.lst _=>"list"|.dct _ _=>"dict"|.set _=>"set"|.ref _=>"list"
noncomputable def isi (T:String)(d:D):Bool:=tyN d==T||(T=="int"&&tyN d=="bool")
theorem Zm {K:PySem.W.Frag}(T:String)(hT:T="str"∨T="tuple"∨T="int"∨T="bool"∨T="list"∨T="dict")(d:D):PySem.W.kitOne K (.type (tyN d)) (.type T)=some (isi T d):=by
 rcases hT with rfl|rfl|rfl|rfl|rfl|rfl<;>cases d<;>rfl
noncomputable def ED (mu:Sto):D->Bool
 | .ref k=>match mu[k]? with
  | some (.lst _)=>true
  | _=>false
 | _=>true
theorem Lb {mu:Sto}{k:Nat}(h:ED mu (.ref k)=true):∃ ds,mu[k]? = some (.lst ds):=by
 unfold ED at h
 dsimp only at h
 split at h
 ·rename_i ds e;exact ⟨ds,e⟩
 ·cases h
noncomputable def Hg (T:String)(a:Ex):Ex:=λro mu=>bM (a ro mu) λd m1=>if ED m1 d=true then some (.bl (isi T d),m1) else none
theorem UR {pins:List (Addr×Obj)}{st:L2.St}{s:Shared}{T:String}{d:D}{x:V}{u:Value}{Q:Value->Shared->Prop}{E:Value->Shared->Prop}(hT:T="str"∨T="tuple"∨T="int"∨T="bool"∨T="list"∨T="dict")(I:L2.Inv X pins st H s)(so:StoOk X.z th mu H)(hr:ED mu d=true)(r:Rep X.z th H d x)(rx:RelV x u)
  (h:∀ tk,Q (.bool (isi T d)) { s with toks:=tk }):wpAny (model X.prog X.w) X.A (call (.builtin "isinstance") [u,.type T]) Q E s:=by
 have e:=Zm (K:=X.K) T hT d
 have ls:∀ {a:Addr} {vs:List V},Rd H a (.lst vs)->Ij X.K H (.ref a) (.type "list"):=λ{a vs} h=>by
  rcases h with h|⟨o,h⟩
  ·exact .lst h
  ·exact .frz h
 cases d with
 | non=>cases (show x=_ from r);exact FU I rx .non e h
 | bl b=>cases (show x=_ from r);exact FU I rx (.bl b) e h
 | int b=>cases (show x=_ from r);exact FU I rx (.int b) e h
 | str b=>cases r.1;exact FU I rx (.str b) e h
 | tup ds =>
  unfold Rep at r
  obtain ⟨a,vs,rfl,h1,_⟩:=r
  cases rx
  obtain ⟨its,_,⟨o,g1,g2,_⟩,_⟩:=I.tuple h1
  exact Bh PySem.W.kitx_tuple I.kIn ⟨o,g1,g2⟩ e (λz=>nomatch z) h
 | lst ds =>
  unfold Rep at r
  obtain ⟨a,vs,rfl,h1,_⟩:=r
  cases rx
  obtain ⟨its,_,⟨o,n,g1,g2,_⟩,_⟩:=I.list h1.sq
  exact Bh PySem.W.kitx_list I.kIn ⟨o,g1,g2⟩ e (λz=>nomatch z) h
 | dct _ _ =>
  unfold Rep at r
  obtain ⟨a,xs,rfl,_,h1,_⟩:=r
  obtain ⟨⟨_,o,es,ep,g1,g2,_⟩,_⟩:=(show ObjOk X.prog X.w H s.heap a (E1 a xs) from I.hok a _ h1)
  cases rx
  exact Bh PySem.W.kitx_dict I.kIn ⟨o,g1,g2.1⟩ e (λz=>nomatch z) h
 | set _ =>
  unfold Rep at r
  obtain ⟨a,us,vs,rfl,_,h1,_⟩:=r
  obtain ⟨⟨o,es,ep,t,g1,g2,_⟩,_⟩:=(show ObjOk X.prog X.w H s.heap a (L9 X.w a us) from I.hok a _ h1)
  cases rx
  exact Bh PySem.W.kitx_set I.kIn ⟨o,g1,g2.1⟩ e (λz=>nomatch z) h
 | ref k =>
  unfold Rep at r
  obtain ⟨a,rfl,h1⟩:=r
  obtain ⟨ds,em⟩:=Lb hr
  obtain ⟨vs,h2,_⟩:=so.at' k a _ h1 em
  exact FU I rx (.lst h2) e h
theorem F8 (T:String){x:Str}{a:Expr}{m:Ex}{p p2 pos:Pos}(ha:SV X a m)(h1:X.mg "isinstance"=none)(h2:X.mg x=none)(hb:bootBuiltins x=some (.type T))(hT:T="str"∨T="tuple"∨T="int"∨T="bool"∨T="list"∨T="dict":=by decide)
  (hn:x≠"__name__":=by decide) (hd:(x==("__debug__":Str))=false:=by decide) (hg:Gl X "isinstance":=by rfl) (hg2:Gl X x:=by rfl)
  (hs1:starEach [a,.Name x p2] X.env=(false,eval a X.env)::starEach [.Name x p2] X.env:=by rfl) (hs2:(backTo pos (starEach [.Name x p2] X.env)).any (·.1)=false:=by rfl) (hs3:starEach [.Name x p2] X.env=(false,eval (.Name x p2) X.env)::starEach [] X.env:=by rfl) :
  SV X (.Call (.Name "isinstance" p) [a,.Name x p2] [] pos) (Hg T m):=⟨by
 have hc:FJ X (.builtin "isinstance") (λxs H Q=>∃ th mu d y,StoOk X.z th mu H∧ED mu d=true∧xs=[y,.ty T]∧Rep X.z th H d y∧Q (.bl (isi T d)) H):=by
  intro pins s st H xs us Q I r h
  obtain ⟨th,mu,d,y,so,hr,rfl,rd,q⟩:=h
  obtain ⟨u,w',rfl,rx,ry⟩:=vals2 r
  cases (show w'=Value.type T from ry)
  exact UR hT I so hr rd rx λtk=>⟨.bl _,H,I.tok _,rfl,q⟩
 have pe:=Kc hc hg h1 boot_isinstance (Jt ha.r (Jt (Vb (v:=.ty T) hg2 h2 hb rfl hn hd) Nx hs3) hs1) (by decide) (by decide) hs1 hs2 (pos:=pos) (p:=p)
 refine PE.weak pe λst H Q h=>?_
 obtain ⟨th,mu,ro,so,en,t⟩:=h
 refine ⟨th,mu,ro,so,en,t.bind.mono λd th1 mu1 H1 e1 s1 t1 v rv=>?_⟩
 by_cases c:ED mu1 d=true
 ·rw [if_pos c] at t1
  exact ⟨th1,mu1,d,v,s1,c,rfl,rv,t1.ret s1 _ rfl⟩
 ·rw [if_neg c] at t1;exact t1.no.elim⟩
noncomputable def Zt (mu:Sto):D->Option Nat
 | .str x=>some x.length
 | .tup ds=>some ds.length
 | .lst ds=>some ds.length
 | .ref k=>(DV mu (.ref k)).map (·.length)
 | _=>none
noncomputable def XM:Fn:=λds mu=>match ds with
 | [d]=>(Zt mu d).map λn=>(.int n,mu)
 | _=>none
theorem DA {xs:List V}{d:D}(r:RepL K th H [d] xs):∃ x,xs=[x]∧Rep K th H d x:=by
 obtain ⟨v,r',rfl,h1,h2⟩:=r.inv
 cases h2.inv0
 exact ⟨v,rfl,h1⟩
theorem Gb {xs:List V}{d e:D}(r:RepL K th H [d,e] xs):∃ x y,xs=[x,y]∧Rep K th H d x∧Rep K th H e y:=by
 obtain ⟨v,r',rfl,h1,h2⟩:=r.inv
 obtain ⟨u,rfl,h3⟩:=DA h2
 exact ⟨v,u,rfl,h1,h3⟩
theorem PU:CallV X (.builtin "len") XM:=by
 intro pins s st H xs us Q I r h
 obtain ⟨th,mu,ds,so,rd,t⟩:=h
 match ds,t,rd with
 | [d],t,rd =>
  obtain ⟨x,rfl,rx⟩:=DA rd
  cases d with
  | str z=>exact LI pins s st H _ us Q I r ⟨z,by rw [rx.1],rx.2.1,t.ret so _ rfl⟩
  | tup es =>
   unfold Rep at rx
   obtain ⟨a,vs,rfl,h1,h2,_⟩:=rx
   exact GD pins s st H _ us Q I r ⟨a,vs,rfl,.inr h1,by rw [h2.len];exact t.ret so _ rfl⟩
  | lst es =>
   unfold Rep at rx
   obtain ⟨a,vs,rfl,h1,h2,_⟩:=rx
   exact GD pins s st H _ us Q I r ⟨a,vs,rfl,.inl h1.sq,by rw [h2.len];exact t.ret so _ rfl⟩
  | ref k =>
   unfold XM Zt at t
   dsimp only at t
   cases e1:DV mu (.ref k) with
   | none=>rw [e1] at t;exact t.no.elim
   | some es =>
    rw [e1] at t
    obtain ⟨a,vs,rfl,h1,h2,h3⟩:=Eo so e1 rx
    exact GD pins s st H _ us Q I r ⟨a,vs,rfl,.inl h1,by rw [h2.len];exact t.ret so _ rfl⟩
  | _=>exact t.no.elim
 | [],t,_=>exact t.no.elim
 | _::_::_,t,_=>exact t.no.elim
noncomputable def IQ:List D->Option (List Bool)
 | []=>some []
 | .bl b::ds=>(IQ ds).map (b::·)
 | _=>none
theorem Kv:∀ {ds:List D} {bs:List Bool} {vs:List V},IQ ds=some bs->RepL K th H ds vs->vs=bs.map V.bl
 | [],_,_,h,r=>by cases h;exact r.inv0
 | d::ds,bs,_,h,r=>by
  obtain ⟨v,r',rfl,h1,h2⟩:=r.inv
  cases d with
  | bl b =>
   unfold IQ at h
   cases e:IQ ds with
   | none=>rw [e] at h;cases h
   | some cs =>
    rw [e] at h
    cases h
    rw [Kv e h2,show v=V.bl b from h1]
    rfl
  | _=>cases h
noncomputable def quF (f:List Bool->Bool):Fn:=λds mu=>match ds with
 | [d]=>match DV mu d with
  | some es=>(IQ es).map λbs=>(.bl (f bs),mu)
  | none=>none
 | _=>none
noncomputable def Jd:=quF λbs=>bs.all id
theorem Rk {id:String}{f:List Bool->Bool}(hq:FJ X (.builtin id) (λxs H Q=>∃ (p:Addr) (bs:List Bool),xs=[.ref p]∧SqL X.K H p (bs.map V.bl)∧Q (.bl (f bs)) H)):CallV X (.builtin id) (quF f):=by
 intro pins s st H xs us Q I r h
 obtain ⟨th,mu,ds,so,rd,t⟩:=h
 match ds,t,rd with
 | [d],t,rd =>
  obtain ⟨x,rfl,rx⟩:=DA rd
  unfold quF at t
  dsimp only at t
  cases e1:DV mu d with
  | none=>rw [e1] at t;exact t.no.elim
  | some es =>
   rw [e1] at t
   dsimp only at t
   cases e2:IQ es with
   | none=>rw [e2] at t;exact t.no.elim
   | some bs =>
    rw [e2] at t
    obtain ⟨a,vs,rfl,h1,h2,h3⟩:=Eo so e1 rx
    cases Kv e2 h2
    exact hq pins s st H _ us Q I r ⟨a,bs,rfl,h1,t.ret so _ rfl⟩
 | [],t,_=>exact t.no.elim
 | _::_::_,t,_=>exact t.no.elim
theorem F1 (hc:X.calm=true):CallV X (.builtin "all") Jd:=Rk (Q3 hc)
noncomputable def ints2 (ds:List D):Option (Int×Int):=match ds with
 | [.int i,.int j]=>some (i,j)
 | _=>none
theorem KU {ds:List D}{p:Int×Int}(h:ints2 ds=some p):ds=[.int p.1,.int p.2]:=by
 unfold ints2 at h
 split at h
 ·cases h;rfl
 ·cases h
noncomputable def Ma:Fn:=λds mu=>(ints2 ds).map λp=>(.int (if p.2<p.1 then p.2 else p.1),mu)
noncomputable def So:Fn:=λds mu=>(ints2 ds).map λp=>(.int (if p.2 > p.1 then p.2 else p.1),mu)
noncomputable def intOf (ds:List D):Option Int:=match ds with
 | [.int i]=>some i
 | [.bl b]=>some (if b then 1 else 0)
 | _=>none
theorem P7 {ds:List D}{i:Int}(h:intOf ds=some i):ds=[.int i]∨∃ b,ds=[.bl b]∧i=if b then 1 else 0:=by
 unfold intOf at h
 split at h
 ·cases h;exact .inl rfl
 ·cases h;exact .inr ⟨_,rfl,rfl⟩
 ·cases h
noncomputable def Iv:Fn:=λds mu=>(intOf ds).map λi=>(.int i,mu)
noncomputable def Tf (ds:List D):Option Int:=match ds with
 | [.int i]=>some i
 | _=>none
theorem S2 {ds:List D}{i:Int}(h:Tf ds=some i):ds=[.int i]:=by
 unfold Tf at h
 split at h
 ·cases h;rfl
 ·cases h
theorem K5 (hc:X.calm=true):CallV X (.builtin "min") Ma:=by
 intro pins s st H xs us Q I r h
 obtain ⟨th,mu,ds,so,rd,t⟩:=h
 unfold Ma at t
 cases e:ints2 ds with
 | none=>rw [e] at t;exact t.no.elim
 | some p =>
  rw [e] at t
  rw [KU e] at rd
  obtain ⟨x,y,rfl,rx,ry⟩:=Gb rd
  exact PZ hc pins s st H _ us Q I r ⟨p.1,p.2,by rw [show x=_ from rx,show y=_ from ry],t.ret so _ rfl⟩
theorem PY (hc:X.calm=true):CallV X (.builtin "max") So:=by
 intro pins s st H xs us Q I r h
 obtain ⟨th,mu,ds,so,rd,t⟩:=h
 unfold So at t
 cases e:ints2 ds with
 | none=>rw [e] at t;exact t.no.elim
 | some p =>
  rw [e] at t
  rw [KU e] at rd
  obtain ⟨x,y,rfl,rx,ry⟩:=Gb rd
  exact Qg hc pins s st H _ us Q I r ⟨p.1,p.2,by rw [show x=_ from rx,show y=_ from ry],t.ret so _ rfl⟩
theorem K0:CallV X (.type "int") Iv:=by
 intro pins s st H xs us Q I r h
 obtain ⟨th,mu,ds,so,rd,t⟩:=h
 unfold Iv at t
 cases e:intOf ds with
 | none=>rw [e] at t;exact t.no.elim
 | some i =>
  rw [e] at t
  rcases P7 e with h|⟨b,h,hb⟩
  ·rw [h] at rd
   obtain ⟨x,rfl,rx⟩:=DA rd
   exact KC pins s st H _ us Q I r (.inl ⟨i,by rw [show x=_ from rx],t.ret so _ rfl⟩)
  ·rw [h] at rd
   obtain ⟨x,rfl,rx⟩:=DA rd
   exact KC pins s st H _ us Q I r (.inr ⟨b,by rw [show x=_ from rx],by rw [← hb];exact t.ret so _ rfl⟩)
noncomputable def G0 (mu:Sto):D->Option (List D)
 | .tup ds=>some ds
 | d=>DV mu d
theorem Fi (so:StoOk K th mu H){d:D}{ds:List D}{v:V}(h:G0 mu d=some ds)(r:Rep K th H d v):∃ a vs,v=.ref a∧(SqL K.K H a vs∨SqT K.K H a vs∧d=.tup ds)∧RepL K th H ds vs∧ds.length≤sizeLine:=by
 cases d with
 | tup es=>cases h;unfold Rep at r;obtain ⟨a,vs,rfl,h1,h2,h3⟩:=r;exact ⟨a,vs,rfl,.inr ⟨h1,rfl⟩,h2,h3⟩
 | lst es=>obtain ⟨a,vs,rfl,h1,h2,h3⟩:=Eo so (d:=.lst es) h r;exact ⟨a,vs,rfl,.inl h1,h2,h3⟩
 | ref k=>obtain ⟨a,vs,rfl,h1,h2,h3⟩:=Eo so (d:=.ref k) h r;exact ⟨a,vs,rfl,.inl h1,h2,h3⟩
 | _=>cases h
noncomputable def Ho (ds:List D):Option D:=match ds with
 | [d]=>some d
 | _=>none
theorem GN {ds:List D}{d:D}(h:Ho ds=some d):ds=[d]:=by
 unfold Ho at h
 split at h
 ·cases h;rfl
 ·cases h
noncomputable def sq1 (ds:List D)(mu:Sto):Option (List D):=match Ho ds with
 | some d=>G0 mu d
 | none=>none
noncomputable def FR:Fn:=λds mu=>(sq1 ds mu).map λes=>(.tup es,mu)
noncomputable def Tq:Fn:=λds mu=>(sq1 ds mu).map λes=>(.lst es,mu)
theorem HG {ds es:List D}(h:sq1 ds mu=some es):∃ d,ds=[d]∧G0 mu d=some es:=by
 unfold sq1 at h
 cases e:Ho ds with
 | none=>rw [e] at h;cases h
 | some d=>rw [e] at h;exact ⟨d,GN e,h⟩
theorem EK:CallV X (.type "tuple") FR:=by
 intro pins s st H xs us Q I r h
 obtain ⟨th,mu,ds,so,rd,t⟩:=h
 unfold FR at t
 cases e:sq1 ds mu with
 | none=>rw [e] at t;exact t.no.elim
 | some es =>
  rw [e] at t
  obtain ⟨d,rfl,e2⟩:=HG e
  obtain ⟨x,rfl,rx⟩:=DA rd
  obtain ⟨a,vs,rfl,h1,h2,h3⟩:=Fi so e2 rx
  refine Ke pins s st H _ us Q I r ⟨a,vs,rfl,?_⟩
  rcases h1 with h1|⟨h1,rfl⟩
  ·exact .inl ⟨h1,λp hp=>t.retX (.new hp _) (so.new hp _) _ (Rep.newTup so hp h2 h3)⟩
  ·exact .inr ⟨h1,t.ret so _ rx⟩
theorem Po:CallV X (.type "list") Tq:=by
 intro pins s st H xs us Q I r h
 obtain ⟨th,mu,ds,so,rd,t⟩:=h
 unfold Tq at t
 cases e:sq1 ds mu with
 | none=>rw [e] at t;exact t.no.elim
 | some es =>
  rw [e] at t
  obtain ⟨d,rfl,e2⟩:=HG e
  obtain ⟨x,rfl,rx⟩:=DA rd
  obtain ⟨a,vs,rfl,h1,h2,h3⟩:=Fi so e2 rx
  refine LB pins s st H _ us Q I r ⟨a,vs,rfl,?_,λp hp=>t.retX (.new hp _) (so.new hp _) _ (Rep.newLst so hp h2 h3)⟩
  rcases h1 with h1|⟨h1,_⟩
  ·exact .inl h1
  ·exact .inr h1
noncomputable def LH (o:Ex)(a:Exs):Ex:=λro mu=>bM (o ro mu) λd m1=>match d with
 | .ref k=>if ED m1 (.ref k)=true then bM (a ro m1) λxs m2=>match Ho xs,m2[k]? with
  | some y,some (.lst ds)=>if ds.length<sizeLine then some (.non,m2.set k (.lst (ds++[y]))) else none
  | _,_=>none
  else none
 | _=>none
theorem Iz {o e:Expr}{m:Ex}{n:Exs}{apos cpos:Pos}(ho:SV X o m)(ha:SVA X [e] n)(hbase:attributeBase o "append" X.env (eval o X.env)=eval o X.env:=by rfl)
  (hfew:((backTo cpos (starEach [e] X.env)).all (λx=>!x.1)&&(backToKw cpos (keywordEach [] X.env)).all (λx=>x.1.isSome)
   && decide ([e].length+([]:List Keyword).length+(if ([]:List Keyword).isEmpty then 0 else 1)<30))=true:=by rfl)
  (hline:(apos.endLine==cpos.line)=true:=by rfl) (hs:starEach [e] X.env=(false,eval e X.env)::starEach [] X.env:=by rfl) (hplain:(backTo cpos (starEach [] X.env)).any (·.1)=false:=by rfl) :
  SV X (.Call (.Attribute o "append" apos) [e] [] cpos) (LH m n):=
 ⟨PE.weak (Yq PySem.F.plainAttrs_list PySem.F.slot_list_append PySem.F.type_list_append Qd ho.r ha.1 hbase hfew hline hs hplain) λst H Q h=>by
  obtain ⟨th,mu,ro,so,en,t⟩:=h
  refine ⟨th,mu,ro,so,en,t.bind.mono λd th1 mu1 H1 e1 s1 t1 v rv=>?_⟩
  cases d with
  | ref k =>
   unfold Rep at rv
   obtain ⟨a,rfl,ha'⟩:=rv
   by_cases cr:ED mu1 (.ref k)=true
   case neg=>dsimp only at t1;rw [if_neg cr] at t1;exact t1.no.elim
   dsimp only at t1
   rw [if_pos cr] at t1
   obtain ⟨ds0,em⟩:=Lb cr
   obtain ⟨vs,h2,_⟩:=s1.at' k a _ ha' em
   refine ⟨.inl ⟨rfl,vs,SqL.of h2⟩,th1,mu1,ro,s1,en.ext e1 so.out,?_⟩
   refine Tr.mono (Tr.bind t1) λxs th2 mu2 H2 e2 s2 t2 ws rws=>?_
   cases q1:Ho xs with
   | none=>rw [q1] at t2;exact t2.no.elim
   | some y =>
    cases q2:mu2[k]? with
    | none=>rw [q1,q2] at t2;exact t2.no.elim
    | some o =>
     cases o with
     | dct _ _=>rw [q1,q2] at t2;exact t2.no.elim
     | lst ds =>
      rw [q1,q2] at t2
      dsimp only at t2
      by_cases c:ds.length<sizeLine
      ·rw [if_pos c] at t2
       rw [GN q1] at rws
       obtain ⟨y',rfl,ry⟩:=DA rws
       have hk:=e2.at ha'
       obtain ⟨us,g1,g2,g3⟩:=s2.at' k a _ hk q2
       exact ⟨a,us,y',rfl,rfl,g1,by rw [g2.len];exact c,t2.retX (.mut (Am hk) _) (s2.put hk (g2.app (.cons ry .nil)) (by rw [As];exact c)) _ rfl⟩
      ·rw [if_neg c] at t2;exact t2.no.elim
  | _=>exact t1.no.elim⟩
end
end PV
namespace L2
open PySem PySem.Spec PyProof.Rows
theorem Wh {x y z:V}{us:List Value}(r:Vals [x,y,z] us):∃ u v w',us=[u,v,w']∧RelV x u∧RelV y v∧RelV z w':=by
 cases r with
 | cons r1 r2 =>
  obtain ⟨v,w',rfl,a,b⟩:=vals2 r2
  exact ⟨_,v,w',rfl,r1,a,b⟩
noncomputable def YB (i j k:Nat)(ta:TA):TS:=λD σ H=>ta σ H λvs H1=>∃ u v w,vs=[u,v,w]∧D.nx (((σ.set i (some u)).set j (some v)).set k (some w)) H1
theorem U5 {X:Cx}{pos:Pos}{i j k:Nat}{x y z:Str}{a b c:Expr}{ta:TA}{px py pz pt:Pos}{kt k2 pt2}(hc:X.calm=true)(hN:X.N.Nodup)(hi:X.N[i]? = some x)(hj:X.N[j]? = some y)(hk:X.N[k]? = some z)(hij:i≠j)(hik:i≠k)(hjk:j≠k)
  (hx:X.env.scope.names.lookup x=some .local) (hy:X.env.scope.names.lookup y=some .local) (hz:X.env.scope.names.lookup z=some .local) (ha:PA X [a,b,c] ta)
  (hw:swappedStores [.Tuple [.Name x px,.Name y py,.Name z pz] kt pt] (.Tuple [a,b,c] k2 pt2) X.env=pure (some [x,y,z]))
  (hs:swapsWithSole [.Tuple [.Name x px,.Name y py,.Name z pz] kt pt] (.Tuple [a,b,c] k2 pt2) pos.line X.env=pure false:=by rfl) :
  PS X (.Assign [.Tuple [.Name x px,.Name y py,.Name z pz] kt pt] (.Tuple [a,b,c] k2 pt2) pos) (YB i j k ta):=by
 intro pins s σ H D I h
 rw [exec_Assign_arm]
 refine Aa (wpAny_standAt ?_)
 rw [hs]
 refine Aa (Ab ?_)
 rw [if_neg (by decide)]
 refine Aa (Tuple_ (thn (ha _ pins s σ H _ I h) λus s1 ⟨vs,H1,I1,r1,q1⟩=>?_))
 obtain ⟨v1,v2,v3,e1,q1⟩:=q1
 subst e1
 obtain ⟨u1,u2,u3,rfl,ra,rb,rc⟩:=Wh r1
 refine AR ?_ (by show 3≤sizeLine;decide)
 have I2:Inv X pins σ H1 { s1 with heap:=s1.heap.push { cls:=.type "tuple",data:=.seq [u1,u2,u3].toArray } }:=I1.kept (t':=s1.toks) λb o e=>Ad _ e
 rw [hw]
 refine Aa (Ab ?_)
 show wpAny (model X.prog X.w) X.A (do rule "assign.swapped-stores";let items←unpackItems (.ref s1.heap.objs.size) 3 none;assignInOrder [λv=>bindName X.env z v,λv=>bindName X.env y v,λv=>bindName X.env x v] items.reverse;pure Flow.next) _ _ _
 refine Aa (Bo (Aa (unpackItems_tuple (items:=#[u1,u2,u3]) (I.ok.hd hc) (IsTup.new s1.heap _) λh' hx'=>?_)))
 have I3:=I2.kept (h':=h') (t':=s1.toks) λb o e=>hx' b o (Au (Al e)) e
 show wpAny _ _ (assignInOrder [λv=>bindName X.env z v,λv=>bindName X.env y v,λv=>bindName X.env x v] [u3,u2,u1] >>= λ_=>pure Flow.next) _ _ _
 refine Aa (assignInOrder_cons (wpAny_bindName (Fx I3 hN hk (.inl hz) rc (λs2 I4=>?_) (.inr hz))))
 refine assignInOrder_cons (wpAny_bindName (Fx I4 hN hj (.inl hy) rb (λs3 I5=>?_) (.inr hy)))
 refine assignInOrder_cons (wpAny_bindName (Fx I5 hN hi (.inl hx) ra (λs4 I6=>assignInOrder_nil (Ab ?_)) (.inr hx)))
 rw [List.set_comm _ _ (Ne.symm hjk),List.set_comm _ _ (Ne.symm hik),List.set_comm (i:=j) (j:=i) _ _ (Ne.symm hij)] at I6
 exact ⟨_,H1,I6,q1⟩
end L2
namespace PV
open PySem L2 PySem.Spec PyProof.Rows
section
variable {X:Cx} {K:Zc} {th:List Addr} {mu:Sto} {H:Hp}
noncomputable def OY (i j k:Nat)(a:Exs):Sx:=λro mu=>bM (a ro mu) λds m1=>match ds with
 | [x,y,z]=>some ((.nx,((ro.set i (some x)).set j (some y)).set k (some z)),m1)
 | _=>none
theorem Sj (i j k:Nat){x y z:Str}{a b c:Expr}{m:Exs}{px py pz pt:Pos}{kt k2 pt2}{pos:Pos}(hc:X.calm=true)(hN:X.N.Nodup)(ha:SVA X [a,b,c] m)
  (hw:swappedStores [.Tuple [.Name x px,.Name y py,.Name z pz] kt pt] (.Tuple [a,b,c] k2 pt2) X.env=pure (some [x,y,z]))
  (hi:X.N[i]? = some x:=by rfl) (hj:X.N[j]? = some y:=by rfl) (hk:X.N[k]? = some z:=by rfl) (hij:i≠j:=by decide) (hik:i≠k:=by decide) (hjk:j≠k:=by decide)
  (hx:X.env.scope.names.lookup x=some .local:=by rfl) (hy:X.env.scope.names.lookup y=some .local:=by rfl) (hz:X.env.scope.names.lookup z=some .local:=by rfl)
  (hs:swapsWithSole [.Tuple [.Name x px,.Name y py,.Name z pz] kt pt] (.Tuple [a,b,c] k2 pt2) pos.line X.env=pure false:=by rfl) :
  SVS X (.Assign [.Tuple [.Name x px,.Name y py,.Name z pz] kt pt] (.Tuple [a,b,c] k2 pt2) pos) (OY i j k m):=⟨PS.weak (U5 hc hN hi hj hk hij hik hjk hx hy hz ha.1 hw hs) λE st H h=>by
 obtain ⟨th,mu,ro,so,en,t⟩:=h
 refine ⟨th,mu,ro,so,en,t.bind.mono λds th1 mu1 H1 e1 s1 t1 vs rvs=>?_⟩
 match ds,t1,rvs with
 | [d,d',d''],t1,rvs =>
  obtain ⟨v,r,rfl,r1,r2⟩:=rvs.inv
  obtain ⟨u,w,rfl,r3,r4⟩:=Gb r2
  exact ⟨v,u,w,rfl,t1.ret s1 _ ((((en.ext e1 so.out).set i r1).set j r3).set k r4)⟩
 | [],t1,_=>exact t1.no.elim
 | [_],t1,_=>exact t1.no.elim
 | [_,_],t1,_=>exact t1.no.elim
 | _::_::_::_::_,t1,_=>exact t1.no.elim⟩
noncomputable def Tw (d e v:D)(mu:Sto):Rs Unit:=match d,e with
 | .ref k,.int i=>match mu[k]? with
  | some (.lst ds)=>match ixN ds.length i with
   | some j=>some ((),mu.set k (.lst (ds.set j v)))
   | none=>none
  | _=>none
 | _,_=>none
noncomputable def Aax (K:Zc):QW:=λo i v H Q=>∃ th mu d e w,StoOk K th mu H∧Rep K th H d o∧Rep K th H e i∧Rep K th H w v∧Tr K th H (Tw d e w mu) λ_ _ _ H'=>Q H'
theorem Za:UN X (Aax X.z):=by
 intro pins s st H o i v ov iv u Q I ro ri rv h
 obtain ⟨th,mu,d,e,w,so,r1,r2,r3,t⟩:=h
 cases d with
 | ref k =>
  cases e with
  | int j =>
   unfold Tw at t
   dsimp only at t
   cases q:mu[k]? with
   | none=>rw [q] at t;exact t.no.elim
   | some o' =>
    cases o' with
    | dct _ _=>rw [q] at t;exact t.no.elim
    | lst ds =>
     rw [q] at t
     dsimp only at t
     cases q2:ixN ds.length j with
     | none=>rw [q2] at t;exact t.no.elim
     | some n =>
      rw [q2] at t
      unfold Rep at r1
      obtain ⟨a,rfl,ha⟩:=r1
      obtain ⟨vs,h1,h2,h3⟩:=so.at' k a _ ha q
      exact set_list pins s st H _ i v ov iv u Q I ro ri rv ⟨a,vs,j,n,rfl,r2,h1,by rw [h2.len];exact q2,t.retX (.mut (Am ha) _) (so.put ha (h2.setAt n r3) (by rw [List.length_set];exact h3))⟩
  | _=>exact t.no.elim
 | _=>exact t.no.elim
noncomputable def EI (lo:Int)(n:Nat):List D:=(List.range n).map λk:Nat=>.int (lo+k)
theorem QK {lo:Int}{n:Nat}(hn:n≤sizeLine):Qk K (Itr lo n) th mu H (EI lo n) none where
 sz:=by unfold EI;simpa using hn
 go:=λth' mu' H' e s go i d ed=>by
  unfold EI at ed
  rw [Ap] at ed
  cases q:(List.range n)[i]? with
  | none=>rw [q] at ed;cases ed
  | some k =>
   rw [q] at ed
   have hd:D.int (lo+k)=d:=by simpa using ed
   obtain ⟨hi,hk⟩:=Ae.mp q
   rw [Br] at hi
   rw [List.getElem_range] at hk
   subst hk hd
   refine ⟨hi,λv H2 y=>?_⟩
   obtain ⟨rfl,rfl⟩:=y
   exact ⟨.refl _ _,s,by unfold Rep;rfl⟩
 stop:=λth' mu' H' e s go=>by show n≤(EI lo n).length;unfold EI;simp
noncomputable def iRg (a:Exs):Ix:=λro mu=>bM (a ro mu) λds m1=>match Tf ds with
 | some j=>if -(2 ^ 62)≤j∧j≤(sizeLine:Int) then some ((EI 0 j.toNat,none),m1) else none
 | none=>none
theorem Fg {tg a:Expr}{m:Exs}{p pos:Pos}(hm:X.mg "range"=none)(ha:SVA X [a] m)(hg:Gl X "range":=by rfl)(hs:starEach [a] X.env=[(false,eval a X.env)]:=by rfl):SVI X tg (.Call (.Name "range" p) [a] [] pos) (iRg m):=
 ⟨PI.weak (Qp hg hm ha.1 hs) λst H R h=>by
  obtain ⟨th,mu,ro,so,en,t⟩:=h
  refine ⟨th,mu,ro,so,en,t.bind.mono λds th1 mu1 H1 e1 s1 t1 vs rvs=>?_⟩
  cases q:Tf ds with
  | none=>rw [q] at t1;exact t1.no.elim
  | some j =>
   rw [q] at t1
   dsimp only at t1
   by_cases c:-(2 ^ 62)≤j∧j≤(sizeLine:Int)
   ·rw [if_pos c] at t1
    rw [S2 q] at rvs
    obtain ⟨x,rfl,rx⟩:=DA rvs
    refine ⟨j,by rw [show x=_ from rx],c.1,?_,t1.ret s1 _ (QK (by omega))⟩
    have:=c.2
    rw [AS] at this
    omega
   ·rw [if_neg c] at t1;exact t1.no.elim⟩
noncomputable def R9 (ds:List D):Option (List D×List D):=match ds with
 | [.lst xs,.lst ys]=>some (xs,ys)
 | _=>none
theorem SG {ds:List D}{p:List D×List D}(h:R9 ds=some p):ds=[.lst p.1,.lst p.2]:=by
 unfold R9 at h
 split at h
 ·cases h;rfl
 ·cases h
noncomputable def DE (xs ys:List D):List D:=(xs.zip ys).map λp=>.tup [p.1,p.2]
noncomputable def iZp (a:Exs):Ix:=λro mu=>bM (a ro mu) λds m1=>(R9 ds).map λp=>((DE p.1 p.2,none),m1)
theorem Vc {a b:Expr}{m:Exs}{p pos:Pos}{elts:List Expr}{k:Nat}{tp:Pos}(hm:X.mg "zip"=none)(ha:SVA X [a,b] m)(hg:Gl X "zip":=by rfl)(hs:starEach [a,b] X.env=[(false,eval a X.env),(false,eval b X.env)]:=by rfl)(hs2:starEach [b] X.env=[(false,eval b X.env)]:=by rfl) :
  SVI X (.Tuple elts k tp) (.Call (.Name "zip" p) [a,b] [] pos) (iZp m):=⟨PI.weak (Wx hg hm PyProof.Rows.boot_zip ha.1 hs hs2) λst H R h=>by
 obtain ⟨th,mu,ro,so,en,t⟩:=h
 refine ⟨th,mu,ro,so,en,t.bind.mono λds th1 mu1 H1 e1 s1 t1 vs rvs=>?_⟩
 cases q:R9 ds with
 | none=>rw [q] at t1;exact t1.no.elim
 | some pr =>
  rw [q] at t1
  rw [SG q] at rvs
  obtain ⟨xs,ys⟩:=pr
  obtain ⟨x,y,rfl,rx,ry⟩:=Gb rvs
  unfold Rep at rx ry
  obtain ⟨a1,us,rfl,h1,l1,z1⟩:=rx
  obtain ⟨a2,ws,rfl,h2,l2,z2⟩:=ry
  refine ⟨a1,a2,rfl,⟨us,h1.sq⟩,⟨ws,h2.sq⟩,t1.ret s1 _ ⟨?_,λth' mu' H' e s' go i d ed=>?_,λth' mu' H' e s' go=>?_⟩⟩
  ·show (DE xs ys).length≤sizeLine
   unfold DE
   rw [Ah,List.length_zip]
   exact AJ (Nat.min_le_left _ _) z1
  ·have g1:=(e.fz h1).sq
   have g2:=(e.fz h2).sq
   have ed':(DE xs ys)[i]? = some d:=ed
   unfold DE at ed'
   rw [Ap] at ed'
   cases q3:(xs.zip ys)[i]? with
   | none=>rw [q3] at ed';cases ed'
   | some pq =>
    rw [q3] at ed'
    have hd:D.tup [pq.1,pq.2]=d:=by simpa using ed'
    subst hd
    obtain ⟨hx,hy⟩:=BJ.mp q3
    obtain ⟨v1,ev1,rv1⟩:=(l1.ext e s1.out).get hx
    obtain ⟨v2,ev2,rv2⟩:=(l2.ext e s1.out).get hy
    refine ⟨⟨us,ws,v1,v2,g1,g2,ev1,ev2⟩,λv H2 y=>?_⟩
    obtain ⟨T,x',y',rfl,hT,rfl,f1,f2⟩:=y
    have ex:=f1 us g1
    have ey:=f2 ws g2
    rw [ev1] at ex
    rw [ev2] at ey
    cases ex
    cases ey
    exact ⟨.new hT _,s'.new hT _,Rep.newTup s' hT (.cons rv1 (.cons rv2 .nil)) (by show 2≤sizeLine;decide)⟩
  ·have g1:=(e.fz h1).sq
   have g2:=(e.fz h2).sq
   refine ⟨us,ws,g1,g2,?_⟩
   show us.length≤(DE xs ys).length∨ws.length≤(DE xs ys).length
   unfold DE
   rw [Ah,List.length_zip,l1.len,l2.len]
   dsimp only
   omega⟩
theorem Ug {a b:Str}(h:a.cps.toList=b.cps.toList):a=b:=by
 obtain ⟨x⟩:=a
 obtain ⟨y⟩:=b
 have:x=y:=Array.toList_inj.mp h
 rw [this]
noncomputable def strsOf:List D->Option (List Str)
 | []=>some []
 | .str b::ds=>(strsOf ds).map (b::·)
 | _=>none
theorem JW:∀ {ds:List D} {ss:List Str},strsOf ds=some ss->ds=ss.map D.str
 | [],_,h=>by cases h;rfl
 | d::ds,ss,h=>by
  cases d with
  | str b =>
   unfold strsOf at h
   cases e:strsOf ds with
   | none=>rw [e] at h;cases h
   | some cs=>rw [e] at h;cases h;rw [JW e];rfl
  | _=>cases h
theorem KI:∀ {ss:List Str} {vs:List V},RepL K th H (ss.map D.str) vs->vs=ss.map V.str∧∀ x∈ss,x.length≤sizeLine∧PyData.strOk x=true
 | [],_,r=>⟨r.inv0,λ_ h=>nomatch h⟩
 | s::ss,_,r=>by
  obtain ⟨v,r',rfl,h1,h2⟩:=RepL.inv (d:=.str s) (ds:=ss.map D.str) r
  obtain ⟨e,hs⟩:=KI h2
  rw [e,h1.1]
  refine ⟨rfl,λx hx=>?_⟩
  rcases An.mp hx with rfl|hx
  ·exact h1.2
  ·exact hs x hx
theorem KN:∀ {ss:List Str},(∀ x∈ss,x.length≤sizeLine∧PyData.strOk x=true)->RepL K th H (ss.map D.str) (ss.map V.str)
 | [],_=>.nil
 | s::ss,h=>.cons (d:=.str s) ⟨rfl,h s (.head _)⟩ (KN λx hx=>h x (.tail _ hx))
end
noncomputable def LtAt (A:Around)(s:Shared)(y x:Value)(b:Bool):Prop:=
 ∀ (prog:Program) (w:World) (E:Value->Shared->Prop) (Q:Value->Shared->Prop),Q (.bool b) s->wpAny (model prog w) A (richCompare .Lt y x) Q E s
noncomputable def Mj (A:Around)(s:Shared):List Value->List Value->Bool->Prop
 | [],[],b=>b=false
 | [],_::_,b=>b=true
 | _::_,[],b=>b=false
 | y::vs,x::ws,b=>∃ e,SeqAt.EqAt A s y x e∧if e=true then Mj A s vs ws b else LtAt A s y x b
section
open PySem.SeqAt
open PySem.AutoSeq1 (wpAny_loadPart')
open PySem.MeetsSeq PySem.MeetsSeq2 PySem.MeetsSeq3
theorem Lr (l b:Addr)(items items2:Array Value)(n n2:Nat)(dd dd2:Option Addr)(sl sl2:Array (Option Value))(r:Bool) :
  Meets (Builtin.«tuple.__lt__» ⟨[.ref l,.ref b],[]⟩)
   (λA R s=>s.heap.get? l=some { cls:=.type "tuple",dict:=dd,data:=.seq items n,slots:=sl }∧s.heap.get? b=some { cls:=.type "tuple",dict:=dd2,data:=.seq items2 n2,slots:=sl2 } ∧
    Mj A.in1 s items.toList items2.toList r∧R (.ok (.ret (.bool r))) s):=
 .of_wp λprog w A R s h=>by
  obtain ⟨hp,g,d,tk,os⟩:=s;obtain ⟨hl,hb,hx,h⟩:=h
  have f2:=AutoSeq1.sub_tuple_tuple
  wp_walk using wpAny_loadPart' hl,wpAny_loadPart' hb,wpAny_forIn_list _ (λrest b s'=>b.1=none∧s'=⟨hp,g,d,tk,os⟩∧∃ (vs ws:List Value),rest=vs.zip ws ∧
   Mj A.in1 ⟨hp,g,d,tk,os⟩ vs ws r∧vs.length+items2.size=ws.length+items.size) _
  case turn =>
   rintro ⟨y,x⟩ rest b s' ⟨hb',rfl,vs,ws,hz,hlx,hlen⟩
   cases vs with
   | nil=>rw [List.zip_nil_left] at hz;cases hz
   | cons a vs' =>
    cases ws with
    | nil=>rw [List.zip_nil_right] at hz;cases hz
    | cons c ws' =>
     rw [List.zip_cons_cons] at hz
     injection hz with hyx hrest
     injection hyx with hy hx
     subst hy hx
     simp only [List.length_cons] at hlen
     obtain ⟨e,he,hiff⟩:=hlx
     refine Aa (he prog w _ _ ?_)
     cases e with
     | true =>
      rw [if_pos rfl] at hiff
      wp_walk
      exact ⟨rfl,rfl,_,_,hrest,hiff,by omega⟩
     | false =>
      rw [if_neg AE] at hiff
      have hri:=hiff prog w
      wp_walk using hri
      exact ⟨_,rfl,by simpa using h⟩
  case fin =>
   rintro ⟨b1,b2⟩ s' ⟨hb',rfl,vs,ws,hz,hlx,hlen⟩
   simp only at hb'
   subst hb'
   have hv:r=decide (items.size<items2.size):=by
    cases vs with
    | nil =>
     cases ws with
     | nil =>
      simp only [List.length_nil] at hlen
      rw [show r=false from hlx]
      exact (A9 (by omega)).symm
     | cons c ws' =>
      simp only [List.length_nil,List.length_cons] at hlen
      rw [show r=true from hlx]
      exact (BM (by omega)).symm
    | cons a vs' =>
     cases ws with
     | nil =>
      simp only [List.length_nil,List.length_cons] at hlen
      rw [show r=false from hlx]
      exact (A9 (by omega)).symm
     | cons c ws' =>
      rw [List.zip_cons_cons] at hz
      cases hz
   rw [hv] at h
   wp_walk
   exact ⟨_,rfl,by simpa [Builtin.Tuple.tupleCompareSizes] using h⟩
  case h =>
   exact ⟨rfl,rfl,items.toList,items2.toList,rfl,hx,by simp;omega⟩
end
theorem LtAt.tuples {A:Around}{s:Shared}{l b:Addr}{items items2:Array Value}{r:Bool}(hl:IsTup s.heap l items)(hb:IsTup s.heap b items2)(hu:A.units<cLine)(hx:Mj A.in1 s items.toList items2.toList r):LtAt A s (.ref l) (.ref b) r:=λprog w E Q h=>by
 obtain ⟨⟨cls,dd,data,sl⟩,ho,hc,n,hd⟩:=id hl
 obtain ⟨⟨cls2,dd2,data2,sl2⟩,ho2,hc2,n2,hd2⟩:=id hb
 simp only at hc hd hc2 hd2
 subst hc hd hc2 hd2
 exact richCompare_meets_room (op:=.Lt) ⟨_,ho,rfl⟩ ⟨_,ho2,rfl⟩ PySem.F.slot_tuple_lt PySem.F.entry_tuple_lt (PySem.F.args_tuple_lt_2 _ _) (Lr l b items items2 n n2 dd dd2 sl sl2 r)
  ⟨ho,ho2,hx,show Value.bool r≠Value.notImplemented∧Q (.bool r) s from ⟨(λx=>nomatch x),h⟩⟩ hu
mutual
noncomputable def ltB:D->D->Option Bool
 | .int i,.int j=>some (decide (i<j))
 | .str i,.str j=>some (decide (i.cps.toList<j.cps.toList))
 | .tup xs,.tup ys=>Gw xs ys
 | _,_=>none
noncomputable def Gw:List D->List D->Option Bool
 | [],[]=>some false
 | [],_::_=>some true
 | _::_,[]=>some false
 | x::xs,y::ys=>if CU x&&CU y then (if PyData.eqv (toPy x) (toPy y) then Gw xs ys else ltB x y) else none
end
section
variable {X:Cx} {K:Zc} {th:List Addr} {mu:Sto} {H:Hp}
mutual
theorem Nt {pins:List (Addr×Obj)}{st:L2.St}{s:Shared}(I:L2.Inv X pins st H s):∀ (d e:D) (b:Bool) (v u:V) (vv uu:Value) (A:Around),ltB d e=some b->Rep X.z th H d v->Rep X.z th H e u->RelV v vv->RelV u uu->A.units+(toPy d).depth+1<cLine->LtAt A s vv uu b
 | .int i,e,b,v,u,vv,uu,A,h,r1,r2,q1,q2,hu=>by
  cases e with
  | int j =>
   unfold ltB at h
   cases h
   cases (show _=_ from r1)
   cases (show _=_ from r2)
   obtain ⟨t1,rfl⟩:=q1
   obtain ⟨t2,rfl⟩:=q2
   exact λprog w E Q hq=>(PyProof.Rows.lt_int hq:wpAny (model prog w) A (compareOp .Lt (.int i t1) (.int j t2)) Q E s)
  | _=>unfold ltB at h;cases h
 | .str i,e,b,v,u,vv,uu,A,h,r1,r2,q1,q2,hu=>by
  cases e with
  | str j =>
   unfold ltB at h
   cases h
   obtain ⟨rfl,_⟩:=(show _∧_ from r1)
   obtain ⟨rfl,_⟩:=(show _∧_ from r2)
   obtain ⟨t1,rfl⟩:=q1
   obtain ⟨t2,rfl⟩:=q2
   exact λprog w E Q hq=>(PyProof.Rows.lt_str hq:wpAny (model prog w) A (compareOp .Lt (.str i t1) (.str j t2)) Q E s)
  | _=>unfold ltB at h;cases h
 | .tup xs,e,b,v,u,vv,uu,A,h,r1,r2,q1,q2,hu=>by
  cases e with
  | tup ys =>
   unfold ltB at h
   unfold Rep at r1 r2
   obtain ⟨a,vs,rfl,h1,l1,_⟩:=r1
   obtain ⟨c,us,rfl,h2,l2,_⟩:=r2
   cases q1
   cases q2
   obtain ⟨its,rv,p1,_⟩:=I.tuple h1
   obtain ⟨its2,rv2,p2,_⟩:=I.tuple h2
   have hd:(toPy (.tup xs)).depth=PyData.depthAll (CD xs)+1:=by unfold toPy PyData.depth;rfl
   rw [hd] at hu
   refine LtAt.tuples p1 p2 (by omega) ?_
   have:=OU I xs ys b vs us its its2 A.in1 h l1 l2 rv rv2 (by show A.units+1+PyData.depthAll (CD xs)+1<cLine;omega)
   simpa using this
  | _=>unfold ltB at h;cases h
 | .non,e,b,_,_,_,_,_,h,_,_,_,_,_=>by cases e<;>(unfold ltB at h;cases h)
 | .bl _,e,b,_,_,_,_,_,h,_,_,_,_,_=>by cases e<;>(unfold ltB at h;cases h)
 | .lst _,e,b,_,_,_,_,_,h,_,_,_,_,_=>by cases e<;>(unfold ltB at h;cases h)
 | .dct _ _,e,b,_,_,_,_,_,h,_,_,_,_,_=>by cases e<;>(unfold ltB at h;cases h)
 | .set _,e,b,_,_,_,_,_,h,_,_,_,_,_=>by cases e<;>(unfold ltB at h;cases h)
 | .ref _,e,b,_,_,_,_,_,h,_,_,_,_,_=>by cases e<;>(unfold ltB at h;cases h)
theorem OU {pins:List (Addr×Obj)}{st:L2.St}{s:Shared}(I:L2.Inv X pins st H s):∀ (xs ys:List D) (b:Bool) (vs us:List V) (vvs uus:List Value) (A:Around),Gw xs ys=some b->RepL X.z th H xs vs->RepL X.z th H ys us->Vals vs vvs->Vals us uus->A.units+PyData.depthAll (CD xs)+1<cLine->Mj A s vvs uus b
 | [],[],b,_,_,_,_,A,h,r1,r2,q1,q2,hu=>by
  cases r1.inv0;cases r2.inv0;cases q1;cases q2
  unfold Gw at h
  cases h
  rfl
 | [],y::ys,b,_,_,_,_,A,h,r1,r2,q1,q2,hu=>by
  cases r1.inv0
  obtain ⟨v,r,rfl,_,_⟩:=r2.inv
  cases q1
  cases q2
  unfold Gw at h
  cases h
  rfl
 | x::xs,[],b,_,_,_,_,A,h,r1,r2,q1,q2,hu=>by
  cases r2.inv0
  obtain ⟨v,r,rfl,_,_⟩:=r1.inv
  cases q1
  cases q2
  unfold Gw at h
  cases h
  rfl
 | x::xs,y::ys,b,_,_,_,_,A,h,r1,r2,q1,q2,hu=>by
  obtain ⟨v,r,rfl,a1,a2⟩:=r1.inv
  obtain ⟨u,r',rfl,b1,b2⟩:=r2.inv
  cases q1 with
  | cons g1 g2 =>
   cases q2 with
   | cons k1 k2 =>
    unfold Gw at h
    have hd:PyData.depthAll (CD (x::xs))=max (toPy x).depth (PyData.depthAll (CD xs)):=by rw [CD,PyData.depthAll]
    rw [hd] at hu
    by_cases c:(CU x&&CU y)=true
    ·rw [if_pos c] at h
     rw [Ac] at c
     obtain ⟨as,w1,w2⟩:=EC I x v _ c.1 a1 g1
     obtain ⟨bs,w3,w4⟩:=EC I y u _ c.2 b1 k1
     refine ⟨_,SeqAt.eqAt_reads _ _ A s _ _ as bs w1 w3 w2 w4 (by omega),?_⟩
     cases e:PyData.eqv (toPy x) (toPy y) with
     | true=>rw [e] at h;rw [if_pos rfl] at h ⊢;exact OU I xs ys b _ _ _ _ A h a2 b2 g2 k2 (by omega)
     | false=>rw [e] at h;rw [if_neg AE] at h ⊢;exact Nt I x y b _ _ _ _ A h a1 b1 g1 k1 (by omega)
    ·rw [if_neg c] at h;cases h
end
noncomputable def ltG (d e:D)(mu:Sto):Rs D:=if (toPy d).depth≤60 then (ltB d e).map λb=>(.bl b,mu) else none
theorem QY (hu:X.A.units+64<cLine):OpV X (compareOp .Lt) ltG:=by
 intro pins s st H x y v u Q I rx ry h
 obtain ⟨th,mu,d,e,so,r1,r2,t⟩:=h
 unfold ltG at t
 by_cases c:(toPy d).depth≤60
 ·rw [if_pos c] at t
  cases e1:ltB d e with
  | none=>rw [e1] at t;exact t.no.elim
  | some b =>
   rw [e1] at t
   exact Nt I d e b x y v u X.A e1 r1 r2 rx ry (by omega) _ _ _ _ ⟨.bl b,H,I,rfl,t.ret so _ rfl⟩
 ·rw [if_neg c] at t;exact t.no.elim
end
section
variable {X:Cx} {K:Zc} {th:List Addr} {mu:Sto} {H:Hp}
theorem J8 {pins:List (Addr×Obj)}{st:L2.St}{s:Shared}(I:L2.Inv X pins st H s):sysModules<s.heap.objs.size:=by
 obtain ⟨o,_,_,ho,_⟩:=I.mod.glob
 exact AD (show sysModules<mainGlobals+1 by decide) (Al (I.bk _ _ ho))
theorem JN {P:Program}{w:World}{H:Hp}{h:Heap}{a:Addr}{xs:List (Int×V×V)}(x:WJ a xs h):ObjOk P w H h a (E1 a xs):=by
 refine ⟨x,?_,λh1 h2 ⟨z,o,es,ep,ho,r⟩ k=>⟨z,o,es,ep,k o ho,r⟩⟩
 obtain ⟨_,o,es,ep,ho,r⟩:=x
 exact ⟨o,ho⟩
noncomputable def Rr:Ex:=λ_ mu=>some (.dct [] [],mu)
noncomputable def Om:Ex:=λ_ mu=>some (.ref mu.length,mu++[.dct [] []])
theorem Oe {pins:List (Addr×Obj)}{st:L2.St}{s:Shared}(I:L2.Inv X pins st H s):WJ s.heap.objs.size [] (s.heap.push { cls:=.type "dict",data:=.dict #[] }):=
 ⟨beq_eq_false_iff_ne.mpr (Ne.symm (Au (J8 I))),_,#[],0,Ai _ rfl,⟨rfl,rfl,rfl⟩,rfl,.nil⟩
theorem TH {pos:Pos}:SV X (.Dict [] [] pos) Rr:=⟨λpins s st H Q I h=>by
 obtain ⟨th,mu,ro,so,en,t⟩:=h
 have hp:H s.heap.objs.size=none:=I.hok.fresh (Ag _)
 refine wpAny_Dict_empty ⟨.ref s.heap.objs.size,_,I.laid (a:=s.heap.objs.size) (o:=E1 s.heap.objs.size []) (t':=s.toks) (λ_ _ q=>Ad _ q) (Ag _) (JN (Oe I)),rfl,t.retX (.new hp _) (so.new hp _) _ ?_⟩
 unfold Rep
 exact ⟨_,[],rfl,so.notin hp,Dw,rfl,.nil,.nil,.nil⟩⟩
theorem UH {pos:Pos}:SV X (.Dict [] [] pos) Om:=⟨λpins s st H Q I h=>by
 obtain ⟨th,mu,ro,so,en,t⟩:=h
 have hp:H s.heap.objs.size=none:=I.hok.fresh (Ag _)
 refine wpAny_Dict_empty ⟨.ref s.heap.objs.size,_,I.laid (a:=s.heap.objs.size) (o:=E1 s.heap.objs.size []) (t':=s.toks) (λ_ _ q=>Ad _ q) (Ag _) (JN (Oe I)),rfl,t.retX (.newM hp _) (so.newD hp) _ ?_⟩
 unfold Rep
 exact ⟨_,rfl,by rw [← so.len];simp⟩⟩
theorem AaD (xs:Array Value):((List.range xs.size).filterMap λ(m:Nat)=>xs[(((xs.size:Int)-1)+(m:Int)*(-1)).toNat]?)=xs.toList.reverse:=by
 have gen:∀ n,n≤xs.size->((List.range n).filterMap λ(m:Nat)=>xs[(((xs.size:Int)-1)+(m:Int)*(-1)).toNat]?)=xs.toList.reverse.take n:=by
  intro n
  induction n with
  | zero=>intro _;simp
  | succ n ih =>
   intro hn
   have e:(((xs.size:Int)-1)+(n:Int)*(-1)).toNat=xs.size-1-n:=by omega
   rw [List.range_succ,List.filterMap_append,ih (by omega),List.take_add_one]
   congr 1
   rw [List.filterMap_cons,List.filterMap_nil,e,List.getElem?_reverse (by simp;omega)]
   simp [show xs.size-1-n<xs.size by omega]
 rw [gen xs.size (Ag _),List.take_of_length_le (by simp)]
theorem II {prog:Program}{w:World}{A:Around}{E:Value->Shared->Prop}{s:Shared}{sl:Addr}{t:Tok}{n:Nat}{Q:Int×Int×Nat->Shared->Prop}(hs:s.heap.IsSliceOf sl .none .none (.int (-1) t))
  (h:Q (((n:Int)-1),-1,n) s):wpAny (model prog w) A (Builtin.Slice.sliceApplied (.ref sl) (pure (n:Int))) Q E s:=by
 obtain ⟨os,hos,hcs,hds⟩:=id hs
 unfold Builtin.Slice.sliceApplied Builtin.Slice.sliceFields
 refine Aa (Aa (Bl hos hds (x:=.none) rfl (Aa (Bl hos hds (x:=.none) rfl (Aa (Bl hos hds (x:=.int (-1) t) rfl (Ab ?_)))))))
 refine Aa (HT.Fs (.int (-1) t) ?_)
 show wpAny _ _ (if ((-1:Int)==0)=true then _ else _) _ _ s
 rw [if_neg (by decide)]
 refine Aa (HT.Fs .none (Aa (HT.Fs .none (Aa (Ab ?_)))))
 show wpAny _ _ (pure (((n:Int)-1),(-1:Int),Builtin.Slice.slicePlaces ((n:Int)-1) (-1) (-1))) _ _ s
 have e:Builtin.Slice.slicePlaces ((n:Int)-1) (-1) (-1)=n:=by
  unfold Builtin.Slice.slicePlaces
  rw [if_neg (by decide)]
  by_cases h:(n:Int)-1 > -1
  ·rw [if_pos h]
   have:((n:Int)-1 - -1-1) / (- -1)+1=n:=by rw [show (- -1:Int)=1 from rfl,Int.ediv_one];omega
   rw [this]
   simp
  ·rw [if_neg h]
   simp
   omega
 rw [e]
 exact Ab h
theorem HR {prog:Program}{w:World}{A:Around}{E:Value->Shared->Prop}{s:Shared}{t sl:Addr}{items:Array Value}{tk:Tok}{Q:Value->Shared->Prop}(ht:IsTup s.heap t items)(hs:s.heap.IsSliceOf sl .none .none (.int (-1) tk))
  (h:Q (.ref s.heap.objs.size) { s with heap:=s.heap.push { cls:=.type "tuple",data:=.seq items.toList.reverse.toArray } }) (hsz:items.size≤sizeLine):wpAny (model prog w) A (getItem (.ref t) (.ref sl)) Q E s:=by
 obtain ⟨os,hos,hcs,hds⟩:=id hs
 have hTs:s.TypeIs (.ref sl) "slice":=⟨os,hos,hcs⟩
 have htake:sizeOk (.seq items.toList.reverse.toArray):=by
  show items.toList.reverse.toArray.size≤sizeLine
  simpa using hsz
 unfold getItem
 try with_reducible refine AI ?_
 first|refine Aa (Ab ?_)|skip
 refine Aa (wpAny_sequenceKey ht.typeIs (by decide) ?_)
 refine Aa (AQ (name:=Str.ofString "__getitem__") ht.typeIs AY
  (AL AY ht.typeIs entry_tuple_getitem ?_ (args_tuple_getitem _ _)))
 show wpAny _ _ (Builtin.Tuple.tupleItemsOf (.ref t) >>= _) _ _ s
 refine Aa (tupleItemsOf_ ht ?_)
 refine Aa (BC hTs ?_)
 rw [if_pos (by decide)]
 refine Aa (II hs ?_)
 dsimp only
 rw [if_neg (by simp),AaD]
 exact Aa (m:=Builtin.Tuple.tupleExact _) (AR (Ab ⟨_,rfl,Ab h⟩) htake)
noncomputable def UY (d:D)(mu:Sto):Rs D:=match d with
 | .tup ds=>some (.tup ds.reverse,mu)
 | _=>none
theorem Vals.rev {xs:List V}{us:List Value}(r:Vals xs us):Vals xs.reverse us.reverse:=Vals.reverse r
theorem Wc {e:Expr}{m:Ex}{j:Nat}{p1 p2 p3 pos:Pos}(he:SV X e m):SV X (.Subscript e (.Slice none none (some (.UnaryOp .USub (.Constant (.int 1) j p1) p2)) p3) pos) (e1 UY m):=⟨by
 intro pins s st H Q I h
 obtain ⟨th,mu,ro,so,en,t⟩:=h
 refine Subscript_ (thn (he.r pins s st H (λx H1=>∃ th1 mu1 d,StoOk X.z th1 mu1 H1∧Rep X.z th1 H1 d x∧Tr X.z th1 H1 (UY d mu1) (KV' X.z Q)) I ⟨th,mu,ro,so,en,t.bind.mono λd th1 mu1 H1 e1 s1 t1 v rv=>⟨th1,mu1,d,s1,rv,t1⟩⟩) λv s1 ⟨x,H1,I1,r1,th1,mu1,d,so1,rd,t1⟩=>?_)
 refine wpAny_Slice ?_
 rw [evalPart_none]
 refine Ab (Ab ?_)
 rw [evalPart_some]
 refine thn ((Y4 (X:=X) WA (Sb (i:=1) (j:=j) (pos:=p1))) pins s1 st H1 (λy H'=>y=.int (-1)∧H'=H1) I1 ⟨1,rfl,rfl,rfl⟩) λu s2 ⟨y,H2,I2,r2,ey,eH⟩=>?_
 subst ey eH
 obtain ⟨tk,rfl⟩:=r2
 have I4:L2.Inv X pins st H2 { s2 with heap:=s2.heap.push { cls:=.type "slice",data:=.fields #[.none,.none,.int (-1) tk] } }:=I2.kept (t':=s2.toks) λb ob q=>Ad _ q
 cases d with
 | tup ds =>
  unfold Rep at rd
  obtain ⟨a,vs,rfl,h1,h2,h3⟩:=rd
  cases r1
  obtain ⟨its,rv,ht,hz⟩:=I4.tuple h1
  show wpAny (model X.prog X.w) X.A (subscriptTail e (.Slice none none (some (.UnaryOp .USub (.Constant (.int 1) j p1) p2)) p3) (.ref a) (.ref s2.heap.objs.size)) (EP X pins st Q) X.xe { s2 with heap:=s2.heap.push { cls:=.type "slice",data:=.fields #[.none,.none,.int (-1) tk] } }
  refine tail_any (ops:=[.ref a,.ref s2.heap.objs.size]) ht.typeIs AY.lookup (HR ht (Heap.IsSliceOf.new ..) ?_ (by rw [Av,← rv.length];exact hz)) (by with_unfolding_all rfl)
  have hp:=I4.hok.fresh (Ag _)
  refine ⟨.ref _,_,I4.laid (t':=s2.toks) (o:=.tup vs.reverse) (λb ob q=>Ad _ q) (Ag _) ⟨⟨by rw [List.length_reverse];exact hz,_,Ai _ rfl,rfl⟩,its.reverse,Vals.rev rv,IsTup.new _ _⟩,rfl,?_⟩
  exact t1.retX (.new hp _) (so1.new hp _) _ (Rep.newTup so1 hp h2.rev (by rw [List.length_reverse];exact h3))
 | _=>exact t1.no.elim⟩
end
noncomputable def Ds {α:Type}(ask:Nat->Nat->Option Bool):PySem.W.KasT α->Option α
 | .ret a=>some a
 | .ask i j k=>match ask i j with
  | none=>none
  | some b=>Ds ask (k b)
theorem IK {α:Type}{ask:Nat->Nat->Option Bool}{cmp:Nat->Nat->(Bool->Shared->Prop)->Shared->Prop}{s:Shared}(hc:∀ i j b C,ask i j=some b->C b s->cmp i j C s):∀ (t:PySem.W.KasT α) (a:α) (Q:α->Shared->Prop),Ds ask t=some a->Q a s->t.kasWp cmp Q s
 | .ret a,_,Q,e,q=>by cases e;exact q
 | .ask i j k,a,Q,e,q=>by
  unfold Ds at e
  cases e1:ask i j with
  | none=>rw [e1] at e;cases e
  | some b =>
   rw [e1] at e
   exact hc i j b _ e1 (IK hc (k b) a Q e q)
section
variable {X:Cx} {K:Zc} {th:List Addr} {mu:Sto} {H:Hp}
noncomputable def tupS:D->Bool
 | .tup (.str x::r)=>Eg r&&decide (PyData.depthAll (CD r)≤50)
 | _=>false
theorem JT {d:D}(h:tupS d=true):∃ x r,d=.tup (.str x::r)∧Eg r=true∧PyData.depthAll (CD r)≤50:=by
 unfold tupS at h
 split at h
 ·rename_i x r
  rw [Ac,Af] at h
  exact ⟨x,r,rfl,h.1,h.2⟩
 ·cases h
theorem KP {pins:List (Addr×Obj)}{st:L2.St}{s:Shared}(I:L2.Inv X pins st H s){A:Around}{fin:Bool}{Q:Bool->Shared->Prop} :
  ∀ (xs ys:List D) (b:Bool) (vs us:List V) (vvs uus:List Value) (i:Nat),Gw xs ys=some b->RepL X.z th H xs vs->RepL X.z th H ys us->Vals vs vvs->Vals us uus->A.units+PyData.depthAll (CD xs)+1<cLine ->
   (i=0->∃ x r y r',xs=.str x::r∧ys=.str y::r')->(fin=decide (xs.length<ys.length))->Q b s->PySem.W.KatLex X.prog X.w A true fin Q (vvs.zip uus) i s
 | [],[],b,_,_,_,_,i,h,r1,r2,q1,q2,hu,h0,hf,q=>by
  cases r1.inv0;cases r2.inv0;cases q1;cases q2
  unfold Gw at h
  cases h
  exact PySem.W.kat_nil (by rw [hf];exact q)
 | [],y::ys,b,_,_,_,_,i,h,r1,r2,q1,q2,hu,h0,hf,q=>by
  cases r1.inv0
  obtain ⟨v,r,rfl,_,_⟩:=r2.inv
  cases q1
  cases q2
  unfold Gw at h
  cases h
  exact PySem.W.kat_nil (by rw [hf,BM (by simp)];exact q)
 | x::xs,[],b,_,_,_,_,i,h,r1,r2,q1,q2,hu,h0,hf,q=>by
  cases r2.inv0
  obtain ⟨v,r,rfl,_,_⟩:=r1.inv
  cases q1
  cases q2
  unfold Gw at h
  cases h
  exact PySem.W.kat_nil (by rw [hf,A9 (by simp)];exact q)
 | x::xs,y::ys,b,_,_,_,_,i,h,r1,r2,q1,q2,hu,h0,hf,q=>by
  obtain ⟨v,r,rfl,a1,a2⟩:=r1.inv
  obtain ⟨u,r',rfl,b1,b2⟩:=r2.inv
  cases q1 with
  | cons g1 g2 =>
   cases q2 with
   | cons k1 k2 =>
    unfold Gw at h
    have hd:PyData.depthAll (CD (x::xs))=max (toPy x).depth (PyData.depthAll (CD xs)):=by rw [CD,PyData.depthAll]
    rw [hd] at hu
    by_cases c:(CU x&&CU y)=true
    ·rw [if_pos c] at h
     rw [Ac] at c
     obtain ⟨as,w1,w2⟩:=EC I x v _ c.1 a1 g1
     obtain ⟨bs,w3,w4⟩:=EC I y u _ c.2 b1 k1
     refine PySem.W.kat_cons (SeqAt.eqAt_reads _ _ A s _ _ as bs w1 w3 w2 w4 (by omega) _ _ _ _ ?_)
     cases e:PyData.eqv (toPy x) (toPy y) with
     | true =>
      rw [e,if_pos rfl] at h
      refine PySem.W.kat_yes (KP I xs ys b _ _ _ _ (i+1) h a2 b2 g2 k2 (by omega) (λz=>by omega) (by rw [hf];simp) q)
     | false =>
      rw [e,if_neg AE] at h
      refine PySem.W.kat_no ?_
      by_cases hi:i=0
      ·subst hi
       obtain ⟨x',_,y',_,e1,e2⟩:=h0 rfl
       cases e1
       cases e2
       obtain ⟨rfl,_⟩:=(show _∧_ from a1)
       obtain ⟨rfl,_⟩:=(show _∧_ from b1)
       obtain ⟨t1,rfl⟩:=g1
       obtain ⟨t2,rfl⟩:=k1
       unfold ltB at h
       cases h
       exact oneLt_str q
      ·rw [show (true&&i==0)=false by simp [hi]]
       exact PySem.W.kat_one _ _ (Nt I x y b _ _ _ _ A h a1 b1 g1 k1 (by omega) _ _ _ _ q)
    ·rw [if_neg c] at h;cases h
noncomputable def P6 (ds:List D)(i j:Nat):Option Bool:=match ds[i]?,ds[j]? with
 | some d,some e=>ltB d e
 | _,_=>none
theorem JP {pins:List (Addr×Obj)}{st:L2.St}{s:Shared}(I:L2.Inv X pins st H s):∀ {ds:List D} {vs:List V} {us:List Value},ds.all tupS=true->RepL X.z th H ds vs->Vals vs us->∃ fs,PySem.W.KatTups s.heap us fs∧fs.length=ds.length∧∀ v∈fs,∃ x t,v=.str x t
 | [],_,_,_,r,q=>by cases r.inv0;cases q;exact ⟨[],.nil,rfl,λ_ h=>nomatch h⟩
 | d::ds,_,_,h,r,q=>by
  obtain ⟨v,r',rfl,a1,a2⟩:=r.inv
  rw [List.all_cons,Ac] at h
  cases q with
  | cons q1 q2 =>
   obtain ⟨x,es,rfl,_,_⟩:=JT h.1
   obtain ⟨fs,f1,f2,f3⟩:=JP I h.2 a2 q2
   unfold Rep at a1
   obtain ⟨a,ws,rfl,h1,l1,_⟩:=a1
   obtain ⟨w0,wr,rfl,l2,_⟩:=RepL.inv l1
   obtain ⟨rfl,_⟩:=(show _∧_ from l2)
   cases q1
   obtain ⟨its,rv,⟨o,g1,g2,n,g3⟩,_⟩:=I.tuple h1
   cases rv with
   | cons k1 k2 =>
    obtain ⟨t,rfl⟩:=k1
    exact ⟨_::fs,.cons g1 g2 g3 rfl f1,by simp [f2],λz hz=>(An.mp hz).elim (λe=>⟨x,t,e⟩) (f3 z)⟩
theorem Wa {pins:List (Addr×Obj)}{st:L2.St}{s:Shared}(I:L2.Inv X pins st H s){ds:List D}{vs:List V}{us:List Value}(hd:ds.all tupS=true)(r:RepL X.z th H ds vs)(q:Vals vs us){A:Around}(hu:A.units+60<cLine) :
  ∀ i j b C,P6 ds i j=some b->C b s->PySem.W.kas_ask X.prog X.w A (tuples' true) us i j C s:=λi j b C e hC=>by
 unfold P6 at e
 cases e1:ds[i]? with
 | none=>rw [e1] at e;cases e
 | some d =>
  cases e2:ds[j]? with
  | none=>rw [e1,e2] at e;cases e
  | some d' =>
   rw [e1,e2] at e
   have m1:=Aw.mp hd d (Am e1)
   have m2:=Aw.mp hd d' (Am e2)
   obtain ⟨x,xs,rfl,_,dx⟩:=JT m1
   obtain ⟨y,ys,rfl,_,dy⟩:=JT m2
   obtain ⟨v,ev,rv⟩:=r.get e1
   obtain ⟨v',ev',rv'⟩:=r.get e2
   obtain ⟨u,eu,ru⟩:=q.get ev
   obtain ⟨u',eu',ru'⟩:=q.get ev'
   unfold PySem.W.kas_ask
   rw [show us.getD i Value.none=u by rw [AK,eu];rfl,show us.getD j Value.none=u' by rw [AK,eu'];rfl]
   unfold Rep at rv rv'
   obtain ⟨a,ws,rfl,h1,l1,_⟩:=rv
   obtain ⟨a',ws',rfl,h1',l1',_⟩:=rv'
   cases ru
   cases ru'
   obtain ⟨its,rw1,⟨o,g1,g2,n,g3⟩,_⟩:=I.tuple h1
   obtain ⟨its',rw2,⟨o',g1',g2',n',g3'⟩,_⟩:=I.tuple h1'
   unfold ltB at e
   refine PySem.W.kat_lt g1 g3 g1' g3' ?_
   have hx:PyData.depthAll (CD (.str x::xs))≤50:=by
    rw [CD,PyData.depthAll]
    show max 0 _≤50
    omega
   have:=KP I (A:=A) (fin:=decide (its.toArray.size<its'.toArray.size)) (Q:=C) (.str x::xs) (.str y::ys) b ws ws' its its' 0 e l1 l1' rw1 rw2 (by omega) (λ_=>⟨x,xs,y,ys,rfl,rfl⟩) (by rw [Av,Av,← rw1.length,← rw2.length,l1.len,l1'.len]) hC
   simpa using this
end
section
variable {prog:Program} {w:World} {A:Around} {E:Value->Shared->Prop} {s:Shared}
theorem NO {T:String}(hT:T="list"∨T="tuple"){l:Addr}{ob:Obj}{zs:List Value}{n:Nat}{Q:List Value->Shared->Prop}(ho:s.heap.get? l=some ob)(hc:ob.cls=.type T)(hd:ob.data=.seq zs.toArray n)
  (h:Q zs { s with heap:=(s.heap.push (seqObj "list" #[] 0)).update s.heap.objs.size (Obj.mapSeq (·++zs.toArray)) }) (hz:zs.length≤sizeLine):wpAny (model prog w) A (collect (.ref l)) Q E s:=by
 unfold collect
 refine Aa (wpAny_runValue (Bc entry_proto_collect' ?_))
 show wpAny _ _ (do again (.builtin "list.__iadd__" ⟨[← newList [],.ref l],[]⟩)) _ _ s
 refine Aa (wpAny_newList (Ab (And.intro (Code.quiet_builtin _ (by decide +kernel)) (Bc entry_list_iadd' ?_))))
 show wpAny _ _ (Builtin.List.listExtendWith (.ref s.heap.objs.size) (.ref l) (.ref s.heap.objs.size)) _ _ { s with heap:=s.heap.push (seqObj "list" #[] 0) }
 have g:(s.heap.push (seqObj "list" #[] 0)).get? l=some ob:=Ad _ ho
 (unfold Builtin.List.listExtendWith)
 refine Aa (BC (T:=T) ⟨ob,g,hc⟩ ?_)
 rw [if_pos (by rcases hT with rfl|rfl<;>simp)]
 refine Aa (listItems_at g hd (Aa (listItems_at (xs:=#[]) (n:=0) (Ai _ rfl) rfl ?_)))
 rw [if_neg (by simp)]
 refine Aa (listUpdate_at (xs:=#[]) (n:=0) (Ai _ rfl) rfl (Ab ?_) (AW _) (by
  show ((#[]:Array Value)++zs.toArray).size≤sizeLine+1
  simp only [Array.size_append,Av,List.length_nil]
  omega))
 show wpAny (model prog w) A (load s.heap.objs.size >>= λo=>match o.data with
   | .seq xs _=>pure xs.toList
   | _=>unsupported "internal:collect") Q E { s with heap:=(s.heap.push (seqObj "list" #[] 0)).update s.heap.objs.size (Obj.mapSeq (·++zs.toArray)) }
 refine Aa (wpAny_load (get?_update_seq (Ai _ rfl) _) ?_)
 show wpAny _ _ (pure ((#[]:Array Value)++zs.toArray).toList) Q E _
 have e0:((#[]:Array Value)++zs.toArray).toList=zs:=by simp
 rw [e0]
 exact Ab h
theorem O0 {a:Addr}{zs:List Value}{n:Nat}{P:PySem.Fin->Shared->Prop}{kd:SortKind}(p:Array Nat)(hp:p.size=zs.length)(ho:s.heap.get? a=some (seqObj "list" zs.toArray n))(h2:2≤zs.length)(h64:zs.length<64)
  (hk:∀ (Q:SortKind->Shared->Prop) (E':Value->Shared->Prop),Q kd { s with heap:=((s.heap.update a (Obj.mapSeq λ_=>#[])).push (seqObj "tuple" zs.toArray 0)).push (seqObj "list" #[] 0) }->wpAny (model prog w) A (keyKind' zs.toArray) Q E' { s with heap:=((s.heap.update a (Obj.mapSeq λ_=>#[])).push (seqObj "tuple" zs.toArray 0)).push (seqObj "list" #[] 0) })
  (hr:∀ G:Array Nat->Shared->Prop,G p { s with heap:=((s.heap.update a (Obj.mapSeq λ_=>#[])).push (seqObj "tuple" zs.toArray 0)).push (seqObj "list" #[] 0) }->(PySem.W.kas_sort zs.length).kasWp (PySem.W.kas_ask prog w A kd zs) G { s with heap:=((s.heap.update a (Obj.mapSeq λ_=>#[])).push (seqObj "tuple" zs.toArray 0)).push (seqObj "list" #[] 0) })
  (h:P (.done (.ret .none)) { s with heap:=sortedHeap s.heap a zs (p.toList.map λi=>zs.getD i Value.none).toArray }):wpAny (model prog w) A (Builtin.«list.sort» ⟨[.ref a],[]⟩) P E s:=by
 have la:a<s.heap.objs.size:=Al ho
 rw [list_sort_plain]
 refine Aa (listItems_at ho rfl (Aa (listUpdate_at ho rfl ?_ (by rw [Av,AS];omega) (AW _))))
 obtain ⟨n1,ho1⟩:∃ n1,(s.heap.update a (Obj.mapSeq λ_=>#[])).get? a=some (seqObj "list" #[] n1):=⟨_,get?_update_seq ho λ_=>#[]⟩
 refine Aa (seqEpoch_at ho1 rfl (Aa (wpAny_newTuple (Aa (wpAny_newList (AI ?_) (AW _))) (by show zs.length≤_;rw [AS];omega))))
 have ho2:(((s.heap.update a (Obj.mapSeq λ_=>#[])).push (seqObj "tuple" zs.toArray 0)).push (seqObj "list" #[] 0)).get? a=some (seqObj "list" #[] n1):=Ad _ (Ad _ ho1)
 show wpAny (model prog w) A _ P E { s with heap:=((s.heap.update a (Obj.mapSeq λ_=>#[])).push (seqObj "tuple" zs.toArray 0)).push (seqObj "list" #[] 0) }
 dsimp only
 have n2:¬ zs.toArray.size<2:=by rw [Av];omega
 rw [if_neg n2,if_neg n2]
 refine Aa (hk _ _ ?_)
 refine Aa (B2 (PySem.W.kat_run (E:=E) (Q:=λst' s'=>arrOf st'=p.map (PySem.W.kas_item (zs.toArray.zip zs.toArray))∧failedOf st'=none∧s'={ s with heap:=((s.heap.update a (Obj.mapSeq λ_=>#[])).push (seqObj "tuple" zs.toArray 0)).push (seqObj "list" #[] 0) }) rfl h2 h64
  (G:=λp' s'=>p'=p∧s'={ s with heap:=((s.heap.update a (Obj.mapSeq λ_=>#[])).push (seqObj "tuple" zs.toArray 0)).push (seqObj "list" #[] 0) }) (λp' st' s' _ a2 a3 a4=>⟨by rw [← a4.1];exact a2,a3,a4.2⟩) (hr _ ⟨rfl,rfl⟩)) ?_ λ_ _ e=>e)
 rintro ⟨⟨⟩,st'⟩ s' ⟨ha,hf,rfl⟩
 dsimp only
 rw [PySem.W.kat_snds rfl ha]
 refine Aa (seqEpoch_at ho2 rfl (Aa (listUpdate_at ho2 rfl ?_ (AW _) (by
  show (List.toArray (p.toList.map λi=>zs.getD i Value.none)).size≤sizeLine+1
  rw [Av,Ah,Array.length_toList,hp,AS]
  omega))))
 rw [hf]
 simp only [bne_self_eq_false,Az,A7]
 exact Ab h
theorem RP {a:Addr}{zs:List Value}{n:Nat}{P:PySem.Fin->Shared->Prop}(ho:s.heap.get? a=some (seqObj "list" zs.toArray n))(h2:zs.length<2)
  (h:P (.done (.ret .none)) { s with heap:=sortedHeap s.heap a zs zs.toArray }):wpAny (model prog w) A (Builtin.«list.sort» ⟨[.ref a],[]⟩) P E s:=by
 rw [list_sort_plain]
 refine Aa (listItems_at ho rfl (Aa (listUpdate_at ho rfl ?_ (by rw [Av,AS];omega) (AW _))))
 obtain ⟨n1,ho1⟩:∃ n1,(s.heap.update a (Obj.mapSeq λ_=>#[])).get? a=some (seqObj "list" #[] n1):=⟨_,get?_update_seq ho λ_=>#[]⟩
 refine Aa (seqEpoch_at ho1 rfl (Aa (wpAny_newTuple (Aa (wpAny_newList (AI ?_) (AW _))) (by show zs.length≤_;rw [AS];omega))))
 have ho2:(((s.heap.update a (Obj.mapSeq λ_=>#[])).push (seqObj "tuple" zs.toArray 0)).push (seqObj "list" #[] 0)).get? a=some (seqObj "list" #[] n1):=Ad _ (Ad _ ho1)
 show wpAny (model prog w) A _ P E { s with heap:=((s.heap.update a (Obj.mapSeq λ_=>#[])).push (seqObj "tuple" zs.toArray 0)).push (seqObj "list" #[] 0) }
 dsimp only
 have n2:zs.toArray.size<2:=by rw [Av];exact h2
 rw [if_pos n2,if_pos n2]
 refine Aa (Ab ?_)
 rw [StateT.run_pure]
 refine Aa (Ab ?_)
 dsimp only
 have e0:(arrOf (SortSt.mk' general' (zs.toArray.zip zs.toArray) #[] 7 none)).map (·.2)=zs.toArray:=by
  show (zs.toArray.zip zs.toArray).map (·.2)=zs.toArray
  rw [show zs.toArray.zip zs.toArray=(zs.zip zs).toArray by simp,List.map_toArray,List.map_snd_zip (Ag _)]
 rw [e0]
 refine Aa (seqEpoch_at ho2 rfl (Aa (listUpdate_at ho2 rfl ?_ (AW _) (by
  show zs.toArray.size≤sizeLine+1
  rw [Av,AS]
  omega))))
 simp only [bne_self_eq_false,Az,A7]
 exact Ab h
end
end PV
namespace PV
open PySem PyProof.Rows
theorem Ep {α β:Type}(ask:Nat->Nat->Option Bool):∀ (t:PySem.W.KasT α) (f:α->PySem.W.KasT β),Ds ask (t.bind f)=(Ds ask t).bind λa=>Ds ask (f a)
 | .ret a,f=>rfl
 | .ask i j k,f=>by
  have ih:=λb=>Ep ask (k b) f
  simp only [PySem.W.KasT.bind,Ds]
  cases ask i j with
  | none=>rfl
  | some b=>exact ih b
structure Pre (n:Nat) (ask:Nat->Nat->Option Bool) (lt:Nat->Nat->Bool):Prop where
 tot:∀ i j,i<n->j<n->ask i j=some (lt i j)
 asym:∀ i j,i<n->j<n->lt i j=true->lt j i=false
 trans:∀ i j k,i<n->j<n->k<n->lt j i=false->lt k j=false->lt k i=false
noncomputable def gi (p:Array Nat)(k:Nat):Nat:=p.getD k 0
structure Ix' (n:Nat) (p:Array Nat):Prop where
 pm:p.toList.Perm (List.range n)
theorem Ix'.size {n:Nat}{p:Array Nat}(h:Ix' n p):p.size=n:=by rw [← Array.length_toList,h.pm.length_eq,Br]
theorem QR {p:Array Nat}{k:Nat}(h:k<p.size):gi p k=p[k]:=by unfold gi;simp [Array.getD,h]
theorem Ix'.lt {n:Nat}{p:Array Nat}(h:Ix' n p){k:Nat}(hk:k<n):gi p k<n:=by
 have hs:k<p.size:=by rw [h.size];exact hk
 rw [QR hs]
 exact A3.mp (h.pm.mem_iff.mp (by simpa using Array.getElem_mem hs))
theorem KA {p q:Array Nat}{k j:Nat}(h:p[k]? = q[j]?):gi p k=gi q j:=by
 unfold gi
 rw [Bf,Bf,h]
theorem Ix'.rev {n:Nat}{p:Array Nat}(h:Ix' n p)(i j:Nat):Ix' n (PySem.W.kas_rev p i j):=⟨(Array.perm_iff_toList_perm.mp (mirror_perm p i j _)).trans h.pm⟩
theorem Ix'.bub {n:Nat}{p:Array Nat}(h:Ix' n p)(i j:Nat):Ix' n (bubble p i j):=⟨(Array.perm_iff_toList_perm.mp (bubble_perm p i j)).trans h.pm⟩
theorem Ht {p:Array Nat}{i j:Nat}(hj:j≤p.size)(k:Nat):gi (PySem.W.kas_rev p i j) k=if i≤k∧k<j then gi p (i+j-1-k) else gi p k:=by
 unfold PySem.W.kas_rev
 have e:=getElem?_mirror (xs:=p) (i:=i) hj ((j-i) / 2) (by omega) k
 by_cases c:(i≤k∧k<i+(j-i) / 2)∨(j-(j-i) / 2≤k∧k<j)
 ·rw [if_pos c] at e
  rw [if_pos (by omega)]
  exact KA e
 ·rw [if_neg c] at e
  by_cases c2:i≤k∧k<j
  ·rw [if_pos c2,show i+j-1-k=k by omega]
   exact KA e
  ·rw [if_neg c2]
   exact KA e
theorem Wq {p:Array Nat}{src d:Nat}(hs:src<p.size)(hd:d≤src)(k:Nat):gi (bubble p src d) k=if k=src-d then gi p src else if src-d<k∧k≤src then gi p (k-1) else gi p k:=by
 have e:=getElem?_bubble hs d hd k
 by_cases c:k=src-d
 ·rw [if_pos c] at e ⊢;exact KA e
 ·rw [if_neg c] at e ⊢
  by_cases c2:src-d<k∧k≤src
  ·rw [if_pos c2] at e ⊢;exact KA e
  ·rw [if_neg c2] at e ⊢;exact KA e
section
variable {n:Nat} {ask:Nat->Nat->Option Bool} {lt:Nat->Nat->Bool}
noncomputable def Up' (lt:Nat->Nat->Bool)(p:Array Nat)(m:Nat):Prop:=∀ a b,a≤b->b<m->lt (gi p b) (gi p a)=false
noncomputable def Dn' (lt:Nat->Nat->Bool)(p:Array Nat)(m:Nat):Prop:=∀ a b,a≤b->b<m->lt (gi p a) (gi p b)=false
theorem Pre.irr (O:Pre n ask lt){i:Nat}(h:i<n):lt i i=false:=by
 cases e:lt i i with
 | false=>rfl
 | true=>rw [← e];exact O.asym i i h h e
theorem Up'.more (O:Pre n ask lt){p:Array Nat}{m:Nat}(I:Ix' n p)(h:Up' lt p m)(hm:m<n)(h1:m=0∨lt (gi p m) (gi p (m-1))=false):Up' lt p (m+1):=λa b hab hb=>by
 by_cases e:b<m
 ·exact h a b hab e
 ·have:b=m:=by omega
  subst this
  by_cases ea:a=b
  ·subst ea;exact O.irr (I.lt hm)
  ·rcases h1 with h1|h1
   ·omega
   ·exact O.trans (gi p a) (gi p (b-1)) (gi p b) (I.lt (by omega)) (I.lt (by omega)) (I.lt hm) (h a (b-1) (by omega) (by omega)) h1
theorem NB (O:Pre n ask lt){p:Array Nat}(I:Ix' n p):∀ (f m:Nat),1≤m->m+f≤n->Up' lt p m->∃ k,Ds ask (PySem.W.kas_asc p f m)=some k∧m≤k∧k≤m+f∧Up' lt p k∧(k<m+f->lt (gi p k) (gi p (k-1))=true)
 | 0,m,_,_,h=>⟨m,rfl,Ag _,Ag _,h,λz=>by omega⟩
 | f+1,m,h1,hm,h=>by
  have e:ask (p.getD m 0) (p.getD (m-1) 0)=some (lt (gi p m) (gi p (m-1))):=O.tot _ _ (I.lt (by omega)) (I.lt (by omega))
  unfold PySem.W.kas_asc Ds
  rw [e]
  dsimp only
  cases c:lt (gi p m) (gi p (m-1)) with
  | true =>
   rw [if_pos rfl]
   exact ⟨m,rfl,Ag _,by omega,h,λ_=>c⟩
  | false =>
   rw [if_neg AE]
   obtain ⟨k,a1,a2,a3,a4,a5⟩:=NB O I f (m+1) (by omega) (by omega) (h.more O I (by omega) (.inr c))
   exact ⟨k,a1,by omega,by omega,a4,λz=>a5 (by omega)⟩
noncomputable def Y2 (lt:Nat->Nat->Bool)(n:Nat)(p q:Array Nat):Prop:=∀ k,k<n->lt (gi p k) (gi q k)=false∧lt (gi q k) (gi p k)=false
theorem Dn'.more (O:Pre n ask lt){p:Array Nat}{m:Nat}(I:Ix' n p)(h:Dn' lt p m)(hm:m<n)(h0:0<m)(h1:lt (gi p (m-1)) (gi p m)=false):Dn' lt p (m+1):=λa b hab hb=>by
 by_cases e:b<m
 ·exact h a b hab e
 ·have:b=m:=by omega
  subst this
  by_cases ea:a=b
  ·subst ea;exact O.irr (I.lt hm)
  ·exact O.trans (gi p b) (gi p (b-1)) (gi p a) (I.lt hm) (I.lt (by omega)) (I.lt (by omega)) h1 (h a (b-1) (by omega) (by omega))
theorem Dn'.like (O:Pre n ask lt){p q:Array Nat}{m:Nat}(I:Ix' n p)(J:Ix' n q)(hm:m≤n)(h:Dn' lt p m)(l:Y2 lt n p q):Dn' lt q m:=λa b hab hb =>
 O.trans (gi q b) (gi p a) (gi q a) (J.lt (by omega)) (I.lt (by omega)) (J.lt (by omega)) (O.trans (gi q b) (gi p b) (gi p a) (J.lt (by omega)) (I.lt (by omega)) (I.lt (by omega)) (l b (by omega)).1 (h a b hab hb)) (l a (by omega)).2
theorem M1 (O:Pre n ask lt){p:Array Nat}(I:Ix' n p){i j:Nat}(hj:j≤n)(eq:∀ a b,i≤a->a<j->i≤b->b<j->lt (gi p a) (gi p b)=false):Y2 lt n p (PySem.W.kas_rev p i j):=λk hk=>by
 rw [Ht (by rw [I.size];exact hj)]
 by_cases c:i≤k∧k<j
 ·rw [if_pos c]
  exact ⟨eq _ _ (by omega) (by omega) (by omega) (by omega),eq _ _ (by omega) (by omega) (by omega) (by omega)⟩
 ·rw [if_neg c]
  exact ⟨O.irr (I.lt hk),O.irr (I.lt hk)⟩
theorem Jr (O:Pre n ask lt):∀ (f:Nat) (p:Array Nat) (m q:Nat),Ix' n p->1≤m->m+f≤n->q+1≤m->Dn' lt p m->(∀ a b,m-(q+1)≤a->a<m->m-(q+1)≤b->b<m->lt (gi p a) (gi p b)=false) ->
  ∃ r,Ds ask (PySem.W.kas_desc f p m q)=some r∧Ix' n r.1∧m≤r.2.1∧r.2.1≤m+f∧r.2.2+1≤r.2.1∧Dn' lt r.1 r.2.1∧∀ a b,r.2.1-(r.2.2+1)≤a->a<r.2.1->r.2.1-(r.2.2+1)≤b->b<r.2.1->lt (gi r.1 a) (gi r.1 b)=false
 | 0,p,m,q,I,h1,hm,hq,hd,he=>⟨(p,m,q),rfl,I,Ag _,Ag _,hq,hd,he⟩
 | f+1,p,m,q,I,h1,hm,hq,hd,he=>by
  have e:ask (p.getD m 0) (p.getD (m-1) 0)=some (lt (gi p m) (gi p (m-1))):=O.tot _ _ (I.lt (by omega)) (I.lt (by omega))
  have e':ask (p.getD (m-1) 0) (p.getD m 0)=some (lt (gi p (m-1)) (gi p m)):=O.tot _ _ (I.lt (by omega)) (I.lt (by omega))
  unfold PySem.W.kas_desc Ds
  rw [e]
  dsimp only
  have one:∀ p':Array Nat,Ix' n p'->∀ a b,m+1-(0+1)≤a->a<m+1->m+1-(0+1)≤b->b<m+1->lt (gi p' a) (gi p' b)=false:=λp' J a b a1 a2 b1 b2=>by
   have:a=b:=by omega
   subst this
   exact O.irr (J.lt (by omega))
  cases c:lt (gi p m) (gi p (m-1)) with
  | true =>
   rw [if_pos rfl]
   have hd1:=hd.more O I (by omega) (by omega) (O.asym _ _ (I.lt (by omega)) (I.lt (by omega)) c)
   by_cases hq0:q > 0
   ·rw [if_pos hq0]
    have J:=I.rev (m-(q+1)) m
    have lk:=M1 O I (i:=m-(q+1)) (j:=m) (by omega) he
    obtain ⟨r,a1,a2,a3,a4,a5⟩:=Jr O f (PySem.W.kas_rev p (m-(q+1)) m) (m+1) 0 J (by omega) (by omega) (by omega) (hd1.like O I J (by omega) lk) (one _ J)
    exact ⟨r,a1,a2,by omega,by omega,a5⟩
   ·rw [if_neg hq0]
    obtain ⟨r,a1,a2,a3,a4,a5⟩:=Jr O f p (m+1) 0 I (by omega) (by omega) (by omega) hd1 (one _ I)
    exact ⟨r,a1,a2,by omega,by omega,a5⟩
  | false =>
   rw [if_neg AE]
   unfold Ds
   rw [e']
   dsimp only
   cases c2:lt (gi p (m-1)) (gi p m) with
   | true =>
    rw [if_pos rfl]
    exact ⟨(p,m,q),rfl,I,Ag _,by show m≤_;omega,hq,hd,he⟩
   | false =>
    rw [if_neg AE]
    have hd1:=hd.more O I (by omega) (by omega) c2
    obtain ⟨r,a1,a2,a3,a4,a5⟩:=Jr O f p (m+1) (q+1) I (by omega) (by omega) (by omega) hd1 λa b z1 z2 z3 z4=>by
     have key:∀ x,m+1-(q+1+1)≤x->x<m+1->lt (gi p x) (gi p (m-1))=false∧lt (gi p (m-1)) (gi p x)=false:=λx x1 x2=>by
      by_cases hx:x=m
      ·subst hx;exact ⟨c,c2⟩
      ·exact ⟨he _ _ (by omega) (by omega) (by omega) (by omega),he _ _ (by omega) (by omega) (by omega) (by omega)⟩
     exact O.trans (gi p b) (gi p (m-1)) (gi p a) (I.lt (by omega)) (I.lt (by omega)) (I.lt (by omega)) (key b z3 z4).2 (key a z1 z2).1
    exact ⟨r,a1,a2,by omega,by omega,a5⟩
theorem OG (O:Pre n ask lt){p:Array Nat}(I:Ix' n p){m:Nat}(h1:1≤m)(hm:m≤n)(hd:Dn' lt p m):∃ r,Ds ask (PySem.W.kas_tail3 m n p)=some r∧Ix' n r.2∧1≤r.1∧r.1≤n∧Up' lt r.2 r.1:=by
 have J:=I.rev 0 m
 have up:Up' lt (PySem.W.kas_rev p 0 m) m:=λa b hab hb=>by
  rw [Ht (by rw [I.size];exact hm),Ht (by rw [I.size];exact hm),if_pos (by omega),if_pos (by omega)]
  exact hd _ _ (by omega) (by omega)
 obtain ⟨k,a1,a2,a3,a4,_⟩:=NB O J (n-m) m h1 (by omega) up
 refine ⟨(k,PySem.W.kas_rev p 0 m),?_,J,by show 1≤k;omega,by show k≤n;omega,a4⟩
 unfold PySem.W.kas_tail3
 rw [Ep,a1]
 rfl
theorem IS (O:Pre n ask lt){p:Array Nat}(I:Ix' n p){m:Nat}(h1:1≤m)(hm:m<n)(eq:∀ a b,a<m->b<m->lt (gi p a) (gi p b)=false)(hl:lt (gi p m) (gi p (m-1))=true) :
  ∃ r,Ds ask (PySem.W.kas_descPart m n p)=some r∧Ix' n r.2∧1≤r.1∧r.1≤n∧Up' lt r.2 r.1:=by
 have hd:Dn' lt p m:=λa b _ hb=>eq a b (by omega) hb
 have hd1:=hd.more O I hm (by omega) (O.asym _ _ (I.lt hm) (I.lt (by omega)) hl)
 obtain ⟨r,a1,a2,a3,a4,a5,a6,a7⟩:=Jr O (n-(m+1)) p (m+1) 0 I (by omega) (by omega) (by omega) hd1 λa b z1 z2 z3 z4=>by
  have:a=b:=by omega
  subst this
  exact O.irr (I.lt (by omega))
 unfold PySem.W.kas_descPart
 rw [Ep,a1]
 show ∃ r',Ds ask (if r.2.2 > 0 then _ else _)=some r'∧_
 by_cases hq:r.2.2 > 0
 ·rw [if_pos hq]
  have J:=a2.rev (r.2.1-(r.2.2+1)) r.2.1
  exact OG O J (by omega) (by omega) (a6.like O a2 J (by omega) (M1 O a2 (by omega) a7))
 ·rw [if_neg hq]
  exact OG O a2 (by omega) (by omega) a6
theorem R7 (O:Pre n ask lt){p:Array Nat}(I:Ix' n p)(hn:1≤n):∃ r,Ds ask (PySem.W.kas_count n p)=some r∧Ix' n r.2∧1≤r.1∧r.1≤n∧Up' lt r.2 r.1:=by
 obtain ⟨k,a1,a2,a3,a4,a5⟩:=NB O I (n-1) 1 (Ag _) (by omega) (λa b _ hb=>by
  have:a=0:=by omega
  have:b=0:=by omega
  subst a b
  exact O.irr (I.lt (by omega)))
 unfold PySem.W.kas_count
 rw [Ep,a1]
 show ∃ r',Ds ask (if (k==n)=true then _ else _)=some r'∧_
 by_cases hk:k=n
 ·rw [if_pos (by simpa using hk)]
  exact ⟨(k,p),rfl,I,a2,by show k≤n;omega,a4⟩
 ·rw [if_neg (by simpa using hk)]
  have lk:=a5 (by omega)
  by_cases h1:k > 1
  ·rw [if_pos h1]
   have e:ask (p.getD 0 0) (p.getD (k-1) 0)=some (lt (gi p 0) (gi p (k-1))):=O.tot _ _ (I.lt (by omega)) (I.lt (by omega))
   unfold Ds
   rw [e]
   dsimp only
   cases c:lt (gi p 0) (gi p (k-1)) with
   | true =>
    rw [if_pos rfl]
    exact ⟨(k,p),rfl,I,a2,by show k≤n;omega,a4⟩
   | false =>
    rw [if_neg AE]
    have J:=I.rev 0 k
    have eqp:∀ a b,a<k->b<k->lt (gi p a) (gi p b)=false:=λa b ha hb=>by
     exact O.trans (gi p b) (gi p 0) (gi p a) (I.lt (by omega)) (I.lt (by omega)) (I.lt (by omega)) (O.trans (gi p b) (gi p (k-1)) (gi p 0) (I.lt (by omega)) (I.lt (by omega)) (I.lt (by omega)) (a4 b (k-1) (by omega) (by omega)) c) (a4 0 a (by omega) ha)
    refine IS O J (by omega) (by omega) (λa b ha hb=>?_) ?_
    ·rw [Ht (by rw [I.size];omega),Ht (by rw [I.size];omega),if_pos (by omega),if_pos (by omega)]
     exact eqp _ _ (by omega) (by omega)
    ·rw [Ht (by rw [I.size];omega),Ht (by rw [I.size];omega),if_neg (by omega),if_pos (by omega)]
     cases z:lt (gi p k) (gi p (0+k-1-(k-1))) with
     | true=>rfl
     | false =>
      have:=O.trans (gi p (k-1)) (gi p (0+k-1-(k-1))) (gi p k) (I.lt (by omega)) (I.lt (by omega)) (I.lt (by omega)) (eqp _ _ (by omega) (by omega)) z
      rw [lk] at this
      cases this
  ·rw [if_neg h1]
   exact IS O I a2 (by omega) (λa b ha hb=>by
    have:a=0:=by omega
    have:b=0:=by omega
    subst a b
    exact O.irr (I.lt (by omega))) lk
theorem JA (O:Pre n ask lt){p:Array Nat}(I:Ix' n p){k:Nat}(hk:k<n)(up:Up' lt p k):∀ (f l r:Nat),l≤r->r≤k->r-l≤f->(∀ j,j<l->lt (gi p k) (gi p j)=false)->(∀ j,r≤j->j<k->lt (gi p k) (gi p j)=true) ->
  ∃ m,Ds ask (PySem.W.kas_place p k f l r)=some m∧m≤k∧(∀ j,j<m->lt (gi p k) (gi p j)=false)∧∀ j,m≤j->j<k->lt (gi p k) (gi p j)=true
 | 0,l,r,h1,h2,h3,hl,hr=>⟨l,rfl,by omega,hl,λj a b=>hr j (by omega) b⟩
 | f+1,l,r,h1,h2,h3,hl,hr=>by
  unfold PySem.W.kas_place
  by_cases c:l ≥ r
  ·rw [if_pos c]
   exact ⟨l,rfl,by omega,hl,λj a b=>hr j (by omega) b⟩
  ·rw [if_neg c]
   have e:ask (p.getD k 0) (p.getD ((l+r) / 2) 0)=some (lt (gi p k) (gi p ((l+r) / 2))):=O.tot _ _ (I.lt hk) (I.lt (by omega))
   unfold Ds
   rw [e]
   dsimp only
   cases c2:lt (gi p k) (gi p ((l+r) / 2)) with
   | true =>
    rw [if_pos rfl]
    refine JA O I hk up f l ((l+r) / 2) (by omega) (by omega) (by omega) hl λj a b=>?_
    cases z:lt (gi p k) (gi p j) with
    | true=>rfl
    | false =>
     have:=O.trans (gi p ((l+r) / 2)) (gi p j) (gi p k) (I.lt (by omega)) (I.lt (by omega)) (I.lt hk) (up _ _ a b) z
     rw [c2] at this
     cases this
   | false =>
    rw [if_neg AE]
    refine JA O I hk up f ((l+r) / 2+1) r (by omega) (by omega) (by omega) (λj a=>?_) hr
    exact O.trans (gi p j) (gi p ((l+r) / 2)) (gi p k) (I.lt (by omega)) (I.lt (by omega)) (I.lt hk) (up _ _ (by omega) (by omega)) c2
theorem SK (O:Pre n ask lt):∀ (f:Nat) (p:Array Nat) (k:Nat),Ix' n p->1≤k->k+f=n->Up' lt p k->∃ r,Ds ask (PySem.W.kas_bin f p k)=some r∧Ix' n r∧Up' lt r n
 | 0,p,k,I,_,h,up=>⟨p,rfl,I,by have:k=n:=(by omega);subst this;exact up⟩
 | f+1,p,k,I,h1,h,up=>by
  obtain ⟨m,a1,a2,a3,a4⟩:=JA O I (k:=k) (by omega) up k 0 k (by omega) (by omega) (by omega) (λj hj=>by omega) (λj a b=>by omega)
  unfold PySem.W.kas_bin
  rw [Ep,a1]
  show ∃ r,Ds ask (PySem.W.kas_bin f (bubble p k (k-m)) (k+1))=some r∧_
  have hs:k<p.size:=by rw [I.size];omega
  have J:=I.bub k (k-m)
  have g:∀ j,gi (bubble p k (k-m)) j=if j=m then gi p k else if m<j∧j≤k then gi p (j-1) else gi p j:=λj=>by
   have:=Wq hs (d:=k-m) (by omega) j
   rw [show k-(k-m)=m by omega] at this
   exact this
  refine SK O f _ (k+1) J (by omega) (by omega) λa b hab hb=>?_
  rw [g a,g b]
  by_cases ea:a=m
  ·rw [if_pos ea]
   by_cases eb:b=m
   ·rw [if_pos eb];exact O.irr (I.lt (by omega))
   ·rw [if_neg eb,if_pos (by omega)]
    exact O.asym _ _ (I.lt (by omega)) (I.lt (by omega)) (a4 (b-1) (by omega) (by omega))
  ·rw [if_neg ea]
   by_cases eb:b=m
   ·rw [if_pos eb,if_neg (by omega)]
    exact a3 a (by omega)
   ·rw [if_neg eb]
    by_cases ca:m<a∧a≤k
    ·rw [if_pos ca,if_pos (by omega)];exact up _ _ (by omega) (by omega)
    ·rw [if_neg ca]
     by_cases cb:m<b∧b≤k
     ·rw [if_pos cb];exact up _ _ (by omega) (by omega)
     ·rw [if_neg cb];exact up _ _ (by omega) (by omega)
theorem Vi (O:Pre n ask lt)(hn:1≤n):∃ p,Ds ask (PySem.W.kas_sort n)=some p∧p.toList.Perm (List.range n)∧Up' lt p n:=by
 have I:Ix' n (List.toArray (List.range n)):=⟨by simp⟩
 obtain ⟨r,a1,a2,a3,a4,a5⟩:=R7 O I hn
 unfold PySem.W.kas_sort
 rw [Ep,a1]
 show ∃ p,Ds ask (if r.1<n then _ else _)=some p∧_
 by_cases c:r.1<n
 ·rw [if_pos c]
  obtain ⟨q,b1,b2,b3⟩:=SK O (n-max r.1 1) r.2 (max r.1 1) a2 (by omega) (by omega) (by rw [show max r.1 1=r.1 by omega];exact a5)
  exact ⟨q,b1,b2.pm,b3⟩
 ·rw [if_neg c]
  exact ⟨r.2,rfl,a2.pm,by rw [show n=r.1 by omega];exact a5⟩
end
end PV
namespace PV
open PySem L2 PySem.Spec PyProof.Rows
section
variable {X:Cx} {K:Zc} {th:List Addr} {mu:Sto} {H:Hp}
theorem Vals.pick {zs:List V}{us:List Value}(q:Vals zs us)(f:Nat->V)(g:Nat->Value):∀ (p:List Nat),(∀ i∈p,RelV (f i) (g i))->Vals (p.map f) (p.map g)
 | [],_=>.nil
 | i::p,h=>.cons (h i (.head _)) (Vals.pick q f g p λj hj=>h j (.tail _ hj))
theorem RepL.pick {ds:List D}{vs:List V}(f:Nat->D)(g:Nat->V):∀ (p:List Nat),(∀ i∈p,Rep K th H (f i) (g i))->RepL K th H (p.map f) (p.map g)
 | [],_=>.nil
 | i::p,h=>.cons (h i (.head _)) (RepL.pick (ds:=ds) (vs:=vs) f g p λj hj=>h j (.tail _ hj))
theorem CallV.or {f:Value}{g g':Fn}(h:CallV X f g)(h':CallV X f g'):CallV X f λds mu=>match g ds mu with|some r=>some r|none=>g' ds mu:=by
 intro pins s st H xs us Q I r q
 obtain ⟨th,mu,ds,so,rd,t⟩:=q
 cases e:g ds mu with
 | some p =>
  refine h pins s st H xs us Q I r ⟨th,mu,ds,so,rd,?_⟩
  rw [e];simpa only [e] using t
 | none =>
  refine h' pins s st H xs us Q I r ⟨th,mu,ds,so,rd,?_⟩
  simpa only [e] using t
end
mutual
theorem FV:∀ {d:D},hsh d=true->CU d=true
 | .non,_=>rfl
 | .int _,_=>rfl
 | .str _,_=>rfl
 | .tup ds,h=>by unfold hsh at h;unfold CU;exact La h
 | .bl _,h=>nomatch h
 | .lst _,h=>nomatch h
 | .dct _ _,h=>nomatch h
 | .set _,h=>nomatch h
 | .ref _,h=>nomatch h
theorem La:∀ {ds:List D},FA ds=true->Eg ds=true
 | [],_=>rfl
 | d::ds,h=>by
  unfold FA at h
  rw [Ac] at h
  unfold Eg
  rw [FV h.1,La h.2]
  rfl
end
mutual
theorem HC:∀ {d:D},hsh d=true->(toPy d).depth=dpt d
 | .non,_=>rfl
 | .int _,_=>rfl
 | .str _,_=>rfl
 | .tup ds,h=>by unfold hsh at h;unfold toPy PyData.depth dpt;rw [Ly h]
 | .bl _,h=>nomatch h
 | .lst _,h=>nomatch h
 | .dct _ _,h=>nomatch h
 | .set _,h=>nomatch h
 | .ref _,h=>nomatch h
theorem Ly:∀ {ds:List D},FA ds=true->PyData.depthAll (CD ds)=Ib ds
 | [],_=>rfl
 | d::ds,h=>by
  unfold FA at h
  rw [Ac] at h
  unfold CD PyData.depthAll Ib
  rw [HC h.1,Ly h.2]
end
mutual
theorem GA:∀ {d e:D},hsh d=true->hsh e=true->PyData.eqv (toPy d) (toPy e)=decide (d=e)
 | .tup ds,.tup es,h,g=>by
  unfold hsh at h g
  unfold toPy PyData.eqv
  rw [Mk h g]
  simp
 | .non,e,_,g=>by cases e<;>first|rfl|(simp [toPy,PyData.eqv];done)|cases g
 | .int i,.int j,_,_=>by by_cases c:i=j<;>simp [toPy,PyData.eqv,c]
 | .str i,.str j,_,_=>by by_cases c:i=j<;>simp [toPy,PyData.eqv,c]
 | .int _,.non,_,g=>by simp [toPy,PyData.eqv]
 | .int _,.str _,_,g=>by simp [toPy,PyData.eqv]
 | .int _,.tup _,_,g=>by simp [toPy,PyData.eqv]
 | .str _,.non,_,g=>by simp [toPy,PyData.eqv]
 | .str _,.int _,_,g=>by simp [toPy,PyData.eqv]
 | .str _,.tup _,_,g=>by simp [toPy,PyData.eqv]
 | .int _,.bl _,_,g=>nomatch g
 | .int _,.lst _,_,g=>nomatch g
 | .int _,.dct _ _,_,g=>nomatch g
 | .int _,.set _,_,g=>nomatch g
 | .int _,.ref _,_,g=>nomatch g
 | .str _,.bl _,_,g=>nomatch g
 | .str _,.lst _,_,g=>nomatch g
 | .str _,.dct _ _,_,g=>nomatch g
 | .str _,.set _,_,g=>nomatch g
 | .str _,.ref _,_,g=>nomatch g
 | .tup _,.non,_,_=>by simp [toPy,PyData.eqv]
 | .tup _,.int _,_,_=>by simp [toPy,PyData.eqv]
 | .tup _,.str _,_,_=>by simp [toPy,PyData.eqv]
 | .tup _,.bl _,_,g=>nomatch g
 | .tup _,.lst _,_,g=>nomatch g
 | .tup _,.dct _ _,_,g=>nomatch g
 | .tup _,.set _,_,g=>nomatch g
 | .tup _,.ref _,_,g=>nomatch g
 | .bl _,_,h,_=>nomatch h
 | .lst _,_,h,_=>nomatch h
 | .dct _ _,_,h,_=>nomatch h
 | .set _,_,h,_=>nomatch h
 | .ref _,_,h,_=>nomatch h
theorem Mk:∀ {ds es:List D},FA ds=true->FA es=true->PyData.eqvAll (CD ds) (CD es)=decide (ds=es)
 | [],[],_,_=>by simp [CD,PyData.eqvAll]
 | [],_::_,_,_=>by simp [CD,PyData.eqvAll]
 | _::_,[],_,_=>by simp [CD,PyData.eqvAll]
 | d::ds,e::es,h,g=>by
  unfold FA at h g
  rw [Ac] at h g
  unfold CD PyData.eqvAll
  rw [GA h.1 g.1,Mk h.2 g.2]
  by_cases c:d=e<;>by_cases c':ds=es<;>simp [c,c']
end
theorem DU {d:D}(h:D7 d=true):hsh d=true∧dpt d≤8:=by
 unfold D7 at h
 rw [Ac,Af] at h
 exact h
structure Hd (h:Heap) (d:D) (u:Value):Prop where
 k:D7 d=true
 ok:(toPy d).canLay0=true
 rd:∃ as,Reads h u (toPy d) as
theorem Ii {X:Cx}{th:List Addr}{H:Hp}{pins:List (Addr×Obj)}{st:L2.St}{s:Shared}(I:L2.Inv X pins st H s){d:D}{v:V}{u:Value}(k:D7 d=true)(r:Rep X.z th H d v)(q:RelV v u):Hd s.heap d u:=by
 obtain ⟨as,h1,h2⟩:=EC I d v u (FV (DU k).1) r q
 exact ⟨k,h2,as,h1⟩
section
variable {prog:Program} {w:World} {E:Value->Shared->Prop}
mutual
theorem SA:∀ (d:D) (u:Value) (as:List Addr) (A:Around) (s:Shared) (Q:Int->Shared->Prop),hsh d=true->Reads s.heap u (toPy d) as->A.units+dpt d<cLine->(∀ tk,Q (CA w d) { s with toks:=tk })->wpAny (model prog w) A (pyHash u) Q E s
 | .non,_,as,A,s,Q,_,x,hu,h=>by
  cases x
  exact PySem.W.pyHash_slot (T:="NoneType") rfl F.slot_NoneType_hash F.entry_NoneType_hash (F.args_NoneType_hash_1 _) (beq_builtin_none _) (.inr (by unfold dpt at hu;omega)) (Aa (Ab (Aa (wpAny_mkInt (Ab ⟨_,_,rfl,h _⟩)))))
 | .int i,_,as,A,s,Q,_,x,_,h=>by cases x;exact wpAny_pyHash_int (h _)
 | .str y,_,as,A,s,Q,_,x,_,h=>by cases x;exact wpAny_pyHash_str (h _)
 | .tup ds,_,as,A,s,Q,hk,x,hu,h=>by
  unfold toPy at x
  cases x with
  | @tuple a o vs n _ _ g1 g2 g3 hw =>
   unfold dpt at hu
   refine PySem.W.pyHash_slot (T:="tuple") ⟨_,g1,g2⟩ F.slot_tuple_hash F.entry_tuple_hash (F.args_tuple_hash_1 _) (beq_builtin_none _) (.inr (by omega)) ?_
   refine (?_:wpAny _ _ (Builtin.Tuple.tupleItemsOf (.ref a) >>= _) _ _ s)
   refine Aa (wpAny_tupleItemsOf g1 g3 (Aa ?_))
   rw [← Array.forIn_toList]
   refine OS ds vs.toList as A.in1 s #[] _ (by unfold hsh at hk;exact hk) hw (by rw [Around.in1_units];omega) λtk b hb=>?_
   refine (?_:wpAny _ _ (retInt (Builtin.Tuple.tupleHashOf b.toList)) _ _ _)
   rw [hb]
   exact Aa (wpAny_mkInt (Ab ⟨_,_,rfl,h _⟩))
 | .bl _,_,_,_,_,_,h,_,_,_=>nomatch h
 | .lst _,_,_,_,_,_,h,_,_,_=>nomatch h
 | .dct _ _,_,_,_,_,_,h,_,_,_=>nomatch h
 | .set _,_,_,_,_,_,h,_,_,_=>nomatch h
 | .ref _,_,_,_,_,_,h,_,_,_=>nomatch h
theorem OS:∀ (ds:List D) (vs:List Value) (as:List Addr) (A:Around) (s:Shared) (b:Array Int) (Q:Array Int->Shared->Prop),FA ds=true->ReadsAll s.heap vs (CD ds) as->A.units+Ib ds<cLine ->
  (∀ tk b',b'.toList=b.toList++E3 w ds->Q b' { s with toks:=tk }) ->
  wpAny (model prog w) A (forIn vs b λx r=>do let h←pyHash x;pure PUnit.unit;pure (ForInStep.yield (r.push h))) Q E s
 | [],_,as,A,s,b,Q,_,x,_,h=>by unfold CD at x;cases x;exact Ab (h s.toks b (by simp [E3]))
 | d::ds,_,as,A,s,b,Q,hk,x,hu,h=>by
  unfold CD at x
  cases x with
  | cons x1 x2 =>
   unfold FA at hk
   rw [Ac] at hk
   unfold Ib at hu
   rw [B9]
   refine Aa (Aa (SA d _ _ A s _ hk.1 x1 (by omega) λtk=>Aa (Ab (Ab ?_))))
   exact OS ds _ _ A { s with toks:=tk } _ Q hk.2 x2 (by omega) λtk' b' hb=>h tk' b' (by simp [hb,E3])
end
theorem Hd.hash {A:Around}{s:Shared}{d:D}{u:Value}{Q:Int->Shared->Prop}(x:Hd s.heap d u)(hu:A.units+8<cLine)(h:∀ tk,Q (CA w d) { s with toks:=tk }):wpAny (model prog w) A (pyHash u) Q E s:=by
 obtain ⟨as,r⟩:=x.rd
 have:=DU x.k
 exact SA d u as A s Q this.1 r (by omega) h
theorem Hd.eq {A:Around}{s:Shared}{d e:D}{u v:Value}{Q:Bool->Shared->Prop}(x:Hd s.heap d u)(y:Hd s.heap e v)(hu:A.units+8<cLine)(h:Q (decide (d=e)) s):wpAny (model prog w) A (eqBool u v) Q E s:=by
 obtain ⟨as,r⟩:=x.rd
 obtain ⟨bs,r'⟩:=y.rd
 have k1:=DU x.k
 have k2:=DU y.k
 refine SeqAt.eqAt_reads _ _ A s u v as bs r r' x.ok y.ok (by rw [HC k1.1,HC k2.1];omega) prog w E Q ?_
 rw [GA k1.1 k2.1]
 exact h
mutual
theorem Ou:∀ (n:Nat) (d:D) (u:Value) (as:List Addr) (A:Around) (s:Shared) (Q:Bool->Shared->Prop),hsh d=true->dpt d≤n->Reads s.heap u (toPy d) as->Q true s->wpAny (model prog w) A (eqIsQuiet n u) Q E s
 | n,.non,_,as,A,s,Q,_,_,x,h=>by cases x;rw [eqIsQuiet_byValue n rfl];exact Ab h
 | n,.int _,_,as,A,s,Q,_,_,x,h=>by cases x;rw [eqIsQuiet_byValue n rfl];exact Ab h
 | n,.str _,_,as,A,s,Q,_,_,x,h=>by cases x;rw [eqIsQuiet_byValue n rfl];exact Ab h
 | n,.tup ds,_,as,A,s,Q,hk,hn,x,h=>by
  unfold toPy at x
  cases x with
  | @tuple a o vs k _ _ g1 g2 g3 hw =>
   unfold dpt at hn
   obtain ⟨m,rfl⟩:∃ m,n=m+1:=⟨n-1,by omega⟩
   have hT:s.TypeIs (.ref a) "tuple":=⟨o,g1,g2⟩
   unfold eqIsQuiet
   refine Aa (wpAny_specialOf hT F.slot_tuple_eq.lookup ?_)
   refine (?_:wpAny _ _ (isInstance (.ref a) (.type "tuple") >>= _) _ _ s)
   refine Aa (B3 hT isSubtype_tuple_tuple ?_)
   simp only [Bool.not_true,Az,A7]
   refine Aa (Bp g1 g3 (Aa ?_))
   refine (?_:wpAny _ _ (forIn vs _ _) _ _ s)
   rw [← Array.forIn_toList]
   exact Nc m ds vs.toList as A s _ (by unfold hsh at hk;exact hk) (by omega) hw (Ab h)
 | _,.bl _,_,_,_,_,_,h,_,_,_=>nomatch h
 | _,.lst _,_,_,_,_,_,h,_,_,_=>nomatch h
 | _,.dct _ _,_,_,_,_,_,h,_,_,_=>nomatch h
 | _,.set _,_,_,_,_,_,h,_,_,_=>nomatch h
 | _,.ref _,_,_,_,_,_,h,_,_,_=>nomatch h
theorem Nc:∀ (m:Nat) (ds:List D) (vs:List Value) (as:List Addr) (A:Around) (s:Shared) (Q:Option Bool×PUnit->Shared->Prop),FA ds=true->Ib ds≤m->ReadsAll s.heap vs (CD ds) as->Q (none,PUnit.unit) s ->
  wpAny (model prog w) A (forIn vs ((none,PUnit.unit):Option Bool×PUnit) λy r=>do
    let q←eqIsQuiet m y
    if (!q)=true then pure (ForInStep.done (some false,PUnit.unit)) else pure (ForInStep.yield (none,PUnit.unit))) Q E s
 | m,[],_,as,A,s,Q,_,_,x,h=>by unfold CD at x;cases x;exact Ab h
 | m,d::ds,_,as,A,s,Q,hk,hn,x,h=>by
  unfold CD at x
  cases x with
  | cons x1 x2 =>
   unfold FA at hk
   rw [Ac] at hk
   unfold Ib at hn
   rw [B9]
   refine Aa (Aa (Ou m d _ _ A s _ hk.1 (by omega) x1 ?_))
   simp only [Bool.not_true,Az,A7]
   exact Ab (Nc m ds _ _ A s Q hk.2 (by omega) x2 h)
end
theorem Hd.quiet {A:Around}{s:Shared}{d:D}{u:Value}{Q:Bool->Shared->Prop}(x:Hd s.heap d u)(h:Q true s):wpAny (model prog w) A (eqIsQuiet 8 u) Q E s:=by
 obtain ⟨as,r⟩:=x.rd
 have k:=DU x.k
 exact Ou 8 d u as A s Q k.1 k.2 r h
end
noncomputable def EnK (w:World)(h:Heap)(k:D)(e:DictEntry):Prop:=e.hash=CA w k∧Hd h k e.key
theorem Dh {α β:Type}{F:α->β->Prop}:∀ {xs:List α} {ys:List β},Paired F xs ys->∀ j:Nat,(∀ x,xs[j]? = some x->∃ y,ys[j]? = some y∧F x y)∧(∀ y,ys[j]? = some y->∃ x,xs[j]? = some x∧F x y)
 | _,_,.nil,j=>⟨λx e=>by simp at e,λy e=>by simp at e⟩
 | _,_,.cons r t,0=>⟨λx e=>by simp at e;subst e;exact ⟨_,rfl,r⟩,λy e=>by simp at e;subst e;exact ⟨_,rfl,r⟩⟩
 | _,_,.cons r t,j+1=>by simpa using Dh t j
theorem Df {α β:Type}{F:α->β->Prop}:∀ {xs:List α} {ys:List β},Paired F xs ys->xs.length=ys.length
 | _,_,.nil=>rfl
 | _,_,.cons _ t=>by simp [Df t]
theorem Rt {h:Heap}{k:D}{y:Str}{t:Tok}(x:Hd h k (.str y t)):k=.str y:=by
 obtain ⟨as,r⟩:=x.rd
 have hk:=(DU x.k).1
 cases k<;>first|(cases hk;done)|(unfold toPy at r;cases r;done)|(unfold toPy at r;cases r;rfl)
theorem VO {h:Heap}{k k':D}{u:Value}(x:Hd h k u)(y:Hd h k' u):k=k':=by
 obtain ⟨as,r⟩:=x.rd
 obtain ⟨bs,r'⟩:=y.rd
 have hk:=(DU x.k).1
 have hk':=(DU y.k).1
 have e:toPy k=toPy k':=SeqAt.Reads.unique _ _ _ _ _ x.ok r r'
 have:=GA hk hk'
 rw [← e,GA hk hk] at this
 simpa using this
theorem VL {ks:List D}(hn:ks.Nodup){i j:Nat}{k:D}(a:ks[i]? = some k)(b:ks[j]? = some k):i=j:=by
 obtain ⟨hi,ei⟩:=Ae.mp a
 exact (List.getElem?_inj hi hn).mp (a.trans b.symm)
section
variable {prog:Program} {w:World} {A:Around} {E:Value->Shared->Prop} {s:Shared}
theorem FP {α:Type}{M:Model}{c:Prop} [Decidable c]{x y:Sem α}{Q:α->Shared->Prop}(h1:c->wpAny M A x Q E s)(h2:¬ c->wpAny M A y Q E s):wpAny M A (if c then x else y) Q E s:=by
 by_cases h:c
 ·rw [if_pos h];exact h1 h
 ·rw [if_neg h];exact h2 h
theorem T7 {k:D}{u:Value}{stored:List Value}{Q:Bool->Shared->Prop}(hk:Hd s.heap k u)(hst:∀ v∈stored,∃ k',Hd s.heap k' v)(h:Q false s):wpAny (model prog w) A (tableMayTell u stored) Q E s:=by
 unfold tableMayTell
 split
 ·exact Ab h
 ·refine Aa (hk.quiet ?_)
  simp only [Bool.not_true,Az,A7]
  refine Aa (wpAny_forIn_list _ (λrest r s'=>s'=s∧r=(none,PUnit.unit)∧∀ v∈rest,∃ k',Hd s.heap k' v) _ ?_ ?_ _ _ ⟨rfl,rfl,hst⟩)
  ·rintro x rest r s' ⟨rfl,rfl,hr⟩
   obtain ⟨k',hb⟩:=hr x List.mem_cons_self
   refine Aa (hb.quiet ?_)
   simp only [Bool.not_true,Az,A7]
   exact Ab ⟨rfl,rfl,λv hv=>hr v (BR _ hv)⟩
  ·rintro r s' ⟨rfl,rfl,_⟩;exact Ab h
theorem Va {h:Heap}{p:PyData}{u:Value}{as:List Addr}(r:Reads h u p as):u=.none∨(∃ i t,u=.int i t)∨(∃ x t,u=.str x t)∨(∃ b,u=.ref b)∨∃ b,p=.bool b:=by
 cases r
 all_goals first|exact .inl rfl|exact .inr (.inl ⟨_,_,rfl⟩)|exact .inr (.inr (.inl ⟨_,_,rfl⟩))|exact .inr (.inr (.inr (.inl ⟨_,rfl⟩)))|exact .inr (.inr (.inr (.inr ⟨_,rfl⟩)))
theorem Tn {h:Heap}{k:D}{u:Value}(hk:Hd h k u):u=.none∨(∃ i t,u=.int i t)∨(∃ x t,u=.str x t)∨∃ b,u=.ref b:=by
 obtain ⟨as,r⟩:=hk.rd
 have hh:=(DU hk.k).1
 rcases Va r with h|h|h|h|⟨b,h⟩
 ·exact .inl h
 ·exact .inr (.inl h)
 ·exact .inr (.inr (.inl h))
 ·exact .inr (.inr (.inr h))
 ·cases k<;>first|(cases hh;done)|(unfold toPy at h;cases h;done)
theorem LX {a:Addr}{o:Obj}{es:Array DictEntry}{ep:Nat}{ks:List D}{k:D}{u:Value}{Q:Option Nat->Shared->Prop}(hu:A.units+8<cLine)(hk:Hd s.heap k u)(ho:s.heap.get? a=some o)(hd:o.data=.dict es ep)
  (he:Paired (EnK w s.heap) ks es.toList) (hn:ks.Nodup) (h0:k∉ks->Q none s) (h1:∀ j,ks[j]? = some k->Q (some j) s):wpAny (model prog w) A (dictFind a u (CA w k)) Q E s:=by
 have hat:∀ j e,es[j]? = some e->∃ k',ks[j]? = some k'∧EnK w s.heap k' e:=λj e q=>(Dh he j).2 e (by rw [Ax];exact q)
 have hto:∀ j k',ks[j]? = some k'->∃ e,es[j]? = some e∧EnK w s.heap k' e:=λj k' q=>by
  obtain ⟨e,e1,e2⟩:=(Dh he j).1 k' q
  exact ⟨e,by rw [← Ax];exact e1,e2⟩
 have hsz:es.size=ks.length:=by rw [Df he,Array.length_toList]
 have hno:(∀ j,ks[j]?≠some k)->k∉ks:=λq z=>by obtain ⟨j,e⟩:=AO.mp z;exact q j e
 unfold dictFind
 try with_reducible refine AI ?_
 refine Aa (BD ho hd ?_)
 have hp:∀ j,ks[j]? = some k->(es[j]?.map (λe:DictEntry=>e.hash)==some (CA w k))=true:=λj q=>by
  obtain ⟨e,e1,e2,_⟩:=hto j k q
  rw [e1];simp [e2]
 have walk:wpAny (model prog w) A (dictWalkPlain a u (CA w k) es (placesWithHash es.size (λi=>es[i]?.map (λe:DictEntry=>e.hash)) (CA w k))) Q E s:=by
  unfold dictWalkPlain
  refine Aa (wpAny_forIn_list _ (λrest b s'=>s'=s∧b=(none,PUnit.unit)∧∃ i,rest=(List.range' i (es.size-i)).filter (λi=>es[i]?.map (λe:DictEntry=>e.hash)==some (CA w k))∧i≤es.size∧∀ j,j<i->ks[j]?≠some k) _ ?_ ?_ _ _
   ⟨rfl,rfl,0,by rw [placesWithHash,List.range_eq_range',Nat.sub_zero],AW _,λj z=>absurd z (Nat.not_lt_zero _)⟩)
  ·rintro x rest b s' ⟨rfl,rfl,i,hr,hi,hH⟩
   obtain ⟨hix,hxn,hpx,hskip,hrest⟩:=filter_range'_cons _ _ _ _ _ hr.symm
   have hlt:x<es.size:=by omega
   have ex:es[x]? = some es[x]:=Aq hlt
   obtain ⟨k',e1,e2,e3⟩:=hat x _ ex
   rw [ex] at hpx ⊢
   have hh:es[x].hash=CA w k:=by simpa using hpx
   have hh':(es[x].hash==CA w k)=true:=by simpa using hh
   have nx:∀ j,j<x->ks[j]?≠some k:=λj hj q=>by
    rcases Bv j i with z|z
    ·exact hH j z q
    ·have:=hskip j z hj;rw [hp j q] at this;cases this
   dsimp only
   rw [if_pos hh']
   refine Aa (Bx ho hd (Aa (e3.eq hk hu (Aa (Bx ho hd ?_)))))
   rw [if_neg (by simp)]
   by_cases c:k'=k
   ·rw [BM c]
    subst c
    exact Aa (Bo (Ab (Ab (h1 x e1))))
   ·rw [A9 c]
    refine Aa (Bo (Ab ⟨rfl,rfl,x+1,by rw [hrest];congr 2;omega,hlt,λj hj q=>?_⟩))
    rcases Bv j x with z|z
    ·exact nx j z q
    ·have:j=x:=by omega
     subst this
     rw [e1] at q
     exact c (AB q)
  ·rintro b s' ⟨rfl,rfl,i,hr,hi,hH⟩
   refine Ab (h0 (hno λj q=>?_))
   rcases Bv j i with z|z
   ·exact hH j z q
   ·have hj:j<es.size:=by rw [hsz];exact (Ae.mp q).1
    have:=List.filter_eq_nil_iff.mp hr.symm j (List.mem_range'_1.mpr ⟨z,by omega⟩)
    exact this (hp j q)
 have hst:∀ v∈(placesWithHash es.size (λi=>es[i]?.map (λe:DictEntry=>e.hash)) (CA w k)).filterMap (λi=>es[i]?.map (λe:DictEntry=>e.key)),∃ k',Hd s.heap k' v:=λv hv=>by
  obtain ⟨i,_,hi⟩:=List.mem_filterMap.mp hv
  cases ei:es[i]? with
  | none=>rw [ei] at hi;cases hi
  | some e =>
   rw [ei] at hi
   obtain rfl:e.key=v:=by simpa using hi
   obtain ⟨k',_,_,q⟩:=hat i e ei
   exact ⟨k',q⟩
 have hany:∀ b,u=.ref b->¬ (es.any λe=>e.key==u&&e.hash != CA w k)=true:=λb hb=>by
  rw [← Array.any_toList,List.any_eq_true]
  rintro ⟨e,hin,hc⟩
  obtain ⟨j,ej⟩:=AO.mp hin
  obtain ⟨k',_,q1,q2⟩:=hat j e (by rw [← Ax];exact ej)
  rw [Ac,bne_iff_ne] at hc
  have ek:e.key=u:=eq_of_beq hc.1
  rw [ek] at q2
  exact hc.2 (by rw [q1,VO q2 hk])
 have c4:=Tn hk
 have str:∀ x t,u=.str x t->(es.all λe=>isExactStrKey e.key)=true->wpAny (model prog w) A (foundByValue a u es x) Q E s:=λx t hux hall=>by
  subst hux
  have kx:=Rt hk
  subst kx
  have hiff:∀ e∈es.toList,∀ k',Hd s.heap k' e.key->(e.key.isStr x=true ↔ k'=.str x):=λe hm k' q=>by
   rw [← Array.all_toList,Aw] at hall
   have:=hall e hm
   cases ek:e.key<;>rw [ek] at this q<;>first|(cases this;done)|skip
   rename_i y ty
   rw [Rt q]
   show (y==x)=true ↔ _
   simp
  have hidx:es.findIdx? (λe=>e.key.isStr x)=es.toList.findIdx? (λe=>e.key.isStr x):=by cases es;simp
  unfold foundByValue
  rw [hidx]
  cases hr:es.toList.findIdx? (λe=>e.key.isStr x) with
  | none =>
   refine Ab (h0 (hno λj q=>?_))
   obtain ⟨e,e1,e2,e3⟩:=hto j _ q
   have hm:e∈es.toList:=Am (by rw [Ax];exact e1)
   have:=List.findIdx?_eq_none_iff.mp hr e hm
   rw [(hiff e hm _ e3).mpr rfl] at this
   cases this
  | some j =>
   obtain ⟨hj,hpj,_⟩:=List.findIdx?_eq_some_iff_getElem.mp hr
   have he':es[j]? = some es.toList[j]:=by rw [← Ax];exact Ak hj
   obtain ⟨k',e1,e2,e3⟩:=hat j _ he'
   have kk:=(hiff _ (BG hj) _ e3).mp hpj
   subst kk
   dsimp only
   rw [he']
   dsimp only
   refine Aa (Bx ho hd (Aa (e3.eq hk hu (Aa (Bx ho hd ?_)))))
   rw [if_neg (by simp),BM rfl]
   exact Aa (Bo (Ab (h1 j e1)))
 obtain ⟨u',hu'⟩:∃ u',u'=u:=⟨u,rfl⟩
 have hA:∀ v,eqBool v u=eqBool v u':=λv=>by rw [hu']
 have hB:keyPart u=keyPart u':=by rw [hu']
 have hk':Hd s.heap k u':=by rw [hu'];exact hk
 simp only [hA,hB]
 clear hA hB hu'
 refine (λtail=>?main) (?tail:wpAny (model prog w) A ?T Q E s)
 case main =>
  rcases c4 with rfl|⟨i,t,rfl⟩|⟨x,t,rfl⟩|⟨b,rfl⟩
  case' inl=>refine FP (λ_=>walk) λ_=>?_
  case' inr.inl=>refine FP (λ_=>walk) λ_=>?_
  case' inr.inr.inl=>refine FP (λhall=>str x t rfl hall) λ_=>FP (λ_=>walk) λ_=>?_
  case' inr.inr.inr=>refine FP (λ_=>walk) λ_=>?_
  case' inr.inr.inr=>refine FP (λz=>absurd z (hany b rfl)) λ_=>?_
  all_goals
   refine FP (λ_=>Aa (Ab ?_)) (λ_=>Aa (T7 hk hst ?_))<;>(
    refine FP (λz=>absurd z (by simp)) λ_=>?_
    exact tail)
 case tail =>
  refine Aa (wpAny_forIn_list _ (λrest b s'=>s'=s∧∃ i hit,b=(none,hit)∧rest=(List.range' i (es.size-i)).filter (λi=>es[i]?.map (λe:DictEntry=>e.hash)==some (CA w k))∧i≤es.size ∧
    ((hit=none∧∀ j,j<i->ks[j]?≠some k)∨∃ j,hit=some j∧j<i∧ks[j]? = some k)) _ ?_ ?_ _ _
   ⟨rfl,0,none,rfl,by rw [placesWithHash,List.range_eq_range',Nat.sub_zero],AW _,.inl ⟨rfl,λj z=>absurd z (Nat.not_lt_zero _)⟩⟩)
  ·rintro x rest b s' ⟨rfl,i,hit,rfl,hr,hi,hH⟩
   obtain ⟨hix,hxn,hpx,hskip,hrest⟩:=filter_range'_cons _ _ _ _ _ hr.symm
   have hlt:x<es.size:=by omega
   have hrest':rest=(List.range' (x+1) (es.size-(x+1))).filter (λi=>es[i]?.map (λe:DictEntry=>e.hash)==some (CA w k)):=by rw [hrest];congr 2;omega
   have ex:es[x]? = some es[x]:=Aq hlt
   obtain ⟨k',e1,e2,e3⟩:=hat x _ ex
   rw [ex] at hpx ⊢
   have hh:es[x].hash=CA w k:=by simpa using hpx
   have hh':(es[x].hash==CA w k)=true:=by simpa using hh
   have hx:(hit=none∧∀ j,j<x->ks[j]?≠some k)∨∃ j,hit=some j∧j<x∧ks[j]? = some k:=by
    rcases hH with ⟨z0,hno'⟩|⟨j,z1,hji,hj⟩
    ·refine .inl ⟨z0,λj hj q=>?_⟩
     rcases Bv j i with z|z
     ·exact hno' j z q
     ·have:=hskip j z hj;rw [hp j q] at this;cases this
    ·exact .inr ⟨j,z1,by omega,hj⟩
   dsimp only
   rw [if_pos hh']
   refine Aa (Bx ho hd (Aa (e3.eq hk' hu (Aa (Bx ho hd ?_)))))
   rw [if_neg (by simp)]
   by_cases c:k'=k
   ·rw [BM c]
    subst c
    rcases hx with ⟨rfl,_⟩|⟨j,_,hjx,hj⟩
    ·simp only [Option.isSome_none,Az,A7,if_true]
     refine Aa (Bo ?_)
     split
     ·exact Ab (Ab (h1 x e1))
     ·exact Ab ⟨rfl,x+1,some x,rfl,hrest',hlt,.inr ⟨x,rfl,AV x,e1⟩⟩
    ·exact absurd (VL hn hj e1) (by omega)
   ·rw [A9 c]
    simp only [Az,A7,Bool.false_and]
    refine Aa (Bo (Ab ⟨rfl,x+1,hit,rfl,hrest',hlt,?_⟩))
    rcases hx with ⟨z0,hno'⟩|⟨j,z1,hji,hj⟩
    ·refine .inl ⟨z0,λj hj q=>?_⟩
     rcases Bv j x with z|z
     ·exact hno' j z q
     ·have:j=x:=by omega
      subst this
      rw [e1] at q
      exact c (AB q)
    ·exact .inr ⟨j,z1,by omega,hj⟩
  ·rintro b s' ⟨rfl,i,hit,rfl,hr,hi,hH⟩
   rcases hH with ⟨rfl,hno'⟩|⟨j,rfl,_,hj⟩
   ·refine Ab (h0 (hno λj q=>?_))
    rcases Bv j i with z|z
    ·exact hno' j z q
    ·have hj:j<es.size:=by rw [hsz];exact (Ae.mp q).1
     exact List.filter_eq_nil_iff.mp hr.symm j (List.mem_range'_1.mpr ⟨z,by omega⟩) (hp j q)
   ·exact Ab (h1 j hj)
end
noncomputable def E4 (k:D):List D->List D->Option D
 | k'::ks,d::ds=>if k'=k then some d else E4 k ks ds
 | _,_=>none
noncomputable def HU (k v:D):List D->List D->List D
 | k'::ks,d::ds=>(if k'=k then v else d)::HU k v ks ds
 | _,ds=>ds
noncomputable def DX (k v:D)(ks ds:List D):List D×List D:=if k∈ks then (ks,HU k v ks ds) else (ks++[k],ds++[v])
theorem G7 {k:D}:∀ {ks ds:List D},k∉ks->E4 k ks ds=none
 | [],_,_=>rfl
 | _::_,[],_=>rfl
 | k'::ks,d::ds,h=>by
  rw [An,not_or] at h
  rw [E4,if_neg (λe=>h.1 e.symm),G7 h.2]
theorem Jl {k:D}:∀ {ks ds:List D} {j:Nat},ks.Nodup->ks[j]? = some k->E4 k ks ds=ds[j]?
 | [],_,_,_,e=>by simp at e
 | _::_,[],_,_,_=>by simp [E4]
 | k'::ks,d::ds,0,n,e=>by simp at e;subst e;simp [E4]
 | k'::ks,d::ds,j+1,n,e=>by
  rw [Bm] at n
  simp at e
  have:k'≠k:=λz=>n.1 (by rw [z];exact Am e)
  rw [E4,if_neg this,Jl n.2 e]
  rfl
theorem MI {k v:D}:∀ {ks ds:List D},k∉ks->HU k v ks ds=ds
 | [],_,_=>rfl
 | _::_,[],_=>rfl
 | k'::ks,d::ds,h=>by
  rw [An,not_or] at h
  rw [HU,if_neg (λe=>h.1 e.symm),MI h.2]
theorem LM {k v:D}:∀ {ks ds:List D} {j:Nat},ks.Nodup->ks[j]? = some k->HU k v ks ds=ds.set j v
 | [],_,_,_,e=>by simp at e
 | _::_,[],_,_,_=>by simp [HU]
 | k'::ks,d::ds,0,n,e=>by
  simp at e
  subst e
  rw [Bm] at n
  rw [HU,if_pos rfl,MI n.1]
  rfl
 | k'::ks,d::ds,j+1,n,e=>by
  rw [Bm] at n
  simp at e
  have:k'≠k:=λz=>n.1 (by rw [z];exact Am e)
  rw [HU,if_neg this,LM n.2 e]
  rfl
noncomputable def DcAt (K:Zc)(th:List Addr)(H:Hp)(a:Addr)(ks ds:List D):Prop:=∃ xs,H a=some (E1 a xs)∧xs.map (·.1)=E3 K.w ks∧RepL K th H ks (xs.map (·.2.1))∧RepL K th H ds (xs.map (·.2.2))∧KeysOk ks
noncomputable def EA (mu:Sto):D->Option (List D×List D)
 | .dct ks ds=>some (ks,ds)
 | .ref k=>match mu[k]? with
  | some (.dct ks ds)=>some (ks,ds)
  | _=>none
 | _=>none
section
variable {X:Cx} {K:Zc} {th:List Addr} {mu:Sto} {H:Hp} {pins:List (Addr×Obj)} {st:L2.St} {s:Shared} {A:Around} {E:Value->Shared->Prop}
theorem Er (so:StoOk K th mu H){d:D}{p:List D×List D}{v:V}(h:EA mu d=some p)(r:Rep K th H d v):∃ a,v=.ref a∧DcAt K th H a p.1 p.2:=by
 unfold EA at h
 split at h
 ·cases h;unfold Rep at r;obtain ⟨a,xs,rfl,_,h1⟩:=r;exact ⟨a,rfl,xs,h1⟩
 ·split at h
  ·rename_i k _ ks ds e
   cases h
   unfold Rep at r
   obtain ⟨a,rfl,ha⟩:=r
   exact ⟨a,rfl,so.at' k a _ ha e⟩
  ·cases h
 ·cases h
structure DcO (X:Cx) (th:List Addr) (H:Hp) (s:Shared) (a:Addr) (ks ds:List D) (xs:List (Int×V×V)) (o:Obj) (es:Array DictEntry) (ep:Nat):Prop where
 ns:(a==sysModules)=false
 at':s.heap.get? a=some o
 ex:o.ExactDict
 dt:o.data=.dict es ep
 pr:Paired (λ(x:Int×V×V) (e:DictEntry)=>e.hash=x.1∧RelV x.2.1 e.key∧RelV x.2.2 e.val) xs es.toList
 en:Paired (EnK X.w s.heap) ks es.toList
 xl:xs.length=ks.length
 dl:ds.length=ks.length
theorem Ji {α β:Type}{F:α->β->Prop}:∀ {xs:List α} {ys:List β},xs.length=ys.length->(∀ (j:Nat) x y,xs[j]? = some x->ys[j]? = some y->F x y)->Paired F xs ys
 | [],[],_,_=>.nil
 | [],_::_,h,_=>by simp at h
 | _::_,[],h,_=>by simp at h
 | x::xs,y::ys,h,f=>.cons (f 0 x y rfl rfl) (Ji (by simpa using h) λj a b e1 e2=>f (j+1) a b (by simpa using e1) (by simpa using e2))
theorem Hf (I:L2.Inv X pins st H s){a:Addr}{ks ds:List D}(h:DcAt X.z th H a ks ds):∃ xs o es ep,H a=some (E1 a xs)∧DcO X th H s a ks ds xs o es ep:=by
 obtain ⟨xs,h1,h2,h3,h4,h5⟩:=h
 obtain ⟨⟨z,o,es,ep,g1,g2,g3,g4⟩,_⟩:=(show ObjOk X.prog X.w H s.heap a (E1 a xs) from I.hok a _ h1)
 have xl:xs.length=ks.length:=by have:=h3.len;simpa using this
 refine ⟨xs,o,es,ep,h1,z,g1,g2,g3,g4,?_,xl,by have:=h4.len;rw [Ah] at this;omega⟩
 refine Ji (by rw [← Df g4,xl]) λj k e e1 e2=>?_
 obtain ⟨x,q1,q2,q3,q4⟩:=(Dh g4 j).2 e e2
 have hh:(xs.map (·.1))[j]? = (E3 X.w ks)[j]?:=by rw [h2]
 rw [Fy,Ap,Ap,q1,e1] at hh
 obtain ⟨v,v1,v2⟩:=h3.get e1
 rw [Ap,q1] at v1
 have v1':x.2.1=v:=by simpa using v1
 refine ⟨by rw [q2];simpa using hh,Ii I (h5.ok k (Am e1)) v2 (by rw [← v1'];exact q3)⟩
theorem VS (I:L2.Inv X pins st H s){a:Addr}{ks ds:List D}(h:DcAt X.z th H a ks ds){k:D}{u:Value}(hk:Hd s.heap k u)(hu:A.units+8<cLine){Q:Option Value->Shared->Prop}
  (q0:E4 k ks ds=none->∀ tk,Q none { s with toks:=tk }) (q1:∀ d v r,E4 k ks ds=some d->Rep X.z th H d v->RelV v r->∀ tk,Q (some r) { s with toks:=tk }):wpAny (model X.prog X.w) A (dictGet a u) Q E s:=by
 obtain ⟨xs,o,es,ep,h1,g⟩:=Hf I h
 obtain ⟨xs',h1',h2,h3,h4,h5⟩:=id h
 unfold dictGet
 refine AI (Aa (hk.hash hu λtk=>Aa (LX (s:={ s with toks:=tk }) hu hk g.at' g.dt g.en h5.nd (λz=>Ab (q0 (G7 z) tk)) λj ej=>?_)))
 refine Aa (BD (s:={ s with toks:=tk }) g.at' g.dt ?_)
 obtain ⟨e,e1,e2⟩:=(Dh g.en j).1 k ej
 rw [Ax] at e1
 rw [e1]
 obtain ⟨⟨z',o',es',ep',g1,g2,g3,g4⟩,_⟩:=(show ObjOk X.prog X.w H s.heap a (E1 a xs') from I.hok a _ h1')
 have g1':=g.at'
 rw [g1] at g1'
 cases g1'
 have g3':=g.dt
 rw [g3] at g3'
 cases g3'
 obtain ⟨x,x1,x2,x3,x4⟩:=(Dh g4 j).2 e (by rw [Ax];exact e1)
 have vj:(xs'.map (·.2.2))[j]? = some x.2.2:=by rw [Ap,x1];rfl
 obtain ⟨d,d1,d2⟩:=h4.getV vj
 exact Ab (q1 d _ _ (by rw [Jl h5.nd ej];exact d1) d2 x4 tk)
theorem HS {α β:Type}{F:α->β->Prop}:∀ {xs:List α} {ys:List β} (j:Nat) {x:α} {y:β},Paired F xs ys->F x y->Paired F (xs.set j x) (ys.set j y)
 | _,_,_,_,_,.nil,_=>.nil
 | _,_,0,_,_,.cons _ t,f=>.cons f t
 | _,_,j+1,_,_,.cons r t,f=>.cons r (HS j t f)
theorem F0 {α β:Type}{F:α->β->Prop}:∀ {xs xs':List α} {ys ys':List β},Paired F xs ys->Paired F xs' ys'->Paired F (xs++xs') (ys++ys')
 | _,_,_,_,.nil,t=>t
 | _,_,_,_,.cons r t,t'=>.cons r (F0 t t')
theorem XA (I:L2.Inv X pins st H s){a:Addr}{ks ds:List D}(h:DcAt X.z th H a ks ds)(ext:∀ xs,Ext th H th (upd H a (E1 a xs)))(so:StoOk X.z th mu H){k v:D}{kv vv:V}{u r:Value}(hk:D7 k=true)(rk:Rep X.z th H k kv)(ru:RelV kv u)(rv:Rep X.z th H v vv)(rr:RelV vv r)(lt:ks.length<sizeLine)(hu:A.units+8<cLine)
  {Q:Unit->Shared->Prop} (q:∀ s' xs',L2.Inv X pins st (upd H a (E1 a xs')) s'->DcAt X.z th (upd H a (E1 a xs')) a (DX k v ks ds).1 (DX k v ks ds).2->Q () s'):wpAny (model X.prog X.w) A (dictSet a u r) Q E s:=by
 have hd:=Ii I hk rk ru
 obtain ⟨xs',h1',h2,h3,h4,h5⟩:=id h
 obtain ⟨⟨z',o,es,ep,g1,g2,g3,g4⟩,_⟩:=(show ObjOk X.prog X.w H s.heap a (E1 a xs') from I.hok a _ h1')
 obtain ⟨xs,o',es',ep',h1,g⟩:=Hf I h
 have g1':=g.at'
 rw [g1] at g1'
 cases g1'
 have g3':=g.dt
 rw [g3] at g3'
 cases g3'
 have mu1:Mut (H a):=by rw [h1'];exact True.intro
 unfold dictSet
 refine AI (Aa (hd.hash hu λtk=>?_))
 unfold dictSetHashed
 refine AI (Aa (LX (s:={ s with toks:=tk }) hu hd g1 g3 g.en h5.nd (λz=>?_) λj ej=>?_))
 ·have hz0:es.size≤sizeLine:=by rw [← Array.length_toList,← Df g.en];omega
  refine Aa (Bo (wpAny_updateDictKeys (s:={ s with toks:=tk }) g1 g3 (hz:=hz0) ?_))
  have e1:(DX k v ks ds).1=ks++[k]:=by unfold DX;rw [if_neg z]
  have e2:(DX k v ks ds).2=ds++[v]:=by unfold DX;rw [if_neg z]
  have so1:=AN (Obj.mapDictKeys (·.push ⟨CA X.w k,u,r⟩)) g1 (Obj.isFreed_of_dict (Obj.data_mapDictKeys g3 _))
  refine q _ (xs'++[(CA X.w k,kv,vv)]) (I.write (x:=a) (e:=a) (t':=tk) mu1 (.inl rfl) (λb ob hb e=>((AA ..).2 b hb).trans e) ⟨_,so1⟩ (JN ⟨z',_,_,ep+1,so1,g2.mapDictKeys _,Obj.data_mapDictKeys g3 _,?_⟩)) ?_
  ·rw [BW]
   exact F0 g4 (.cons ⟨rfl,ru,rr⟩ .nil)
  ·rw [e1,e2]
   have ex:=ext (xs'++[(CA X.w k,kv,vv)])
   refine ⟨_,Dw,?_,?_,?_,?_⟩
   ·rw [Bd,h2,Fy,Fy,Bd];rfl
   ·rw [Bd];exact (h3.ext ex so.out).app (.cons (rk.ext ex so.out) .nil)
   ·rw [Bd];exact (h4.ext ex so.out).app (.cons (rv.ext ex so.out) .nil)
   ·refine ⟨by rw [As];exact lt,?_,λk' hk'=>?_⟩
    ·refine BY.mpr ⟨h5.nd,by simp,λx hx y hy=>?_⟩
     rw [Ao.mp hy]
     exact λe=>z (e▸hx)
    ·rcases AH.mp hk' with w'|w'
     ·exact h5.ok k' w'
     ·rw [Ao.mp w'];exact hk
 ·have mem:k∈ks:=Am ej
  have e1:(DX k v ks ds).1=ks:=by unfold DX;rw [if_pos mem]
  have e2:(DX k v ks ds).2=ds.set j v:=by unfold DX;rw [if_pos mem];exact LM h5.nd ej
  have hj:j<xs'.length:=by
   have:=(Ae.mp ej).1
   have l2:=h3.len
   rw [Ah] at l2
   omega
  have hje:j<es.size:=by rw [← Array.length_toList,← Df g4];exact hj
  obtain ⟨y,y1,y2,y3,y4⟩:=(Dh g4 j).1 xs'[j] (Ak hj)
  rw [Ax] at y1
  have ye:es[j]=y:=by rw [Aq hje] at y1;exact AB y1
  refine Aa (Bo (Aa (wpAny_updateDict (s:={ s with toks:=tk }) g1 g3 (wpAny_point ?_))))
  have so1:=AN (Obj.mapDict (·.modify j λe=>{ e with val:=r })) g1 (Obj.isFreed_of_dict (Obj.data_mapDict g3 _))
  refine q _ (xs'.set j (xs'[j].1,xs'[j].2.1,vv)) (I.write (x:=a) (e:=a) (t':=tk) mu1 (.inl rfl) (λb ob hb e=>((AA ..).2 b hb).trans e) ⟨_,so1⟩ (JN ⟨z',_,_,ep,so1,g2.mapDict _,Obj.data_mapDict g3 _,?_⟩)) ?_
  ·have em:(es.modify j λe=>{ e with val:=r }).toList=es.toList.set j { y with val:=r }:=by
    have yl:es.toList[j]? = some y:=by rw [Ax];exact y1
    rw [Array.toList_modify]
    refine Bs λi=>?_
    rw [List.getElem?_modify]
    by_cases c:j=i
    ·subst c
     rw [yl,Cc (by simpa using hje)]
     simp
    ·rw [AM c]
     simp [c]
   rw [em]
   exact HS j g4 ⟨y2,y3,rr⟩
  ·rw [e1,e2]
   have ex:=ext (xs'.set j (xs'[j].1,xs'[j].2.1,vv))
   refine ⟨_,Dw,?_,?_,?_,h5⟩
   ·rw [← h2,List.map_set]
    refine Bs λi=>?_
    by_cases c:i=j
    ·subst c;simp [hj]
    ·rw [AM (Ne.symm c)]
   ·have:(xs'.set j (xs'[j].1,xs'[j].2.1,vv)).map (·.2.1)=xs'.map (·.2.1):=by
     rw [List.map_set]
     refine Bs λi=>?_
     by_cases c:i=j
     ·subst c;simp [hj]
     ·rw [AM (Ne.symm c)]
    rw [this]
    exact h3.ext ex so.out
   ·rw [List.map_set]
    exact (h4.ext ex so.out).setAt j (rv.ext ex so.out)
theorem Ln (I:L2.Inv X pins st H s){a:Addr}{ks ds:List D}(h:DcAt X.z th H a ks ds){k d:D}{u:Value}(hk:Hd s.heap k u)(e:E4 k ks ds=some d):∃ v r,Rep X.z th H d v∧RelV v r ∧
  ∀ {A:Around} {E:Value->Shared->Prop} {Q:Option Value->Shared->Prop},A.units+8<cLine->(∀ tk,Q (some r) { s with toks:=tk })->wpAny (model X.prog X.w) A (dictGet a u) Q E s:=by
 obtain ⟨xs',h1',h2,h3,h4,h5⟩:=id h
 obtain ⟨xs,o,es,ep,h1,g⟩:=Hf I h
 obtain ⟨⟨z',o',es',ep',g1,g2,g3,g4⟩,_⟩:=(show ObjOk X.prog X.w H s.heap a (E1 a xs') from I.hok a _ h1')
 have g1':=g.at'
 rw [g1] at g1'
 cases g1'
 have g3':=g.dt
 rw [g3] at g3'
 cases g3'
 have mem:k∈ks:=by
  refine BK λz=>?_
  rw [G7 z] at e
  cases e
 obtain ⟨j,ej⟩:=AO.mp mem
 rw [Jl h5.nd ej] at e
 obtain ⟨v,v1,v2⟩:=h4.get e
 obtain ⟨en,e1,e2⟩:=(Dh g.en j).1 k ej
 obtain ⟨x,x1,x2,x3,x4⟩:=(Dh g4 j).2 en e1
 rw [Ap,x1] at v1
 have v1':x.2.2=v:=by simpa using v1
 rw [Ax] at e1
 refine ⟨v,en.val,v2,v1'▸x4,λhu q=>?_⟩
 unfold dictGet
 refine AI (Aa (hk.hash hu λtk=>Aa (LX (s:={ s with toks:=tk }) hu hk g1 g3 g.en h5.nd (λz=>absurd mem z) λj' ej'=>?_)))
 cases VL h5.nd ej ej'
 refine Aa (BD (s:={ s with toks:=tk }) g1 g3 ?_)
 rw [e1]
 exact Ab (q tk)
theorem Lv (I:L2.Inv X pins st H s){a:Addr}{ks ds:List D}(h:DcAt X.z th H a ks ds){k:D}{u:Value}(hk:Hd s.heap k u)(e:E4 k ks ds=none){Q:Option Value->Shared->Prop}(hu:A.units+8<cLine)(q:∀ tk,Q none { s with toks:=tk }):wpAny (model X.prog X.w) A (dictGet a u) Q E s:=
 VS I h hk hu (λ_=>q) λd v r e'=>by rw [e] at e';cases e'
theorem Pe (I:L2.Inv X pins st H s){a:Addr}{ks ds:List D}(h:DcAt X.z th H a ks ds):s.TypeIs (.ref a) "dict"∧(a==sysModules)=false∧∃ o,s.heap.get? a=some o∧o.dict=none:=by
 obtain ⟨xs,o,es,ep,h1,g⟩:=Hf I h
 exact ⟨⟨o,g.at',g.ex.1⟩,g.ns,o,g.at',g.ex.2.1⟩
theorem Ru {k:D}{ks ds:List D}(n:ks.Nodup)(l:ds.length=ks.length):(E4 k ks ds).isSome=decide (k∈ks):=by
 by_cases c:k∈ks
 ·obtain ⟨j,ej⟩:=AO.mp c
  rw [Jl n ej,BM c]
  have:=(Ae.mp ej).1
  rw [Ak (by omega)]
  rfl
 ·rw [G7 c,A9 c];rfl
theorem RO {a:Addr}{ks ds:List D}(h:DcAt K th H a ks ds):ds.length=ks.length∧KeysOk ks:=by
 obtain ⟨xs,_,_,h3,h4,h5⟩:=h
 have a:=h3.len
 have b:=h4.len
 rw [Ah] at a b
 exact ⟨by omega,h5⟩
noncomputable def ixC (d e:D)(mu:Sto):Rs D:=match EA mu d with
 | some p=>if D7 e=true then (E4 e p.1 p.2).map λv=>(v,mu) else none
 | none=>none
theorem UX {d e:D}{r:D×Sto}(h:ixC d e mu=some r):∃ p,EA mu d=some p∧D7 e=true∧∃ v,E4 e p.1 p.2=some v∧r=(v,mu):=by
 unfold ixC at h
 split at h
 ·rename_i p e1
  split at h
  ·rename_i c
   cases q:E4 e p.1 p.2 with
   | none=>rw [q] at h;cases h
   | some v=>rw [q] at h;cases h;exact ⟨p,e1,c,v,q,rfl⟩
  ·cases h
 ·cases h
theorem ZM (hu:X.A.units+64<cLine):IxR X (r2 X.z ixC):=by
 intro value slice pins s st H x y v u Q I rx ry h hs
 obtain ⟨th,mu,d,e,so,r1,r2,t⟩:=h
 obtain ⟨a0,mu0,e0,_⟩:=id t
 obtain ⟨p,e1,hk,w',e2,er⟩:=UX e0
 rw [e0] at t
 cases er
 obtain ⟨a,rfl,dc⟩:=Er so e1 r1
 cases rx
 obtain ⟨v',r',q1,q2,q3⟩:=Ln I dc (Ii I hk r2 ry) e2
 obtain ⟨ty,_⟩:=Pe I dc
 refine subscriptTail_builtinR (x:=r') ty slot_dict_getitem.lookup ?_ hs
 unfold getItem
 refine AI (Aa (wpAny_sequenceKey ty (by decide) (Aa (AQ (name:=Str.ofString "__getitem__") ty slot_dict_getitem (AL slot_dict_getitem ty entry_dict_getitem ?_ (args_dict_getitem _ _))))))
 refine (?_:wpAny _ _ (dictGet a u >>= _) _ _ s)
 exact Aa (q3 (by rw [Around.in1_units];omega) λtk=>Ab ⟨r',rfl,Ab ⟨rfl,v',H,I.tok _,q2,t.ret so _ q1⟩⟩)
theorem IxR.or {g g':D->D->Sto->Rs D}(h:IxR X (r2 X.z g))(h':IxR X (r2 X.z g')):IxR X (r2 X.z λd e mu=>match g d e mu with|some r=>some r|none=>g' d e mu):=by
 intro value slice pins s st H x y v u Q I rx ry q hs
 obtain ⟨th,mu,d,e,so,r1,r2,t⟩:=q
 dsimp only at t
 cases c:g d e mu with
 | some r=>rw [c] at t;exact h value slice pins s st H x y v u Q I rx ry ⟨th,mu,d,e,so,r1,r2,by rw [c];exact t⟩ hs
 | none=>rw [c] at t;exact h' value slice pins s st H x y v u Q I rx ry ⟨th,mu,d,e,so,r1,r2,t⟩ hs
noncomputable def ixG (d e:D)(mu:Sto):Rs D:=match ixD d e mu with
 | some r=>some r
 | none=>ixC d e mu
theorem Fb (hu:X.A.units+64<cLine):IxR X (r2 X.z ixG):=IxR.or Z1 (ZM hu)
noncomputable def inC (neg:Bool)(d c:D)(mu:Sto):Rs D:=match EA mu c with
 | some p=>if D7 d=true then some (.bl (decide (d∈p.1) != neg),mu) else none
 | none=>none
theorem OP {neg:Bool}{d e:D}{r:D×Sto}(h:inC neg d e mu=some r):∃ p,EA mu e=some p∧D7 d=true∧r=(.bl (decide (d∈p.1) != neg),mu):=by
 unfold inC at h
 split at h
 ·rename_i p e1
  split at h
  ·rename_i c;cases h;exact ⟨p,e1,c,rfl⟩
  ·cases h
 ·cases h
theorem VE (hu:X.A.units+64<cLine)(I:L2.Inv X pins st H s){a:Addr}{ks ds:List D}(dc:DcAt X.z th H a ks ds){d:D}{u:Value}(hk:Hd s.heap d u){Q:Bool->Shared->Prop}(q:∀ tk,Q (decide (d∈ks)) { s with toks:=tk }):wpAny (model X.prog X.w) X.A (contains (.ref a) u) Q E s:=by
 obtain ⟨ty,ns,_⟩:=Pe I dc
 obtain ⟨l,ko⟩:=RO dc
 have gm:=Ru (k:=d) ko.nd l
 unfold contains
 refine AI (Aa (wpAny_specialOf ty slot_dict_contains.lookup ?_))
 refine (?_:wpAny _ _ (if (some (Value.builtin "dict.__contains__")==some Value.none)=true then _ else _) _ E s)
 rw [if_neg (by rw [beq_builtin_none];exact AE)]
 refine Aa (wpAny_callSpecialUnlessNone?_slot (name:=Str.ofString "__contains__") ty slot_dict_contains (AL slot_dict_contains ty entry_dict_contains ?_ (args_dict_contains _ _)))
 refine (?_:wpAny _ _ (dictGet a u >>= _) _ _ s)
 refine Aa ?_
 have hu':X.A.in1.units+8<cLine:=by rw [Around.in1_units];omega
 cases c:E4 d ks ds with
 | some v =>
  rw [c] at gm
  obtain ⟨v',r',q1,q2,q3⟩:=Ln I dc hk c
  refine q3 hu' λtk=>?_
  refine (?_:wpAny _ _ (ret (.bool true)) _ _ _)
  exact Ab ⟨_,rfl,B8 (by rw [← gm] at q;exact q tk)⟩
 | none =>
  rw [c] at gm
  refine Lv I dc hk c hu' λtk=>?_
  refine (?_:wpAny _ _ (Builtin.Dict.pendingKey? a u >>= _) _ _ _)
  exact Aa (wpAny_pendingKey_other ns (Ab ⟨_,rfl,B8 (by rw [← gm] at q;exact q tk)⟩))
theorem Wk (hu:X.A.units+64<cLine):OpV X (compareOp .In) (inC false):=by
 intro pins s st H x y v u Q I rx ry h
 obtain ⟨th,mu,d,e,so,r1,r2,t⟩:=h
 obtain ⟨a0,mu0,e0,_⟩:=id t
 obtain ⟨p,e1,hk,er⟩:=OP e0
 rw [e0] at t
 cases er
 obtain ⟨a,rfl,dc⟩:=Er so e1 r2
 cases ry
 refine (?_:wpAny _ _ (do return Value.bool (← contains (.ref a) v)) _ _ s)
 exact Aa (VE hu I dc (Ii I hk r1 rx) λtk=>Ab ⟨.bl _,H,I.tok _,rfl,by have:=t.ret so _ rfl;simpa using this⟩)
theorem UA (hu:X.A.units+64<cLine):OpV X (compareOp .NotIn) (inC true):=by
 intro pins s st H x y v u Q I rx ry h
 obtain ⟨th,mu,d,e,so,r1,r2,t⟩:=h
 obtain ⟨a0,mu0,e0,_⟩:=id t
 obtain ⟨p,e1,hk,er⟩:=OP e0
 rw [e0] at t
 cases er
 obtain ⟨a,rfl,dc⟩:=Er so e1 r2
 cases ry
 refine (?_:wpAny _ _ (do return Value.bool (!(← contains (.ref a) v))) _ _ s)
 exact Aa (VE hu I dc (Ii I hk r1 rx) λtk=>Ab ⟨.bl _,H,I.tok _,rfl,by have:=t.ret so _ rfl;simpa using this⟩)
theorem OpV.or {f:Value->Value->Sem Value}{g g':D->D->Sto->Rs D}(h:OpV X f g)(h':OpV X f g'):OpV X f λd e mu=>match g d e mu with|some r=>some r|none=>g' d e mu:=by
 intro pins s st H x y v u Q I rx ry q
 obtain ⟨th,mu,d,e,so,r1,r2,t⟩:=q
 dsimp only at t
 cases c:g d e mu with
 | some r=>rw [c] at t;exact h pins s st H x y v u Q I rx ry ⟨th,mu,d,e,so,r1,r2,by rw [c];exact t⟩
 | none=>rw [c] at t;exact h' pins s st H x y v u Q I rx ry ⟨th,mu,d,e,so,r1,r2,t⟩
noncomputable def inG (d e:D)(mu:Sto):Rs D:=match inD d e mu with
 | some r=>some r
 | none=>inC false d e mu
noncomputable def Q6 (d e:D)(mu:Sto):Rs D:=match UO d e mu with
 | some r=>some r
 | none=>inC true d e mu
theorem XJ (hu:X.A.units+64<cLine):OpV X (compareOp .In) inG:=OpV.or (Xn hu) (Wk hu)
theorem Uv (hu:X.A.units+64<cLine):OpV X (compareOp .NotIn) Q6:=OpV.or (T5 hu) (UA hu)
noncomputable def putG (d e v:D)(mu:Sto):Rs Unit:=match d with
 | .ref k=>match mu[k]? with
  | some (.dct ks ds)=>if D7 e=true∧ks.length<sizeLine then some ((),mu.set k (.dct (DX e v ks ds).1 (DX e v ks ds).2)) else none
  | _=>Tw d e v mu
 | _=>none
noncomputable def Yz (K:Zc):QW:=λo i v H Q=>∃ th mu d e w,StoOk K th mu H∧Rep K th H d o∧Rep K th H e i∧Rep K th H w v∧Tr K th H (putG d e w mu) λ_ _ _ H'=>Q H'
theorem Yn (hu:X.A.units+64<cLine):UN X (Yz X.z):=by
 intro pins s st H o i v ov iv u Q I ro ri rv h
 obtain ⟨th,mu,d,e,w,so,r1,r2,r3,t⟩:=h
 unfold putG at t
 split at t
 ·rename_i k
  split at t
  ·rename_i ks ds em
   split at t
   ·rename_i c
    unfold Rep at r1
    obtain ⟨a,rfl,ha⟩:=r1
    have dc:DcAt X.z th H a ks ds:=so.at' k a _ ha em
    obtain ⟨ty,ns,_⟩:=Pe I dc
    cases ro
    unfold setItem
    refine AI (Aa (wpAny_sequenceKey ty (by decide) (Aa (AQ (name:=Str.ofString "__setitem__") ty slot_dict_setitem (AL slot_dict_setitem ty entry_dict_setitem ?_ (args_dict_setitem _ _ _))))))
    refine (?_:wpAny _ _ (Builtin.Dict.notOrdered "__setitem__" ⟨[.ref a,iv,u],[]⟩ >>= _) _ _ s)
    refine Aa (wpAny_notOrdered_dict ty (?_:wpAny _ _ (dictSet a iv u >>= _) _ _ s))
    refine Aa (XA I dc (λxs=>.mut (Am ha) _) so c.1 r2 ri r3 rv c.2 (by rw [Around.in1_units];omega) λs' xs' I' dc'=>Ab ⟨.none,rfl,Ab ⟨_,I',?_⟩⟩)
    exact t.retX (.mut (Am ha) _) (so.putG ha _ _ dc')
   ·exact t.no.elim
  ·exact Za pins s st H o i v ov iv u Q I ro ri rv ⟨th,mu,.ref k,e,w,so,r1,r2,r3,t⟩
 ·exact t.no.elim
noncomputable def gIx (o i:Ex):Gx:=λv ro mu=>bM (o ro mu) λd m1=>bM (i ro m1) λe m2=>bM (putG d e v m2) λ_ m3=>some (ro,m3)
theorem Np (hu:X.A.units+64<cLine){o i:Expr}{mo mi:Ex}{pos:Pos}(ho:SV X o mo)(hi:SV X i mi)
  (ha:∀ v,assign (.Subscript o i pos) X.env v=(do
   let ov←holding [v] (eval o X.env)
   let iv←holding [v,ov] (eval i X.env)
   standAt pos
   holding [v,ov,iv] (setItem ov iv v)
   release [v,ov,iv] []):=by intro _;rfl):SVG X (.Subscript o i pos) (gIx mo mi):=⟨PG.weak (WM ho.r hi.r (Yn hu) ha) λv st H Q h=>by
 obtain ⟨th,mu,ro,d,so,en,r,t⟩:=h
 refine ⟨th,mu,ro,so,en,t.bind.mono λx th1 mu1 H1 e1 s1 t1 xv rx=>?_⟩
 refine ⟨th1,mu1,ro,s1,en.ext e1 so.out,t1.bind.mono λy th2 mu2 H2 e2 s2 t2 yv ry=>?_⟩
 refine ⟨th2,mu2,x,y,d,s2,rx.ext e2 s1.out,ry,(r.ext e1 so.out).ext e2 s1.out,t2.bind.mono λ_ th3 mu3 H3 e3 s3 t3=>?_⟩
 exact t3.ret s3 _ (((en.ext e1 so.out).ext e2 s1.out).ext e3 s2.out)⟩
end
section
variable {prog:Program} {w:World} {A:Around} {E:Value->Shared->Prop} {s:Shared}
theorem wp_choose {M:Model}{src:Source}{n:Nat}{Q:Nat->Shared->Prop}(hn:n≠0)(h:∀ i d',i<n->Q i { s with drawn:=d' }):wpAny M A (choose src n) Q E s:=
 λ_ _ _=>⟨hn,h _ _ (Nat.mod_lt _ (Nat.pos_of_ne_zero hn))⟩
theorem Hq {α:Type}:∀ (xs:List α) (i:Nat) (hi:i<xs.length),(xs[i]::xs.eraseIdx i).Perm xs
 | [],i,hi=>by simp at hi
 | x::xs,0,_=>BN _
 | x::xs,i+1,hi=>by
  have hi':i<xs.length:=by simpa using hi
  exact (List.Perm.swap x xs[i] _).trans (List.Perm.cons x (Hq xs i hi'))
theorem MC {M:Model}{α:Type}:∀ (n:Nat) (xs:List α) {s:Shared} {Q:List α->Shared->Prop},n=xs.length->(∀ ys d',ys.Perm xs->Q ys { s with drawn:=d' })->wpAny M A (drawOrder n xs) Q E s
 | 0,[],s,Q,_,h=>Ab (h [] s.drawn (BN _))
 | 0,_::_,_,_,e,_=>by simp at e
 | n+1,[],_,_,e,_=>by simp at e
 | n+1,x::xs,s,Q,e,h=>by
  refine Aa (wp_choose (by simp) λi d' hi=>?_)
  rw [Ak hi]
  refine Aa (MC n ((x::xs).eraseIdx i) (by rw [List.length_eraseIdx_of_lt hi,← e];rfl) λys d2 p=>Ab (h _ d2 ?_))
  exact (List.Perm.cons _ p).trans (Hq _ _ hi)
theorem KS {α:Type}(next:Nat->Nat):∀ (f k:Nat) (left:List α) (out:Array α),f=left.length->(pickOrder.go next f k left out).toList.Perm (out.toList++left)
 | 0,k,[],out,_=>by unfold pickOrder.go;simp
 | 0,_,_::_,_,e=>by simp at e
 | f+1,k,[],out,e=>by simp at e
 | f+1,k,x::xs,out,e=>by
  unfold pickOrder.go
  have hi:next k % (x::xs).length<(x::xs).length:=Nat.mod_lt _ (by simp)
  rw [Ak hi]
  refine (KS next f (k+1) _ _ (by rw [List.length_eraseIdx_of_lt hi,← e];rfl)).trans ?_
  rw [BW,List.append_assoc]
  exact List.Perm.append_left _ (Hq _ _ hi)
theorem Fv {α:Type}(next:Nat->Nat)(xs:Array α):(pickOrder next xs).toList.Perm xs.toList:=by
 have:=KS next xs.size 0 xs.toList #[] (by simp)
 simpa [pickOrder] using this
noncomputable def CZ (w:World):Bool:=w.params.followText "set-order"
theorem EM {Q:Bool->Shared->Prop}(h:Q (CZ w) s):wpAny (model prog w) A setsByText Q E s:=Aa (wpAny_askSetting (Ab h))
theorem DL:Slot "set_iterator" "__next__" "set_iterator.__next__":=
 .of (owner:="set_iterator") (n:="__next__") (by rw [typeLookup_type,builtinLookup_eq_fast];kernel_rfl) (by decide +kernel) (by decide +kernel) (by decide +kernel) (by first|exact .inl (by decide +kernel)|exact .inr (by decide +kernel)) (by rw [isSubtype_type];kernel_rfl)
theorem GJ:entryFor table "set_iterator.__next__"=some Builtin.«set_iterator.__next__»:=entryFor_of_tree (by kernel_rfl)
theorem JD:Manifest.owners.lookup (String.ofList ['r','o','t','a','r','e','t','i','_','t','e','s'].reverse)=some Manifest.sig_set_iterator:=by kernel_rfl
theorem G5 (a:Value):argsOk "set_iterator.__next__" ⟨[a],[]⟩:=by
 unfold argsOk;rw [signature?_of (id:="set_iterator.__next__") (n:=['_','_','t','x','e','n','_','_']) (o:=['r','o','t','a','r','e','t','i','_','t','e','s']) (by kernel_rfl) JD];kernel_rfl
theorem GW:Slot "set_iterator" "__iter__" "set_iterator.__iter__":=
 .of (owner:="set_iterator") (n:="__iter__") (by rw [typeLookup_type,builtinLookup_eq_fast];kernel_rfl) (by decide +kernel) (by decide +kernel) (by decide +kernel) (by first|exact .inl (by decide +kernel)|exact .inr (by decide +kernel)) (by rw [isSubtype_type];kernel_rfl)
inductive Md where
 | txt|drw (TI:Addr) (pl:List Nat)|one
noncomputable def SetAt (h:Heap)(S:Addr)(es:Array (Int×Value))(ep:Nat)(t:SetTable):Prop:=∃ o,h.get? S=some o∧o.data=.set es ep t
noncomputable def Fst (w:World)(es:Array (Int×Value))(t:SetTable)(h:Heap)(i:Nat)(v:Value):Md->Prop
 | .txt=>CZ w=true∧∃ c:Nat,v=rawInt c
 | .drw TI pl=>v=.ref TI∧h.IsTuple TI (pl.map λp:Nat=>rawInt p).toArray∧pl.length=es.size∧(∀ p∈pl,p<es.size)
 | .one=>CZ w=false∧(t.plain=false∨es.size≤1)∧es.size≤1∧t.led=true∧v=rawInt ((if i=0 then 0 else t.place.getD 0 0+1:Nat):Int)
noncomputable def Km (w:World)(S:Addr)(es:Array (Int×Value))(ep:Nat):Md->List Value
 | .txt=>(pickOrder (w.params.setOrder S ep) es).toList.map (·.2)
 | .drw _ pl=>pl.map λp=>(es.getD p (0,.none)).2
 | .one=>es.toList.map (·.2)
noncomputable def SIt (w:World)(S I:Addr)(es:Array (Int×Value))(ep:Nat)(t:SetTable)(md:Md)(i:Nat)(h:Heap):Prop:=
 SetAt h S es ep t∧∃ o v,h.get? I=some o∧o.cls=.type "set_iterator"∧o.data=.fields #[v,rawInt i,.ref S,rawInt es.size,rawInt ep]∧Fst w es t h i v md
theorem Fm {M:Model}{I:Addr}{Q:PySem.Fin->Shared->Prop}(hh:A.handled=none)(q:∀ h' e,(∀ c o,s.heap.get? c=some o->h'.get? c=some o)->(∃ o,h'.get? e=some o∧o.cls=.type "StopIteration")->E (.ref e) { s with heap:=h' }) :
  wpAny M A (newExc (.type "StopIteration") [] >>= λe=>(raiseNew e:Sem PySem.Fin)) Q E s:=by
 refine Aa ?_
 simp only [newExc,newTuple]
 refine Aa (AR (Aa (m:=firstArgMember _ _) (wpAny_of_eq (a:=Value.none) (by first|rfl|(simp only [firstArgMember];rfl)) (AR ?_ (by size_fits)))) (by size_fits))
 simp only [raiseNew]
 refine Aa (wpAny_handled ?_)
 rw [hh]
 exact Aa (Ab (wpAny_throw (q _ _ (λc o e=>Ad _ (Ad _ e)) ⟨_,Ai _ rfl,rfl⟩)))
theorem JC {xs:Array Nat}(h:xs.size≤1):SetTable.below xs 0=0:=by
 unfold SetTable.below
 rcases Bv 0 xs.size with c|c
 ·have:xs.size=1:=by omega
  rw [this]
  simp [SetTable.below.go]
 ·have:xs.size=0:=by omega
  rw [this]
  simp [SetTable.below.go]
theorem NC {xs:Array Nat}(h:xs.size=1):SetTable.below xs (xs.getD 0 0+1)=1:=by
 unfold SetTable.below
 have e0:xs[0]? = some xs[0]:=Aq (by omega)
 rw [h]
 simp [SetTable.below.go,e0]
theorem EO {a:Addr}{o:Obj}{vs:Array Value}{i:Nat}{x:Value}{h:Heap}(ho:h.get? a=some o)(hd:o.data=.fields vs):∃ o',(h.update a (Obj.mapFields (·.setIfInBounds i x))).get? a=some o'∧o'.cls=o.cls∧o'.data=.fields (vs.setIfInBounds i x):=
 ⟨_,AN _ ho (Obj.isFreed_of_fields (Obj.data_mapFields hd _)),Obj.cls_mapFields ..,Obj.data_mapFields hd _⟩
theorem SetAt.keep {h h':Heap}{S I:Addr}{es:Array (Int×Value)}{ep:Nat}{t:SetTable}(x:SetAt h S es ep t)(ne:S≠I)(sb:Heap.SameBut I h h'):SetAt h' S es ep t:=
 let ⟨o,a,b⟩:=x;⟨o,(sb.2 S ne).trans a,b⟩
noncomputable def Md.apart (I:Addr):Md->Prop
 | .drw TI _=>TI≠I
 | _=>True
theorem Pm {S I:Addr}{es:Array (Int×Value)}{ep:Nat}{t:SetTable}{md:Md}{i:Nat}{Q:Value->Shared->Prop}(hf:t.fits es.size=true)(ne:S≠I)(ap:md.apart I)(g:SIt w S I es ep t md i s.heap)(hi:i<es.size)
  (q:∀ v h',(Km w S es ep md)[i]? = some v->SIt w S I es ep t md (i+1) h'->Heap.SameBut I s.heap h'->Q v { s with heap:=h' }) :
  wpAny (model prog w) A (Builtin.«set_iterator.__next__» ⟨[.ref I],[]⟩) (λfin s'=>∃ v,fin=.done (.ret v)∧Q v s') E s:=by
 obtain ⟨⟨ob,g1,g2⟩,o,v,k1,k2,k3,k4⟩:=id g
 refine (?_:wpAny _ _ (fieldsOf (.ref I) >>= _) _ _ _)
 refine Aa (wpAny_fieldsOf k1 k3 (?_:wpAny _ _ (setEntries S >>= _) _ _ _))
 refine Aa (wpAny_setEntries_of g1 g2 hf ?_)
 rw [if_neg (by simp)]
 cases md with
 | drw TI pl =>
  obtain ⟨rfl,⟨tb,b1,b2,n,b3⟩,c1,c2⟩:=k4
  refine (?_:wpAny _ _ (seqItems? (.ref TI) >>= _) _ _ _)
  refine Aa (Bp b1 b3 ?_)
  have hp:i<pl.length:=by omega
  have ei:(pl.map λp:Nat=>rawInt p).toArray[(i:Int).toNat]? = some (rawInt pl[i]):=by simp [hp]
  dsimp only
  rw [ei]
  have hpl:=c2 pl[i] (BG hp)
  refine (?_:wpAny _ _ (setNextDrawn S ((pl[i]:Nat):Int).toNat ((ep:Nat):Int).toNat >>= _) _ _ _)
  refine Aa ?_
  unfold setNextDrawn
  refine Aa (Bb g1 g2 hf ?_)
  rw [Int.toNat_natCast,Int.toNat_natCast]
  dsimp only
  rw [if_neg (by simp),Aq hpl]
  refine Ab (Aa (Bi k1 k3 (by simp) (Ab ⟨_,rfl,q _ _ ?_ ?_ (AA ..)⟩)))
  ·unfold Km
   rw [Ap,Ak hp]
   simp [Array.getD,hpl]
  ·obtain ⟨o',e1,e2,e3⟩:=EO (i:=1) (x:=rawInt ((i:Int)+1)) k1 k3
   exact ⟨SetAt.keep ⟨ob,g1,g2⟩ ne (AA ..),o',.ref TI,e1,e2.trans k2,e3,rfl,⟨tb,((AA ..).2 TI ap).trans b1,b2,n,b3⟩,c1,c2⟩
 | txt =>
  obtain ⟨bt,c,rfl⟩:=k4
  refine (?_:wpAny _ _ (setNext S ((c:Nat):Int).toNat ((i:Nat):Int).toNat ((ep:Nat):Int).toNat >>= _) _ _ _)
  refine Aa ?_
  unfold setNext
  refine Aa (Bb g1 g2 hf (Aa (EM ?_)))
  rw [if_pos bt]
  rw [Int.toNat_natCast,Int.toNat_natCast,Int.toNat_natCast]
  dsimp only
  rw [if_neg (by simp)]
  refine Aa ?_
  unfold setWalk
  refine Aa (Bb g1 g2 hf (Aa (EM ?_)))
  rw [if_pos bt]
  refine Aa (wpAny_askSetting (Ab ?_))
  have hl:i<(pickOrder (w.params.setOrder S ep) es).size:=by
   have:=(Fv (w.params.setOrder S ep) es).length_eq
   simp at this
   omega
  have ex:(pickOrder ((⟨prog,w.params⟩:Setting).params.setOrder S ep) es)[i]? = some (pickOrder (w.params.setOrder S ep) es)[i]:=Aq hl
  refine Ab ?_
  have ex':Option.map (λe:Int×Value=>(e.2,c)) (pickOrder ((⟨prog,w.params⟩:Setting).params.setOrder S ep) es)[i]? = some ((pickOrder (w.params.setOrder S ep) es)[i].2,c):=by rw [ex];rfl
  refine (?_:wpAny _ _ (match Option.map (λe:Int×Value=>(e.2,c)) (pickOrder ((⟨prog,w.params⟩:Setting).params.setOrder S ep) es)[i]? with|some (x,next)=>_|none=>_) _ _ _)
  rw [ex']
  obtain ⟨o',e1,e2,e3⟩:=EO (i:=0) (x:=rawInt (c:Int)) k1 k3
  refine Aa (Bi k1 k3 (by simp) ?_)
  obtain ⟨o2,f1,f2,f3⟩:=EO (i:=1) (x:=rawInt ((i:Int)+1)) e1 e3
  refine Aa (Bi e1 e3 (by simp) (Ab ⟨_,rfl,q _ _ ?_ ?_ ((AA ..).trans (AA ..))⟩))
  ·unfold Km
   rw [Ap,Ax,Aq hl]
   rfl
  ·exact ⟨(SetAt.keep ⟨ob,g1,g2⟩ ne (AA ..)).keep ne (AA ..),o2,rawInt c,f1,(f2.trans e2).trans k2,f3,bt,c,rfl⟩
 | one =>
  obtain ⟨bt,pl,sz,led,rfl⟩:=k4
  have i0:i=0:=by omega
  subst i0
  have s1:es.size=1:=by omega
  have ps:t.place.size=1:=by
   simp only [SetTable.fits,Ac,beq_iff_eq,Af] at hf
   omega
  refine (?_:wpAny _ _ (setNext S ((0:Nat):Int).toNat ((0:Nat):Int).toNat ((ep:Nat):Int).toNat >>= _) _ _ _)
  refine Aa ?_
  unfold setNext
  refine Aa (Bb g1 g2 hf (Aa (EM ?_)))
  rw [if_neg (by rw [bt];exact AE)]
  refine FP (λz=>?_) λ_=>?_
  ·exfalso
   have z':(!t.plain&&decide (es.size > 1))=true:=z
   rw [s1] at z'
   simp at z'
  refine Aa (FP (λz=>?_) λ_=>?_)
  ·exfalso
   have z':(!t.led&&!es.isEmpty)=true:=z
   rw [led] at z'
   simp at z'
  refine Ab ?_
  have b0:=JC (xs:=t.place) (by omega)
  have ee:es[0]? = some es[0]:=Aq (by omega)
  have pe:t.place[0]? = some t.place[0]:=Aq (by omega)
  have hm:(match es[SetTable.below t.place ((0:Nat):Int).toNat]?,t.place[SetTable.below t.place ((0:Nat):Int).toNat]? with|some (_,x),some j=>some (x,j+1)|_,_=>none)=some (es[0].2,t.place[0]+1):=by
   rw [show ((0:Nat):Int).toNat=0 from rfl,b0,ee,pe]
  refine (?_:wpAny _ _ (pure (match es[SetTable.below t.place ((0:Nat):Int).toNat]?,t.place[SetTable.below t.place ((0:Nat):Int).toNat]? with|some (_,x),some j=>some (x,j+1)|_,_=>none)) _ _ _)
  rw [hm]
  refine Ab ?_
  obtain ⟨o',e1,e2,e3⟩:=EO (i:=0) (x:=rawInt ((t.place[0]+1:Nat):Int)) k1 k3
  refine Aa (Bi k1 k3 (by simp) ?_)
  obtain ⟨o2,f1,f2,f3⟩:=EO (i:=1) (x:=rawInt (((0:Nat):Int)+1)) e1 e3
  refine Aa (Bi e1 e3 (by simp) (Ab ⟨_,rfl,q _ _ ?_ ?_ ((AA ..).trans (AA ..))⟩))
  ·unfold Km
   rw [Ap,Ax,ee]
   rfl
  ·refine ⟨(SetAt.keep ⟨ob,g1,g2⟩ ne (AA ..)).keep ne (AA ..),o2,rawInt ((t.place[0]+1:Nat):Int),f1,(f2.trans e2).trans k2,f3,bt,pl,sz,led,?_⟩
   have:t.place.getD 0 0=t.place[0]:=by simp [Array.getD,ps]
   rw [this]
   rfl
end
noncomputable def rk:D->Nat
 | .int _=>0|.str _=>1|.tup _=>2|_=>3
noncomputable def GR (i j:Nat):Ordering:=if i<j then .lt else if j<i then .gt else .eq
noncomputable def Ja (i j:Int):Ordering:=if i<j then .lt else if j<i then .gt else .eq
noncomputable def GL (x y:Str):Ordering:=if x.cps.toList<y.cps.toList then .lt else if y.cps.toList<x.cps.toList then .gt else .eq
noncomputable def oTh:Ordering->Ordering->Ordering
 | .eq,t=>t
 | .lt,_=>.lt
 | .gt,_=>.gt
mutual
noncomputable def CV:D->D->Ordering
 | .int i,.int j=>Ja i j
 | .str x,.str y=>GL x y
 | .tup xs,.tup ys=>D1 xs ys
 | a,b=>GR (rk a) (rk b)
noncomputable def D1:List D->List D->Ordering
 | [],[]=>.eq
 | [],_::_=>.lt
 | _::_,[]=>.gt
 | x::xs,y::ys=>oTh (CV x y) (D1 xs ys)
end
noncomputable def ltT (a b:D):Bool:=CV a b==.lt
structure T3 (a b c:Ordering):Prop where
 e1:a=.eq->b=c
 e2:b=.eq->a=c
 e3:a=b->c=a
theorem De (i j:Nat):GR j i=(GR i j).swap:=by
 unfold GR
 rcases BX i j with h|h|h
 ·rw [if_pos h,if_neg (by omega),if_pos h];rfl
 ·subst h;simp
 ·rw [if_pos h,if_neg (by omega),if_pos h];rfl
theorem Pf (i j:Int):Ja j i=(Ja i j).swap:=by
 unfold Ja
 rcases Int.lt_trichotomy i j with h|h|h
 ·rw [if_pos h,if_neg (by omega),if_pos h];rfl
 ·subst h;simp
 ·rw [if_pos h,if_neg (by omega),if_pos h];rfl
theorem Xu {x y:Str}:(x.cps.toList<y.cps.toList)->¬ (y.cps.toList<x.cps.toList):=λa b=>List.lt_asymm a b
theorem IH (i j:Str):GL j i=(GL i j).swap:=by
 unfold GL
 by_cases h:i.cps.toList<j.cps.toList
 ·rw [if_pos h,if_neg (Xu h),if_pos h];rfl
 ·rw [if_neg h]
  by_cases h2:j.cps.toList<i.cps.toList
  ·rw [if_pos h2,if_neg h,if_pos h2];rfl
  ·rw [if_neg h2,if_neg h,if_neg h2];rfl
theorem VD {α:Type}(f:α->α->Ordering)(lt:α->α->Prop)(h1:∀ x y,lt x y->f x y=.lt∧f y x=.gt)(h0:∀ x,f x x=.eq)(tr:∀ x y z,lt x y->lt y z->lt x z)(tri:∀ x y,lt x y∨x=y∨lt y x)(a b c:α):T3 (f a b) (f b c) (f a c):=by
 rcases tri a b with h|rfl|h
 ·rcases tri b c with g|rfl|g
  ·rw [(h1 _ _ h).1,(h1 _ _ g).1,(h1 _ _ (tr _ _ _ h g)).1];exact ⟨λz=>(nomatch z),λ_=>rfl,λ_=>rfl⟩
  ·rw [(h1 _ _ h).1,h0];exact ⟨λz=>(nomatch z),λ_=>rfl,λ_=>rfl⟩
  ·rw [(h1 _ _ h).1,(h1 _ _ g).2];exact ⟨λz=>(nomatch z),λz=>(nomatch z),λz=>(nomatch z)⟩
 ·rw [h0];exact ⟨λ_=>rfl,λz=>z.symm,λz=>z.symm⟩
 ·rcases tri b c with g|rfl|g
  ·rw [(h1 _ _ h).2,(h1 _ _ g).1];exact ⟨λz=>(nomatch z),λz=>(nomatch z),λz=>(nomatch z)⟩
  ·rw [(h1 _ _ h).2,h0];exact ⟨λz=>(nomatch z),λ_=>rfl,λ_=>rfl⟩
  ·rw [(h1 _ _ h).2,(h1 _ _ g).2,(h1 _ _ (tr _ _ _ g h)).2];exact ⟨λz=>(nomatch z),λ_=>rfl,λ_=>rfl⟩
theorem V8:∀ i j k:Nat,T3 (GR i j) (GR j k) (GR i k):=
 VD GR (·<·) (λx y h=>⟨if_pos h,by rw [GR,if_neg (Nat.lt_asymm h),if_pos h]⟩) (λx=>by rw [GR,if_neg (A6 x),if_neg (A6 x)]) (λ_ _ _=>Nat.lt_trans) BX
theorem VY:∀ i j k:Int,T3 (Ja i j) (Ja j k) (Ja i k):=
 VD Ja (·<·) (λx y h=>⟨if_pos h,by rw [Ja,if_neg (Int.lt_asymm h),if_pos h]⟩) (λx=>by rw [Ja,if_neg (Int.lt_irrefl x),if_neg (Int.lt_irrefl x)]) (λ_ _ _=>Int.lt_trans) Int.lt_trichotomy
theorem HH {i j:Str}:GL i j=.eq ↔ i=j:=by
 unfold GL
 constructor
 ·intro h
  by_cases h1:i.cps.toList<j.cps.toList
  ·rw [if_pos h1] at h;cases h
  ·rw [if_neg h1] at h
   by_cases h2:j.cps.toList<i.cps.toList
   ·rw [if_pos h2] at h;cases h
   ·exact Ug (List.le_antisymm (Std.not_lt.mp h2) (Std.not_lt.mp h1))
 ·rintro rfl
  rw [if_neg (List.lt_irrefl _),if_neg (List.lt_irrefl _)]
theorem FE {i j:Str}:GL i j=.lt ↔ i.cps.toList<j.cps.toList:=by
 unfold GL
 by_cases h1:i.cps.toList<j.cps.toList
 ·simp [h1]
 ·rw [if_neg h1]
  by_cases h2:j.cps.toList<i.cps.toList
  ·simp [h2,h1]
  ·simp [h2,h1]
theorem Jj {i j:Str}:GL i j=.gt ↔ j.cps.toList<i.cps.toList:=by
 rw [← FE,IH i j]
 cases GL i j<;>simp
theorem WK (i j k:Str):T3 (GL i j) (GL j k) (GL i k):=by
 refine ⟨λh=>?_,λh=>?_,λh=>?_⟩
 ·rw [HH.mp h]
 ·rw [HH.mp h]
 ·cases c:GL i j with
  | eq=>rw [HH.mp c];rw [c] at h;exact h.symm
  | lt=>rw [c] at h;exact FE.mpr (List.lt_trans (FE.mp c) (FE.mp h.symm))
  | gt=>rw [c] at h;exact Jj.mpr (List.lt_trans (Jj.mp h.symm) (Jj.mp c))
mutual
theorem cmp_swap:∀ (a b:D),CV b a=(CV a b).swap
 | .tup xs,.tup ys=>by unfold CV;exact K3 xs ys
 | .int i,b=>by cases b<;>first|(unfold CV;exact Pf _ _)|(simp only [CV];exact De _ _)
 | .str i,b=>by cases b<;>first|(unfold CV;exact IH _ _)|(simp only [CV];exact De _ _)
 | .tup xs,.int _=>by simp only [CV];exact De _ _
 | .tup xs,.str _=>by simp only [CV];exact De _ _
 | .tup xs,.non=>by simp only [CV];exact De _ _
 | .tup xs,.bl _=>by simp only [CV];exact De _ _
 | .tup xs,.lst _=>by simp only [CV];exact De _ _
 | .tup xs,.dct _ _=>by simp only [CV];exact De _ _
 | .tup xs,.set _=>by simp only [CV];exact De _ _
 | .tup xs,.ref _=>by simp only [CV];exact De _ _
 | .non,b=>by cases b<;>(simp only [CV];exact De _ _)
 | .bl _,b=>by cases b<;>(simp only [CV];exact De _ _)
 | .lst _,b=>by cases b<;>(simp only [CV];exact De _ _)
 | .dct _ _,b=>by cases b<;>(simp only [CV];exact De _ _)
 | .set _,b=>by cases b<;>(simp only [CV];exact De _ _)
 | .ref _,b=>by cases b<;>(simp only [CV];exact De _ _)
theorem K3:∀ (xs ys:List D),D1 ys xs=(D1 xs ys).swap
 | [],[]=>rfl
 | [],_::_=>rfl
 | _::_,[]=>rfl
 | x::xs,y::ys=>by
  unfold D1
  rw [cmp_swap x y]
  cases CV x y with
  | eq=>exact K3 xs ys
  | lt=>rfl
  | gt=>rfl
end
theorem NR {a b:D}(h:rk a≠rk b):CV a b=GR (rk a) (rk b):=by
 cases a<;>cases b<;>first|(simp only [CV];done)|(exact absurd rfl h)
theorem VW {a b:D}(h:CV a b=.eq):rk a=rk b:=by
 refine BK λz=>?_
 rw [NR z] at h
 unfold GR at h
 repeat' split at h
 all_goals first|(cases h;done)|omega
theorem T3.then' {h1 h2 h3 t1 t2 t3:Ordering}(h:T3 h1 h2 h3)(t:T3 t1 t2 t3):T3 (oTh h1 t1) (oTh h2 t2) (oTh h3 t3):=by
 obtain ⟨a,b,c⟩:=h
 cases h1 with
 | eq =>
  cases a rfl
  cases h2 with
  | eq=>exact t
  | lt=>exact (show T3 t1 .lt .lt from ⟨λ_=>rfl,λz=>(nomatch z),λz=>z.symm⟩)
  | gt=>exact (show T3 t1 .gt .gt from ⟨λ_=>rfl,λz=>(nomatch z),λz=>z.symm⟩)
 | lt =>
  cases h2 with
  | eq=>cases b rfl;exact (show T3 .lt t2 .lt from ⟨λz=>(nomatch z),λ_=>rfl,λ_=>rfl⟩)
  | lt=>cases c rfl;exact (show T3 .lt .lt .lt from ⟨λz=>(nomatch z),λ_=>rfl,λ_=>rfl⟩)
  | gt=>exact (show T3 .lt .gt _ from ⟨λz=>(nomatch z),λz=>(nomatch z),λz=>(nomatch z)⟩)
 | gt =>
  cases h2 with
  | eq=>cases b rfl;exact (show T3 .gt t2 .gt from ⟨λz=>(nomatch z),λ_=>rfl,λ_=>rfl⟩)
  | gt=>cases c rfl;exact (show T3 .gt .gt .gt from ⟨λz=>(nomatch z),λ_=>rfl,λ_=>rfl⟩)
  | lt=>exact (show T3 .gt .lt _ from ⟨λz=>(nomatch z),λz=>(nomatch z),λz=>(nomatch z)⟩)
theorem T3.of_rk {a b c:D}(h:¬ (rk a=rk b∧rk b=rk c)):T3 (CV a b) (CV b c) (CV a c):=by
 have n3:=V8 (rk a) (rk b) (rk c)
 have sg:∀ x y:D,rk x≠rk y->CV x y≠.eq:=λx y z e=>z (VW e)
 have lt:∀ x y:D,rk x<rk y->CV x y=.lt:=λx y z=>by rw [NR (by omega)];unfold GR;rw [if_pos z]
 have gt:∀ x y:D,rk y<rk x->CV x y=.gt:=λx y z=>by rw [NR (by omega)];unfold GR;rw [if_neg (by omega),if_pos z]
 rcases BX (rk a) (rk b) with h1|h1|h1<;>rcases BX (rk b) (rk c) with h2|h2|h2
 ·rw [lt a b h1,lt b c h2,lt a c (by omega)];exact ⟨λz=>(nomatch z),λ_=>rfl,λ_=>rfl⟩
 ·rw [lt a b h1,lt a c (by omega)];exact ⟨λz=>(nomatch z),λ_=>rfl,λ_=>rfl⟩
 ·rw [lt a b h1,gt b c h2];exact ⟨λz=>(nomatch z),λz=>(nomatch z),λz=>(nomatch z)⟩
 ·rw [lt b c h2,lt a c (by omega)];exact ⟨λ_=>rfl,λz=>(nomatch z),λz=>z.symm⟩
 ·exact absurd ⟨h1,h2⟩ h
 ·rw [gt b c h2,gt a c (by omega)];exact ⟨λ_=>rfl,λz=>(nomatch z),λz=>z.symm⟩
 ·rw [gt a b h1,lt b c h2];exact ⟨λz=>(nomatch z),λz=>(nomatch z),λz=>(nomatch z)⟩
 ·rw [gt a b h1,gt a c (by omega)];exact ⟨λz=>(nomatch z),λ_=>rfl,λ_=>rfl⟩
 ·rw [gt a b h1,gt b c h2,gt a c (by omega)];exact ⟨λz=>(nomatch z),λ_=>rfl,λ_=>rfl⟩
theorem Rp {b:D}(h:0=rk b):∃ j,b=.int j:=by cases b<;>first|exact ⟨_,rfl⟩|cases h
theorem R8 {b:D}(h:1=rk b):∃ j,b=.str j:=by cases b<;>first|exact ⟨_,rfl⟩|cases h
theorem QS {b:D}(h:2=rk b):∃ j,b=.tup j:=by cases b<;>first|exact ⟨_,rfl⟩|cases h
theorem Wv {a b:D}(ha:3=rk a)(hb:3=rk b):CV a b=.eq:=by
 cases a<;>first|(cases ha;done)|(cases b<;>first|(cases hb;done)|rfl)
theorem T3.of_o {a b c:D}(h:3=rk a):T3 (CV a b) (CV b c) (CV a c):=by
 by_cases e:rk a=rk b∧rk b=rk c
 ·have h2:=h.trans e.1
  rw [Wv h h2,Wv h2 (h2.trans e.2),Wv h (h2.trans e.2)]
  exact ⟨λ_=>rfl,λ_=>rfl,λ_=>rfl⟩
 ·exact .of_rk e
mutual
theorem VJ:∀ (a b c:D),T3 (CV a b) (CV b c) (CV a c)
 | .tup xs,b,c=>by
  by_cases e:rk (.tup xs)=rk b∧rk b=rk c
  ·obtain ⟨ys,rfl⟩:=QS e.1
   obtain ⟨zs,rfl⟩:=QS e.2
   unfold CV
   exact SN xs ys zs
  ·exact .of_rk e
 | .int i,b,c=>by
  by_cases e:rk (.int i)=rk b∧rk b=rk c
  ·obtain ⟨j,rfl⟩:=Rp e.1
   obtain ⟨k,rfl⟩:=Rp e.2
   unfold CV
   exact VY _ _ _
  ·exact .of_rk e
 | .str i,b,c=>by
  by_cases e:rk (.str i)=rk b∧rk b=rk c
  ·obtain ⟨j,rfl⟩:=R8 e.1
   obtain ⟨k,rfl⟩:=R8 e.2
   unfold CV
   exact WK _ _ _
  ·exact .of_rk e
 | .non,_,_=>.of_o rfl
 | .bl _,_,_=>.of_o rfl
 | .lst _,_,_=>.of_o rfl
 | .dct _ _,_,_=>.of_o rfl
 | .set _,_,_=>.of_o rfl
 | .ref _,_,_=>.of_o rfl
theorem SN:∀ (xs ys zs:List D),T3 (D1 xs ys) (D1 ys zs) (D1 xs zs)
 | [],[],[]=>⟨λ_=>rfl,λ_=>rfl,λ_=>rfl⟩
 | [],[],_::_=>⟨λ_=>rfl,λz=>(nomatch z),λz=>(nomatch z)⟩
 | [],_::_,[]=>⟨λz=>(nomatch z),λz=>(nomatch z),λz=>(nomatch z)⟩
 | [],y::ys,z::zs=>⟨λz=>(nomatch z),λ_=>rfl,λ_=>rfl⟩
 | x::xs,[],[]=>⟨λz=>(nomatch z),λ_=>rfl,λz=>(nomatch z)⟩
 | x::xs,[],_::_=>⟨λz=>(nomatch z),λz=>(nomatch z),λz=>(nomatch z)⟩
 | x::xs,y::ys,[]=>⟨λ_=>rfl,λz=>(nomatch z),λz=>z.symm⟩
 | x::xs,y::ys,z::zs=>by
  unfold D1
  exact (VJ x y z).then' (SN xs ys zs)
end
theorem HQ (a b:D)(h:ltT a b=true):ltT b a=false:=by
 unfold ltT at *
 rw [cmp_swap a b]
 cases c:CV a b<;>rw [c] at h<;>first|rfl|cases h
theorem Nv (a b c:D)(h1:ltT b a=false)(h2:ltT c b=false):ltT c a=false:=by
 unfold ltT at *
 have t:=VJ c b a
 cases q:CV c b with
 | eq=>rw [← t.e1 q];exact h1
 | lt=>rw [q] at h2;cases h2
 | gt =>
  cases q2:CV b a with
  | eq=>rw [← t.e2 q2,q];rfl
  | lt=>rw [q2] at h1;cases h1
  | gt=>rw [t.e3 (q.trans q2.symm),q];rfl
mutual
noncomputable def FC:D->Bool
 | .int _=>true
 | .str _=>true
 | .tup ds=>GK ds
 | _=>false
noncomputable def GK:List D->Bool
 | []=>true
 | d::ds=>FC d&&GK ds
end
mutual
theorem LS:∀ {d:D},FC d=true->hsh d=true
 | .int _,_=>rfl
 | .str _,_=>rfl
 | .tup ds,h=>by unfold FC at h;unfold hsh;exact MY h
 | .non,h=>nomatch h
 | .bl _,h=>nomatch h
 | .lst _,h=>nomatch h
 | .dct _ _,h=>nomatch h
 | .set _,h=>nomatch h
 | .ref _,h=>nomatch h
theorem MY:∀ {ds:List D},GK ds=true->FA ds=true
 | [],_=>rfl
 | d::ds,h=>by
  unfold GK at h
  rw [Ac] at h
  unfold FA
  rw [LS h.1,MY h.2]
  rfl
end
mutual
theorem Nu:∀ (a b:D),FC a=true->FC b=true->CV a b=.eq->a=b
 | .int i,b,_,hb,h=>by
  cases b<;>first|(cases hb;done)|(simp [CV,GR,rk] at h;done)|skip
  rename_i j
  unfold CV Ja at h
  repeat' split at h
  all_goals first|(cases h;done)|(congr 1;omega)
 | .str i,b,_,hb,h=>by
  cases b<;>first|(cases hb;done)|(simp [CV,GR,rk] at h;done)|skip
  unfold CV at h
  rw [HH.mp h]
 | .tup xs,b,ha,hb,h=>by
  cases b<;>first|(cases hb;done)|(simp [CV,GR,rk] at h;done)|skip
  unfold CV at h
  unfold FC at ha hb
  congr 1
  exact Ol xs _ ha hb h
 | .non,_,h,_,_=>nomatch h
 | .bl _,_,h,_,_=>nomatch h
 | .lst _,_,h,_,_=>nomatch h
 | .dct _ _,_,h,_,_=>nomatch h
 | .set _,_,h,_,_=>nomatch h
 | .ref _,_,h,_,_=>nomatch h
theorem Ol:∀ (xs ys:List D),GK xs=true->GK ys=true->D1 xs ys=.eq->xs=ys
 | [],[],_,_,_=>rfl
 | [],_::_,_,_,h=>by cases h
 | _::_,[],_,_,h=>by cases h
 | x::xs,y::ys,ha,hb,h=>by
  unfold GK at ha hb
  rw [Ac] at ha hb
  unfold D1 at h
  cases c:CV x y<;>rw [c] at h<;>first|(cases h;done)|skip
  rw [Nu x y ha.1 hb.1 c,Ol xs ys ha.2 hb.2 h]
end
theorem lt_eq (a b:D)(ha:FC a=true)(hb:FC b=true)(h1:ltT a b=false)(h2:ltT b a=false):a=b:=by
 refine Nu a b ha hb ?_
 unfold ltT at h1 h2
 rw [cmp_swap a b] at h2
 cases c:CV a b with
 | eq=>rfl
 | lt=>rw [c] at h1;cases h1
 | gt=>rw [c] at h2;cases h2
theorem Sk (a:D):CV a a=.eq:=by
 have:=cmp_swap a a
 cases c:CV a a<;>rw [c] at this<;>first|rfl|cases this
mutual
theorem R0:∀ (a b:D) (r:Bool),FC a=true->FC b=true->ltB a b=some r->r=(CV a b==.lt)
 | .int i,b,r,_,hb,h=>by
  cases b<;>first|(cases hb;done)|(unfold ltB at h;cases h;done)|skip
  rename_i j
  unfold ltB at h
  cases h
  unfold CV Ja
  by_cases c:i<j
  ·simp [c]
  ·rw [A9 c,if_neg c];split<;>rfl
 | .str i,b,r,_,hb,h=>by
  cases b<;>first|(cases hb;done)|(unfold ltB at h;cases h;done)|skip
  rename_i j
  unfold ltB at h
  cases h
  unfold CV
  by_cases c:i.cps.toList<j.cps.toList
  ·rw [BM c,FE.mpr c];rfl
  ·rw [A9 c]
   have:GL i j≠.lt:=λz=>c (FE.mp z)
   cases e:GL i j<;>first|rfl|exact absurd e this
 | .tup xs,b,r,ha,hb,h=>by
  cases b<;>first|(cases hb;done)|(unfold ltB at h;cases h;done)|skip
  unfold ltB at h
  unfold CV
  unfold FC at ha hb
  exact Ss xs _ r ha hb h
 | .non,_,_,h,_,_=>nomatch h
 | .bl _,_,_,h,_,_=>nomatch h
 | .lst _,_,_,h,_,_=>nomatch h
 | .dct _ _,_,_,h,_,_=>nomatch h
 | .set _,_,_,h,_,_=>nomatch h
 | .ref _,_,_,h,_,_=>nomatch h
theorem Ss:∀ (xs ys:List D) (r:Bool),GK xs=true->GK ys=true->Gw xs ys=some r->r=(D1 xs ys==.lt)
 | [],[],r,_,_,h=>by unfold Gw at h;cases h;rfl
 | [],_::_,r,_,_,h=>by unfold Gw at h;cases h;rfl
 | _::_,[],r,_,_,h=>by unfold Gw at h;cases h;rfl
 | x::xs,y::ys,r,ha,hb,h=>by
  unfold GK at ha hb
  rw [Ac] at ha hb
  unfold Gw at h
  split at h
  ·rw [GA (LS ha.1) (LS hb.1)] at h
   unfold D1
   by_cases c:x=y
   ·rw [BM c] at h
    subst c
    rw [Sk]
    exact Ss xs ys r ha.2 hb.2 (by simpa using h)
   ·rw [A9 c] at h
    have e:=R0 x y r ha.1 hb.1 (by simpa using h)
    rw [e]
    cases q:CV x y with
    | eq=>exact absurd (Nu x y ha.1 hb.1 q) c
    | lt=>rfl
    | gt=>rfl
  ·cases h
end
noncomputable def leT (a b:D):Bool:=!ltT b a
noncomputable def Ee (es:List D):List D:=es.mergeSort leT
theorem Pq (a b c:D)(h1:leT a b=true)(h2:leT b c=true):leT a c=true:=by
 unfold leT at *
 simp at h1 h2 ⊢
 exact Nv a b c h1 h2
theorem Ph (a b:D):(leT a b||leT b a)=true:=by
 unfold leT
 cases c:ltT b a with
 | false=>rfl
 | true=>simp [HQ b a c]
theorem Dg (es:List D):(Ee es).Perm es:=List.mergeSort_perm es leT
theorem HY (es:List D):(Ee es).Pairwise λa b=>leT a b=true:=List.pairwise_mergeSort Pq Ph es
theorem HK {es rs:List D}(ho:∀ d∈es,FC d=true)(hp:rs.Perm es)(hs:rs.Pairwise λa b=>leT a b=true):rs=Ee es:=by
 have hp2:=hp.trans (Dg es).symm
 refine List.Perm.eq_of_pairwise (λa b ha hb h1 h2=>?_) hs (HY es) hp2
 unfold leT at h1 h2
 simp at h1 h2
 exact lt_eq a b (ho a (hp.mem_iff.mp ha)) (ho b ((Dg es).mem_iff.mp hb)) h2 h1
theorem K9 {es fs:List D}(ho:∀ d∈es,FC d=true)(hp:fs.Perm es):Ee fs=Ee es:=HK ho ((Dg fs).trans hp) (HY fs)
section
variable {prog:Program} {w:World} {A:Around} {E:Value->Shared->Prop} {s:Shared}
theorem Qm {S I:Addr}{es:Array (Int×Value)}{ep:Nat}{t:SetTable}{md:Md}{Q:PySem.Fin->Shared->Prop}(hh:A.handled=none)(hf:t.fits es.size=true)(g:SIt w S I es ep t md es.size s.heap)
  (q:∀ h' e,(∀ c o,c≠I->s.heap.get? c=some o->h'.get? c=some o)->(∃ o,h'.get? e=some o∧o.cls=.type "StopIteration")->E (.ref e) { s with heap:=h' }) :
  wpAny (model prog w) A (Builtin.«set_iterator.__next__» ⟨[.ref I],[]⟩) Q E s:=by
 obtain ⟨⟨ob,g1,g2⟩,o,v,k1,k2,k3,k4⟩:=id g
 have upd:∀ (h:Heap) f c o',c≠I->h.get? c=some o'->(h.update I f).get? c=some o':=λh f c o' hc e=>((AA ..).2 c hc).trans e
 refine (?_:wpAny _ _ (fieldsOf (.ref I) >>= _) _ _ _)
 refine Aa (wpAny_fieldsOf k1 k3 (?_:wpAny _ _ (setEntries S >>= _) _ _ _))
 refine Aa (wpAny_setEntries_of g1 g2 hf ?_)
 rw [if_neg (by simp)]
 cases md with
 | drw TI pl =>
  obtain ⟨rfl,⟨tb,b1,b2,n,b3⟩,c1,c2⟩:=k4
  refine (?_:wpAny _ _ (seqItems? (.ref TI) >>= _) _ _ _)
  refine Aa (Bp b1 b3 ?_)
  have ei:(pl.map λp:Nat=>rawInt p).toArray[((es.size:Nat):Int).toNat]? = none:=by simp [c1]
  dsimp only
  rw [ei]
  obtain ⟨o',e1,e2,e3⟩:=EO (i:=0) (x:=rawInt 0) k1 k3
  refine Aa (Bi k1 k3 (by simp) (Aa (Bi e1 e3 (by simp) ?_)))
  exact Fm (I:=I) hh λh' e a b=>q h' e (λc o hc z=>a c o (upd _ _ c o hc (upd _ _ c o hc z))) b
 | txt =>
  obtain ⟨bt,c,rfl⟩:=k4
  refine (?_:wpAny _ _ (setNext S ((c:Nat):Int).toNat ((es.size:Nat):Int).toNat ((ep:Nat):Int).toNat >>= _) _ _ _)
  refine Aa ?_
  unfold setNext
  refine Aa (Bb g1 g2 hf (Aa (EM ?_)))
  rw [if_pos bt]
  rw [Int.toNat_natCast,Int.toNat_natCast,Int.toNat_natCast]
  dsimp only
  rw [if_neg (by simp)]
  refine Aa ?_
  unfold setWalk
  refine Aa (Bb g1 g2 hf (Aa (EM ?_)))
  rw [if_pos bt]
  refine Aa (wpAny_askSetting (Ab (Ab ?_)))
  have hl:(pickOrder (w.params.setOrder S ep) es).size=es.size:=by
   have:=(Fv (w.params.setOrder S ep) es).length_eq
   simpa using this
  have ex':Option.map (λe:Int×Value=>(e.2,c)) (pickOrder ((⟨prog,w.params⟩:Setting).params.setOrder S ep) es)[es.size]? = none:=by
   rw [Bj (by rw [show (⟨prog,w.params⟩:Setting).params.setOrder S ep=w.params.setOrder S ep from rfl,hl];exact Ag _)];rfl
  refine (?_:wpAny _ _ (match Option.map (λe:Int×Value=>(e.2,c)) (pickOrder ((⟨prog,w.params⟩:Setting).params.setOrder S ep) es)[es.size]? with|some (x,next)=>_|none=>_) _ _ _)
  rw [ex']
  refine Aa (Bi k1 k3 (by simp) ?_)
  exact Fm (I:=I) hh λh' e a b=>q h' e (λc o hc z=>a c o (upd _ _ c o hc z)) b
 | one =>
  obtain ⟨bt,pl,sz,led,rfl⟩:=k4
  refine (?_:wpAny _ _ (setNext S ((if es.size=0 then 0 else (t.place.getD 0 0+1):Nat):Int).toNat ((es.size:Nat):Int).toNat ((ep:Nat):Int).toNat >>= _) _ _ _)
  refine Aa ?_
  unfold setNext
  refine Aa (Bb g1 g2 hf (Aa (EM ?_)))
  rw [if_neg (by rw [bt];exact AE)]
  refine FP (λz=>?_) λ_=>?_
  ·exfalso
   have z':(!t.plain&&decide (es.size > 1))=true:=z
   simp at z'
   omega
  refine Aa (FP (λz=>?_) λ_=>?_)
  ·exfalso
   have z':(!t.led&&!es.isEmpty)=true:=z
   rw [led] at z'
   simp at z'
  refine Ab ?_
  have ps:t.place.size=es.size:=by
   simp only [SetTable.fits,Ac,beq_iff_eq,Af] at hf
   exact hf.1
  have bl:SetTable.below t.place (if es.size=0 then 0 else (t.place.getD 0 0+1))=es.size:=by
   by_cases c:es.size=0
   ·rw [if_pos c,JC (by omega),c]
   ·rw [if_neg c,NC (by omega)];omega
  have en:es[es.size]? = none:=Bj (Ag _)
  have hm:(match es[SetTable.below t.place ((if es.size=0 then 0 else (t.place.getD 0 0+1):Nat):Int).toNat]?,t.place[SetTable.below t.place ((if es.size=0 then 0 else (t.place.getD 0 0+1):Nat):Int).toNat]? with|some (_,x),some j=>some (x,j+1)|_,_=>none)=none:=by
   rw [Int.toNat_natCast,bl,en]
  refine (?_:wpAny _ _ (pure (match es[SetTable.below t.place ((if es.size=0 then 0 else (t.place.getD 0 0+1):Nat):Int).toNat]?,t.place[SetTable.below t.place ((if es.size=0 then 0 else (t.place.getD 0 0+1):Nat):Int).toNat]? with|some (_,x),some j=>some (x,j+1)|_,_=>none)) _ _ _)
  rw [hm]
  refine Ab (Aa (Bi k1 k3 (by simp) ?_))
  exact Fm (I:=I) hh λh' e a b=>q h' e (λc o hc z=>a c o (upd _ _ c o hc z)) b
theorem SIt.ty {S I:Addr}{es:Array (Int×Value)}{ep:Nat}{t:SetTable}{md:Md}{i:Nat}(g:SIt w S I es ep t md i s.heap):s.TypeIs (.ref I) "set_iterator":=let ⟨_,o,v,k1,k2,_⟩:=g;⟨o,k1,k2⟩
noncomputable def Md.fp (S I:Addr):Md->List Addr
 | .drw TI _=>[I,S,TI]
 | _=>[I,S]
theorem Jf:entryFor table "set_iterator.__iter__"=some Builtin.«dict_keyiterator.__iter__»:=
 entryFor_alias (id':="dict_keyiterator.__iter__") (by kernel_rfl) rfl (by decide +kernel) (by kernel_rfl)
theorem Kd (a:Value):argsOk "set_iterator.__iter__" ⟨[a],[]⟩:=by
 unfold argsOk;rw [signature?_of (id:="set_iterator.__iter__") (n:=['_','_','r','e','t','i','_','_']) (o:=['r','o','t','a','r','e','t','i','_','t','e','s']) (by kernel_rfl) JD];kernel_rfl
theorem Kr (hh:A.handled=none){S I:Addr}{es:Array (Int×Value)}{ep:Nat}{t:SetTable}{md:Md}(hf:t.fits es.size=true)(ne:S≠I)(ap:md.apart I) :
  Walks prog w A I (md.fp S I) [I] es.size (λi v=>(Km w S es ep md)[i]? = some v) (λi h=>SIt w S I es ep t md i h) where
 sub:=λb hb=>by rw [Ao.mp hb];cases md<;>simp [Md.fp]
 frame:=λ_ h h' st hk=>by
  obtain ⟨⟨ob,g1,g2⟩,o,v,k1,k2,k3,k4⟩:=st
  refine ⟨⟨ob,hk S (by cases md<;>simp [Md.fp]) _ g1,g2⟩,o,v,hk I (by cases md<;>simp [Md.fp]) _ k1,k2,k3,?_⟩
  cases md with
  | drw TI pl=>obtain ⟨a,⟨tb,b1,b2⟩,c⟩:=k4;exact ⟨a,⟨tb,hk TI (by simp [Md.fp]) _ b1,b2⟩,c⟩
  | txt=>exact k4
  | one=>exact k4
 item:=λ_ s Q E hi st hQ=>by
  unfold pyNext
  exact Aa (wpAny_attempt (AQ (name:=Str.ofString "__next__") st.ty DL (AL DL st.ty GJ (Pm hf ne ap st hi λv h' e g' sb=>Ab (hQ v h' s.toks e g' λb o hb z=>(sb.2 b (by simpa using hb)).trans z)) (G5 _))))
 done:=λs Q E st hQ=>by
  unfold pyNext
  refine Aa (wpAny_attempt (AQ (name:=Str.ofString "__next__") st.ty DL (AL DL st.ty GJ (Qm hh hf st λh' e a b=>?_) (G5 _))))
  obtain ⟨o,ho,hc⟩:=b
  exact Aa (B3 (T:="StopIteration") (b:=true) ⟨o,ho,hc⟩ isSubtype_stop (Ab (hQ h' s.toks λb o hb z=>a b o (by simpa using hb) z)))
 self:=λi s Q E st hQ=>by
  refine wpAny_pyIter_slot st.ty GW (AL GW st.ty Jf ?_ (Kd _))
  refine (?_:wpAny _ _ (ret (.ref I)) _ _ s)
  exact Ab ⟨_,rfl,"set_iterator",_,st.ty,DL.lookup,hQ⟩
theorem JI:entryFor table "set.__iter__"=some Builtin.«frozenset.__iter__»:=
 entryFor_alias (id':="frozenset.__iter__") (by kernel_rfl) (by decide +kernel) (by decide +kernel) (by kernel_rfl)
theorem Ob {S:Addr}{ob:Obj}{es:Array (Int×Value)}{ep:Nat}{t:SetTable}{Q:Value->Shared->Prop}(hz:es.size≤sizeLine)(g1:s.heap.get? S=some ob)(gc:ob.cls=.type "set")(g2:ob.data=.set es ep t)(hf:t.fits es.size=true)(hw:CZ w=true∨t.led=true∧(t.plain=false∨es.size≤1))
  (q:∀ I h' d' md,s.heap.objs.size≤I->SIt w S I es ep t md 0 h'->md.apart I->(∀ b o,s.heap.get? b=some o->h'.get? b=some o)->(Km w S es ep md).Perm (es.toList.map (·.2))->(∀ b∈md.fp S I,b<h'.objs.size)->Q (.ref I) { s with heap:=h',drawn:=d' }):wpAny (model prog w) A (pyIter (.ref S)) Q E s:=by
 have ty:s.TypeIs (.ref S) "set":=⟨ob,g1,gc⟩
 refine wpAny_pyIter_slot ty F.slot_set_iter (AL F.slot_set_iter ty JI ?_ (F.args_set_iter_1 _))
 refine (?_:wpAny _ _ (Builtin.Frozenset.sizeOf S >>= _) _ _ s)
 refine Aa (Aa (wpAny_setEntries_of g1 g2 hf (Ab ?_)))
 have lt:S<s.heap.objs.size:=Al g1
 have fin:∀ (h1:Heap) d1 (md:Md) (v:Value),(∀ b o,s.heap.get? b=some o->h1.get? b=some o)->s.heap.objs.size≤h1.objs.size->Fst w es t h1 0 v md->(∀ TI pl,md=.drw TI pl->TI<h1.objs.size)->(Km w S es ep md).Perm (es.toList.map (·.2)) ->
   wpAny (model prog w) A.in1 (setEpoch S >>= λe=>newFields "set_iterator" [v,rawInt 0,.ref S,rawInt es.size,rawInt e] >>= λr=>ret r) (λfin s'=>∃ v,fin=.done (.ret v)∧∃ T' r,s'.TypeIs v T'∧typeLookup (.type T') "__next__"=pure (some r)∧Q v s') E { s with heap:=h1,drawn:=d1 }:=λh1 d1 md v hk hsz hF hTI hp=>by
  refine Aa (wpAny_setEpoch_of (s:={ s with heap:=h1,drawn:=d1 }) (hk _ _ g1) g2 hf (Aa ?_))
  unfold newFields
  refine AR (Ab ⟨_,rfl,"set_iterator",_,⟨_,Ai _ rfl,rfl⟩,DL.lookup,?_⟩) (by size_fits)
  refine q h1.objs.size _ d1 md hsz ⟨⟨ob,Ad _ (hk _ _ g1),g2⟩,_,v,Ai _ rfl,rfl,rfl,?_⟩ ?_ (λb o e=>Ad _ (hk b o e)) hp ?_
  ·cases md with
   | drw TI pl=>obtain ⟨a,⟨tb,b1,b2⟩,c⟩:=hF;exact ⟨a,⟨tb,Ad _ b1,b2⟩,c⟩
   | txt=>exact hF
   | one=>exact hF
  ·cases md with
   | drw TI pl=>exact Au (hTI TI pl rfl)
   | txt=>exact True.intro
   | one=>exact True.intro
  ·intro b hb
   rw [Ba]
   have lS:=A0 (AD lt hsz)
   cases md with
   | drw TI pl =>
    have:=hTI TI pl rfl
    simp only [Md.fp,An,A4,or_false] at hb
    rcases hb with rfl|rfl|rfl
    ·exact AV _
    ·exact lS
    ·exact A0 this
   | txt =>
    simp only [Md.fp,An,A4,or_false] at hb
    rcases hb with rfl|rfl
    ·exact AV _
    ·exact lS
   | one =>
    simp only [Md.fp,An,A4,or_false] at hb
    rcases hb with rfl|rfl
    ·exact AV _
    ·exact lS
 refine (?_:wpAny _ _ (setDrawn S >>= _) _ _ s)
 refine Aa ?_
 unfold setDrawn
 refine Aa (Bb g1 g2 hf (Aa (EM (Ab ?_))))
 refine FP (λc=>?_) λc=>?_
 ·have c':(!CZ w&&(!t.plain&&decide (es.size > 1)))=true:=c
  refine Aa (MC es.size (List.range es.size) (by simp) λys d' p=>?_)
  unfold newTuple
  refine Aa (AR ?_ (by
   show ((ys.map λi:Nat=>rawInt i).toArray).size≤sizeLine
   rw [Av,Ah,p.length_eq,Br];exact hz))
  have sz:(s.heap.push { cls:=.type "tuple",data:=.seq (ys.map λi:Nat=>rawInt i).toArray }).objs.size=s.heap.objs.size+1:=Ba ..
  refine fin _ d' (.drw s.heap.objs.size ys) _ (λb o e=>Ad _ e) (by rw [sz];omega) ⟨rfl,⟨_,Ai _ rfl,rfl,_,rfl⟩,by rw [p.length_eq,Br],λx hx=>A3.mp (p.mem_iff.mp hx)⟩ (λTI pl e=>by cases e;rw [sz];exact AV _) ?_
  unfold Km
  have e1:(List.range es.size).map (λp=>(es.getD p (0,.none)).2)=es.toList.map (·.2):=by
   refine Bs λi=>?_
   rw [Ap,Ap,Ax]
   by_cases hi:i<es.size
   ·simp [hi,Array.getD]
   ·simp [hi]
  rw [← e1]
  exact p.map _
 ·have c':¬ (!CZ w&&(!t.plain&&decide (es.size > 1)))=true:=c
  by_cases bt:CZ w=true
  ·refine fin s.heap s.drawn .txt (rawInt 0) (λ_ _ e=>e) (Ag _) ⟨bt,0,rfl⟩ (λTI pl e=>nomatch e) ?_
   exact (Fv _ es).map _
  ·have bf:CZ w=false:=by simpa using bt
   have hw':=hw.resolve_left bt
   have sz:es.size≤1:=by
    rw [bf] at c'
    rcases hw'.2 with z|z
    ·rw [z] at c';simp at c';omega
    ·exact z
   exact fin s.heap s.drawn .one (rawInt 0) (λ_ _ e=>e) (Ag _) ⟨bf,hw'.2,sz,hw'.1,rfl⟩ (λTI pl e=>nomatch e) (BN _)
theorem NL {S:Addr}{ob:Obj}{es:Array (Int×Value)}{ep:Nat}{t:SetTable}{Q:List Value->Shared->Prop}(hh:A.handled=none)(hz:es.size≤sizeLine)(g1:s.heap.get? S=some ob)(gc:ob.cls=.type "set")(g2:ob.data=.set es ep t)(hf:t.fits es.size=true)(hw:CZ w=true∨t.led=true∧(t.plain=false∨es.size≤1))
  (q:∀ zs h' tk d',zs.Perm (es.toList.map (·.2))->(∀ b o,s.heap.get? b=some o->h'.get? b=some o)->Q zs { s with heap:=h',toks:=tk,drawn:=d' }):wpAny (model prog w) A (collect (.ref S)) Q E s:=by
 have lt:S<s.heap.objs.size:=Al g1
 have nS:s.heap.objs.size≠S:=BQ lt
 unfold collect
 refine Aa (wpAny_runValue (Bc F.entry_proto_collect ?_))
 rw [A5 F.plain_proto_collect _]
 refine (?_:wpAny _ A.in1 (newList [] >>= λl=>again (.builtin "list.__iadd__" ⟨[l,.ref S],[]⟩)) _ _ s)
 refine Aa (AR (Ab ⟨BV F.plain_list_iadd _,Bc F.entry_list_iadd ?_⟩))
 rw [A5 F.plain_list_iadd _]
 refine (?_:wpAny _ A.in1 (Builtin.List.listExtendWith (.ref s.heap.objs.size) (.ref S) (.ref s.heap.objs.size)) _ _ _)
 (unfold Builtin.List.listExtendWith)
 have gS:(s.heap.push { cls:=.type "list",data:=.seq ([]:List Value).toArray }).get? S=some ob:=Ad _ g1
 have gL:(s.heap.push { cls:=.type "list",data:=.seq ([]:List Value).toArray }).get? s.heap.objs.size=some { cls:=.type "list",data:=.seq ([]:List Value).toArray }:=Ai _ rfl
 generalize hP:s.heap.push { cls:=.type "list",data:=.seq ([]:List Value).toArray }=h1 at gS gL ⊢
 have k1:∀ b o,s.heap.get? b=some o->h1.get? b=some o:=λb o e=>by rw [← hP];exact Ad _ e
 have sz1:h1.objs.size=s.heap.objs.size+1:=by rw [← hP];exact Ba ..
 have ty:Shared.TypeIs { s with heap:=h1 } (.ref S) "set":=⟨ob,gS,gc⟩
 refine Aa (BC ty ?_)
 have e1:Builtin.List.listSameRef (.ref s.heap.objs.size) (.ref S)=false:=by simp [Builtin.List.listSameRef,nS]
 have e2:(Value.type "set"==Value.type "list")=false:=by decide
 have e3:(Value.type "set"==Value.type "tuple")=false:=by decide
 simp only [e1,e2,e3,Bool.or_false,Az,A7]
 refine Aa (Ob (s:={ s with heap:=h1 }) hz gS gc g2 hf hw λI h2 d2 md hI st ap k2 pm fpl=>?_)
 refine Aa (AI ?_)
 have ty2:Shared.TypeIs { s with heap:=h2,drawn:=d2 } (.ref S) "set":=⟨ob,k2 _ _ gS,gc⟩
 (unfold Builtin.List.listLengthHint)
 refine Aa (wpAny_specialOf ty2 F.slot_set_len.lookup ?_)
 refine (?_:wpAny _ A.in1 (isInstance (Value.ref S) (.type "set") >>= _) _ _ _)
 refine Aa (B3 ty2 sub_set_self ?_)
 refine (?_:wpAny _ A.in1 (typeOf (Value.ref S) >>= _) _ _ _)
 refine Aa (BC ty2 (Ab ?_))
 refine (?_:wpAny _ A.in1 (rule "list.extend.makes-room" >>= λ_=>Builtin.List.listTouch (.ref s.heap.objs.size) >>= λ_=>again (.builtin "list.extend.loop" ⟨[.ref s.heap.objs.size,.ref I,.ref s.heap.objs.size],[]⟩)) _ _ _)
 refine Aa (Bo (Aa ?_))
 refine (?_:wpAny _ A.in1 (updateSeq s.heap.objs.size (·.push .none) >>= λ_=>updateSeq s.heap.objs.size (·.pop)) _ _ _)
 have gL2:=k2 _ _ gL
 refine Aa (wpAny_updateSeq gL2 rfl ?_)
 have gL3:=AN (Obj.mapSeq (·.push Value.none)) gL2 rfl
 refine wpAny_updateSeq gL3 rfl ?_
 have gL4:=AN (Obj.mapSeq (·.pop)) gL3 rfl
 have nL:s.heap.objs.size∉md.fp S I:=by
  have nI:s.heap.objs.size≠I:=λe=>by
   have:s.heap.objs.size+1≤I:=by rw [← sz1];exact hI
   rw [← e] at this
   exact absurd this (Nat.not_succ_le_self _)
  cases md with
  | drw TI pl =>
   obtain ⟨_,o,v,_,_,_,_,⟨tb,b1,b2,_⟩,_⟩:=st
   have nT:s.heap.objs.size≠TI:=λe=>by
    rw [← e,gL2] at b1
    cases b1
    exact absurd b2 (by decide)
   simp only [Md.fp,An,A4,or_false,not_or]
   exact ⟨nI,nS,nT⟩
  | txt=>simp only [Md.fp,An,A4,or_false,not_or];exact ⟨nI,nS⟩
  | one=>simp only [Md.fp,An,A4,or_false,not_or];exact ⟨nI,nS⟩
 have oth:∀ b o,b≠s.heap.objs.size->h2.get? b=some o->((h2.update s.heap.objs.size (Obj.mapSeq (·.push Value.none))).update s.heap.objs.size (Obj.mapSeq (·.pop))).get? b=some o:=
  λb o hb e=>(Bt _ _ (Ne.symm hb)).trans ((Bt _ _ (Ne.symm hb)).trans e)
 have nSI:S≠I:=λe=>by
  have a:s.heap.objs.size+1≤I:=by rw [← sz1];exact hI
  rw [← e] at a
  exact absurd (AD lt (AJ (BU _) a)) (A6 _)
 have W:=(Kr (prog:=prog) (A:=A.in1) (w:=w) (ep:=ep) hh hf nSI ap).toS
 refine Ab ⟨BV F.plain_extend_loop _,codeAny_extend_loopS (A:=A) W hz _ nL _ es.size 0 _ _ _ rfl (AW _) ?_ gL4 (ItemsOf.nil _) λs' acc' c' hm hS' hacc=>?_⟩
 ·exact (Kr (prog:=prog) (A:=A.in1) (w:=w) (ep:=ep) hh hf nSI ap).frame 0 _ _ st λb hb o e=>oth b o (λz=>nL (z▸hb)) e
 refine (?_:wpAny _ A (load s.heap.objs.size >>= _) _ _ s')
 refine Aa (wpAny_load hS' ?_)
 obtain ⟨zh,zg,zd,zt,zo⟩:=s'
 have e4:zg=s.gens:=hm.gens
 have e5:zd=d2:=hm.drawn
 have e6:zo=s.os:=hm.os
 subst e4 e5 e6
 refine Ab (q acc'.toList zh zt zd ?_ λb o e=>?_)
 ·have ln:(Km w S es ep md).length=es.size:=by rw [pm.length_eq];simp
  have:acc'.toList=Km w S es ep md:=by
   refine Bs λi=>?_
   by_cases hi:i<es.size
   ·have hi':i<acc'.size:=by rw [hacc.1];exact hi
    rw [Ax,Aq hi']
    exact (hacc.2 i _ (Aq hi')).symm
   ·rw [Ax,Bj (by rw [hacc.1];omega),List.getElem?_eq_none (by rw [ln];omega)]
  rw [this]
  exact pm
 ·have bl:=Al e
  refine hm.heap b o ?_ (oth b o (Au bl) (k2 _ _ (k1 _ _ e)))
  simp only [An,A4,or_false,not_or]
  refine ⟨Au bl,λz=>?_⟩
  have a:s.heap.objs.size+1≤I:=by rw [← sz1];exact hI
  rw [← z] at a
  exact absurd (AD bl (AJ (BU _) a)) (A6 _)
noncomputable def HP (prog:Program)(w:World)(A:Around)(zs out:List Value)(s:Shared):Prop:=∀ (h1:Heap) (a:Addr) (P:PySem.Fin->Shared->Prop) (E':Value->Shared->Prop),(∀ b o,s.heap.get? b=some o->h1.get? b=some o)->s.heap.get? a=none->h1.get? a=some (seqObj "list" zs.toArray 0) ->
 P (.done (.ret .none)) { s with heap:=sortedHeap h1 a zs out.toArray }->wpAny (model prog w) A (Builtin.«list.sort» ⟨[.ref a],[]⟩) P E' { s with heap:=h1 }
theorem K7 {x:Value}{Q:Value->Shared->Prop}(hcol:wpAny (model prog w) A.in1 (collect x) (λzs s1=>zs.length≤sizeLine∧∃ out,HP prog w A.in1.in1 zs out s1∧∀ h' e a,(∀ b o,s1.heap.get? b=some o->h'.get? b=some o)->s1.heap.objs.size≤a->h'.get? a=some (seqObj "list" out.toArray e)->Q (.ref a) { s1 with heap:=h' }) E s) :
  wpAny (model prog w) A (call (.builtin "sorted") [x]) Q E s:=by
 (refine Calls.call_function_entry kind_sorted plain_sorted entry_sorted (args_sorted1 _) ?_)
 unfold Builtin.«sorted»
 refine Aa (m:=checkCount "sorted" 1 1 _) (Ab (Aa (B2 hcol (λzs s1 hq=>?_) λ_ _ z=>z)))
 obtain ⟨hz,out,hs,q⟩:=hq
 refine Aa (wpAny_newList ?_ hz)
 have g1:(s1.heap.push (seqObj "list" zs.toArray 0)).get? s1.heap.objs.size=some (seqObj "list" zs.toArray 0):=Ai _ rfl
 have fr:s1.heap.get? s1.heap.objs.size=none:=B5 (Ag _)
 refine Aa (AI (AL slot_list_sort ⟨_,g1,rfl⟩ entry_list_sort (hs (s1.heap.push (seqObj "list" zs.toArray 0)) _ _ _ (λb o e=>Ad _ e) fr g1 ⟨_,rfl,Ab ⟨_,rfl,?_⟩⟩) (args_list_sort _)))
 obtain ⟨e,he⟩:=sortedHeap_at (out:=out.toArray) g1
 refine q _ e _ (λb o z=>?_) (Ag _) he
 have lb:=Al z
 rw [sortedHeap_old (Au lb) (by rw [size_push'];exact A0 lb)]
 exact Ad _ z
end
noncomputable def Xq:D->Bool
 | .str _=>true
 | _=>false
noncomputable def J1 (es:List D):Bool:=es.all λa=>es.all λb=>(ltB a b).isSome
noncomputable def DM (es:List D):Bool:=decide (es.length<64)&&es.all FC&&J1 es&&(es.all Xq||es.all tupS)
section
variable {X:Cx} {K:Zc} {th:List Addr} {mu:Sto} {H:Hp} {pins:List (Addr×Obj)} {st:L2.St} {s:Shared}
theorem Uk {es:List D}(ho:es.all FC=true)(hc:J1 es=true):Pre es.length (P6 es) λi j=>ltT (es.getD i .non) (es.getD j .non):=by
 have gd:∀ i,i<es.length->es.getD i .non=es[i]?.getD .non∧∃ d,es[i]? = some d∧es.getD i .non=d∧d∈es:=λi hi=>by
  rw [AK]
  exact ⟨rfl,es[i],Ak hi,by rw [Ak hi];rfl,BG hi⟩
 rw [Aw] at ho
 unfold J1 at hc
 rw [Aw] at hc
 refine ⟨λi j hi hj=>?_,λi j hi hj h=>HQ _ _ h,λi j k hi hj hk h1 h2=>Nv _ _ _ h1 h2⟩
 obtain ⟨_,d,e1,e2,e3⟩:=gd i hi
 obtain ⟨_,d',f1,f2,f3⟩:=gd j hj
 unfold P6
 rw [e1,f1,e2,f2]
 have:=hc d e3
 rw [Aw] at this
 obtain ⟨r,hr⟩:=Option.isSome_iff_exists.mp (this d' f3)
 dsimp only
 rw [hr,R0 d d' r (ho d e3) (ho d' f3) hr]
 rfl
theorem Tp (I:L2.Inv X pins st H s){es:List D}{vs:List V}{us:List Value}(hd:es.all Xq=true)(r:RepL X.z th H es vs)(q:Vals vs us){A:Around} :
  ∀ i j b C,P6 es i j=some b->C b s->PySem.W.kas_ask X.prog X.w A oneType' us i j C s:=λi j b C e hC=>by
 rw [Aw] at hd
 unfold P6 at e
 cases e1:es[i]? with
 | none=>rw [e1] at e;cases e
 | some d =>
  cases e2:es[j]? with
  | none=>rw [e1,e2] at e;cases e
  | some d' =>
   rw [e1,e2] at e
   have s1:=hd d (Am e1)
   have s2:=hd d' (Am e2)
   cases d<;>first|(cases s1;done)|skip
   cases d'<;>first|(cases s2;done)|skip
   rename_i x y
   unfold ltB at e
   cases e
   obtain ⟨v,v1,v2⟩:=r.get e1
   obtain ⟨v',v1',v2'⟩:=r.get e2
   obtain ⟨u,u1,u2⟩:=q.get v1
   obtain ⟨u',u1',u2'⟩:=q.get v1'
   obtain ⟨rfl,_⟩:=(show _∧_ from v2)
   obtain ⟨rfl,_⟩:=(show _∧_ from v2')
   obtain ⟨t,rfl⟩:=u2
   obtain ⟨t',rfl⟩:=u2'
   unfold PySem.W.kas_ask
   rw [AK,AK,u1,u1']
   exact PySem.W.kas_lt_str hC
theorem RG {es:List D}{vs:List V}{us:List Value}(hd:es.all Xq=true)(r:RepL X.z th H es vs)(q:Vals vs us):∃ ss,StrsAre us ss:=by
 refine ⟨_,strsAre_map us λu hu=>?_⟩
 obtain ⟨i,ei⟩:=AO.mp hu
 have hi:i<es.length:=by
  have:=(Ae.mp ei).1
  rw [← q.length,r.len] at this
  exact this
 rw [Aw] at hd
 obtain ⟨v,v1,v2⟩:=r.get (Ak hi)
 have hs:=hd _ (BG hi)
 obtain ⟨u',u1,u2⟩:=q.get v1
 rw [ei] at u1
 cases u1
 cases e:es[i]<;>rw [e] at hs v2<;>first|(cases hs;done)|skip
 obtain ⟨rfl,_⟩:=(show _∧_ from v2)
 obtain ⟨t,rfl⟩:=u2
 exact ⟨_,t,rfl⟩
theorem sorts (hu:X.A.units+64<cLine)(I:L2.Inv X pins st H s){es:List D}{vs:List V}{zs:List Value}(h2:RepL X.z th H es vs)(rv:Vals vs zs)(ok:DM es=true) :
  ∃ ws out,RepL X.z th H (Ee es) ws∧Vals ws out∧HP X.prog X.w X.A.in1.in1 zs out s:=by
 unfold DM at ok
 rw [Ac,Ac,Ac,Af,Bool.or_eq_true] at ok
 obtain ⟨⟨⟨c64,ho⟩,hc⟩,hk⟩:=ok
 have ho':∀ d∈es,FC d=true:=by rw [Aw] at ho;exact ho
 have lz:zs.length=es.length:=by rw [← rv.length,h2.len]
 by_cases c2:es.length<2
 ·have:Ee es=es:=by
   refine (HK ho' (BN _) ?_).symm
   match es,c2 with
   | [],_=>exact .nil
   | [_],_=>exact List.pairwise_singleton _ _
   | _::_::_,c2=>exact absurd c2 (by simp only [List.length_cons];omega)
  rw [this]
  exact ⟨vs,zs,h2,rv,λh1 a P E' hk fr hl hP=>RP hl (by rw [lz];exact c2) hP⟩
 ·obtain ⟨p,p1,pm,up⟩:=Vi (Uk ho hc) (by omega)
  have pl:p.size=es.length:=by rw [← Array.length_toList,pm.length_eq,Br]
  have inn:∀ i∈p.toList,i<es.length:=λi hi=>A3.mp (pm.mem_iff.mp hi)
  have es_eq:p.toList.map (λi=>es.getD i .non)=Ee es:=by
   refine HK ho' ?_ ?_
   ·refine (pm.map _).trans ?_
    have:(List.range es.length).map (λi=>es.getD i .non)=es:=by
     refine Bs λi=>?_
     rw [Ap]
     by_cases hi:i<es.length
     ·simp [hi]
     ·simp [hi]
    rw [this]
   ·rw [BH]
    intro i j hi hj hij
    rw [Ah,Array.length_toList,pl] at hi hj
    have:=up i j (Nat.le_of_lt hij) hj
    rw [QR (by omega),QR (by omega)] at this
    dsimp only at this
    unfold leT
    simp only [List.getElem_map,Array.getElem_toList]
    rw [this]
    rfl
  refine ⟨p.toList.map λi=>vs.getD i .non,p.toList.map λi=>zs.getD i Value.none,?_,?_,λh1 a P E' hk1 fr hl hP=>?_⟩
  ·rw [← es_eq]
   exact RepL.pick (ds:=es) (vs:=vs) _ _ _ λi hi=>by
    have hi':=inn i hi
    obtain ⟨v,ev,rv'⟩:=h2.get (show es[i]? = some es[i] by simp [hi'])
    rw [AK,AK,ev,show es[i]? = some es[i] by simp [hi']]
    exact rv'
  ·exact Vals.pick rv _ _ _ λi hi=>by
    have hi':=inn i hi
    obtain ⟨v,ev,_⟩:=h2.get (show es[i]? = some es[i] by simp [hi'])
    obtain ⟨u,eu,ru⟩:=rv.get ev
    rw [AK,AK,ev,eu]
    exact ru
  ·have I6:L2.Inv X pins st H { s with heap:=((h1.update a (Obj.mapSeq λ_=>#[])).push (seqObj "tuple" zs.toArray 0)).push (seqObj "list" #[] 0) }:=I.kept (t':=s.toks) λb o q=>by
    refine Ad _ (Ad _ ?_)
    rw [Heap.get?_update_ne _ _ _ _ (λz=>by rw [z,fr] at q;cases q)]
    exact hk1 b o q
   rcases hk with hk|hk
   ·obtain ⟨ss,hS⟩:=RG hk h2 rv
    refine O0 (kd:=oneType') p (by rw [lz];exact pl) hl (by rw [lz];omega) (by rw [lz];exact c64) (λQ' E2 hq=>?_) (λG hG=>?_) hP
    ·match zs,hS,lz with
     | [],_,lz=>simp at lz;omega
     | [_],_,lz=>simp at lz;omega
     | v1::v2::r,hS,_=>rw [keyKind_strs hS];exact Ab hq
    ·rw [lz]
     exact IK (λi j b C ea hC=>Tp I6 hk h2 rv i j b C ea hC) _ p G p1 hG
   ·obtain ⟨fs,f1,f2,f3⟩:=JP I6 hk h2 rv
    refine O0 (kd:=tuples' true) p (by rw [lz];exact pl) hl (by rw [lz];omega) (by rw [lz];exact c64) (λQ' E2 hq=>PySem.W.kat_kind f1 (by rw [f2];omega) (T:=.type "str") (λv hv=>?_) rfl hq) (λG hG=>?_) hP
    ·obtain ⟨x,tk,rfl⟩:=f3 v hv
     exact λA Q E s _ hq=>BC (typeIs_str s x tk) hq
    ·rw [lz]
     exact IK (λi j b C ea hC=>Wa I6 hk h2 rv (A:=X.A.in1.in1) (by show X.A.units+1+1+60<cLine;omega) i j b C ea hC) _ p G p1 hG
end
theorem Uc (t:SetTable)(es:Array (Int×Value))(h:Int)(x:Value):(layNew t es h x).2.1.led=t.led∧((layNew t es h x).2.1.plain=t.plain∨(layNew t es h x).2.1.plain=false):=by
 unfold layNew
 split
 ·dsimp only
  unfold SetTable.orStandIn
  split
  ·exact ⟨rfl,.inl rfl⟩
  ·exact ⟨rfl,.inr rfl⟩
 ·exact ⟨rfl,.inr rfl⟩
theorem RN {mask finger moves:Nat}{led plain:Bool}{hs:Array Int}{r:SetTable×Array Nat}(h:SetTable.laid mask finger moves led plain hs=some r):r.1.led=led∧r.1.plain=plain:=by
 unfold SetTable.laid at h
 cases e:SetTable.layClean mask hs with
 | none=>rw [e] at h;cases h
 | some o=>rw [e] at h;cases h;exact ⟨rfl,rfl⟩
theorem P9 (t:SetTable)(es:Array (Int×Value))(n:Nat):(relayAll t es n).2.1.led=t.led∧((relayAll t es n).2.1.plain=t.plain∨(relayAll t es n).2.1.plain=false):=by
 unfold relayAll
 split
 ·rename_i t' order e
  have:=RN e
  dsimp only at this ⊢
  split
  ·exact ⟨this.1,.inl this.2⟩
  ·exact ⟨rfl,.inr rfl⟩
 ·exact ⟨rfl,.inr rfl⟩
noncomputable def EnS (w:World)(e:Int×Value)(x:Str):Prop:=e.1=hashStr w x∧∃ t,e.2=.str x t
noncomputable def LR (w:World)(S:Addr)(ls:List Str)(led:Bool)(h:Heap):Prop:=∃ o es ep t,h.get? S=some o∧o.ExactSet∧o.data=.set es ep t∧t.fits es.size=true∧t.led=led∧(t.plain=false∨es.size=0)∧∃ ss:List Str,ss.Perm ls∧Paired (EnS w) es.toList ss
theorem He {α β:Type}{F:α->β->Prop}:∀ {xs xs':List α},xs.Perm xs'->∀ {ys:List β},Paired F xs' ys->∃ ys',ys'.Perm ys∧Paired F xs ys':=by
 intro xs xs' p
 induction p with
 | nil=>intro ys h;cases h;exact ⟨[],.nil,.nil⟩
 | cons x p ih =>
  intro ys h
  cases h with
  | cons r t =>
   obtain ⟨ys',a,b⟩:=ih t
   exact ⟨_,a.cons _,.cons r b⟩
 | swap x y l =>
  intro ys h
  cases h with
  | cons r t =>
   cases t with
   | cons r' t=>exact ⟨_,List.Perm.swap _ _ _,.cons r' (.cons r t)⟩
 | trans p q ih1 ih2 =>
  intro ys h
  obtain ⟨ys',a,b⟩:=ih2 h
  obtain ⟨ys2,c,d⟩:=ih1 b
  exact ⟨ys2,c.trans a,d⟩
section
variable {prog:Program} {w:World} {A:Around} {E:Value->Shared->Prop} {s:Shared}
theorem WY {es:List (Int×Value)}{ss:List Str}(h:Paired (EnS w) es ss):ElemsOf (PySem.strKind prog w) es:=by
 induction h with
 | nil=>intro e he;cases he
 | cons r t ih =>
  obtain ⟨r1,tk,r2⟩:=r
  intro e he
  rcases An.mp he with rfl|he
  ·refine ⟨⟨_,?_,r1⟩,by rw [r2];rfl⟩
   rw [r2]
   simp [PySem.strKind,Value.isStrOf]
  ·exact ih e he
noncomputable def Hj (r:List Str)(v:Str):List Str:=if v∈r then r else r++[v]
theorem Qz {S:Addr}{ls:List Str}{led:Bool}{x:Str}{t:Tok}{Q:Bool->Shared->Prop}(hS:LR w S ls led s.heap)(hz:ls.length+1<scanBound)
  (q:∀ h' b tk,Heap.SameBut S s.heap h'->LR w S (Hj ls x) led h'->s.toks≤tk->Q b { s with heap:=h',toks:=tk }):wpAny (model prog w) A (setAdd S (.str x t)) Q E s:=by
 obtain ⟨o,es,ep,tb,ho,hex,hd,hf,hl,hp,ss,pm,pr⟩:=hS
 have sz:es.size=ls.length:=by rw [← pm.length_eq,← Df pr,Array.length_toList]
 have hb:es.size+1<scanBound:=by omega
 have key:(PySem.strKind prog w).is x (.str x t)=true:=by simp [PySem.strKind,Value.isStrOf]
 have hel:ElemsOf (PySem.strKind prog w) es.toList:=WY pr
 have his:∀ (j:Nat) e,es.toList[j]? = some e->((PySem.strKind prog w).is x e.2=true ↔ ss[j]? = some x):=λj e ej=>by
  obtain ⟨y,y1,y2,tk,y3⟩:=(Dh pr j).1 e ej
  rw [y1,y3]
  simp only [PySem.strKind,Value.isStrOf,Option.some.injEq]
  constructor
  ·intro z;simpa using z
  ·intro z;simpa using z
 unfold setAdd
 refine AI (Aa ((PySem.strKind prog w).pyHash (k:=x) key ?_))
 (unfold setAddHashed setAddHashedIn)
 refine AI (Aa (Bb (s:={ s with toks:=s.toks+1 }) ho hd hf ?_))
 dsimp only
 rw [byScan_of (knd:=PySem.strKind prog w) (by rfl) (by omega) hel]
 simp only [↓reduceIte]
 unfold setAddByScan
 refine Aa (Aa (Bo (Aa (wpAny_setScan_of (knd:=PySem.strKind prog w) (s:={ s with toks:=s.toks+1 }) key ho hd hf hel ?_))))
 cases hr:es.toList.findIdx? (λe=>(PySem.strKind prog w).is x e.2) with
 | some j =>
  obtain ⟨hj,hpj,_⟩:=List.findIdx?_eq_some_iff_getElem.mp hr
  have mem:x∈ls:=pm.mem_iff.mp (Am ((his j _ (Ak hj)).mp hpj))
  refine Ab (Ab (q s.heap _ _ (Heap.SameBut.refl _ _) ?_ (BU _)))
  unfold Hj
  rw [if_pos mem]
  exact ⟨o,es,ep,tb,ho,hex,hd,hf,hl,hp,ss,pm,pr⟩
 | none =>
  have nmem:x∉ls:=λz=>by
   obtain ⟨j,ej⟩:=AO.mp (pm.mem_iff.mpr z)
   obtain ⟨e,e1,_⟩:=(Dh pr j).2 x ej
   have:=List.findIdx?_eq_none_iff.mp hr e (Am e1)
   rw [(his j e e1).mpr ej] at this
   cases this
  dsimp only
  have L1:=layNew_perm tb es ((PySem.strKind prog w).hash x) (.str x t)
  have L2':=layNew_fits tb es ((PySem.strKind prog w).hash x) (.str x t)
  have L3:=Uc tb es ((PySem.strKind prog w).hash x) (.str x t)
  generalize layNew tb es ((PySem.strKind prog w).hash x) (.str x t)=L at L1 L2' L3 ⊢
  obtain ⟨es1,t1,wasDummy,gave⟩:=L
  dsimp only at L1 L2' L3 ⊢
  rw [BW] at L1
  obtain ⟨ss1,pm1,pr1⟩:=He L1 (F0 pr (.cons (show EnS w ((PySem.strKind prog w).hash x,Value.str x t) x from ⟨rfl,t,rfl⟩) .nil))
  have al:Hj ls x=ls++[x]:=by unfold Hj;rw [if_neg nmem]
  have pm2:ss1.Perm (Hj ls x):=by rw [al];exact pm1.trans (pm.append (BN _))
  have sz1:es1.size=ls.length+1:=by rw [← Array.length_toList,Df pr1,pm2.length_eq,al];simp
  have hz1:es1.size≤sizeLine:=fits_of_scanBound (by omega)
  have gw:∀ (b:Bool) {s1:Shared} {Q':Unit->Shared->Prop},Q' () s1->wpAny (model prog w) A (match b with|true=>rule "set.scan.the-table-gave-way"|false=>pure ()) Q' E s1:=λb s1 Q' hq=>by
   cases b
   ·exact Ab hq
   ·exact Bo hq
  refine Aa (gw gave ?_)
  have go:∀ t2:SetTable,t2.fits es1.size=true->t2.led=led->t2.plain=false->wpAny (model prog w) A (do
    storeSet S es1 t2
    if (!wasDummy&&t2.tooFull)=true then do
      (match (relayAll t2 es1 (SetTable.grown es1.size)).2.2 with|true=>rule "set.scan.the-table-gave-way"|false=>pure ())
      storeSet S (relayAll t2 es1 (SetTable.grown es1.size)).1 (relayAll t2 es1 (SetTable.grown es1.size)).2.1
      pure (some true)
     else pure (some true)) (λr s'=>wpAny (model prog w) A (match r with|some added=>pure added|none=>setAddHashedIn S (.str x t) ((PySem.strKind prog w).hash x) 99999) Q E s') E { s with toks:=s.toks+1 }:=λt2 f2 l2 p2=>by
   refine Aa (wpAny_storeSet_of (s:={ s with toks:=s.toks+1 }) ho hd ?_ hz1)
   have ho1:(s.heap.update S (Obj.putSet es1 t2)).get? S=some { o with data:=.set es1 (ep+1) t2 }:=by
    have:=AN (Obj.putSet es1 t2) ho (by rw [putSet_of es1 t2 hd];rfl)
    rw [putSet_of es1 t2 hd] at this
    exact this
   refine FP (λ_=>?_) λ_=>?_
   ·have R1:=relayAll_perm t2 es1 (SetTable.grown es1.size)
    have R2:=relayAll_fits t2 es1 (SetTable.grown es1.size)
    have R3:=P9 t2 es1 (SetTable.grown es1.size)
    generalize relayAll t2 es1 (SetTable.grown es1.size)=R at R1 R2 R3 ⊢
    obtain ⟨es2,t3,g2⟩:=R
    dsimp only at R1 R2 R3 ⊢
    obtain ⟨ss2,pm3,pr3⟩:=He R1 pr1
    have sz2:es2.size=es1.size:=by rw [← Array.length_toList,R1.length_eq,Array.length_toList]
    refine Aa (gw g2 (Aa (wpAny_storeSet_of ho1 rfl (Ab ?_) (by rw [sz2];exact hz1))))
    refine Ab (q _ _ _ ((AA ..).trans (AA ..)) ?_ (BU _))
    have ho2:=AN (Obj.putSet es2 t3) ho1 (by rw [putSet_of es2 t3 rfl];rfl)
    rw [putSet_of es2 t3 rfl] at ho2
    exact ⟨_,es2,_,t3,ho2,hex,rfl,R2,R3.1.trans l2,.inl (R3.2.elim (λz=>z.trans p2) id),ss2,pm3.trans pm2,pr3⟩
   ·refine Ab (Ab (q _ _ _ (AA ..) ?_ (BU _)))
    exact ⟨_,es1,_,t2,ho1,hex,rfl,f2,l2,.inl p2,ss1,pm2,pr1⟩
  refine FP (λc=>?_) λc=>?_
  ·refine Aa ?_
   rw [hashByValue_scannable 8 (by rfl)]
   refine Ab ?_
   refine go { t1 with plain:=false } (SetTable.fits_plain_off L2') (L3.1.trans hl) rfl
  ·refine Aa (Ab ?_)
   have c':t1.plain=false:=by simpa using c
   exact go t1 L2' (L3.1.trans hl) c'
theorem Na (a:Value){Q1:Value->Shared->Prop}(h:Q1 (.ref s.heap.objs.size) { s with heap:=s.heap.push { cls:=.type "set",dict:=none,data:=.set #[] 0 (.fresh 0 0 (!CZ w)) } }) :
  codeAny (model prog w) A (.call (.builtin "set.__new__") ⟨[.type "set",a],[]⟩) (wants Q1 E) s:=by
 refine codeAny_of_tree (?_:wpAny _ A.in1 (do checkBuiltinCall "set.__new__" ⟨[.type "set",a],[]⟩;again (.builtin "set.__new__" ⟨[.type "set",a],[]⟩)) _ _ s)
 refine Aa (wpAny_of_eq (F.newCall_set_1 a) (Ab ⟨BV F.plain_set_new _,Bc F.entry_set_new ?_⟩))
 rw [A5 F.plain_set_new _]
 (unfold Builtin.«set.__new__» Builtin.Frozenset.newClass)
 have hsub:=sub_set_self
 obtain ⟨hp,g,d,tk,os⟩:=s
 dsimp only
 wp_walk
 refine wpAny_askSetting (Ab ?_)
 dsimp only
 simp only [newObj]
 exact Aa (wpAny_alloc (Ab (Ab h)))
noncomputable def YieldsV (prog:Program)(w:World)(A:Around)(E:Value->Shared->Prop)(h:Heap)(l:Addr)(us:List Value):Prop:=
 ∀ (s1:Shared) (A':Around) (R:Value->Shared->Prop),A'.handled=A.handled->(∀ b o,h.get? b=some o->s1.heap.get? b=some o) ->
  (∀ (I:Addr) (fp:List Addr) (h2:Heap) (d2:Drawn) (P:Nat->Value->Prop) (St:Nat->Heap->Prop),s1.heap.objs.size≤I->(∀ b∈fp,b<h2.objs.size)->(∀ b∈fp,s1.heap.objs.size≤b∨∃ o,h.get? b=some o)->(∀ A2:Around,A2.handled=A.handled->Walks prog w A2 I fp [I] us.length P St)->St 0 h2 ->
   (∀ b o,s1.heap.get? b=some o->h2.get? b=some o)->(∀ i v,P i v->us[i]? = some v)->R (.ref I) { s1 with heap:=h2,drawn:=d2 })->wpAny (model prog w) A' (pyIter (.ref l)) R E s1
theorem Pr {I:Addr}{fp:List Addr}{n:Nat}{P:Nat->Value->Prop}{St:Nat->Heap->Prop}{R:Result->Shared->Prop}(W:Walks prog w A.in1 I fp [I] n P St)(S:Addr)(hSf:S∉fp){led:Bool}{ss:List Str}(hl:ss.length=n)(hval:∀ i v,P i v->∃ x t,ss[i]? = some x∧v=.str x t)(hb:n+1<scanBound)(k:Nat) :
  ∀ (i:Nat) (s:Shared) (ls:List Str),i+k=n->ls.length≤i->St i s.heap->LR w S ls led s.heap->(∀ h' tk,(∀ b o,b≠S->b≠I->s.heap.get? b=some o->h'.get? b=some o)->LR w S ((ss.drop i).foldl Hj ls) led h'->R (.ok (.ret .none)) { s with heap:=h',toks:=tk }) ->
   codeAny (model prog w) A (Code.builtin "set.update.loop" ⟨[.ref S,.ref I],[]⟩) R s:=by
 have nI:I∈fp:=W.sub _ (by simp)
 have nS:S≠I:=λz=>hSf (z▸nI)
 have keepS:∀ {h h':Heap} {ls:List Str},(∀ b o,b∉[I]->h.get? b=some o->h'.get? b=some o)->LR w S ls led h->LR w S ls led h':=λk ⟨o,es,ep,t,ho,r⟩=>⟨o,es,ep,t,k S o (by simpa using nS) ho,r⟩
 induction k with
 | zero =>
  intro i s ls e lsl st hS hR
  obtain rfl:i=n:=by omega
  refine Bc BL ?_
  rw [A5 Be _]
  refine Aa (m:=pyNext (.ref I)) (W.done s _ _ st λh1 tk1 k1=>Ab (a:=Fin.done (.ret Value.none)) (hR h1 tk1 (λb o _ hb z=>k1 b o (by simpa using hb) z) ?_))
  rw [List.drop_eq_nil_of_le (by omega)]
  exact keepS k1 hS
 | succ k ih =>
  intro i s ls e lsl st hS hR
  have lt:i<n:=by omega
  refine Bc BL ?_
  rw [A5 Be _]
  refine Aa (m:=pyNext (.ref I)) (W.item i s _ _ lt st λv h1 tk1 hP st1 k1=>?_)
  obtain ⟨x,t,ex,ev⟩:=hval i v hP
  subst ev
  refine Aa (m:=holding [Value.str x t] (setAdd S (.str x t))) (AI (Qz (s:={ s with heap:=h1,toks:=tk1 }) (keepS k1 hS) (by omega) λh2 _ tk2 sb hS2 _=>?_))
  have dr:ss.drop i=x::ss.drop (i+1):=by
   have hi:i<ss.length:=by omega
   rw [BI hi]
   rw [Ak hi] at ex
   rw [AB ex]
  have al:(Hj ls x).length≤i+1:=by
   unfold Hj
   split
   ·omega
   ·rw [As,List.length_singleton];omega
  refine Ab (And.intro (BV Be _) (ih (i+1) _ (Hj ls x) (by omega) al (W.frame _ h1 _ st1 λb hb o z=>?_) hS2 λh3 tk3 k3 hS3=>hR h3 tk3 (λb o b1 b2 z=>?_) ?_))
  ·exact (sb.2 b λq:b=S=>hSf (q▸hb)).trans z
  ·exact k3 b o b1 b2 ((sb.2 b b1).trans (k1 b o (by simpa using b2) z))
  ·rw [dr]
   exact hS3
set_option maxHeartbeats 4000000 in
theorem Oo {l:Addr}{ol:Obj}{T:String}{us:List Value}{ss:List Str}{Q:Value->Shared->Prop}
  (hol:s.heap.get? l=some ol) (hcl:ol.cls=.type T) (t1:isSubtype (.type T) (.type "set")=pure false) (t2:isSubtype (.type T) (.type "frozenset")=pure false) (t3:(Value.type T==Value.type "dict")=false)
  (hb:us.length+1<scanBound) (hss:Paired (λ(u:Value) (x:Str)=>∃ t,u=.str x t) us ss) (hit:YieldsV prog w A E s.heap l us)
  (h:∀ (h':Heap) (tk:Nat) d',LR w s.heap.objs.size (ss.foldl Hj []) (!CZ w) h'->(∀ b o,s.heap.get? b=some o->h'.get? b=some o)->Q (.ref s.heap.objs.size) { s with heap:=h',toks:=tk,drawn:=d' }) :
  wpAny (model prog w) A (PySem.call (.type "set") [.ref l]) Q E s:=by
 refine call_cls (Q1:=λobj z=>obj=.ref s.heap.objs.size∧z={ s with heap:=s.heap.push (ET (!CZ w)) }) PySem.F.called_set (PySem.F.typeCall_set_1 _) (Na (.ref l) ⟨rfl,rfl⟩) λobj z hz=>?_
 obtain ⟨e1,e2⟩:=hz
 subst e1 e2
 have gS:(s.heap.push (ET (!CZ w))).get? s.heap.objs.size=some (ET (!CZ w)):=Ai _ rfl
 refine ⟨⟨_,gS,rfl⟩,codeAny_call_builtin PySem.F.called_set.init.plain PySem.F.entry_set_init (check_set_init_1 ⟨_,gS,rfl⟩ ?_)⟩
 obtain ⟨oc,od,oda,osl⟩:=ol
 simp only at hcl
 subst hcl
 have gl:(s.heap.push (ET (!CZ w))).get? l=some { cls:=.type T,dict:=od,data:=oda,slots:=osl }:=Ad _ hol
 unfold Builtin.«set.__init__»
 unfold noKeywords
 unfold Builtin.Frozenset.updateFrom
 generalize hPI:pyIter=PI
 wp_walk
 subst hPI
 have sz:(s.heap.push (ET (!CZ w))).objs.size=s.heap.objs.size+1:=Ba ..
 refine hit _ _ _ rfl (λb o e=>Ad _ e) λI fp h2 d2 P St hI fpl fpn W st0 k2 hval=>Aa (wpAny_runValue ?_)
 have nf:s.heap.objs.size∉fp:=λz=>by
  rcases fpn _ z with q|⟨o,q⟩
  ·have q':(s.heap.push (ET (!CZ w))).objs.size≤s.heap.objs.size:=q
   rw [sz] at q'
   exact absurd q' (Nat.not_succ_le_self _)
  ·exact absurd (Al q) (A6 _)
 have h0:LR w s.heap.objs.size [] (!CZ w) h2:=⟨_,#[],0,_,k2 _ _ gS,⟨rfl,rfl,rfl⟩,rfl,by rfl,rfl,.inr rfl,[],.nil,.nil⟩
 have ssl:ss.length=us.length:=(Df hss).symm
 refine Pr (W A.in1.in1.in1 rfl) s.heap.objs.size nf (ss:=ss) ssl (λi v hP=>?_) hb us.length 0 { s with heap:=h2,drawn:=d2 } [] (BE _) (Ag _) st0 h0 λh3 tk3 k3 hS=>?_
 ·obtain ⟨x,x1,t,x2⟩:=(Dh hss i).1 v (hval i v hP)
  exact ⟨x,t,x1,x2⟩
 ·refine Ab (Ab (a:=Fin.done (.ret Value.none)) (And.intro rfl (h h3 tk3 d2 hS λb o e=>?_)))
  have blt:=Al e
  refine k3 b o (Au blt) (λz=>?_) (k2 _ _ (Ad _ e))
  have hI':(s.heap.push (ET (!CZ w))).objs.size≤I:=hI
  rw [sz,← z] at hI'
  exact absurd (AD blt (AJ (BU _) hI')) (A6 _)
end
noncomputable def DG (r:List D)(v:D):List D:=if v∈r then r else r++[v]
noncomputable def DB (es:List D):List D:=es.foldl DG []
theorem KW (ss:List Str):∀ r:List Str,(ss.foldl Hj r).map D.str=(ss.map D.str).foldl DG (r.map D.str):=by
 induction ss with
 | nil=>intro r;rfl
 | cons x ss ih =>
  intro r
  rw [List.foldl_cons,ih,A1,List.foldl_cons]
  congr 1
  unfold Hj DG
  have:D.str x∈r.map D.str ↔ x∈r:=by
   rw [Ar]
   exact ⟨λ⟨y,hy,e⟩=>by cases e;exact hy,λh=>⟨x,h,rfl⟩⟩
  by_cases c:x∈r
  ·rw [if_pos c,if_pos (this.mpr c)]
  ·rw [if_neg c,if_neg (λz=>c (this.mp z)),Bd];rfl
theorem L8 (es:List D):∀ r:List D,r.Nodup->(es.foldl DG r).Nodup:=by
 induction es with
 | nil=>intro r h;exact h
 | cons x es ih =>
  intro r h
  rw [List.foldl_cons]
  refine ih _ ?_
  unfold DG
  split
  ·exact h
  ·rename_i c
   refine BY.mpr ⟨h,by simp,λa ha b hb=>?_⟩
   rw [Ao.mp hb]
   exact λe=>c (e▸ha)
theorem Kt (es:List D):∀ (r:List D) (d:D),d∈es.foldl DG r ↔ d∈r∨d∈es:=by
 induction es with
 | nil=>intro r d;simp
 | cons x es ih =>
  intro r d
  rw [List.foldl_cons,ih,An]
  unfold DG
  split
  ·rename_i c
   constructor
   ·rintro (h|h)
    ·exact .inl h
    ·exact .inr (.inr h)
   ·rintro (h|rfl|h)
    ·exact .inl h
    ·exact .inl c
    ·exact .inr h
  ·rw [AH,Ao]
   constructor
   ·rintro ((h|h)|h)
    ·exact .inl h
    ·exact .inr (.inl h)
    ·exact .inr (.inr h)
   ·rintro (h|h|h)
    ·exact .inl (.inl h)
    ·exact .inl (.inr h)
    ·exact .inr h
theorem Iw (es:List D):∀ r:List D,(es.foldl DG r).length≤r.length+es.length:=by
 induction es with
 | nil=>intro r;simp
 | cons x es ih =>
  intro r
  rw [List.foldl_cons,List.length_cons]
  refine AJ (ih _) ?_
  unfold DG
  split
  ·omega
  ·rw [As,List.length_singleton];omega
noncomputable def Sm:Fn:=λds mu=>match sq1 ds mu with
 | some es=>match strsOf es with
  | some _=>if es.length<4000 then some (.set (DB es),mu) else none
  | none=>none
 | none=>none
theorem MJ {ds:List D}{mu:Sto}{r:D×Sto}(h:Sm ds mu=some r):∃ d es ss,ds=[d]∧G0 mu d=some es∧strsOf es=some ss∧es.length<4000∧r=(.set (DB es),mu):=by
 unfold Sm at h
 split at h
 ·rename_i es e
  split at h
  ·rename_i ss e2
   split at h
   ·rename_i c
    cases h
    obtain ⟨d,rfl,e3⟩:=HG e
    exact ⟨d,es,ss,rfl,e3,e2,c,rfl⟩
   ·cases h
  ·cases h
 ·cases h
section
variable {X:Cx} {K:Zc} {th:List Addr} {mu:Sto} {H:Hp} {pins:List (Addr×Obj)} {st:L2.St} {s:Shared}
theorem GU (I:L2.Inv X pins st H s)(hc:X.calm=true){a:Addr}{vs:List V}{E:Value->Shared->Prop}(h:SqL X.K H a vs):∃ us,Vals vs us∧YieldsV X.prog X.w X.A E s.heap a us∧∃ o,s.heap.get? a=some o∧o.cls=.type "list":=by
 obtain ⟨its,rv,pl,hz⟩:=I.list h
 obtain ⟨o,n,ho,hcl,hdd,hdt⟩:=id pl
 refine ⟨its,rv,λs1 A' R hA hk hR=>?_,o,ho,hcl⟩
 have pl':s1.heap.IsList a its.toArray:=pl.isList.at λo e=>hk a o e
 have lt:a<s1.heap.objs.size:=Al (hk a o ho)
 have hh:=I.ok.hd hc
 refine wpAny_pyIter_list pl' (hR s1.heap.objs.size [s1.heap.objs.size,a] _ s1.drawn (λi v=>its.toArray[i]? = some v) (λi h=>h.IsListIter s1.heap.objs.size a i∧h.IsList a its.toArray) (Ag _) (λb hb=>?_) (λb hb=>?_) (λA2 hA2=>?_) ?_ (λb o e=>Ad _ e) λi v hP=>?_)
 ·rw [Ba]
  rcases An.mp hb with rfl|hb
  ·exact AV _
  ·rw [Ao.mp hb];exact A0 lt
 ·rcases An.mp hb with rfl|hb
  ·exact .inl (Ag _)
  ·rw [Ao.mp hb];exact .inr ⟨o,ho⟩
 ·have:=Walks.list (prog:=X.prog) (w:=X.w) (hA2.trans hh) s1.heap.objs.size a (Au lt) its.toArray
  rw [Av] at this
  exact this
 ·exact ⟨⟨_,Ai _ rfl,rfl,rfl⟩,pl'.push _⟩
 ·have hP':its.toArray[i]? = some v:=hP
  simpa using hP'
theorem Gd (I:L2.Inv X pins st H s)(hc:X.calm=true){a:Addr}{vs:List V}{E:Value->Shared->Prop}(h:SqT X.K H a vs):∃ us,Vals vs us∧YieldsV X.prog X.w X.A E s.heap a us∧∃ o,s.heap.get? a=some o∧o.cls=.type "tuple":=by
 obtain ⟨its,rv,pl,hz⟩:=I.tuple h
 obtain ⟨o,ho,hcl,n,hdt⟩:=id pl
 refine ⟨its,rv,λs1 A' R hA hk hR=>?_,o,ho,hcl⟩
 have pl':s1.heap.IsTuple a its.toArray:=⟨o,hk a o ho,hcl,n,hdt⟩
 have lt:a<s1.heap.objs.size:=Al (hk a o ho)
 have hh:=I.ok.hd hc
 refine wpAny_pyIter_tuple pl' (hR s1.heap.objs.size [s1.heap.objs.size,a] _ s1.drawn (λi v=>its.toArray[i]? = some v) (λi h=>h.IsTupleIter s1.heap.objs.size a i∧h.IsTuple a its.toArray) (Ag _) (λb hb=>?_) (λb hb=>?_) (λA2 hA2=>?_) ?_ (λb o e=>Ad _ e) λi v hP=>?_)
 ·rw [Ba]
  rcases An.mp hb with rfl|hb
  ·exact AV _
  ·rw [Ao.mp hb];exact A0 lt
 ·rcases An.mp hb with rfl|hb
  ·exact .inl (Ag _)
  ·rw [Ao.mp hb];exact .inr ⟨o,ho⟩
 ·have:=Walks.tuple (prog:=X.prog) (w:=X.w) (hA2.trans hh) s1.heap.objs.size a (Au lt) its.toArray
  rw [Av] at this
  exact this
 ·exact ⟨⟨_,Ai _ rfl,rfl,rfl⟩,⟨o,Ad _ (hk a o ho),hcl,n,hdt⟩⟩
 ·have hP':its.toArray[i]? = some v:=hP
  simpa using hP'
theorem RL {P:Program}{w:World}{h:Heap}{a:Addr}{us:List V}(x:UK w a us h):ObjOk P w H h a (L9 w a us):=by
 refine ⟨x,?_,λh1 h2 ⟨o,es,ep,t,ho,r⟩ k=>⟨o,es,ep,t,k o ho,r⟩⟩
 obtain ⟨o,es,ep,t,ho,r⟩:=x
 exact ⟨o,ho⟩
theorem Pj (hc:X.calm=true):CallV X (.type "set") Sm:=by
 intro pins s st H xs us Q I r h
 obtain ⟨th,mu,ds,so,rd,t⟩:=h
 obtain ⟨a0,mu0,e0,_⟩:=id t
 obtain ⟨d,es,ss,rfl,e2,e3,hl,er⟩:=MJ e0
 rw [e0] at t
 cases er
 obtain ⟨x,rfl,rx⟩:=DA rd
 obtain ⟨a,vs,rfl,h1,h2,h3⟩:=Fi so e2 rx
 obtain ⟨u,rfl,ru⟩:=vals1 r
 cases ru
 have em:=JW e3
 rw [em] at h2
 obtain ⟨ev,hok⟩:=KI h2
 subst ev
 have fin:∀ (h':Heap) (tk:Nat) d',LR X.w s.heap.objs.size (ss.foldl Hj []) (!CZ X.w) h'->(∀ b o,s.heap.get? b=some o->h'.get? b=some o)->EP X pins st Q (.ref s.heap.objs.size) { s with heap:=h',toks:=tk,drawn:=d' }:=λh' tk d' hS hk=>by
  obtain ⟨o,tes,ep,tb,ho,hex,hd,hf,hled,hpl,ss',pm,pr⟩:=hS
  have hp:H s.heap.objs.size=none:=I.hok.fresh (Ag _)
  have ol:(ss.foldl Hj []).length=(DB es).length:=by
   have:=congrArg List.length (KW ss [])
   rw [Ah] at this
   rw [this]
   unfold DB
   rw [em]
   rfl
  have ole:(DB es).length≤es.length:=by have:=Iw es [];simpa [DB] using this
  have tl:tes.size=ss'.length:=by rw [← Df pr,Array.length_toList]
  have sb:tes.size<scanBound:=by
   rw [tl,pm.length_eq,ol]
   unfold scanBound
   omega
  have sp:UK X.w s.heap.objs.size (ss'.map V.str) h':=by
   refine ⟨o,tes,ep,tb,ho,hex,hd,sb,hf,?_,?_⟩
   ·refine Ji (by simp [tl]) λj a b ea eb=>?_
    rw [Ap] at ea eb
    cases ej:ss'[j]? with
    | none=>rw [ej] at ea;cases ea
    | some y =>
     obtain ⟨e',e1,_,tk',e2'⟩:=(Dh pr j).2 y ej
     rw [ej] at ea
     rw [e1] at eb
     cases ea
     cases eb
     exact ⟨tk',e2'⟩
   ·cases c:CZ X.w with
    | true=>exact .inl c
    | false =>
     rw [c] at hled
     exact .inr ⟨hled,hpl.elim .inl λz=>.inr (by omega)⟩
  have I0:L2.Inv X pins st H { s with drawn:=d' }:=⟨I.ok,I.os,I.bare,I.base,I.loc,I.cell,I.free,I.freeC,I.pin,I.hok,I.len⟩
  refine ⟨.ref s.heap.objs.size,_,I0.laid (h':=h') (t':=tk) (o:=L9 X.w s.heap.objs.size (ss'.map V.str)) hk (Ag _) (RL sp),rfl,?_⟩
  refine t.retX (.new hp _) (so.new hp _) _ ?_
  unfold Rep
  refine ⟨_,ss'.map V.str,(ss.foldl Hj []).map V.str,rfl,so.notin hp,Dw,pm.map _,?_,L8 es [] List.nodup_nil⟩
  have eo:DB es=(ss.foldl Hj []).map D.str:=by
   rw [KW,em]
   rfl
  rw [eo]
  refine KN λx hx=>hok x ?_
  have:D.str x∈DB es:=by rw [eo];exact Ar.mpr ⟨x,hx,rfl⟩
  rcases (Kt es [] _).mp this with z|z
  ·cases z
  ·rw [em] at z
   obtain ⟨y,hy,e⟩:=Ar.mp z
   cases e
   exact hy
 have pairs:∀ us:List Value,Vals (ss.map V.str) us->Paired (λ(u:Value) (x:Str)=>∃ t,u=.str x t) us ss:=λus q=>by
  refine Ji (by have:=q.length;rw [Ah] at this;exact this.symm) λj u x e1 e2=>?_
  obtain ⟨u',u1,u2⟩:=q.get (show (ss.map V.str)[j]? = some (V.str x) by rw [Ap,e2];rfl)
  rw [e1] at u1
  cases u1
  exact u2
 have ul:∀ us:List Value,Vals (ss.map V.str) us->us.length+1<scanBound:=λus q=>by
  have a:=q.length
  rw [Ah] at a
  have b:es.length=ss.length:=by rw [em,Ah]
  unfold scanBound
  omega
 rcases h1 with h1|⟨h1,_⟩
 ·obtain ⟨us,q,y,o,ho,hcl⟩:=GU (E:=X.xe) I hc h1
  exact Oo ho hcl PySem.F.sub_list_set PySem.F.sub_list_frozenset (by decide) (ul us q) (pairs us q) y fin
 ·obtain ⟨us,q,y,o,ho,hcl⟩:=Gd (E:=X.xe) I hc h1
  exact Oo ho hcl Pa JF (by decide) (ul us q) (pairs us q) y fin
noncomputable def Um:Fn:=λds mu=>match ds with
 | [.set es]=>some (.int es.length,mu)
 | [d]=>(EA mu d).map λp=>(.int p.1.length,mu)
 | _=>none
theorem S1 {ds:List D}{r:D×Sto}(h:Um ds mu=some r):(∃ es,ds=[.set es]∧r=(.int es.length,mu))∨∃ d p,ds=[d]∧EA mu d=some p∧r=(.int p.1.length,mu):=by
 unfold Um at h
 split at h
 ·cases h;exact .inl ⟨_,rfl,rfl⟩
 ·rename_i d _
  cases e:EA mu d with
  | none=>rw [e] at h;cases h
  | some p=>rw [e] at h;cases h;exact .inr ⟨d,p,rfl,e,rfl⟩
 ·cases h
theorem Qe:CallV X (.builtin "len") Um:=by
 intro pins s st H xs us Q I r h
 obtain ⟨th,mu,ds,so,rd,t⟩:=h
 obtain ⟨a0,mu0,e0,_⟩:=id t
 rcases S1 e0 with ⟨es,rfl,er⟩|⟨d,p,rfl,ed,er⟩
 ·rw [e0] at t
  cases er
  obtain ⟨x,rfl,rx⟩:=DA rd
  unfold Rep at rx
  obtain ⟨a,us',vs,rfl,_,h1,h2,h3,_⟩:=rx
  obtain ⟨u,rfl,ru⟩:=vals1 r
  cases ru
  obtain ⟨⟨o,tes,ep,tb,ho,hex,hd,sb,hf,hv,_⟩,_⟩:=(show ObjOk X.prog X.w H s.heap a (L9 X.w a us') from I.hok a _ h1)
  have ln:tes.size=es.length:=by
   have e1:us'.length=tes.size:=by have:=hv.length;simpa using this
   rw [← e1,h2.length_eq,h3.len]
  refine PySem.call_len_set ho hex hd hf (by unfold scanBound at sb;omega) ⟨.int es.length,H,I.tok _,⟨_,by rw [ln]⟩,t.ret so _ rfl⟩
 ·rw [e0] at t
  cases er
  obtain ⟨x,rfl,rx⟩:=DA rd
  obtain ⟨a,rfl,dc⟩:=Er so ed rx
  obtain ⟨u,rfl,ru⟩:=vals1 r
  cases ru
  obtain ⟨xs',o,es,ep,h1,g⟩:=Hf I dc
  have ty:s.TypeIs (.ref a) "dict":=⟨o,g.at',g.ex.1⟩
  have ln:es.size=p.1.length:=by rw [Df g.en,Array.length_toList]
  have fit:((p.1.length:Nat):Int)<2 ^ 63:=by
   have:=(RO dc).2.len
   rw [AS] at this
   omega
  have hM:MeetsIn X.prog X.w (Builtin.«dict.__len__» ⟨[.ref a],[]⟩) (λ_ R s=>s.heap.get? a=some o∧R (.ok (.ret (.int p.1.length s.toks))) { s with toks:=s.toks+1 }):=.of_wp λA R s ⟨g0,h⟩=>by
   refine (?_:wpAny _ _ (dictSize a >>= _) _ _ s)
   unfold dictSize
   refine Aa (Aa (BD g0 g.dt (Ab (?_:wpAny _ _ (Builtin.Dict.pendingCount a >>= _) _ _ s))))
   refine Aa (wpAny_pendingCount_other g.ns (wpAny_ret_mkInt ?_))
   rw [Nat.add_zero,ln]
   exact h
  (refine Calls.call_function_entry kind_len plain_len entry_len (args_len1 _) ?_)
  unfold Builtin.«len»
  refine Aa (m:=oneArg "len" _) (Ab (Aa (m:=callSpecial? (.ref a) (Str.ofString "__len__")) (AQ (name:=Str.ofString "__len__") ty F.slot_dict_len (call_meetsIn F.slot_dict_len ty F.entry_dict_len (F.args_dict_len_1 _) hM ⟨g.at',?_⟩))))
  refine (?_:wpAny _ _ _ _ _ { s with toks:=s.toks+1 })
  refine Aa (AI (Ab (Aa (wpAny_letGo (?_:wpAny _ _ (if ((p.1.length:Nat):Int)<0 then _ else _) _ _ _)))))
  rw [if_neg (by omega)]
  refine (?_:wpAny _ _ (if ((p.1.length:Nat):Int) ≥ 2 ^ 63 then _ else _) _ _ _)
  rw [if_neg (by omega)]
  exact Aa (wpAny_mkInt (Ab ⟨_,rfl,⟨.int p.1.length,H,I.tok _,⟨_,rfl⟩,t.ret so _ rfl⟩⟩))
noncomputable def Ef:Fn:=λds mu=>match XM ds mu with|some r=>some r|none=>Um ds mu
theorem CO:CallV X (.builtin "len") Ef:=CallV.or PU Qe
noncomputable def Qh (mu:Sto):D->Option (List D)
 | .set es=>some es
 | d=>G0 mu d
noncomputable def Kh:Fn:=λds mu=>match Ho ds with
 | some d=>match Qh mu d with
  | some es=>if DM es=true then some (.lst (Ee es),mu) else none
  | none=>none
 | none=>none
theorem QL {ds:List D}{r:D×Sto}(h:Kh ds mu=some r):∃ d es,ds=[d]∧Qh mu d=some es∧DM es=true∧r=(.lst (Ee es),mu):=by
 unfold Kh at h
 split at h
 ·rename_i d e
  split at h
  ·rename_i es e2
   split at h
   ·rename_i c;cases h;exact ⟨d,es,GN e,e2,c,rfl⟩
   ·cases h
  ·cases h
 ·cases h
theorem N1 {es fs:List D}(p:fs.Perm es)(h:DM es=true):DM fs=true:=by
 unfold DM J1 at *
 rw [Ac,Ac,Ac,Af,Bool.or_eq_true] at *
 simp only [Aw] at *
 obtain ⟨⟨⟨a,b⟩,c⟩,d⟩:=h
 exact ⟨⟨⟨by rw [p.length_eq];exact a,λx hx=>b x (p.mem_iff.mp hx)⟩,λx hx y hy=>c x (p.mem_iff.mp hx) y (p.mem_iff.mp hy)⟩,d.imp (λz x hx=>z x (p.mem_iff.mp hx)) λz x hx=>z x (p.mem_iff.mp hx)⟩
theorem G6 {es:List D}(h:DM es=true):∀ d∈es,FC d=true:=by
 unfold DM at h
 rw [Ac,Ac,Ac] at h
 exact Aw.mp h.1.1.2
theorem RepL.perm {ds:List D}{vs us:List V}(p:us.Perm vs)(r:RepL K th H ds vs):∃ ds',ds'.Perm ds∧RepL K th H ds' us:=by
 induction p generalizing ds with
 | nil=>exact ⟨ds,BN _,r⟩
 | cons x p ih =>
  cases ds with
  | nil=>cases r.inv0
  | cons d ds =>
   obtain ⟨v,r',e,a,b⟩:=r.inv
   cases e
   obtain ⟨ds',q1,q2⟩:=ih b
   exact ⟨d::ds',q1.cons d,.cons a q2⟩
 | swap x y l =>
  cases ds with
  | nil=>cases r.inv0
  | cons d ds =>
   obtain ⟨v,r',e,a,b⟩:=r.inv
   cases e
   cases ds with
   | nil=>cases b.inv0
   | cons d' ds =>
    obtain ⟨v',r2,e',a',b'⟩:=b.inv
    cases e'
    exact ⟨d'::d::ds,List.Perm.swap _ _ _,.cons a' (.cons a b')⟩
 | trans p q ih1 ih2 =>
  obtain ⟨ds1,a1,b1⟩:=ih2 r
  obtain ⟨ds2,a2,b2⟩:=ih1 b1
  exact ⟨ds2,a2.trans a1,b2⟩
theorem Vals.perm {vs:List V}{us us':List Value}(p:us'.Perm us)(r:Vals vs us):∃ vs',vs'.Perm vs∧Vals vs' us':=by
 induction p generalizing vs with
 | nil=>cases r;exact ⟨[],.nil,.nil⟩
 | cons x p ih =>
  cases r with
  | cons a b=>obtain ⟨vs',q1,q2⟩:=ih b;exact ⟨_,q1.cons _,.cons a q2⟩
 | swap x y l =>
  cases r with
  | cons a b =>
   cases b with
   | cons a' b'=>exact ⟨_,List.Perm.swap _ _ _,.cons a' (.cons a b')⟩
 | trans p q ih1 ih2 =>
  obtain ⟨v1,a1,b1⟩:=ih2 r
  obtain ⟨v2,a2,b2⟩:=ih1 b1
  exact ⟨v2,a2.trans a1,b2⟩
theorem Qb (hu:X.A.units+64<cLine)(hc:X.calm=true):CallV X (.builtin "sorted") Kh:=by
 intro pins s st H xs us Q I r h
 obtain ⟨th,mu,ds,so,rd,t⟩:=h
 obtain ⟨a0,mu0,e0,_⟩:=id t
 obtain ⟨d,es,rfl,eg,ok,er⟩:=QL e0
 rw [e0] at t
 cases er
 obtain ⟨x,rfl,rx⟩:=DA rd
 obtain ⟨u,rfl,ru⟩:=vals1 r
 have fin:∀ (fs:List D) (vs:List V) (zs:List Value) (h1:Heap) (tk:Nat) d',fs.Perm es->RepL X.z th H fs vs->Vals vs zs->(∀ b o,s.heap.get? b=some o->h1.get? b=some o)->zs.length≤sizeLine∧∃ out,HP X.prog X.w X.A.in1.in1 zs out { s with heap:=h1,toks:=tk,drawn:=d' } ∧
   ∀ h' e a,(∀ b o,h1.get? b=some o->h'.get? b=some o)->h1.objs.size≤a->h'.get? a=some (seqObj "list" out.toArray e)->EP X pins st Q (.ref a) { s with heap:=h',toks:=tk,drawn:=d' }:=λfs vs zs h1 tk d' p h2 rv hk=>by
  have I0:L2.Inv X pins st H { s with drawn:=d' }:=⟨I.ok,I.os,I.bare,I.base,I.loc,I.cell,I.free,I.freeC,I.pin,I.hok,I.len⟩
  have I1:L2.Inv X pins st H { s with heap:=h1,toks:=tk,drawn:=d' }:=I0.kept (t':=tk) hk
  have okf:=N1 p ok
  have l64:fs.length<64:=by
   unfold DM at okf
   rw [Ac,Ac,Ac,Af] at okf
   exact okf.1.1.1
  have lz:zs.length=fs.length:=by rw [← rv.length,h2.len]
  obtain ⟨ws,out,w1,w2,w3⟩:=sorts hu I1 h2 rv okf
  rw [K9 (G6 ok) p] at w1
  have z64:64≤sizeLine:=by rw [AS];decide
  have wl:(Ee es).length≤sizeLine:=by rw [(Dg es).length_eq,← p.length_eq];omega
  refine ⟨by omega,out,w3,λh' e a hk' ha he=>?_⟩
  have hp:H a=none:=I1.hok.fresh ha
  refine ⟨.ref a,_,I1.laid (t':=tk) (o:=.lst ws) hk' ha ⟨by rw [w1.len];exact wl,out,e,w2,he⟩,rfl,?_⟩
  exact t.retX (.new hp _) (so.new hp _) _ (Rep.newLst so hp w1 wl)
 refine K7 ?_
 have seqc:∀ (T:String) (a:Addr) (ob:Obj) (vs:List V) (zs:List Value) (n:Nat),(T="list"∨T="tuple")->s.heap.get? a=some ob->ob.cls=.type T->ob.data=.seq zs.toArray n->Vals vs zs->RepL X.z th H es vs->es.length≤sizeLine->wpAny (model X.prog X.w) X.A.in1 (collect (.ref a)) (λzs s1=>zs.length≤sizeLine∧∃ out,HP X.prog X.w X.A.in1.in1 zs out s1∧∀ h' e a,(∀ b o,s1.heap.get? b=some o->h'.get? b=some o)->s1.heap.objs.size≤a->h'.get? a=some (seqObj "list" out.toArray e)->EP X pins st Q (.ref a) { s1 with heap:=h' }) X.xe s:=λT a ob vs zs n hT g1 g2 g3 rv h2 hz=>by
  refine NO hT g1 g2 g3 ?_ (by rw [← rv.length,h2.len];exact hz)
  refine fin es vs zs _ s.toks s.drawn (BN _) h2 rv λb o e=>?_
  have lt:=Al e
  rw [Heap.get?_update_ne _ _ _ _ (Au lt),Heap.get?_push_ne _ _ _ (Au lt)]
  exact e
 have sq:G0 mu d=some es->wpAny (model X.prog X.w) X.A.in1 (collect u) (λzs s1=>zs.length≤sizeLine∧∃ out,HP X.prog X.w X.A.in1.in1 zs out s1∧∀ h' e a,(∀ b o,s1.heap.get? b=some o->h'.get? b=some o)->s1.heap.objs.size≤a->h'.get? a=some (seqObj "list" out.toArray e)->EP X pins st Q (.ref a) { s1 with heap:=h' }) X.xe s:=λe2=>by
  obtain ⟨a,vs,rfl,h1,h2,h3⟩:=Fi so e2 rx
  cases ru
  rcases h1 with h1|⟨h1,_⟩
  ·obtain ⟨its,rv,⟨o,n,g1,g2,_,g3⟩,_⟩:=I.list h1
   exact seqc "list" a o vs its n (.inl rfl) g1 g2 g3 rv h2 h3
  ·obtain ⟨its,rv,⟨o,g1,g2,n,g3⟩,_⟩:=I.tuple h1
   exact seqc "tuple" a o vs its n (.inr rfl) g1 g2 g3 rv h2 h3
 unfold Qh at eg
 split at eg
 ·cases eg
  unfold Rep at rx
  obtain ⟨a,us',vs,rfl,_,h1,h2,h3,_⟩:=rx
  cases ru
  obtain ⟨⟨o,tes,ep,tb,ho,hex,hd,sb,hf,hv,hw⟩,_⟩:=(show ObjOk X.prog X.w H s.heap a (L9 X.w a us') from I.hok a _ h1)
  refine NL (I.ok.hd hc) (fits_of_scanBound sb) ho hex.1 hd hf hw λzs h' tk d' pm hk=>?_
  obtain ⟨ws,p1,r1⟩:=Vals.perm pm hv
  obtain ⟨fs,p2,r2⟩:=RepL.perm (p1.trans h2) h3
  exact fin fs ws zs h' tk d' p2 r2 r1 hk
 ·exact sq eg
end
theorem JG (xs:Array Nat)(j:Nat)(hs:xs.toList.Pairwise (·<·)):∀ (f lo hi:Nat),hi-lo≤f->lo≤hi->hi≤xs.size->(∀ (i v:Nat),i<lo->xs.toList[i]? = some v->v<j)->(∀ (i v:Nat),hi≤i->xs.toList[i]? = some v->j≤v) ->
  SetTable.below.go xs j f lo hi≤xs.size∧(∀ (i v:Nat),i<SetTable.below.go xs j f lo hi->xs.toList[i]? = some v->v<j)∧(∀ (i v:Nat),SetTable.below.go xs j f lo hi≤i->xs.toList[i]? = some v->j≤v)
 | 0,lo,hi,h,h1,h2,h3,h4=>by
  have:lo=hi:=by omega
  subst this
  exact ⟨h2,h3,h4⟩
 | f+1,lo,hi,h,h1,h2,h3,h4=>by
  have mono:∀ (i k v u:Nat),i≤k->xs.toList[i]? = some v->xs.toList[k]? = some u->v≤u:=λi k v u hik a b=>by
   rcases Bv i k with c|c
   ·obtain ⟨ha,rfl⟩:=Ae.mp a
    obtain ⟨hb,rfl⟩:=Ae.mp b
    exact Nat.le_of_lt (BH.mp hs i k ha hb c)
   ·obtain rfl:i=k:=by omega
    rw [a] at b
    cases b
    exact Ag _
  unfold SetTable.below.go
  by_cases c:lo<hi
  ·rw [if_pos c]
   dsimp only
   have hm:(lo+hi) / 2<xs.toList.length:=by rw [Array.length_toList];omega
   have em:=Ak hm
   generalize xs.toList[(lo+hi) / 2]=v at em
   have eg:xs.getD ((lo+hi) / 2) j=v:=by
    rw [Bf,← Ax,em]
    rfl
   rw [eg]
   by_cases c2:v<j
   ·rw [if_pos c2]
    exact JG xs j hs f _ _ (by omega) (by omega) h2 (λi u hi hu=>Nat.lt_of_le_of_lt (mono i _ u v (by omega) hu em) c2) h4
   ·rw [if_neg c2]
    exact JG xs j hs f _ _ (by omega) (by omega) (by omega) h3 (λi u hi hu=>AJ (Nat.le_of_not_lt c2) (mono _ i v u hi em hu))
  ·rw [if_neg c]
   have:lo=hi:=by omega
   subst this
   exact ⟨h2,h3,h4⟩
theorem Ka {xs:Array Nat}(hs:xs.toList.Pairwise (·<·))(j:Nat):SetTable.below xs j≤xs.size∧(∀ (i v:Nat),i<SetTable.below xs j->xs.toList[i]? = some v->v<j)∧(∀ (i v:Nat),SetTable.below xs j≤i->xs.toList[i]? = some v->j≤v):=
 JG xs j hs xs.size 0 xs.size (by omega) (AW _) (Ag _) (λi v h=>absurd h (Nat.not_lt_zero _)) (λi v h e=>by
  have:=(Ae.mp e).1
  rw [Array.length_toList] at this
  omega)
theorem has_none (j:Nat):SetTable.has #[] j=false:=rfl
theorem Oh {t:SetTable}(hd:t.dummies=#[])(hs:t.place.toList.Pairwise (·<·))(j:Nat):(∃ i,t.slot j=.live i∧t.place.toList[i]? = some j)∨(t.slot j=.empty∧j∉t.place.toList):=by
 obtain ⟨_,b1,b2⟩:=Ka hs j
 unfold SetTable.slot
 dsimp only
 by_cases c:t.place[SetTable.below t.place j]? = some j
 ·refine .inl ⟨SetTable.below t.place j,?_,by rw [Ax];exact c⟩
  rw [c]
  simp
 ·refine .inr ⟨?_,λhm=>?_⟩
  ·rw [hd,has_none]
   have:(t.place[SetTable.below t.place j]?==some j)=false:=by simpa using c
   rw [this]
   rfl
  ·obtain ⟨i,ei⟩:=AO.mp hm
   rcases BX i (SetTable.below t.place j) with h|h|h
   ·exact absurd (b1 i j h ei) (A6 _)
   ·rw [h,Ax] at ei
    exact c ei
   ·obtain ⟨hi,ei'⟩:=Ae.mp ei
    have hb:SetTable.below t.place j<t.place.toList.length:=by omega
    have x:=BH.mp hs _ i hb hi h
    have y:=b2 _ _ (Ag _) (Ak hb)
    rw [ei'] at x
    omega
theorem IJ {t:SetTable}(hd:t.dummies=#[])(hs:t.place.toList.Pairwise (·<·)){i j:Nat}(h:t.place.toList[i]? = some j):t.slot j=.live i:=by
 rcases Oh hd hs j with ⟨i',e,h'⟩|⟨_,n⟩
 ·rw [e]
  obtain ⟨a,a'⟩:=Ae.mp h
  obtain ⟨b,b'⟩:=Ae.mp h'
  rcases BX i i' with c|c|c
  ·have:=BH.mp hs i i' a b c;omega
  ·rw [c]
  ·have:=BH.mp hs i' i b a c;omega
 ·exact absurd (Am h) n
theorem Nh {xs:Array Nat}(hs:xs.toList.Pairwise (·<·)){j:Nat}(hj:j∉xs.toList):(SetTable.insertAt xs (SetTable.below xs j) j).toList.Pairwise (·<·):=by
 obtain ⟨b0,b1,b2⟩:=Ka hs j
 rw [SetTable.toList_insertAt,List.pairwise_append]
 have hdr:∀ v∈xs.toList.drop (SetTable.below xs j),j<v:=λv hv=>by
  obtain ⟨i,ei⟩:=AO.mp hv
  rw [List.getElem?_drop] at ei
  have:=b2 _ v (by omega) ei
  rcases B4 this with h|h
  ·exact h
  ·exact absurd (h▸List.mem_of_mem_drop hv) hj
 have htk:∀ v∈xs.toList.take (SetTable.below xs j),v<j:=λv hv=>by
  obtain ⟨i,ei⟩:=AO.mp hv
  have hi:i<SetTable.below xs j:=by
   have:=(Ae.mp ei).1
   rw [AG] at this
   omega
  rw [Bg hi] at ei
  exact b1 i v hi ei
 refine ⟨hs.sublist (List.take_sublist _ _),BF.mpr ⟨hdr,hs.sublist (List.drop_sublist _ _)⟩,λa ha b hb=>?_⟩
 rcases An.mp hb with rfl|hb
 ·exact htk a ha
 ·exact Nat.lt_trans (htk a ha) (hdr b hb)
noncomputable def adv (mask:Nat)(p:SetTable.Probe):SetTable.Probe:=
 if p.more > 0 then { p with j:=p.j+1,more:=p.more-1 } else
 { p with j:=(SetTable.leap mask p.i p.perturb).1,more:=SetTable.runEnd mask (SetTable.leap mask p.i p.perturb).1-(SetTable.leap mask p.i p.perturb).1,i:=(SetTable.leap mask p.i p.perturb).1,perturb:=(SetTable.leap mask p.i p.perturb).2 }
theorem WB (t:SetTable)(p:SetTable.Probe):t.advance p=adv t.mask p:=rfl
noncomputable def rn (mask:Nat)(q:Nat×Nat):SetTable.Probe:={ j:=q.1,more:=SetTable.runEnd mask q.1-q.1,i:=q.1,perturb:=q.2,dummy:=none }
noncomputable def lp (mask:Nat)(h:Int):Nat->Nat×Nat
 | 0=>(SetTable.bits h % (mask+1),SetTable.bits h)
 | k+1=>SetTable.leap mask (lp mask h k).1 (lp mask h k).2
noncomputable def pth (mask:Nat)(h:Int):Nat->SetTable.Probe
 | 0=>rn mask (lp mask h 0)
 | n+1=>adv mask (pth mask h n)
theorem Ls {mask:Nat}{h:Int}{n:Nat}{q:Nat×Nat}(e:pth mask h n=rn mask q):∀ m,m≤SetTable.runEnd mask q.1-q.1->pth mask h (n+m)={ rn mask q with j:=q.1+m,more:=SetTable.runEnd mask q.1-q.1-m }
 | 0,_=>by rw [Nat.add_zero,e];rfl
 | m+1,hm=>by
  have ih:=Ls e m (by omega)
  rw [← Nat.add_assoc,pth,ih]
  unfold adv
  dsimp only
  rw [if_pos (by omega)]
  show SetTable.Probe.mk _ _ _ _ _=SetTable.Probe.mk _ _ _ _ _
  congr 1<;>omega
theorem Oy {mask i:Nat}:SetTable.runEnd mask i-i≤9:=by unfold SetTable.runEnd;split<;>omega
theorem NW {mask i:Nat}(h:i≤mask):SetTable.runEnd mask i≤mask:=by unfold SetTable.runEnd;split<;>omega
theorem ON (mask:Nat)(h:Int):∀ k,(lp mask h k).1≤mask
 | 0=>Nat.le_of_lt_succ (Nat.mod_lt _ (Nat.succ_pos _))
 | k+1=>Nat.le_of_lt_succ (Nat.mod_lt _ (Nat.succ_pos _))
theorem QJ (mask:Nat)(h:Int):∀ k,∃ n,n≤10*k∧pth mask h n=rn mask (lp mask h k)
 | 0=>⟨0,Ag _,rfl⟩
 | k+1=>by
  obtain ⟨n,hn,e⟩:=QJ mask h k
  have r9:=Oy (mask:=mask) (i:=(lp mask h k).1)
  refine ⟨n+(SetTable.runEnd mask (lp mask h k).1-(lp mask h k).1)+1,by omega,?_⟩
  rw [pth,Ls e _ (Ag _)]
  unfold adv
  dsimp only
  rw [if_neg (by omega)]
  rfl
noncomputable def orb (mask:Nat):Nat->Nat->Nat
 | i,0=>i
 | i,m+1=>orb mask ((i*5+1) % (mask+1)) m
noncomputable def Xt (mask:Nat):Nat->Nat->List Nat
 | 0,_=>[]
 | n+1,i=>i::Xt mask n ((i*5+1) % (mask+1))
theorem Js (mask:Nat):∀ (a i b:Nat),orb mask i (a+b)=orb mask (orb mask i a) b
 | 0,i,b=>by rw [BE];rfl
 | a+1,i,b=>by rw [Nat.succ_add,orb,Js mask a,orb]
theorem MH {mask:Nat}{j:Nat}:∀ (n i:Nat),j∈Xt mask n i->∃ m,m<n∧orb mask i m=j
 | 0,i,h=>by cases h
 | n+1,i,h=>by
  rcases An.mp h with rfl|h
  ·exact ⟨0,Nat.succ_pos _,rfl⟩
  ·obtain ⟨m,hm,e⟩:=MH n _ h
   exact ⟨m+1,by omega,e⟩
noncomputable def Gs (mask:Nat):Prop:=mask=7∨mask=31∨mask=127
theorem O4 {mask:Nat}(hm:Gs mask){j:Nat}(hj:j≤mask):∃ m,m≤mask∧orb mask 0 m=j:=by
 have key:(List.range (mask+1)).all (λj=>(Xt mask (mask+1) 0).contains j)=true:=by
  rcases hm with rfl|rfl|rfl<;>decide +kernel
 have:=Aw.mp key j (A3.mpr (by omega))
 obtain ⟨m,h1,h2⟩:=MH (mask+1) 0 (List.contains_iff_mem.mp this)
 exact ⟨m,by omega,h2⟩
theorem Q2 {mask:Nat}(hm:Gs mask):orb mask 0 (mask+1)=0:=by
 rcases hm with rfl|rfl|rfl<;>decide +kernel
theorem O1 {mask:Nat}(hm:Gs mask){i j:Nat}(hi:i≤mask)(hj:j≤mask):∃ m,m≤mask∧orb mask i m=j:=by
 obtain ⟨a,ha,ea⟩:=O4 hm hi
 obtain ⟨b,hb,eb⟩:=O4 hm hj
 rcases Nat.le_total a b with c|c
 ·refine ⟨b-a,by omega,?_⟩
  rw [← ea,← Js,show a+(b-a)=b by omega,eb]
 ·by_cases c2:a=b
  ·exact ⟨0,AW _,by rw [← ea,← eb,c2];rfl⟩
  ·refine ⟨(mask+1-a)+b,by omega,?_⟩
   rw [← ea,← Js,show a+((mask+1-a)+b)=(mask+1)+b by omega,Js,Q2 hm,eb]
theorem YI (mask:Nat)(h:Int):∀ k,(lp mask h k).2=SetTable.bits h / 32 ^ k
 | 0=>by rw [Nat.pow_zero,Nat.div_one];rfl
 | k+1=>by
  show (lp mask h k).2 / 32=_
  rw [YI mask h k,Nat.div_div_eq_div_mul,Nat.pow_succ]
theorem UZ (h:Int):SetTable.bits h<32 ^ 13:=by
 unfold SetTable.bits
 have a:=By h (show (2 ^ 64:Int)≠0 by decide)
 have b:=Bk h (show (0:Int)<2 ^ 64 by decide)
 have c:(2 ^ 64:Int)=18446744073709551616:=by decide
 have d:(32 ^ 13:Nat)=36893488147419103232:=by decide
 rw [d]
 omega
theorem S7 (mask:Nat)(h:Int):∀ m,(lp mask h (13+m)).1=orb mask (lp mask h 13).1 m:=by
 have q0:∀ k,13≤k->(lp mask h k).2=0:=λk hk=>by
  rw [YI]
  exact Nat.div_eq_of_lt (AD (UZ h) (Nat.pow_le_pow_right (by decide) hk))
 have st:∀ k,13≤k->(lp mask h (k+1)).1=((lp mask h k).1*5+1) % (mask+1):=λk hk=>by
  show ((lp mask h k).1*5+1+(lp mask h k).2 / 32) % (mask+1)=_
  rw [q0 k hk]
 have gen:∀ m k,13≤k->(lp mask h (k+m)).1=orb mask (lp mask h k).1 m:=by
  intro m
  induction m with
  | zero=>intro k _;rfl
  | succ m ih =>
   intro k hk
   rw [show k+(m+1)=(k+1)+m by omega,ih (k+1) (by omega),st k hk]
   rfl
 exact λm=>gen m 13 (Ag _)
theorem U7 {mask:Nat}(hm:Gs mask)(h:Int){j:Nat}(hj:j≤mask):∃ n,n<10*SetTable.turns mask∧(pth mask h n).j=j:=by
 obtain ⟨m,h1,h2⟩:=O1 hm (ON mask h 13) hj
 obtain ⟨n,hn,e⟩:=QJ mask h (13+m)
 refine ⟨n,?_,?_⟩
 ·unfold SetTable.turns;omega
 ·rw [e]
  show (lp mask h (13+m)).1=j
  rw [S7,h2]
theorem IC (mask:Nat)(h:Int):∀ n,(pth mask h n).dummy=none
 | 0=>rfl
 | n+1=>by
  rw [pth]
  unfold adv
  split
  ·exact IC mask h n
  ·exact IC mask h n
theorem M8 {α:Type} [DecidableEq α]:∀ {a b:List α},a.Nodup->(∀ x∈a,x∈b)->a.length≤b.length
 | [],_,_,_=>AW _
 | x::a,b,nd,h=>by
  rw [Bm] at nd
  have hx:=h x (.head _)
  have:=M8 (a:=a) (b:=b.erase x) nd.2 λy hy=>(List.mem_erase_of_ne (λe:y=x=>nd.1 (e▸hy))).mpr (h y (.tail _ hy))
  rw [List.length_erase_of_mem hx] at this
  have:=List.length_pos_of_mem hx
  rw [List.length_cons]
  omega
theorem least {P:Nat->Prop}:∀ n,P n->∃ k,k≤n∧P k∧∀ m,m<k->¬ P m:=by
 intro n
 induction n using Nat.strongRecOn with
 | ind n ih =>
  intro h
  by_cases c:∃ m,m<n∧P m
  ·obtain ⟨m,hm,pm⟩:=c
   obtain ⟨k,a,b,d⟩:=ih m hm pm
   exact ⟨k,by omega,b,d⟩
  ·exact ⟨n,Ag _,h,λm hm pm=>c ⟨m,hm,pm⟩⟩
structure TW (mask:Nat) (pl:List Nat) (es:List (Int×Value)):Prop where
 so:pl.Pairwise (·<·)
 ln:pl.length=es.length
 mo:Gs mask
 lt:es.length≤mask
 bd:∀ j∈pl,j≤mask
 rc:∀ (i j:Nat) (e:Int×Value),pl[i]? = some j->es[i]? = some e->∃ n,n<10*SetTable.turns mask∧(pth mask e.1 n).j=j∧∀ m,m≤n->(pth mask e.1 m).j∈pl
theorem TW.first {mask:Nat}{pl:List Nat}{es:List (Int×Value)}(T:TW mask pl es)(h:Int):∃ k,k<10*SetTable.turns mask∧(pth mask h k).j∉pl∧(∀ m,m<k->(pth mask h m).j∈pl)∧(pth mask h k).j≤mask:=by
 obtain ⟨j,hj,hn⟩:∃ j,j≤mask∧j∉pl:=by
  apply BK
  intro hc
  have:∀ x∈List.range (mask+1),x∈pl:=λx hx=>BK λhx'=>hc ⟨x,by have:=A3.mp hx;omega,hx'⟩
  have:=M8 List.nodup_range this
  rw [Br,T.ln] at this
  have:=T.lt
  omega
 obtain ⟨n,hn1,hn2⟩:=U7 T.mo h hj
 obtain ⟨k,k1,k2,k3⟩:=least (P:=λn=>(pth mask h n).j∉pl∧(pth mask h n).j≤mask) n ⟨hn2▸hn,by omega⟩
 refine ⟨k,by omega,k2.1,λm hm=>?_,k2.2⟩
 have le:∀ n,(pth mask h n).j+(pth mask h n).more≤mask∧(pth mask h n).i≤mask:=by
  intro n
  induction n with
  | zero =>
   have:=ON mask h 0
   have r:=NW this
   constructor
   ·show (lp mask h 0).1+(SetTable.runEnd mask (lp mask h 0).1-(lp mask h 0).1)≤mask
    omega
   ·exact this
  | succ n ih =>
   rw [pth]
   unfold adv
   split
   ·dsimp only;exact ⟨by omega,ih.2⟩
   ·have:(SetTable.leap mask (pth mask h n).i (pth mask h n).perturb).1≤mask:=Nat.le_of_lt_succ (Nat.mod_lt _ (Nat.succ_pos _))
    have r:=NW this
    dsimp only
    exact ⟨by omega,this⟩
 exact BK λhc=>k3 m hm ⟨hc,by have:=(le m).1;omega⟩
theorem Vr {t:SetTable}(hd:t.dummies=#[])(hs:t.place.toList.Pairwise (·<·))(h:Int)(hashAt:Nat->Int){k:Nat}(hk:(pth t.mask h k).j∉t.place.toList)(hb:∀ m,m<k->(pth t.mask h m).j∈t.place.toList) :
  ∀ (f n:Nat),n≤k->k<n+f->∃ c,n≤c∧c≤k∧(∀ m i,n≤m->m<c->t.place.toList[i]? = some (pth t.mask h m).j->hashAt i≠h) ∧
   ((c=k∧SetTable.probe.go t hashAt h f (pth t.mask h n)=some (.empty (pth t.mask h k).j none))∨(c<k∧∃ i,t.place.toList[i]? = some (pth t.mask h c).j∧hashAt i=h∧SetTable.probe.go t hashAt h f (pth t.mask h n)=some (.candidate (pth t.mask h c).j i (pth t.mask h (c+1)))))
 | 0,n,h1,h2=>by omega
 | f+1,n,h1,h2=>by
  unfold SetTable.probe.go
  rcases Oh hd hs (pth t.mask h n).j with ⟨i,e,hi⟩|⟨e,hn⟩
  ·rw [e]
   dsimp only
   have nk:n<k:=by
    rcases B4 h1 with c|c
    ·exact c
    ·subst c
     exact absurd (Am hi) hk
   have un:∀ i',t.place.toList[i']? = some (pth t.mask h n).j->i'=i:=λi' h'=>by
    have a:=IJ hd hs h'
    rw [e] at a
    cases a
    rfl
   by_cases c:hashAt i=h
   ·refine ⟨n,Ag _,h1,λm i a b=>by omega,.inr ⟨nk,i,hi,c,?_⟩⟩
    rw [if_pos (by simpa using c)]
    rfl
   ·obtain ⟨c',a1,a2,a3,a4⟩:=Vr hd hs h hashAt hk hb f (n+1) nk (by omega)
    refine ⟨c',by omega,a2,λm i' b1 b2 b3=>?_,?_⟩
    ·rcases B4 b1 with b1|b1
     ·exact a3 m i' b1 b2 b3
     ·subst b1
      rw [un i' b3]
      exact c
    ·rw [if_neg (by simpa using c),WB]
     exact a4
  ·rw [e]
   dsimp only
   have:n=k:=by
    rcases B4 h1 with c|c
    ·exact absurd (hb n c) hn
    ·exact c
   subst this
   exact ⟨n,Ag _,Ag _,λm i a b=>by omega,.inl ⟨rfl,by rw [IC]⟩⟩
theorem XD {α β:Type}{l1:List α}{l2:List β}{p:Nat}{a x:α}{b y:β}(hp:p≤l1.length)(hl:l1.length=l2.length){i:Nat}(h1:(l1.take p++a::l1.drop p)[i]? = some x)(h2:(l2.take p++b::l2.drop p)[i]? = some y):(x=a∧y=b)∨∃ i0:Nat,l1[i0]? = some x∧l2[i0]? = some y:=by
 rcases BX i p with c|c|c
 ·rw [Ay (by rw [AG];omega),Bg c] at h1 h2
  exact .inr ⟨i,h1,h2⟩
 ·subst c
  rw [AU (by rw [AG];omega),AG,Nat.min_eq_left hp,Nat.sub_self] at h1
  rw [AU (by rw [AG];omega),AG,Nat.min_eq_left (by omega),Nat.sub_self] at h2
  cases h1
  cases h2
  exact .inl ⟨rfl,rfl⟩
 ·rw [AU (by rw [AG];omega),AG,Nat.min_eq_left hp] at h1
  rw [AU (by rw [AG];omega),AG,Nat.min_eq_left (by omega)] at h2
  obtain ⟨q,hq⟩:∃ q,i-p=q+1:=⟨i-p-1,by omega⟩
  rw [hq,List.getElem?_cons_succ,List.getElem?_drop] at h1 h2
  exact .inr ⟨p+q,h1,h2⟩
theorem TW.put {mask:Nat}{pl:List Nat}{es:List (Int×Value)}(T:TW mask pl es){h:Int}{v:Value}{k p:Nat}(hk:k<10*SetTable.turns mask)(hn:(pth mask h k).j∉pl)(hb:∀ m,m<k->(pth mask h m).j∈pl)(hj:(pth mask h k).j≤mask)(hp:p≤pl.length)(hl:es.length<mask)
  (hs:(pl.take p++(pth mask h k).j::pl.drop p).Pairwise (·<·)):TW mask (pl.take p++(pth mask h k).j::pl.drop p) (es.take p++(h,v)::es.drop p):=by
 have mem:∀ x,x∈pl.take p++(pth mask h k).j::pl.drop p ↔ x=(pth mask h k).j∨x∈pl:=λx=>by
  have e:x∈pl ↔ x∈pl.take p∨x∈pl.drop p:=by rw [← AH,List.take_append_drop]
  rw [AH,An,e]
  constructor
  ·rintro (a|a|a)
   ·exact .inr (.inl a)
   ·exact .inl a
   ·exact .inr (.inr a)
  ·rintro (a|a|a)
   ·exact .inr (.inl a)
   ·exact .inl a
   ·exact .inr (.inr a)
 have ll:=T.ln
 refine ⟨hs,?_,T.mo,?_,λj hj'=>?_,λi j e h1 h2=>?_⟩
 ·simp only [As,AG,List.length_cons,BA]
  omega
 ·simp only [As,AG,List.length_cons,BA]
  omega
 ·rcases (mem j).mp hj' with rfl|q
  ·exact hj
  ·exact T.bd j q
 ·rcases XD hp T.ln h1 h2 with ⟨rfl,rfl⟩|⟨i0,a,b⟩
  ·refine ⟨k,hk,rfl,λm hm=>(mem _).mpr ?_⟩
   rcases B4 hm with c|c
   ·exact .inr (hb m c)
   ·subst c
    exact .inl rfl
  ·obtain ⟨n,n1,n2,n3⟩:=T.rc i0 j e a b
   exact ⟨n,n1,n2,λm hm=>(mem _).mpr (.inr (n3 m hm))⟩
noncomputable def Occ (ow:Array (Option Nat))(j:Nat):Prop:=∃ c,ow[j]? = some (some c)
theorem Pb {mask:Nat}{ow:Array (Option Nat)}(hz:ow.size=mask+1){h:Int}{r0:Nat}(hr:ow[(lp mask h r0).1]? = some none):∀ (f r n:Nat),pth mask h n=rn mask (lp mask h r)->n≤10*r->(∀ m,m<n->Occ ow (pth mask h m).j)->r≤r0->r0<r+f ->
  ∃ k,k≤10*r0+9∧SetTable.layClean.free mask ow f (lp mask h r).1 (lp mask h r).2=some (pth mask h k).j∧ow[(pth mask h k).j]? = some none∧(∀ m,m<k->Occ ow (pth mask h m).j)∧(pth mask h k).j≤mask
 | 0,r,n,_,_,_,h1,h2=>by omega
 | f+1,r,n,e,hn,ho,h1,h2=>by
  have le:=ON mask h r
  have rl:=NW le
  have re:(lp mask h r).1≤SetTable.runEnd mask (lp mask h r).1:=by unfold SetTable.runEnd;split<;>omega
  have r9:=Oy (mask:=mask) (i:=(lp mask h r).1)
  have at_:∀ q,q<SetTable.runEnd mask (lp mask h r).1+1-(lp mask h r).1->(pth mask h (n+q)).j=(lp mask h r).1+q:=λq hq=>by
   rw [Ls e q (by omega)]
  have val:∀ q,q<SetTable.runEnd mask (lp mask h r).1+1-(lp mask h r).1->∃ o,ow[(lp mask h r).1+q]? = some o∧ow.getD ((lp mask h r).1+q) (some 0)=o:=λq hq=>by
   have hl:(lp mask h r).1+q<ow.size:=by omega
   refine ⟨_,Aq hl,?_⟩
   rw [Bf,Aq hl]
   rfl
  unfold SetTable.layClean.free
  cases c:(List.range (SetTable.runEnd mask (lp mask h r).1+1-(lp mask h r).1)).find? (λk=>(ow.getD ((lp mask h r).1+k) (some 0)).isNone) with
  | some q =>
   obtain ⟨a,b,d⟩:=List.find?_range_eq_some.mp c
   have hq:=A3.mp b
   obtain ⟨o,o1,o2⟩:=val q hq
   rw [o2] at a
   have oN:o=none:=by simpa using a
   subst oN
   dsimp only
   refine ⟨n+q,by omega,by rw [at_ q hq],by rw [at_ q hq];exact o1,λm hm=>?_,by rw [at_ q hq];omega⟩
   rcases Bv m n with c2|c2
   ·exact ho m c2
   ·obtain ⟨x,rfl⟩:∃ x,m=n+x:=⟨m-n,by omega⟩
    have hx:x<q:=by omega
    obtain ⟨o,u1,u2⟩:=val x (by omega)
    have:=d x hx
    rw [u2] at this
    cases o with
    | none=>simp at this
    | some c=>exact ⟨c,by rw [at_ x (by omega)];exact u1⟩
  | none =>
   have d:=List.find?_range_eq_none.mp c
   dsimp only
   have ne:r≠r0:=λz=>by
    subst z
    have:=d 0 (by omega)
    obtain ⟨o,u1,u2⟩:=val 0 (by omega)
    rw [u2] at this
    rw [Nat.add_zero,hr] at u1
    cases u1
    simp at this
   refine Pb hz hr f (r+1) (n+(SetTable.runEnd mask (lp mask h r).1-(lp mask h r).1)+1) ?_ (by omega) (λm hm=>?_) (by omega) (by omega)
   ·rw [pth,Ls e _ (Ag _)]
    unfold adv
    dsimp only
    rw [if_neg (by omega)]
    rfl
   ·rcases Bv m n with c2|c2
    ·exact ho m c2
    ·obtain ⟨x,rfl⟩:∃ x,m=n+x:=⟨m-n,by omega⟩
     obtain ⟨o,u1,u2⟩:=val x (by omega)
     have:=d x (by omega)
     rw [u2] at this
     cases o with
     | none=>simp at this
     | some c=>exact ⟨c,by rw [at_ x (by omega)];exact u1⟩
structure OI (mask:Nat) (hs:List Int) (ow:Array (Option Nat)) (k:Nat):Prop where
 sz:ow.size=mask+1
 rc:∀ (j c:Nat),ow[j]? = some (some c)->c<k∧∃ hc,hs[c]? = some hc∧∃ n,n<10*SetTable.turns mask∧(pth mask hc n).j=j∧∀ m,m≤n->Occ ow (pth mask hc m).j
 on:∀ c,c<k->∃ j:Nat,ow[j]? = some (some c)
 inj:∀ (j j' c:Nat),ow[j]? = some (some c)->ow[j']? = some (some c)->j=j'
theorem OI.room {mask:Nat}{hs:List Int}{ow:Array (Option Nat)}{k:Nat}(O:OI mask hs ow k)(hk:k≤mask):∃ j,j≤mask∧ow[j]? = some none:=by
 apply BK
 intro hc
 have all:∀ j,j≤mask->∃ c,ow[j]? = some (some c):=λj hj=>by
  have hl:j<ow.size:=by rw [O.sz];omega
  cases e:ow[j] with
  | none=>exact absurd ⟨j,hj,by rw [Aq hl,e]⟩ hc
  | some c=>exact ⟨c,by rw [Aq hl,e]⟩
 have f:∀ j,∃ c,j≤mask->ow[j]? = some (some c):=λj=>by
  by_cases hj:j≤mask
  ·obtain ⟨c,e⟩:=all j hj
   exact ⟨c,λ_=>e⟩
  ·exact ⟨0,λh=>absurd h hj⟩
 have g:∃ g:Nat->Nat,∀ j,j≤mask->ow[j]? = some (some (g j)):=⟨λj=>(f j).choose,λj=>(f j).choose_spec⟩
 obtain ⟨g,hg⟩:=g
 have nd:((List.range (mask+1)).map g).Nodup:=by
  rw [AF,A8]
  refine BB (λ{a b} ha hb hne e=>hne ?_) (AF.mp List.nodup_range)
  have ha':=hg a (by have:=A3.mp ha;omega)
  have hb':=hg b (by have:=A3.mp hb;omega)
  rw [e] at ha'
  exact O.inj a b _ ha' hb'
 have:=M8 (b:=List.range k) nd λx hx=>by
  obtain ⟨j,hj,rfl⟩:=Ar.mp hx
  exact A3.mpr (O.rc j _ (hg j (by have:=A3.mp hj;omega))).1
 rw [Ah,Br,Br] at this
 omega
theorem OI.step {mask:Nat}(hm:Gs mask){hs:List Int}{ow:Array (Option Nat)}{k:Nat}(O:OI mask hs ow k)(hk:k≤mask){h:Int}(hh:hs[k]? = some h):∃ j,SetTable.layClean.free mask ow (SetTable.turns mask) (SetTable.bits h % (mask+1)) (SetTable.bits h)=some j∧OI mask hs (ow.setIfInBounds j (some k)) (k+1):=by
 obtain ⟨e,he,hn⟩:=O.room hk
 obtain ⟨m,h1,h2⟩:=O1 hm (ON mask h 13) he
 have hr:ow[(lp mask h (13+m)).1]? = some none:=by rw [S7,h2];exact hn
 obtain ⟨q,q1,q2,q3,q4,q5⟩:=Pb O.sz hr (SetTable.turns mask) 0 0 rfl (Ag _) (λm h=>absurd h (Nat.not_lt_zero _)) (AW _) (by unfold SetTable.turns;omega)
 refine ⟨(pth mask h q).j,q2,?_⟩
 have hl:(pth mask h q).j<ow.size:=by rw [O.sz];omega
 have get:∀ j',(ow.setIfInBounds (pth mask h q).j (some k))[j']? = if (pth mask h q).j=j' then some (some k) else ow[j']?:=λj'=>by
  (rw [Array.getElem?_setIfInBounds])
  by_cases c:(pth mask h q).j=j'
  ·rw [if_pos c,if_pos c,if_pos hl]
  ·rw [if_neg c,if_neg c]
 have up:∀ j',Occ ow j'->Occ (ow.setIfInBounds (pth mask h q).j (some k)) j':=λj' ⟨c,hc⟩=>by
  refine ⟨c,?_⟩
  rw [get,if_neg,hc]
  rintro rfl
  rw [q3] at hc
  cases hc
 have own:Occ (ow.setIfInBounds (pth mask h q).j (some k)) (pth mask h q).j:=⟨k,by rw [get,if_pos rfl]⟩
 refine ⟨by rw [Array.size_setIfInBounds];exact O.sz,λj' c hc=>?_,λc hc=>?_,λa b c ha hb=>?_⟩
 ·rw [get] at hc
  by_cases x:(pth mask h q).j=j'
  ·rw [if_pos x] at hc
   cases hc
   refine ⟨AV _,h,hh,q,by unfold SetTable.turns;omega,x,λm hm=>?_⟩
   rcases B4 hm with c|c
   ·exact up _ (q4 m c)
   ·subst c;exact own
  ·rw [if_neg x] at hc
   obtain ⟨a,hc',b,n,n1,n2,n3⟩:=O.rc j' c hc
   exact ⟨by omega,hc',b,n,n1,n2,λm hm=>up _ (n3 m hm)⟩
 ·rcases B4 (Nat.le_of_lt_succ hc) with x|x
  ·obtain ⟨j',hj'⟩:=O.on c x
   refine ⟨j',?_⟩
   rw [get,if_neg,hj']
   rintro rfl
   rw [q3] at hj'
   cases hj'
  ·subst x
   exact ⟨_,by rw [get,if_pos rfl]⟩
 ·rw [get] at ha hb
  by_cases x:(pth mask h q).j=a
  ·by_cases y:(pth mask h q).j=b
   ·omega
   ·rw [if_pos x] at ha
    rw [if_neg y] at hb
    cases ha
    have:=(O.rc b k hb).1
    omega
  ·rw [if_neg x] at ha
   by_cases y:(pth mask h q).j=b
   ·rw [if_pos y] at hb
    cases hb
    have:=(O.rc a k ha).1
    omega
   ·rw [if_neg y] at hb
    exact O.inj a b c ha hb
theorem OI.start (mask:Nat)(hs:List Int):OI mask hs (Array.replicate (mask+1) none) 0:=by
 have no:∀ j c:Nat,(Array.replicate (mask+1) (none:Option Nat))[j]?≠some (some c):=λj c h=>by
  rw [Array.getElem?_replicate] at h
  split at h<;>cases h
 exact ⟨by simp,λj c h=>absurd h (no j c),λc h=>absurd h (Nat.not_lt_zero _),λa b c h=>absurd h (no a c)⟩
theorem Wj {mask:Nat}(hm:Gs mask)(hs:Array Int)(hl:hs.size≤mask):∃ ow,SetTable.layClean mask hs=some ow∧OI mask hs.toList ow hs.size:=by
 have key:∀ (l2 l1:List Int) (ow:Array (Option Nat)),l1++l2=hs.toList->OI mask hs.toList ow l1.length->∃ ow',(l2.foldl (λ(acc:Option (Array (Option Nat)×Nat)) h=>(do
   let (owner,k)←acc
   let j←SetTable.layClean.free mask owner (SetTable.turns mask) (SetTable.bits h % (mask+1)) (SetTable.bits h)
   pure (owner.setIfInBounds j (some k),k+1):Option (Array (Option Nat)×Nat))) (some (ow,l1.length)))=some (ow',hs.size)∧OI mask hs.toList ow' hs.size:=by
  intro l2
  induction l2 with
  | nil =>
   intro l1 ow e O
   have:l1.length=hs.size:=by rw [← Array.length_toList,← e,List.append_nil]
   rw [this] at O ⊢
   exact ⟨ow,rfl,O⟩
  | cons h l2 ih =>
   intro l1 ow e O
   have hlen:l1.length+(l2.length+1)=hs.size:=by rw [← Array.length_toList,← e,As,List.length_cons]
   have hh:hs.toList[l1.length]? = some h:=by rw [← e,AU (Ag _),Nat.sub_self];rfl
   obtain ⟨j,j1,j2⟩:=O.step hm (by omega) hh
   obtain ⟨ow',a,b⟩:=ih (l1++[h]) (ow.setIfInBounds j (some l1.length)) (by rw [← e,List.append_assoc];rfl) (by rw [As,List.length_singleton];exact j2)
   refine ⟨ow',?_,b⟩
   rw [List.foldl_cons]
   rw [As,List.length_singleton] at a
   have st:(do
    let (owner,k)←(some (ow,l1.length):Option (Array (Option Nat)×Nat))
    let j←SetTable.layClean.free mask owner (SetTable.turns mask) (SetTable.bits h % (mask+1)) (SetTable.bits h)
    pure (owner.setIfInBounds j (some k),k+1):Option (Array (Option Nat)×Nat))=some (ow.setIfInBounds j (some l1.length),l1.length+1):=by
    show (SetTable.layClean.free mask ow (SetTable.turns mask) (SetTable.bits h % (mask+1)) (SetTable.bits h)).bind _=_
    rw [j1]
    rfl
   rw [st]
   exact a
 obtain ⟨ow,a,b⟩:=key hs.toList [] _ rfl (OI.start mask hs.toList)
 refine ⟨ow,?_,b⟩
 unfold SetTable.layClean
 rw [← Array.foldl_toList]
 have a':=congrArg (Option.map Prod.fst) a
 exact a'
theorem RS {α β:Type}{f:α->Option β}{g:α->β}:∀ {l:List α},(∀ x∈l,f x=some (g x))->l.filterMap f=l.map g
 | [],_=>rfl
 | x::l,h=>by
  rw [List.filterMap_cons,h x (.head _)]
  dsimp only
  rw [RS λx hx=>h x (.tail _ hx),A1]
theorem Od {α:Type} [DecidableEq α]:∀ {a b:List α},a.Nodup->b.Nodup->(∀ x,x∈a ↔ x∈b)->a.Perm b
 | [],b,_,_,h=>by
  cases b with
  | nil=>exact .nil
  | cons y b=>exact absurd ((h y).mpr (.head _)) (by simp)
 | x::a,b,na,nb,h=>by
  have hx:x∈b:=(h x).mp (.head _)
  rw [Bm] at na
  have:=Od (a:=a) (b:=b.erase x) na.2 (nb.erase x) λy=>by
   constructor
   ·intro hy
    have ne:y≠x:=λe=>na.1 (e▸hy)
    exact (List.mem_erase_of_ne ne).mpr ((h y).mp (.tail _ hy))
   ·intro hy
    have ne:y≠x:=λe=>by
     subst e
     exact (List.Nodup.mem_erase_iff nb).mp hy |>.1 rfl
    rcases An.mp ((h y).mpr (List.mem_of_mem_erase hy)) with e|e
    ·exact absurd e ne
    ·exact e
  exact (this.cons x).trans (List.perm_cons_erase hx).symm
theorem Vd {mask:Nat}(hm:Gs mask)(finger moves:Nat)(led plain:Bool)(es:Array (Int×Value))(hl:es.size≤mask) :
  ∃ t order,SetTable.laid mask finger moves led plain (es.map (·.1))=some (t,order)∧t.mask=mask∧t.dummies=#[]∧t.led=led∧t.plain=plain∧(order.filterMap (es[·]?)).toList.Perm es.toList∧TW mask t.place.toList (order.filterMap (es[·]?)).toList:=by
 obtain ⟨ow,e,O⟩:=Wj hm (es.map (·.1)) (by rw [Array.size_map];exact hl)
 rw [Array.size_map] at O
 have hsz:=O.sz
 generalize hL:(List.range (mask+1)).filterMap (λj=>(ow.getD j none).map (λc=>(j,c)))=L
 have mem:∀ (j c:Nat),(j,c)∈L ↔ ow[j]? = some (some c):=λj c=>by
  rw [← hL,List.mem_filterMap]
  constructor
  ·rintro ⟨a,ha,hb⟩
   have la:a<ow.size:=by have:=A3.mp ha;omega
   rw [Bf,Aq la] at hb
   cases q:ow[a] with
   | none=>rw [q] at hb;cases hb
   | some d =>
    rw [q] at hb
    cases hb
    rw [Aq la,q]
  ·intro h
   have la:=(Array.getElem?_eq_some_iff.mp h).1
   refine ⟨j,A3.mpr (by omega),?_⟩
   rw [Bf,h]
   rfl
 have srt:(L.map (·.1)).Pairwise (·<·):=by
  rw [← hL,A8]
  refine List.Pairwise.filterMap _ (λa a' hlt b hb b' hb'=>?_) List.pairwise_lt_range
  cases q:ow.getD a none with
  | none=>rw [q] at hb;cases hb
  | some d =>
   cases q':ow.getD a' none with
   | none=>rw [q'] at hb';cases hb'
   | some d' =>
    rw [q] at hb
    rw [q'] at hb'
    cases hb
    cases hb'
    exact hlt
 have snd:∀ p∈L,es[p.2]? = some (es.getD p.2 default):=λp hp=>by
  have:=(O.rc p.1 p.2 ((mem p.1 p.2).mp hp)).1
  rw [Bf,Aq this]
  rfl
 have ee:((L.map (·.2)).toArray.filterMap (es[·]?)).toList=L.map (λp=>es.getD p.2 default):=by
  rw [Array.toList_filterMap,List.filterMap_map]
  exact RS snd
 refine ⟨{ mask,place:=(L.map (·.1)).toArray,dummies:=#[],finger,led,moves,plain },(L.map (·.2)).toArray,?_,rfl,rfl,rfl,rfl,?_,?_⟩
 ·unfold SetTable.laid
  rw [e]
  show some (_,_)=some (_,_)
  rw [hL]
 ·rw [ee]
  have p1:(L.map (·.2)).Perm (List.range es.size):=by
   refine Od ?_ List.nodup_range λc=>?_
   ·rw [AF,A8]
    have:=A8.mp srt
    refine BB (λ{a b} ha hb hlt e=>?_) this
    have h1:=(mem a.1 a.2).mp ha
    have h2:=(mem b.1 b.2).mp hb
    rw [e] at h1
    have:=O.inj _ _ _ h1 h2
    omega
   ·rw [A3,Ar]
    constructor
    ·rintro ⟨p,hp,rfl⟩
     exact (O.rc p.1 p.2 ((mem p.1 p.2).mp hp)).1
    ·intro hc
     obtain ⟨j,hj⟩:=O.on c hc
     exact ⟨(j,c),(mem j c).mpr hj,rfl⟩
  have p2:=p1.map (λc=>es.getD c default)
  rw [Bu] at p2
  refine p2.trans ?_
  have:(List.range es.size).map (λc=>es.getD c default)=es.toList:=by
   apply List.ext_getElem
   ·rw [Ah,Br,Array.length_toList]
   ·intro i h1 h2
    rw [List.getElem_map,List.getElem_range,Bf]
    rw [Array.length_toList] at h2
    rw [Aq h2]
    rfl
  rw [this]
 ·rw [ee]
  have ll:(L.map (λp=>es.getD p.2 default)).length=es.size:=by
   have:L.length=es.size:=by
    have nd:(L.map (·.2)).Nodup:=by
     rw [AF,A8]
     have:=A8.mp srt
     refine BB (λ{a b} ha hb hlt e=>?_) this
     have h1:=(mem a.1 a.2).mp ha
     have h2:=(mem b.1 b.2).mp hb
     rw [e] at h1
     have:=O.inj _ _ _ h1 h2
     omega
    have a:=M8 (b:=List.range es.size) nd λc hc=>by
     obtain ⟨p,hp,rfl⟩:=Ar.mp hc
     exact A3.mpr (O.rc p.1 p.2 ((mem p.1 p.2).mp hp)).1
    have b:=M8 (a:=List.range es.size) (b:=L.map (·.2)) List.nodup_range λc hc=>by
     obtain ⟨j,hj⟩:=O.on c (A3.mp hc)
     exact Ar.mpr ⟨(j,c),(mem j c).mpr hj,rfl⟩
    rw [Ah,Br] at a b
    omega
   rw [Ah,this]
  have occ:∀ j,Occ ow j ↔ j∈L.map (·.1):=λj=>by
   rw [Ar]
   constructor
   ·rintro ⟨c,hc⟩
    exact ⟨(j,c),(mem j c).mpr hc,rfl⟩
   ·rintro ⟨p,hp,rfl⟩
    exact ⟨p.2,(mem p.1 p.2).mp hp⟩
  refine ⟨srt,by rw [Ah,Ah],hm,by rw [ll];exact hl,λj hj=>?_,λi j e' h1 h2=>?_⟩
  ·obtain ⟨c,hc⟩:=(occ j).mpr hj
   have:=(Array.getElem?_eq_some_iff.mp hc).1
   omega
  ·have h1':(L.map (·.1))[i]? = some j:=h1
   rw [Ap] at h1' h2
   cases q:L[i]? with
   | none=>rw [q] at h1';cases h1'
   | some p =>
    rw [q] at h1' h2
    have e1:p.1=j:=AB h1'
    have e2:es.getD p.2 default=e':=AB h2
    have hp:=Am q
    obtain ⟨a,hc,b,n,n1,n2,n3⟩:=O.rc p.1 p.2 ((mem p.1 p.2).mp hp)
    have:hc=e'.1:=by
     rw [Array.toList_map,Ap,Ax,snd p hp,e2] at b
     exact (AB b).symm
    subst this
    exact ⟨n,n1,by rw [n2,e1],λm hm=>(occ _).mp (n3 m hm)⟩
section
variable {prog:Program} {w:World} {A:Around} {E:Value->Shared->Prop} {s:Shared}
theorem Ni {i t:Addr}{k:Nat}{its:Array Value}{x:Value}{Q:Value->Shared->Prop}(g:s.heap.IsTupleIter i t k)(p:s.heap.IsTuple t its)(e:its[k]? = some x)
  (q:∀ h',h'.IsTupleIter i t (k+1)->Heap.SameBut i s.heap h'->Q x { s with heap:=h' }):wpAny (model prog w) A (Builtin.SmallTypes.nextOf (.ref i)) Q E s:=by
 obtain ⟨ob,g1,g2,g3⟩:=id g
 obtain ⟨tb,p1,p2,n,p3⟩:=p
 (unfold Builtin.SmallTypes.nextOf)
 refine Aa (AQ (name:=Str.ofString "__next__") g.typeIs Ce (AL Ce g.typeIs F.entry_tuple_iterator_next (?_:wpAny _ _ (field (.ref i) 0 >>= _) _ _ _) (F.args_tuple_iterator_next_1 _)))
 refine Aa (Bl g1 g3 (x:=.ref t) rfl (?_:wpAny _ _ (if (Value.ref t==Value.none)=true then _ else _) _ _ _))
 have nn:¬ ((Value.ref t==Value.none)=true):=AE
 rw [if_neg nn]
 refine Aa (m:=field (.ref i) 1) (Bl g1 g3 (x:=.int k 0) rfl (?_:wpAny _ _ (seqItems? (.ref t) >>= _) _ _ _))
 refine Aa (Bp p1 p3 ?_)
 simp only [Int.toNat_natCast,e]
 refine Aa (Bi g1 g3 (by simp) (Ab ⟨x,rfl,Ab (q _ ⟨_,AN _ g1 (Obj.isFreed_of_fields (Obj.data_mapFields g3 _)),(Obj.cls_mapFields ..).trans g2,?_⟩ (AA ..))⟩))
 rw [Obj.data_mapFields g3]
 simp [rawInt]
theorem Te {i t:Addr}{k:Nat}{its:Array Value}{Q:Value->Shared->Prop}(hh:A.handled=none)(g:s.heap.IsTupleIter i t k)(p:s.heap.IsTuple t its)(e:its[k]? = none)
  (q:∀ h' b,Heap.ExtBut i s.heap h'->(∃ o,h'.get? b=some o∧o.cls=.type "StopIteration")->E (.ref b) { s with heap:=h' }):wpAny (model prog w) A (Builtin.SmallTypes.nextOf (.ref i)) Q E s:=by
 obtain ⟨ob,g1,g2,g3⟩:=id g
 obtain ⟨tb,p1,p2,n,p3⟩:=p
 (unfold Builtin.SmallTypes.nextOf)
 refine Aa (AQ (name:=Str.ofString "__next__") g.typeIs Ce (AL Ce g.typeIs F.entry_tuple_iterator_next (?_:wpAny _ _ (field (.ref i) 0 >>= _) _ _ _) (F.args_tuple_iterator_next_1 _)))
 refine Aa (Bl g1 g3 (x:=.ref t) rfl (?_:wpAny _ _ (if (Value.ref t==Value.none)=true then _ else _) _ _ _))
 have nn:¬ ((Value.ref t==Value.none)=true):=AE
 rw [if_neg nn]
 refine Aa (m:=field (.ref i) 1) (Bl g1 g3 (x:=.int k 0) rfl (?_:wpAny _ _ (seqItems? (.ref t) >>= _) _ _ _))
 refine Aa (Bp p1 p3 ?_)
 simp only [Int.toNat_natCast,e]
 refine Aa (Bo (Aa (Bi g1 g3 (by simp) (?_:wpAny _ _ (newExc (.type "StopIteration") [] >>= _) _ _ _))))
 refine Aa ?_
 simp only [newExc,newTuple]
 refine Aa (AR (Aa (m:=firstArgMember _ _) (wpAny_of_eq (a:=Value.none) (by first|rfl|(simp only [firstArgMember];rfl)) (AR ?_ (by size_fits)))) (by size_fits))
 simp only [raiseNew]
 refine Aa (wpAny_handled ?_)
 first|rw [show A.in1.handled=none from hh]|rw [hh]
 exact Aa (Ab (wpAny_throw (q _ _ (((AA ..).extBut.push _).push _) ⟨_,Ai _ rfl,rfl⟩)))
noncomputable def zTu (z TI TO i1 i2 l1 l2:Addr)(k:Nat)(h:Heap):Prop:=
 IsZip h z TI TO .none∧IsPair h TI (.ref i1) (.ref i2)∧(∃ a b,IsPair h TO a b)∧h.IsTupleIter i1 l1 k∧h.IsTupleIter i2 l2 k
theorem RM {z TI TO i1 i2 l1 l2:Addr}{k:Nat}{xs ys:Array Value}{x y:Value}{Q:Value->Shared->Prop}(D:ZipApart z TI TO i1 i2 l1 l2)(g:zTu z TI TO i1 i2 l1 l2 k s.heap)
  (p1:s.heap.IsTuple l1 xs) (p2:s.heap.IsTuple l2 ys) (ex:xs[k]? = some x) (ey:ys[k]? = some y)
  (q:∀ h',IsZip h' z TI TO (rawInt s.heap.objs.size)->IsPair h' TO x y->h'.IsTupleIter i1 l1 (k+1)->h'.IsTupleIter i2 l2 (k+1)->IsPair h' s.heap.objs.size x y ->
   (∀ c o,c≠z->c≠TO->c≠i1->c≠i2->s.heap.get? c=some o->h'.get? c=some o)->Q (.ref s.heap.objs.size) { s with heap:=h' }) :
  wpAny (model prog w) A (Builtin.«zip.__next__» ⟨[.ref z],[]⟩) (λfin s'=>∃ v,fin=.done (.ret v)∧Q v s') E s:=by
 obtain ⟨g1,g2,⟨a,b,g3⟩,g4,g5⟩:=g
 refine (?_:wpAny _ _ (field (.ref z) 2 >>= _) _ _ _)
 refine Aa (Bl g1 rfl (x:=.bool false) rfl (?_:wpAny _ _ (field (.ref z) 3 >>= _) _ _ _))
 refine Aa (Bl g1 rfl (x:=.ref TI) rfl (Aa (Bp g2 rfl (?_:wpAny _ _ (Builtin.SmallTypes.ownedTupleIsFree (.ref z) >>= _) _ _ _))))
 refine Aa ?_
 (unfold Builtin.SmallTypes.ownedTupleIsFree)
 refine Aa (Bl g1 rfl (x:=.none) rfl (Ab ?_))
 simp only [if_true]
 refine Aa (Bo (Aa (Bl g1 rfl (x:=.ref TO) rfl (Aa (wpAny_setField_rec g1 (by simp) λq1 z1 b1=>?_)))))
 replace z1:IsZip q1 z TI TO .ellipsis:=z1
 refine Aa ?_
 simp only [List.zipIdx_cons,List.zipIdx_nil,B9,List.forIn_nil]
 refine Aa (Aa (wpAny_onRaise (?_:wpAny _ _ (Builtin.SmallTypes.nextOf (.ref i1) >>= _) _ _ _)))
 refine Aa (Ni (g4.extBut b1.extBut D.i1z) (p1.extBut b1.extBut D.l1z) ex λq2 n1 b2=>Ab ?_)
 have o2:IsPair q2 TO a b:=b2.extBut _ _ D.TOi1 (b1.extBut _ _ D.TOz g3)
 refine Aa (Bp o2 rfl (Aa (wpAny_updateSeq_pair o2 λq3 o3 b3=>Aa (wpAny_letGo (Ab ?_)))))
 replace o3:IsPair q3 TO x b:=o3
 refine Aa (Aa (wpAny_onRaise (?_:wpAny _ _ (Builtin.SmallTypes.nextOf (.ref i2) >>= _) _ _ _)))
 refine Aa (Ni (((g5.extBut b1.extBut D.i2z).extBut b2.extBut D.i12.symm).extBut b3.extBut D.TOi2.symm) (((p2.extBut b1.extBut D.l2z).extBut b2.extBut D.l2i1).extBut b3.extBut D.l2TO) ey λq4 n2 b4=>Ab ?_)
 have o4:IsPair q4 TO x b:=b4.extBut _ _ D.TOi2 o3
 refine Aa (Bp o4 rfl (Aa (wpAny_updateSeq_pair o4 λq5 o5 b5=>Aa (wpAny_letGo (Ab (Ab ?_))))))
 replace o5:IsPair q5 TO x y:=o5
 refine Aa (Bp o5 rfl (Aa (wpAny_newTuple ?_)))
 have sz:q5.objs.size=s.heap.objs.size:=by rw [b5.1,b4.1,b3.1,b2.1,b1.1]
 have z5:IsZip q5 z TI TO .ellipsis:=b5.extBut _ _ D.TOz.symm (b4.extBut _ _ D.i2z.symm (b3.extBut _ _ D.TOz.symm (b2.extBut _ _ D.i1z.symm z1)))
 have k5:∀ c o,c≠z->c≠TO->c≠i1->c≠i2->s.heap.get? c=some o->q5.get? c=some o:=λc o d1 d2 d3 d4 e=>b5.extBut _ _ d2 (b4.extBut _ _ d4 (b3.extBut _ _ d2 (b2.extBut _ _ d3 (b1.extBut _ _ d1 e))))
 have m1:q5.IsTupleIter i1 l1 (k+1):=((n1.extBut b3.extBut D.TOi1.symm).extBut b4.extBut D.i12).extBut b5.extBut D.TOi1.symm
 have m2:q5.IsTupleIter i2 l2 (k+1):=n2.extBut b5.extBut D.TOi2.symm
 have zl:q5.objs.size≠z:=BQ (Al z5)
 refine (?_:wpAny _ _ (Builtin.SmallTypes.ownedTupleHandOut (.ref z) (.ref q5.objs.size) >>= _) _ _ _)
 refine Aa ?_
 (unfold Builtin.SmallTypes.ownedTupleHandOut)
 have z6:IsZip (q5.push { cls:=.type "tuple",data:=.seq #[x,y] }) z TI TO .ellipsis:=Ad _ z5
 refine Aa (wpAny_setField_rec z6 (by simp) λq7 z7 b7=>?_)
 replace z7:IsZip q7 z TI TO (rawInt q5.objs.size):=z7
 refine wpAny_setField_rec z7 (by simp) λq8 z8 b8=>?_
 replace z8:IsZip q8 z TI TO (rawInt q5.objs.size):=z8
 have up:∀ c o,c≠z->q5.get? c=some o->q8.get? c=some o:=λc o d e=>b8.extBut _ _ d (b7.extBut _ _ d (Ad _ e))
 have nw:IsPair q8 q5.objs.size x y:=b8.extBut _ _ zl (b7.extBut _ _ zl (Ai _ rfl))
 rw [sz] at z8 nw
 refine Ab ⟨_,rfl,?_⟩
 rw [sz]
 exact q q8 z8 (up _ _ D.TOz o5) (m1.at λo e=>up _ o D.i1z e) (m2.at λo e=>up _ o D.i2z e) nw λc o d1 d2 d3 d4 e=>up c o d1 (k5 c o d1 d2 d3 d4 e)
theorem Rc {z TI TO i1 i2 l1 l2:Addr}{k:Nat}{xs ys:Array Value}{Q:PySem.Fin->Shared->Prop}(hh:A.handled=none)(D:ZipApart z TI TO i1 i2 l1 l2)(g:zTu z TI TO i1 i2 l1 l2 k s.heap)
  (p1:s.heap.IsTuple l1 xs) (p2:s.heap.IsTuple l2 ys) (en:xs[k]? = none∨ys[k]? = none)
  (q:∀ h' e,(∀ c o,c≠z->c≠TO->c≠i1->c≠i2->s.heap.get? c=some o->h'.get? c=some o)->(∃ o,h'.get? e=some o∧o.cls=.type "StopIteration")->E (.ref e) { s with heap:=h' }) :
  wpAny (model prog w) A (Builtin.«zip.__next__» ⟨[.ref z],[]⟩) Q E s:=by
 obtain ⟨g1,g2,⟨a,b,g3⟩,g4,g5⟩:=g
 refine (?_:wpAny _ _ (field (.ref z) 2 >>= _) _ _ _)
 refine Aa (Bl g1 rfl (x:=.bool false) rfl (?_:wpAny _ _ (field (.ref z) 3 >>= _) _ _ _))
 refine Aa (Bl g1 rfl (x:=.ref TI) rfl (Aa (Bp g2 rfl (?_:wpAny _ _ (Builtin.SmallTypes.ownedTupleIsFree (.ref z) >>= _) _ _ _))))
 refine Aa ?_
 (unfold Builtin.SmallTypes.ownedTupleIsFree)
 refine Aa (Bl g1 rfl (x:=.none) rfl (Ab ?_))
 simp only [if_true]
 refine Aa (Bo (Aa (Bl g1 rfl (x:=.ref TO) rfl (Aa (wpAny_setField_rec g1 (by simp) λq1 z1 b1=>?_)))))
 replace z1:IsZip q1 z TI TO .ellipsis:=z1
 refine Aa ?_
 simp only [List.zipIdx_cons,List.zipIdx_nil,B9,List.forIn_nil]
 refine Aa (Aa (wpAny_onRaise (?_:wpAny _ _ (Builtin.SmallTypes.nextOf (.ref i1) >>= _) _ _ _)))
 cases ex:xs[k]? with
 | none =>
  refine Aa (Te hh (g4.extBut b1.extBut D.i1z) (p1.extBut b1.extBut D.l1z) ex λq2 e b2 he=>?_)
  obtain ⟨oe,he1,he2⟩:=he
  have z2:IsZip q2 z TI TO .ellipsis:=b2 _ _ D.i1z.symm z1
  have ne:e≠z:=λu=>by subst u;rw [z2] at he1;cases he1;simp at he2
  exact wpAny_setField_rec z2 (by simp) λq3 _ b3=>q q3 e (λc o d1 _ d3 _ u=>b3.extBut _ _ d1 (b2 _ _ d3 (b1.extBut _ _ d1 u))) ⟨oe,b3.extBut _ _ ne he1,he2⟩
 | some x =>
  have ey:ys[k]? = none:=en.resolve_left λu=>by rw [ex] at u;cases u
  refine Aa (Ni (g4.extBut b1.extBut D.i1z) (p1.extBut b1.extBut D.l1z) ex λq2 n1 b2=>Ab ?_)
  have o2:IsPair q2 TO a b:=b2.extBut _ _ D.TOi1 (b1.extBut _ _ D.TOz g3)
  refine Aa (Bp o2 rfl (Aa (wpAny_updateSeq_pair o2 λq3 o3 b3=>Aa (wpAny_letGo (Ab ?_)))))
  refine Aa (Aa (wpAny_onRaise (?_:wpAny _ _ (Builtin.SmallTypes.nextOf (.ref i2) >>= _) _ _ _)))
  refine Aa (Te hh (((g5.extBut b1.extBut D.i2z).extBut b2.extBut D.i12.symm).extBut b3.extBut D.TOi2.symm) (((p2.extBut b1.extBut D.l2z).extBut b2.extBut D.l2i1).extBut b3.extBut D.l2TO) ey λq4 e b4 he=>?_)
  obtain ⟨oe,he1,he2⟩:=he
  have z4:IsZip q4 z TI TO .ellipsis:=b4 _ _ D.i2z.symm (b3.extBut _ _ D.TOz.symm (b2.extBut _ _ D.i1z.symm z1))
  have ne:e≠z:=λu=>by subst u;rw [z4] at he1;cases he1;simp at he2
  exact wpAny_setField_rec z4 (by simp) λq5 _ b5=>q q5 e (λc o d1 d2 d3 d4 u=>b5.extBut _ _ d1 (b4 _ _ d4 (b3.extBut _ _ d2 (b2.extBut _ _ d3 (b1.extBut _ _ d1 u))))) ⟨oe,b5.extBut _ _ ne he1,he2⟩
theorem NI {z TI TO i1 i2 l1 l2:Addr}{k:Nat}{xs ys:Array Value}{x y:Value}{Q:Option Value->Shared->Prop}(D:ZipApart z TI TO i1 i2 l1 l2)(g:zTu z TI TO i1 i2 l1 l2 k s.heap)
  (p1:s.heap.IsTuple l1 xs) (p2:s.heap.IsTuple l2 ys) (ex:xs[k]? = some x) (ey:ys[k]? = some y)
  (q:∀ h',IsZip h' z TI TO (rawInt s.heap.objs.size)->IsPair h' TO x y->h'.IsTupleIter i1 l1 (k+1)->h'.IsTupleIter i2 l2 (k+1)->IsPair h' s.heap.objs.size x y ->
   (∀ c o,c≠z->c≠TO->c≠i1->c≠i2->s.heap.get? c=some o->h'.get? c=some o)->Q (some (.ref s.heap.objs.size)) { s with heap:=h' }) :
  wpAny (model prog w) A (pyNext (.ref z)) Q E s:=by
 have ty:s.TypeIs (.ref z) "zip":=⟨_,g.1,rfl⟩
 unfold pyNext
 exact Aa (wpAny_attempt (AQ (name:=Str.ofString "__next__") ty F.slot_zip_next (AL F.slot_zip_next ty F.entry_zip_next (RM D g p1 p2 ex ey λh' a1 a2 a3 a4 a5 a6=>Ab (q h' a1 a2 a3 a4 a5 a6)) (F.args_zip_next_1 _))))
theorem NM {z TI TO i1 i2 l1 l2:Addr}{k:Nat}{xs ys:Array Value}{Q:Option Value->Shared->Prop}(hh:A.handled=none)(D:ZipApart z TI TO i1 i2 l1 l2)(g:zTu z TI TO i1 i2 l1 l2 k s.heap)
  (p1:s.heap.IsTuple l1 xs) (p2:s.heap.IsTuple l2 ys) (en:xs[k]? = none∨ys[k]? = none)
  (q:∀ h',(∀ c o,c≠z->c≠TO->c≠i1->c≠i2->s.heap.get? c=some o->h'.get? c=some o)->Q none { s with heap:=h' }):wpAny (model prog w) A (pyNext (.ref z)) Q E s:=by
 have ty:s.TypeIs (.ref z) "zip":=⟨_,g.1,rfl⟩
 unfold pyNext
 refine Aa (wpAny_attempt (AQ (name:=Str.ofString "__next__") ty F.slot_zip_next (AL F.slot_zip_next ty F.entry_zip_next (Rc hh D g p1 p2 en λh' e hk he=>?_) (F.args_zip_next_1 _))))
 obtain ⟨o,ho,hc⟩:=he
 exact Aa (B3 (T:="StopIteration") (b:=true) ⟨o,ho,hc⟩ isSubtype_stop (Ab (q _ hk)))
end
noncomputable abbrev zu1 (h:Heap) (l1:Addr):Heap:=h.push { cls:=.type "tuple_iterator",data:=.fields #[.ref l1,.int 0 0] }
noncomputable abbrev zu2 (h:Heap) (l1 l2:Addr):Heap:=(zu1 h l1).push { cls:=.type "tuple_iterator",data:=.fields #[.ref l2,.int 0 0] }
noncomputable abbrev zu3 (h:Heap) (l1 l2:Addr):Heap:=(zu2 h l1 l2).push { cls:=.type "tuple",data:=.seq #[.ref h.objs.size,.ref (zu1 h l1).objs.size] }
noncomputable abbrev zu4 (h:Heap) (l1 l2:Addr):Heap:=(zu3 h l1 l2).push { cls:=.type "tuple",data:=.seq #[.none,.none] }
noncomputable abbrev zu5 (h:Heap) (l1 l2:Addr):Heap:=(zu4 h l1 l2).push { cls:=.type "zip",data:=.fields #[.none,.bool false,.bool false,.ref (zu2 h l1 l2).objs.size,.ref (zu3 h l1 l2).objs.size] }
theorem W8 (l1 l2:Addr)(xs ys:Array Value):Meets (Builtin.«zip.__new__» ⟨[.type "zip",.ref l1,.ref l2],[]⟩) (λ_ R s=>s.heap.IsTuple l1 xs∧s.heap.IsTuple l2 ys∧R (.ok (.ret (.ref (zu4 s.heap l1 l2).objs.size))) { s with heap:=zu5 s.heap l1 l2 }):=
 .of_wp λprog w A R s h=>by
  obtain ⟨hp,gn,dr,tk,os⟩:=s
  obtain ⟨t1,t2,h⟩:=h
  have hsub:=sub_zip
  have u1:Heap.IsTuple (Shared.heap ⟨hp,gn,dr,tk,os⟩) l1 xs:=t1
  have u2:Heap.IsTuple (Shared.heap ⟨hp.push { cls:=.type "tuple_iterator",data:=.fields #[.ref l1,.int 0 0] },gn,dr,tk,os⟩) l2 ys:=Heap.IsTuple.push t2 _
  wp_walk using wpAny_pyIter_tuple u1,wpAny_pyIter_tuple u2
  exact ⟨_,rfl,h⟩
theorem UG {prog:Program}{w:World}{A:Around}{E:Value->Shared->Prop}{s:Shared}{l1 l2:Addr}{xs ys:Array Value}{Q:Value->Shared->Prop}(p1:s.heap.IsTuple l1 xs)(p2:s.heap.IsTuple l2 ys)
  (q:∀ h',zTu (s.heap.objs.size+4) (s.heap.objs.size+2) (s.heap.objs.size+3) s.heap.objs.size (s.heap.objs.size+1) l1 l2 0 h'->(∀ c o,s.heap.get? c=some o->h'.get? c=some o)->Q (.ref (s.heap.objs.size+4)) { s with heap:=h' }) :
  wpAny (model prog w) A (call (.type "zip") [.ref l1,.ref l2]) Q E s:=by
 refine callType_new F.called_zip (by decide) (F.typeCall_zip_2 _ _) (F.newCall_zip_2 _ _) (λobj=>F.args_object_init_3 obj _ _) F.entry_zip_new (W8 l1 l2 xs ys) ⟨p1,p2,?_⟩
 have n1:(zu1 s.heap l1).objs.size=s.heap.objs.size+1:=Ba ..
 have n2:(zu2 s.heap l1 l2).objs.size=s.heap.objs.size+2:=by rw [Ba,n1]
 have n3:(zu3 s.heap l1 l2).objs.size=s.heap.objs.size+3:=by rw [Ba,n2]
 have n4:(zu4 s.heap l1 l2).objs.size=s.heap.objs.size+4:=by rw [Ba,n3]
 have e5:(zu5 s.heap l1 l2).get? (zu4 s.heap l1 l2).objs.size=some _:=Ai _ rfl
 have e4:(zu4 s.heap l1 l2).get? (zu3 s.heap l1 l2).objs.size=some _:=Ai _ rfl
 have e3:(zu3 s.heap l1 l2).get? (zu2 s.heap l1 l2).objs.size=some _:=Ai _ rfl
 have e2:(zu2 s.heap l1 l2).get? (zu1 s.heap l1).objs.size=some _:=Ai _ rfl
 have e1:(zu1 s.heap l1).get? s.heap.objs.size=some _:=Ai _ rfl
 have w5:∀ c o,(zu4 s.heap l1 l2).get? c=some o->(zu5 s.heap l1 l2).get? c=some o:=λc o e=>Ad _ e
 have w4:∀ c o,(zu3 s.heap l1 l2).get? c=some o->(zu5 s.heap l1 l2).get? c=some o:=λc o e=>w5 c o (Ad _ e)
 have w3:∀ c o,(zu2 s.heap l1 l2).get? c=some o->(zu5 s.heap l1 l2).get? c=some o:=λc o e=>w4 c o (Ad _ e)
 have w2:∀ c o,(zu1 s.heap l1).get? c=some o->(zu5 s.heap l1 l2).get? c=some o:=λc o e=>w3 c o (Ad _ e)
 have w1:∀ c o,s.heap.get? c=some o->(zu5 s.heap l1 l2).get? c=some o:=λc o e=>w2 c o (Ad _ e)
 have f4:=w5 _ _ e4
 have f3:=w4 _ _ e3
 have f2:=w3 _ _ e2
 have f1:=w2 _ _ e1
 refine (?_:_∧_)
 rw [n2,n3,n4] at e5
 rw [n1,n2] at f3
 rw [n3] at f4
 rw [n1] at f2
 rw [n4]
 exact ⟨⟨_,e5,rfl⟩,q _ ⟨e5,f3,⟨_,_,f4⟩,⟨_,f1,rfl,rfl⟩,⟨_,f2,rfl,rfl⟩⟩ w1⟩
noncomputable def YD (K:PySem.W.Frag)(a b:Addr):It:=
 ⟨λi H=>∃ xs ys x y,SqT K H a xs∧SqT K H b ys∧xs[i]? = some x∧ys[i]? = some y,
  λi H v H'=>∃ T x y,v=.ref T∧H T=none∧H'=upd H T (.tup [x,y])∧(∀ xs,SqT K H a xs->xs[i]? = some x)∧∀ ys,SqT K H b ys->ys[i]? = some y,
  λi H=>∃ xs ys,SqT K H a xs∧SqT K H b ys∧(xs.length≤i∨ys.length≤i)⟩
theorem Qx {P:Program}{w:World}{K:PySem.W.Frag}{elts:List Expr}{k:Nat}{pos:Pos}(z TI TO i1 i2 l1 l2:Addr)(D:ZipApart z TI TO i1 i2 l1 l2) :
  Turn P w K (.Tuple elts k pos) (YD K l1 l2) [z,TI,TO,i1,i2] z (zTu z TI TO i1 i2 l1 l2) where
 mem:=by simp
 obj:=λi h st b hb=>by
  obtain ⟨h1,h2,⟨_,_,h3⟩,⟨o4,h4,_,d4⟩,⟨o5,h5,_,d5⟩⟩:=st
  have hb':b=z∨b=TI∨b=TO∨b=i1∨b=i2:=by simpa using hb
  rcases hb' with e|e|e|e|e<;>subst e
  ·exact ⟨_,h1,λv e=>by cases e⟩
  ·exact ⟨_,h2,λv e=>by cases e⟩
  ·exact ⟨_,h3,λv e=>by cases e⟩
  ·exact ⟨_,h4,λv e=>by rw [d4] at e;cases e⟩
  ·exact ⟨_,h5,λv e=>by rw [d5] at e;cases e⟩
 keep:=λi h h' st kk=>by
  obtain ⟨h1,h2,⟨a,b,h3⟩,h4,h5⟩:=st
  exact ⟨kk z (by simp) _ h1,kk TI (by simp) _ h2,⟨a,b,kk TO (by simp) _ h3⟩,h4.at λo e=>kk i1 (by simp) o e,h5.at λo e=>kk i2 (by simp) o e⟩
 item:=by
  intro X hP hw hK hc i pins s σ H E I hf st hg
  subst hP hw hK
  obtain ⟨xs,ys,x,y,hq1,hq2,hx,hy⟩:=hg
  obtain ⟨its1,rv1,p1,hz1⟩:=I.tuple hq1
  obtain ⟨its2,rv2,p2,hz2⟩:=I.tuple hq2
  obtain ⟨u1,hu1,ru1⟩:=rv1.get hx
  obtain ⟨u2,hu2,ru2⟩:=rv2.get hy
  obtain ⟨h1,h2,⟨a,b,h3⟩,h4,h5⟩:=st
  have D':=D
  refine NI D ⟨h1,h2,⟨a,b,h3⟩,h4,h5⟩ (show s.heap.IsTuple l1 its1.toArray from p1) (show s.heap.IsTuple l2 its2.toArray from p2) (x:=u1) (y:=u2) (by simpa using hu1) (by simpa using hu2) λh' a1 a2 a3 a4 a5 hk=>?_
  have lt:∀ {c:Addr} {o:Obj},s.heap.get? c=some o->c≠s.heap.objs.size:=λe=>Au (Al e)
  refine ⟨_,rfl,wpAny_letOwnedTupleGo_zip a1 λh'' b1 sb=>?_⟩
  have nT:s.heap.objs.size≠z:=Ne.symm (lt h1)
  have kk:∀ b o,b∉[z,TI,TO,i1,i2]->s.heap.get? b=some o->h''.get? b=some o:=λb o hb e=>by
   simp only [An,A4,or_false,not_or] at hb
   exact (sb.2 b hb.1).trans (hk b o hb.1 hb.2.2.1 hb.2.2.2.1 hb.2.2.2.2 e)
  have I1:Inv X pins σ H { s with heap:=h'',toks:=s.toks }:=I.turnedL kk hf
  have hn:H s.heap.objs.size=none:=I.hok.fresh (Ag _)
  have fT:FT X pins H s.heap.objs.size:=I.fpOk (Ag _) hn
  have I2:Inv X pins σ (upd H s.heap.objs.size (.tup [x,y])) { s with heap:=h'',toks:=s.toks }:=I1.lay fT I.sz
   ⟨⟨by show 2≤sizeLine;decide,_,(sb.2 _ nT).trans a5,rfl⟩,[u1,u2],.cons ru1 (.cons ru2 .nil),⟨_,(sb.2 _ nT).trans a5,rfl,_,rfl⟩⟩
  refine ⟨.ref s.heap.objs.size,_,I2,rfl,⟨_,x,y,rfl,hn,rfl,λxs' hx'=>by rw [I.tuple_inj hx' hq1];exact hx,λys' hy'=>by rw [I.tuple_inj hy' hq2];exact hy⟩,?_,λb hb=>?_⟩
  ·exact ⟨b1,(sb.2 _ D.TIz).trans (hk _ _ D.TIz D.TITO D.TIi1 D.TIi2 h2),⟨_,_,(sb.2 _ D.TOz).trans a2⟩,a3.at λo e=>(sb.2 _ D.i1z).trans e,a4.at λo e=>(sb.2 _ D.i2z).trans e⟩
  ·have hb':b=z∨b=TI∨b=TO∨b=i1∨b=i2:=by simpa using hb
   have ne:b≠s.heap.objs.size:=by
    obtain ⟨o4,e4,_⟩:=h4
    obtain ⟨o5,e5,_⟩:=h5
    rcases hb' with e|e|e|e|e<;>subst e
    ·exact lt h1
    ·exact lt h2
    ·exact lt h3
    ·exact lt e4
    ·exact lt e5
   rw [CQ ne]
   exact (hf b hb).1
 done:=by
  intro X hP hw hK hc i pins s σ H E I hf st hg
  subst hP hw hK
  obtain ⟨xs,ys,hq1,hq2,hend⟩:=hg
  obtain ⟨its1,rv1,p1,hz1⟩:=I.tuple hq1
  obtain ⟨its2,rv2,p2,hz2⟩:=I.tuple hq2
  obtain ⟨h1,h2,⟨a,b,h3⟩,h4,h5⟩:=st
  have n1:=rv1.length
  have n2:=rv2.length
  refine NM (I.ok.hd hc) D ⟨h1,h2,⟨a,b,h3⟩,h4,h5⟩ (show s.heap.IsTuple l1 its1.toArray from p1) (show s.heap.IsTuple l2 its2.toArray from p2) (by
   rcases hend with e|e
   ·exact .inl (by simp;omega)
   ·exact .inr (by simp;omega)) λh' hk=>⟨rfl,I.turnedL (t':=s.toks) (λb o hb e=>?_) hf⟩
  simp only [An,A4,or_false,not_or] at hb
  exact hk b o hb.1 hb.2.2.1 hb.2.2.2.1 hb.2.2.2.2 e
 self:=λA i s Q E st h=>wpAny_pyIter_zip st.1 h
noncomputable def Yf (K:PySem.W.Frag)(ta:TA):TI:=fun σ H R=>ta σ H λvs H1=>∃ a b,vs=[.ref a,.ref b]∧(∃ xs,SqT K H1 a xs)∧(∃ ys,SqT K H1 b ys)∧R (YD K a b) H1
theorem Uu {X:Cx}{a b:Expr}{ta:TA}{p pos:Pos}{elts:List Expr}{k:Nat}{tp:Pos}(hg:Gl X "zip")(hm:X.mg "zip"=none)(hz:bootBuiltins "zip"=some (.type "zip"))(ha:PA X [a,b] ta)(hs:starEach [a,b] X.env=[(false,eval a X.env),(false,eval b X.env)]:=by rfl)(hs2:starEach [b] X.env=[(false,eval b X.env)]:=by rfl) :
  PI X (.Tuple elts k tp) (.Call (.Name "zip" p) [a,b] [] pos) (Yf X.K ta):=by
 intro pins s σ H R I h
 refine Call_ (IF I hg hm hz (Cd (thn (ha pos pins s σ H _ I h) λus s1 ⟨vs,H1,I1,r1,q1⟩=>?_) (by rw [hs,hs2]) (by rw [hs2];rfl)))
 obtain ⟨a1,a2,e,⟨xs,hx⟩,⟨ys,hy⟩,q⟩:=q1
 subst e
 obtain ⟨u1,u2,rfl,ra,rb⟩:=vals2 r1
 cases ra
 cases rb
 obtain ⟨its1,rv1,p1,_⟩:=I1.tuple hx
 obtain ⟨its2,rv2,p2,_⟩:=I1.tuple hy
 have lt1:a1<s1.heap.objs.size:=by obtain ⟨o,e,_⟩:=p1;exact Al e
 have lt2:a2<s1.heap.objs.size:=by obtain ⟨o,e,_⟩:=p2;exact Al e
 refine UG (show s1.heap.IsTuple a1 its1.toArray from p1) (show s1.heap.IsTuple a2 its2.toArray from p2) λh' zt hk=>?_
 refine wpAny_pyIter_zip zt.1 ?_
 refine ⟨s1.heap.objs.size+4,[s1.heap.objs.size+4,s1.heap.objs.size+2,s1.heap.objs.size+3,s1.heap.objs.size,s1.heap.objs.size+1],_,_,H1,rfl,I1.kept (t':=s1.toks) λb o e=>hk b o e,
  Qx _ _ _ _ _ a1 a2 ?_,zt,λb hb=>?_,q⟩
 ·exact Mf _ _ _ lt1 lt2
 ·have hle:s1.heap.objs.size≤b:=by
   have hb':b=s1.heap.objs.size+4∨b=s1.heap.objs.size+2∨b=s1.heap.objs.size+3∨b=s1.heap.objs.size∨b=s1.heap.objs.size+1:=by simpa using hb
   rcases hb' with rfl|rfl|rfl|rfl|rfl<;>simp
  exact I1.fpOk hle (I1.hok.fresh hle)
section
variable {X:Cx} {K:Zc} {th:List Addr} {mu:Sto} {H:Hp}
noncomputable def P4 (ds:List D):Option (List D×List D):=match ds with
 | [.tup xs,.tup ys]=>some (xs,ys)
 | _=>none
theorem QQ {ds:List D}{p:List D×List D}(h:P4 ds=some p):ds=[.tup p.1,.tup p.2]:=by
 unfold P4 at h
 split at h
 ·cases h;rfl
 ·cases h
noncomputable def W5 (a:Exs):Ix:=λro mu=>bM (a ro mu) λds m1=>(P4 ds).map λp=>((DE p.1 p.2,none),m1)
theorem S5 {a b:Expr}{m:Exs}{p pos:Pos}{elts:List Expr}{k:Nat}{tp:Pos}(hm:X.mg "zip"=none)(ha:SVA X [a,b] m)(hg:Gl X "zip":=by rfl)(hs:starEach [a,b] X.env=[(false,eval a X.env),(false,eval b X.env)]:=by rfl)(hs2:starEach [b] X.env=[(false,eval b X.env)]:=by rfl) :
  SVI X (.Tuple elts k tp) (.Call (.Name "zip" p) [a,b] [] pos) (W5 m):=⟨PI.weak (Uu hg hm PyProof.Rows.boot_zip ha.1 hs hs2) λst H R h=>by
 obtain ⟨th,mu,ro,so,en,t⟩:=h
 refine ⟨th,mu,ro,so,en,t.bind.mono λds th1 mu1 H1 e1 s1 t1 vs rvs=>?_⟩
 cases q:P4 ds with
 | none=>rw [q] at t1;exact t1.no.elim
 | some pr =>
  rw [q] at t1
  rw [QQ q] at rvs
  obtain ⟨xs,ys⟩:=pr
  obtain ⟨x,y,rfl,rx,ry⟩:=Gb rvs
  unfold Rep at rx ry
  obtain ⟨a1,us,rfl,h1,l1,z1⟩:=rx
  obtain ⟨a2,ws,rfl,h2,l2,z2⟩:=ry
  refine ⟨a1,a2,rfl,⟨us,h1⟩,⟨ws,h2⟩,t1.ret s1 _ ⟨?_,λth' mu' H' e s' go i d ed=>?_,λth' mu' H' e s' go=>?_⟩⟩
  ·show (DE xs ys).length≤sizeLine
   unfold DE
   rw [Ah,List.length_zip]
   exact AJ (Nat.min_le_left _ _) z1
  ·have g1:=e.sqT s1.out h1
   have g2:=e.sqT s1.out h2
   have ed':(DE xs ys)[i]? = some d:=ed
   unfold DE at ed'
   rw [Ap] at ed'
   cases q3:(xs.zip ys)[i]? with
   | none=>rw [q3] at ed';cases ed'
   | some pq =>
    rw [q3] at ed'
    have hd:D.tup [pq.1,pq.2]=d:=by simpa using ed'
    subst hd
    obtain ⟨hx,hy⟩:=BJ.mp q3
    obtain ⟨v1,ev1,rv1⟩:=(l1.ext e s1.out).get hx
    obtain ⟨v2,ev2,rv2⟩:=(l2.ext e s1.out).get hy
    refine ⟨⟨us,ws,v1,v2,g1,g2,ev1,ev2⟩,λv H2 y=>?_⟩
    obtain ⟨T,x',y',rfl,hT,rfl,f1,f2⟩:=y
    have ex:=f1 us g1
    have ey:=f2 ws g2
    rw [ev1] at ex
    rw [ev2] at ey
    cases ex
    cases ey
    exact ⟨.new hT _,s'.new hT _,Rep.newTup s' hT (.cons rv1 (.cons rv2 .nil)) (by show 2≤sizeLine;decide)⟩
  ·have g1:=e.sqT s1.out h1
   have g2:=e.sqT s1.out h2
   refine ⟨us,ws,g1,g2,?_⟩
   show us.length≤(DE xs ys).length∨ws.length≤(DE xs ys).length
   unfold DE
   rw [Ah,List.length_zip,l1.len,l2.len]
   dsimp only
   omega⟩
noncomputable def orI (m m':Ix):Ix:=λro mu=>match m ro mu with|some r=>some r|none=>m' ro mu
theorem SVI.or {tg e:Expr}{m m':Ix}(h:SVI X tg e m)(h':SVI X tg e m'):SVI X tg e (orI m m'):=⟨λpins s st H R I q=>by
 obtain ⟨th,mu,ro,so,en,t⟩:=q
 unfold orI at t
 cases c:m ro mu with
 | some p =>
  refine h.r pins s st H R I ⟨th,mu,ro,so,en,?_⟩
  rw [c];simpa only [c] using t
 | none =>
  refine h'.r pins s st H R I ⟨th,mu,ro,so,en,?_⟩
  simpa only [c] using t⟩
noncomputable def Hs (a:Exs):Ix:=orI (iZp a) (W5 a)
theorem Ft {a b:Expr}{m:Exs}{p pos:Pos}{elts:List Expr}{k:Nat}{tp:Pos}(hm:X.mg "zip"=none)(ha:SVA X [a,b] m)(hg:Gl X "zip":=by rfl)(hs:starEach [a,b] X.env=[(false,eval a X.env),(false,eval b X.env)]:=by rfl)(hs2:starEach [b] X.env=[(false,eval b X.env)]:=by rfl) :
  SVI X (.Tuple elts k tp) (.Call (.Name "zip" p) [a,b] [] pos) (Hs m):=SVI.or (Vc hm ha hg hs hs2) (S5 hm ha hg hs hs2)
end
mutual
noncomputable def DK (n:Nat):D->Bool
 | .ref k=>decide (k<n)
 | .tup ds=>Fe n ds
 | .lst ds=>Fe n ds
 | .dct ks ds=>Fe n ks&&Fe n ds
 | .set ds=>Fe n ds
 | _=>true
noncomputable def Fe (n:Nat):List D->Bool
 | []=>true
 | d::ds=>DK n d&&Fe n ds
end
noncomputable def Mo (n:Nat):MO->Bool
 | .lst ds=>Fe n ds
 | .dct ks ds=>Fe n ks&&Fe n ds
noncomputable def Ju (g:D->Option D):List D->Option (List D)
 | []=>some []
 | d::ds=>match g d,Ju g ds with
  | some d',some ds'=>some (d'::ds')
  | _,_=>none
noncomputable def frz (n:Nat)(mu:Sto):Nat->D->Option D
 | 0,d=>if DK n d=true then some d else none
 | f+1,d=>if DK n d=true then some d else match d with
  | .ref k=>match mu[k]? with
   | some (.lst ds)=>(Ju (frz n mu f) ds).map .lst
   | some (.dct ks ds)=>if Fe n ks=true then (Ju (frz n mu f) ds).map (.dct ks) else none
   | none=>none
  | .tup ds=>(Ju (frz n mu f) ds).map .tup
  | .lst ds=>(Ju (frz n mu f) ds).map .lst
  | _=>none
noncomputable def LZ (mu m1:Sto)(d:D):Rs D:=match frz mu.length m1 3 d with
 | some d'=>if (m1.take mu.length).all (Mo mu.length)=true then some (d',m1.take mu.length) else none
 | none=>none
noncomputable def fnG (n:Nat)(m:Sx):Fn:=λds mu=>bM (m (ds.map some++List.replicate (n-ds.length) none) mu) λp m1=>match p.1 with
 | .rt d=>LZ mu m1 d
 | .nx=>LZ mu m1 .non
 | _=>none
section
variable {K:Zc} {th th1 more:List Addr} {H:Hp} {mu:Sto}
mutual
theorem LP (pre:th1=th++more):∀ {d:D} {v:V},DK th.length d=true->Rep K th1 H d v->Rep K th H d v
 | .non,_,_,h=>h
 | .bl _,_,_,h=>h
 | .int _,_,_,h=>h
 | .str _,_,_,h=>h
 | .tup ds,_,l,h=>by
  unfold DK at l
  unfold Rep at h ⊢
  obtain ⟨a,vs,q,h1,h2,z⟩:=h
  exact ⟨a,vs,q,h1,Ej pre l h2,z⟩
 | .lst ds,_,l,h=>by
  unfold DK at l
  unfold Rep at h ⊢
  obtain ⟨a,vs,q,h1,h2,z⟩:=h
  exact ⟨a,vs,q,h1.imp (λw=>⟨λz=>w.1 (by rw [pre];exact AX _ z),w.2⟩) id,Ej pre l h2,z⟩
 | .dct ks ds,_,l,h=>by
  unfold DK at l
  rw [Ac] at l
  unfold Rep at h ⊢
  obtain ⟨a,xs,q,n,h1,h2,h3,h4,h5⟩:=h
  exact ⟨a,xs,q,λz=>n (by rw [pre];exact AX _ z),h1,h2,Ej pre l.1 h3,Ej pre l.2 h4,h5⟩
 | .set ds,_,l,h=>by
  unfold DK at l
  unfold Rep at h ⊢
  obtain ⟨a,us,vs,q,n,h1,h2,h3,h4⟩:=h
  exact ⟨a,us,vs,q,λz=>n (by rw [pre];exact AX _ z),h1,h2,Ej pre l h3,h4⟩
 | .ref k,_,l,h=>by
  unfold DK at l
  rw [Af] at l
  unfold Rep at h ⊢
  obtain ⟨a,q,h1⟩:=h
  rw [pre,Ay l] at h1
  exact ⟨a,q,h1⟩
theorem Ej (pre:th1=th++more):∀ {ds:List D} {vs:List V},Fe th.length ds=true->RepL K th1 H ds vs->RepL K th H ds vs
 | [],_,_,h=>by rw [h.inv0];exact .nil
 | d::ds,_,l,h=>by
  unfold Fe at l
  rw [Ac] at l
  obtain ⟨v,r,rfl,h1,h2⟩:=h.inv
  exact .cons (LP pre l.1 h1) (Ej pre l.2 h2)
end
theorem GX {g:D->Option D}(hg:∀ d d' v,g d=some d'->Rep K th1 H d v->Rep K th H d' v):∀ {ds ds':List D} {vs:List V},Ju g ds=some ds'->RepL K th1 H ds vs->RepL K th H ds' vs∧ds'.length=ds.length
 | [],ds',vs,e,h=>by cases e;rw [h.inv0];exact ⟨.nil,rfl⟩
 | d::ds,ds',vs,e,h=>by
  obtain ⟨v,r,rfl,h1,h2⟩:=h.inv
  unfold Ju at e
  split at e
  ·rename_i d2 ds2 e1 e2
   cases e
   obtain ⟨a,b⟩:=GX hg e2 h2
   exact ⟨.cons (hg _ _ _ e1 h1) a,by simp [b]⟩
  ·cases e
theorem Og (so:StoOk K th1 mu H)(pre:th1=th++more):∀ (f:Nat) (d d':D) (v:V),frz th.length mu f d=some d'->Rep K th1 H d v->Rep K th H d' v
 | 0,d,d',v,e,h=>by
  unfold frz at e
  split at e
  ·rename_i c;cases e;exact LP pre c h
  ·cases e
 | f+1,d,d',v,e,h=>by
  have ih:=Og so pre f
  unfold frz at e
  split at e
  ·rename_i c;cases e;exact LP pre c h
  ·rename_i c
   have kp:∀ {k:Nat} {a:Addr},¬ k<th.length->th1[k]? = some a->a∉th:=λ{k a} hk ha z=>by
    obtain ⟨i,hi,ei⟩:=List.mem_iff_getElem.mp z
    have:th1[i]? = some a:=by rw [pre,Ay hi,Ak hi,ei]
    have:=VI so.nd this ha
    omega
   split at e
   ·rename_i k
    have hk:¬ k<th.length:=by unfold DK at c;simpa using c
    unfold Rep at h
    obtain ⟨a,rfl,ha⟩:=h
    split at e
    ·rename_i ds em
     cases q:Ju (frz th.length mu f) ds with
     | none=>rw [q] at e;cases e
     | some ds' =>
      rw [q] at e
      cases e
      obtain ⟨vs,h1,h2,h3⟩:=so.at' k a _ ha em
      obtain ⟨r1,r2⟩:=GX ih q h2
      unfold Rep
      exact ⟨a,vs,rfl,.inl ⟨kp hk ha,.inl h1⟩,r1,by rw [r2];exact h3⟩
    ·rename_i ks ds em
     split at e
     ·rename_i lk
      cases q:Ju (frz th.length mu f) ds with
      | none=>rw [q] at e;cases e
      | some ds' =>
       rw [q] at e
       cases e
       obtain ⟨xs,h1,h2,h3,h4,h5⟩:=so.at' k a _ ha em
       obtain ⟨r1,r2⟩:=GX ih q h4
       unfold Rep
       exact ⟨a,xs,rfl,kp hk ha,h1,h2,Ej pre lk h3,r1,h5⟩
     ·cases e
    ·cases e
   ·rename_i ds
    cases q:Ju (frz th.length mu f) ds with
    | none=>rw [q] at e;cases e
    | some ds' =>
     rw [q] at e
     cases e
     unfold Rep at h ⊢
     obtain ⟨a,vs,rfl,h1,h2,h3⟩:=h
     obtain ⟨r1,r2⟩:=GX ih q h2
     exact ⟨a,vs,rfl,h1,r1,by rw [r2];exact h3⟩
   ·rename_i ds
    cases q:Ju (frz th.length mu f) ds with
    | none=>rw [q] at e;cases e
    | some ds' =>
     rw [q] at e
     cases e
     unfold Rep at h ⊢
     obtain ⟨a,vs,rfl,h1,h2,h3⟩:=h
     obtain ⟨r1,r2⟩:=GX ih q h2
     exact ⟨a,vs,rfl,h1.imp (λw=>⟨λz=>w.1 (by rw [pre];exact AX _ z),w.2⟩) id,r1,by rw [r2];exact h3⟩
   ·cases e
theorem U3 (so:StoOk K th1 mu H)(pre:th1=th++more)(hl:(mu.take th.length).all (Mo th.length)=true):StoOk K th (mu.take th.length) H:=by
 have len:th.length≤mu.length:=by rw [← so.len,pre,As];omega
 refine ⟨by rw [AG];omega,?_,λk a o e1 e2=>?_⟩
 ·have:=so.nd
  rw [pre] at this
  exact (BY.mp this).1
 ·have hk:=(Ae.mp e1).1
  rw [Bg hk] at e2
  have q:=so.at' k a o (by rw [pre,Ay hk];exact e1) e2
  have lo:=Aw.mp hl o (Am (by rw [Bg hk];exact e2))
  cases o with
  | lst ds=>obtain ⟨vs,q1,q2,z⟩:=q;exact ⟨vs,q1,Ej pre lo q2,z⟩
  | dct ks ds =>
   unfold Mo at lo
   rw [Ac] at lo
   obtain ⟨xs,q1,q2,q3,q4,z⟩:=q
   exact ⟨xs,q1,q2,Ej pre lo.1 q3,Ej pre lo.2 q4,z⟩
end
theorem RZ {P:Program}{w:World}{K:PySem.W.Frag}{mg:Str->Option Value}{base:Heap}{x qual:Str}{st:Stmt}{f:Addr}{fd:FuncData}{N ps:List Str}{k:Nat}{m:Sx}(n j:Nat)(F:Fun K x qual st f fd)(S:CN N ps (Cr st))(hn:N.length=n)(hj:ps.length=j)
  (hbody:∀ (cdv:Value) (A:Around) (outer:List Env) (s:Shared) (H:Hp) (E:XK),Room k (A.deeper (envOfC qual (Cr st) s.heap.objs.size f cdv)) ->
   SVB (Kn CX0 P w K mg base N qual (Cr st) f cdv A outer s H E).nox (Ek st) m):D3 P w K mg base CX0 (k+1) f fd ps (spF ⟨K,P,w⟩ (fnG n m) j):=by
 subst hn hj
 refine F.ok S (λvs H Q E h=>?_) (λcdv A outer s H vs Q E hr h=>?_)
 ·obtain ⟨th,mu,ds,_,r,hl,_⟩:=h
  rw [r.len]
  exact hl
 ·obtain ⟨th,mu,ds,so,r,hl,t⟩:=h
  refine ⟨_,(hbody cdv A outer s H E hr).r,?_⟩
  obtain ⟨d0,mu0,e0,q0⟩:=id t
  obtain ⟨p,m1,e1,e2⟩:=Gh e0
  refine ⟨th,mu,_,so,IV r,p,m1,e1,λth1 H1 x1 s1 st' en'=>?_⟩
  obtain ⟨fl,ro'⟩:=p
  obtain ⟨more,pre⟩:=x1.pre
  have done:∀ (d:D) (v:V),LZ mu m1 d=some (d0,mu0)->Rep ⟨K,P,w⟩ th1 H1 d v->Q v H1:=λd v ec rv=>by
   unfold LZ at ec
   split at ec
   ·rename_i d' ef
    split at ec
    ·rename_i hl
     cases ec
     rw [← so.len] at ef hl q0
     exact q0 th H1 ⟨⟨[],by simp⟩,λ_ _ n _=>n,x1.keep⟩ (U3 s1 pre hl) v (Og s1 pre 3 d d0 v ef rv)
    ·cases ec
   ·cases ec
  cases fl with
  | rt d=>exact λv rv=>done d v e2 rv
  | nx=>exact done .non .non e2 (by unfold Rep;rfl)
  | bk=>cases e2
  | ct=>cases e2
noncomputable def DAt (h:Heap)(d:Addr)(es:Array DictEntry)(ep:Nat):Prop:=∃ o,h.get? d=some o∧o.data=.dict es ep
noncomputable def DIt (T:String)(d I:Addr)(es:Array DictEntry)(ep i:Nat)(h:Heap):Prop:=DAt h d es ep∧∃ o,h.get? I=some o∧o.cls=.type T∧o.data=.fields #[.ref d,.int i 0,.int es.size 0,.int ep 0]
section
variable {prog:Program} {w:World} {A:Around} {E:Value->Shared->Prop} {s:Shared}
theorem DIt.ty {T:String}{d I:Addr}{es:Array DictEntry}{ep i:Nat}(g:DIt T d I es ep i s.heap):s.TypeIs (.ref I) T:=let ⟨_,o,a,b,_⟩:=g;⟨o,a,b⟩
theorem DIt.step {T:String}{d I:Addr}{es:Array DictEntry}{ep i:Nat}{h:Heap}(ne:d≠I)(g:DIt T d I es ep i h):DIt T d I es ep (i+1) (h.update I (Obj.mapFields (·.setIfInBounds 1 (rawInt ((i:Int)+1))))):=by
 obtain ⟨⟨od,d1,d2⟩,o,a,b,c⟩:=g
 exact ⟨⟨od,((AA ..).2 d ne).trans d1,d2⟩,_,AN _ a (Obj.isFreed_of_fields (Obj.data_mapFields c _)),(Obj.cls_mapFields ..).trans b,by rw [Obj.data_mapFields c];simp [rawInt]⟩
theorem QB {d I:Addr}{es:Array DictEntry}{ep i:Nat}{Q:Option Value->Shared->Prop}(ne:d≠I)(g:DIt "dict_keyiterator" d I es ep i s.heap)(hi:i<es.size)
  (q:∀ h',DIt "dict_keyiterator" d I es ep (i+1) h'->Heap.SameBut I s.heap h'->Q (some es[i].key) { s with heap:=h' }):wpAny (model prog w) A (pyNext (.ref I)) Q E s:=by
 obtain ⟨⟨od,d1,d2⟩,o,a,b,c⟩:=id g
 unfold pyNext
 refine Aa (wpAny_attempt (AQ (name:=Str.ofString "__next__") g.ty Bz (AL Bz g.ty F.entry_dict_keyiterator_next ?_ (F.args_dict_keyiterator_next_1 _))))
 refine Aa (Ab (Aa (Aa ?_)))
 refine Aa (B6 g.ty (Ab (Aa (wpAny_fieldsOf a c ?_))))
 simp only [show Builtin.Dict_items.ownsTuple "dict_keyiterator"=false by decide,Az,A7]
 refine (?_:wpAny _ _ (if (Value.ref d==Value.none)=true then _ else _) _ _ s)
 rw [if_neg (show ¬ ((Value.ref d==Value.none)=true) from AE)]
 refine Aa (Ab (Aa (BD d1 d2 ?_)))
 rw [if_neg (by simp)]
 refine Aa (Ab (Aa (Bx d1 d2 ?_)))
 rw [if_neg (by simp)]
 refine Ab ?_
 simp only [show ¬ ((i:Int)<0) by omega,A7,Int.toNat_natCast,Aq hi]
 refine Aa (Aa (B6 g.ty (Ab ?_)))
 refine Aa (wpAny_isOneOf_keyiter g.ty ?_)
 refine (?_:wpAny _ _ (setField (.ref I) 1 (rawInt ((i:Int)+1)) >>= _) _ _ s)
 have g':=g.step ne
 refine Aa (Bi a c (by simp) (Aa (AI ?_)))
 generalize hu:s.heap.update I (Obj.mapFields (·.setIfInBounds 1 (rawInt ((i:Int)+1))))=h2 at g' ⊢
 have sb:Heap.SameBut I s.heap h2:=by rw [← hu];exact AA ..
 have t2:=DIt.ty (s:={ s with heap:=h2 }) g'
 refine Aa (wpAny_isOneOf_keyiter (s:={ s with heap:=h2 }) t2 ?_)
 refine (?_:wpAny _ _ (pure es[i].key) _ _ _)
 exact Ab (Ab ⟨_,rfl,Ab (q _ g' sb)⟩)
theorem QF {d I:Addr}{es:Array DictEntry}{ep:Nat}{Q:Option Value->Shared->Prop}(hh:A.handled=none)(g:DIt "dict_keyiterator" d I es ep es.size s.heap)
  (q:∀ h',(∀ c o,c≠I->s.heap.get? c=some o->h'.get? c=some o)->Q none { s with heap:=h' }):wpAny (model prog w) A (pyNext (.ref I)) Q E s:=by
 obtain ⟨⟨od,d1,d2⟩,o,a,b,c⟩:=id g
 unfold pyNext
 refine Aa (wpAny_attempt (AQ (name:=Str.ofString "__next__") g.ty Bz (AL Bz g.ty F.entry_dict_keyiterator_next ?_ (F.args_dict_keyiterator_next_1 _))))
 refine Aa (Ab (Aa (Aa ?_)))
 refine Aa (B6 g.ty (Ab (Aa (wpAny_fieldsOf a c ?_))))
 simp only [show Builtin.Dict_items.ownsTuple "dict_keyiterator"=false by decide,Az,A7]
 refine (?_:wpAny _ _ (if (Value.ref d==Value.none)=true then _ else _) _ _ s)
 rw [if_neg (show ¬ ((Value.ref d==Value.none)=true) from AE)]
 refine Aa (Ab (Aa (BD d1 d2 ?_)))
 rw [if_neg (by simp)]
 refine Aa (Ab (Aa (Bx d1 d2 ?_)))
 rw [if_neg (by simp)]
 refine Ab ?_
 simp only [show ¬ ((es.size:Int)<0) by omega,A7,Int.toNat_natCast,Bj (Ag es.size)]
 refine Aa (Aa (B6 g.ty (Ab ?_)))
 refine (?_:wpAny _ _ (setField (.ref I) 0 .none >>= _) _ _ s)
 refine Aa (Bi a c (by simp) ?_)
 refine Fm (I:=I) hh λh' e z1 z2=>?_
 obtain ⟨oe,he,hc⟩:=z2
 exact Aa (B3 (T:="StopIteration") (b:=true) ⟨oe,he,hc⟩ isSubtype_stop (Ab (q h' λc o hc z=>z1 c o (((AA ..).2 c hc).trans z))))
theorem K8 (hh:A.handled=none){d I:Addr}{es:Array DictEntry}{ep:Nat}(ne:d≠I):Walks prog w A I [I,d] [I] es.size (λi v=>∃ e,es[i]? = some e∧e.key=v) (λi h=>DIt "dict_keyiterator" d I es ep i h) where
 sub:=λb hb=>by rw [Ao.mp hb];simp
 frame:=λ_ h1 h2 st hk=>let ⟨⟨od,d1,d2⟩,o,a,b⟩:=st;⟨⟨od,hk d (by simp) _ d1,d2⟩,o,hk I (by simp) _ a,b⟩
 item:=λk s R E hi st hQ=>QB ne st hi λh' g' sb=>hQ _ h' s.toks ⟨_,Aq hi,rfl⟩ g' λb o hb z=>(sb.2 b (by simpa using hb)).trans z
 done:=λs R E st hQ=>QF hh st λh' k=>hQ h' s.toks λb o hb z=>k b o (by simpa using hb) z
 self:=λ_ s R E st hQ=>by
  refine wpAny_pyIter_slot st.ty F.slot_dict_keyiterator_iter (AL F.slot_dict_keyiterator_iter st.ty F.entry_dict_keyiterator_iter ?_ (F.args_dict_keyiterator_iter_1 _))
  refine (?_:wpAny _ _ (ret (.ref I)) _ _ s)
  exact Ab ⟨_,rfl,"dict_keyiterator",_,st.ty,Bz.lookup,hQ⟩
theorem RD {d I:Addr}{es:Array DictEntry}{ep i:Nat}{Q:Option Value->Shared->Prop}(ne:d≠I)(g:DIt "dict_valueiterator" d I es ep i s.heap)(hi:i<es.size)
  (q:∀ h',DIt "dict_valueiterator" d I es ep (i+1) h'->Heap.SameBut I s.heap h'->Q (some es[i].val) { s with heap:=h' }):wpAny (model prog w) A (pyNext (.ref I)) Q E s:=by
 obtain ⟨⟨od,d1,d2⟩,o,a,b,c⟩:=id g
 unfold pyNext
 refine Aa (wpAny_attempt (AQ (name:=Str.ofString "__next__") g.ty Bq (AL Bq g.ty F.entry_dict_valueiterator_next ?_ (F.args_dict_valueiterator_next_1 _))))
 refine Aa (Ab (Aa (Aa ?_)))
 refine Aa (B7 g.ty (Ab (Aa (wpAny_fieldsOf a c ?_))))
 simp only [show Builtin.Dict_items.ownsTuple "dict_valueiterator"=false by decide,Az,A7]
 refine (?_:wpAny _ _ (if (Value.ref d==Value.none)=true then _ else _) _ _ s)
 rw [if_neg (show ¬ ((Value.ref d==Value.none)=true) from AE)]
 refine Aa (Ab (Aa (BD d1 d2 ?_)))
 rw [if_neg (by simp)]
 refine Aa (Ab (Aa (Bx d1 d2 ?_)))
 rw [if_neg (by simp)]
 refine Ab ?_
 simp only [show ¬ ((i:Int)<0) by omega,A7,Int.toNat_natCast,Aq hi]
 refine Aa (Aa (B7 g.ty (Ab ?_)))
 refine Aa (wpAny_isOneOf_valiter g.ty ?_)
 refine (?_:wpAny _ _ (setField (.ref I) 1 (rawInt ((i:Int)+1)) >>= _) _ _ s)
 have g':=g.step ne
 refine Aa (Bi a c (by simp) (Aa (AI ?_)))
 generalize hu:s.heap.update I (Obj.mapFields (·.setIfInBounds 1 (rawInt ((i:Int)+1))))=h2 at g' ⊢
 have sb:Heap.SameBut I s.heap h2:=by rw [← hu];exact AA ..
 have t2:=DIt.ty (s:={ s with heap:=h2 }) g'
 refine Aa (wpAny_isOneOf_valiter (s:={ s with heap:=h2 }) t2 ?_)
 refine Aa (wpAny_isOneOf_valiter (s:={ s with heap:=h2 }) t2 ?_)
 refine (?_:wpAny _ _ (pure es[i].val) _ _ _)
 exact Ab (Ab ⟨_,rfl,Ab (q _ g' sb)⟩)
theorem QG {d I:Addr}{es:Array DictEntry}{ep:Nat}{Q:Option Value->Shared->Prop}(hh:A.handled=none)(g:DIt "dict_valueiterator" d I es ep es.size s.heap)
  (q:∀ h',(∀ c o,c≠I->s.heap.get? c=some o->h'.get? c=some o)->Q none { s with heap:=h' }):wpAny (model prog w) A (pyNext (.ref I)) Q E s:=by
 obtain ⟨⟨od,d1,d2⟩,o,a,b,c⟩:=id g
 unfold pyNext
 refine Aa (wpAny_attempt (AQ (name:=Str.ofString "__next__") g.ty Bq (AL Bq g.ty F.entry_dict_valueiterator_next ?_ (F.args_dict_valueiterator_next_1 _))))
 refine Aa (Ab (Aa (Aa ?_)))
 refine Aa (B7 g.ty (Ab (Aa (wpAny_fieldsOf a c ?_))))
 simp only [show Builtin.Dict_items.ownsTuple "dict_valueiterator"=false by decide,Az,A7]
 refine (?_:wpAny _ _ (if (Value.ref d==Value.none)=true then _ else _) _ _ s)
 rw [if_neg (show ¬ ((Value.ref d==Value.none)=true) from AE)]
 refine Aa (Ab (Aa (BD d1 d2 ?_)))
 rw [if_neg (by simp)]
 refine Aa (Ab (Aa (Bx d1 d2 ?_)))
 rw [if_neg (by simp)]
 refine Ab ?_
 simp only [show ¬ ((es.size:Int)<0) by omega,A7,Int.toNat_natCast,Bj (Ag es.size)]
 refine Aa (Aa (B7 g.ty (Ab ?_)))
 refine (?_:wpAny _ _ (setField (.ref I) 0 .none >>= _) _ _ s)
 refine Aa (Bi a c (by simp) ?_)
 refine Fm (I:=I) hh λh' e z1 z2=>?_
 obtain ⟨oe,he,hc⟩:=z2
 exact Aa (B3 (T:="StopIteration") (b:=true) ⟨oe,he,hc⟩ isSubtype_stop (Ab (q h' λc o hc z=>z1 c o (((AA ..).2 c hc).trans z))))
theorem KD (hh:A.handled=none){d I:Addr}{es:Array DictEntry}{ep:Nat}(ne:d≠I):Walks prog w A I [I,d] [I] es.size (λi v=>∃ e,es[i]? = some e∧e.val=v) (λi h=>DIt "dict_valueiterator" d I es ep i h) where
 sub:=λb hb=>by rw [Ao.mp hb];simp
 frame:=λ_ h1 h2 st hk=>let ⟨⟨od,d1,d2⟩,o,a,b⟩:=st;⟨⟨od,hk d (by simp) _ d1,d2⟩,o,hk I (by simp) _ a,b⟩
 item:=λk s R E hi st hQ=>RD ne st hi λh' g' sb=>hQ _ h' s.toks ⟨_,Aq hi,rfl⟩ g' λb o hb z=>(sb.2 b (by simpa using hb)).trans z
 done:=λs R E st hQ=>QG hh st λh' k=>hQ h' s.toks λb o hb z=>k b o (by simpa using hb) z
 self:=λ_ s R E st hQ=>by
  refine wpAny_pyIter_slot st.ty F.slot_dict_valueiterator_iter (AL F.slot_dict_valueiterator_iter st.ty entry_dict_valueiterator_iter ?_ (F.args_dict_valueiterator_iter_1 _))
  refine (?_:wpAny _ _ (ret (.ref I)) _ _ s)
  exact Ab ⟨_,rfl,"dict_valueiterator",_,st.ty,Bq.lookup,hQ⟩
theorem Ny {d:Addr}{o:Obj}{es:Array DictEntry}{ep:Nat}{Q:Value->Shared->Prop}(ns:(d==sysModules)=false)(d1:s.heap.get? d=some o)(dc:o.cls=.type "dict")(d2:o.data=.dict es ep)
  (q:∀ h',h'.objs.size=s.heap.objs.size+1->(∀ b o,s.heap.get? b=some o->h'.get? b=some o)->DIt "dict_keyiterator" d s.heap.objs.size es ep 0 h'->Q (.ref s.heap.objs.size) { s with heap:=h' }):wpAny (model prog w) A (pyIter (.ref d)) Q E s:=by
 have hT:s.TypeIs (.ref d) "dict":=⟨o,d1,dc⟩
 refine wpAny_pyIter_slot hT F.slot_dict_iter (AL F.slot_dict_iter hT F.entry_dict_iter ?_ (F.args_dict_iter_1 _))
 unfold Builtin.«dict.__iter__» Builtin.Dict.dictSlotNone
 refine Aa (Aa (wpAny_notOrdered_dict hT ?_))
 refine (?_:wpAny _ _ (pure (Value.ref d)) _ _ s)
 refine Ab (?_:wpAny _ _ (Builtin.Dict.showsAll d >>= _) _ _ s)
 unfold Builtin.Dict.showsAll
 rw [if_neg (by rw [ns];exact AE)]
 refine Aa (Ab (Aa (BD d1 d2 (Aa (Bx d1 d2 ?_)))))
 refine Aa (AR (Ab ⟨_,rfl,"dict_keyiterator",_,⟨_,Ai _ rfl,rfl⟩,Bz.lookup,?_⟩))
 exact q _ (Ba ..) (λb o e=>Ad _ e) ⟨⟨o,Ad _ d1,d2⟩,_,Ai _ rfl,rfl,rfl⟩
theorem NP {v d:Addr}{ov o:Obj}{es:Array DictEntry}{ep:Nat}{Q:Value->Shared->Prop}(v1:s.heap.get? v=some ov)(vc:ov.cls=.type "dict_values")(v2:ov.data=.fields #[.ref d])(d1:s.heap.get? d=some o)(d2:o.data=.dict es ep)
  (q:∀ h',h'.objs.size=s.heap.objs.size+1->(∀ b o,s.heap.get? b=some o->h'.get? b=some o)->DIt "dict_valueiterator" d s.heap.objs.size es ep 0 h'->Q (.ref s.heap.objs.size) { s with heap:=h' }):wpAny (model prog w) A (pyIter (.ref v)) Q E s:=by
 have hT:s.TypeIs (.ref v) "dict_values":=⟨ov,v1,vc⟩
 refine wpAny_pyIter_slot hT F.slot_dict_values_iter (AL F.slot_dict_values_iter hT F.entry_dict_values_iter ?_ (F.args_dict_values_iter_1 _))
 unfold Builtin.«dict_values.__iter__» Builtin.Dict_items.dictOf
 refine Aa (Ab (Aa (Aa (Bl v1 v2 (x:=.ref d) rfl (Ab ?_)))))
 (unfold Builtin.Dict_items.newIterator)
 refine Aa (Aa (BD d1 d2 (Aa (Bx d1 d2 ?_))))
 simp only [show Builtin.Dict_items.ownsTuple "dict_valueiterator"=false by decide,Az,A7]
 refine AR (Ab ⟨_,rfl,"dict_valueiterator",_,⟨_,Ai _ rfl,rfl⟩,Bq.lookup,?_⟩)
 exact q _ (Ba ..) (λb o e=>Ad _ e) ⟨⟨o,Ad _ d1,d2⟩,_,Ai _ rfl,rfl,rfl⟩
theorem NK {S:Addr}{ob:Obj}{es:Array DictEntry}{ep:Nat}{Q:List Value->Shared->Prop}(hh:A.handled=none)(hz:es.size≤sizeLine)(g1:s.heap.get? S=some ob)(gc:ob.cls=.type "dict")(ns:(S==sysModules)=false)(g2:DAt s.heap S es ep)
  (q:∀ h' tk,(∀ b o,s.heap.get? b=some o->h'.get? b=some o)->Q (es.toList.map (·.key)) { s with heap:=h',toks:=tk }):wpAny (model prog w) A (collect (.ref S)) Q E s:=by
 obtain ⟨od,d1,d2⟩:=g2
 have lS:S<s.heap.objs.size:=Al g1
 have ld:S<s.heap.objs.size:=Al d1
 have nS:s.heap.objs.size≠S:=BQ lS
 have nd:s.heap.objs.size≠S:=BQ ld
 unfold collect
 refine Aa (wpAny_runValue (Bc F.entry_proto_collect ?_))
 rw [A5 F.plain_proto_collect _]
 refine (?_:wpAny _ A.in1 (newList [] >>= λl=>again (.builtin "list.__iadd__" ⟨[l,.ref S],[]⟩)) _ _ s)
 refine Aa (AR (Ab ⟨BV F.plain_list_iadd _,Bc F.entry_list_iadd ?_⟩))
 rw [A5 F.plain_list_iadd _]
 refine (?_:wpAny _ A.in1 (Builtin.List.listExtendWith (.ref s.heap.objs.size) (.ref S) (.ref s.heap.objs.size)) _ _ _)
 (unfold Builtin.List.listExtendWith)
 have gS:(s.heap.push { cls:=.type "list",data:=.seq ([]:List Value).toArray }).get? S=some ob:=Ad _ g1
 have gd:(s.heap.push { cls:=.type "list",data:=.seq ([]:List Value).toArray }).get? S=some od:=Ad _ d1
 have gL:(s.heap.push { cls:=.type "list",data:=.seq ([]:List Value).toArray }).get? s.heap.objs.size=some { cls:=.type "list",data:=.seq ([]:List Value).toArray }:=Ai _ rfl
 generalize hP:s.heap.push { cls:=.type "list",data:=.seq ([]:List Value).toArray }=h1 at gS gL gd ⊢
 have k1:∀ b o,s.heap.get? b=some o->h1.get? b=some o:=λb o e=>by rw [← hP];exact Ad _ e
 have sz1:h1.objs.size=s.heap.objs.size+1:=by rw [← hP];exact Ba ..
 have ty:Shared.TypeIs { s with heap:=h1 } (.ref S) "dict":=⟨ob,gS,gc⟩
 refine Aa (BC ty ?_)
 have e1:Builtin.List.listSameRef (.ref s.heap.objs.size) (.ref S)=false:=by simp [Builtin.List.listSameRef,nS]
 simp only [e1,show (Value.type "dict"==Value.type "list")=false by decide,show (Value.type "dict"==Value.type "tuple")=false by decide,Bool.or_false,Az,A7]
 have lt1:S<h1.objs.size:=by rw [sz1];exact A0 ld
 refine Aa (Ny (s:={ s with heap:=h1 }) ns gd (by rw [g1] at d1;cases d1;exact gc) d2 λh2 e2 k2 st=>?_)
 have ty2:Shared.TypeIs { s with heap:=h2 } (.ref S) "dict":=⟨ob,k2 _ _ gS,gc⟩
 have nLI:s.heap.objs.size≠h1.objs.size:=by rw [sz1];exact Au (AV _)
 have ndI:S≠h1.objs.size:=Au lt1
 refine Aa (AI ?_)
 (unfold Builtin.List.listLengthHint)
 refine Aa (wpAny_specialOf ty2 F.slot_dict_len.lookup ?_)
 refine (?_:wpAny _ A.in1 (isInstance (Value.ref S) (.type "dict") >>= _) _ _ _)
 refine Aa (B3 (b:=true) ty2 (by rw [isSubtype_type];kernel_rfl) ?_)
 refine (?_:wpAny _ A.in1 (typeOf (Value.ref S) >>= _) _ _ _)
 refine Aa (BC ty2 (Ab ?_))
 have gL2:=k2 _ _ gL
 refine (?_:wpAny _ A.in1 (rule "list.extend.makes-room" >>= λ_=>Builtin.List.listTouch (.ref s.heap.objs.size) >>= λ_=>again (.builtin "list.extend.loop" ⟨[.ref s.heap.objs.size,.ref h1.objs.size,.ref s.heap.objs.size],[]⟩)) _ _ _)
 refine Aa (Bo (Aa ?_))
 refine (?_:wpAny _ A.in1 (updateSeq s.heap.objs.size (·.push .none) >>= λ_=>updateSeq s.heap.objs.size (·.pop)) _ _ _)
 refine Aa (wpAny_updateSeq gL2 rfl ?_)
 have gL3:=AN (Obj.mapSeq (·.push Value.none)) gL2 rfl
 refine wpAny_updateSeq gL3 rfl ?_
 have gL4:=AN (Obj.mapSeq (·.pop)) gL3 rfl
 have nL:s.heap.objs.size∉[h1.objs.size,S]:=by
  simp only [An,A4,or_false,not_or]
  exact ⟨nLI,nd⟩
 have oth:∀ b o,b≠s.heap.objs.size->h2.get? b=some o->((h2.update s.heap.objs.size (Obj.mapSeq (·.push Value.none))).update s.heap.objs.size (Obj.mapSeq (·.pop))).get? b=some o:=
  λb o hb e=>(Bt _ _ hb.symm).trans ((Bt _ _ hb.symm).trans e)
 have W:=(K8 (prog:=prog) (A:=A.in1) (w:=w) (es:=es) (ep:=ep) hh ndI).toS
 refine Ab ⟨BV F.plain_extend_loop _,codeAny_extend_loopS (A:=A) W hz _ nL _ es.size 0 _ _ _ rfl (AW _) ?_ gL4 (ItemsOf.nil _) λs' acc' c' hm hS' hacc=>?_⟩
 ·exact (K8 (prog:=prog) (A:=A.in1) (w:=w) (es:=es) (ep:=ep) hh ndI).frame 0 _ _ st λb hb o e=>oth b o (λz=>nL (z▸hb)) e
 refine (?_:wpAny _ A (load s.heap.objs.size >>= _) _ _ s')
 refine Aa (wpAny_load hS' ?_)
 obtain ⟨zh,zg,zd,zt,zo⟩:=s'
 have e4:zg=s.gens:=hm.gens
 have e5:zd=s.drawn:=hm.drawn
 have e6:zo=s.os:=hm.os
 subst e4 e5 e6
 have ac:acc'.toList=es.toList.map (·.key):=by
  refine Bs λi=>?_
  rw [Ap,Ax,Ax]
  by_cases hi:i<es.size
  ·have hi':i<acc'.size:=by rw [hacc.1];exact hi
   obtain ⟨e,x1,x2⟩:=hacc.2 i _ (Aq hi')
   rw [Aq hi',x1,← x2]
   rfl
  ·rw [Bj (by rw [hacc.1];omega),Bj (by omega)]
   rfl
 refine Ab ?_
 refine (?_:Q acc'.toList _)
 rw [ac]
 refine q zh zt λb o e=>?_
 have bl:=Al e
 refine hm.heap b o ?_ (oth b o (Au bl) (k2 _ _ (k1 _ _ e)))
 simp only [An,A4,or_false,not_or]
 exact ⟨Au bl,Au (show b<h1.objs.size by rw [sz1];exact A0 bl)⟩
theorem N3 {S:Addr}{ob:Obj}{d:Addr}{es:Array DictEntry}{ep:Nat}{Q:List Value->Shared->Prop}(hh:A.handled=none)(hz:es.size≤sizeLine)(g1:s.heap.get? S=some ob)(gc:ob.cls=.type "dict_values")(gf:ob.data=.fields #[.ref d])(g2:DAt s.heap d es ep)
  (q:∀ h' tk,(∀ b o,s.heap.get? b=some o->h'.get? b=some o)->Q (es.toList.map (·.val)) { s with heap:=h',toks:=tk }):wpAny (model prog w) A (collect (.ref S)) Q E s:=by
 obtain ⟨od,d1,d2⟩:=g2
 have lS:S<s.heap.objs.size:=Al g1
 have ld:d<s.heap.objs.size:=Al d1
 have nS:s.heap.objs.size≠S:=BQ lS
 have nd:s.heap.objs.size≠d:=BQ ld
 unfold collect
 refine Aa (wpAny_runValue (Bc F.entry_proto_collect ?_))
 rw [A5 F.plain_proto_collect _]
 refine (?_:wpAny _ A.in1 (newList [] >>= λl=>again (.builtin "list.__iadd__" ⟨[l,.ref S],[]⟩)) _ _ s)
 refine Aa (AR (Ab ⟨BV F.plain_list_iadd _,Bc F.entry_list_iadd ?_⟩))
 rw [A5 F.plain_list_iadd _]
 refine (?_:wpAny _ A.in1 (Builtin.List.listExtendWith (.ref s.heap.objs.size) (.ref S) (.ref s.heap.objs.size)) _ _ _)
 (unfold Builtin.List.listExtendWith)
 have gS:(s.heap.push { cls:=.type "list",data:=.seq ([]:List Value).toArray }).get? S=some ob:=Ad _ g1
 have gd:(s.heap.push { cls:=.type "list",data:=.seq ([]:List Value).toArray }).get? d=some od:=Ad _ d1
 have gL:(s.heap.push { cls:=.type "list",data:=.seq ([]:List Value).toArray }).get? s.heap.objs.size=some { cls:=.type "list",data:=.seq ([]:List Value).toArray }:=Ai _ rfl
 generalize hP:s.heap.push { cls:=.type "list",data:=.seq ([]:List Value).toArray }=h1 at gS gL gd ⊢
 have k1:∀ b o,s.heap.get? b=some o->h1.get? b=some o:=λb o e=>by rw [← hP];exact Ad _ e
 have sz1:h1.objs.size=s.heap.objs.size+1:=by rw [← hP];exact Ba ..
 have ty:Shared.TypeIs { s with heap:=h1 } (.ref S) "dict_values":=⟨ob,gS,gc⟩
 refine Aa (BC ty ?_)
 have e1:Builtin.List.listSameRef (.ref s.heap.objs.size) (.ref S)=false:=by simp [Builtin.List.listSameRef,nS]
 simp only [e1,show (Value.type "dict_values"==Value.type "list")=false by decide,show (Value.type "dict_values"==Value.type "tuple")=false by decide,Bool.or_false,Az,A7]
 have lt1:d<h1.objs.size:=by rw [sz1];exact A0 ld
 refine Aa (NP (s:={ s with heap:=h1 }) gS gc gf gd d2 λh2 e2 k2 st=>?_)
 have ty2:Shared.TypeIs { s with heap:=h2 } (.ref S) "dict_values":=⟨ob,k2 _ _ gS,gc⟩
 have nLI:s.heap.objs.size≠h1.objs.size:=by rw [sz1];exact Au (AV _)
 have ndI:d≠h1.objs.size:=Au lt1
 refine Aa (AI ?_)
 (unfold Builtin.List.listLengthHint)
 refine Aa (wpAny_specialOf ty2 F.slot_dict_values_len.lookup ?_)
 refine (?_:wpAny _ A.in1 (isInstance (Value.ref S) (.type "dict_values") >>= _) _ _ _)
 refine Aa (B3 (b:=true) ty2 (by rw [isSubtype_type];kernel_rfl) ?_)
 refine (?_:wpAny _ A.in1 (typeOf (Value.ref S) >>= _) _ _ _)
 refine Aa (BC ty2 (Ab ?_))
 have gL2:=k2 _ _ gL
 refine (?_:wpAny _ A.in1 (rule "list.extend.makes-room" >>= λ_=>Builtin.List.listTouch (.ref s.heap.objs.size) >>= λ_=>again (.builtin "list.extend.loop" ⟨[.ref s.heap.objs.size,.ref h1.objs.size,.ref s.heap.objs.size],[]⟩)) _ _ _)
 refine Aa (Bo (Aa ?_))
 refine (?_:wpAny _ A.in1 (updateSeq s.heap.objs.size (·.push .none) >>= λ_=>updateSeq s.heap.objs.size (·.pop)) _ _ _)
 refine Aa (wpAny_updateSeq gL2 rfl ?_)
 have gL3:=AN (Obj.mapSeq (·.push Value.none)) gL2 rfl
 refine wpAny_updateSeq gL3 rfl ?_
 have gL4:=AN (Obj.mapSeq (·.pop)) gL3 rfl
 have nL:s.heap.objs.size∉[h1.objs.size,d]:=by
  simp only [An,A4,or_false,not_or]
  exact ⟨nLI,nd⟩
 have oth:∀ b o,b≠s.heap.objs.size->h2.get? b=some o->((h2.update s.heap.objs.size (Obj.mapSeq (·.push Value.none))).update s.heap.objs.size (Obj.mapSeq (·.pop))).get? b=some o:=
  λb o hb e=>(Bt _ _ hb.symm).trans ((Bt _ _ hb.symm).trans e)
 have W:=(KD (prog:=prog) (A:=A.in1) (w:=w) (es:=es) (ep:=ep) hh ndI).toS
 refine Ab ⟨BV F.plain_extend_loop _,codeAny_extend_loopS (A:=A) W hz _ nL _ es.size 0 _ _ _ rfl (AW _) ?_ gL4 (ItemsOf.nil _) λs' acc' c' hm hS' hacc=>?_⟩
 ·exact (KD (prog:=prog) (A:=A.in1) (w:=w) (es:=es) (ep:=ep) hh ndI).frame 0 _ _ st λb hb o e=>oth b o (λz=>nL (z▸hb)) e
 refine (?_:wpAny _ A (load s.heap.objs.size >>= _) _ _ s')
 refine Aa (wpAny_load hS' ?_)
 obtain ⟨zh,zg,zd,zt,zo⟩:=s'
 have e4:zg=s.gens:=hm.gens
 have e5:zd=s.drawn:=hm.drawn
 have e6:zo=s.os:=hm.os
 subst e4 e5 e6
 have ac:acc'.toList=es.toList.map (·.val):=by
  refine Bs λi=>?_
  rw [Ap,Ax,Ax]
  by_cases hi:i<es.size
  ·have hi':i<acc'.size:=by rw [hacc.1];exact hi
   obtain ⟨e,x1,x2⟩:=hacc.2 i _ (Aq hi')
   rw [Aq hi',x1,← x2]
   rfl
  ·rw [Bj (by rw [hacc.1];omega),Bj (by omega)]
   rfl
 refine Ab ?_
 refine (?_:Q acc'.toList _)
 rw [ac]
 refine q zh zt λb o e=>?_
 have bl:=Al e
 refine hm.heap b o ?_ (oth b o (Au bl) (k2 _ _ (k1 _ _ e)))
 simp only [An,A4,or_false,not_or]
 exact ⟨Au bl,Au (show b<h1.objs.size by rw [sz1];exact A0 bl)⟩
end
section
variable {X:Cx} {K:Zc} {th:List Addr} {mu:Sto} {H:Hp} {pins:List (Addr×Obj)} {st:L2.St} {s:Shared}
theorem JH (hu:X.A.units+64<cLine)(I:L2.Inv X pins st H s)(so:StoOk X.z th mu H){es:List D}(ok:DM es=true){u:Value}{Q:VK}(t:Tr X.z th H (some (D.lst (Ee es),mu)) (KV' X.z Q))
  (col:∀ Q':List Value->Shared->Prop,(∀ vs zs h' tk,RepL X.z th H es vs->Vals vs zs->(∀ b o,s.heap.get? b=some o->h'.get? b=some o)->Q' zs { s with heap:=h',toks:=tk })->wpAny (model X.prog X.w) X.A.in1 (collect u) Q' X.xe s) :
  wpAny (model X.prog X.w) X.A (call (.builtin "sorted") [u]) (EP X pins st Q) X.xe s:=by
 refine K7 (col _ λvs zs h1 tk h2 rv hk=>?_)
 have I1:L2.Inv X pins st H { s with heap:=h1,toks:=tk }:=I.kept (t':=tk) hk
 have l64:es.length<64:=by
  have:=ok
  unfold DM at this
  rw [Ac,Ac,Ac,Af] at this
  exact this.1.1.1
 have lz:zs.length=es.length:=by rw [← rv.length,h2.len]
 obtain ⟨ws,out,w1,w2,w3⟩:=sorts hu I1 h2 rv ok
 have z64:64≤sizeLine:=by rw [AS];decide
 have wl:(Ee es).length≤sizeLine:=by rw [(Dg es).length_eq];omega
 refine ⟨by omega,out,w3,λh' e a hk' ha he=>?_⟩
 have hp:H a=none:=I1.hok.fresh ha
 refine ⟨.ref a,_,I1.laid (t':=tk) (o:=.lst ws) hk' ha ⟨by rw [w1.len];exact wl,out,e,w2,he⟩,rfl,?_⟩
 exact t.retX (.new hp _) (so.new hp _) _ (Rep.newLst so hp w1 wl)
theorem OO (I:L2.Inv X pins st H s){a:Addr}{ks ds:List D}(h:DcAt X.z th H a ks ds):∃ o es ep,(a==sysModules)=false∧s.heap.get? a=some o∧o.ExactDict∧o.data=.dict es ep∧es.size≤sizeLine∧(∃ vs,RepL X.z th H ks vs∧Vals vs (es.toList.map (·.key)))∧∃ vs,RepL X.z th H ds vs∧Vals vs (es.toList.map (·.val)):=by
 obtain ⟨xs0,h1',h2,h3,h4,h5⟩:=id h
 obtain ⟨xs,o,es,ep,h1,g⟩:=Hf I h
 obtain ⟨⟨z',o',es',ep',g1,g2,g3,g4⟩,_⟩:=(show ObjOk X.prog X.w H s.heap a (E1 a xs0) from I.hok a _ h1')
 have e1:=g.at'
 rw [g1] at e1
 cases e1
 have e2:=g.dt
 rw [g3] at e2
 cases e2
 have kv:∀ {ys:List (Int×V×V)} {zs:List DictEntry},Paired (λ(x:Int×V×V) (e:DictEntry)=>e.hash=x.1∧RelV x.2.1 e.key∧RelV x.2.2 e.val) ys zs->Vals (ys.map (·.2.1)) (zs.map (·.key))∧Vals (ys.map (·.2.2)) (zs.map (·.val)):=λ{ys zs} p=>by
  induction p with
  | nil=>exact ⟨.nil,.nil⟩
  | cons a b ih=>exact ⟨.cons a.2.1 ih.1,.cons a.2.2 ih.2⟩
 have sz:es.size≤sizeLine:=by
  have e:=Df g.en
  have e':es.size=ks.length:=by
   rw [← Array.length_toList]
   exact e.symm
  rw [e']
  exact h5.len
 exact ⟨o,es,ep,z',g1,g2,g3,sz,⟨_,h3,(kv g4).1⟩,⟨_,h4,(kv g4).2⟩⟩
noncomputable def UT:Fn:=λds mu=>match Ho ds with
 | some d=>match EA mu d with
  | some p=>if DM p.1=true then some (.lst (Ee p.1),mu) else none
  | none=>none
 | none=>none
theorem QP {ds:List D}{r:D×Sto}(h:UT ds mu=some r):∃ d p,ds=[d]∧EA mu d=some p∧DM p.1=true∧r=(.lst (Ee p.1),mu):=by
 unfold UT at h
 split at h
 ·rename_i d e
  split at h
  ·rename_i p e2
   split at h
   ·rename_i c;cases h;exact ⟨d,p,GN e,e2,c,rfl⟩
   ·cases h
  ·cases h
 ·cases h
theorem P0 (hu:X.A.units+64<cLine)(hc:X.calm=true):CallV X (.builtin "sorted") UT:=by
 intro pins s st H xs us Q I r h
 obtain ⟨th,mu,ds,so,rd,t⟩:=h
 obtain ⟨a0,mu0,e0,_⟩:=id t
 obtain ⟨d,p,rfl,eg,ok,er⟩:=QP e0
 rw [e0] at t
 cases er
 obtain ⟨x,rfl,rx⟩:=DA rd
 obtain ⟨u,rfl,ru⟩:=vals1 r
 obtain ⟨a,rfl,dc⟩:=Er so eg rx
 cases ru
 obtain ⟨o,es,ep,ns,g1,g2,g3,sz,⟨vs,k1,k2⟩,_⟩:=OO I dc
 exact JH hu I so ok t λQ' q=>NK (I.ok.hd hc) sz g1 g2.1 ns ⟨o,g1,g3⟩ λh' tk hk=>q _ _ h' tk k1 k2 hk
noncomputable def J9:Fn:=λds mu=>match Kh ds mu with|some r=>some r|none=>UT ds mu
theorem Iq (hu:X.A.units+64<cLine)(hc:X.calm=true):CallV X (.builtin "sorted") J9:=CallV.or (Qb hu hc) (P0 hu hc)
noncomputable def Ya (a d:Addr)(h:Heap):Prop:=∃ o,h.get? a=some o∧o.cls=.type "dict_values"∧o.data=.fields #[.ref d]
noncomputable def Oi (a d:Addr):HO:=.ext (Ya a d)
noncomputable def ZZ (r:V->List V->Hp->VK->Prop)(to:TE):TE:=fun σ H Q=>to σ H λx H1=>(∃ a xs,x=.ref a∧H1 a=some (E1 a xs))∧r x [] H1 Q
theorem Wl {o:Expr}{to:TE}{name:Str}{apos cpos:Pos}{id:String}{r:V->List V->Hp->VK->Prop}(slot:Slot "dict" name id)(hty:typeOf (.builtin id)=pure (.type "method_descriptor"))(hm:MtR X id r)(ho:PE X o to)
  (hbase:attributeBase o name X.env (eval o X.env)=eval o X.env) (hline:(apos.endLine==cpos.line)=true):PE X (.Call (.Attribute o name apos) [] [] cpos) (ZZ r to):=by
 intro pins s st H Q I h
 refine wpAny_Call_method0_late hbase hline (thn (ho pins s st H _ I h) λv s1 ⟨x,H1,I1,r1,⟨a,xs,e,hd⟩,q1⟩=>?_)
 subst e
 cases r1
 obtain ⟨⟨z,ob,es,ep,g1,g2,g3,g4⟩,_⟩:=(show ObjOk X.prog X.w H1 s1.heap a (E1 a xs) from I1.hok a _ hd)
 exact ⟨"dict",id,PySem.F.plainAttrs_dict,slot,hty,⟨ob,g1,g2.1⟩,λb e=>by cases e;exact ⟨ob,g1,g2.2.1⟩,Calls.callWith_builtin rfl (PySem.evalArgs_none (hm pins s1 st H1 (.ref a) [] _ [] Q I1 rfl .nil q1))⟩
theorem Qr:MtR X "dict.values" (λx vs H Q=>vs=[]∧∃ a xs,x=.ref a∧H a=some (E1 a xs)∧∀ b,H b=none->Q (.ref b) (upd H b (Oi b a))):=by
 intro pins s st H x ys v us Q I rx rys ⟨e0,a,xs,e,hd,q⟩
 subst e e0
 cases rx
 cases rys
 obtain ⟨⟨z,ob,es,ep,g1,g2,g3,g4⟩,_⟩:=(show ObjOk X.prog X.w H s.heap a (E1 a xs) from I.hok a _ hd)
 have ty:s.TypeIs (.ref a) "dict":=⟨ob,g1,g2.1⟩
 have hM:MeetsIn X.prog X.w (Builtin.«dict.values» ⟨[.ref a],[]⟩) (λ_ R s=>s.heap.get? a=some ob∧R (.ok (.ret (.ref s.heap.objs.size))) { s with heap:=s.heap.push { cls:=.type "dict_values",data:=.fields #[.ref a] } }):=.of_wp λA R s ⟨g0,h⟩=>by
  refine Aa ?_
  unfold Builtin.Dict.noArgs
  refine Aa (wpAny_notOrdered_dict ⟨ob,g0,g2.1⟩ ?_)
  refine (?_:wpAny _ _ (pure a) _ _ s)
  refine Ab (?_:wpAny _ _ (Builtin.Dict.showsAll a >>= _) _ _ s)
  unfold Builtin.Dict.showsAll
  rw [if_neg (by rw [z];exact AE)]
  exact Aa (Ab (Aa (AR (Ab ⟨_,rfl,h⟩))))
 refine call_meetsIn PySem.F.slot_dict_values ty PySem.F.entry_dict_values (PySem.F.args_dict_values_1 _) hM ⟨g1,?_⟩
 have hp:H s.heap.objs.size=none:=I.hok.fresh (Ag _)
 refine ⟨.ref s.heap.objs.size,_,I.laid (t':=s.toks) (o:=Oi s.heap.objs.size a) (λb o e=>Ad _ e) (Ag _) ⟨⟨_,Ai _ rfl,rfl,rfl⟩,⟨_,Ai _ rfl⟩,λh1 h2 ⟨o,x1,x2⟩ k=>⟨o,k o x1,x2⟩⟩,rfl,q _ hp⟩
theorem Pg (hu:X.A.units+64<cLine)(hc:X.calm=true):FJ X (.builtin "sorted") (λvs H Q=>∃ th mu a d ks ds,vs=[.ref a]∧H a=some (Oi a d)∧StoOk X.z th mu H∧DcAt X.z th H d ks ds∧DM ds=true∧Tr X.z th H (some (D.lst (Ee ds),mu)) (KV' X.z Q)):=by
 intro pins s st H xs us Q I r ⟨th,mu,a,d,ks,ds,e,hv,so,dc,ok,t⟩
 subst e
 obtain ⟨u,rfl,ru⟩:=vals1 r
 cases ru
 obtain ⟨⟨ov,v1,v2,v3⟩,_⟩:=(show ObjOk X.prog X.w H s.heap a (Oi a d) from I.hok a _ hv)
 obtain ⟨o,es,ep,ns,g1,g2,g3,sz,_,⟨vs,k1,k2⟩⟩:=OO I dc
 exact JH hu I so ok t λQ' q=>N3 (I.ok.hd hc) sz v1 v2 v3 ⟨o,g1,g3⟩ λh' tk hk=>q _ _ h' tk k1 k2 hk
noncomputable def KR (a:Ex):Ex:=λro mu=>bM (a ro mu) λd m1=>match EA m1 d with
 | some p=>if DM p.2=true then some (.lst (Ee p.2),m1) else none
 | none=>none
theorem DcAt.new {a p:Addr}{ks ds:List D}(h:DcAt K th H a ks ds)(so:StoOk K th mu H)(hp:H p=none)(o:HO):DcAt K th (upd H p o) a ks ds:=by
 obtain ⟨xs,h1,h2,h3,h4,h5⟩:=h
 exact ⟨xs,by rw [CQ (CK h1 hp)];exact h1,h2,h3.ext (.new hp o) so.out,h4.ext (.new hp o) so.out,h5⟩
theorem TY (hu:X.A.units+64<cLine)(hc:X.calm=true){o:Expr}{m:Ex}{apos cpos p pos:Pos}(hm:X.mg "sorted"=none)(ho:SV X o m)(hg:Gl X "sorted":=by rfl)(hbase:attributeBase o "values" X.env (eval o X.env)=eval o X.env:=by rfl)(hline:(apos.endLine==cpos.line)=true:=by rfl)
  (hs1:starEach [.Call (.Attribute o "values" apos) [] [] cpos] X.env=(false,eval (.Call (.Attribute o "values" apos) [] [] cpos) X.env)::starEach [] X.env:=by rfl) (hs2:(backTo pos (starEach [] X.env)).any (·.1)=false:=by rfl) :
  SV X (.Call (.Name "sorted" p) [.Call (.Attribute o "values" apos) [] [] cpos] [] pos) (KR m):=
 ⟨PE.weak (Kc (Pg hu hc) hg hm PyProof.Rows.boot_sorted (Jt (Wl PySem.F.slot_dict_values PySem.F.type_dict_values Qr ho.r hbase hline) Nx hs1) (by decide) (by decide) hs1 hs2) λst H Q h=>by
  obtain ⟨th,mu,ro,so,en,t⟩:=h
  refine ⟨th,mu,ro,so,en,t.bind.mono λd th1 mu1 H1 e1 s1 t1 v rv=>?_⟩
  cases q:EA mu1 d with
  | none=>rw [q] at t1;exact t1.no.elim
  | some pr =>
   rw [q] at t1
   dsimp only at t1
   by_cases c:DM pr.2=true
   ·rw [if_pos c] at t1
    obtain ⟨a,rfl,dc⟩:=Er s1 q rv
    obtain ⟨xs,hx,_⟩:=id dc
    exact ⟨⟨a,xs,rfl,hx⟩,rfl,a,xs,rfl,hx,λb hb=>⟨th1,mu1,b,a,pr.1,pr.2,rfl,Dw,s1.new hb _,dc.new s1 hb _,c,t1.ahead (.new hb _)⟩⟩
   ·rw [if_neg c] at t1;exact t1.no.elim⟩
noncomputable def O6 (d:PyData):Bool:=d.showable&&(!d.hasDict&&(decide (d.depth≤60)&&(decide (d.shown.length≤sizeLine)&&PyData.strOk d.shown)))
noncomputable def GI:Fn:=λds mu=>match Ho ds with
 | some d=>if (CU (seen mu d)&&O6 (toPy (seen mu d)))=true then some (.str (toPy (seen mu d)).shown,mu) else none
 | none=>none
theorem P8 {ds:List D}{r:D×Sto}(h:GI ds mu=some r):∃ d,ds=[d]∧CU (seen mu d)=true∧O6 (toPy (seen mu d))=true∧r=(.str (toPy (seen mu d)).shown,mu):=by
 unfold GI at h
 split at h
 ·rename_i d e
  split at h
  ·rename_i c
   rw [Ac] at c
   cases h
   exact ⟨d,GN e,c.1,c.2,rfl⟩
  ·cases h
 ·cases h
theorem JK (hu:X.A.units+64<cLine)(hg:X.A.guards=some []):CallV X (.builtin "repr") GI:=by
 intro pins s st H xs us Q I r h
 obtain ⟨th,mu,ds,so,rd,t⟩:=h
 obtain ⟨a0,mu0,e0,_⟩:=id t
 obtain ⟨d,rfl,pu,ok,er⟩:=P8 e0
 rw [e0] at t
 cases er
 obtain ⟨x,rfl,rx⟩:=DA rd
 obtain ⟨u,rfl,ru⟩:=vals1 r
 have ok':=ok
 unfold O6 at ok'
 rw [Ac,Ac,Ac,Ac,Af,Af] at ok'
 obtain ⟨o1,o2,o3,o4,o5⟩:=ok'
 have nd:(toPy (seen mu d)).hasDict=true->False:=λz=>by rw [z] at o2;cases o2
 obtain ⟨as,r1,_⟩:=Em I so pu rx ru
 have fin:∀ h' v tk,(∀ b o,s.heap.get? b=some o->h'.get? b=some o)->EP X pins st Q (.str (toPy (seen mu d)).shown v) { s with heap:=h',toks:=tk }:=λh' v tk hk =>
  ⟨.str (toPy (seen mu d)).shown,H,I.kept (t':=tk) hk,⟨v,rfl⟩,t.ret so _ ⟨rfl,o4,o5⟩⟩
 generalize toPy (seen mu d)=pd at *
 cases r1 with
 | none=>exact P.repr_of_none (fin s.heap _ _ λ_ _ e=>e)
 | bool b=>exact P.repr_of_bool (fin s.heap _ _ λ_ _ e=>e)
 | int i tt=>exact P.repr_of_int (by simpa [PyData.showable] using o1) (fin s.heap _ _ λ_ _ e=>e)
 | str x tt=>exact P.repr_of_str (fin s.heap _ _ λ_ _ e=>e) o4
 | list g1 g2 g3 g4=>exact repr_of_reads' (.list g1 g2 g3 g4) o1 (λz=>(nd z).elim) hg (by omega) (λ_ _ e=>e) (λh' v tk hk=>fin h' v tk hk) o4
 | tuple g1 g2 g3 g4=>exact repr_of_reads' (.tuple g1 g2 g3 g4) o1 (λz=>(nd z).elim) hg (by omega) (λ_ _ e=>e) (λh' v tk hk=>fin h' v tk hk) o4
 | dict=>exact (nd rfl).elim
noncomputable def O5 (d:D)(xs:List D)(mu:Sto):Rs D:=match EA mu d,xs with
 | some p,[k]=>if D7 k=true then some ((E4 k p.1 p.2).getD .non,mu) else none
 | some p,[k,y]=>if D7 k=true then some ((E4 k p.1 p.2).getD y,mu) else none
 | _,_=>none
theorem Oc (hu:X.A.units+64<cLine)(I:L2.Inv X pins st H s){a:Addr}{ks ds:List D}(dc:DcAt X.z th H a ks ds){k:D}{u:Value}(hk:Hd s.heap k u){as:List Value}{yd:Value}(has:as=[]∧yd=.none∨as=[yd]){Q:Value->Shared->Prop}
  (q1:∀ d,E4 k ks ds=some d->∀ v r,Rep X.z th H d v->RelV v r->∀ tk,Q r { s with toks:=tk }) (q2:E4 k ks ds=none->∀ tk,Q yd { s with toks:=tk }):wpAny (model X.prog X.w) X.A (call (.builtin "dict.get") (.ref a::u::as)) Q X.xe s:=by
 obtain ⟨ty,ns,_⟩:=Pe I dc
 have go:wpAny (model X.prog X.w) X.A.in1 (Builtin.«dict.get» ⟨.ref a::u::as,[]⟩) (λfin s'=>∃ v,fin=.done (.ret v)∧Q v s') X.xe s:=by
  rcases has with ⟨rfl,rfl⟩|rfl
  ·refine (?_:wpAny _ _ (dictGet a u >>= _) _ _ s)
   cases e:E4 k ks ds with
   | some d =>
    obtain ⟨v,r,x1,x2,x3⟩:=Ln I dc hk e
    exact Aa (x3 (by rw [Around.in1_units];omega) λtk=>Ab ⟨r,rfl,q1 d e v r x1 x2 tk⟩)
   | none =>
    refine Aa (Lv (A:=X.A.in1) I dc hk e (by rw [Around.in1_units];omega) λtk=>?_)
    exact Aa (wpAny_missed_other ns (Ab ⟨_,rfl,q2 e tk⟩))
  ·refine (?_:wpAny _ _ (dictGet a u >>= _) _ _ s)
   cases e:E4 k ks ds with
   | some d =>
    obtain ⟨v,r,x1,x2,x3⟩:=Ln I dc hk e
    exact Aa (x3 (by rw [Around.in1_units];omega) λtk=>Ab ⟨r,rfl,q1 d e v r x1 x2 tk⟩)
   | none =>
    refine Aa (Lv (A:=X.A.in1) I dc hk e (by rw [Around.in1_units];omega) λtk=>?_)
    exact Aa (wpAny_missed_other ns (Ab ⟨_,rfl,q2 e tk⟩))
 rcases has with ⟨rfl,rfl⟩|rfl
 ·exact AL PySem.F.slot_dict_get ty PySem.F.entry_dict_get go (PySem.F.args_dict_get_2 _ _)
 ·exact AL PySem.F.slot_dict_get ty PySem.F.entry_dict_get go (PySem.F.args_dict_get_3 _ _ _)
theorem Wz (hu:X.A.units+64<cLine):MtR X "dict.get" (λx vs H Q=>∃ th mu d ds,StoOk X.z th mu H∧Rep X.z th H d x∧RepL X.z th H ds vs∧Tr X.z th H (O5 d ds mu) (KV' X.z Q)):=by
 intro pins s st H x xs v us Q I rx rxs h
 obtain ⟨th,mu,d,ds,so,r1,r2,t⟩:=h
 unfold O5 at t
 cases e:EA mu d with
 | none=>rw [e] at t;exact t.no.elim
 | some p =>
  rw [e] at t
  obtain ⟨a,rfl,dc⟩:=Er so e r1
  cases rx
  match ds,r2,t with
  | [],_,t=>exact t.no.elim
  | [k],r2,t =>
   dsimp only at t
   by_cases c:D7 k=true
   ·rw [if_pos c] at t
    obtain ⟨kv,rfl,rk⟩:=DA r2
    obtain ⟨u,rfl,ru⟩:=vals1 rxs
    refine Oc hu I dc (Ii I c rk ru) (.inl ⟨rfl,rfl⟩) (λd' e' v' r' z1 z2 tk=>?_) λe' tk=>?_
    ·rw [e'] at t
     exact ⟨v',H,I.tok _,z2,t.ret so _ z1⟩
    ·rw [e'] at t
     exact ⟨.non,H,I.tok _,rfl,t.ret so _ rfl⟩
   ·rw [if_neg c] at t;exact t.no.elim
  | [k,y],r2,t =>
   dsimp only at t
   by_cases c:D7 k=true
   ·rw [if_pos c] at t
    obtain ⟨kv,yv,rfl,rk,ry⟩:=Gb r2
    obtain ⟨u,w',rfl,ru,rw'⟩:=vals2 rxs
    refine Oc hu I dc (Ii I c rk ru) (.inr rfl) (λd' e' v' r' z1 z2 tk=>?_) λe' tk=>?_
    ·rw [e'] at t
     exact ⟨v',H,I.tok _,z2,t.ret so _ z1⟩
    ·rw [e'] at t
     exact ⟨yv,H,I.tok _,rw',t.ret so _ ry⟩
   ·rw [if_neg c] at t;exact t.no.elim
  | _::_::_::_,_,t=>exact t.no.elim
noncomputable def tBD (r:V->List V->Hp->VK->Prop)(to:TE)(t:TA):TE:=fun σ H Q=>to σ H λx H1=>(∃ a xs,x=.ref a∧H1 a=some (E1 a xs))∧t σ H1 λvs H2=>r x vs H2 Q
theorem Ys {o e:Expr}{es:List Expr}{to:TE}{t:TA}{name:Str}{apos cpos:Pos}{id:String}{r:V->List V->Hp->VK->Prop}(slot:Slot "dict" name id)(hty:typeOf (.builtin id)=pure (.type "method_descriptor"))(hm:MtR X id r)(ho:PE X o to)(ha:PA X (e::es) t)
  (hbase:attributeBase o name X.env (eval o X.env)=eval o X.env)
  (hfew:((backTo cpos (starEach (e::es) X.env)).all (λx=>!x.1)&&(backToKw cpos (keywordEach [] X.env)).all (λx=>x.1.isSome)
   && decide ((e::es).length+([]:List Keyword).length+(if ([]:List Keyword).isEmpty then 0 else 1)<30))=true)
  (hline:(apos.endLine==cpos.line)=true) (hs:starEach (e::es) X.env=(false,eval e X.env)::starEach es X.env) (hplain:(backTo cpos (starEach es X.env)).any (·.1)=false) :
  PE X (.Call (.Attribute o name apos) (e::es) [] cpos) (tBD r to t):=by
 intro pins s st H Q I h
 refine wpAny_Call_method_late hbase hfew hline rfl (thn (ho pins s st H _ I h) λv s1 ⟨x,H1,I1,r1,⟨a,xs,ex,hd⟩,q1⟩=>?_)
 subst ex
 cases r1
 obtain ⟨⟨z,ob,es',ep,g1,g2,g3,g4⟩,_⟩:=(show ObjOk X.prog X.w H1 s1.heap a (E1 a xs) from I1.hok a _ hd)
 refine ⟨"dict",id,PySem.F.plainAttrs_dict,slot,hty,⟨ob,g1,g2.1⟩,λb e=>by cases e;exact ⟨ob,g1,g2.2.1⟩,?_⟩
 have hA:=ha cpos pins s1 st H1 _ I1 q1
 rw [hs] at hA ⊢
 refine Calls.callWith_builtin (by show (false||(backTo cpos (starEach es X.env)).any (·.1))=false;rw [hplain]<;>rfl) (Calls.evalArgs_plain ?_)
 exact thn hA λus s2 ⟨vs,H2,I2,r2,q2⟩=>hm pins s2 st H2 (.ref a) vs (.ref a) us Q I2 rfl r2 q2
noncomputable def MV (o:Ex)(a:Exs):Ex:=λro mu=>bM (o ro mu) λd m1=>if (EA m1 d).isSome=true then bM (a ro m1) λxs m2=>O5 d xs m2 else none
theorem TK (hu:X.A.units+64<cLine){o e:Expr}{es:List Expr}{m:Ex}{n:Exs}{apos cpos:Pos}(ho:SV X o m)(ha:SVA X (e::es) n)(hbase:attributeBase o "get" X.env (eval o X.env)=eval o X.env:=by rfl)
  (hfew:((backTo cpos (starEach (e::es) X.env)).all (λx=>!x.1)&&(backToKw cpos (keywordEach [] X.env)).all (λx=>x.1.isSome)
   && decide ((e::es).length+([]:List Keyword).length+(if ([]:List Keyword).isEmpty then 0 else 1)<30))=true:=by rfl)
  (hline:(apos.endLine==cpos.line)=true:=by rfl) (hs:starEach (e::es) X.env=(false,eval e X.env)::starEach es X.env:=by rfl) (hplain:(backTo cpos (starEach es X.env)).any (·.1)=false:=by rfl) :
  SV X (.Call (.Attribute o "get" apos) (e::es) [] cpos) (MV m n):=
 ⟨PE.weak (Ys PySem.F.slot_dict_get PySem.F.type_dict_get (Wz hu) ho.r ha.1 hbase hfew hline hs hplain) λst H Q h=>by
  obtain ⟨th,mu,ro,so,en,t⟩:=h
  refine ⟨th,mu,ro,so,en,t.bind.mono λd th1 mu1 H1 e1 s1 t1 v rv=>?_⟩
  cases q:EA mu1 d with
  | none=>rw [q] at t1;exact t1.no.elim
  | some pr =>
   rw [q] at t1
   rw [if_pos (show (some pr).isSome=true from rfl)] at t1
   obtain ⟨a,rfl,dc⟩:=Er s1 q rv
   obtain ⟨xs,hx,_⟩:=id dc
   refine ⟨⟨a,xs,rfl,hx⟩,th1,mu1,ro,s1,en.ext e1 so.out,?_⟩
   exact Tr.mono (Tr.bind t1) λys th2 mu2 H2 e2 s2 t2 ws rws=>⟨th2,mu2,d,ys,s2,rv.ext e2 s1.out,rws,t2⟩⟩
end
end PV
namespace L2
open PySem PySem.Spec PyProof.Rows
inductive IsC:Expr->List Comprehension->Prop
 | l {elt gens sc pos}:IsC (.ListComp elt gens sc pos) gens
 | d {k v gens sc pos}:IsC (.DictComp k v gens sc pos) gens
noncomputable def Gm (g:Comprehension)(it:Value)(env:Env)(step:Sem Unit)(c:Code):Sem Fin:=do
 standAt g.iter.pos
 match←pyNext it with
 | none=>pure (.done .next)
 | some v =>
  letOwnedTupleGo g.target it v
  assign g.target env v
  let mut ok:=true
  for c in g.ifs do
   if ok then ok←isTrue c env (eval c env)
  if ok then step
  again c
noncomputable def Oz (elt:Expr)(acc:Value)(env:Env):Sem Unit:=do let _←call (.builtin "list.append") [acc,← eval elt env]
noncomputable def deeper (e iter:Expr)(acc:Value)(env:Env):Sem Unit:=do
 let x←eval iter env
 standAt iter.pos
 let x←foldedSetIterable iter env x
 let _←runOwn (.compStart e 1 (← holding [x] (pyIter x)) acc env) env
theorem UD {elt t i ifs t2 i2 ifs2 sc pos it acc env}:compTurn (.ListComp elt [⟨t,i,ifs,0⟩,⟨t2,i2,ifs2,0⟩] sc pos) 0 it acc env=Gm ⟨t,i,ifs,0⟩ it env (deeper (.ListComp elt [⟨t,i,ifs,0⟩,⟨t2,i2,ifs2,0⟩] sc pos) i2 acc env) (.compLoop (.ListComp elt [⟨t,i,ifs,0⟩,⟨t2,i2,ifs2,0⟩] sc pos) 0 it acc env):=by
 unfold Gm deeper
 simp only [bind_assoc,pure_bind]
 rfl
theorem UE {elt t i ifs t2 i2 ifs2 sc pos it acc env}:compTurn (.ListComp elt [⟨t,i,ifs,0⟩,⟨t2,i2,ifs2,0⟩] sc pos) 1 it acc env=Gm ⟨t2,i2,ifs2,0⟩ it env (Oz elt acc env) (.compLoop (.ListComp elt [⟨t,i,ifs,0⟩,⟨t2,i2,ifs2,0⟩] sc pos) 1 it acc env):=rfl
section
variable {prog:Program} {w:World} {A:Around} {R:Result->Shared->Prop} {s:Shared} {e:Expr} {gens:List Comprehension} {g:Comprehension} {depth:Nat} {it acc:Value} {env:Env} {step:Sem Unit}
theorem YU (hc:IsC e gens)(heq:compTurn e depth it acc env=Gm g it env step (.compLoop e depth it acc env))(J:Nat->Shared->Prop)
  (turn:∀ (n:Nat) (z:Shared),J n z->Go prog w A (pyNext it) (λr z1=>match r with
   | .none=>R (.ok .next) z1
   | .some v=>Go prog w A (letOwnedTupleGo g.target it v) (λ_ s1=>Go prog w A (assign g.target env v) (λ_ s2=>Go prog w A (tests env g.ifs) (λok s3 =>
     if ok=true then Go prog w A step (λ_ z2=>∃ m,m<n∧J m z2) s3 else ∃ m,m<n∧J m s3) s2) s1) z1) z) (n:Nat) (h:J n s) :
  codeAny (model prog w) A (Code.compLoop e depth it acc env) R s:=by
 have st:∀ (n:Nat) (z:Shared),J n z->Go prog w A (compTurn e depth it acc env)
   (λfin z'=>match fin with
    | .done f=>R (.ok f) z'
    | .again c'=>c'=Code.compLoop e depth it acc env∧∃ m,m<n∧J m z') z:=by
  intro n z hz
  rw [heq]
  unfold Gm
  refine Aa (wpAny_standAt (Aa (thn (turn n z hz) λr z1 h1=>?_)))
  cases r with
  | none=>exact Ab h1
  | some v =>
   refine Aa (thn h1 λ_ z2 h2=>Aa (thn h2 λ_ z3 h3=>Aa (thn h3 λok z4 h4=>?_)))
   cases ok with
   | false=>exact Ab (And.intro rfl h4)
   | true=>exact Aa (thn h4 λx z5 h5=>Ab (And.intro rfl h5))
 cases hc with
 | l=>exact codeAny_loop rfl J (λn z hz=>wpAny_noted (B2 (st n z hz) (λ_ _ q=>q) λ_ _ q=>q.elim)) n h
 | d=>exact codeAny_loop rfl J (λn z hz=>wpAny_noted (B2 (st n z hz) (λ_ _ q=>q) λ_ _ q=>q.elim)) n h
theorem R4 (hc:IsC e gens)(hg:gens[depth]? = some g)(ha:g.is_async=0)
  (h0:codeAny (model prog w) A (.compLoop e depth it acc env) R s)
  (h:wpAny (model prog w) A (pyIter it) (λit' s'=>codeAny (model prog w) A (.compLoop e depth it' acc env) R s') (notedBy (model prog w) A env λx s'=>R (.error x) s') s) :
  codeAny (model prog w) A (.compStart e depth it acc env) R s:=by
 have st:wpAny (model prog w) A (compStart e depth it acc env) (λfin s'=>match fin with
    | .done f=>R (.ok f) s'
    | .again c'=>c'.quiet=true∧codeAny (model prog w) A c' R s') (notedBy (model prog w) A env λx s'=>R (.error x) s') s:=by
  have cl:clausesOf e=gens:=by cases hc<;>rfl
  have qt:(Code.compLoop e depth it acc env).quiet=true:=by cases hc<;>rfl
  have qt':∀ it',(Code.compLoop e depth it' acc env).quiet=true:=λit'=>by cases hc<;>rfl
  unfold compStart
  rw [cl,hg]
  simp only [Option.elim,ha,bne_self_eq_false,Az,A7,pure_bind]
  refine Aa (wpAny_askSetting (wpAny_ite ?_))
  split
  ·first
    | exact Aa (Ab (Ab (And.intro qt h0)))
    | exact Ab (And.intro qt h0)
  ·exact Aa (Bo (Aa (wpAny_standAt (Aa (B2 h (λit' s' h'=>Ab (And.intro (qt' _) h')) λ_ _ x=>x)))))
 cases hc with
 | l =>
  refine codeAny_of_tree ?_
  exact wpAny_notedAt (B2 st (λfin _ q=>q) λ_ _ q=>q)
 | d =>
  refine codeAny_of_tree ?_
  exact wpAny_notedAt (B2 st (λfin _ q=>q) λ_ _ q=>q)
end
noncomputable abbrev TM (α:Type):=α->St->Hp->(α->St->Hp->Prop)->Prop
structure Acc (α:Type) where
 ao:α->Obj->Prop
 nc:∀ a o,ao a o->∀ v,o.data≠.cell v
structure DOk (X:Cx) (D:Addr):Prop where
 up:X.s₀.heap.objs.size≤D
 nl:D≠X.env.locals
 nf:D∉X.fs
 cl:∀ x c,X.env.cells.lookup x=some c->c≠D
 pn:∀ p∈X.pn,p.1≠D
noncomputable def PM (X:Cx){α:Type}(K:Acc α)(D:Addr)(m:Sem Unit)(t:TM α):Prop:=
 ∀ (pins:List (Addr×Obj)) (s:Shared) (σ:St) (H:Hp) (Q:α->St->Hp->Prop) (a:α) (o:Obj),K.ao a o->(∀ p∈pins,p.1≠D)->Inv X (pins++[(D,o)]) σ H s->t a σ H Q ->
  wpAny (model X.prog X.w) X.A m (λ_ s'=>∃ a' o' σ' H',K.ao a' o'∧Inv X (pins++[(D,o')]) σ' H' s'∧Q a' σ' H') X.xe s
noncomputable def CGo {α:Type}(J:It)(g:TG)(tt:TT)(tm:TM α)(a:α)(σ:St)(H:Hp)(Q:α->St->Hp->Prop):Prop:=
 ∃ W:Nat->Nat->α->St->Hp->Prop,(∃ m,W 0 m a σ H)∧∀ i m a σ' H',W i m a σ' H' ->
  ((J.stop i H'∧Q a σ' H') ∨
   (J.go i H'∧∀ x H2,J.yld i H' x H2->g x σ' H2 fun σ3 H3=>tt σ3 H3 λb H4 =>
    if b=true then tm a σ3 H4 λa' σ5 H5=>∃ m',m'<m∧W (i+1) m' a' σ5 H5 else ∃ m',m'<m∧W (i+1) m' a σ3 H4))
section
variable {X:Cx} {α:Type} {K:Acc α} {D:Addr} {R:Result->Shared->Prop} {e:Expr} {gens:List Comprehension} {g:Comprehension} {depth:Nat} {step:Sem Unit} {tg:TG} {tt:TT} {tm:TM α}
theorem Inv.pins_sub {pins pins':List (Addr×Obj)}{σ:St}{H:Hp}{s:Shared}(I:Inv X pins σ H s)(h:∀ p∈pins',p∈pins):Inv X pins' σ H s:=I.pins_of λp hp=>I.pin p (Aj _ (h p hp))
theorem cgo (hc:IsC e gens)(hcalm:X.calm=true)(hx:X.xe=λ_ _=>False){it:Addr}(heq:compTurn e depth (.ref it) (.ref D) X.env=Gm g (.ref it) X.env step (.compLoop e depth (.ref it) (.ref D) X.env))
  (hg:PG X g.target tg) (ht:PF X g.ifs tt) (hm:PM X K D step tm) {J:It} {fp:List Addr} {tn:Nat->Heap->Prop} (T:Turn X.prog X.w X.K g.target J fp it tn)
  {pins:List (Addr×Obj)} {s:Shared} {σ:St} {H:Hp} {a:α} {o:Obj} {Q:α->St->Hp->Prop} (ao:K.ao a o) (I:Inv X (pins++[(D,o)]) σ H s) (st:tn 0 s.heap) (f:∀ b∈fp,FT X pins H b) (fD:∀ b∈fp,D≠b) (pD:∀ p∈pins,p.1≠D)
  (w:CGo J tg tt tm a σ H Q) (fin:∀ s' a' o' σ' H',K.ao a' o'->Inv X (pins++[(D,o')]) σ' H' s'->Q a' σ' H'->R (.ok .next) s') :
  codeAny (model X.prog X.w) X.A (.compLoop e depth (.ref it) (.ref D) X.env) R s:=by
 obtain ⟨W,⟨m0,w0⟩,turn⟩:=w
 have stat:∀ {H':Hp} (o':Obj),(∀ b∈fp,H' b=none)->∀ b∈fp,FT X (pins++[(D,o')]) H' b:=λ{H'} o' hn b hb=>by
  obtain ⟨_,f1,f2,f3,f4,f5⟩:=f b hb
  refine ⟨hn b hb,f1,f2,f3,f4,λp hp=>?_⟩
  rcases AH.mp hp with z|z
  ·exact f5 p (AX _ z)
  ·rcases AH.mp z with z|z
   ·exact f5 p (Aj _ z)
   ·rw [Ao.mp z];exact fD b hb
 refine YU hc heq (λn s'=>∃ i a o σ' H',K.ao a o∧Inv X (pins++[(D,o)]) σ' H' s'∧tn i s'.heap∧(∀ b∈fp,H' b=none)∧W i n a σ' H') ?_ m0 ⟨0,a,o,σ,H,ao,I,st,λb hb=>(f b hb).1,w0⟩
 rintro n s3 ⟨i,a3,o3,σ3,H3,ao3,I3,st3,fr3,w3⟩
 rcases turn i n a3 σ3 H3 w3 with ⟨stop,qn⟩|⟨go,stp⟩
 ·refine thn (T.done X rfl rfl rfl hcalm i _ s3 σ3 H3 (λ_ _=>False) I3 (stat o3 fr3) st3 stop) λr s4 ⟨hr,I4⟩=>?_
  subst hr
  exact fin s4 a3 o3 σ3 H3 ao3 I4 qn
 ·refine thn (T.item X rfl rfl rfl hcalm i _ s3 σ3 H3 (λ_ _=>False) I3 (stat o3 fr3) st3 go) λr s4 ⟨u,hr,h4⟩=>?_
  subst hr
  refine thn h4 λ_ s5 ⟨x,H5,I5,r5,y5,st5,fr5⟩=>?_
  have I5':=I5.pinned (stat o3 fr5) (T.obj _ _ st5)
  have a1:=hg _ s5 σ3 H5 x u _ I5' r5 (stp x H5 y5)
  rw [hx] at a1
  refine thn a1 λ_ s6 ⟨σ6,H6,I6,q6⟩=>?_
  have b1:=ht _ s6 σ6 H6 _ I6 q6
  rw [hx] at b1
  refine thn b1 λok s7 ⟨H7,I7,q7⟩=>?_
  have keep:∀ {s':Shared} {pl:List (Addr×Obj)} {σ':St} {H':Hp},Inv X pl σ' H' s'->(∀ p∈GB fp s5.heap,p∈pl)->tn (i+1) s'.heap∧∀ b∈fp,H' b=none:=λ{s' pl σ' H'} J' hs=>by
   refine ⟨T.keep _ _ _ st5 λb hb o e=>(J'.pin (b,o) (Aj _ (hs _ (D8 hb e)))).1,λb hb=>?_⟩
   obtain ⟨o,e,_⟩:=T.obj _ _ st5 b hb
   exact (J'.pin (b,o) (Aj _ (hs _ (D8 hb e)))).2.1
  cases ok with
  | false =>
   rw [if_neg AE] at q7 ⊢
   obtain ⟨m',hm',w7⟩:=q7
   obtain ⟨k1,k2⟩:=keep I7 λp hp=>Aj _ hp
   exact ⟨m',hm',i+1,a3,o3,σ6,H7,ao3,I7.unpinned,k1,k2,w7⟩
  | true =>
   rw [if_pos rfl] at q7 ⊢
   have I8:Inv X ((pins++GB fp s5.heap)++[(D,o3)]) σ6 H7 s7:=I7.pins_sub λp hp=>by
    simp only [AH] at hp ⊢
    rcases hp with (z|z)|z
    ·exact .inl (.inl z)
    ·exact .inr z
    ·exact .inl (.inr z)
   have c1:=hm (pins++GB fp s5.heap) s7 σ6 H7 _ a3 o3 ao3 (λp hp=>by
    rcases AH.mp hp with z|z
    ·exact pD p z
    ·exact Ne.symm (fD p.1 (Lc z).1)) I8 q7
   rw [hx] at c1
   refine thn c1 λ_ s9 ⟨a9,o9,σ9,H9,ao9,I9,m',hm',w9⟩=>?_
   obtain ⟨k1,k2⟩:=keep I9 λp hp=>AX _ (Aj _ hp)
   exact ⟨m',hm',i+1,a9,o9,σ9,H9,ao9,I9.pins_sub λp hp=>by
    simp only [AH] at hp ⊢
    rcases hp with z|z
    ·exact .inl (.inl z)
    ·exact .inr z,k1,k2,w9⟩
theorem PJ (hc:IsC e gens)(hcalm:X.calm=true)(hx:X.xe=λ_ _=>False){g2:Comprehension}{wi:TI}(hgn:gens[1]? = some g2)(ha:g2.is_async=0)(hi:PI X g2.target g2.iter wi)(hs:∀ x,foldedSetIterable g2.iter X.env x=pure x)
  (heq:∀ it,compTurn e 1 (.ref it) (.ref D) X.env=Gm g2 (.ref it) X.env step (.compLoop e 1 (.ref it) (.ref D) X.env))
  (hg:PG X g2.target tg) (ht:PF X g2.ifs tt) (hm:PM X K D step tm):PM X K D (deeper e g2.iter (.ref D) X.env) (λa σ H Q=>wi σ H λJ H1=>CGo J tg tt tm a σ H1 Q):=by
 intro pins s σ H Q a o ao pD I h
 unfold deeper
 refine Aa (thn (hi _ s σ H _ I h) λv s1 h1=>Aa (wpAny_standAt (Aa (wpAny_of_eq (hs v) (Aa (AI (thn h1 λitv s2 h2=>?_)))))))
 obtain ⟨it,fp,tn,J,H2,e2,I2,T,st2,f2,w⟩:=h2
 subst e2
 have f':∀ b∈fp,FT X pins H2 b:=λb hb=>by
  obtain ⟨f0,f1,f2,f3,f4,f5⟩:=f2 b hb
  exact ⟨f0,f1,f2,f3,f4,λp hp=>f5 p (by rcases AH.mp hp with z|z;exact AX _ z;exact Aj _ (AX _ z))⟩
 have fD:∀ b∈fp,D≠b:=λb hb=>(f2 b hb).2.2.2.2.2 (D,o) (Aj _ (Aj _ (Ao.mpr rfl)))
 refine Aa (wpAny_runOwn ?_)
 have loop:codeAny (model X.prog X.w) X.A (.compLoop e 1 (.ref it) (.ref D) X.env) (λr s'=>match r with|.ok f=>wpAny (model X.prog X.w) X.A (pure PUnit.unit) (λ_ s'=>∃ a' o' σ' H',K.ao a' o'∧Inv X (pins++[(D,o')]) σ' H' s'∧Q a' σ' H') X.xe s'|.error e=>cameBackBy (model X.prog X.w) X.A X.env X.xe e s') s2:=
  cgo hc hcalm hx (heq it) hg ht hm T ao I2 st2 f' fD pD w λs' a' o' σ' H' ao' I' q'=>Ab ⟨a',o',σ',H',ao',I',q'⟩
 exact R4 hc hgn ha loop (T.self _ 0 _ _ _ st2 loop)
end
section
variable {X:Cx} {α:Type} {scope:Scope} {fv:List (Nat×Str)}
theorem Nd {pins:List (Addr×Obj)}{σ:St}{H:Hp}{s:Shared}{fp:List Addr}{cl:List (Str×Addr)}{h₁:Heap}{own:List Str}{o0:Obj}(I:Inv X pins σ H s)(L:JJ X scope fv)(hf:∀ b∈fp,FT X pins H b)(hfo:∀ b∈fp,∃ o,s.heap.get? b=some o)
  (hsub:∀ x c,cl.lookup x=some c->X.env.cells.lookup x=some c) (hhas:∀ y∈scope.names,y.2=.free->∃ c,cl.lookup y.1=some c)
  (hns:h₁.Ns (s.heap.objs.size+1) (λx=>([]:List (Str×Value)).reverse.lookup x)) (hold:∀ b o,s.heap.get? b=some o->h₁.get? b=some o) (hD:h₁.get? s.heap.objs.size=some o0) (nc0:∀ v,o0.data≠.cell v) {tk:Nat} :
  Inv (CH X scope (own++fv.map (·.2)) cl (s.heap.objs.size+1) s H fp) [(s.heap.objs.size,o0)] (st0 own.length fv σ) H { s with heap:=h₁,toks:=tk }:=by
 have nst:∀ b,s.heap.objs.size≤b->b∉frs X.stack:=λb hb hm=>by
  rcases An.mp (I.stkSub b hm) with e|e
  ·exact absurd I.lt (by rw [← e];exact Nat.not_lt.mpr hb)
  ·exact I.nofs hb e
 have fpst:∀ b∈fp,b∉frs X.stack:=λb hb hm=>by
  obtain ⟨_,f1,f2,_⟩:=hf b hb
  rcases An.mp (I.stkSub b hm) with e|e
  ·exact f1 e
  ·exact f2 e
 have celllt:∀ x c,cl.lookup x=some c->c<s.heap.objs.size:=λx c e=>by
  obtain ⟨v,z⟩:=I.cell x c (hsub x c e)
  exact z.lt
 refine ⟨⟨I.ok.mod,L.kind,I.ok.glob,I.ok.blt,BU _,λx y c h1 h2=>I.ok.inj x y c (hsub _ _ h1) (hsub _ _ h2),λx hx=>hhas (x,.free) (FD L.cell hx) rfl,λ_ _ z=>Bool.noConfusion z,I.ok.hd,I.ok.frames,.inl rfl,
   λb hb=>⟨?_,λx c e z=>?_⟩,I.bs,AJ I.ok.bsz I.sz,λb o e hb=>?_,fpst,I.stack,I.stkFree⟩,
  rfl,I.bare,Un.kept hold,⟨_,hns,λi x v e1 e2 e3=>?_⟩,λx c e=>?_,I.hok.fresh (BU _),λx c e=>I.freeC x c (hsub x c e),λp hp=>?_,I.hok.kept hold,?_⟩
 ·obtain ⟨o,e⟩:=hfo b hb
  exact Au (A0 (Al e))
 ·exact (hf b hb).2.2.2.2.1 x c (hsub x c e) z
 ·obtain ⟨_,_,_,f3,_⟩:=hf b hb
  rcases f3 with f3|f3
  ·exact I.ok.noex b o e f3
  ·exact absurd (AD (Al e) (AJ I.ok.bsz f3)) (A6 _)
 ·have e1':(own++fv.map (·.2))[i]? = some x:=e1
  unfold st0 at e2
  by_cases hi:i<own.length
  ·rw [Ay (by simpa using hi),BS] at e2
   split at e2<;>cases e2
  ·rw [AU (by simpa using hi),B1,Ap] at e2
   rw [AU (by simpa using hi),Ap] at e1'
   cases hp:fv[i-own.length]? with
   | none=>rw [hp] at e1';cases e1'
   | some p =>
    rw [hp] at e1' e2
    have ex:p.2=x:=AB e1'
    have ev:σ.getD p.1 none=some v:=AB e2
    obtain ⟨q1,q2,q3⟩:=L.fv.get hp
    rw [ex] at q1 q2 q3
    have hσ:σ[p.1]? = some (some v):=by
     rw [AK] at ev
     cases q:σ[p.1]? with
     | none=>rw [q] at ev;cases ev
     | some w=>rw [q] at ev;exact congrArg some ev
    obtain ⟨m,_,hl⟩:=I.loc
    obtain ⟨u,r,l⟩:=hl p.1 x v q1 hσ (by rcases q2 with z|z;exact .inr (.inl z);exact .inr (.inr z))
    refine ⟨u,r,.inr ⟨q3,?_⟩⟩
    rcases l with ⟨k,_⟩|⟨_,c,ec,z⟩
    ·exfalso
     have k':X.env.scope.names.lookup x=some .local:=k
     rcases q2 with z|z<;>rw [k'] at z<;>cases z
    ·obtain ⟨c',ec'⟩:=hhas (x,.free) (FD L.cell q3) rfl
     have:c'=c:=AB ((hsub x c' ec').symm.trans ec)
     subst this
     obtain ⟨o,ho,hd⟩:=z
     exact ⟨c',ec',o,hold _ _ ho,hd⟩
 ·obtain ⟨v,o,ho,hd⟩:=I.cell x c (hsub x c e)
  exact ⟨v,o,hold _ _ ho,hd⟩
 ·have e:p=(s.heap.objs.size,o0):=by simpa [CH] using hp
  subst e
  exact ⟨hD,I.hok.fresh (Ag _),Au (AV _),nst _ (Ag _),nc0⟩
 ·show (st0 own.length fv σ).length=(own++fv.map (·.2)).length
  unfold st0
  simp
structure Nz (α:Type) extends Acc α where
 cls:String
 d0:Data
 a0:α
 ao0:ao a0 { cls:=.type cls,dict:=none,data:=d0 }
 fin:α->Prop
 ho:Addr->α->HO
 sz:sizeOk d0
 fr:({ cls:=.type cls,dict:=none,data:=d0 }:Obj).isFreed=false
 lay:∀ (P:Program) (w:World) (H:Hp) (h:Heap) (D:Addr) (a:α) (o:Obj),ao a o->fin a->h.get? D=some o->sysModules<D->ObjOk P w (upd H D (ho D a)) h D (ho D a)
noncomputable def tCo (wi:TI)(nc:Nat)(fv:List (Nat×Str))(B:Nz α)(g:TG)(tt:TT)(tm:TM α):TE:=fun σ H Q=>wi σ H λJ H1=>CGo J g tt tm B.a0 (st0 nc fv σ) H1 λa _ H'=>B.fin a∧∀ p,H' p=none->Q (.ref p) (upd H' p (B.ho p a))
theorem SS {e:Expr}{gens:List Comprehension}{g:Comprehension}{rest:List Comprehension}{own:List Str}{wi:TI}{B:Nz α}{tg:TG}{tt:TT}{tm:TM α}{step:Addr->Addr->List (Str×Addr)->Sem Unit}{pos2:Pos}{newAcc:Sem Value}
  {pins:List (Addr×Obj)} {s:Shared} {σ:St} {H:Hp} {Q:VK} {use:Option (Value->Sem Unit)} {Qc:Value->Shared->Prop} (hc:IsC e gens) (hgens:gens=g::rest) (ha:g.is_async=0) (hnew:newAcc=newObj (.type B.cls) B.d0) (L:JJ X scope fv) (hi:PI X g.target g.iter wi)
  (heq:∀ it cl C D,compTurn e 0 (.ref it) (.ref D) (compEnvC scope cl C X.env)=Gm g (.ref it) (compEnvC scope cl C X.env) (step D C cl) (.compLoop e 0 (.ref it) (.ref D) (compEnvC scope cl C X.env)))
  (hg:∀ cl C s₁ H₁ fp,PG (CH X scope (own++fv.map (·.2)) cl C s₁ H₁ fp) g.target tg)
  (ht:∀ cl C s₁ H₁ fp,PF (CH X scope (own++fv.map (·.2)) cl C s₁ H₁ fp) g.ifs tt)
  (hm:∀ cl C s₁ H₁ fp D,DOk (CH X scope (own++fv.map (·.2)) cl C s₁ H₁ fp) D->PM (CH X scope (own++fv.map (·.2)) cl C s₁ H₁ fp) B.toAcc D (step D C cl) tm)
  (hs:∀ x,foldedSetIterable g.iter X.env x=pure x) (hb:∀ {s2:Shared} {H2:Hp},Inv X pins σ H2 s2->sysModules<s2.heap.objs.size) (I:Inv X pins σ H s) (h:tCo wi own.length fv B tg tt tm σ H Q)
  (fin:∀ (s6:Shared) (H':Hp) (D C:Addr) (m:Str->Option Value),Inv X pins σ H' s6->FT X pins H' C->s6.heap.Ns C m->Q (.ref D) H'->compPost (model X.prog X.w) X.A X.xe use Qc (.ref D) C (.ok .next) s6) :
  wpAny (model X.prog X.w) X.A (comprehension e scope X.env pos2 newAcc false (eval g.iter X.env) use) Qc X.xe s:=by
 obtain ⟨cl,hclos,hsub,hhas⟩:=HE (scope:=scope) (env:=X.env) λy hy hf=>I.ok.has y.1 (L.free y hy hf)
 have hcl:clausesOf e=g::rest:=by subst hgens;cases hc<;>rfl
 refine wpAny_comprehension_free (use:=use) hcl hs hclos L.kind L.names (thn (hi pins s σ H _ I h) λv s1 h1=>thn h1 λitv s2 h2=>?_)
 obtain ⟨it,fp,tn,J,H2,e2,I2,T,st2,f2,w⟩:=h2
 subst e2
 have hfo:∀ b∈fp,∃ o,s2.heap.get? b=some o:=λb hb=>let ⟨o,e,_⟩:=T.obj _ _ st2 b hb;⟨o,e⟩
 rw [hnew]
 refine AR (hd:=B.sz) (wpAny_newFunctionEnv L.cell (by intro y hy;simp at hy) (λh₁ hns₁ hsb₁=>?_) L.kind)
 dsimp only at hns₁ hsb₁ ⊢
 have hCe:(s2.heap.push { cls:=.type B.cls,dict:=none,data:=B.d0 }).objs.size=s2.heap.objs.size+1:=Ba _ _
 rw [hCe] at hns₁ hsb₁ ⊢
 have old:∀ b o,s2.heap.get? b=some o->h₁.get? b=some o:=λb o e=>hsb₁.extBut b o (Au (A0 (Al e))) (Ad _ (Ad _ e))
 have hD₁:h₁.get? s2.heap.objs.size=some { cls:=.type B.cls,dict:=none,data:=B.d0 }:=hsb₁.extBut _ _ (Au (AV _)) (Ad _ (Ai _ B.fr))
 have I4:=Nd (own:=own) (tk:=s2.toks+([]:List (Str×Value)).length) I2 L f2 hfo hsub hhas hns₁ old hD₁ (B.nc _ _ B.ao0)
 have st4:tn 0 h₁:=T.keep _ _ _ st2 λb _ o e=>old b o e
 have celllt:∀ x c,cl.lookup x=some c->c<s2.heap.objs.size:=λx c e=>by
  obtain ⟨v,z⟩:=I2.cell x c (hsub x c e)
  exact z.lt
 have nst:s2.heap.objs.size∉frs X.stack:=λhm=>by
  rcases An.mp (I2.stkSub _ hm) with e|e
  ·exact absurd I2.lt (by rw [← e];exact A6 _)
  ·exact I2.nofs (Ag _) e
 have dk:DOk (CH X scope (own++fv.map (·.2)) cl (s2.heap.objs.size+1) s2 H2 fp) s2.heap.objs.size:=⟨Ag _,Au (AV _),nst,λx c e=>Au (celllt x c e),λp hp=>nomatch hp⟩
 have fpok:∀ b∈fp,FT (CH X scope (own++fv.map (·.2)) cl (s2.heap.objs.size+1) s2 H2 fp) [] H2 b:=λb hb=>by
  obtain ⟨o,eo⟩:=hfo b hb
  have blt:=Al eo
  refine ⟨(f2 b hb).1,Au (A0 blt),λhm=>?_,.inl hb,λx c e=>(f2 b hb).2.2.2.2.1 x c (hsub x c e),λp hp=>?_⟩
  ·obtain ⟨_,f1,f3,_⟩:=f2 b hb
   rcases An.mp (I2.stkSub b hm) with e|e
   ·exact f1 e
   ·exact f3 e
  ·have hp':p∈([]:List (Addr×Obj)):=by simpa [CH] using hp
   cases hp'
 have fD:∀ b∈fp,s2.heap.objs.size≠b:=λb hb=>by
  obtain ⟨o,eo⟩:=hfo b hb
  exact BQ (Al eo)
 have big:sysModules<s2.heap.objs.size:=hb I2
 have loop:=cgo (X:=CH X scope (own++fv.map (·.2)) cl (s2.heap.objs.size+1) s2 H2 fp) (R:=compPost (model X.prog X.w) X.A X.xe use Qc (.ref s2.heap.objs.size) (s2.heap.objs.size+1)) (pins:=[]) hc L.calm rfl (heq it cl (s2.heap.objs.size+1) s2.heap.objs.size) (hg cl (s2.heap.objs.size+1) s2 H2 fp) (ht cl (s2.heap.objs.size+1) s2 H2 fp) (hm cl (s2.heap.objs.size+1) s2 H2 fp _ dk) T B.ao0 I4 st4 fpok fD (λp hp=>nomatch hp) w
  λs6 a6 o6 σ6 H6 ao6 I6 q6=>by
   obtain ⟨qf,qn⟩:=q6
   obtain ⟨m,hn,_⟩:=I6.loc
   obtain ⟨eD,nD,_⟩:=I6.pin (s2.heap.objs.size,o6) (Aj _ (Ao.mpr rfl))
   have nC:H6 (s2.heap.objs.size+1)=none:=I6.free
   have U:Un (frs X.stack) fp H2 H6 s2.heap s6.heap:=I6.base
   have ok6:HOk X.prog X.w H6 s6.heap:=I6.hok
   have J6:Inv X pins σ (upd H6 s2.heap.objs.size (B.ho s2.heap.objs.size a6)) s6:=I2.call' (s':=s6) I6.os (U.lay (Ag _) nD) (ok6.lay nD (B.lay _ _ _ _ _ _ _ ao6 qf eD big)) I6.bare λb hb=>by
    obtain ⟨_,f1,_,f3,f4,f5⟩:=f2 b hb
    exact ⟨f3,f1,f4,f5⟩
   exact fin s6 _ _ _ m J6 (I2.fpOk (BU _) (by rw [CQ (BQ (AV _))];exact nC)) hn (qn _ nD)
 exact R4 hc (by rw [hgens];rfl) ha loop (T.self _ 0 _ _ _ st4 loop)
end
noncomputable def VM:Nz (List V) where
 ao:=λys o=>∃ its k,o={ cls:=.type "list",data:=.seq its k }∧Vals ys its.toList
 nc:=λa o h v z=>by obtain ⟨its,k,rfl,_⟩:=h;cases z
 cls:="list"
 d0:=.seq ([]:List Value).toArray
 a0:=[]
 ao0:=⟨#[],0,rfl,.nil⟩
 fin:=λys=>ys.length≤sizeLine
 ho:=λ_ ys=>.lst ys
 sz:=by size_fits
 fr:=rfl
 lay:=λP w H h D a o ao hf hD _=>by
  obtain ⟨its,k,rfl,r⟩:=ao
  exact ⟨hf,its.toList,k,r,by simpa using hD⟩
section
variable {X:Cx} {D:Addr}
theorem UL {elt:Expr}{te:TE}(dk:DOk X D)(he:PE X elt te):PM X VM.toAcc D (Oz elt (.ref D) X.env) (λa σ H Q=>te σ H λv H'=>a.length≤sizeLine∧Q (a++[v]) σ H'):=by
 intro pins s σ H Q a o ao pD I h
 unfold Oz
 refine Aa (thn (he _ s σ H _ I h) λu s1 ⟨y,H1,I1,r1,hl,q1⟩=>?_)
 obtain ⟨its,k,rfl,r⟩:=ao
 obtain ⟨e1,n1,l1,f1,_⟩:=I1.pin (D,_) (Aj _ (Aj _ (Ao.mpr rfl)))
 have hz:its.size≤sizeLine:=by
  have e:=r.length
  simp only [Array.length_toList] at e
  omega
 refine Aa (wpAny_list_append_plain (hsz:=hz) ⟨k,e1⟩ λh' hl' sb=>Ab ?_)
 obtain ⟨k',hk'⟩:=hl'
 have I2:Inv X pins σ H1 { s1 with heap:=h' }:=(I1.pins_sub λp hp=>AX _ hp).turned (t':=s1.toks) (it:=D) (λb o hb e=>(sb.2 b hb).trans e) n1 dk.nl (.inr dk.up) dk.cl λp hp=>by
  rcases AH.mp hp with z|z
  ·exact dk.pn p z
  ·exact pD p z
 refine ⟨a++[y],_,σ,H1,⟨its.push u,k',rfl,?_⟩,I2.pins_of λp hp=>?_,q1⟩
 ·rw [BW]
  exact r.append (.cons r1 .nil)
 ·rcases AH.mp hp with z|z
  ·exact I2.pin p (Aj _ z)
  ·rw [Ao.mp z]
   exact ⟨hk',n1,l1,f1,λv z=>by cases z⟩
end
end L2
namespace PV
open PySem L2 PySem.Spec PyProof.Rows
noncomputable abbrev EnV (x:Int×V×V) (e:DictEntry):Prop:=e.hash=x.1∧RelV x.2.1 e.key∧RelV x.2.2 e.val
noncomputable def Kq (k:D)(h:Int)(kv vv:V):List D->List (Int×V×V)->List (Int×V×V)
 | k'::ks,x::xs=>if k'=k then (x.1,x.2.1,vv)::xs else x::Kq k h kv vv ks xs
 | _,xs=>xs++[(h,kv,vv)]
theorem HN {k:D}{h:Int}{kv vv:V}:∀ {ks:List D} {xs:List (Int×V×V)},k∉ks->ks.length=xs.length->Kq k h kv vv ks xs=xs++[(h,kv,vv)]
 | [],_,_,_=>by unfold Kq;rfl
 | _::_,[],_,e=>by simp at e
 | k'::ks,x::xs,n,e=>by
  rw [An,not_or] at n
  rw [Kq,if_neg (λz=>n.1 z.symm),HN n.2 (by simpa using e)]
  rfl
theorem Jo {k:D}{h:Int}{kv vv:V}:∀ {ks:List D} {xs:List (Int×V×V)} {j:Nat} (hj:j<xs.length),ks.Nodup->ks[j]? = some k->Kq k h kv vv ks xs=xs.set j (xs[j].1,xs[j].2.1,vv)
 | [],_,_,_,_,e=>by simp at e
 | _::_,[],_,hj,_,_=>by simp at hj
 | k'::ks,x::xs,0,hj,n,e=>by simp at e;subst e;simp [Kq]
 | k'::ks,x::xs,j+1,hj,n,e=>by
  rw [Bm] at n
  simp at e
  have:k'≠k:=λz=>n.1 (by rw [z];exact Am e)
  rw [Kq,if_neg this,Jo (by simpa using hj) n.2 e]
  rfl
noncomputable abbrev Mx (β:Type):=β->Ro->Sto->Rs β
noncomputable def cGo {β:Type}(g:Option Nat)(m0:Sto)(tg:Gx)(tt:Tx)(st:Mx β)(ro:Ro):List D->β->Sto->Rs β
 | [],b,mu=>some (b,mu)
 | d::ds,b,mu=>bM (tg d ro mu) λro1 m1=>bM (tt ro1 m1) λc m2 =>
  if c=true then bM (st b ro1 m2) λb' m3=>DY g m0 m3 (cGo g m0 tg tt st ro ds b' m3) else DY g m0 m2 (cGo g m0 tg tt st ro ds b m2)
noncomputable def stL (el:Ex):Mx (List D):=λb ro mu=>bM (el ro mu) λy m=>if b.length<sizeLine then some (b++[y],m) else none
noncomputable def stI {β:Type}(i:Ix)(tg:Gx)(tt:Tx)(st:Mx β):Mx β:=λb ro mu=>bM (i ro mu) λp m=>cGo p.2 m tg tt st ro p.1 b m
noncomputable def eCo {β:Type}(i:Ix)(nc:Nat)(fvs:List Nat)(tg:Gx)(tt:Tx)(st:Mx β)(b0:β)(fin:β->Sto->D×Sto):Ex:=λro mu=>bM (i ro mu) λp m1=>bM (cGo p.2 m1 tg tt st (r0 nc fvs ro) p.1 b0 m1) λb m2=>some (fin b m2)
noncomputable def Sq (b:List D)(mu:Sto):D×Sto:=(.lst b,mu)
noncomputable def GOw (lo hi:Nat)(tg:Gx):Prop:=∀ d ro mu ro' mu',tg d ro mu=some (ro',mu')->ro'.length=ro.length∧∀ i,i<lo∨hi≤i->ro'[i]? = ro[i]?
theorem MW {lo hi i:Nat}(h1:lo≤i:=by decide)(h:i<hi:=by decide):GOw lo hi (gNm i):=λd ro mu ro' mu' e=>by
 cases e
 exact ⟨by simp,λj hj=>AM (by omega)⟩
noncomputable def rdM (K:Zc){α β:Type}(rp:List Addr->Hp->β->α->Prop)(ok:Ro->Prop)(st:Mx β):TM α:=λa σ H Q=>∃ th mu ro b,StoOk K th mu H∧EnvOk K th H ro σ∧ok ro∧rp th H b a ∧
 Tr K th H (st b ro mu) λb' th' _ H'=>∀ a' σ',EnvOk K th' H' ro σ'->rp th' H' b' a'->Q a' σ' H'
noncomputable def RpX {α β:Type}(rp:List Addr->Hp->β->α->Prop):Prop:=∀ {th:List Addr} {H:Hp} {th':List Addr} {H':Hp} {b:β} {a:α},Ext th H th' H'->HB th H->rp th H b a->rp th' H' b a
noncomputable def rpL (K:Zc)(th:List Addr)(H:Hp)(zs:List D)(ys:List V):Prop:=RepL K th H zs ys∧zs.length≤sizeLine
noncomputable def rpD (K:Zc)(th:List Addr)(H:Hp)(p:List D×List D)(xs:List (Int×V×V)):Prop:=xs.map (·.1)=E3 K.w p.1∧RepL K th H p.1 (xs.map (·.2.1))∧RepL K th H p.2 (xs.map (·.2.2))∧KeysOk p.1
section
variable {X:Cx} {K:Zc} {th:List Addr} {mu:Sto} {H:Hp} {α β:Type} {rp:List Addr->Hp->β->α->Prop} {ok:Ro->Prop} {st:Mx β} {tg:Gx} {tt:Tx}
theorem Vt:RpX (rpL K):=λe t ⟨h1,h2⟩=>⟨h1.ext e t,h2⟩
theorem QZ {lo hi:Nat}(ow:GOw lo hi tg)(rx:RpX rp){ro:Ro}(hro:∀ i d,ro[i]? = some (some d)->i<lo∨hi≤i)(hok:∀ d mu ro' mu',tg d ro mu=some (ro',mu')->ok ro'){J:It}{ds:List D}{gd:Option Nat}{a:α}{b:β}{σ:L2.St}{Q:α->L2.St->Hp->Prop}
  (io:Qk K J th mu H ds gd) (so:StoOk K th mu H) (en:EnvOk K th H ro σ) (r:rp th H b a) (t:Tr K th H (cGo gd mu tg tt st ro ds b mu) λb' th' _ H'=>∀ a' σ',EnvOk K th' H' ro σ'->rp th' H' b' a'->Q a' σ' H') :
  CGo J (rdG K tg) (rdT K tt) (rdM K rp ok st) a σ H Q:=by
 refine ⟨λk n a' σ' H'=>n=ds.length-k∧k≤ds.length∧∃ th' mu' b',StoOk K th' mu' H'∧EnvOk K th' H' ro σ'∧Ext th H th' H'∧gOk gd mu mu'∧rp th' H' b' a' ∧
  Tr K th' H' (cGo gd mu tg tt st ro (ds.drop k) b' mu') λb' th' _ H'=>∀ a' σ',EnvOk K th' H' ro σ'->rp th' H' b' a'->Q a' σ' H',⟨_,rfl,AW _,th,mu,b,so,en,.refl _ _,?_,r,t⟩,?_⟩
 ·cases gd with
  | none=>exact True.intro
  | some k=>exact rfl
 rintro k n a2 st2 H2 ⟨rfl,hk,th2,mu2,b2,s2,en2,e2,g2,r2,t2⟩
 by_cases lt:k<ds.length
 ·refine .inr ?_
  have ek:ds[k]? = some ds[k]:=by simp
  obtain ⟨a1,a3⟩:=io.go th2 mu2 H2 e2 s2 g2 k ds[k] ek
  refine ⟨a1,λx H3 y=>?_⟩
  obtain ⟨e3,s3,r3⟩:=a3 x H3 y
  rw [BI lt] at t2
  unfold cGo at t2
  refine ⟨th2,mu2,ro,ds[k],s3,en2.ext e3 s2.out,r3,?_⟩
  refine (t2.ahead e3).bindE.mono λro1 th4 mu4 H4 e4 s4 t4 st4 en4=>?_
  obtain ⟨eq4,t4⟩:=t4
  obtain ⟨ol,ow'⟩:=ow _ _ _ _ _ eq4
  have back:∀ {th' H' σ'},EnvOk K th' H' ro1 σ'->EnvOk K th' H' ro σ':=λ{th' H' σ'} en'=>by
   refine ⟨by rw [← ol];exact en'.1,λi d e=>?_⟩
   exact en'.2 i d (by rw [ow' i (hro i d e)];exact e)
  refine ⟨th4,mu4,ro1,s4,en4,t4.bind.mono λc th5 mu5 H5 e5 s5 t5=>?_⟩
  have e14:Ext th H th5 H5:=((e2.trans e3).trans e4).trans e5
  have r5:rp th5 H5 b2 a2:=rx ((e3.trans e4).trans e5) s2.out r2
  cases c with
  | false =>
   obtain ⟨a,mu',q1,q2⟩:=t5
   obtain ⟨go5,q1⟩:=Fh q1
   exact ⟨ds.length-(k+1),by omega,rfl,lt,th5,mu5,b2,s5,back (en4.ext e5 s4.out),e14,go5,r5,a,mu',q1,q2⟩
  | true =>
   refine ⟨th5,mu5,ro1,b2,s5,en4.ext e5 s4.out,hok _ _ _ _ eq4,r5,Tr.mono (Tr.bind t5) λb6 th6 mu6 H6 e6 s6 t6 a6 σ6 en6 r6=>?_⟩
   obtain ⟨a,mu',q1,q2⟩:=t6
   obtain ⟨go6,q1⟩:=Fh q1
   exact ⟨ds.length-(k+1),by omega,rfl,lt,th6,mu6,b6,s6,back en6,e14.trans e6,go6,r6,a,mu',q1,q2⟩
 ·have e:k=ds.length:=by omega
  subst e
  rw [List.drop_length] at t2
  unfold cGo at t2
  exact .inl ⟨io.stop th2 mu2 H2 e2 s2 g2,t2.ret s2 a2 st2 en2 r2⟩
theorem Xg {el:Ex}{a:List V}{σ:L2.St}{Q:List V->L2.St->Hp->Prop}(h:rdM K (rpL K) ok (stL el) a σ H Q):rdE K el σ H λv H'=>a.length≤sizeLine∧Q (a++[v]) σ H':=by
 obtain ⟨th,mu,ro,b,so,en,_,⟨r,hz⟩,t⟩:=h
 refine ⟨th,mu,ro,so,en,t.bind.mono λy th1 mu1 H1 e1 s1 t1 v rv=>?_⟩
 by_cases c:b.length<sizeLine
 ·rw [if_pos c] at t1
  exact ⟨by rw [r.len];exact hz,t1.ret s1 _ _ (en.ext e1 so.out) ⟨(r.ext e1 so.out).app (.cons rv .nil),by rw [As];exact c⟩⟩
 ·rw [if_neg c] at t1
  exact t1.no.elim
theorem XB {i:Ix}{lo hi:Nat}(ow:GOw lo hi tg)(rx:RpX rp)(hl:∀ ro,ok ro->∀ i d,ro[i]? = some (some d)->i<lo∨hi≤i){a:α}{σ:L2.St}{Q:α->L2.St->Hp->Prop}(h:rdM K rp ok (stI i tg tt st) a σ H Q):rdI K i σ H λJ H1=>CGo J (rdG K tg) (rdT K tt) (rdM K rp (λ_=>True) st) a σ H1 Q:=by
 obtain ⟨th,mu,ro,b,so,en,o,r,t⟩:=h
 refine ⟨th,mu,ro,so,en,t.bind.mono λp th1 mu1 H1 e1 s1 t1 J io=>?_⟩
 exact QZ (rp:=rp) ow rx (hl ro o) (λ_ _ _ _ _=>True.intro) io s1 (en.ext e1 so.out) (rx e1 so.out r) t1
noncomputable def RF (K:Zc)(B:Nz α)(rp:List Addr->Hp->β->α->Prop)(fin:β->Sto->D×Sto):Prop:=∀ {th:List Addr} {mu:Sto} {H:Hp} {b:β} {a:α},StoOk K th mu H->rp th H b a->B.fin a∧∀ p,H p=none ->
 ∃ th',Ext th H th' (upd H p (B.ho p a))∧StoOk K th' (fin b mu).2 (upd H p (B.ho p a))∧Rep K th' (upd H p (B.ho p a)) (fin b mu).1 (.ref p)
theorem YS:RF K VM (rpL K) Sq:=λ{th mu H b a} so ⟨r,hz⟩=>⟨by show a.length≤sizeLine;rw [r.len];exact hz,λp hp=>⟨th,.new hp _,so.new hp _,Rep.newLst so hp r hz⟩⟩
theorem XS {i:Ix}{nc hi:Nat}{fv:List (Nat×Str)}{B:Nz α}{b0:β}{fin:β->Sto->D×Sto}{σ:L2.St}{Q:VK}(hn:hi≤nc)(ow:GOw 0 hi tg)(rx:RpX rp)(f:RF K B rp fin)(r00:∀ th H,rp th H b0 B.a0)
  (hok:∀ ro d mu ro' mu',(∀ i,i<nc->∀ d,ro[i]?≠some (some d))->tg d ro mu=some (ro',mu')->ok ro')
  (h:rdE K (eCo i nc (fv.map (·.1)) tg tt st b0 fin) σ H Q):tCo (rdI K i) nc fv B (rdG K tg) (rdT K tt) (rdM K rp ok st) σ H Q:=by
 obtain ⟨th,mu,ro,so,en,t⟩:=h
 refine ⟨th,mu,ro,so,en,t.bind.mono λp th1 mu1 H1 e1 s1 t1 J io=>?_⟩
 have hno:∀ i,i<nc->∀ d,(r0 nc (fv.map (·.1)) ro)[i]?≠some (some d):=λi hi d e=>absurd (JZ e) (Nat.not_le.mpr hi)
 refine QZ (rp:=rp) ow rx (λi d e=>.inr (AJ hn (JZ e))) (λd mu ro' mu' e=>hok _ d mu ro' mu' hno e) io s1 (MF (en.ext e1 so.out)) (r00 _ _) (t1.bind.mono λb th2 mu2 H2 e2 s2 t2 a2 σ2 en2 r2=>?_)
 obtain ⟨f1,f2⟩:=f s2 r2
 refine ⟨f1,λq hq=>?_⟩
 obtain ⟨th3,x3,s3,r3⟩:=f2 q hq
 exact t2.retX x3 s3 _ r3
end
section
variable {X:Cx} {α β:Type} {scope:Scope} {e:Expr} {gens rest:List Comprehension} {g:Comprehension} {newAcc:Sem Value} {pos2:Pos} {B:Nz α} {rp:List Addr->Hp->β->α->Prop} {ok:Ro->Prop} {st:Mx β} {tg:Gx} {tt:Tx} {b0:β} {fin:β->Sto->D×Sto} {i:Ix} {step:Addr->Addr->List (Str×Addr)->Sem Unit}
theorem PM.weak {K:Acc α}{D:Addr}{m:Sem Unit}{t t':TM α}(h:PM X K D m t)(f:∀ a σ H Q,t' a σ H Q->t a σ H Q):PM X K D m t':=λpins s σ H Q a o ao pD I q=>h pins s σ H Q a o ao pD I (f a σ H Q q)
structure YK (X:Cx) (scope:Scope) (own:List Str) (fv:List (Nat×Str)) (e:Expr) (gens:List Comprehension) (g:Comprehension) (rest:List Comprehension) (newAcc:Sem Value) (B:Nz α) (rp:List Addr->Hp->β->α->Prop) (ok:Ro->Prop) (st:Mx β) (tg:Gx) (tt:Tx) (b0:β) (fin:β->Sto->D×Sto) (i:Ix)
  (step:Addr->Addr->List (Str×Addr)->Sem Unit):Prop where
 hc:IsC e gens
 hgens:gens=g::rest
 ha:g.is_async=0
 hnew:newAcc=newObj (.type B.cls) B.d0
 L:JJ X scope fv
 hi:SVI X g.target g.iter i
 ow:GOw 0 own.length tg
 rx:RpX rp
 f:RF X.z B rp fin
 r00:∀ th H,rp th H b0 B.a0
 hok:∀ ro d mu ro' mu',(∀ i,i<own.length->∀ d,ro[i]?≠some (some d))->tg d ro mu=some (ro',mu')->ok ro'
 heq:∀ it cl C D,compTurn e 0 (.ref it) (.ref D) (compEnvC scope cl C X.env)=Gm g (.ref it) (compEnvC scope cl C X.env) (step D C cl) (.compLoop e 0 (.ref it) (.ref D) (compEnvC scope cl C X.env))
 hg:∀ cl C s₁ H₁ fp,SVG (CH X scope (own++fv.map (·.2)) cl C s₁ H₁ fp) g.target tg
 ht:∀ cl C s₁ H₁ fp,SVF (CH X scope (own++fv.map (·.2)) cl C s₁ H₁ fp) g.ifs tt
 hm:∀ cl C s₁ H₁ fp D,DOk (CH X scope (own++fv.map (·.2)) cl C s₁ H₁ fp) D->PM (CH X scope (own++fv.map (·.2)) cl C s₁ H₁ fp) B.toAcc D (step D C cl) (rdM X.z rp ok st)
 hs:∀ x,foldedSetIterable g.iter X.env x=pure x
theorem Z7 (own:List Str)(fv:List (Nat×Str))(j:Nat)(c:YK X scope own fv e gens g rest newAcc B rp ok st tg tt b0 fin i step){x:Str}{px spos:Pos}
  (hN:X.N.Nodup) (hix:X.N[j]? = some x) (hx:Loc X.env.scope x) (hf:X.fn x=true∨X.env.scope.names.lookup x=some .local)
  (hsw:swapsWith e (some (.Name x px)) spos.line X.env=pure true)
  (hev:evalThenUse e X.env (assign (.Name x px) X.env)=(do let _←comprehension e scope X.env pos2 newAcc false (eval g.iter X.env) (some (assign (.Name x px) X.env)))) :
  SVS X (.Assign [.Name x px] e spos) (Di (eCo i own.length (fv.map (·.1)) tg tt st b0 fin) (gNm j)):=⟨λpins s σ H E I h=>by
 (rw [exec_Assign_Name_used _ _ _ _ hsw])
 refine Aa (wpAny_standAt (Aa ?_))
 rw [hev]
 have h':rdE X.z (eCo i own.length (fv.map (·.1)) tg tt st b0 fin) σ H λv H'=>E.nx (σ.set j (some v)) H':=by
  obtain ⟨th,mu,ro,so,en,t⟩:=h
  refine ⟨th,mu,ro,so,en,t.bind.mono λd th1 mu1 H1 e1 s1 t1 v rv=>?_⟩
  exact t1.ret s1 _ ((en.ext e1 so.out).set j rv)
 refine Aa (B2 (SS (use:=some (assign (.Name x px) X.env)) (Qc:=λ_ s'=>SP X pins E .next s') (own:=own) (fv:=fv) (B:=B) (tg:=rdG X.z tg) (tt:=rdT X.z tt) (tm:=rdM X.z rp ok st) (step:=step) (wi:=rdI X.z i) c.hc c.hgens c.ha c.hnew c.L c.hi.r c.heq (λcl C s₁ H₁ fp=>(c.hg cl C s₁ H₁ fp).r) (λcl C s₁ H₁ fp=>(c.ht cl C s₁ H₁ fp).r) c.hm c.hs (λI=>J8 I) I
  (XS (rp:=rp) (Ag _) c.ow c.rx c.f c.r00 c.hok h') λs6 H' D C m J6 fC nsC q=>?_) (λ_ s' hq=>Ab (Ab hq)) λ_ _ e=>e)
 obtain ⟨oC,es,ep,hoC,hdC,rC⟩:=id nsC
 have J7:L2.Inv X (pins++[(C,oC)]) σ H' s6:=J6.pins_of λp hp=>(AH.mp hp).elim (λz=>J6.pin p (Aj _ z)) λz=>by
  have e:p=(C,oC):=by simpa using z
  subst e
  obtain ⟨f0,f1,f2,_⟩:=fC
  exact ⟨hoC,f0,f1,f2,λv z=>by rw [hdC] at z;cases z⟩
 show wpAny _ X.A (assign (.Name x px) X.env (.ref D)) _ _ _
 refine wpAny_assign_Name (Fx J7 hN hix hx (show RelV (.ref D) (.ref D) from rfl) (λs8 I8=>?_) hf)
 have eC:=(I8.pin (C,oC) (Aj _ (Aj _ (Ao.mpr rfl)))).1
 refine ⟨m,⟨oC,es,ep,eC,hdC,rC⟩,λh' sb=>?_⟩
 exact ⟨_,H',(I8.unpinned).turnedL (ch:=[C]) (t':=s8.toks) (Le sb) (λb hb=>by rw [Ao.mp hb];exact fC),q⟩⟩
end
section
variable {X:Cx} {scope:Scope} {t1 i1 t2 i2 kx vx elt:Expr} {f1 f2:List Expr} {pos:Pos} {i j:Ix} {g g2:Gx} {tt tt2:Tx} {el kk vv:Ex} {fin:List D×List D->Sto->D×Sto}
noncomputable def roN (lo hi:Nat)(ro:Ro):Prop:=∀ i d,ro[i]? = some (some d)->i<lo∨hi≤i
theorem WN {n1 n:Nat}(ow:GOw 0 n1 g):∀ ro d mu ro' mu',(∀ i,i<n->∀ d,ro[i]?≠some (some d))->g d ro mu=some (ro',mu')->roN n1 n ro':=λro d mu ro' mu' hn e i d' e'=>by
 rcases Bv i n1 with h|h
 ·exact .inl h
 ·refine .inr (Nat.not_lt.mp λhlt=>?_)
  rw [(ow _ _ _ _ _ e).2 i (.inr h)] at e'
  exact hn i hlt d' e'
theorem QT {n1 n:Nat}(ow:GOw 0 n1 g)(h:n1≤n):GOw 0 n g:=λd ro mu ro' mu' e=>⟨(ow _ _ _ _ _ e).1,λi hi=>(ow _ _ _ _ _ e).2 i (by omega)⟩
theorem XZ (own:List Str)(n1:Nat)(hn1:n1≤own.length)(fv:List (Nat×Str))(L:JJ X scope fv)(hi:SVI X t1 i1 i)(ow:GOw 0 n1 g)(ow2:GOw n1 own.length g2)
  (hg:∀ cl C s₁ H₁ fp,SVG (CH X scope (own++fv.map (·.2)) cl C s₁ H₁ fp) t1 g)
  (ht:∀ cl C s₁ H₁ fp,SVF (CH X scope (own++fv.map (·.2)) cl C s₁ H₁ fp) f1 tt)
  (hj:∀ cl C s₁ H₁ fp,SVI (CH X scope (own++fv.map (·.2)) cl C s₁ H₁ fp) t2 i2 j)
  (hg2:∀ cl C s₁ H₁ fp,SVG (CH X scope (own++fv.map (·.2)) cl C s₁ H₁ fp) t2 g2)
  (ht2:∀ cl C s₁ H₁ fp,SVF (CH X scope (own++fv.map (·.2)) cl C s₁ H₁ fp) f2 tt2)
  (he:∀ cl C s₁ H₁ fp,SV (CH X scope (own++fv.map (·.2)) cl C s₁ H₁ fp) elt el)
  (hs:∀ x,foldedSetIterable i1 X.env x=pure x:=by intro _;rfl) (hs2:∀ (env:Env) x,foldedSetIterable i2 env x=pure x:=by intro _ _;rfl) :
  YK X scope own fv (.ListComp elt [⟨t1,i1,f1,0⟩,⟨t2,i2,f2,0⟩] scope pos) [⟨t1,i1,f1,0⟩,⟨t2,i2,f2,0⟩] ⟨t1,i1,f1,0⟩ [⟨t2,i2,f2,0⟩] (newList []) VM (rpL X.z) (roN n1 own.length) (stI j g2 tt2 (stL el)) g tt [] Sq i
   (λD C cl=>deeper (.ListComp elt [⟨t1,i1,f1,0⟩,⟨t2,i2,f2,0⟩] scope pos) i2 (.ref D) (compEnvC scope cl C X.env)) where
 hc:=.l
 hgens:=rfl
 ha:=rfl
 hnew:=rfl
 L:=L
 hi:=hi
 ow:=QT ow hn1
 rx:=Vt
 f:=YS
 r00:=λ_ _=>⟨.nil,AW _⟩
 hok:=WN ow
 heq:=λ_ _ _ _=>UD
 hg:=hg
 ht:=ht
 hm:=λcl C s₁ H₁ fp D dk=>PM.weak (PJ (X:=CH X scope (own++fv.map (·.2)) cl C s₁ H₁ fp) (g2:=⟨t2,i2,f2,0⟩) (step:=Oz elt (.ref D) (compEnvC scope cl C X.env)) .l L.calm rfl rfl rfl (hj cl C s₁ H₁ fp).r (hs2 _) (λ_=>UE) (hg2 cl C s₁ H₁ fp).r (ht2 cl C s₁ H₁ fp).r
  (PM.weak (UL dk (he cl C s₁ H₁ fp).r) λa σ H Q h=>Xg h)) λa σ H Q h=>XB (rp:=rpL X.z) ow2 Vt (λro o=>o) h
 hs:=hs
end
theorem KY:entryFor table "dict.update.loop"=some Builtin.«dict.update.loop»:=entryFor_of_tree (by kernel_rfl)
theorem Hc:plainId "dict.update.loop"=true:=by decide +kernel
theorem Io {α β:Type}{F G:α->β->Prop}:∀ {xs:List α} {ys:List β},Paired F xs ys->(∀ x y,F x y->G x y)->Paired G xs ys
 | _,_,.nil,_=>.nil
 | _,_,.cons r t,f=>.cons (f _ _ r) (Io t f)
theorem Hd.keep {h h':Heap}{d:D}{u:Value}(x:Hd h d u)(k:∀ b o,h.get? b=some o->h'.get? b=some o):Hd h' d u:=by
 obtain ⟨a,b,as,c⟩:=x
 exact ⟨a,b,as,Reads.keeps k c⟩
noncomputable def XE (w:World)(k:D)(u r:Value)(ks:List D)(es es':List DictEntry):Prop:=(k∉ks∧es'=es++[⟨CA w k,u,r⟩])∨∃ (j:Nat) (e:DictEntry),ks[j]? = some k∧es[j]? = some e∧es'=es.set j { e with val:=r }
theorem U0 {w:World}{h:Heap}{k:D}{u r:Value}{ks:List D}{es es':List DictEntry}(x:Hd h k u)(en:Paired (EnK w h) ks es)(p:XE w k u r ks es es')(v:D)(ds:List D):Paired (EnK w h) (DX k v ks ds).1 es':=by
 unfold DX
 rcases p with ⟨n,rfl⟩|⟨j,e,ej,ee,rfl⟩
 ·rw [if_neg n];exact F0 en (.cons ⟨rfl,x⟩ .nil)
 ·rw [if_pos (Am ej)]
  obtain ⟨e2,e3,e4⟩:=(Dh en j).1 k ej
  rw [ee] at e3
  cases e3
  have:=HS j en (x:=k) (y:={ e with val:=r }) ⟨e4.1,e4.2⟩
  have hs:ks.set j k=ks:=by
   refine Bs λi=>?_
   by_cases c:j=i
   ·subst c;rw [Cc (Ae.mp ej).1,ej]
   ·rw [AM c]
  rw [hs] at this
  exact this
theorem Tj {w:World}{k:D}{u r:Value}{kv vv:V}{ks:List D}{xs:List (Int×V×V)}{es es':List DictEntry}(nd:ks.Nodup)(l:ks.length=xs.length)(pr:Paired EnV xs es)(ru:RelV kv u)(rr:RelV vv r)(p:XE w k u r ks es es'):Paired EnV (Kq k (CA w k) kv vv ks xs) es':=by
 rcases p with ⟨n,rfl⟩|⟨j,e,ej,ee,rfl⟩
 ·rw [HN n l];exact F0 pr (.cons ⟨rfl,ru,rr⟩ .nil)
 ·have hj:j<xs.length:=by rw [← l];exact (Ae.mp ej).1
  rw [Jo hj nd ej]
  obtain ⟨y,y1,y2,y3,y4⟩:=(Dh pr j).1 xs[j] (Ak hj)
  rw [ee] at y1
  cases y1
  exact HS j pr ⟨y2,y3,rr⟩
noncomputable abbrev dOb (es:Array DictEntry) (ep:Nat):Obj:={ cls:=.type "dict",data:=.dict es ep }
section
variable {prog:Program} {w:World} {A:Around} {E:Value->Shared->Prop} {s:Shared}
theorem Aal {D':Addr}{es:Array DictEntry}{ep:Nat}{ks:List D}{k:D}{u r:Value}{Q:Unit->Shared->Prop}(hu:A.units+8<cLine)(hd:Hd s.heap k u)(g1:s.heap.get? D'=some (dOb es ep))(en:Paired (EnK w s.heap) ks es.toList)(nd:ks.Nodup)(lt:ks.length<sizeLine)
  (q:∀ h' tk es' ep',Heap.SameBut D' s.heap h'->h'.get? D'=some (dOb es' ep')->XE w k u r ks es.toList es'.toList->Q () { s with heap:=h',toks:=tk }):wpAny (model prog w) A (dictSet D' u r) Q E s:=by
 have g3:(dOb es ep).data=.dict es ep:=rfl
 unfold dictSet
 refine AI (Aa (hd.hash hu λtk=>?_))
 unfold dictSetHashed
 refine AI (Aa (LX (s:={ s with toks:=tk }) hu hd g1 g3 en nd (λz=>?_) λj ej=>?_))
 ·have hz0:es.size≤sizeLine:=by rw [← Array.length_toList,← Df en];omega
  refine Aa (Bo (wpAny_updateDictKeys (s:={ s with toks:=tk }) g1 g3 (hz:=hz0) ?_))
  have so1:=AN (Obj.mapDictKeys (·.push ⟨CA w k,u,r⟩)) g1 (Obj.isFreed_of_dict (Obj.data_mapDictKeys g3 _))
  refine q _ _ (es.push ⟨CA w k,u,r⟩) (ep+1) (AA ..) so1 (.inl ⟨z,by rw [BW]⟩)
 ·have hje:j<es.size:=by rw [← Array.length_toList,← Df en];exact (Ae.mp ej).1
  refine Aa (Bo (Aa (wpAny_updateDict (s:={ s with toks:=tk }) g1 g3 (wpAny_point ?_))))
  have so1:=AN (Obj.mapDict (·.modify j λe=>{ e with val:=r })) g1 (Obj.isFreed_of_dict (Obj.data_mapDict g3 _))
  refine q _ _ (es.modify j λe=>{ e with val:=r }) ep (AA ..) so1 (.inr ⟨j,es[j],ej,by rw [Ax,Aq hje],?_⟩)
  rw [Array.toList_modify]
  refine Bs λi=>?_
  rw [List.getElem?_modify]
  by_cases c:j=i
  ·subst c
   rw [Cc (by simpa using hje)]
   simp [hje]
  ·rw [AM c]
   simp [c]
noncomputable def PrV (h:Heap)(x:D×V×V)(u:Value):Prop:=∃ p ku vu,u=.ref p∧h.IsTuple p #[ku,vu]∧Hd h x.1 ku∧RelV x.2.1 ku∧RelV x.2.2 vu
noncomputable def Hx (w:World)(a:List D×List (Int×V×V))(x:D×V×V):List D×List (Int×V×V):=((DX x.1 .non a.1 []).1,Kq x.1 (CA w x.1) x.2.1 x.2.2 a.1 a.2)
theorem Li {k v:D}{ks ds:List D}(n:ks.Nodup):(DX k v ks ds).1.Nodup∧(DX k v ks ds).1.length≤ks.length+1:=by
 unfold DX
 split
 ·exact ⟨n,BU _⟩
 ·rename_i z
  refine ⟨BY.mpr ⟨n,by simp,λx hx y hy=>?_⟩,by rw [As];exact Ag _⟩
  rw [Ao.mp hy]
  exact λe=>z (e▸hx)
theorem RK {a:List D×List (Int×V×V)}{x:D×V×V}(l:a.1.length=a.2.length)(n:a.1.Nodup):(Hx w a x).1.length=(Hx w a x).2.length:=by
 unfold Hx DX
 dsimp only
 by_cases z:x.1∈a.1
 ·obtain ⟨j,ej⟩:=AO.mp z
  have hj:j<a.2.length:=by rw [← l];exact (Ae.mp ej).1
  rw [if_pos z,Jo hj n ej,List.length_set]
  exact l
 ·rw [if_neg z,HN z l,As,As,l]
  rfl
noncomputable def T9 (w:World)(h0 h:Heap)(d:Addr)(a:List D×List (Int×V×V)):Prop:=∃ es ep,h.get? d=some (dOb es ep)∧Paired (EnK w h0) a.1 es.toList∧Paired EnV a.2 es.toList∧a.1.Nodup∧a.1.length=a.2.length
theorem Z9 {R:Result->Shared->Prop}(hu:A.in1.units+8<cLine){I d:Addr}{fp:List Addr}{P:Nat->Value->Prop}{St:Nat->Heap->Prop}{xs:List (D×V×V)}(W:Walks prog w A.in1 I fp [I] xs.length P St)(hdf:d∉fp){h0:Heap}(hI:h0.get? I=none)(hd:h0.get? d=none)(hval:∀ i v,P i v->∃ x,xs[i]? = some x∧PrV h0 x v){res:Value}(k:Nat) :
  ∀ (i:Nat) (s:Shared) (a:List D×List (Int×V×V)),i+k=xs.length->a.1.length≤i->xs.length≤sizeLine->St i s.heap->(∀ b o,h0.get? b=some o->s.heap.get? b=some o)->T9 w h0 s.heap d a ->
   (∀ h' tk,(∀ b o,b≠d->b≠I->s.heap.get? b=some o->h'.get? b=some o)->T9 w h0 h' d ((xs.drop i).foldl (Hx w) a)->R (.ok (.ret res)) { s with heap:=h',toks:=tk }) ->
   codeAny (model prog w) A (Code.builtin "dict.update.loop" ⟨[.ref d,.ref I,rawInt i,res],[]⟩) R s:=by
 have nI:I∈fp:=W.sub _ (by simp)
 have ndI:d≠I:=λz=>hdf (z▸nI)
 induction k with
 | zero =>
  intro i s a e la hz st hk hD hR
  obtain rfl:i=xs.length:=by omega
  refine Bc KY ?_
  rw [A5 Hc _]
  refine (?_:wpAny _ A.in1 (pyNext (.ref I) >>= _) _ _ s)
  refine Aa (W.done s _ _ st λh1 tk1 k1=>?_)
  refine (?_:wpAny _ A.in1 (Builtin.Dict.addKeywords d [] >>= _) _ _ _)
  refine Aa (Ab (Ab (hR h1 tk1 (λb o _ n e=>k1 b o (by simpa using n) e) ?_)))
  rw [List.drop_eq_nil_of_le (Ag _)]
  obtain ⟨es,ep,g,r⟩:=hD
  exact ⟨es,ep,k1 _ _ (by simpa using ndI) g,r⟩
 | succ k ih =>
  intro i s a e la hz st hk hD hR
  have lt:i<xs.length:=by omega
  refine Bc KY ?_
  rw [A5 Hc _]
  refine (?_:wpAny _ A.in1 (pyNext (.ref I) >>= _) _ _ s)
  refine Aa (W.item i s _ _ lt st λv h1 tk1 hP st1 k1=>?_)
  obtain ⟨x,ex,p,ku,vu,ev,⟨op,p1,p2,np,p3⟩,hk1,rk,rv⟩:=hval i v hP
  subst ev
  have hk':∀ b o,h0.get? b=some o->h1.get? b=some o:=λb o g=>k1 b o (by simpa using λz=>by rw [z,hI] at g;cases g) (hk b o g)
  refine (?_:wpAny _ A.in1 (holding [Value.ref p] _ >>= _) _ _ _)
  have ty:(Shared.TypeIs { s with heap:=h1,toks:=tk1 } (.ref p) "tuple"):=⟨op,hk' _ _ p1,p2⟩
  refine Aa (AI (Aa (wpAny_tryCatch ?_)))
  unfold Builtin.Dict.pairItems
  refine Aa (BC ty ?_)
  rw [if_pos (by decide)]
  refine Aa (Bp (hk' _ _ p1) p3 (Ab ?_))
  refine (?_:wpAny _ A.in1 (holding [ku,vu] (dictSet d ku vu)) _ _ _)
  obtain ⟨es,ep,g,en,pr,nd,l⟩:=hD
  have g':=k1 _ _ (by simpa using ndI) g
  refine AI (Aal (s:={ s with heap:=h1,toks:=tk1 }) (ks:=a.1) hu (hk1.keep hk') g' (Io en λk e q=>⟨q.1,q.2.keep hk'⟩) nd (by omega) λh2 tk2 es2 ep2 sb hD2 pe=>?_)
  have dr:xs.drop i=x::xs.drop (i+1):=by
   rw [BI lt]
   rw [Ak lt] at ex
   rw [AB ex]
  have hk2:∀ b o,h0.get? b=some o->h2.get? b=some o:=λb o z=>(sb.2 b λq:b=d=>by rw [q,hd] at z;cases z).trans (hk' b o z)
  have cast:rawInt ((i:Int)+1)=rawInt ((i+1:Nat):Int):=rfl
  rw [cast]
  refine Ab (And.intro (BV Hc _) (ih (i+1) _ (Hx w a x) (by omega) ?_ hz (W.frame _ h1 _ st1 λb hb o z=>(sb.2 b λq:b=d=>hdf (q▸hb)).trans z) hk2 ⟨es2,ep2,hD2,U0 hk1 en pe .non [],Tj nd l pr rk rv pe,(Li nd).1,RK l nd⟩ λh3 tk3 k3 hS3=>hR h3 tk3 (λb o b1 b2 z=>?_) ?_))
  ·have:=(Li (k:=x.1) (v:=.non) (ds:=[]) nd).2
   unfold Hx
   dsimp only
   omega
  ·exact k3 b o b1 b2 ((sb.2 b b1).trans (k1 b o (by simpa using b2) z))
  ·rw [dr];exact hS3
end
theorem UW:typeLookup (.type "tuple") "keys"=pure none:=by rw [typeLookup_type,builtinLookup_eq_fast];kernel_rfl
theorem Tt:typeLookup (.type "list") "keys"=pure none:=by rw [typeLookup_type,builtinLookup_eq_fast];kernel_rfl
theorem gAL {prog:Program}{w:World}{A:Around}{E:Value->Shared->Prop}{s:Shared}{a:Addr}{o:Obj}{xs:Array Value}{k:Nat}{Q:Option Value->Shared->Prop}
  (g:s.heap.get? a=some o) (hc:o.cls=.type "list") (ht:o.data=.seq xs k) (hd:o.dict=none) (hA:A.handled=none)
  (q:∀ h' tk,(∀ b ob,s.heap.get? b=some ob->h'.get? b=some ob)->Q none { s with heap:=h',toks:=tk }):wpAny (model prog w) A (getAttr? (.ref a) "keys") Q E s:=by
 obtain ⟨c,dct,dat,sl⟩:=o
 simp only at hc ht hd
 subst hc ht hd
 obtain ⟨hp,gn,dr,tk,os⟩:=s
 have hT:∀ tk',(⟨hp,gn,dr,tk',os⟩:Shared).TypeIs (.ref a) "list":=λ_=>⟨_,g,rfl⟩
 have f1:=sub_AttributeError
 have f3:=F.slot_list_getattribute.lookup
 have f4:=F.slot_list_getattribute.bind (.ref a)
 have f5:=am_list_getattr_none
 (unfold getAttr? getAttrBy? getAttrBy)
 repeat (any_goals (first|assumption|exact hT _|((with_reducible show wpAny _ _ (call (Value.builtin "list.__getattribute__") _ _) _ _ _);refine call_meets F.slot_list_getattribute (hT _) am_entry_list_getattribute (F.args_list_getattribute_2 _ _) (meets_getattribute_miss_list a xs k sl "keys" _ Tt (by decide +kernel)) ⟨g,hA,λh' tk' e hx'=>?_⟩)|wp_step))
 obtain ⟨t',u',he⟩:=hx'.there
 (show wpAny _ _ (getattributeRaised _ _ _ _ _ _ _) _ _ _)
 unfold getattributeRaised
 repeat (any_goals (first|assumption|wp_step))
 exact q _ _ hx'.keeps
theorem gAT {prog:Program}{w:World}{A:Around}{E:Value->Shared->Prop}{s:Shared}{a:Addr}{o:Obj}{xs:Array Value}{k:Nat}{Q:Option Value->Shared->Prop}
  (g:s.heap.get? a=some o) (hc:o.cls=.type "tuple") (ht:o.data=.seq xs k) (hd:o.dict=none) (hA:A.handled=none)
  (q:∀ h' tk,(∀ b ob,s.heap.get? b=some ob->h'.get? b=some ob)->Q none { s with heap:=h',toks:=tk }):wpAny (model prog w) A (getAttr? (.ref a) "keys") Q E s:=by
 obtain ⟨c,dct,dat,sl⟩:=o
 simp only at hc ht hd
 subst hc ht hd
 obtain ⟨hp,gn,dr,tk,os⟩:=s
 have hT:∀ tk',(⟨hp,gn,dr,tk',os⟩:Shared).TypeIs (.ref a) "tuple":=λ_=>⟨_,g,rfl⟩
 have f1:=sub_AttributeError
 have f3:=F.slot_tuple_getattribute.lookup
 have f4:=F.slot_tuple_getattribute.bind (.ref a)
 have f5:=am_tuple_getattr_none
 (unfold getAttr? getAttrBy? getAttrBy)
 repeat (any_goals (first|assumption|exact hT _|((with_reducible show wpAny _ _ (call (Value.builtin "tuple.__getattribute__") _ _) _ _ _);refine call_meets F.slot_tuple_getattribute (hT _) am_entry_tuple_getattribute (F.args_tuple_getattribute_2 _ _) (meets_getattribute_miss_tuple a xs k sl "keys" _ UW (by decide +kernel)) ⟨g,hA,λh' tk' e hx'=>?_⟩)|wp_step))
 obtain ⟨t',u',he⟩:=hx'.there
 (show wpAny _ _ (getattributeRaised _ _ _ _ _ _ _) _ _ _)
 unfold getattributeRaised
 repeat (any_goals (first|assumption|wp_step))
 exact q _ _ hx'.keeps
theorem set_same {α:Type}{xs:List α}{j:Nat}(hj:j<xs.length):xs.set j xs[j]=xs:=by
 refine Bs λi=>?_
 by_cases c:j=i
 ·subst c;simp [hj]
 ·rw [AM c]
theorem Us {K:Zc}{th:List Addr}{H:Hp}{ks vs:List D}{xs:List (Int×V×V)}{k v:D}{kv vv:V}(h:rpD K th H (ks,vs) xs)(hk:D7 k=true)(rk:Rep K th H k kv)(rv:Rep K th H v vv)(lt:ks.length<sizeLine):rpD K th H (DX k v ks vs) (Kq k (CA K.w k) kv vv ks xs):=by
 obtain ⟨r1,r2,r3,r4⟩:=h
 dsimp only at r1 r2 r3 r4
 have xl:ks.length=xs.length:=by have:=r2.len;simpa using this.symm
 by_cases z:k∈ks
 ·obtain ⟨j,ej⟩:=AO.mp z
  have hj:j<xs.length:=by rw [← xl];exact (Ae.mp ej).1
  rw [Jo hj r4.nd ej]
  unfold DX
  rw [if_pos z,LM r4.nd ej]
  have m1:(xs.set j (xs[j].1,xs[j].2.1,vv)).map (·.1)=xs.map (·.1):=by
   rw [List.map_set]
   have:=set_same (xs:=xs.map (·.1)) (j:=j) (by simpa using hj)
   simpa using this
  have m2:(xs.set j (xs[j].1,xs[j].2.1,vv)).map (·.2.1)=xs.map (·.2.1):=by
   rw [List.map_set]
   have:=set_same (xs:=xs.map (·.2.1)) (j:=j) (by simpa using hj)
   simpa using this
  refine ⟨m1.trans r1,by rw [m2];exact r2,by rw [List.map_set];exact r3.setAt j rv,r4⟩
 ·rw [HN z xl]
  unfold DX
  rw [if_neg z]
  refine ⟨?_,?_,?_,?_⟩
  ·rw [Bd,r1,Fy,Fy,Bd];rfl
  ·rw [Bd];exact r2.app (.cons rk .nil)
  ·rw [Bd];exact r3.app (.cons rv .nil)
  ·refine ⟨by rw [As];exact lt,?_,λk' hk'=>?_⟩
   ·refine BY.mpr ⟨r4.nd,by simp,λx hx y hy=>?_⟩
    rw [Ao.mp hy]
    exact λe=>z (e▸hx)
   ·rcases AH.mp hk' with w'|w'
    ·exact r4.ok k' w'
    ·rw [Ao.mp w'];exact hk
noncomputable def pairsOf:List D->Option (List (D×D))
 | []=>some []
 | .tup [k,v]::ds=>if D7 k=true then (pairsOf ds).map ((k,v)::·) else none
 | _=>none
theorem H0 {d:D}{ds:List D}{ps:List (D×D)}(h:pairsOf (d::ds)=some ps):∃ k v r,d=.tup [k,v]∧D7 k=true∧pairsOf ds=some r∧ps=(k,v)::r:=by
 unfold pairsOf at h
 split at h
 ·cases ‹_::_=[]›
 ·rename_i k v ds' e
  cases e
  by_cases c:D7 k=true
  ·rw [if_pos c] at h
   cases e2:pairsOf ds with
   | none=>rw [e2] at h;cases h
   | some r=>rw [e2] at h;cases h;exact ⟨k,v,r,rfl,c,rfl,rfl⟩
  ·rw [if_neg c] at h;cases h
 ·cases h
theorem IT:∀ {ds:List D} {ps:List (D×D)},pairsOf ds=some ps->ps.length=ds.length
 | [],_,h=>by cases h;rfl
 | d::ds,ps,h=>by
  obtain ⟨k,v,r,rfl,_,h',rfl⟩:=H0 h
  rw [List.length_cons,List.length_cons,IT h']
noncomputable def putAll (p:List D×List D)(ps:List (D×D)):List D×List D:=ps.foldl (λp x=>DX x.1 x.2 p.1 p.2) p
noncomputable def dctP:Fn:=λds mu=>match sq1 ds mu with
 | some es=>match pairsOf es with
  | some ps=>some (.dct (putAll ([],[]) ps).1 (putAll ([],[]) ps).2,mu)
  | none=>none
 | none=>none
section
variable {X:Cx} {K:Zc} {th:List Addr} {mu:Sto} {H:Hp} {pins:List (Addr×Obj)} {st:L2.St} {s:Shared}
theorem Rq {ds:List D}{r:D×Sto}(h:dctP ds mu=some r):∃ d es ps,ds=[d]∧G0 mu d=some es∧pairsOf es=some ps∧r=(.dct (putAll ([],[]) ps).1 (putAll ([],[]) ps).2,mu):=by
 unfold dctP at h
 split at h
 ·rename_i es e
  split at h
  ·rename_i ps e2
   cases h
   obtain ⟨d,rfl,e3⟩:=HG e
   exact ⟨d,es,ps,rfl,e3,e2,rfl⟩
  ·cases h
 ·cases h
noncomputable def PrR (K:Zc)(th:List Addr)(H:Hp)(p:D×D)(x:D×V×V):Prop:=p.1=x.1∧D7 p.1=true∧Rep K th H p.1 x.2.1∧Rep K th H p.2 x.2.2
theorem Ip (I:L2.Inv X pins st H s):∀ {es:List D} {ps:List (D×D)} {vs:List V} {us:List Value},pairsOf es=some ps->RepL X.z th H es vs->Vals vs us->∃ xs:List (D×V×V),Paired (PrR X.z th H) ps xs∧Paired (PrV s.heap) xs us
 | [],ps,vs,us,h,r,q=>by
  cases h
  rw [r.inv0] at q
  cases q
  exact ⟨[],.nil,.nil⟩
 | d::ds,ps,vs,us,h,r,q=>by
  obtain ⟨k,v,ps',rfl,hk,h',rfl⟩:=H0 h
  obtain ⟨x,rs,rfl,rx,rr⟩:=r.inv
  cases q with
  | cons q1 q2 =>
   obtain ⟨xs,a,b⟩:=Ip I h' rr q2
   unfold Rep at rx
   obtain ⟨p,pv,rfl,hsq,hl,hz⟩:=rx
   obtain ⟨kv,vv,rfl,rk,rv⟩:=Gb hl
   cases q1
   obtain ⟨its,rvs,pl,hz'⟩:=I.tuple hsq
   obtain ⟨ku,vu,rfl,rku,rvu⟩:=vals2 rvs
   exact ⟨(k,kv,vv)::xs,.cons ⟨rfl,hk,rk,rv⟩ a,.cons ⟨p,ku,vu,rfl,let ⟨o,ho,hcl,n,hdt⟩:=pl;⟨o,ho,hcl,n,hdt⟩,Ii I hk rk rku,rku,rvu⟩ b⟩
theorem N5 {ps:List (D×D)}{xs:List (D×V×V)}(hx:Paired (PrR K th H) ps xs):∀ {p:List D×List D} {a:List D×List (Int×V×V)},p.1=a.1->rpD K th H p a.2->p.1.length+ps.length≤sizeLine ->
  (putAll p ps).1=(xs.foldl (Hx K.w) a).1∧rpD K th H (putAll p ps) (xs.foldl (Hx K.w) a).2:=by
 induction hx with
 | nil=>exact λe r _=>⟨e,r⟩
 | cons hx t ih =>
  rename_i q x ps xs
  intro p a e r l
  obtain ⟨e1,e2,e3,e4⟩:=hx
  obtain ⟨ks,vs⟩:=p
  obtain ⟨as,ax⟩:=a
  dsimp only at e r
  subst e
  have l':ks.length+(ps.length+1)≤sizeLine:=l
  have r':=Us r e2 e3 e4 (by omega)
  unfold putAll
  rw [List.foldl_cons,List.foldl_cons]
  refine ih (p:=DX q.1 q.2 ks vs) (a:=Hx K.w (ks,ax) x) ?_ ?_ ?_
  ·unfold Hx DX;dsimp only;rw [e1];split<;>rfl
  ·unfold Hx;dsimp only;rw [← e1];exact r'
  ·have:=(Li (k:=q.1) (v:=q.2) (ds:=vs) r.2.2.2.nd).2
   have this':(DX q.1 q.2 ks vs).1.length≤ks.length+1:=this
   omega
end
section
variable {prog:Program} {w:World} {A:Around} {E:Value->Shared->Prop} {s:Shared}
theorem VC {l:Addr}{ol:Obj}{T:String}{us:List Value}{xs:List (D×V×V)}{Q:Value->Shared->Prop}(hu:A.units+16<cLine)(hbig:sysModules<s.heap.objs.size)(hz:xs.length≤sizeLine)(hol:s.heap.get? l=some ol)(hcl:ol.cls=.type T)(hT:(Value.type T != Value.type "dict")=true)
  (hga:∀ (A':Around) (s1:Shared) (Q:Option Value->Shared->Prop) (E:Value->Shared->Prop),A'.handled=A.handled->s1.heap.get? l=some ol->(∀ h' tk,(∀ b ob,s1.heap.get? b=some ob->h'.get? b=some ob)->Q none { s1 with heap:=h',toks:=tk })->wpAny (model prog w) A' (getAttr? (.ref l) "keys") Q E s1)
  (hit:∀ E,YieldsV prog w A E s.heap l us) (pr:Paired (PrV s.heap) xs us)
  (q:∀ h' tk d',(∀ b o,s.heap.get? b=some o->h'.get? b=some o)->T9 w s.heap h' s.heap.objs.size (xs.foldl (Hx w) ([],[]))->Q (.ref s.heap.objs.size) { s with heap:=h',toks:=tk,drawn:=d' }) :
  wpAny (model prog w) A (call (.type "dict") [.ref l]) Q E s:=by
 refine callType_codes (Q₁:=λobj s₁=>obj=.ref s.heap.objs.size∧s₁={ s with heap:=s.heap.push { cls:=.type "dict",data:=.dict #[] } }) F.kt_called_dict (F.kt_typeCall_dict_1 _) F.entry_dict_init (kt_code_dict_new _ ⟨rfl,rfl⟩) ?_
 rintro obj s₁ ⟨rfl,rfl⟩
 have gl:(s.heap.push { cls:=.type "dict",data:=.dict #[] }).get? l=some ol:=Ad _ hol
 have gd:(s.heap.push { cls:=.type "dict",data:=.dict #[] }).get? s.heap.objs.size=some (dOb #[] 0):=Ai _ rfl
 have tyd:Shared.TypeIs { s with heap:=s.heap.push { cls:=.type "dict",data:=.dict #[] } } (.ref s.heap.objs.size) "dict":=⟨_,gd,rfl⟩
 have ty:Shared.TypeIs { s with heap:=s.heap.push { cls:=.type "dict",data:=.dict #[] } } (.ref l) T:=⟨ol,gl,hcl⟩
 refine ⟨tyd,F.args_dict_init_2 _ _,?_⟩
 (unfold Builtin.«dict.__init__»)
 refine Aa ?_
 (unfold Builtin.Dict.selfAndRest)
 refine Aa (wpAny_notOrdered_dict tyd (?_:wpAny _ _ (pure (s.heap.objs.size,[Value.ref l])) _ _ _))
 refine Ab (?_:wpAny _ _ (Builtin.Dict.updateFrom "dict.__init__" s.heap.objs.size (.ref l) [] .none) _ _ _)
 (unfold Builtin.Dict.updateFrom)
 refine Aa (BC ty ?_)
 rw [if_pos hT]
 refine Aa (hga _ { s with heap:=s.heap.push { cls:=.type "dict",data:=.dict #[] } } _ _ rfl gl λh1 tk1 k1=>?_)
 rw [if_pos (by rfl)]
 refine Aa (Bo ?_)
 have k0:∀ b ob,s.heap.get? b=some ob->h1.get? b=some ob:=λb ob e=>k1 _ _ (Ad _ e)
 have hnd:h1.get? s.heap.objs.size=some (dOb #[] 0):=k1 _ _ gd
 have lt1:s.heap.objs.size<h1.objs.size:=Al hnd
 refine Aa (hit _ { s with heap:=h1,toks:=tk1 } _ _ rfl k0 λI fp h2 d2 P St hI fpl fpn W st0 k2 hval=>?_)
 have hI':h1.objs.size≤I:=hI
 have nf:s.heap.objs.size∉fp:=λz=>by
  rcases fpn _ z with q|⟨o,q⟩
  ·exact absurd (AD lt1 q) (A6 _)
  ·exact absurd (Al q) (A6 _)
 have xl:xs.length=us.length:=Df pr
 have W':Walks prog w A.in1.in1 I fp [I] xs.length P St:=by rw [xl];exact W _ rfl
 refine Ab ⟨BV Hc _,?_⟩
 refine Z9 (A:=A.in1) (by show A.units+1+1+8<cLine;omega) W' nf (h0:=s.heap) (B5 (AJ (Nat.le_of_lt lt1) hI')) (B5 (Ag _)) (λi v hP=>?_) xs.length 0 { s with heap:=h2,toks:=tk1,drawn:=d2 } ([],[]) (BE _) (AW _) hz st0 (λb o e=>k2 _ _ (k0 b o e)) ⟨#[],0,k2 _ _ hnd,.nil,.nil,List.nodup_nil,rfl⟩ λh' tk k3 hD=>⟨rfl,q h' tk d2 (λb o e=>?_) hD⟩
 ·obtain ⟨x,x1,x2⟩:=(Dh pr i).2 v (hval i v hP)
  exact ⟨x,x1,x2⟩
 ·have bl:=Al e
  exact k3 b o (Au bl) (Au (AD (Nat.lt_trans bl lt1) hI')) (k2 _ _ (k0 b o e))
end
theorem YieldsV.any {prog:Program}{w:World}{A:Around}{h:Heap}{l:Addr}{us:List Value}(y:YieldsV prog w A (λ_ _=>False) h l us)(E:Value->Shared->Prop):YieldsV prog w A E h l us:=λs1 A' R hA hk hR=>B2 (y s1 A' R hA hk hR) (λ_ _ z=>z) λ_ _ z=>z.elim
section
variable {X:Cx} {K:Zc} {th:List Addr} {mu:Sto} {H:Hp} {pins:List (Addr×Obj)} {st:L2.St} {s:Shared}
theorem Qv (hu:X.A.units+64<cLine)(hc:X.calm=true):CallV X (.type "dict") dctP:=by
 intro pins s st H xs us Q I r h
 obtain ⟨th,mu,ds,so,rd,t⟩:=h
 obtain ⟨a0,mu0,e0,_⟩:=id t
 obtain ⟨d,es,ps,rfl,e2,e3,er⟩:=Rq e0
 rw [e0] at t
 cases er
 obtain ⟨x,rfl,rx⟩:=DA rd
 obtain ⟨a,vs,rfl,h1,h2,h3⟩:=Fi so e2 rx
 obtain ⟨u,rfl,ru⟩:=vals1 r
 cases ru
 have pl:ps.length=es.length:=IT e3
 have fin:∀ (xs:List (D×V×V)),Paired (PrR X.z th H) ps xs->∀ h' tk d',(∀ b o,s.heap.get? b=some o->h'.get? b=some o)->T9 X.w s.heap h' s.heap.objs.size (xs.foldl (Hx X.w) ([],[]))->EP X pins st Q (.ref s.heap.objs.size) { s with heap:=h',toks:=tk,drawn:=d' }:=λxs pr h' tk d' hk hD=>by
  have hp:H s.heap.objs.size=none:=I.hok.fresh (Ag _)
  obtain ⟨es',ep,g,en,pv,nd,l⟩:=hD
  obtain ⟨_,r1,r2,r3,r4⟩:=N5 (K:=X.z) (p:=([],[])) (a:=([],[])) pr rfl ⟨rfl,.nil,.nil,.nil⟩ (by rw [pl];simpa using h3)
  have I0:L2.Inv X pins st H { s with drawn:=d' }:=⟨I.ok,I.os,I.bare,I.base,I.loc,I.cell,I.free,I.freeC,I.pin,I.hok,I.len⟩
  refine ⟨.ref s.heap.objs.size,_,I0.laid (h':=h') (t':=tk) (o:=E1 s.heap.objs.size (xs.foldl (Hx X.w) ([],[])).2) hk (Ag _) (JN ⟨by simpa using BQ (J8 I),_,es',ep,g,⟨rfl,rfl,rfl⟩,rfl,pv⟩),rfl,?_⟩
  refine t.retX (.new hp _) (so.new hp _) _ ?_
  unfold Rep
  have ex:Ext th H th (upd H s.heap.objs.size (E1 s.heap.objs.size (xs.foldl (Hx X.w) ([],[])).2)):=.new hp _
  exact ⟨_,_,rfl,so.notin hp,Dw,r1,r2.ext ex so.out,r3.ext ex so.out,r4⟩
 have zl:∀ {xs:List (D×V×V)},Paired (PrR X.z th H) ps xs->xs.length≤sizeLine:=λq=>by rw [← Df q,pl];exact h3
 have hh:=I.ok.hd hc
 rcases h1 with h1|⟨h1,_⟩
 ·obtain ⟨its,rv,pl',hz⟩:=I.list h1
  obtain ⟨o,n,ho,hcl,hdd,hdt⟩:=id pl'
  obtain ⟨us,q,y,_⟩:=GU (E:=λ_ _=>False) I hc h1
  obtain ⟨xs,p1,p2⟩:=Ip I e3 h2 q
  refine VC (us:=us) (xs:=xs) (by omega) (J8 I) (zl p1) ho hcl (by decide) (λA' s1 Q' E' hA hg hq=>gAL hg hcl hdt hdd (hA.trans hh) hq) y.any p2 (fin xs p1)
 ·obtain ⟨its,rv,pl',hz⟩:=I.tuple h1
  obtain ⟨o,ho,hcl,n,hdt⟩:=id pl'
  obtain ⟨o2,ho2,hdd,_⟩:=I.tupleD h1
  rw [ho] at ho2
  cases ho2
  obtain ⟨us,q,y,_⟩:=Gd (E:=λ_ _=>False) I hc h1
  obtain ⟨xs,p1,p2⟩:=Ip I e3 h2 q
  refine VC (us:=us) (xs:=xs) (by omega) (J8 I) (zl p1) ho hcl (by decide) (λA' s1 Q' E' hA hg hq=>gAT hg hcl hdt hdd (hA.trans hh) hq) y.any p2 (fin xs p1)
end
theorem Qn:fillsNumberSlot (.type "tuple") "mul"=pure false:=
 PySem.fillsNumberSlot_seq (id:="tuple.__mul__") (r:=some (.builtin "tuple.__rmul__")) F.slot_tuple_mul.lookup (by decide +kernel) F.slot_tuple_rmul.lookup (by decide +kernel)
theorem Sv:seqRepeat? (.type "tuple")=pure (some (.builtin "tuple.__mul__")):=by
 unfold seqRepeat?
 rw [PySem.seqSlot_of (T:="tuple") (name:="__mul__") (id:="tuple.__mul__") F.slot_tuple_mul.lookup (by decide +kernel),PySem.seqSlot_of (T:="tuple") (name:="__rmul__") (id:="tuple.__rmul__") F.slot_tuple_rmul.lookup (by decide +kernel)]
 rfl
theorem U6 (a:Int)(t:Tok)(l:Addr)(items:Array Value)(n:Nat)(dc:Option Addr)(sl:Array (Option Value)) :
  Meets (Builtin.«int.__rmul__» ⟨[.int a t,.ref l],[]⟩) (λ_ R s=>s.heap.get? l=some { cls:=.type "tuple",dict:=dc,data:=.seq items n,slots:=sl }∧R (.ok (.ret Value.notImplemented)) s):=
 .of_wp λprog w A R s h=>by obtain ⟨hp,g,d,tk,os⟩:=s;obtain ⟨hl,h⟩:=h;wp_walk;exact ⟨_,rfl,h⟩
theorem X9 (l:Addr)(items:Array Value)(n:Nat)(dc:Option Addr)(sl:Array (Option Value))(x:Int)(u:Tok)(h1:2≤x)(h2:x<2 ^ 62)(hne:items.isEmpty=false)(hz:items.size*x.toNat≤1000) :
  Meets (Builtin.«tuple.__mul__» ⟨[.ref l,.int x u],[]⟩) (λ_ R s=>s.heap.get? l=some { cls:=.type "tuple",dict:=dc,data:=.seq items n,slots:=sl }∧R (.ok (.ret (Value.ref s.heap.objs.size))) { s with heap:=s.heap.push { cls:=Value.type "tuple",data:=Data.seq (List.foldl (λx1 x2=>x1++x2) #[] (List.replicate x.toNat items)) },toks:=s.toks }):=
 .of_wp λprog w A R s h=>by
  obtain ⟨hp,g,d,tk,os⟩:=s;obtain ⟨hl,h⟩:=h
  have c1:(decide (x < -(2 ^ 63))||decide (x ≥ 2 ^ 63))=false:=by simp;omega
  have c2:(items.isEmpty||x==1)=false:=by rw [hne];simp;omega
  have c3:(decide (x≤0)||items.isEmpty)=false:=by rw [hne];simp;omega
  wp_walk
  rw [if_neg (by rw [c1];exact AE)]
  wp_walk
  rw [if_neg (by rw [c2];exact AE)]
  wp_walk
  rw [if_neg (by rw [c3];exact AE)]
  have ex:(x.toNat:Int)=x:=Int.toNat_of_nonneg (by omega)
  have ez:((items.size:Int)*x)=((items.size*x.toNat:Nat):Int):=by rw [Int.natCast_mul,ex]
  have c4:¬ ((items.size:Int)*x > (2 ^ 63-1) / 8):=by rw [ez];omega
  have c5:¬ (Builtin.Tuple.tupleTooMany ((items.size:Int)*x)=true):=by
   unfold Builtin.Tuple.tupleTooMany
   rw [ez,Af]
   have:(1000:Int)≤(sizeLine:Int):=by decide
   omega
  refine FP (λz=>absurd z c4) λ_=>?_
  refine FP (λz=>absurd z c5) λ_=>?_
  (unfold Builtin.Tuple.tupleExact)
  have hzz:(List.foldl (λx1 x2=>x1++x2) #[] (List.replicate x.toNat items)).size≤sizeLine:=by
   have gen:∀ (k:Nat) (b:Array Value),(List.foldl (λx1 x2=>x1++x2) b (List.replicate k items)).size=b.size+k*items.size:=by
    intro k
    induction k with
    | zero=>intro b;simp
    | succ k ih=>intro b;rw [List.replicate_succ,List.foldl_cons,ih,Array.size_append,Nat.succ_mul];omega
   rw [gen,Nat.mul_comm]
   have:1000≤sizeLine:=by decide
   simp only [Array.size_empty]
   omega
  exact Aa (AR (hd:=hzz) (Ab ⟨_,rfl,h⟩))
theorem Y9 (l:Addr)(items:Array Value)(n:Nat)(dc:Option Addr)(sl:Array (Option Value))(u:Tok) :
  Meets (Builtin.«tuple.__mul__» ⟨[.ref l,.int 1 u],[]⟩) (λ_ R s=>s.heap.get? l=some { cls:=.type "tuple",dict:=dc,data:=.seq items n,slots:=sl }∧R (.ok (.ret (Value.ref l))) s):=
 .of_wp λprog w A R s h=>by
  obtain ⟨hp,g,d,tk,os⟩:=s;obtain ⟨hl,h⟩:=h
  wp_walk
  exact ⟨_,rfl,h⟩
section
variable {X:Cx} {K:Zc} {th:List Addr} {mu:Sto} {H:Hp}
noncomputable def TZ (d e:D)(mu:Sto):Rs D:=match d,e with
 | .tup (x::xs),.int n=>if 1≤n∧n<1000∧(x::xs).length*n.toNat≤1000 then some (.tup (List.replicate n.toNat (x::xs)).flatten,mu) else none
 | _,_=>none
theorem M4 {ds:List D}{vs:List V}(r:RepL K th H ds vs):∀ k:Nat,RepL K th H (List.replicate k ds).flatten (List.replicate k vs).flatten
 | 0=>.nil
 | k+1=>by
  rw [List.replicate_succ,List.replicate_succ,List.flatten_cons,List.flatten_cons]
  exact r.app (M4 r k)
theorem Ux:OpV X (binaryOp .Mult) TZ:=by
 intro pins s st H x y v u Q I rx ry h
 obtain ⟨th,mu,d,e,so,r1,r2,t⟩:=h
 unfold TZ at t
 split at t
 ·rename_i x0 xs n
  by_cases c:1≤n∧n<1000∧(x0::xs).length*n.toNat≤1000
  ·rw [if_pos c] at t
   unfold Rep at r1 r2
   obtain ⟨a,vs,rfl,h1,h2,h3⟩:=r1
   subst r2
   cases rx
   obtain ⟨tk,rfl⟩:=ry
   obtain ⟨its,rv,p1,_⟩:=I.tuple h1
   obtain ⟨⟨cls,dd,data,sl⟩,ho,hc,m,hd⟩:=id p1
   simp only at hc hd
   subst hc hd
   refine wpAny_binaryOp_repeat_ref (T:="tuple") (U:="int") (by decide) ⟨_,ho,rfl⟩ (λs'=>typeIs_int s' n tk) Qn F.fills_int_mul F.slot_int_rmul Sv F.slot_int_index.lookup
    (call_meets F.slot_int_rmul (typeIs_int s n tk) F.entry_int_rmul (F.args_int_rmul_2 _ _) (U6 n tk a its.toArray m dd sl) ⟨ho,rfl,⟨_,ho,rfl⟩,?_⟩)
   have il:its.length=(x0::xs).length:=by rw [← rv.length,h2.len]
   by_cases c1:n=1
   ·subst c1
    refine call_meets F.slot_tuple_mul ⟨_,ho,rfl⟩ F.entry_tuple_mul (F.args_tuple_mul_2 _ _) (Y9 a its.toArray m dd sl tk) ⟨ho,?_⟩
    refine ⟨.ref a,H,I,rfl,t.ret so _ ?_⟩
    show Rep X.z th H (.tup (List.replicate 1 (x0::xs)).flatten) (.ref a)
    rw [show (List.replicate 1 (x0::xs)).flatten=x0::xs by simp]
    unfold Rep
    exact ⟨a,vs,rfl,h1,h2,h3⟩
   ·refine call_meets F.slot_tuple_mul ⟨_,ho,rfl⟩ F.entry_tuple_mul (F.args_tuple_mul_2 _ _) (X9 a its.toArray m dd sl n tk (by omega) (by omega) (by cases its with|nil=>simp at il|cons _ _=>rfl) (by rw [Av,il];exact c.2.2)) ⟨ho,?_⟩
    have hp:H s.heap.objs.size=none:=I.hok.fresh (Ag _)
    have hz:(List.replicate n.toNat vs).flatten.length≤sizeLine:=by
     rw [len_rep,h2.len,Nat.mul_comm]
     exact AJ c.2.2 (by decide)
    have ea:List.foldl (λx1 x2=>x1++x2) #[] (List.replicate n.toNat its.toArray)=(List.replicate n.toNat its).flatten.toArray:=by
     have:=foldl_rep its n.toNat []
     rw [List.nil_append] at this
     exact this
    rw [ea]
    refine ⟨.ref s.heap.objs.size,_,I.laid (t':=s.toks) (o:=.tup (List.replicate n.toNat vs).flatten) (λb ob q=>Ad _ q) (Ag _) ?_,rfl,t.retX (.new hp _) (so.new hp _) _ (Rep.newTup so hp (M4 h2 _) ?_)⟩
    ·exact ⟨⟨hz,⟨_,Ai _ rfl,rfl⟩⟩,_,rv.rep n.toNat,IsTup.new _ _⟩
    ·rw [len_rep,Nat.mul_comm]
     exact AJ c.2.2 (by decide)
  ·rw [if_neg c] at t;exact t.no.elim
 ·exact t.no.elim
noncomputable def QD (d e:D)(mu:Sto):Rs D:=match Fp d e mu with
 | some r=>some r
 | none=>TZ d e mu
theorem TR:OpV X (binaryOp .Mult) QD:=OpV.or EB Ux
end
section
variable {prog:Program} {w:World} {A:Around} {E:Value->Shared->Prop} {s:Shared}
mutual
theorem OQ:∀ (n:Nat) (d:D) (u:Value) (as:List Addr) (A:Around) (s:Shared) (Q:Bool->Shared->Prop),hsh d=true->dpt d≤n->Reads s.heap u (toPy d) as->Q false s->wpAny (model prog w) A (ofAClassStatement n u) Q E s
 | n,.non,_,as,A,s,Q,_,_,x,h=>by cases x;unfold ofAClassStatement;exact Ab h
 | n,.int _,_,as,A,s,Q,_,_,x,h=>by cases x;unfold ofAClassStatement;exact Ab h
 | n,.str _,_,as,A,s,Q,_,_,x,h=>by cases x;unfold ofAClassStatement;exact Ab h
 | n,.tup ds,_,as,A,s,Q,hk,hn,x,h=>by
  unfold toPy at x
  cases x with
  | @tuple a o vs k _ _ g1 g2 g3 hw =>
   unfold dpt at hn
   obtain ⟨m,rfl⟩:∃ m,n=m+1:=⟨n-1,by omega⟩
   have hT:s.TypeIs (.ref a) "tuple":=⟨o,g1,g2⟩
   unfold ofAClassStatement
   refine Aa (BC hT ?_)
   refine (?_:wpAny _ _ ((if (("tuple":String)=="tuple")=true then pure true else isSubtype (.type "tuple") (.type "tuple")) >>= _) _ _ s)
   refine Aa (Ab ?_)
   simp only [Bool.not_true,Az,A7]
   refine Aa (Bp g1 g3 (?_:wpAny _ _ (_ >>= _) _ _ s))
   refine Aa ?_
   refine (?_:wpAny _ _ (forIn vs _ _) _ _ s)
   rw [← Array.forIn_toList]
   exact MG m ds vs.toList as A s _ (by unfold hsh at hk;exact hk) (by omega) hw (Ab h)
 | _,.bl _,_,_,_,_,_,h,_,_,_=>nomatch h
 | _,.lst _,_,_,_,_,_,h,_,_,_=>nomatch h
 | _,.dct _ _,_,_,_,_,_,h,_,_,_=>nomatch h
 | _,.set _,_,_,_,_,_,h,_,_,_=>nomatch h
 | _,.ref _,_,_,_,_,_,h,_,_,_=>nomatch h
theorem MG:∀ (m:Nat) (ds:List D) (vs:List Value) (as:List Addr) (A:Around) (s:Shared) (Q:Option Bool×PUnit->Shared->Prop),FA ds=true->Ib ds≤m->ReadsAll s.heap vs (CD ds) as->Q (none,PUnit.unit) s ->
  wpAny (model prog w) A (forIn vs ((none,PUnit.unit):Option Bool×PUnit) λy r=>do
    let q←ofAClassStatement m y
    if q=true then pure (ForInStep.done (some true,PUnit.unit)) else pure (ForInStep.yield (none,PUnit.unit))) Q E s
 | m,[],_,as,A,s,Q,_,_,x,h=>by unfold CD at x;cases x;exact Ab h
 | m,d::ds,_,as,A,s,Q,hk,hn,x,h=>by
  unfold CD at x
  cases x with
  | cons x1 x2 =>
   unfold FA at hk
   rw [Ac] at hk
   unfold Ib at hn
   rw [B9]
   refine Aa (Aa (OQ m d _ _ A s _ hk.1 (by omega) x1 ?_))
   simp only [Az,A7]
   exact Ab (MG m ds _ _ A s Q hk.2 (by omega) x2 h)
end
theorem Hd.class {d:D}{u:Value}{Q:Bool->Shared->Prop}(x:Hd s.heap d u)(h:Q false s):wpAny (model prog w) A (ofAClassStatement 8 u) Q E s:=by
 obtain ⟨as,r⟩:=x.rd
 have k:=DU x.k
 exact OQ 8 d u as A s Q k.1 k.2 r h
theorem WI {k:D}{u:Value}{stored:List Value}{Q:Bool->Shared->Prop}(hk:Hd s.heap k u)(hst:∀ v∈stored,∃ k',Hd s.heap k' v)(h:Q false s):wpAny (model prog w) A (searchCouldBeSeen u stored) Q E s:=by
 unfold searchCouldBeSeen
 refine Aa (wpAny_forIn_list _ (λrest b s'=>s'=s∧b=(none,PUnit.unit)∧∀ v∈rest,v∈stored) _ ?_ ?_ _ _ ⟨rfl,rfl,λv hv=>hv⟩)
 ·rintro x rest b s' ⟨rfl,rfl,hr⟩
  obtain ⟨k',hk'⟩:=hst x (hr x (.head _))
  dsimp only
  refine FP (λ_=>Ab ⟨rfl,rfl,λv hv=>hr v (.tail _ hv)⟩) λ_=>?_
  refine Aa (hk.quiet ?_)
  simp only [Bool.not_true,Az,A7]
  refine Aa (hk'.quiet ?_)
  simp only [Bool.not_true,Az,A7]
  refine Aa (hk.class ?_)
  simp only [Az,A7]
  refine Aa (hk'.class ?_)
  simp only [Az,A7]
  exact Ab ⟨rfl,rfl,λv hv=>hr v (.tail _ hv)⟩
 ·rintro b s' ⟨rfl,rfl,_⟩
  exact Ab h
end
section
variable {prog:Program} {w:World} {A:Around} {E:Value->Shared->Prop} {s:Shared}
noncomputable def EnE (w:World)(h:Heap)(e:Int×Value)(k:D):Prop:=e.1=CA w k∧Hd h k e.2∧∃ a,e.2=.ref a
theorem SX {a:Addr}{o:Obj}{es:Array (Int×Value)}{ep:Nat}{t:SetTable}{ks:List D}{k:D}{u:Value}{Q:SetFound->Shared->Prop}(hu:A.units+8<cLine)(hk:Hd s.heap k u)(ho:s.heap.get? a=some o)(hd:o.data=.set es ep t)(hf:t.fits es.size=true)
  (T:TW t.mask t.place.toList es.toList) (hdm:t.dummies=#[]) (he:Paired (EnE w s.heap) es.toList ks) (h0:k∈ks->Q (.there none) s)
  (h1:k∉ks->∀ p,p<10*SetTable.turns t.mask->(pth t.mask (CA w k) p).j∉t.place.toList->(∀ m,m<p->(pth t.mask (CA w k) m).j∈t.place.toList)->(pth t.mask (CA w k) p).j≤t.mask->Q (.free (pth t.mask (CA w k) p).j false) s) :
  wpAny (model prog w) A (setSearch a u (CA w k) true) Q E s:=by
 obtain ⟨k0,z1,z2,z3,z4⟩:=T.first (CA w k)
 have gw:t.gaveWay=false:=by
  unfold SetTable.gaveWay
  rcases T.mo with q|q|q<;>rw [q]<;>rfl
 have key:∀ (f n:Nat) (stand:Option SetTable.Probe),stand.getD (t.probeStart (CA w k))=pth t.mask (CA w k) n->n≤k0->k0-n<f->(∀ (m i:Nat),m<n->t.place.toList[i]? = some (pth t.mask (CA w k) m).j->ks[i]?≠some k)->wpAny (model prog w) A (setSearchFrom a u (CA w k) true f stand) Q E s:=by
  intro f
  induction f with
  | zero=>intro n stand _ _ h;omega
  | succ f ih =>
   intro n stand hs hn hf' hno
   unfold setSearchFrom
   refine Aa (Bb ho hd hf ?_)
   dsimp only
   rw [gw]
   simp only [Az,A7]
   rw [hs]
   obtain ⟨c,c1,c2,c3,c4⟩:=Vr hdm T.so (CA w k) (λi=>(es[i]?.map (·.1)).getD 0) z2 z3 (10*SetTable.turns t.mask) n hn (by omega)
   have pc:(t.probe (λi=>(es[i]?.map (·.1)).getD 0) (CA w k) (pth t.mask (CA w k) n))=SetTable.probe.go t (λi=>(es[i]?.map (·.1)).getD 0) (CA w k) (10*SetTable.turns t.mask) (pth t.mask (CA w k) n):=rfl
   split
   ·rename_i met hm
    have hm':t.probe (λi=>(es[i]?.map (·.1)).getD 0) (CA w k) (pth t.mask (CA w k) n)=some met:=hm
    rw [pc] at hm'
    rcases c4 with ⟨rfl,c5⟩|⟨ck,i,i1,i2,c5⟩
    ·rw [c5] at hm'
     cases hm'
     dsimp only
     refine Ab (h1 (λhin=>?_) c z1 z2 z3 z4)
     obtain ⟨i,ei⟩:=AO.mp hin
     obtain ⟨e,e1,e2,_⟩:=(Dh he i).2 k ei
     have hi:i<t.place.toList.length:=by rw [T.ln];exact (Ae.mp e1).1
     obtain ⟨m,_,m2,m3⟩:=T.rc i _ e (Ak hi) e1
     rw [e2] at m2 m3
     have mc:m<c:=by
      rcases Bv m c with q|q
      ·exact q
      ·exact absurd (m3 c q) z2
     rcases Bv m n with q|q
     ·exact hno m i q (by rw [m2];exact Ak hi) ei
     ·refine c3 m i q mc (by rw [m2];exact Ak hi) ?_
      rw [← Ax,e1]
      exact e2
    ·rw [c5] at hm'
     cases hm'
     dsimp only
     have hi:i<es.toList.length:=by rw [← T.ln];exact (Ae.mp i1).1
     obtain ⟨k',k1,e2,e3,ra,e4⟩:=(Dh he i).1 _ (Ak hi)
     have ee:es[i]? = some es.toList[i]:=by rw [← Ax];exact Ak hi
     generalize es.toList[i]=e at e2 e3 e4 ee
     obtain ⟨eh,ev⟩:=e
     dsimp only at e2 e3 e4
     subst e4
     have hst:∀ v∈(List.map (λx=>x.snd) (Array.filter (λx=>x.fst==CA w k) es).toList),∃ k',Hd s.heap k' v:=λv hv=>by
      obtain ⟨x,hx,rfl⟩:=Ar.mp hv
      rw [Array.toList_filter] at hx
      obtain ⟨j,ej⟩:=AO.mp (List.mem_filter.mp hx).1
      obtain ⟨k2,_,_,q,_⟩:=(Dh he j).1 x ej
      exact ⟨k2,q⟩
     rw [ee]
     dsimp only
     have sl:=IJ hdm T.so i1
     have sm:t.sameMemory t.moves t.mask=some true:=by unfold SetTable.sameMemory;simp
     have rest:wpAny (model prog w) A (do
       let equal←holding [.ref ra] (eqBool (.ref ra) u)
       let __x←setState a
       if (true&&equal)=true then pure (SetFound.there none)
        else
         match __x.2.snd.sameMemory t.moves t.mask with
         | some same =>
          match if same=true then __x.2.snd.slot (pth t.mask (CA w k) c).j else SetTable.Slot.empty with
          | SetTable.Slot.live i' =>
           match __x.fst[i']? with
           | some (fst,y')=>do
            let __do_lift←isSame y' (.ref ra)
            let still←pure (if __do_lift=true then some i' else none)
            match still with
             | none=>do
              rule "set.search.anew"
              setSearchFrom a u (CA w k) true f none
             | some i' =>
              if equal=true then pure (SetFound.there (some i'))
              else setSearchFrom a u (CA w k) true f (some (pth t.mask (CA w k) (c+1)))
           | none=>do
            let still←pure none
            match still with
             | none=>do
              rule "set.search.anew"
              setSearchFrom a u (CA w k) true f none
             | some i' =>
              if equal=true then pure (SetFound.there (some i'))
              else setSearchFrom a u (CA w k) true f (some (pth t.mask (CA w k) (c+1)))
          | x=>do
           let still←pure none
           match still with
            | none=>do
             rule "set.search.anew"
             setSearchFrom a u (CA w k) true f none
            | some i' =>
             if equal=true then pure (SetFound.there (some i'))
             else setSearchFrom a u (CA w k) true f (some (pth t.mask (CA w k) (c+1)))
         | _=>unsupported "set.changed-during-lookup:is-the-new-block-at-the-old-address") Q E s:=by
      refine Aa (AI (e3.eq hk hu ?_))
      refine Aa (Bb ho hd hf ?_)
      dsimp only
      by_cases ck':k'=k
      ·rw [BM ck']
       simp only [Bool.and_self,if_true]
       exact Ab (h0 (ck'▸Am k1))
      ·rw [A9 ck']
       simp only [Bool.and_false,Az,A7]
       rw [sm]
       dsimp only
       rw [if_pos rfl,sl]
       dsimp only
       rw [ee]
       dsimp only
       refine Aa (wpAny_isSame_ref_self (Aa (Ab ?_)))
       simp only [if_true]
       refine ih (c+1) _ rfl ck (by omega) λm i' hm hp=>?_
       rcases Bv m n with q|q
       ·exact hno m i' q hp
       ·rcases Bv m c with q2|q2
        ·intro hki
         refine c3 m i' q q2 hp ?_
         obtain ⟨e',x1,x2,_⟩:=(Dh he i').2 k hki
         rw [← Ax,x1]
         exact x2
        ·obtain rfl:m=c:=by omega
         have a1:=IJ hdm T.so hp
         rw [sl] at a1
         cases a1
         intro hki
         rw [k1] at hki
         exact ck' (AB hki)
     refine FP (λ_=>?_) λ_=>?_
     ·refine Aa (WI hk hst ?_)
      simp only [Az,A7]
      exact rest
     ·exact rest
   ·rename_i hm
    exfalso
    rcases c4 with ⟨_,c5⟩|⟨ck,i,i1,i2,c5⟩
    ·exact hm _ c5
    ·exact hm _ c5
 exact key 100000 0 none rfl (AW _) (by have:=T.mo;unfold SetTable.turns at z1;rcases this with q|q|q<;>rw [q] at z1<;>omega) (λm i h=>absurd h (Nat.not_lt_zero _))
noncomputable def hd1:D->Bool
 | .tup (.str _::_)=>true
 | _=>false
theorem Zv {k:D}{u:Value}{Q:Bool->Shared->Prop}(x:Hd s.heap k u)(h1:hd1 k=true)(h:Q false s):wpAny (model prog w) A (hashByValue 8 u) Q E s:=by
 obtain ⟨as,r⟩:=x.rd
 unfold hd1 at h1
 split at h1
 ·rename_i y ds
  unfold toPy at r
  cases r with
  | @tuple a o vs k _ _ g1 g2 g3 hw =>
   have hT:s.TypeIs (.ref a) "tuple":=⟨o,g1,g2⟩
   unfold hashByValue
   refine Aa (wpAny_specialOf hT F.slot_tuple_hash.lookup ?_)
   refine (?_:wpAny _ _ (seqItems? (.ref a) >>= _) _ _ s)
   refine Aa (Bp g1 g3 (Aa ?_))
   refine (?_:wpAny _ _ (forIn vs _ _) _ _ s)
   rw [← Array.forIn_toList]
   unfold CD toPy at hw
   generalize vs.toList=vl at hw
   cases hw with
   | cons x1 x2 =>
    cases x1
    rw [B9]
    refine Aa (Aa (m:=hashByValue 7 _) ?_)
    unfold hashByValue
    refine Ab ?_
    simp only [Bool.not_false,if_true]
    exact Ab (Ab (Ab h))
 ·cases h1
noncomputable def LJ (w:World)(h0:Heap)(P:D->Value->Prop)(S:Addr)(ls:List D)(led:Bool)(h:Heap):Prop:=∃ o es ep t,h.get? S=some o∧o.ExactSet∧o.data=.set es ep t∧t.dummies=#[]∧TW t.mask t.place.toList es.toList∧es.size*5<t.mask*3∧t.led=led∧(t.plain=false∨es.size=0)∧∃ ks:List D,ks.Perm ls∧Paired (λe k=>EnE w h0 e k∧P k e.2) es.toList ks
theorem Lp {t:SetTable}{es:Array (Int×Value)}(hd:t.dummies=#[])(T:TW t.mask t.place.toList es.toList):t.fits es.size=true:=by
 unfold SetTable.fits SetTable.fill
 have a:=T.ln
 have b:=T.lt
 rw [Array.length_toList,Array.length_toList] at a
 rw [Array.length_toList] at b
 rw [hd]
 simp
 omega
theorem SY {h0:Heap}{P:D->Value->Prop}{S:Addr}{ls:List D}{led:Bool}{k:D}{u:Value}{Q:Bool->Shared->Prop}(hu:A.units+8<cLine)(hS:LJ w h0 P S ls led s.heap)(hz:ls.length<64)(kp:∀ b o,h0.get? b=some o->s.heap.get? b=some o)(hk:Hd h0 k u)(hr:∃ a,u=.ref a)(h1:hd1 k=true)(hP:P k u)
  (q:∀ h' b tk,Heap.SameBut S s.heap h'->LJ w h0 P S (DG ls k) led h'->Q b { s with heap:=h',toks:=tk }):wpAny (model prog w) A (setAdd S u) Q E s:=by
 obtain ⟨o,es,ep,t,ho,hex,hd,hdm,T,fl,hl,hp,ks,pm,pr⟩:=hS
 obtain ⟨ra,rfl⟩:=hr
 have hk':=hk.keep kp
 have pr':Paired (EnE w s.heap) es.toList ks:=Io pr λe k ⟨⟨a,b,c⟩,_⟩=>⟨a,b.keep kp,c⟩
 have hf:=Lp hdm T
 have sz:es.size=ls.length:=by rw [← pm.length_eq,← Df pr,Array.length_toList]
 unfold setAdd
 refine AI (Aa (hk'.hash hu λtk=>?_))
 (unfold setAddHashed setAddHashedIn)
 refine AI (Aa (Bb (s:={ s with toks:=tk }) ho hd hf ?_))
 dsimp only
 have bs:byScan (.ref ra) es=false:=by unfold byScan;rfl
 rw [bs]
 simp only [Az,A7]
 refine Aa (SX (s:={ s with toks:=tk }) hu hk' ho hd hf T hdm pr' (λhin=>?_) λhnin p p1 p2 p3 p4=>?_)
 ·dsimp only
  refine Ab (q s.heap _ _ (Heap.SameBut.refl _ _) ?_)
  unfold DG
  rw [if_pos (pm.mem_iff.mp hin)]
  exact ⟨o,es,ep,t,ho,hex,hd,hdm,T,fl,hl,hp,ks,pm,pr⟩
 ·dsimp only
  refine Aa (Bb (s:={ s with toks:=tk }) ho hd hf ?_)
  dsimp only
  have al:DG ls k=ls++[k]:=by unfold DG;rw [if_neg λz=>hnin (pm.mem_iff.mpr z)]
  have b0:=(Ka T.so (pth t.mask (CA w k) p).j).1
  have ps:=Nh T.so p2
  rw [SetTable.toList_insertAt] at ps
  have lt:es.size<t.mask:=by rcases T.mo with z|z|z<;>rw [z] at fl<;>omega
  have T1:=T.put (v:=Value.ref ra) p1 p2 p3 p4 (by rw [Array.length_toList];exact b0) (by rw [Array.length_toList];exact lt) ps
  have e1:(SetTable.insertAt es (SetTable.below t.place (pth t.mask (CA w k) p).j) (CA w k,Value.ref ra)).toList=es.toList.take (SetTable.below t.place (pth t.mask (CA w k) p).j)++(CA w k,Value.ref ra)::es.toList.drop (SetTable.below t.place (pth t.mask (CA w k) p).j):=SetTable.toList_insertAt _ _ _
  have e2:(t.put (pth t.mask (CA w k) p).j).1={ t with place:=SetTable.insertAt t.place (SetTable.below t.place (pth t.mask (CA w k) p).j) (pth t.mask (CA w k) p).j,dummies:=#[] }:=by
   unfold SetTable.put
   dsimp only
   rw [hdm,has_none]
   rfl
  have e3:(t.put (pth t.mask (CA w k) p).j).2=SetTable.below t.place (pth t.mask (CA w k) p).j:=rfl
  rw [e2,e3]
  dsimp only
  rw [← SetTable.toList_insertAt,← e1] at T1
  have L1:=SetTable.insertAt_perm es (SetTable.below t.place (pth t.mask (CA w k) p).j) (CA w k,Value.ref ra)
  generalize SetTable.insertAt es (SetTable.below t.place (pth t.mask (CA w k) p).j) (CA w k,Value.ref ra)=es1 at T1 L1 ⊢
  generalize SetTable.insertAt t.place (SetTable.below t.place (pth t.mask (CA w k) p).j) (pth t.mask (CA w k) p).j=pl1 at T1 ⊢
  rw [BW] at L1
  obtain ⟨ks1,pm1,pr1⟩:=He L1 (F0 pr (.cons (show EnE w h0 (CA w k,Value.ref ra) k∧P k (Value.ref ra) from ⟨⟨rfl,hk,ra,rfl⟩,hP⟩) .nil))
  have pm2:ks1.Perm (DG ls k):=by rw [al];exact pm1.trans (pm.append (BN _))
  have sz1:es1.size=es.size+1:=by rw [← Array.length_toList,L1.length_eq,As,Array.length_toList];rfl
  have hz1:es1.size≤sizeLine:=by rw [AS];omega
  have go:∀ t2:SetTable,t2={ t with place:=pl1,dummies:=#[],plain:=false }->wpAny (model prog w) A (do
    storeSet S es1 t2
    if (!false&&t2.tooFull)=true then do
      setRelay S (SetTable.grown (es.size+1))
      pure true
     else pure true) Q E { s with toks:=tk }:=λt2 ht2=>by
   have T2:TW t2.mask t2.place.toList es1.toList:=by rw [ht2];exact T1
   have d2:t2.dummies=#[]:=by rw [ht2]
   have l2:t2.led=led:=by rw [ht2];exact hl
   have p2':t2.plain=false:=by rw [ht2]
   have m2:t2.mask=t.mask:=by rw [ht2]
   refine Aa (wpAny_storeSet_of (s:={ s with toks:=tk }) ho hd ?_ hz1)
   have ho1:(s.heap.update S (Obj.putSet es1 t2)).get? S=some { o with data:=.set es1 (ep+1) t2 }:=by
    have:=AN (Obj.putSet es1 t2) ho (by rw [putSet_of es1 t2 hd];rfl)
    rw [putSet_of es1 t2 hd] at this
    exact this
   have tf:t2.tooFull=decide ((es.size+1)*5 ≥ t.mask*3):=by
    unfold SetTable.tooFull SetTable.fill
    have:=T2.ln
    rw [Array.length_toList,Array.length_toList] at this
    rw [d2,this,sz1,m2]
    rfl
   refine FP (λc=>?_) λc=>?_
   ·have c':(es.size+1)*5 ≥ t.mask*3:=by simpa [tf] using c
    refine Aa ?_
    have nm:∃ mk,Gs mk∧SetTable.sizeAbove (SetTable.grown (es.size+1))-1=mk∧es1.size≤mk∧es1.size*5<mk*3∧¬ SetTable.sizeAbove (SetTable.grown (es.size+1)) > sizeLine:=by
     rcases T.mo with z|z|z
     ·have:es.size=4:=by rw [z] at c' fl;omega
      rw [sz1,this,AS]
      exact ⟨31,.inr (.inl rfl),by decide +kernel,by decide,by decide,by decide +kernel⟩
     ·have:es.size=18:=by rw [z] at c' fl;omega
      rw [sz1,this,AS]
      exact ⟨127,.inr (.inr rfl),by decide +kernel,by decide,by decide,by decide +kernel⟩
     ·rw [z] at c';omega
    obtain ⟨mk,n1,n2,n3,n4,n5⟩:=nm
    unfold setRelay
    refine Aa (Bb ho1 rfl (Lp d2 T2) ?_)
    dsimp only
    rw [if_neg n5]
    obtain ⟨t3,order,r1,r2,r3,r4,r5,r6,r7⟩:=Vd n1 t2.finger (t2.movedTo mk) t2.led t2.plain es1 n3
    have rl:t2.relaid (es1.map (·.1)) (SetTable.grown (es.size+1))=some (t3,order):=by
     unfold SetTable.relaid
     rw [n2]
     exact r1
    rw [rl]
    have rsz:(order.filterMap (es1[·]?)).size=es1.size:=by rw [← Array.length_toList,r6.length_eq,Array.length_toList]
    refine Aa (?_:wpAny _ _ (if ((order.filterMap (es1[·]?)).size != es1.size)=true then _ else pure (order.filterMap (es1[·]?),t3)) _ _ _)
    rw [rsz,bne_self_eq_false]
    simp only [Az,A7]
    refine Ab ?_
    dsimp only
    generalize order.filterMap (es1[·]?)=es2 at r6 r7 rsz ⊢
    refine wpAny_storeSet_of ho1 rfl (Ab ?_) (by rw [rsz];exact hz1)
    obtain ⟨ks2,pm3,pr3⟩:=He r6 pr1
    have ho2:=AN (Obj.putSet es2 t3) ho1 (by rw [putSet_of es2 t3 rfl];rfl)
    rw [putSet_of es2 t3 rfl] at ho2
    refine q _ _ _ ((AA ..).trans (AA ..)) ?_
    exact ⟨_,es2,_,t3,ho2,hex,rfl,r3,by rw [r2];exact r7,by rw [r2,rsz];exact n4,r4.trans l2,.inl (r5.trans p2'),ks2,pm3.trans pm2,pr3⟩
   ·have c':¬ (es.size+1)*5 ≥ t.mask*3:=by simpa [tf] using c
    refine Ab (q _ _ _ (AA ..) ?_)
    exact ⟨_,es1,_,t2,ho1,hex,rfl,d2,T2,by rw [sz1,m2];omega,l2,.inl p2',ks1,pm2,pr1⟩
  refine FP (λc=>?_) λc=>?_
  ·refine Aa (Zv (s:={ s with toks:=tk }) hk' h1 ?_)
   simp only [Az,A7]
   exact go _ rfl
  ·refine Aa (Ab ?_)
   have c':t.plain=false:=by simpa using c
   simp only [if_true]
   refine go _ ?_
   rw [← c']
theorem Py {h0:Heap}{Pv:D->Value->Prop}{I:Addr}{fp:List Addr}{n:Nat}{P:Nat->Value->Prop}{St:Nat->Heap->Prop}{R:Result->Shared->Prop}(hu:A.in1.units+8<cLine)(W:Walks prog w A.in1 I fp [I] n P St)(S:Addr)(hSf:S∉fp)(hS0:h0.get? S=none)(hI0:h0.get? I=none){led:Bool}{ds:List D}(hl:ds.length=n)
  (hval:∀ i v,P i v->∃ k,ds[i]? = some k∧Hd h0 k v∧(∃ a,v=.ref a)∧hd1 k=true∧Pv k v) (hb:n<64) (k:Nat) :
  ∀ (i:Nat) (s:Shared) (ls:List D),i+k=n->ls.length≤i->St i s.heap->LJ w h0 Pv S ls led s.heap->(∀ b o,h0.get? b=some o->s.heap.get? b=some o)->(∀ h' tk,(∀ b o,b≠S->b≠I->s.heap.get? b=some o->h'.get? b=some o)->LJ w h0 Pv S ((ds.drop i).foldl DG ls) led h'->R (.ok (.ret .none)) { s with heap:=h',toks:=tk }) ->
   codeAny (model prog w) A (Code.builtin "set.update.loop" ⟨[.ref S,.ref I],[]⟩) R s:=by
 have nI:I∈fp:=W.sub _ (by simp)
 have nS:S≠I:=λz=>hSf (z▸nI)
 have keepS:∀ {h h':Heap} {ls:List D},(∀ b o,b∉[I]->h.get? b=some o->h'.get? b=some o)->LJ w h0 Pv S ls led h->LJ w h0 Pv S ls led h':=λk ⟨o,es,ep,t,ho,r⟩=>⟨o,es,ep,t,k S o (by simpa using nS) ho,r⟩
 have nb:∀ b o,h0.get? b=some o->b≠S∧b≠I:=λb o e=>⟨λz=>(by rw [z,hS0] at e;cases e),λz=>(by rw [z,hI0] at e;cases e)⟩
 induction k with
 | zero =>
  intro i s ls e lsl st hS kp hR
  obtain rfl:i=n:=by omega
  refine Bc BL ?_
  rw [A5 Be _]
  refine Aa (m:=pyNext (.ref I)) (W.done s _ _ st λh1 tk1 k1=>Ab (a:=Fin.done (.ret Value.none)) (hR h1 tk1 (λb o _ hb z=>k1 b o (by simpa using hb) z) ?_))
  rw [List.drop_eq_nil_of_le (by omega)]
  exact keepS k1 hS
 | succ k ih =>
  intro i s ls e lsl st hS kp hR
  have lt:i<n:=by omega
  refine Bc BL ?_
  rw [A5 Be _]
  refine Aa (m:=pyNext (.ref I)) (W.item i s _ _ lt st λv h1 tk1 hP st1 k1=>?_)
  obtain ⟨x,ex,hx,hr,h1',hpv⟩:=hval i v hP
  have kp1:∀ b o,h0.get? b=some o->h1.get? b=some o:=λb o e=>k1 b o (by simpa using (nb b o e).2) (kp b o e)
  refine Aa (m:=holding [v] (setAdd S v)) (AI (SY (s:={ s with heap:=h1,toks:=tk1 }) hu (keepS k1 hS) (by omega) kp1 hx hr h1' hpv λh2 _ tk2 sb hS2=>?_))
  have dr:ds.drop i=x::ds.drop (i+1):=by
   have hi:i<ds.length:=by omega
   rw [BI hi]
   rw [Ak hi] at ex
   rw [AB ex]
  have al:(DG ls x).length≤i+1:=by
   unfold DG
   split
   ·omega
   ·rw [As,List.length_singleton];omega
  refine Ab (And.intro (BV Be _) (ih (i+1) _ (DG ls x) (by omega) al (W.frame _ h1 _ st1 λb hb o z=>?_) hS2 (λb o e=>(sb.2 b (nb b o e).1).trans (kp1 b o e)) λh3 tk3 k3 hS3=>hR h3 tk3 (λb o b1 b2 z=>?_) ?_))
  ·exact (sb.2 b λq:b=S=>hSf (q▸hb)).trans z
  ·exact k3 b o b1 b2 ((sb.2 b b1).trans (k1 b o (by simpa using b2) z))
  ·rw [dr]
   exact hS3
set_option maxHeartbeats 4000000 in
theorem OJ {Pv:D->Value->Prop}{l:Addr}{ol:Obj}{T:String}{us:List Value}{ds:List D}{Q:Value->Shared->Prop}(hu:A.units+16<cLine)
  (hol:s.heap.get? l=some ol) (hcl:ol.cls=.type T) (t1:isSubtype (.type T) (.type "set")=pure false) (t2:isSubtype (.type T) (.type "frozenset")=pure false) (t3:(Value.type T==Value.type "dict")=false)
  (hb:us.length<64) (hss:Paired (λ(u:Value) (k:D)=>Hd s.heap k u∧(∃ a,u=.ref a)∧hd1 k=true∧Pv k u) us ds) (hit:YieldsV prog w A E s.heap l us)
  (h:∀ (h':Heap) (tk:Nat) d',LJ w s.heap Pv s.heap.objs.size (ds.foldl DG []) (!CZ w) h'->(∀ b o,s.heap.get? b=some o->h'.get? b=some o)->Q (.ref s.heap.objs.size) { s with heap:=h',toks:=tk,drawn:=d' }) :
  wpAny (model prog w) A (PySem.call (.type "set") [.ref l]) Q E s:=by
 refine call_cls (Q1:=λobj z=>obj=.ref s.heap.objs.size∧z={ s with heap:=s.heap.push (ET (!CZ w)) }) PySem.F.called_set (PySem.F.typeCall_set_1 _) (Na (.ref l) ⟨rfl,rfl⟩) λobj z hz=>?_
 obtain ⟨e1,e2⟩:=hz
 subst e1 e2
 have gS:(s.heap.push (ET (!CZ w))).get? s.heap.objs.size=some (ET (!CZ w)):=Ai _ rfl
 refine ⟨⟨_,gS,rfl⟩,codeAny_call_builtin PySem.F.called_set.init.plain PySem.F.entry_set_init (check_set_init_1 ⟨_,gS,rfl⟩ ?_)⟩
 obtain ⟨oc,od,oda,osl⟩:=ol
 simp only at hcl
 subst hcl
 have gl:(s.heap.push (ET (!CZ w))).get? l=some { cls:=.type T,dict:=od,data:=oda,slots:=osl }:=Ad _ hol
 unfold Builtin.«set.__init__»
 unfold noKeywords
 unfold Builtin.Frozenset.updateFrom
 generalize hPI:pyIter=PI
 wp_walk
 subst hPI
 have sz:(s.heap.push (ET (!CZ w))).objs.size=s.heap.objs.size+1:=Ba ..
 refine hit _ _ _ rfl (λb o e=>Ad _ e) λI fp h2 d2 P St hI fpl fpn W st0 k2 hval=>Aa (wpAny_runValue ?_)
 have hI':s.heap.objs.size+1≤I:=by rw [← sz];exact hI
 have nf:s.heap.objs.size∉fp:=λz=>by
  rcases fpn _ z with q|⟨o,q⟩
  ·have q':(s.heap.push (ET (!CZ w))).objs.size≤s.heap.objs.size:=q
   rw [sz] at q'
   exact absurd q' (Nat.not_succ_le_self _)
  ·exact absurd (Al q) (A6 _)
 have h0:LJ w s.heap Pv s.heap.objs.size [] (!CZ w) h2:=⟨_,#[],0,_,k2 _ _ gS,⟨rfl,rfl,rfl⟩,rfl,rfl,⟨.nil,rfl,.inl rfl,AW _,(λ_ h=>nomatch h),λi j e h=>by simp [SetTable.fresh] at h⟩,(show 0*5<7*3 by decide),rfl,.inr rfl,[],.nil,.nil⟩
 have ssl:ds.length=us.length:=(Df hss).symm
 refine Py (A:=A.in1.in1) (h0:=s.heap) (by show A.units+1+1+1+8<cLine;omega) (W A.in1.in1.in1 rfl) s.heap.objs.size nf (B5 (Ag _)) (B5 (by omega)) (ds:=ds) ssl (λi v hP=>?_) hb us.length 0 { s with heap:=h2,drawn:=d2 } [] (BE _) (Ag _) st0 h0 (λb o e=>k2 b o (Ad _ e)) λh3 tk3 k3 hS=>?_
 ·obtain ⟨x,x1,x2,x3,x4⟩:=(Dh hss i).1 v (hval i v hP)
  exact ⟨x,x1,x2,x3,x4⟩
 ·refine Ab (Ab (a:=Fin.done (.ret Value.none)) (And.intro rfl (h h3 tk3 d2 hS λb o e=>?_)))
  have blt:=Al e
  exact k3 b o (Au blt) (λz=>absurd (show I<s.heap.objs.size from z▸blt) (Nat.not_lt.mpr (Nat.le_of_succ_le hI'))) (k2 _ _ (Ad _ e))
end
noncomputable def okE (d:D):Bool:=hd1 d&&D7 d
noncomputable def R5:Fn:=λds mu=>match sq1 ds mu with
 | some es=>if (es.all okE&&decide (es.length<64))=true then some (.set (DB es),mu) else none
 | none=>none
theorem Ry {ds:List D}{mu:Sto}{r:D×Sto}(h:R5 ds mu=some r):∃ d es,ds=[d]∧G0 mu d=some es∧(∀ e∈es,hd1 e=true∧D7 e=true)∧es.length<64∧r=(.set (DB es),mu):=by
 unfold R5 at h
 split at h
 ·rename_i es e
  split at h
  ·rename_i c
   cases h
   obtain ⟨d,rfl,e3⟩:=HG e
   rw [Ac,Af,Aw] at c
   exact ⟨d,es,rfl,e3,λe he=>by have:=c.1 e he;unfold okE at this;rw [Ac] at this;exact this,c.2,rfl⟩
  ·cases h
 ·cases h
section
variable {X:Cx} {K:Zc} {th:List Addr} {mu:Sto} {H:Hp} {pins:List (Addr×Obj)} {st:L2.St} {s:Shared}
theorem RepL.permD {ds ds':List D}(p:ds'.Perm ds):∀ {vs:List V},RepL K th H ds vs->∃ vs',vs.Perm vs'∧RepL K th H ds' vs':=by
 induction p with
 | nil=>exact λr=>⟨_,BN _,r⟩
 | cons x p ih =>
  intro vs r
  obtain ⟨v,r',e,a,b⟩:=r.inv
  subst e
  obtain ⟨vs',q1,q2⟩:=ih b
  exact ⟨v::vs',q1.cons v,.cons a q2⟩
 | swap x y l =>
  intro vs r
  obtain ⟨v,r',e,a,b⟩:=r.inv
  subst e
  obtain ⟨v',r2,e',a',b'⟩:=b.inv
  subst e'
  exact ⟨v'::v::r2,List.Perm.swap _ _ _,.cons a' (.cons a b')⟩
 | trans p q ih1 ih2 =>
  intro vs r
  obtain ⟨vs1,a1,b1⟩:=ih2 r
  obtain ⟨vs2,a2,b2⟩:=ih1 b1
  exact ⟨vs2,a1.trans a2,b2⟩
theorem UI {k:D}{v:V}{u:Value}(hk:hd1 k=true)(rp:Rep K th H k v)(rl:RelV v u):∃ b,v=.ref b∧u=.ref b:=by
 unfold hd1 at hk
 split at hk
 ·unfold Rep at rp
  obtain ⟨b,_,rfl,_⟩:=rp
  cases rl
  exact ⟨b,rfl,rfl⟩
 ·cases hk
theorem Ng (I:L2.Inv X pins st H s):∀ {es:List D} {vs:List V} {us:List Value},(∀ e∈es,hd1 e=true∧D7 e=true)->RepL X.z th H es vs->Vals vs us->Paired (λ(u:Value) (k:D)=>Hd s.heap k u∧(∃ a,u=.ref a)∧hd1 k=true∧∃ b,u=.ref b∧Rep X.z th H k (.ref b)) us es
 | [],vs,us,_,h2,q=>by
  rw [h2.inv0] at q
  cases q
  exact .nil
 | k::es,vs,us,e3,h2,q=>by
  obtain ⟨v,r',e,ra,rb⟩:=h2.inv
  subst e
  cases q with
  | cons q1 q2 =>
   obtain ⟨k1,k2⟩:=e3 k (.head _)
   obtain ⟨b,e1,e4⟩:=UI k1 ra q1
   subst e1
   exact .cons ⟨Ii I k2 ra q1,⟨b,e4⟩,k1,b,e4,ra⟩ (Ng I (λe he=>e3 e (.tail _ he)) rb q2)
theorem Qa (hu:X.A.units+64<cLine)(hc:X.calm=true):CallV X (.type "set") R5:=by
 intro pins s st H xs us Q I r h
 obtain ⟨th,mu,ds,so,rd,t⟩:=h
 obtain ⟨a0,mu0,e0,_⟩:=id t
 obtain ⟨d,es,rfl,e2,e3,hl,er⟩:=Ry e0
 rw [e0] at t
 cases er
 obtain ⟨x,rfl,rx⟩:=DA rd
 obtain ⟨a,vs,rfl,h1,h2,h3⟩:=Fi so e2 rx
 obtain ⟨u,rfl,ru⟩:=vals1 r
 cases ru
 have fin:∀ (h':Heap) (tk:Nat) d',LJ X.w s.heap (λk u=>∃ b,u=.ref b∧Rep X.z th H k (.ref b)) s.heap.objs.size (es.foldl DG []) (!CZ X.w) h'->(∀ b o,s.heap.get? b=some o->h'.get? b=some o)->EP X pins st Q (.ref s.heap.objs.size) { s with heap:=h',toks:=tk,drawn:=d' }:=λh' tk d' hS hk=>by
  obtain ⟨o,tes,ep,tb,ho,hex,hd,hdm,T,fl,hled,hpl,ks,pm,pr⟩:=hS
  have hp:H s.heap.objs.size=none:=I.hok.fresh (Ag _)
  have ole:(DB es).length≤es.length:=by have:=Iw es [];simpa [DB] using this
  have tl:tes.size=ks.length:=by rw [← Df pr,Array.length_toList]
  have kl:ks.length=(DB es).length:=pm.length_eq
  have sb:tes.size<scanBound:=by
   rw [tl,kl]
   unfold scanBound
   omega
  obtain ⟨zs,z1,z2⟩:∃ zs:List V,Vals zs (tes.toList.map (·.2))∧RepL X.z th H ks zs:=by
   clear fl T sb tl kl hd
   generalize tes.toList=tl at pr
   clear pm
   induction pr with
   | nil=>exact ⟨[],.nil,.nil⟩
   | cons hx tx ih =>
    obtain ⟨zs,a1,a2⟩:=ih
    obtain ⟨_,b,eb,rb⟩:=hx
    rw [A1,eb]
    exact ⟨.ref b::zs,.cons rfl a1,.cons rb a2⟩
  have sp:UK X.w s.heap.objs.size zs h':=by
   refine ⟨o,tes,ep,tb,ho,hex,hd,sb,Lp hdm T,z1,?_⟩
   cases c:CZ X.w with
   | true=>exact .inl c
   | false =>
    rw [c] at hled
    exact .inr ⟨hled,hpl.elim .inl λz=>.inr (by omega)⟩
  have I0:L2.Inv X pins st H { s with drawn:=d' }:=⟨I.ok,I.os,I.bare,I.base,I.loc,I.cell,I.free,I.freeC,I.pin,I.hok,I.len⟩
  refine ⟨.ref s.heap.objs.size,_,I0.laid (h':=h') (t':=tk) (o:=L9 X.w s.heap.objs.size zs) hk (Ag _) (RL sp),rfl,?_⟩
  refine t.retX (.new hp _) (so.new hp _) _ ?_
  unfold Rep
  obtain ⟨ws,q1,q2⟩:=RepL.permD (show (DB es).Perm ks from pm.symm) z2
  have ex:Ext th H th (upd H s.heap.objs.size (L9 X.w s.heap.objs.size zs)):=.new hp _
  exact ⟨_,zs,ws,rfl,so.notin hp,Dw,q1,q2.ext ex so.out,L8 es [] List.nodup_nil⟩
 have pairs:=λus q=>Ng I e3 h2 (us:=us) q
 have ul:∀ us:List Value,Vals vs us->us.length<64:=λus q=>by rw [← q.length,h2.len];exact hl
 rcases h1 with h1|⟨h1,_⟩
 ·obtain ⟨us,q,y,o,ho,hcl⟩:=GU (E:=X.xe) I hc h1
  exact OJ (by omega) ho hcl PySem.F.sub_list_set PySem.F.sub_list_frozenset (by decide) (ul us q) (pairs us q) y fin
 ·obtain ⟨us,q,y,o,ho,hcl⟩:=Gd (E:=X.xe) I hc h1
  exact OJ (by omega) ho hcl Pa JF (by decide) (ul us q) (pairs us q) y fin
noncomputable def setG:Fn:=λds mu=>match Sm ds mu with|some r=>some r|none=>R5 ds mu
theorem Ks (hu:X.A.units+64<cLine)(hc:X.calm=true):CallV X (.type "set") setG:=CallV.or (Pj hc) (Qa hu hc)
noncomputable def isT:D->Bool
 | .tup _=>true
 | _=>false
end
end PV
namespace PG
open PySem L2 PV PyProof.Rows
noncomputable def HF:Sx:=
  sRt (eAn (Hg "tuple" (Cj 0)) (Lx leD leD (Cj 1) (Cn Ef (Cg (Cj 0) Cm)) (Cj 2)))
noncomputable def En:Fn:=fnB 3 HF
noncomputable def Gq:Sx:=
  sRt (Cq eqD (Cn Ef (Cg (Cn setG (Cg (Cj 0) Cm)) Cm)) (Cn Ef (Cg (Cj 0) Cm)))
noncomputable def Ey:Fn:=fnB 1 Gq
noncomputable def FI:Sx:=
  sRt (Cn Jd (Cg (eLC (Hs (Cg (Cj 0) (Cg (eSl (Cj 0) (DD (eC (.int 1))) (pNo)) Cm))) 2 [] (gTp 2 (Co (gNm 0) (Co (gNm 1) CM))) (tY) (Cq ltG (Cj 0) (Cj 1))) Cm))
noncomputable def D6:Fn:=fnB 1 FI
noncomputable def Ir:Sx:=
  CJ (Di (Ia (Cg (D4 Cm) Cm)) (gNm 1)) (CJ (FO (Et (Cj 0)) (gNm 2) (Di (eCo (Et (Cj 1)) 2 [2] (gNm 0) (tY) (stI (Et (Cj 2)) (gNm 1) (tY) (stL (Cq CT (Cj 0) (D4 (Cg (Cj 1) Cm))))) [] Sq) (gNm 1))) (sRt (Cj 1)))
noncomputable def FZ:Fn:=fnB 3 Ir
noncomputable def G1:Sx:=
  CJ (sIf (tNt (tV (Cn En (Cg (Cj 1) (Cg (Cn Ef (Cg (Cj 0) Cm)) (Cg (Cn Ef (Cg (Cj 0) Cm)) Cm)))))) (sRt (eC (.bl false))) (sNx)) (sRt (Cn Jd (Cg (eLC (Hs (Cg (Cj 1) (Cg (Cj 0) Cm))) 3 [] (gTp 2 (Co (gNm 0) (Co (gTp 2 (Co (gNm 1) (Co (gNm 2) CM))) CM))) (tY) (eAn (Hg "str" (Cj 0)) (Cq inG (Cj 0) (Cj 2)))) Cm)))
noncomputable def EX:Fn:=fnB 2 G1
noncomputable def EJ:Sx:=
  CJ (Di (Cj 0) (gTp 3 (Co (gNm 2) (Co (gNm 3) (Co (gNm 4) CM))))) (CJ (sIf (tO (tNt (tV (Hg "tuple" (Cj 1)))) (tNt (tV (Cn Jd (Cg (eLC (Et (Cj 1)) 1 [3] (gNm 0) (tY) (Cn EX (Cg (Cj 1) (Cg (Cj 0) Cm)))) Cm))))) (sRt (eC (.bl false))) (sNx)) (sRt (eAn (Cn D6 (Cg (Cj 1) Cm)) (Cn Ey (Cg (eLC (Et (Cj 1)) 1 [4] (gNm 0) (tY) (eSl (Cj 0) (pNo) (DD (Cj 1)))) Cm)))))
noncomputable def DP:Fn:=fnB 5 EJ
noncomputable def EG:Sx:=
  CJ (sIf (tNt (tV (Cn En (Cg (Cj 1) (Cg (Cn Ef (Cg (Cj 0) Cm)) (Cg (Cn Ef (Cg (Cj 0) Cm)) Cm)))))) (sRt (eC (.bl false))) (sNx)) (sRt (Cn Jd (Cg (eLC (Hs (Cg (Cj 0) (Cg (Cj 1) Cm))) 2 [] (gTp 2 (Co (gNm 0) (Co (gNm 1) CM))) (tY) (Cn DP (Cg (Cj 0) (Cg (Cj 1) Cm)))) Cm)))
noncomputable def CY:Fn:=fnB 2 EG
noncomputable def Ez:Sx:=
  CJ (FO (Et (Cj 0)) (gNm 3) (sIf (tV (Cq eqD (eSl (Cj 3) (pNo) (DD (Cj 1))) (Cj 2))) (sRt (Cj 3)) (sNx))) (sRt (eC .non))
noncomputable def Dv:Fn:=fnB 4 Ez
noncomputable def Jx:Sx:=
  CJ (FO (Hs (Cg (Cj 0) (Cg (Cj 1) Cm))) (gTp 2 (Co (gNm 4) (Co (gNm 5) CM))) (sIf (tV (Cq eqD (Cq ixG (Cj 4) (eC (.int 0))) (Cj 2))) (sRt (Cn Dv (Cg (Cj 5) (Cg (Cq ixG (Cj 4) (eC (.int 2))) (Cg (Cj 3) Cm))))) (sNx))) (sRt (eC .non))
noncomputable def FY:Fn:=fnB 6 Jx
noncomputable def Hw:Sx:=
  sRt (Cq ixG (eLC (Et (Cj 0)) 1 [1] (gNm 0) (tV (Cq eqD (Cq ixG (Cj 0) (eC (.int 0))) (Cj 1))) (Cj 0)) (eC (.int 0)))
noncomputable def Fw:Fn:=fnB 2 Hw
noncomputable def E6:Sx:=
  sRt (eLC (Et (Cj 0)) 2 [] (gTp 2 (Co (gNm 0) (Co (gNm 1) CM))) (tY) (Cn J9 (Cg (Cj 1) Cm)))
noncomputable def DS:Fn:=fnB 1 E6
noncomputable def IE:Sx:=
  CJ (Di (Cn Fw (Cg (Cj 0) (Cg (Cj 1) Cm))) (gNm 2)) (sRt (Cn FR (Cg (Cn FZ (Cg (Cn DS (Cg (eSl (Cq ixG (Cj 2) (eC (.int 1))) (pNo) (DD (Cq ixG (Cj 2) (eC (.int 2))))) Cm)) Cm)) Cm)))
noncomputable def Ff:Fn:=fnB 3 IE
noncomputable def Gi:Sx:=
  CJ (Di (eC (.int 0)) (gNm 2)) (CJ (sIf (tV (Cq ltG (Cj 1) (Cn Ef (Cg (Cj 0) Cm)))) (Di (Cq ixG (Cj 0) (Cj 1)) (gNm 2)) (sNx)) (sRt (G3 (Cg (Cq Fp (Cj 2) (Cn Iv (Cg (Cq geD (Cj 2) (Cq QM (eC (.int 10)) (eC (.int 18)))) Cm))) (Cg (Cq CT (Cq CT (Cq F5 (Cj 2) (eC (.int 2305843009213693951))) (Cq Fp (eC (.int 7919)) (Cj 1))) (eC (.int 3))) (Cg (eC (.int 0)) Cm))))))
noncomputable def El:Fn:=fnB 3 Gi
noncomputable def Gr:Sx:=
  CJ (sIf (tV (Cq gtD (Cq ixG (Cj 0) (eC (.int 0))) (eC (.int 0)))) (CJ (Di (Cq F5 (Cq ixG (Cj 0) (eC (.int 0))) (Cj 1)) (gNm 2)) (CJ (Di (Cq JO (Cq ixG (Cj 0) (eC (.int 0))) (Cj 1)) (gIx (Cj 0) (eC (.int 0)))) (sRt (Cj 2)))) (sNx)) (CJ (Di (Cq CT (Cq ixG (Cj 0) (eC (.int 2))) (eC (.int 1))) (gIx (Cj 0) (eC (.int 2)))) (CJ (Di (Cq ixG (Cj 0) (eC (.int 2))) (gNm 3)) (CJ (Di (Cq F5 (Cq Fp (Cq ixG (Cj 0) (eC (.int 1))) (Cq CT (Cq CT (eC (.int 48271)) (Cq Fp (Cq Fp (eC (.int 2)) (Cj 3)) (Cj 3))) (Cq Fp (eC (.int 65537)) (Cj 3)))) (eC (.int 2305843009213693921))) (gNm 4)) (CJ (Di (Cq CT (Cq CT (Cq F5 (Cj 4) (eC (.int 1000003))) (Cq Fp (Cj 3) (eC (.int 99991)))) (eC (.int 11))) (gNm 5)) (CJ (Di (Cq F5 (Cq Fp (Cj 4) (Cj 5)) (eC (.int 2305843009213693907))) (gNm 4)) (sRt (Cq F5 (Cq CT (Cq JO (Cj 4) (eC (.int 97))) (Cq JO (Cj 4) (eC (.int 1000033)))) (Cj 1))))))))
noncomputable def Ct:Fn:=fnB 6 Gr
noncomputable def Gu:Sx:=
  sRt (Cq ixG (Cj 1) (Cn Ct (Cg (Cj 0) (Cg (Cn Ef (Cg (Cj 1) Cm)) Cm))))
noncomputable def Dd:Fn:=fnB 2 Gu
noncomputable def GQ:Sx:=
  CJ (Di (eC (.str "abcdefghijklmnopqrstuvwxyz0123456789")) (gNm 3)) (CJ (Di (D4 (Cg (Cn Ct (Cg (Cj 0) (Cg (eC (.int 36)) Cm))) (Cg (Cn Dd (Cg (Cj 0) (Cg (Ia (Cg (eC (.int 1)) (Cg (eC (.int 5)) (Cg (eC (.int 7)) (Cg (eC (.int 11)) (Cg (eC (.int 13)) (Cg (eC (.int 17)) Cm))))))) Cm))) Cm))) (gTp 2 (Co (gNm 4) (Co (gNm 5) CM)))) (CJ (Di (Cq Fp (Cq ixG (Cj 3) (Cn Ct (Cg (Cj 0) (Cg (eC (.int 36)) Cm)))) (Cn Ma (Cg (Cq Vf (Cj 2) (eC (.int 1))) (Cg (Cn Dd (Cg (Cj 0) (Cg (Ia (Cg (eC (.int 0)) (Cg (eC (.int 1)) (Cg (eC (.int 0)) (Cg (eC (.int 2)) (Cg (eC (.int 7)) Cm)))))) Cm))) Cm)))) (gNm 6)) (CJ (Di (Cn Ct (Cg (Cj 0) (Cg (Cq CT (Cn Ef (Cg (Cj 6) Cm)) (eC (.int 1))) Cm))) (gNm 7)) (sRt (eLC (iRg (Cg (Cj 1) Cm)) 1 [6,7,3,4,5] (gNm 0) (tY) (Cq CT (Cq CT (eSl (Cj 1) (pNo) (DD (Cj 2))) (Cq ixG (Cj 3) (Cq F5 (Cq CT (Cj 4) (Cq Fp (Cj 5) (Cj 0))) (eC (.int 36))))) (eSl (Cj 1) (DD (Cj 2)) (pNo))))))))
noncomputable def Ea:Fn:=fnB 8 GQ
noncomputable def Gg:Sx:=
  CJ (Di (Cn J9 (Cg (Cn Ea (Cg (Cj 0) (Cg (Cq CT (eC (.int 1)) (Cn Ct (Cg (Cj 0) (Cg (Cj 1) Cm)))) (Cg (eC (.int 8)) Cm)))) Cm)) (gNm 4)) (CJ (Di (D4 (Cg (Cn Ea (Cg (Cj 0) (Cg (Cq CT (Cj 2) (eC (.int 2))) (Cg (eC (.int 8)) Cm)))) (Cg (Cn Ea (Cg (Cj 0) (Cg (Cq CT (Cj 3) (eC (.int 1))) (Cg (eC (.int 8)) Cm)))) Cm))) (gTp 2 (Co (gNm 5) (Co (gNm 6) CM)))) (CJ (Di (G3 Cm) (gNm 7)) (CJ (FO (Et (Cj 4)) (gNm 8) (CJ (OY 9 10 11 (Cg (Cq CT (eC (.int 1)) (Cn Ct (Cg (Cj 0) (Cg (Cj 2) Cm)))) (Cg (Cn Ct (Cg (Cj 0) (Cg (eC (.int 3)) Cm))) (Cg (G3 Cm) Cm)))) (CJ (FO (iRg (Cg (Cj 9) Cm)) (gNm 12) (CJ (Di (D4 (Cg (Cq CT (eC (.int 1)) (Cn Ct (Cg (Cj 0) (Cg (Cj 3) Cm)))) (Cg (Cn Ct (Cg (Cj 0) (Cg (eC (.int 2)) Cm))) Cm))) (gTp 2 (Co (gNm 13) (Co (gNm 14) CM)))) (CJ (Di (Cn FR (Cg (eLC (iRg (Cg (Cj 13) Cm)) 1 [6,14] (gNm 0) (tY) (Cq ixG (Cj 1) (Cq F5 (Cq CT (Cj 0) (Cj 2)) (Cn Ef (Cg (Cj 1) Cm))))) Cm)) (gNm 15)) (sEx (LH (Cj 11) (Cg (D4 (Cg (Cq ixG (Cj 5) (Cq F5 (Cq CT (Cj 12) (Cj 10)) (Cn Ef (Cg (Cj 5) Cm)))) (Cg (Cj 15) Cm))) Cm)))))) (sEx (LH (Cj 7) (Cg (D4 (Cg (Cj 8) (Cg (Cn FR (Cg (Cj 11) Cm)) (Cg (Cq CT (eC (.int 1)) (Cn Ct (Cg (Cj 0) (Cg (Cj 9) Cm)))) Cm)))) Cm)))))) (sRt (Cn FR (Cg (Cj 7) Cm))))))
noncomputable def DN:Fn:=fnG 16 Gg
noncomputable def FQ:Sx:=
  CJ (Di (G3 Cm) (gNm 3)) (CJ (FO (Et (Cj 1)) (gTp 3 (Co (gNm 4) (Co (gNm 5) (Co (gNm 6) CM)))) (CJ (Di Om (gNm 7)) (CJ (FO (iRg (Cg (Cn Ct (Cg (Cj 0) (Cg (Cq CT (Cj 2) (eC (.int 1))) Cm))) Cm)) (gNm 8) (CJ (Di (Cn FR (Cg (eLC (Et (Cj 5)) 2 [0] (gTp 2 (Co (gNm 0) (Co (gNm 1) CM))) (tY) (Cn Dd (Cg (Cj 2) (Cg (Cj 1) Cm)))) Cm)) (gNm 9)) (Di (Cj 9) (gIx (Cj 7) (eSl (Cj 9) (pNo) (DD (Cj 6))))))) (sEx (LH (Cj 3) (Cg (Cn FR (Cg (KR (Cj 7)) Cm)) Cm)))))) (sRt (Cn FR (Cg (Cj 3) Cm))))
noncomputable def Dt:Fn:=fnG 10 FQ
noncomputable def D9:Sx:=
  CJ (sIf (tNt (tV (Hg "tuple" (Cj 1)))) (sRt (eC (.bl false))) (sNx)) (CJ (FO (Et (Cj 1)) (gNm 2) (CJ (sIf (tO (tNt (tV (Hg "tuple" (Cj 2)))) (tV (Cq neD (Cn Ef (Cg (Cj 2) Cm)) (Cn Ef (Cg (Cq ixG (Cj 0) (eC (.int 1))) Cm))))) (sRt (eC (.bl false))) (sNx)) (FO (Hs (Cg (Cj 2) (Cg (Cq ixG (Cj 0) (eC (.int 1))) Cm))) (gTp 2 (Co (gNm 3) (Co (gTp 2 (Co (gNm 4) (Co (gNm 5) CM))) CM))) (sIf (tO (tNt (tV (Hg "str" (Cj 3)))) (tV (Cq Q6 (Cj 3) (Cj 5)))) (sRt (eC (.bl false))) (sNx))))) (CJ (Di (eLC (Et (Cj 1)) 1 [0] (gNm 0) (tY) (eSl (Cj 0) (pNo) (DD (Cq ixG (Cj 1) (eC (.int 2)))))) (gNm 6)) (sRt (Cq eqD (Cj 6) (Cn J9 (Cg (Cn setG (Cg (Cj 6) Cm)) Cm))))))
noncomputable def Dq:Fn:=fnB 7 D9
noncomputable def Fz:Sx:=
  CJ (sIf (tO (tNt (tV (Hg "tuple" (Cj 1)))) (tV (Cq neD (Cn Ef (Cg (Cj 1) Cm)) (Cn Ef (Cg (Cj 0) Cm))))) (sRt (eC (.bl false))) (sNx)) (sRt (Cn Jd (Cg (eLC (Hs (Cg (Cj 0) (Cg (Cj 1) Cm))) 2 [] (gTp 2 (Co (gNm 0) (Co (gNm 1) CM))) (tY) (Cn Dq (Cg (Cj 0) (Cg (Cj 1) Cm)))) Cm)))
noncomputable def D5:Fn:=fnB 2 Fz
noncomputable def ID:Sx:=
  CJ (Di (Ia (Cg (eC .non) (Cg (eC (.bl true)) (Cg (eC (.int 0)) (Cg (eC (.str "")) (Cg (eC (.str "zz9")) (Cg (eC (.str "a")) (Cg (D4 Cm) (Cg (Ia Cm) (Cg Rr (Cg (D4 (Cg (D4 Cm) Cm)) (Cg (D4 (Cg (eC (.str "a")) Cm)) (Cg (D4 (Cg (D4 (Cg (eC (.str "a")) Cm)) Cm)) (Cg (D4 (Cg (eC (.str "zz9")) (Cg (eC (.str "zz9")) Cm))) Cm)))))))))))))) (gNm 1)) (sRt (Cn Dd (Cg (Cj 0) (Cg (Cj 1) Cm))))
noncomputable def Fj:Fn:=fnB 2 ID
noncomputable def C0 (f:Fn):Sx:=
  CJ (sIf (tO (tNt (tV (Hg "tuple" (Cj 1)))) (tO (tV (Cq eqD (Cn Ef (Cg (Cj 1) Cm)) (eC (.int 0)))) (tO (tV (Cq eqD (Cj 2) (eC (.int 0)))) (tV (Cq eqD (Cn Ct (Cg (Cj 0) (Cg (eC (.int 7)) Cm))) (eC (.int 0))))))) (sRt (Cn Fj (Cg (Cj 0) Cm))) (sNx)) (CJ (Di (Cn Ct (Cg (Cj 0) (Cg (Cn Ef (Cg (Cj 1) Cm)) Cm))) (gNm 3)) (CJ (Di (Cn Ct (Cg (Cj 0) (Cg (eC (.int 8)) Cm))) (gNm 4)) (CJ (sIf (tV (Cq eqD (Cj 4) (eC (.int 0)))) (sRt (Cq CT (eSl (Cj 1) (pNo) (DD (Cj 3))) (eSl (Cj 1) (DD (Cq CT (Cj 3) (eC (.int 1)))) (pNo)))) (sNx)) (CJ (sIf (tV (Cq eqD (Cj 4) (eC (.int 1)))) (sRt (Cq CT (eSl (Cj 1) (pNo) (DD (Cq CT (Cj 3) (eC (.int 1))))) (eSl (Cj 1) (DD (Cj 3)) (pNo)))) (sNx)) (CJ (sIf (tV (Cq eqD (Cj 4) (eC (.int 2)))) (sRt (Cq ixG (Ia (Cg (Cn Tq (Cg (Cj 1) Cm)) (Cg (e1 UY (Cj 1)) (Cg (Cq CT (Cj 1) (D4 (Cg (Cn Fj (Cg (Cj 0) Cm)) Cm))) (Cg (Cq CT (eSl (Cj 1) (DD (eC (.int 1))) (pNo)) (eSl (Cj 1) (pNo) (DD (eC (.int 1))))) Cm))))) (Cn Ct (Cg (Cj 0) (Cg (eC (.int 4)) Cm))))) (sNx)) (sRt (Cq CT (Cq CT (eSl (Cj 1) (pNo) (DD (Cj 3))) (D4 (Cg (Cn f (Cg (Cj 0) (Cg (Cq ixG (Cj 1) (Cj 3)) (Cg (Cq Vf (Cj 2) (eC (.int 1))) Cm)))) Cm))) (eSl (Cj 1) (DD (Cq CT (Cj 3) (eC (.int 1)))) (pNo)))))))))
noncomputable def CG:Nat->Fn
 | 0=>λ_ _=>none
 | n+1=>fnB 5 (C0 (CG n))
noncomputable def SH:Sx:=
  CJ (FO (iRg (Cg (Cn So (Cg (eC (.int 2)) (Cg (Cn Ma (Cg (eC (.int 5)) (Cg (Cn Ef (Cg (Cj 0) Cm)) Cm))) Cm))) Cm)) (gNm 1) (CJ (Di (Cn El (Cg (Cj 0) (Cg (Cj 1) Cm))) (gNm 2)) (CJ (Di (Cn DN (Cg (Cj 2) (Cg (eC (.int 4)) (Cg (eC (.int 4)) (Cg (eC (.int 4)) Cm))))) (gNm 3)) (CJ (Di (Cn Dt (Cg (Cj 2) (Cg (Cj 3) (Cg (Cq ixG (Ia (Cg (eC (.int 6)) (Cg (eC (.int 16)) Cm))) (Cn Iv (Cg (Cq eqD (Cn Ct (Cg (Cj 2) (Cg (eC (.int 8)) Cm))) (eC (.int 0))) Cm))) Cm)))) (gNm 4)) (CJ (sIf (tO (tV (Cq Mc (Cn CY (Cg (Cj 3) (Cg (Cj 4) Cm))) (eC (.bl true)))) (tV (Cq Mc (Cn CY (Cg (Cj 3) (Cg (Cq QD (D4 (Cg (D4 Cm) Cm)) (Cn Ef (Cg (Cj 3) Cm))) Cm))) (eC (.bl true))))) (sRt (eC (.bl false))) (sNx)) (CJ (FO (iRg (Cg (eC (.int 10)) Cm)) (gNm 5) (CJ (Di (Cn (CG 14) (Cg (Cj 2) (Cg (Cj 4) (Cg (eC (.int 3)) Cm)))) (gNm 6)) (CJ (Di (Cn CY (Cg (Cj 3) (Cg (Cj 6) Cm))) (gNm 7)) (sIf (tO (tNt (tV (Hg "bool" (Cj 7)))) (tV (Cq neD (Cj 7) (Cn D5 (Cg (Cj 3) (Cg (Cj 6) Cm)))))) (sRt (eC (.bl false))) (sNx))))) (FO (Hs (Cg (Cj 4) (Cg (Cj 3) Cm))) (gTp 2 (Co (gNm 8) (Co (gTp 3 (Co (gNm 9) (Co (gNm 10) (Co (gNm 11) CM)))) CM))) (CJ (Di (Cn dctP (Cg (eLC (Et (Cj 8)) 1 [11] (gNm 0) (tY) (D4 (Cg (eSl (Cj 0) (pNo) (DD (Cj 1))) (Cg (Cj 0) Cm)))) Cm)) (gNm 12)) (FO (Et (Cn Ff (Cg (Cj 3) (Cg (Cj 9) Cm)))) (gNm 13) (sIf (tV (Cq neD (Cn GI (Cg (Cn FY (Cg (Cj 3) (Cg (Cj 4) (Cg (Cj 9) (Cg (Cj 13) Cm))))) Cm)) (Cn GI (Cg (MV (Cj 12) (Cg (Cj 13) Cm)) Cm)))) (sRt (eC (.bl false))) (sNx))))))))))) (sRt (eC (.bl true)))
noncomputable def K2:Fn:=fnB 14 SH
noncomputable def top (i:Nat):Stmt:=PySem.Challenge.pw_lookback_k04_fillings_or_not.main.body.getD i (.Pass ⟨0,0,0,0⟩)
noncomputable abbrev GC:Stmt:=top 1
noncomputable abbrev E9:Stmt:=top 2
noncomputable abbrev EY:Stmt:=top 3
noncomputable abbrev FX:Stmt:=top 4
noncomputable abbrev GY:Stmt:=top 8
noncomputable abbrev EN:Stmt:=top 7
noncomputable abbrev EH:Stmt:=top 6
noncomputable abbrev Ew:Stmt:=top 10
noncomputable abbrev HW:Stmt:=top 9
noncomputable abbrev Fo:Stmt:=top 12
noncomputable abbrev DT:Stmt:=top 13
noncomputable abbrev Hb:Stmt:=top 14
noncomputable abbrev Ga:Stmt:=top 16
noncomputable abbrev F9:Stmt:=top 17
noncomputable abbrev Gp:Stmt:=top 18
noncomputable abbrev EZ:Stmt:=top 19
noncomputable abbrev Eu:Stmt:=top 20
noncomputable abbrev Ei:Stmt:=top 21
noncomputable abbrev Eb:Stmt:=top 22
noncomputable abbrev Fq:Stmt:=top 23
noncomputable abbrev G9:Stmt:=top 24
noncomputable abbrev E8:Stmt:=top 25
noncomputable abbrev IW:Stmt:=top 26
structure Tx (K:PySem.W.Frag) (mg:Str->Option Value):Prop where
 b_all:mg "all"=none
 b_bool:mg "bool"=none
 b_dict:mg "dict"=none
 b_int:mg "int"=none
 b_isinstance:mg "isinstance"=none
 b_len:mg "len"=none
 b_list:mg "list"=none
 b_max:mg "max"=none
 b_min:mg "min"=none
 b_range:mg "range"=none
 b_repr:mg "repr"=none
 b_set:mg "set"=none
 b_sorted:mg "sorted"=none
 b_str:mg "str"=none
 b_tuple:mg "tuple"=none
 b_zip:mg "zip"=none
noncomputable def BO (P:Program)(w:World)(K:PySem.W.Frag)(mg:Str->Option Value)(base:Heap)(r:Nat)(x:Str)(st:Stmt)(f:Addr)(N:List Str)(m:Sx):Prop:=∀ (cdv:Value) (A:Around) (outer:List Env) (s:Shared) (H:Hp) (E:XK),Room r (A.deeper (envOfC x (Cr st) s.heap.objs.size f cdv))->SVB (Kn CX0 P w K mg base N x (Cr st) f cdv A outer s H E).nox (Ek st) m
section
variable {P:Program} {w:World} {K:PySem.W.Frag} {mg:Str->Option Value} {base:Heap}
theorem Me:CN ["thing","least","most"] ["thing","least","most"] (Cr GC):=⟨rfl,rfl,rfl,by decide +kernel,rfl,by decide +kernel,by decide +kernel⟩
theorem Ml {f:Addr}{fd:FuncData}(F:Fun K "is_tuple" "is_tuple" GC f fd)(T:Tx K mg) :D3 P w K mg base CX0 1 f fd ["thing","least","most"] (spF ⟨K,P,w⟩ En 3):=by
 have b:BO P w K mg base 0 "is_tuple" GC f ["thing","least","most"] HF:=λcdv A outer s H E hr=>by
  exact Cv (CB (NS (F8 "tuple" (Ci 0) T.b_isinstance T.b_tuple Ca) (NU (RW Ra Ra (Ci 1) (CC CO T.b_len BZ (Cf (Ci 0) Ck)) (Ci 2)))))
 have c:=DJ 3 3 F Me rfl rfl b
 exact c
theorem Kl:CN ["things"] ["things"] (Cr E9):=⟨rfl,rfl,rfl,by decide +kernel,rfl,by decide +kernel,by decide +kernel⟩
theorem Kf {f:Addr}{fd:FuncData}(F:Fun K "are_unlike" "are_unlike" E9 f fd)(T:Tx K mg) :D3 P w K mg base CX0 1 f fd ["things"] (spF ⟨K,P,w⟩ Ey 1):=by
 have b:BO P w K mg base 0 "are_unlike" E9 f ["things"] Gq:=λcdv A outer s H E hr=>by
  exact Cv (CB (IA (E5 hr.units) (CC CO T.b_len BZ (Cf (Du (Ks hr.units rfl) T.b_set boot_set (Cf (Ci 0) Ck)) Ck)) (CC CO T.b_len BZ (Cf (Ci 0) Ck))))
 have c:=DJ 1 1 F Kl rfl rfl b
 exact c
theorem LC:CN ["things"] ["things"] (Cr EY):=⟨rfl,rfl,rfl,by decide +kernel,rfl,by decide +kernel,by decide +kernel⟩
theorem Lo {f:Addr}{fd:FuncData}(F:Fun K "is_rising" "is_rising" EY f fd)(T:Tx K mg) :D3 P w K mg base CX0 1 f fd ["things"] (spF ⟨K,P,w⟩ D6 1):=by
 have b:BO P w K mg base 0 "is_rising" EY f ["things"] FI:=λcdv A outer s H E hr=>by
  exact Cv (CB (CC (F1 rfl) T.b_all boot_all (Cf (GH ["one","other"] [] (by exact HL (Cr EY) rfl rfl ⟨rfl,by decide +kernel,by decide +kernel,by decide +kernel⟩ True.intro) (Ft T.b_zip (Cf (Ci 0) (Cf (Dp (Ci 0) (Dn Cp) Dl) Ck))) (Fu (Dc CP (Dc CP ER))) (λ_ _ _ _ _=>DI rfl (Cw (Cu 0 (show (["one","other"]:List Str).Nodup by decide +kernel)) (Cw (Cu 1 (show (["one","other"]:List Str).Nodup by decide +kernel)) Dj))) (λ_ _ _ _ _=>D0) (λ_ _ _ _ _=>IA (QY hr.units) (Ci 0) (Ci 1))) Ck)))
 have c:=DJ 1 1 F LC rfl rfl b
 exact c
theorem Gj:CN ["choices","found","choice"] ["choices"] (Cr FX):=⟨rfl,rfl,rfl,by decide +kernel,rfl,by decide +kernel,by decide +kernel⟩
theorem NY {f:Addr}{fd:FuncData}(F:Fun K "product" "product" FX f fd)(T:Tx K mg) :D3 P w K mg base CX0 1 f fd ["choices"] (spF ⟨K,P,w⟩ FZ 1):=by
 have b:BO P w K mg base 0 "product" FX f ["choices","found","choice"] Ir:=λcdv A outer s H E hr=>by
  exact Cs (CS 1 Gj.nd (Hr (Cf (DO Ck) Ck))) (Cs (Ed Bn rfl (DQ (Ci 0)) (Cu 2 Gj.nd) (Cv (Z7 ["start","value"] [(2,"choice")] 1 (XZ  ["start","value"] 1 (by decide) [(2,"choice")] (by exact HL (Cr FX) rfl rfl ⟨rfl,by decide +kernel,by decide +kernel,by decide +kernel⟩ ⟨⟨rfl,.inl rfl,.inl rfl⟩,True.intro⟩) (DQ (Ci 1)) MW MW (λ_ _ _ _ _=>Cu 0 (show (["start","value","choice"]:List Str).Nodup by decide +kernel)) (λ_ _ _ _ _=>D0) (λ_ _ _ _ _=>DQ (Ci 2)) (λ_ _ _ _ _=>Cu 1 (show (["start","value","choice"]:List Str).Nodup by decide +kernel)) (λ_ _ _ _ _=>D0) (λ_ _ _ _ _=>Cz CI (Ci 0) (DO (Cf (Ci 1) Ck)))) Gj.nd (by rfl) (by first|exact Or.inl rfl|exact Or.inr rfl) (by first|exact .inl rfl|exact .inr rfl) (by rfl) (by rfl)))) (Cv (CB (Ci 1))))
 have c:=DJ 3 1 F Gj rfl rfl b
 exact c
theorem PK:CN ["columns","thing"] ["columns","thing"] (Cr GY):=⟨rfl,rfl,rfl,by decide +kernel,rfl,by decide +kernel,by decide +kernel⟩
theorem PR {f:Addr}{fd:FuncData}(F:Fun K "is_row" "is_row" GY f fd)(T:Tx K mg)(Hv:Cal P w K mg base 1 "is_tuple" En 3):D3 P w K mg base CX0 2 f fd ["columns","thing"] (spF ⟨K,P,w⟩ EX 2):=by
 have b:BO P w K mg base 1 "is_row" GY f ["columns","thing"] G1:=λcdv A outer s H E hr=>by
  have hr_is_tuple:Room 1 _:=hr.mono (by decide)
  exact Cs (DW (EU (EV (Cy Hv hr_is_tuple (Cf (Ci 1) (Cf (CC CO T.b_len BZ (Cf (Ci 0) Ck)) (Cf (CC CO T.b_len BZ (Cf (Ci 0) Ck)) Ck)))))) (Cv (CB FG)) Dy) (Cv (CB (CC (F1 rfl) T.b_all boot_all (Cf (GH ["cell","column","values"] [] (by exact HL (Cr GY) rfl rfl ⟨rfl,by decide +kernel,by decide +kernel,by decide +kernel⟩ True.intro) (Ft T.b_zip (Cf (Ci 1) (Cf (Ci 0) Ck))) (Fu (Dc CP (Dc (Fu (Dc CP (Dc CP ER))) ER))) (λ_ _ _ _ _=>DI rfl (Cw (Cu 0 (show (["cell","column","values"]:List Str).Nodup by decide +kernel)) (Cw (DI rfl (Cw (Cu 1 (show (["cell","column","values"]:List Str).Nodup by decide +kernel)) (Cw (Cu 2 (show (["cell","column","values"]:List Str).Nodup by decide +kernel)) Dj))) Dj))) (λ_ _ _ _ _=>D0) (λ_ _ _ _ _=>NS (F8 "str" (Ci 0) T.b_isinstance T.b_str boot_str) (NU (IA (XJ hr.units) (Ci 0) (Ci 2))))) Ck))))
 have c:=DJ 2 2 F PK rfl rfl b
 exact c
theorem FK:CN ["table","thing","name","columns","keys"] ["table","thing"] (Cr EN):=⟨rfl,rfl,rfl,by decide +kernel,rfl,by decide +kernel,by decide +kernel⟩
theorem MR {f:Addr}{fd:FuncData}(F:Fun K "are_rows" "are_rows" EN f fd)(T:Tx K mg)(Q7:Cal P w K mg base 2 "is_row" EX 2)(M6:Cal P w K mg base 1 "is_rising" D6 1)(LV:Cal P w K mg base 1 "are_unlike" Ey 1):D3 P w K mg base CX0 3 f fd ["table","thing"] (spF ⟨K,P,w⟩ DP 2):=by
 have b:BO P w K mg base 2 "are_rows" EN f ["table","thing","name","columns","keys"] EJ:=λcdv A outer s H E hr=>by
  have hr_is_row:Room 2 _:=hr.mono (by decide)
  have hr_is_rising:Room 1 _:=hr.mono (by decide)
  have hr_are_unlike:Room 1 _:=hr.mono (by decide)
  exact Cs (Gz (Ci 0) (DI rfl (Cw (Cu 2 FK.nd) (Cw (Cu 3 FK.nd) (Cw (Cu 4 FK.nd) Dj))))) (Cs (DW (SVW.t (GF (EU (EV (F8 "tuple" (Ci 1) T.b_isinstance T.b_tuple Ca))) (Gn (EU (EV (CC (F1 rfl) T.b_all boot_all (Cf (GH ["row"] [(3,"columns")] (by exact HL (Cr EN) rfl rfl ⟨rfl,by decide +kernel,by decide +kernel,by decide +kernel⟩ ⟨⟨rfl,.inl rfl,.inl rfl⟩,True.intro⟩) (DQ (Ci 1)) CP (λ_ _ _ _ _=>Cu 0 (show (["row","columns"]:List Str).Nodup by decide +kernel)) (λ_ _ _ _ _=>D0) (λ_ _ _ _ _=>Cy Q7 hr_is_row (Cf (Ci 1) (Cf (Ci 0) Ck)))) Ck))))))) (Cv (CB FG)) Dy) (Cv (CB (NS (Cy M6 hr_is_rising (Cf (Ci 1) Ck)) (NU (Cy LV hr_are_unlike (Cf (GH ["row"] [(4,"keys")] (by exact HL (Cr EN) rfl rfl ⟨rfl,by decide +kernel,by decide +kernel,by decide +kernel⟩ ⟨⟨rfl,.inl rfl,.inl rfl⟩,True.intro⟩) (DQ (Ci 1)) CP (λ_ _ _ _ _=>Cu 0 (show (["row","keys"]:List Str).Nodup by decide +kernel)) (λ_ _ _ _ _=>D0) (λ_ _ _ _ _=>Dp (Ci 0) Dl (Dn (Ci 1)))) Ck)))))))
 have c:=DJ 5 2 F FK rfl rfl b
 exact c
theorem Ki:CN ["schema","thing"] ["schema","thing"] (Cr EH):=⟨rfl,rfl,rfl,by decide +kernel,rfl,by decide +kernel,by decide +kernel⟩
theorem Ko {f:Addr}{fd:FuncData}(F:Fun K "is_filling" "is_filling" EH f fd)(T:Tx K mg)(Hv:Cal P w K mg base 1 "is_tuple" En 3)(NF:Cal P w K mg base 3 "are_rows" DP 2):D3 P w K mg base CX0 4 f fd ["schema","thing"] (spF ⟨K,P,w⟩ CY 2):=by
 have b:BO P w K mg base 3 "is_filling" EH f ["schema","thing"] EG:=λcdv A outer s H E hr=>by
  have hr_is_tuple:Room 1 _:=hr.mono (by decide)
  have hr_are_rows:Room 3 _:=hr.mono (by decide)
  exact Cs (DW (EU (EV (Cy Hv hr_is_tuple (Cf (Ci 1) (Cf (CC CO T.b_len BZ (Cf (Ci 0) Ck)) (Cf (CC CO T.b_len BZ (Cf (Ci 0) Ck)) Ck)))))) (Cv (CB FG)) Dy) (Cv (CB (CC (F1 rfl) T.b_all boot_all (Cf (GH ["table","rows"] [] (by exact HL (Cr EH) rfl rfl ⟨rfl,by decide +kernel,by decide +kernel,by decide +kernel⟩ True.intro) (Ft T.b_zip (Cf (Ci 0) (Cf (Ci 1) Ck))) (Fu (Dc CP (Dc CP ER))) (λ_ _ _ _ _=>DI rfl (Cw (Cu 0 (show (["table","rows"]:List Str).Nodup by decide +kernel)) (Cw (Cu 1 (show (["table","rows"]:List Str).Nodup by decide +kernel)) Dj))) (λ_ _ _ _ _=>D0) (λ_ _ _ _ _=>Cy NF hr_are_rows (Cf (Ci 0) (Cf (Ci 1) Ck)))) Ck))))
 have c:=DJ 2 2 F Ki rfl rfl b
 exact c
theorem GG:CN ["rows","keys","key","row"] ["rows","keys","key"] (Cr Ew):=⟨rfl,rfl,rfl,by decide +kernel,rfl,by decide +kernel,by decide +kernel⟩
theorem Jb {f:Addr}{fd:FuncData}(F:Fun K "row_with_key" "row_with_key" Ew f fd)(T:Tx K mg) :D3 P w K mg base CX0 1 f fd ["rows","keys","key"] (spF ⟨K,P,w⟩ Dv 3):=by
 have b:BO P w K mg base 0 "row_with_key" Ew f ["rows","keys","key","row"] Ez:=λcdv A outer s H E hr=>by
  exact Cs (Ed Bn rfl (DQ (Ci 0)) (Cu 3 GG.nd) (Cv (DW (Dz (E5 hr.units) (Dp (Ci 3) Dl (Dn (Ci 1))) (Ci 2)) (Cv (CB (Ci 3))) Dy))) (Cv (CB NH))
 have c:=DJ 4 3 F GG rfl rfl b
 exact c
theorem IG:CN ["schema","filling","name","key","table","rows"] ["schema","filling","name","key"] (Cr HW):=⟨rfl,rfl,rfl,by decide +kernel,rfl,by decide +kernel,by decide +kernel⟩
theorem Qu {f:Addr}{fd:FuncData}(F:Fun K "row_at" "row_at" HW f fd)(T:Tx K mg)(JU:Cal P w K mg base 1 "row_with_key" Dv 3):D3 P w K mg base CX0 2 f fd ["schema","filling","name","key"] (spF ⟨K,P,w⟩ FY 4):=by
 have b:BO P w K mg base 1 "row_at" HW f ["schema","filling","name","key","table","rows"] Jx:=λcdv A outer s H E hr=>by
  have hr_row_with_key:Room 1 _:=hr.mono (by decide)
  exact Cs (Ed Bn rfl (Ft T.b_zip (Cf (Ci 0) (Cf (Ci 1) Ck))) (DI rfl (Cw (Cu 4 IG.nd) (Cw (Cu 5 IG.nd) Dj))) (Cv (DW (Dz (E5 hr.units) (DZ (Fb hr.units) (Ci 4) Cp) (Ci 2)) (Cv (CB (Cy JU hr_row_with_key (Cf (Ci 5) (Cf (DZ (Fb hr.units) (Ci 4) Cp) (Cf (Ci 3) Ck)))))) Dy))) (Cv (CB NH))
 have c:=DJ 6 4 F IG rfl rfl b
 exact c
theorem MQ:CN ["schema","name"] ["schema","name"] (Cr Fo):=⟨rfl,rfl,rfl,by decide +kernel,rfl,by decide +kernel,by decide +kernel⟩
theorem Mm {f:Addr}{fd:FuncData}(F:Fun K "table_of" "table_of" Fo f fd)(T:Tx K mg) :D3 P w K mg base CX0 1 f fd ["schema","name"] (spF ⟨K,P,w⟩ Fw 2):=by
 have b:BO P w K mg base 0 "table_of" Fo f ["schema","name"] Hw:=λcdv A outer s H E hr=>by
  exact Cv (CB (DZ (Fb hr.units) (GH ["table"] [(1,"name")] (by exact HL (Cr Fo) rfl rfl ⟨rfl,by decide +kernel,by decide +kernel,by decide +kernel⟩ ⟨⟨rfl,.inl rfl,.inl rfl⟩,True.intro⟩) (DQ (Ci 0)) CP (λ_ _ _ _ _=>Cu 0 (show (["table","name"]:List Str).Nodup by decide +kernel)) (λ_ _ _ _ _=>UU (Dz (E5 hr.units) (DZ (Fb hr.units) (Ci 0) Cp) (Ci 1))) (λ_ _ _ _ _=>Ci 0)) Cp))
 have c:=DJ 2 2 F MQ rfl rfl b
 exact c
theorem IP:CN ["columns"] ["columns"] (Cr DT):=⟨rfl,rfl,rfl,by decide +kernel,rfl,by decide +kernel,by decide +kernel⟩
theorem Iu {f:Addr}{fd:FuncData}(F:Fun K "rising_values" "rising_values" DT f fd)(T:Tx K mg) :D3 P w K mg base CX0 1 f fd ["columns"] (spF ⟨K,P,w⟩ DS 1):=by
 have b:BO P w K mg base 0 "rising_values" DT f ["columns"] E6:=λcdv A outer s H E hr=>by
  exact Cv (CB (GH ["column","values"] [] (by exact HL (Cr DT) rfl rfl ⟨rfl,by decide +kernel,by decide +kernel,by decide +kernel⟩ True.intro) (DQ (Ci 0)) (Fu (Dc CP (Dc CP ER))) (λ_ _ _ _ _=>DI rfl (Cw (Cu 0 (show (["column","values"]:List Str).Nodup by decide +kernel)) (Cw (Cu 1 (show (["column","values"]:List Str).Nodup by decide +kernel)) Dj))) (λ_ _ _ _ _=>D0) (λ_ _ _ _ _=>CC (Iq hr.units rfl) T.b_sorted boot_sorted (Cf (Ci 1) Ck))))
 have c:=DJ 1 1 F IP rfl rfl b
 exact c
theorem Jv:CN ["schema","name","table"] ["schema","name"] (Cr Hb):=⟨rfl,rfl,rfl,by decide +kernel,rfl,by decide +kernel,by decide +kernel⟩
theorem N9 {f:Addr}{fd:FuncData}(F:Fun K "keys_of" "keys_of" Hb f fd)(T:Tx K mg)(N2:Cal P w K mg base 1 "table_of" Fw 2)(Pp:Cal P w K mg base 1 "product" FZ 1)(IY:Cal P w K mg base 1 "rising_values" DS 1):D3 P w K mg base CX0 2 f fd ["schema","name"] (spF ⟨K,P,w⟩ Ff 2):=by
 have b:BO P w K mg base 1 "keys_of" Hb f ["schema","name","table"] IE:=λcdv A outer s H E hr=>by
  have hr_table_of:Room 1 _:=hr.mono (by decide)
  have hr_product:Room 1 _:=hr.mono (by decide)
  have hr_rising_values:Room 1 _:=hr.mono (by decide)
  exact Cs (CS 2 Jv.nd (Cy N2 hr_table_of (Cf (Ci 0) (Cf (Ci 1) Ck)))) (Cv (CB (Du EK T.b_tuple Ca (Cf (Cy Pp hr_product (Cf (Cy IY hr_rising_values (Cf (Dp (DZ (Fb hr.units) (Ci 2) Cp) Dl (Dn (DZ (Fb hr.units) (Ci 2) Cp))) Ck)) Ck)) Ck))))
 have c:=DJ 3 2 F Jv rfl rfl b
 exact c
theorem GV:CN ["_law_script","_law_k","_law_cell"] ["_law_script","_law_k"] (Cr Ga):=⟨rfl,rfl,rfl,by decide +kernel,rfl,by decide +kernel,by decide +kernel⟩
theorem M3 {f:Addr}{fd:FuncData}(F:Fun K "_law_hand" "_law_hand" Ga f fd)(T:Tx K mg) :D3 P w K mg base CX0 1 f fd ["_law_script","_law_k"] (spF ⟨K,P,w⟩ El 2):=by
 have b:BO P w K mg base 0 "_law_hand" Ga f ["_law_script","_law_k","_law_cell"] Gi:=λcdv A outer s H E hr=>by
  exact Cs (CS 2 GV.nd Cp) (Cs (DW (Dz (QY hr.units) (Ci 1) (CC CO T.b_len BZ (Cf (Ci 0) Ck))) (Cv (CS 2 GV.nd (DZ (Fb hr.units) (Ci 0) (Ci 1)))) Dy) (Cv (CB (Jq (Cf (Cz EB (Ci 2) (Du K0 T.b_int boot_int (Cf (IA WT (Ci 2) (Cz Vp Cp Cp)) Ck))) (Cf (Cz CI (Cz CI (Cz E7 (Ci 2) Cp) (Cz EB Cp (Ci 1))) Cp) (Cf Cp Ck)))))))
 have c:=DJ 3 2 F GV rfl rfl b
 exact c
theorem Es:CN ["_law_hand_here","_law_many","_law_digit","_law_turn","_law_mixed","_law_other"] ["_law_hand_here","_law_many"] (Cr F9):=⟨rfl,rfl,rfl,by decide +kernel,rfl,by decide +kernel,by decide +kernel⟩
theorem My {f:Addr}{fd:FuncData}(F:Fun K "_law_take" "_law_take" F9 f fd)(T:Tx K mg) :D3 P w K mg base CX0 1 f fd ["_law_hand_here","_law_many"] (spF ⟨K,P,w⟩ Ct 2):=by
 have b:BO P w K mg base 0 "_law_take" F9 f ["_law_hand_here","_law_many","_law_digit","_law_turn","_law_mixed","_law_other"] Gr:=λcdv A outer s H E hr=>by
  exact Cs (DW (Dz V0 (DZ (Fb hr.units) (Ci 0) Cp) Cp) (Cs (CS 2 Es.nd (Cz E7 (DZ (Fb hr.units) (Ci 0) Cp) (Ci 1))) (Cs (Gz (Cz Kb (DZ (Fb hr.units) (Ci 0) Cp) (Ci 1)) (Np hr.units (Ci 0) Cp)) (Cv (CB (Ci 2))))) Dy) (Cs (Gz (Cz CI (DZ (Fb hr.units) (Ci 0) Cp) Cp) (Np hr.units (Ci 0) Cp)) (Cs (CS 3 Es.nd (DZ (Fb hr.units) (Ci 0) Cp)) (Cs (CS 4 Es.nd (Cz E7 (Cz EB (DZ (Fb hr.units) (Ci 0) Cp) (Cz CI (Cz CI Cp (Cz EB (Cz EB Cp (Ci 3)) (Ci 3))) (Cz EB Cp (Ci 3)))) Cp)) (Cs (CS 5 Es.nd (Cz CI (Cz CI (Cz E7 (Ci 4) Cp) (Cz EB (Ci 3) Cp)) Cp)) (Cs (CS 4 Es.nd (Cz E7 (Cz EB (Ci 4) (Ci 5)) Cp)) (Cv (CB (Cz E7 (Cz CI (Cz Kb (Ci 4) Cp) (Cz Kb (Ci 4) Cp)) (Ci 1)))))))))
 have c:=DJ 6 2 F Es rfl rfl b
 exact c
theorem Mh:CN ["_law_hand_here","_law_some"] ["_law_hand_here","_law_some"] (Cr Gp):=⟨rfl,rfl,rfl,by decide +kernel,rfl,by decide +kernel,by decide +kernel⟩
theorem MS {f:Addr}{fd:FuncData}(F:Fun K "_law_pick" "_law_pick" Gp f fd)(T:Tx K mg)(CF:Cal P w K mg base 1 "_law_take" Ct 2):D3 P w K mg base CX0 2 f fd ["_law_hand_here","_law_some"] (spF ⟨K,P,w⟩ Dd 2):=by
 have b:BO P w K mg base 1 "_law_pick" Gp f ["_law_hand_here","_law_some"] Gu:=λcdv A outer s H E hr=>by
  have hr_law_take:Room 1 _:=hr.mono (by decide)
  exact Cv (CB (DZ (Fb hr.units) (Ci 1) (Cy CF hr_law_take (Cf (Ci 0) (Cf (CC CO T.b_len BZ (Cf (Ci 1) Ck)) Ck)))))
 have c:=DJ 2 2 F Mh rfl rfl b
 exact c
theorem Ec:CN ["_law_hand_here","_law_many","_law_most","_law_signs","_law_first","_law_step","_law_stem","_law_at"] ["_law_hand_here","_law_many","_law_most"] (Cr EZ):=⟨rfl,rfl,rfl,by decide +kernel,rfl,by decide +kernel,by decide +kernel⟩
theorem L4 {f:Addr}{fd:FuncData}(F:Fun K "_law_words" "_law_words" EZ f fd)(T:Tx K mg)(CF:Cal P w K mg base 1 "_law_take" Ct 2)(EL:Cal P w K mg base 2 "_law_pick" Dd 2):D3 P w K mg base CX0 3 f fd ["_law_hand_here","_law_many","_law_most"] (spF ⟨K,P,w⟩ Ea 3):=by
 have b:BO P w K mg base 2 "_law_words" EZ f ["_law_hand_here","_law_many","_law_most","_law_signs","_law_first","_law_step","_law_stem","_law_at"] GQ:=λcdv A outer s H E hr=>by
  have hr_law_take:Room 1 _:=hr.mono (by decide)
  have hr_law_pick:Room 2 _:=hr.mono (by decide)
  exact Cs (CS 3 Ec.nd GS) (Cs (Gz (DO (Cf (Cy CF hr_law_take (Cf (Ci 0) (Cf Cp Ck))) (Cf (Cy EL hr_law_pick (Cf (Ci 0) (Cf (Hr (Cf Cp (Cf Cp (Cf Cp (Cf Cp (Cf Cp (Cf Cp Ck))))))) Ck))) Ck))) (DI rfl (Cw (Cu 4 Ec.nd) (Cw (Cu 5 Ec.nd) Dj)))) (Cs (CS 6 Ec.nd (Cz EB (DZ (Fb hr.units) (Ci 3) (Cy CF hr_law_take (Cf (Ci 0) (Cf Cp Ck)))) (CC (K5 rfl) T.b_min boot_min (Cf (Cz O9 (Ci 2) Cp) (Cf (Cy EL hr_law_pick (Cf (Ci 0) (Cf (Hr (Cf Cp (Cf Cp (Cf Cp (Cf Cp (Cf Cp Ck)))))) Ck))) Ck))))) (Cs (CS 7 Ec.nd (Cy CF hr_law_take (Cf (Ci 0) (Cf (Cz CI (CC CO T.b_len BZ (Cf (Ci 6) Ck)) Cp) Ck)))) (Cv (CB (GH ["_law_k"] [(6,"_law_stem"),(7,"_law_at"),(3,"_law_signs"),(4,"_law_first"),(5,"_law_step")] (by exact HL (Cr EZ) rfl rfl ⟨rfl,by decide +kernel,by decide +kernel,by decide +kernel⟩ ⟨⟨rfl,.inl rfl,.inl rfl⟩,⟨rfl,.inl rfl,.inl rfl⟩,⟨rfl,.inl rfl,.inl rfl⟩,⟨rfl,.inl rfl,.inl rfl⟩,⟨rfl,.inl rfl,.inl rfl⟩,True.intro⟩) (Fg T.b_range (Cf (Ci 1) Ck)) CP (λ_ _ _ _ _=>Cu 0 (show (["_law_k","_law_stem","_law_at","_law_signs","_law_first","_law_step"]:List Str).Nodup by decide +kernel)) (λ_ _ _ _ _=>D0) (λ_ _ _ _ _=>Cz CI (Cz CI (Dp (Ci 1) Dl (Dn (Ci 2))) (DZ (Fb hr.units) (Ci 3) (Cz E7 (Cz CI (Ci 4) (Cz EB (Ci 5) (Ci 0))) Cp))) (Dp (Ci 1) (Dn (Ci 2)) Dl))))))))
 have c:=DJ 8 3 F Ec rfl rfl b
 exact c
theorem CW:CN ["_law_hand_here","_law_tables","_law_columns","_law_values","_law_names","_law_words_here","_law_stock","_law_found","_law_name","_law_many","_law_shift","_law_row","_law_k","_law_some","_law_turn","_law_mine"] ["_law_hand_here","_law_tables","_law_columns","_law_values"] (Cr Eu):=⟨rfl,rfl,rfl,by decide +kernel,rfl,by decide +kernel,by decide +kernel⟩
theorem Kk {f:Addr}{fd:FuncData}(F:Fun K "_law_schema" "_law_schema" Eu f fd)(T:Tx K mg)(GP:Cal P w K mg base 3 "_law_words" Ea 3)(CF:Cal P w K mg base 1 "_law_take" Ct 2):D3 P w K mg base CX0 4 f fd ["_law_hand_here","_law_tables","_law_columns","_law_values"] (spF ⟨K,P,w⟩ DN 4):=by
 have b:BO P w K mg base 3 "_law_schema" Eu f ["_law_hand_here","_law_tables","_law_columns","_law_values","_law_names","_law_words_here","_law_stock","_law_found","_law_name","_law_many","_law_shift","_law_row","_law_k","_law_some","_law_turn","_law_mine"] Gg:=λcdv A outer s H E hr=>by
  have hr_law_words:Room 3 _:=hr.mono (by decide)
  have hr_law_take:Room 1 _:=hr.mono (by decide)
  exact Cs (CS 4 CW.nd (CC (Iq hr.units rfl) T.b_sorted boot_sorted (Cf (Cy GP hr_law_words (Cf (Ci 0) (Cf (Cz CI Cp (Cy CF hr_law_take (Cf (Ci 0) (Cf (Ci 1) Ck)))) (Cf Cp Ck)))) Ck))) (Cs (Gz (DO (Cf (Cy GP hr_law_words (Cf (Ci 0) (Cf (Cz CI (Ci 2) Cp) (Cf Cp Ck)))) (Cf (Cy GP hr_law_words (Cf (Ci 0) (Cf (Cz CI (Ci 3) Cp) (Cf Cp Ck)))) Ck))) (DI rfl (Cw (Cu 5 CW.nd) (Cw (Cu 6 CW.nd) Dj)))) (Cs (CS 7 CW.nd (Jq Ck)) (Cs (Ed Bn rfl (DQ (Ci 4)) (Cu 8 CW.nd) (Cs (Sj 9 10 11 rfl CW.nd (Cf (Cz CI Cp (Cy CF hr_law_take (Cf (Ci 0) (Cf (Ci 2) Ck)))) (Cf (Cy CF hr_law_take (Cf (Ci 0) (Cf Cp Ck))) (Cf (Jq Ck) Ck))) (by rfl)) (Cs (Ed Bn rfl (Fg T.b_range (Cf (Ci 9) Ck)) (Cu 12 CW.nd) (Cs (Gz (DO (Cf (Cz CI Cp (Cy CF hr_law_take (Cf (Ci 0) (Cf (Ci 3) Ck)))) (Cf (Cy CF hr_law_take (Cf (Ci 0) (Cf Cp Ck))) Ck))) (DI rfl (Cw (Cu 13 CW.nd) (Cw (Cu 14 CW.nd) Dj)))) (Cs (CS 15 CW.nd (Du EK T.b_tuple Ca (Cf (GH ["_law_j"] [(6,"_law_stock"),(14,"_law_turn")] (by exact HL (Cr Eu) rfl rfl ⟨rfl,by decide +kernel,by decide +kernel,by decide +kernel⟩ ⟨⟨rfl,.inl rfl,.inl rfl⟩,⟨rfl,.inl rfl,.inl rfl⟩,True.intro⟩) (Fg T.b_range (Cf (Ci 13) Ck)) CP (λ_ _ _ _ _=>Cu 0 (show (["_law_j","_law_stock","_law_turn"]:List Str).Nodup by decide +kernel)) (λ_ _ _ _ _=>D0) (λ_ _ _ _ _=>DZ (Fb hr.units) (Ci 1) (Cz E7 (Cz CI (Ci 0) (Ci 2)) (CC CO T.b_len BZ (Cf (Ci 1) Ck))))) Ck))) (Cv (Jy (Iz (Ci 11) (Cf (DO (Cf (DZ (Fb hr.units) (Ci 5) (Cz E7 (Cz CI (Ci 12) (Ci 10)) (CC CO T.b_len BZ (Cf (Ci 5) Ck)))) (Cf (Ci 15) Ck))) Ck))))))) (Cv (Jy (Iz (Ci 7) (Cf (DO (Cf (Ci 8) (Cf (Du EK T.b_tuple Ca (Cf (Ci 11) Ck)) (Cf (Cz CI Cp (Cy CF hr_law_take (Cf (Ci 0) (Cf (Ci 9) Ck)))) Ck)))) Ck))))))) (Cv (CB (Du EK T.b_tuple Ca (Cf (Ci 7) Ck)))))))
 have c:=RZ 16 4 F CW rfl rfl b
 exact c
theorem Dm:CN ["_law_hand_here","_law_schema_here","_law_most","_law_found","_law_name","_law_columns","_law_keys","_law_rows","_law_k","_law_row"] ["_law_hand_here","_law_schema_here","_law_most"] (Cr Ei):=⟨rfl,rfl,rfl,by decide +kernel,rfl,by decide +kernel,by decide +kernel⟩
theorem JB {f:Addr}{fd:FuncData}(F:Fun K "_law_filling" "_law_filling" Ei f fd)(T:Tx K mg)(CF:Cal P w K mg base 1 "_law_take" Ct 2)(EL:Cal P w K mg base 2 "_law_pick" Dd 2):D3 P w K mg base CX0 3 f fd ["_law_hand_here","_law_schema_here","_law_most"] (spF ⟨K,P,w⟩ Dt 3):=by
 have b:BO P w K mg base 2 "_law_filling" Ei f ["_law_hand_here","_law_schema_here","_law_most","_law_found","_law_name","_law_columns","_law_keys","_law_rows","_law_k","_law_row"] FQ:=λcdv A outer s H E hr=>by
  have hr_law_take:Room 1 _:=hr.mono (by decide)
  have hr_law_pick:Room 2 _:=hr.mono (by decide)
  exact Cs (CS 3 Dm.nd (Jq Ck)) (Cs (Ed Bn rfl (DQ (Ci 1)) (DI rfl (Cw (Cu 4 Dm.nd) (Cw (Cu 5 Dm.nd) (Cw (Cu 6 Dm.nd) Dj)))) (Cs (CS 7 Dm.nd UH) (Cs (Ed Bn rfl (Fg T.b_range (Cf (Cy CF hr_law_take (Cf (Ci 0) (Cf (Cz CI (Ci 2) Cp) Ck))) Ck)) (Cu 8 Dm.nd) (Cs (CS 9 Dm.nd (Du EK T.b_tuple Ca (Cf (GH ["_law_column","_law_values"] [(0,"_law_hand_here")] (by exact HL (Cr Ei) rfl rfl ⟨rfl,by decide +kernel,by decide +kernel,by decide +kernel⟩ ⟨⟨rfl,.inl rfl,.inl rfl⟩,True.intro⟩) (DQ (Ci 5)) (Fu (Dc CP (Dc CP ER))) (λ_ _ _ _ _=>DI rfl (Cw (Cu 0 (show (["_law_column","_law_values","_law_hand_here"]:List Str).Nodup by decide +kernel)) (Cw (Cu 1 (show (["_law_column","_law_values","_law_hand_here"]:List Str).Nodup by decide +kernel)) Dj))) (λ_ _ _ _ _=>D0) (λ_ _ _ _ _=>Cy EL hr_law_pick (Cf (Ci 2) (Cf (Ci 1) Ck)))) Ck))) (Cv (Gz (Ci 9) (Np hr.units (Ci 7) (Dp (Ci 9) Dl (Dn (Ci 6)))))))) (Cv (Jy (Iz (Ci 3) (Cf (Du EK T.b_tuple Ca (Cf (TY hr.units rfl T.b_sorted (Ci 7)) Ck)) Ck))))))) (Cv (CB (Du EK T.b_tuple Ca (Cf (Ci 3) Ck)))))
 have c:=RZ 10 3 F Dm rfl rfl b
 exact c
theorem DF:CN ["_law_table","_law_thing","_law_row","_law_one","_law_column","_law_values","_law_keys"] ["_law_table","_law_thing"] (Cr Eb):=⟨rfl,rfl,rfl,by decide +kernel,rfl,by decide +kernel,by decide +kernel⟩
theorem Jg {f:Addr}{fd:FuncData}(F:Fun K "_law_rows_fit" "_law_rows_fit" Eb f fd)(T:Tx K mg) :D3 P w K mg base CX0 1 f fd ["_law_table","_law_thing"] (spF ⟨K,P,w⟩ Dq 2):=by
 have b:BO P w K mg base 0 "_law_rows_fit" Eb f ["_law_table","_law_thing","_law_row","_law_one","_law_column","_law_values","_law_keys"] D9:=λcdv A outer s H E hr=>by
  exact Cs (DW (EU (EV (F8 "tuple" (Ci 1) T.b_isinstance T.b_tuple Ca))) (Cv (CB FG)) Dy) (Cs (Ed Bn rfl (DQ (Ci 1)) (Cu 2 DF.nd) (Cs (DW (SVW.t (GF (EU (EV (F8 "tuple" (Ci 2) T.b_isinstance T.b_tuple Ca))) (Gn (Dz (Lf hr.units) (CC CO T.b_len BZ (Cf (Ci 2) Ck)) (CC CO T.b_len BZ (Cf (DZ (Fb hr.units) (Ci 0) Cp) Ck)))))) (Cv (CB FG)) Dy) (Cv (Ed Bn rfl (Ft T.b_zip (Cf (Ci 2) (Cf (DZ (Fb hr.units) (Ci 0) Cp) Ck))) (DI rfl (Cw (Cu 3 DF.nd) (Cw (DI rfl (Cw (Cu 4 DF.nd) (Cw (Cu 5 DF.nd) Dj))) Dj))) (Cv (DW (SVW.t (GF (EU (EV (F8 "str" (Ci 3) T.b_isinstance T.b_str boot_str))) (Gn (Dz (Uv hr.units) (Ci 3) (Ci 5))))) (Cv (CB FG)) Dy)))))) (Cs (Pk 6 ["_law_row"] [(0,"_law_table")] (by exact HL (Cr Eb) rfl rfl ⟨rfl,by decide +kernel,by decide +kernel,by decide +kernel⟩ ⟨⟨rfl,.inl rfl,.inl rfl⟩,True.intro⟩) (DQ (Ci 1)) CP (λ_ _ _ _ _=>Cu 0 (show (["_law_row","_law_table"]:List Str).Nodup by decide +kernel)) (λ_ _ _ _ _=>D0) (λ_ _ _ _ _=>Dp (Ci 0) Dl (Dn (DZ (Fb hr.units) (Ci 1) Cp))) DF.nd) (Cv (CB (IA (E5 hr.units) (Ci 6) (CC (Iq hr.units rfl) T.b_sorted boot_sorted (Cf (Du (Ks hr.units rfl) T.b_set boot_set (Cf (Ci 6) Ck)) Ck)))))))
 have c:=DJ 7 2 F DF rfl rfl b
 exact c
theorem ME:CN ["_law_schema_here","_law_thing"] ["_law_schema_here","_law_thing"] (Cr Fq):=⟨rfl,rfl,rfl,by decide +kernel,rfl,by decide +kernel,by decide +kernel⟩
theorem MD {f:Addr}{fd:FuncData}(F:Fun K "_law_fits" "_law_fits" Fq f fd)(T:Tx K mg)(JX:Cal P w K mg base 1 "_law_rows_fit" Dq 2):D3 P w K mg base CX0 2 f fd ["_law_schema_here","_law_thing"] (spF ⟨K,P,w⟩ D5 2):=by
 have b:BO P w K mg base 1 "_law_fits" Fq f ["_law_schema_here","_law_thing"] Fz:=λcdv A outer s H E hr=>by
  have hr_law_rows_fit:Room 1 _:=hr.mono (by decide)
  exact Cs (DW (SVW.t (GF (EU (EV (F8 "tuple" (Ci 1) T.b_isinstance T.b_tuple Ca))) (Gn (Dz (Lf hr.units) (CC CO T.b_len BZ (Cf (Ci 1) Ck)) (CC CO T.b_len BZ (Cf (Ci 0) Ck)))))) (Cv (CB FG)) Dy) (Cv (CB (CC (F1 rfl) T.b_all boot_all (Cf (GH ["_law_table","_law_rows"] [] (by exact HL (Cr Fq) rfl rfl ⟨rfl,by decide +kernel,by decide +kernel,by decide +kernel⟩ True.intro) (Ft T.b_zip (Cf (Ci 0) (Cf (Ci 1) Ck))) (Fu (Dc CP (Dc CP ER))) (λ_ _ _ _ _=>DI rfl (Cw (Cu 0 (show (["_law_table","_law_rows"]:List Str).Nodup by decide +kernel)) (Cw (Cu 1 (show (["_law_table","_law_rows"]:List Str).Nodup by decide +kernel)) Dj))) (λ_ _ _ _ _=>D0) (λ_ _ _ _ _=>Cy JX hr_law_rows_fit (Cf (Ci 0) (Cf (Ci 1) Ck)))) Ck))))
 have c:=DJ 2 2 F ME rfl rfl b
 exact c
theorem JM:CN ["_law_hand_here","_law_some"] ["_law_hand_here"] (Cr G9):=⟨rfl,rfl,rfl,by decide +kernel,rfl,by decide +kernel,by decide +kernel⟩
theorem Nm {f:Addr}{fd:FuncData}(F:Fun K "_law_odd" "_law_odd" G9 f fd)(T:Tx K mg)(EL:Cal P w K mg base 2 "_law_pick" Dd 2):D3 P w K mg base CX0 3 f fd ["_law_hand_here"] (spF ⟨K,P,w⟩ Fj 1):=by
 have b:BO P w K mg base 2 "_law_odd" G9 f ["_law_hand_here","_law_some"] ID:=λcdv A outer s H E hr=>by
  have hr_law_pick:Room 2 _:=hr.mono (by decide)
  exact Cs (CS 1 JM.nd (Hr (Cf NH (Cf FG (Cf Cp (Cf GS (Cf GS (Cf GS (Cf (DO Ck) (Cf (Hr Ck) (Cf TH (Cf (DO (Cf (DO Ck) Ck)) (Cf (DO (Cf GS Ck)) (Cf (DO (Cf (DO (Cf GS Ck)) Ck)) (Cf (DO (Cf GS (Cf GS Ck))) Ck))))))))))))))) (Cv (CB (Cy EL hr_law_pick (Cf (Ci 0) (Cf (Ci 1) Ck)))))
 have c:=DJ 2 1 F JM rfl rfl b
 exact c
theorem FL:CN ["_law_hand_here","_law_thing","_law_deep","_law_at","_law_way"] ["_law_hand_here","_law_thing","_law_deep"] (Cr E8):=⟨rfl,rfl,rfl,by decide +kernel,rfl,by decide +kernel,by decide +kernel⟩
theorem Hk {f:Addr}{fd:FuncData}(F:Fun K "_law_put_in" "_law_put_in" E8 f fd)(hm:mg "_law_put_in"=some (.ref f))(hb:Binds K fd ["_law_hand_here","_law_thing","_law_deep"] [])(T:Tx K mg)(CF:Cal P w K mg base 1 "_law_take" Ct 2)(Ik:Cal P w K mg base 3 "_law_odd" Fj 1):∀ n,D3 P w K mg base CX0 (n+4) f fd ["_law_hand_here","_law_thing","_law_deep"] (spF ⟨K,P,w⟩ (CG n) 3)
 | 0=>⟨λvs H Q E h=>by obtain ⟨th,mu,ds,_,r,hl,_⟩:=h;rw [r.len];exact hl,λA outer s H args us vs Q E hr he hb hv h=>by obtain ⟨th,mu,ds,_,r,hl,t⟩:=h;exact t.no.elim⟩
 | n+1=>by
  have Gk:Cal P w K mg base (n+4) "_law_put_in" (CG n) 3:=Dx F hm (Hk F hm hb T CF Ik n) hb
  have b:BO P w K mg base (n+4) "_law_put_in" E8 f ["_law_hand_here","_law_thing","_law_deep","_law_at","_law_way"] (C0 (CG n)):=λcdv A outer s H E hr=>by
   have hr_law_take:Room 1 _:=hr.mono (by omega)
   have hr_law_odd:Room 3 _:=hr.mono (by omega)
   have hr_law_put_in:Room (n+4) _:=hr
   exact Cs (DW (SVW.t (GF (EU (EV (F8 "tuple" (Ci 1) T.b_isinstance T.b_tuple Ca))) (GF (Dz (E5 hr.units) (CC CO T.b_len BZ (Cf (Ci 1) Ck)) Cp) (GF (Dz (E5 hr.units) (Ci 2) Cp) (Gn (Dz (E5 hr.units) (Cy CF hr_law_take (Cf (Ci 0) (Cf Cp Ck))) Cp)))))) (Cv (CB (Cy Ik hr_law_odd (Cf (Ci 0) Ck)))) Dy) (Cs (CS 3 FL.nd (Cy CF hr_law_take (Cf (Ci 0) (Cf (CC CO T.b_len BZ (Cf (Ci 1) Ck)) Ck)))) (Cs (CS 4 FL.nd (Cy CF hr_law_take (Cf (Ci 0) (Cf Cp Ck)))) (Cs (DW (Dz (E5 hr.units) (Ci 4) Cp) (Cv (CB (Cz CI (Dp (Ci 1) Dl (Dn (Ci 3))) (Dp (Ci 1) (Dn (Cz CI (Ci 3) Cp)) Dl)))) Dy) (Cs (DW (Dz (E5 hr.units) (Ci 4) Cp) (Cv (CB (Cz CI (Dp (Ci 1) Dl (Dn (Cz CI (Ci 3) Cp))) (Dp (Ci 1) (Dn (Ci 3)) Dl)))) Dy) (Cs (DW (Dz (E5 hr.units) (Ci 4) Cp) (Cv (CB (DZ (Fb hr.units) (Hr (Cf (Du Po T.b_list boot_list (Cf (Ci 1) Ck)) (Cf (Wc (Ci 1)) (Cf (Cz CI (Ci 1) (DO (Cf (Cy Ik hr_law_odd (Cf (Ci 0) Ck)) Ck))) (Cf (Cz CI (Dp (Ci 1) (Dn Cp) Dl) (Dp (Ci 1) Dl (Dn Cp))) Ck))))) (Cy CF hr_law_take (Cf (Ci 0) (Cf Cp Ck)))))) Dy) (Cv (CB (Cz CI (Cz CI (Dp (Ci 1) Dl (Dn (Ci 3))) (DO (Cf (Cy Gk hr_law_put_in (Cf (Ci 0) (Cf (DZ (Fb hr.units) (Ci 1) (Ci 3)) (Cf (Cz O9 (Ci 2) Cp) Ck)))) Ck))) (Dp (Ci 1) (Dn (Cz CI (Ci 3) Cp)) Dl)))))))))
  have c:=DJ 5 3 F FL rfl rfl b
  exact c
theorem EF:CN ["_law_script","_law_k","_law_hand_here","_law_schema_here","_law_filling_here","_law_turn","_law_thing","_law_found","_law_rows","_law_name","_law_columns","_law_keys","_law_there","_law_key"] ["_law_script"] (Cr IW):=⟨rfl,rfl,rfl,by decide +kernel,rfl,by decide +kernel,by decide +kernel⟩
theorem VT {f:Addr}{fd:FuncData}(F:Fun K "law" "law" IW f fd)(T:Tx K mg)(NT:Cal P w K mg base 1 "_law_hand" El 2)(L0:Cal P w K mg base 4 "_law_schema" DN 4)(Kg:Cal P w K mg base 3 "_law_filling" Dt 3)(CF:Cal P w K mg base 1 "_law_take" Ct 2)(Gy:Cal P w K mg base 4 "is_filling" CY 2)(Gk:Cal P w K mg base 18 "_law_put_in" (CG 14) 3)(NA:Cal P w K mg base 2 "_law_fits" D5 2)(PB:Cal P w K mg base 2 "keys_of" Ff 2)(Th:Cal P w K mg base 2 "row_at" FY 4):D3 P w K mg base CX0 19 f fd ["_law_script"] (spF ⟨K,P,w⟩ K2 1):=by
 have b:BO P w K mg base 18 "law" IW f ["_law_script","_law_k","_law_hand_here","_law_schema_here","_law_filling_here","_law_turn","_law_thing","_law_found","_law_rows","_law_name","_law_columns","_law_keys","_law_there","_law_key"] SH:=λcdv A outer s H E hr=>by
  have hr_law_hand:Room 1 _:=hr.mono (by decide)
  have hr_law_schema:Room 4 _:=hr.mono (by decide)
  have hr_law_filling:Room 3 _:=hr.mono (by decide)
  have hr_law_take:Room 1 _:=hr.mono (by decide)
  have hr_is_filling:Room 4 _:=hr.mono (by decide)
  have hr_law_put_in:Room 18 _:=hr.mono (by decide)
  have hr_law_fits:Room 2 _:=hr.mono (by decide)
  have hr_keys_of:Room 2 _:=hr.mono (by decide)
  have hr_row_at:Room 2 _:=hr.mono (by decide)
  exact Cs (Ed Bn rfl (Fg T.b_range (Cf (CC (PY rfl) T.b_max boot_max (Cf Cp (Cf (CC (K5 rfl) T.b_min boot_min (Cf Cp (Cf (CC CO T.b_len BZ (Cf (Ci 0) Ck)) Ck))) Ck))) Ck)) (Cu 1 EF.nd) (Cs (CS 2 EF.nd (Cy NT hr_law_hand (Cf (Ci 0) (Cf (Ci 1) Ck)))) (Cs (CS 3 EF.nd (Cy L0 hr_law_schema (Cf (Ci 2) (Cf Cp (Cf Cp (Cf Cp Ck)))))) (Cs (CS 4 EF.nd (Cy Kg hr_law_filling (Cf (Ci 2) (Cf (Ci 3) (Cf (DZ (Fb hr.units) (Hr (Cf Cp (Cf Cp Ck))) (Du K0 T.b_int boot_int (Cf (IA (E5 hr.units) (Cy CF hr_law_take (Cf (Ci 2) (Cf Cp Ck))) Cp) Ck))) Ck))))) (Cs (DW (SVW.t (GF (Dz Oj (Cy Gy hr_is_filling (Cf (Ci 3) (Cf (Ci 4) Ck))) FG) (Gn (Dz Oj (Cy Gy hr_is_filling (Cf (Ci 3) (Cf (Cz TR (DO (Cf (DO Ck) Ck)) (CC CO T.b_len BZ (Cf (Ci 3) Ck))) Ck))) FG)))) (Cv (CB FG)) Dy) (Cs (Ed Bn rfl (Fg T.b_range (Cf Cp Ck)) (Cu 5 EF.nd) (Cs (CS 6 EF.nd (Cy Gk hr_law_put_in (Cf (Ci 2) (Cf (Ci 4) (Cf Cp Ck))))) (Cs (CS 7 EF.nd (Cy Gy hr_is_filling (Cf (Ci 3) (Cf (Ci 6) Ck)))) (Cv (DW (SVW.t (GF (EU (EV (F8 "bool" (Ci 7) T.b_isinstance T.b_bool (by decide +kernel)))) (Gn (Dz (Lf hr.units) (Ci 7) (Cy NA hr_law_fits (Cf (Ci 3) (Cf (Ci 6) Ck))))))) (Cv (CB FG)) Dy))))) (Cv (Ed Bn rfl (Ft T.b_zip (Cf (Ci 4) (Cf (Ci 3) Ck))) (DI rfl (Cw (Cu 8 EF.nd) (Cw (DI rfl (Cw (Cu 9 EF.nd) (Cw (Cu 10 EF.nd) (Cw (Cu 11 EF.nd) Dj)))) Dj))) (Cs (CS 12 EF.nd (Du (Qv hr.units rfl) T.b_dict (by decide +kernel) (Cf (GH ["_law_row"] [(11,"_law_keys")] (by exact HL (Cr IW) rfl rfl ⟨rfl,by decide +kernel,by decide +kernel,by decide +kernel⟩ ⟨⟨rfl,.inl rfl,.inl rfl⟩,True.intro⟩) (DQ (Ci 8)) CP (λ_ _ _ _ _=>Cu 0 (show (["_law_row","_law_keys"]:List Str).Nodup by decide +kernel)) (λ_ _ _ _ _=>D0) (λ_ _ _ _ _=>DO (Cf (Dp (Ci 0) Dl (Dn (Ci 1))) (Cf (Ci 0) Ck)))) Ck))) (Cv (Ed Bn rfl (DQ (Cy PB hr_keys_of (Cf (Ci 3) (Cf (Ci 9) Ck)))) (Cu 13 EF.nd) (Cv (DW (Dz (Lf hr.units) (CC (JK hr.units hr.gd) T.b_repr (by decide +kernel) (Cf (Cy Th hr_row_at (Cf (Ci 3) (Cf (Ci 4) (Cf (Ci 9) (Cf (Ci 13) Ck))))) Ck)) (CC (JK hr.units hr.gd) T.b_repr (by decide +kernel) (Cf (TK hr.units (Ci 12) (Cf (Ci 13) Ck)) Ck))) (Cv (CB FG)) Dy))))))))))))) (Cv (CB FG))
 have c:=DJ 14 1 F EF rfl rfl b
 exact c
end
end PG
namespace PV
open PySem L2 PyProof.Rows
section
variable {α β:Type} {ro:Ro} {mu:Sto} {d e:D} {a b c:Ex} {i:Nat} {o:Option D}
@[simp] theorem QN {x:α}{m:Sto}{f:α->Sto->Rs β}:bM (some (x,m)) f=f x m:=rfl
@[simp] theorem Aaq:Cj 0 (some d::ro) mu=some (d,mu):=rfl
@[simp] theorem Aab {x1}:Cj 1 (x1::some d::ro) mu=some (d,mu):=rfl
@[simp] theorem Aau {x1 x2}:Cj 2 (x1::x2::some d::ro) mu=some (d,mu):=rfl
@[simp] theorem Aai {x1 x2 x3}:Cj 3 (x1::x2::x3::some d::ro) mu=some (d,mu):=rfl
@[simp] theorem Aak {x1 x2 x3 x4}:Cj 4 (x1::x2::x3::x4::some d::ro) mu=some (d,mu):=rfl
@[simp] theorem ZN {x1 x2 x3 x4 x5}:Cj 5 (x1::x2::x3::x4::x5::some d::ro) mu=some (d,mu):=rfl
@[simp] theorem ZT {x1 x2 x3 x4 x5 x6}:Cj 6 (x1::x2::x3::x4::x5::x6::some d::ro) mu=some (d,mu):=rfl
@[simp] theorem Aaj {x1 x2 x3 x4 x5 x6 x7}:Cj 7 (x1::x2::x3::x4::x5::x6::x7::some d::ro) mu=some (d,mu):=rfl
@[simp] theorem AaI {x1 x2 x3 x4 x5 x6 x7 x8}:Cj 8 (x1::x2::x3::x4::x5::x6::x7::x8::some d::ro) mu=some (d,mu):=rfl
@[simp] theorem AaK {x1 x2 x3 x4 x5 x6 x7 x8 x9}:Cj 9 (x1::x2::x3::x4::x5::x6::x7::x8::x9::some d::ro) mu=some (d,mu):=rfl
@[simp] theorem Zy {x1 x2 x3 x4 x5 x6 x7 x8 x9 x10}:Cj 10 (x1::x2::x3::x4::x5::x6::x7::x8::x9::x10::some d::ro) mu=some (d,mu):=rfl
@[simp] theorem ZH {x1 x2 x3 x4 x5 x6 x7 x8 x9 x10 x11}:Cj 11 (x1::x2::x3::x4::x5::x6::x7::x8::x9::x10::x11::some d::ro) mu=some (d,mu):=rfl
@[simp] theorem YJ {x1 x2 x3 x4 x5 x6 x7 x8 x9 x10 x11 x12}:Cj 12 (x1::x2::x3::x4::x5::x6::x7::x8::x9::x10::x11::x12::some d::ro) mu=some (d,mu):=rfl
@[simp] theorem Zl {x1 x2 x3 x4 x5 x6 x7 x8 x9 x10 x11 x12 x13}:Cj 13 (x1::x2::x3::x4::x5::x6::x7::x8::x9::x10::x11::x12::x13::some d::ro) mu=some (d,mu):=rfl
@[simp] theorem Yk {x1 x2 x3 x4 x5 x6 x7 x8 x9 x10 x11 x12 x13 x14}:Cj 14 (x1::x2::x3::x4::x5::x6::x7::x8::x9::x10::x11::x12::x13::x14::some d::ro) mu=some (d,mu):=rfl
@[simp] theorem Yr {x1 x2 x3 x4 x5 x6 x7 x8 x9 x10 x11 x12 x13 x14 x15}:Cj 15 (x1::x2::x3::x4::x5::x6::x7::x8::x9::x10::x11::x12::x13::x14::x15::some d::ro) mu=some (d,mu):=rfl
@[simp] theorem z_C:eC d ro mu=some (d,mu):=rfl
@[simp] theorem YV {g:D->D->Sto->Rs D}:Cq g a b ro mu=bM (a ro mu) λx m1=>bM (b ro m1) λy m2=>g x y m2:=rfl
@[simp] theorem Z6 {g:D->Sto->Rs D}:e1 g a ro mu=bM (a ro mu) λx m1=>g x m1:=rfl
@[simp] theorem Z0:tV a ro mu=bM (a ro mu) λx m1=>(asB x).map λb=>(b,m1):=rfl
@[simp] theorem XU {x:Bool}:asB (.bl x)=some x:=rfl
@[simp] theorem YN {t:Tx}:tNt t ro mu=bM (t ro mu) λb m1=>some (!b,m1):=rfl
@[simp] theorem Yy {t u:Tx}:tAn t u ro mu=bM (t ro mu) λx m1=>if x=true then u ro m1 else some (false,m1):=rfl
@[simp] theorem Aac {t u:Tx}:tO t u ro mu=bM (t ro mu) λx m1=>if x=true then some (true,m1) else u ro m1:=rfl
@[simp] theorem Yj:tY ro mu=some (true,mu):=rfl
noncomputable def anB (b:Ex)(ro:Ro):D->Sto->Rs D
 | .bl c,m1=>if c=true then b ro m1 else some (.bl false,m1)
 | _,_=>none
noncomputable def oB (b:Ex)(ro:Ro):D->Sto->Rs D
 | .bl c,m1=>if c=true then some (.bl true,m1) else b ro m1
 | _,_=>none
theorem ZP:eAn a b ro mu=bM (a ro mu) (anB b ro):=by
 unfold eAn
 congr 1
 funext x m
 cases x<;>rfl
theorem z_o:eO a b ro mu=bM (a ro mu) (oB b ro):=by
 unfold eO
 congr 1
 funext x m
 cases x<;>rfl
@[simp] theorem ZK:eAn a b ro mu=bM (a ro mu) (anB b ro):=ZP
@[simp] theorem ZO:eO a b ro mu=bM (a ro mu) (oB b ro):=z_o
@[simp] theorem YQ {x:Bool}:anB b ro (.bl x) mu=if x=true then b ro mu else some (.bl false,mu):=rfl
@[simp] theorem ZU {x:Bool}:oB b ro (.bl x) mu=if x=true then some (.bl true,mu) else b ro mu:=rfl
noncomputable def ntB:D->Sto->Rs D
 | .bl c,m1=>some (.bl (!c),m1)
 | _,_=>none
@[simp] theorem Z5:eNt a ro mu=bM (a ro mu) ntB:=by
 unfold eNt
 congr 1
 funext x m
 cases x<;>rfl
@[simp] theorem X3 {x:Bool}:ntB (.bl x) mu=some (.bl (!x),mu):=rfl
@[simp] theorem Z4 {t:Tx}:eIf t a b ro mu=bM (t ro mu) λx m1=>if x=true then a ro m1 else b ro m1:=rfl
@[simp] theorem Y3:Cm ro mu=some ([],mu):=rfl
@[simp] theorem Yc {r:Exs}:Cg a r ro mu=bM (a ro mu) λx m1=>bM (r ro m1) λxs m2=>some (x::xs,m2):=rfl
@[simp] theorem Yw {r:Exs}:D4 r ro mu=bM (r ro mu) λxs m1=>some (.tup xs,m1):=rfl
@[simp] theorem ZF {r:Exs}:Ia r ro mu=bM (r ro mu) λxs m1=>some (.lst xs,m1):=rfl
@[simp] theorem VP {r:Exs}:G3 r ro mu=bM (r ro mu) λxs m1=>some (.ref m1.length,m1++[.lst xs]):=rfl
@[simp] theorem Xi:Rr ro mu=some (.dct [] [],mu):=rfl
@[simp] theorem WX:Om ro mu=some (.ref mu.length,mu++[.dct [] []]):=rfl
@[simp] theorem Wm {f:Fn}{r:Exs}:Cn f r ro mu=bM (r ro mu) λxs m1=>f xs m1:=rfl
@[simp] theorem Zu:sNx ro mu=some ((.nx,ro),mu):=rfl
noncomputable def V5 (b:Sx):Fl×Ro->Sto->Rs (Fl×Ro)
 | (.nx,ro),m1=>b ro m1
 | p,m1=>some (p,m1)
@[simp] theorem XW {s t:Sx}:CJ s t ro mu=bM (s ro mu) (V5 t):=by
 unfold CJ
 congr 1
 funext p m
 obtain ⟨f,r⟩:=p
 cases f<;>rfl
@[simp] theorem V1 {t:Sx}:V5 t (.nx,ro) mu=t ro mu:=rfl
@[simp] theorem Wr {t:Sx}:V5 t (.rt d,ro) mu=some ((.rt d,ro),mu):=rfl
@[simp] theorem Aaa:sRt a ro mu=bM (a ro mu) λd m1=>some ((.rt d,ro),m1):=rfl
@[simp] theorem AaE:sEx a ro mu=bM (a ro mu) λ_ m1=>some ((.nx,ro),m1):=rfl
@[simp] theorem Yb {t:Tx}{s u:Sx}:sIf t s u ro mu=bM (t ro mu) λx m1=>if x=true then s ro m1 else u ro m1:=rfl
@[simp] theorem YE {i:Nat}:gNm i d ro mu=some (ro.set i (some d),mu):=rfl
@[simp] theorem Zi:CM [] ro mu=some (ro,mu):=rfl
@[simp] theorem Zs {g:Gx}{r:Gxs}{ds:List D}:Co g r (d::ds) ro mu=bM (g d ro mu) λro' m1=>r ds ro' m1:=rfl
@[simp] theorem XI {r:Gxs}{x y:D}:gTp 2 r (.tup [x,y]) ro mu=r [x,y] ro mu:=rfl
@[simp] theorem Xj {r:Gxs}{x y z:D}:gTp 3 r (.tup [x,y,z]) ro mu=r [x,y,z] ro mu:=rfl
@[simp] theorem WC {r:Gxs}{x y z u:D}:gTp 4 r (.tup [x,y,z,u]) ro mu=r [x,y,z,u] ro mu:=rfl
@[simp] theorem YZ {g:Gx}:Di a g ro mu=bM (a ro mu) λd m1=>bM (g d ro m1) λro' m2=>some ((.nx,ro'),m2):=rfl
@[simp] theorem XC {i j:Nat}{r:Exs}:Aae i j r ro mu=bM (r ro mu) λds m1=>match ds with|[x,y]=>some ((.nx,(ro.set i (some x)).set j (some y)),m1)|_=>none:=rfl
@[simp] theorem Wu {i j k:Nat}{r:Exs}:OY i j k r ro mu=bM (r ro mu) λds m1=>match ds with|[x,y,z]=>some ((.nx,((ro.set i (some x)).set j (some y)).set k (some z)),m1)|_=>none:=rfl
noncomputable def Xr:Fl×Ro->Sto->Rs D
 | (.rt d,_),m1=>some (d,m1)
 | (.nx,_),m1=>some (.non,m1)
 | _,_=>none
theorem YH {n:Nat}{m:Sx}{ds:List D}:fnB n m ds mu=bM (m (ds.map some++List.replicate (n-ds.length) none) mu) Xr:=by
 unfold fnB
 congr 1
 funext p q
 obtain ⟨f,r⟩:=p
 cases f<;>rfl
@[simp] theorem Xx:Xr (.rt d,ro) mu=some (d,mu):=rfl
@[simp] theorem V3:Xr (.nx,ro) mu=some (.non,mu):=rfl
noncomputable def X0 (m0:Sto):Fl×Ro->Sto->Rs D
 | (.rt d,_),m1=>LZ m0 m1 d
 | (.nx,_),m1=>LZ m0 m1 .non
 | _,_=>none
theorem XY {n:Nat}{m:Sx}{ds:List D}:fnG n m ds mu=bM (m (ds.map some++List.replicate (n-ds.length) none) mu) (X0 mu):=by
 unfold fnG
 congr 1
 funext p q
 obtain ⟨f,r⟩:=p
 cases f<;>rfl
@[simp] theorem Ut {m0:Sto}:X0 m0 (.rt d,ro) mu=LZ m0 mu d:=rfl
@[simp] theorem Zh {x:Ix}{g:Gx}{s:Sx}:FO x g s ro mu=bM (x ro mu) λp m1=>D2 p.2 m1 g s p.1 ro m1:=rfl
noncomputable def JE (m1:Sto):D->Rs (List D×Option Nat)
 | .tup ds=>some ((ds,none),m1)
 | .lst ds=>some ((ds,none),m1)
 | .str x=>some ((chars x,none),m1)
 | .ref k=>match m1[k]? with
  | some (.lst ds)=>some ((ds,some k),m1)
  | _=>none
 | _=>none
@[simp] theorem Aar:Et a ro mu=bM (a ro mu) λd m1=>JE m1 d:=by
 unfold Et
 congr 1
@[simp] theorem Aag {ds:List D}:JE mu (.tup ds)=some ((ds,none),mu):=rfl
@[simp] theorem ZS {ds:List D}:JE mu (.lst ds)=some ((ds,none),mu):=rfl
@[simp] theorem AaA {x:Str}:JE mu (.str x)=some ((chars x,none),mu):=rfl
theorem Qo {r:Exs}{n:Int}{m:Sto}(h:r ro mu=some ([.int n],m))(h0:-(2 ^ 62)≤n)(h1:n≤(sizeLine:Int)):iRg r ro mu=some ((EI 0 n.toNat,none),m):=by
 unfold iRg
 rw [h]
 simp only [bM,Tf]
 rw [if_pos ⟨h0,h1⟩]
@[simp] theorem ZL {x:Ix}{nc:Nat}{fv:List Nat}{g:Gx}{t:Tx}:eLC x nc fv g t a ro mu=bM (x ro mu) λp m1=>bM (Gf p.2 m1 g t a (r0 nc fv ro) p.1 m1) λys m2=>some (.lst ys,m2):=rfl
@[simp] theorem ZQ {nc:Nat}{fv:List Nat}:r0 nc fv ro=List.replicate nc none++fv.map λk=>ro.getD k none:=rfl
noncomputable def nR:D->Bool
 | .ref _=>false
 | _=>true
@[simp] theorem Ui {g g':D->D->Sto->Rs D}{c:Ex}:Lx g g' a b c ro mu=bM (a ro mu) λx m1=>bM (b ro m1) λy m2=>bM (g x y m2) λz m3=>match asB z with|none=>none|some k=>if k=true then bM (c ro m3) λw' m4=>g' y w' m4 else some (.bl false,m3):=rfl
@[simp] theorem YT {i j:Int}:leD (.int i) (.int j) mu=some (.bl (decide (i≤j)),mu):=rfl
@[simp] theorem Yt {i j:Str}:leD (.str i) (.str j) mu=some (.bl (!decide (j.cps.toList<i.cps.toList)),mu):=rfl
@[simp] theorem Yi {i j:Int}:geD (.int i) (.int j) mu=some (.bl (decide (j≤i)),mu):=rfl
@[simp] theorem Yp {i j:Int}:gtD (.int i) (.int j) mu=some (.bl (decide (j<i)),mu):=rfl
@[simp] theorem Zg {i j:Int}:ltG (.int i) (.int j) mu=some (.bl (decide (i<j)),mu):=by
 unfold ltG
 rw [if_pos (by simp [toPy,PyData.depth])]
 rfl
@[simp] theorem YW {i j:Str}:ltG (.str i) (.str j) mu=some (.bl (decide (i.cps.toList<j.cps.toList)),mu):=by
 unfold ltG
 rw [if_pos (by simp [toPy,PyData.depth])]
 rfl
@[simp] theorem WR {i j:Int}:CT (.int i) (.int j) mu=some (.int (i+j),mu):=rfl
@[simp] theorem Xs {i j:Int}:Vf (.int i) (.int j) mu=some (.int (i-j),mu):=rfl
theorem Iy {i j:Int}(h:0<j):F5 (.int i) (.int j) mu=some (.int (i % j),mu):=by unfold F5;dsimp only;rw [if_pos h]
@[simp] theorem Wd {ds:List D}:Ef [.tup ds] mu=some (.int ds.length,mu):=rfl
@[simp] theorem Ww {ds:List D}:Ef [.lst ds] mu=some (.int ds.length,mu):=rfl
@[simp] theorem Xo {x:Str}:Ef [.str x] mu=some (.int x.length,mu):=rfl
@[simp] theorem Wn {ds:List D}:Ef [.set ds] mu=some (.int ds.length,mu):=rfl
@[simp] theorem Wi {ds:List D}:FR [.lst ds] mu=some (.tup ds,mu):=rfl
@[simp] theorem W7 {ds:List D}:FR [.tup ds] mu=some (.tup ds,mu):=rfl
@[simp] theorem Xf {ds:List D}:Tq [.tup ds] mu=some (.lst ds,mu):=rfl
theorem Vu (h:eqB mu d e=some r):eqD d e mu=some (.bl r,mu):=by unfold eqD;rw [h];rfl
@[simp] theorem VG {i j:Int}:eqD (.int i) (.int j) mu=some (.bl (decide (i=j)),mu):=by
 refine Vu ?_
 unfold eqB
 rw [if_pos (by simp [seen,CU,toPy,PyData.depth])]
 simp only [seen,toPy,PyData.eqv]
 rfl
@[simp] theorem Zw {i j:Int}:neD (.int i) (.int j) mu=some (.bl (!decide (i=j)),mu):=by
 have:=@VG mu i j
 unfold eqD at this
 unfold neD
 cases e:eqB mu (.int i) (.int j) with
 | none=>rw [e] at this;cases this
 | some r=>rw [e] at this;cases this;rfl
@[simp] theorem YM {i j:Bool}:neD (.bl i) (.bl j) mu=some (.bl (i != j),mu):=by
 unfold neD eqB
 rw [if_pos (by simp [seen,CU,toPy,PyData.depth])]
 simp only [seen,toPy,PyData.eqv]
 cases i<;>cases j<;>rfl
@[simp] theorem X1 {i j:Str}:eqD (.str i) (.str j) mu=some (.bl (decide (i=j)),mu):=by
 refine Vu ?_
 unfold eqB
 rw [if_pos (by simp [seen,CU,toPy,PyData.depth])]
 simp only [seen,toPy,PyData.eqv]
 rfl
@[simp] theorem Sa {ds:List D}:ixG (.tup (d::ds)) (.int 0) mu=some (d,mu):=by
 have:ixD (.tup (d::ds)) (.int 0) mu=some (d,mu):=by simp [ixD,atI,ixN]
 unfold ixG
 rw [this]
@[simp] theorem NV {ds:List D}{x:D}:ixG (.tup (x::d::ds)) (.int 1) mu=some (d,mu):=by
 have:ixD (.tup (x::d::ds)) (.int 1) mu=some (d,mu):=by
  have h:(1:Int)<((x::d::ds).length:Int):=by simp;omega
  simp only [ixD,atI,ixN,h,if_true]
  rfl
 unfold ixG
 rw [this]
@[simp] theorem Lz {ds:List D}{x y:D}:ixG (.tup (x::y::d::ds)) (.int 2) mu=some (d,mu):=by
 have:ixD (.tup (x::y::d::ds)) (.int 2) mu=some (d,mu):=by
  have h:(2:Int)<((x::y::d::ds).length:Int):=by simp;omega
  simp only [ixD,atI,ixN,h,if_true]
  rfl
 unfold ixG
 rw [this]
@[simp] theorem V4 {ds:List D}:ixG (.lst (d::ds)) (.int 0) mu=some (d,mu):=by
 have:ixD (.lst (d::ds)) (.int 0) mu=some (d,mu):=by simp [ixD,atI,ixN,DV]
 unfold ixG
 rw [this]
theorem X7 {ds:List D}{j:Nat}(s:D)(hs:s=.lst ds∨s=.tup ds)(h:ds[j]? = some d):ixG s (.int j) mu=some (d,mu):=by
 obtain ⟨hl,e⟩:=Ae.mp h
 have a:atI ds (j:Int)=some d:=by
  unfold atI ixN
  rw [if_pos (by omega),if_pos (by omega)]
  simpa using h
 unfold ixG
 rcases hs with rfl|rfl<;>simp [ixD,DV,a]
theorem OR {bs:List Bool}:Jd [.lst (bs.map D.bl)] mu=some (.bl (bs.all id),mu):=by
 have:IQ (bs.map D.bl)=some bs:=by
  induction bs with
  | nil=>rfl
  | cons b bs ih=>simp [IQ,ih]
 simp [Jd,quF,DV,this]
end
theorem LG {m0:Sto}{tg:Gx}{tt:Tx}{el:Ex}{ro:Ro}{mu:Sto}(p:D->Bool)(g:D->D):∀ ds:List D,(∀ d∈ds,∃ ro1,tg d ro mu=some (ro1,mu)∧tt ro1 mu=some (p d,mu)∧(p d=true->el ro1 mu=some (g d,mu)))->Gf none m0 tg tt el ro ds mu=some ((ds.filter p).map g,mu)
 | [],_=>rfl
 | d::ds,h=>by
  obtain ⟨ro1,e1,e2,e3⟩:=h d (.head _)
  have ih:=LG (m0:=m0) p g ds λd' hd=>h d' (.tail _ hd)
  unfold Gf
  rw [e1,CL,e2,CL]
  cases c:p d with
  | true=>rw [if_pos rfl,e3 c,CL,DY,if_pos (show gOk none m0 mu from True.intro),ih,CL,List.filter_cons_of_pos c,A1]
  | false=>rw [if_neg AE,DY,if_pos (show gOk none m0 mu from True.intro),ih,List.filter_cons_of_neg (by simp [c])]
theorem Hu {m0:Sto}{tg:Gx}{el:Ex}{ro:Ro}{mu:Sto}(g:D->D)(ds:List D)(h:∀ d∈ds,∃ ro1,tg d ro mu=some (ro1,mu)∧el ro1 mu=some (g d,mu)):Gf none m0 tg tY el ro ds mu=some (ds.map g,mu):=by
 have:=LG (m0:=m0) (tg:=tg) (tt:=tY) (el:=el) (ro:=ro) (mu:=mu) (λ_=>true) g ds λd hd=>by
  obtain ⟨ro1,e1,e2⟩:=h d hd
  exact ⟨ro1,e1,rfl,λ_=>e2⟩
 rw [this,List.filter_eq_self.mpr (λ_ _=>rfl)]
theorem Oq {m0:Sto}{tg:Gx}{el:Ex}{ro:Ro}{mu:Sto}(g:D->Bool)(ds:List D)(h:∀ d∈ds,∃ ro1,tg d ro mu=some (ro1,mu)∧el ro1 mu=some (.bl (g d),mu)):Gf none m0 tg tY el ro ds mu=some ((ds.map g).map D.bl,mu):=by
 rw [Hu (λd=>.bl (g d)) ds h,Bu]
 rfl
@[simp] theorem Xz {mu:Sto}{ds:List D}{g:D->Bool}:Jd [.lst ((ds.map g).map D.bl)] mu=some (.bl (ds.all g),mu):=by
 rw [OR,List.all_map]
 rfl
end PV
namespace K1
open PySem L2 PyProof.Rows
noncomputable abbrev DC:Str:="abcdefghijklmnopqrstuvwxyz0123456789"
structure IsW (x:Str):Prop where
 lo:1≤x.length
 hi:x.length≤8
 al:∀ c∈x.cps.toList,c∈DC.cps.toList
theorem F7:DC.cps.toList.length=36:=by decide +kernel
theorem RJ:DC.cps.toList.Nodup:=by decide +kernel
theorem Ze (c:Nat)(n:Int)(h0:0≤n)(h7:n≤7):MulOk ⟨#[c]⟩ n:=by
 have e:n=0∨n=1∨n=2∨n=3∨n=4∨n=5∨n=6∨n=7:=by omega
 have l:(⟨#[c]⟩:Str).length=1:=rfl
 unfold MulOk
 rw [l]
 rcases e with rfl|rfl|rfl|rfl|rfl|rfl|rfl|rfl<;>decide
theorem mul_list (c:Nat)(n:Int)(h0:0≤n)(h7:n≤7):(Txt.mul ⟨#[c]⟩ n).cps.toList=List.replicate n.toNat c:=by
 have e:n=0∨n=1∨n=2∨n=3∨n=4∨n=5∨n=6∨n=7:=by omega
 rcases e with rfl|rfl|rfl|rfl|rfl|rfl|rfl|rfl<;>rfl
theorem SF {x:Str}{j:Int}(h0:0≤j)(h1:j≤x.length):(Txt.slice x none (some j)).cps.toList=x.cps.toList.take j.toNat:=by
 have h:=slice_closes_to (x:=x) (j:=j) ⟨h0,by simpa [Str.length] using h1⟩
 rw [eq_of_beq h]
 simp
theorem Nw {x:Str}{j:Int}(h0:0≤j)(h1:j≤x.length):(Txt.slice x (some j) none).cps.toList=x.cps.toList.drop j.toNat:=by
 rw [slice_from_eq h0 h1 rfl]
 apply List.take_of_length_le
 simp [Str.length]
 omega
noncomputable def wrd (A B:Str)(fi st:Int)(k:Nat):Str:=A++⟨#[DC.cps.toList.getD ((fi+st*k) % 36).toNat 0]⟩++B
theorem MP (A B:Str)(fi st:Int)(k:Nat):(wrd A B fi st k).cps.toList=A.cps.toList++[DC.cps.toList.getD ((fi+st*k) % 36).toNat 0]++B.cps.toList:=by
 unfold wrd
 rw [Str.cps_append,Str.cps_append,Array.toList_append,Array.toList_append]
theorem G4 {j:Int}(h0:0≤j)(h1:j<36):DC.cps.toList[j.toNat]? = some (DC.cps.toList.getD j.toNat 0):=by
 have h:j.toNat<DC.cps.toList.length:=by rw [F7];omega
 rw [AK,Ak h]
 rfl
noncomputable def JQ (st:Int):Prop:=st=1∨st=5∨st=7∨st=11∨st=13∨st=17
theorem Rz {fi st:Int}{j k:Nat}(hs:JQ st)(hj:j<6)(hk:k<6)(e:(fi+st*j) % 36=(fi+st*k) % 36):j=k:=by
 rcases hs with rfl|rfl|rfl|rfl|rfl|rfl<;>omega
theorem Vl {A B:Str}{fi st:Int}{j k:Nat}(hs:JQ st)(hj:j<6)(hk:k<6)(e:wrd A B fi st j=wrd A B fi st k):j=k:=by
 have h:=congrArg (λs:Str=>s.cps.toList) e
 simp only [MP,List.append_cancel_right_eq,List.append_cancel_left_eq,List.cons.injEq,and_true] at h
 refine Rz (fi:=fi) hs hj hk ?_
 have a0:=By (fi+st*j) (show (36:Int)≠0 by decide)
 have a1:=Bk (fi+st*j) (show (0:Int)<36 by decide)
 have b0:=By (fi+st*k) (show (36:Int)≠0 by decide)
 have b1:=Bk (fi+st*k) (show (0:Int)<36 by decide)
 have e1:=G4 a0 a1
 have e2:=G4 b0 b1
 rw [h,← e2] at e1
 have l1:((fi+st*j) % 36).toNat<DC.cps.toList.length:=by rw [F7];omega
 have l2:((fi+st*k) % 36).toNat<DC.cps.toList.length:=by rw [F7];omega
 rw [Ak l1,Ak l2] at e1
 have:=(List.getElem_inj RJ).mp (AB e1)
 omega
theorem Vk {A B:Str}{fi st:Int}{k:Nat}{c:Nat}(hc:c∈DC.cps.toList)(hA:∀ x∈A.cps.toList,x=c)(hB:∀ x∈B.cps.toList,x=c)(hl:A.length+B.length≤7):IsW (wrd A B fi st k):=by
 have h:=MP A B fi st k
 have hl':(wrd A B fi st k).length=A.length+1+B.length:=by
  unfold wrd
  rw [PySem.Str.length_append,PySem.Str.length_append]
  rfl
 refine ⟨by omega,by omega,λx hx=>?_⟩
 rw [h] at hx
 rcases AH.mp hx with hy|hy
 ·rcases AH.mp hy with hz|hz
  ·rw [hA x hz];exact hc
  ·rw [Ao.mp hz]
   exact Am (G4 (By (fi+st*k) (show (36:Int)≠0 by decide)) (Bk (fi+st*k) (show (0:Int)<36 by decide)))
 ·rw [hB x hy];exact hc
noncomputable def M0 (A B:Str)(fi st:Int)(n:Nat):List Str:=(List.range n).map (wrd A B fi st)
theorem Vj {A B:Str}{fi st:Int}{n:Nat}(hs:JQ st)(hn:n≤6):(M0 A B fi st n).Nodup:=by
 unfold M0
 rw [AF,A8]
 refine BB (λ{a b} ha hb hne e=>hne ?_) (AF.mp List.nodup_range)
 exact Vl hs (AD (A3.mp ha) hn) (AD (A3.mp hb) hn) e
end K1
namespace PV
open PySem L2 PyProof.Rows K1
theorem Sh {j:Int}{mu:Sto}(h0:0≤j)(h1:j<36):ixD (.str DC) (.int j) mu=some (.str ⟨#[DC.cps.toList.getD j.toNat 0]⟩,mu):=by
 unfold ixD
 dsimp only
 have h:j.toNat<DC.cps.toList.length:=by rw [F7];omega
 have e:ixN DC.cps.toList.length j=some j.toNat:=by unfold ixN;rw [if_pos h0,if_pos (by rw [F7];exact h1)]
 unfold atI
 rw [e,Option.bind_some,G4 h0 h1]
 rfl
theorem Mv {j:Int}{mu:Sto}(h0:0≤j)(h1:j<36):ixG (.str DC) (.int j) mu=some (.str ⟨#[DC.cps.toList.getD j.toNat 0]⟩,mu):=by
 unfold ixG
 rw [Sh h0 h1]
section
variable {ro:Ro} {mu:Sto} {d e:D} {a b c:Ex}
noncomputable def Gv (T:String)(d:D)(m1:Sto):Rs D:=if ED m1 d=true then some (.bl (isi T d),m1) else none
@[simp] theorem Y1 {T:String}:Hg T a ro mu=bM (a ro mu) (Gv T):=rfl
@[simp] theorem Zk {T:String}:Gv T .non mu=some (.bl ("NoneType"==T),mu):=by simp [Gv,ED,isi,tyN]
@[simp] theorem Zo {T:String}{x:Bool}:Gv T (.bl x) mu=some (.bl ("bool"==T||T=="int"),mu):=by simp [Gv,ED,isi,tyN]
@[simp] theorem X8 {T:String}{x:Int}:Gv T (.int x) mu=some (.bl ("int"==T),mu):=by simp [Gv,ED,isi,tyN]
@[simp] theorem X2 {T:String}{x:Str}:Gv T (.str x) mu=some (.bl ("str"==T),mu):=by simp [Gv,ED,isi,tyN]
@[simp] theorem ZA {T:String}{x:List D}:Gv T (.tup x) mu=some (.bl ("tuple"==T),mu):=by simp [Gv,ED,isi,tyN]
@[simp] theorem Zq {T:String}{x:List D}:Gv T (.lst x) mu=some (.bl ("list"==T),mu):=by simp [Gv,ED,isi,tyN]
@[simp] theorem Yv {T:String}{x y:List D}:Gv T (.dct x y) mu=some (.bl ("dict"==T),mu):=by simp [Gv,ED,isi,tyN]
@[simp] theorem Y5 {T:String}{x:List D}:Gv T (.set x) mu=some (.bl ("set"==T),mu):=by simp [Gv,ED,isi,tyN]
@[simp] theorem YO {x y:Bool}:isD (.bl x) (.bl y) mu=some (.bl (decide (x=y)),mu):=by cases x<;>cases y<;>rfl
@[simp] theorem VX {x y:Bool}:Mc (.bl x) (.bl y) mu=some (.bl (!decide (x=y)),mu):=by cases x<;>cases y<;>rfl
@[simp] theorem Aan {P:Prop} [Decidable P]{q:Bool}:(if P then some (D.bl q,mu) else some (D.bl false,mu))=some (D.bl (decide P&&q),mu):=by
 by_cases c:P<;>simp [c]
@[simp] theorem Aaw {P:Prop} [Decidable P]{q:Bool}:(if P then some (D.bl true,mu) else some (D.bl q,mu))=some (D.bl (decide P||q),mu):=by
 by_cases c:P<;>simp [c]
@[simp] theorem Yu {P:Prop} [Decidable P]{q:Bool}:(if P then some (q,mu) else some (false,mu))=some (decide P&&q,mu):=by
 by_cases c:P<;>simp [c]
@[simp] theorem XT {P:Prop} [Decidable P]{q:Bool}:(if P then some (true,mu) else some (q,mu))=some (decide P||q,mu):=by
 by_cases c:P<;>simp [c]
@[simp] theorem ZW {p q:Px}:eSl a p q ro mu=bM (a ro mu) λd m1=>bM (p ro m1) λlo m2=>bM (q ro m2) λhi m3=>slD d lo hi m3:=rfl
@[simp] theorem Zf:pNo ro mu=some (none,mu):=rfl
noncomputable def pB:D->Sto->Rs (Option Int)
 | .int i,m1=>some (some i,m1)
 | _,_=>none
@[simp] theorem AaJ:DD a ro mu=bM (a ro mu) pB:=by
 unfold DD
 congr 1
 funext x m
 cases x<;>rfl
@[simp] theorem Aaz {i:Int}:pB (.int i) mu=some (some i,mu):=rfl
@[simp] theorem VA {ds:List D}{lo hi:Option Int}:slD (.tup ds) lo hi mu=some (.tup (cutD ds lo hi),mu):=rfl
@[simp] theorem Ye {ds:List D}{lo hi:Option Int}:slD (.lst ds) lo hi mu=some (.lst (cutD ds lo hi),mu):=rfl
@[simp] theorem Wo {α:Type}{xs:List α}:cutD xs (some 1) none=xs.drop 1:=by
 unfold cutD
 have:=HT.Lh xs.length 0 1
 rw [show (some (1:Int))=some ((1:Nat):Int) from rfl,this,HT.Jz]
 cases xs with
 | nil=>rfl
 | cons a r=>simp
theorem Aat {m:Exs}{xs ys:List D}{m1:Sto}(h:m ro mu=some ([.lst xs,.lst ys],m1)):Hs m ro mu=some ((DE xs ys,none),m1):=by
 unfold Hs orI iZp
 rw [h]
 rfl
theorem Jh {n:Nat}{ds:List D}:Fe n ds=true ↔ ∀ d∈ds,DK n d=true:=by
 induction ds with
 | nil=>simp [Fe]
 | cons d ds ih=>simp [Fe,ih]
mutual
theorem Td {n m:Nat}(h:n≤m):∀ {d:D},DK n d=true->DK m d=true
 | .non,_=>rfl
 | .bl _,_=>rfl
 | .int _,_=>rfl
 | .str _,_=>rfl
 | .ref k,e=>by
  simp only [DK,Af] at e ⊢
  omega
 | .tup ds,e=>by
  simp only [DK] at e ⊢
  exact Fd h e
 | .lst ds,e=>by
  simp only [DK] at e ⊢
  exact Fd h e
 | .set ds,e=>by
  simp only [DK] at e ⊢
  exact Fd h e
 | .dct ks ds,e=>by
  simp only [DK,Ac] at e ⊢
  exact ⟨Fd h e.1,Fd h e.2⟩
theorem Fd {n m:Nat}(h:n≤m):∀ {ds:List D},Fe n ds=true->Fe m ds=true
 | [],_=>rfl
 | d::ds,e=>by
  simp only [Fe,Ac] at e ⊢
  exact ⟨Td h e.1,Fd h e.2⟩
end
theorem ES (h:DK 0 d=true):nR d=true:=by
 cases d<;>first|rfl|(simp [DK] at h)
end
end PV
namespace PV
open PySem L2 PyProof.Rows K1
variable {mu:Sto}
noncomputable def ndB (ds:List D):Bool:=decide (ds.Nodup)
theorem Tc (ds:List D):∀ r:List D,(ds.foldl DG r).length≤r.length+ds.length∧((ds.foldl DG r).length=r.length+ds.length->(∀ d∈ds,d∉r)∧ds.Nodup):=by
 induction ds with
 | nil=>intro r;simp
 | cons d ds ih =>
  intro r
  rw [List.foldl_cons]
  by_cases c:d∈r
  ·rw [show DG r d=r by unfold DG;rw [if_pos c]]
   have:=(ih r).1
   refine ⟨by simp;omega,λh=>?_⟩
   simp at h
   omega
  ·rw [show DG r d=r++[d] by unfold DG;rw [if_neg c]]
   obtain ⟨h1,h2⟩:=ih (r++[d])
   simp only [As,List.length_cons,List.length_nil] at h1 h2 ⊢
   refine ⟨by omega,λh=>?_⟩
   obtain ⟨h3,h4⟩:=h2 (by omega)
   refine ⟨λe he=>?_,Bm.mpr ⟨λhd=>h3 d hd (by simp),h4⟩⟩
   rcases An.mp he with rfl|he
   ·exact c
   ·exact λhr=>h3 e he (by simp [hr])
theorem P1 (ds:List D):∀ r:List D,(∀ d∈ds,d∉r)->ds.Nodup->ds.foldl DG r=r++ds:=by
 induction ds with
 | nil=>intro r _ _;simp
 | cons d ds ih =>
  intro r h1 h2
  rw [List.foldl_cons,show DG r d=r++[d] by unfold DG;rw [if_neg (h1 d (.head _))]]
  rw [Bm] at h2
  rw [ih (r++[d]) (λe he hr=>?_) h2.2]
  ·simp
  ·rcases AH.mp hr with hr|hr
   ·exact h1 e (.tail _ he) hr
   ·rw [Ao.mp hr] at he
    exact h2.1 he
theorem Jn {ds:List D}(h:ds.Nodup):DB ds=ds:=by
 unfold DB
 rw [P1 ds [] (λ_ _ h=>nomatch h) h]
 rfl
theorem J5 {ds:List D}:(DB ds).length=ds.length ↔ ds.Nodup:=by
 constructor
 ·intro h
  refine ((Tc ds []).2 ?_).2
  rw [List.length_nil,BE]
  exact h
 ·intro h
  rw [Jn h]
end PV
local macro_rules|`(tactic| simp_arith only [$ls,*])=>`(tactic| simp only [PV.QN,PV.Aaq,PV.Aab,PV.Aau,PV.Aai,PV.Aak,PV.ZN,PV.ZT,PV.Aaj,PV.AaI,PV.AaK,PV.Zy,PV.ZH,PV.YJ,PV.Zl,PV.Yk,PV.Yr,PV.z_C,PV.YV,PV.Z6,PV.Z0,PV.XU,PV.YN,PV.Yy,PV.Aac,PV.Yj,PV.ZK,PV.ZO,PV.YQ,PV.ZU,PV.Z5,PV.X3,PV.Z4,PV.Y3,PV.Yc,PV.Yw,PV.ZF,PV.VP,PV.Xi,PV.WX,PV.Wm,PV.Zu,PV.XW,PV.V1,PV.Wr,PV.Aaa,PV.AaE,PV.Yb,PV.YE,PV.Zi,PV.Zs,PV.XI,PV.Xj,PV.WC,PV.YZ,PV.XC,PV.Wu,PV.Xx,PV.V3,PV.Ut,PV.Zh,PV.Aar,PV.Aag,PV.ZS,PV.AaA,PV.ZL,PV.ZQ,PV.Ui,PV.YT,PV.Yt,PV.Yi,PV.Yp,PV.Zg,PV.YW,PV.WR,PV.Xs,PV.Wd,PV.Ww,PV.Xo,PV.Wn,PV.Wi,PV.W7,PV.Xf,PV.VG,PV.Zw,PV.YM,PV.X1,PV.Sa,PV.NV,PV.Lz,PV.V4,PV.Xz,PV.Y1,PV.Zk,PV.Zo,PV.X8,PV.X2,PV.ZA,PV.Zq,PV.Yv,PV.Y5,PV.YO,PV.VX,PV.Aan,PV.Aaw,PV.Yu,PV.XT,PV.ZW,PV.Zf,PV.AaJ,PV.Aaz,PV.VA,PV.Ye,PV.Wo,if_true,A7,reduceIte,Az,Bool.true_eq_false,↓reduceIte,List.set_cons_zero,List.set_cons_succ,A1,List.map_nil,List.length_cons,List.length_nil,Nat.reduceAdd,Nat.reduceSub,List.replicate_succ,List.replicate_zero,List.reduceReplicate,List.cons_append,List.nil_append,Option.map_some,Bool.not_true,Bool.not_false,PV.YH,PV.XY,List.getD_cons_zero,List.getD_cons_succ,BE,decide_true,decide_false,Bool.decide_eq_true,BP,Bool.false_and,Bool.true_or,Bool.false_or,Bool.or_false,Bool.and_true,String.reduceBEq,$ls,*])
namespace PG
open PySem L2 PV PyProof.Rows K1
variable {mu:Sto}
noncomputable def sgB (c:Nat):Bool:=decide (c∈DC.cps.toList)
noncomputable def sgs (x:Str):Bool:=x.cps.toList.all sgB
noncomputable def wB (x:Str):Bool:=(decide (1≤(x.length:Int))&&decide ((x.length:Int)≤8))&&sgs x
noncomputable def Hm:D->Bool
 | .str x=>wB x
 | _=>false
theorem JR {x:Str}:wB x=true ↔ IsW x:=by
 unfold wB sgs
 simp only [Ac,Af,Aw,sgB]
 constructor
 ·exact λ⟨⟨h1,h2⟩,h3⟩=>⟨by omega,by omega,h3⟩
 ·exact λh=>⟨⟨by have:=h.lo;omega,by have:=h.hi;omega⟩,h.al⟩
noncomputable def Eh (lo hi:Int):D->Bool
 | .tup ds=>decide (lo≤(ds.length:Int))&&decide ((ds.length:Int)≤hi)
 | _=>false
theorem MX (d:D)(lo hi:Int)(h:nR d=true):En [d,.int lo,.int hi] mu=some (.bl (Eh lo hi d),mu):=by
 cases d with
 | ref k=>cases h
 | _=>simp_arith only [En,HF,Eh]
noncomputable def AaB:D->Bool
 | .tup ds=>ds.all Hm
 | _=>false
theorem lows {n:Nat}{ds:List D}(h:DK n (.tup ds)=true):∀ d∈ds,DK n d=true:=Jh.mp (by simpa [DK] using h)
theorem nRs {ds:List D}(h:DK 0 (.tup ds)=true):∀ d∈ds,nR d=true:=λd hd=>ES (lows h d hd)
theorem Pu {ds:List D}(h:ds.all Hm=true):∃ ss:List Str,ds=ss.map D.str∧∀ x∈ss,IsW x:=by
 induction ds with
 | nil=>exact ⟨[],rfl,λ_ h=>nomatch h⟩
 | cons d ds ih =>
  rw [List.all_cons,Ac] at h
  obtain ⟨ss,rfl,hs⟩:=ih h.2
  cases d with
  | str x =>
   refine ⟨x::ss,rfl,λy hy=>?_⟩
   rcases An.mp hy with rfl|hy
   ·exact JR.mp h.1
   ·exact hs y hy
  | _=>simp [Hm] at h
open Classical in
theorem W2 {ds:List D}{m:Sto}:(some (D.bl (decide (((DB ds).length:Int)=(ds.length:Int))),m):Rs D)=some (D.bl (ndB ds),m):=by
 unfold ndB
 have:=@J5 ds
 by_cases c:ds.Nodup
 ·rw [this.mpr c];simp [c]
 ·have c':¬ ((DB ds).length:Int)=(ds.length:Int):=λe=>c (this.mp (by omega))
  simp [c,c']
noncomputable def GO (d:D):Bool:=Eh 1 4 d&&(AaB d&&match d with|.tup ds=>ndB ds|_=>false)
noncomputable def JL:D->Bool
 | .tup [a,b]=>Hm a&&GO b
 | _=>false
theorem P4 {d:D}(h:Eh 2 2 d=true):∃ a b,d=.tup [a,b]:=by
 cases d with
 | tup ds =>
  simp only [Eh,Ac,Af] at h
  match ds,h with
  | [a,b],_=>exact ⟨a,b,rfl⟩
  | [],h=>simp at h
  | [a],h=>simp at h
  | a::b::c::ds,h=>simp at h;omega
 | _=>simp [Eh] at h
noncomputable def IZ:D->D
 | .tup (a::_)=>a
 | _=>.non
noncomputable def Vz:D->Bool
 | .tup ds=>(Eh 1 4 (.tup ds)&&ds.all JL)&&ndB (ds.map IZ)
 | _=>false
noncomputable def Yx:D->Int
 | .tup ds=>ds.length
 | _=>0
noncomputable def W3 (k c:D):Bool:=match k with
 | .int i=>decide (1≤i)&&decide (i≤Yx c)
 | _=>false
noncomputable def J3:D->Bool
 | .tup [n,c,k]=>(Hm n&&Vz c)&&W3 k c
 | _=>false
noncomputable def ltS:D->D->Bool
 | .str x,.str y=>decide (x.cps.toList<y.cps.toList)
 | _,_=>false
noncomputable def HI (ds:List D):Bool:=(ds.zip ds.tail).all λp=>ltS p.1 p.2
noncomputable def Q9:D->Bool
 | .tup ds=>(Eh 1 4 (.tup ds)&&ds.all J3)&&HI (ds.map IZ)
 | _=>false
end PG
namespace PV
open PySem L2 PyProof.Rows K1
theorem LY {m0:Sto}{tg:Gx}{body:Sx}{mu:Sto}(Inv:Ro->Prop)(g:D->Bool)(v:D):∀ (ds:List D) (ro:Ro),Inv ro->(∀ d∈ds,∀ ro,Inv ro->∃ ro1 ro2,tg d ro mu=some (ro1,mu)∧Inv ro2∧body ro1 mu=some ((if g d=true then .nx else .rt v,ro2),mu)) ->
  ∃ ro',Inv ro'∧D2 none m0 tg body ds ro mu=some ((if ds.all g=true then .nx else .rt v,ro'),mu)
 | [],ro,h,_=>⟨ro,h,rfl⟩
 | d::ds,ro,h,st=>by
  obtain ⟨ro1,ro2,e1,h2,e2⟩:=st d (.head _) ro h
  unfold D2
  rw [e1,CL,e2,CL]
  cases c:g d with
  | false =>
   refine ⟨ro2,h2,?_⟩
   rw [List.all_cons,c]
   rfl
  | true =>
   obtain ⟨ro',h',e'⟩:=LY (m0:=m0) (tg:=tg) (body:=body) (mu:=mu) Inv g v ds ro2 h2 λd' hd=>st d' (.tail _ hd)
   refine ⟨ro',h',?_⟩
   rw [List.all_cons,c,BP,← e']
   dsimp only [if_true]
   rw [DY,if_pos (show gOk none m0 mu from True.intro)]
   rfl
end PV
namespace PG
open PySem L2 PV PyProof.Rows K1
variable {mu:Sto}
theorem XR (ss:List Str):D6 [.lst (ss.map D.str)] mu=some (.bl (HI (ss.map D.str)),mu):=by
 have z:=Aat (mu:=mu) (ro:=[some (.lst (ss.map D.str))]) (m:=Cg (Cj 0) (Cg (eSl (Cj 0) (DD (eC (.int 1))) (pNo)) Cm)) (xs:=ss.map D.str) (ys:=(ss.map D.str).drop 1) (m1:=mu) (by simp_arith only [])
 have al:=Oq (m0:=mu) (tg:=gTp 2 (Co (gNm 0) (Co (gNm 1) CM))) (el:=Cq ltG (Cj 0) (Cj 1)) (ro:=[none,none]) (mu:=mu) (λd=>match d with|.tup [a,b]=>ltS a b|_=>false) (DE (ss.map D.str) ((ss.map D.str).drop 1)) (λd hd=>by
  unfold DE at hd
  obtain ⟨p,hp,rfl⟩:=Ar.mp hd
  have h1:=(Bw hp).1
  have h2:=List.mem_of_mem_drop (Bw hp).2
  obtain ⟨x,_,e1⟩:=Ar.mp h1
  obtain ⟨y,_,e2⟩:=Ar.mp h2
  refine ⟨_,rfl,?_⟩
  rw [← e1,← e2]
  simp_arith only [ltS])
 have e:((DE (ss.map D.str) ((ss.map D.str).drop 1)).all λd=>match d with|.tup [a,b]=>ltS a b|_=>false)=HI (ss.map D.str):=by
  unfold DE HI
  rw [List.all_map,List.drop_one]
  rfl
 simp_arith only [D6,FI,z,al,e]
end PG
namespace PV
open PySem L2 PyProof.Rows K1
theorem KL (ss:List Str):Eg (ss.map D.str)=true:=by
 induction ss with
 | nil=>rfl
 | cons x xs ih=>simp [Eg,CU,ih]
theorem HX {ss:List Str}:(ss.map D.str).Nodup ↔ ss.Nodup:=by
 rw [AF,AF,A8]
 constructor
 ·exact λh=>h.imp λn e=>n (by rw [e])
 ·exact λh=>h.imp λn e=>n (by injection e)
end PV
namespace PG
open PySem L2 PV PyProof.Rows K1
variable {mu:Sto}
end PG
namespace PV
open PySem L2 PyProof.Rows K1
theorem M5 (ss:List Str):FA (ss.map D.str)=true:=by
 induction ss with
 | nil=>rfl
 | cons x xs ih=>simp [FA,hsh,ih]
theorem Ie (ss:List Str):PyData.depthAll (CD (ss.map D.str))≤1:=by
 induction ss with
 | nil=>simp [CD,PyData.depthAll]
 | cons x xs ih=>simp [CD,toPy,PyData.depthAll,PyData.depth];omega
theorem Ow (x y:Str):ltT (.str x) (.str y)=decide (x.cps.toList<y.cps.toList):=by
 unfold ltT
 rw [show CV (.str x) (.str y)=GL x y from rfl,B0,beq_iff_eq,FE,Af]
theorem O7 {ss:List Str}(h:ss.length<64):DM (ss.map D.str)=true:=by
 unfold DM
 simp only [Ac,Af,Ah,Aw,Bool.or_eq_true,J1]
 refine ⟨⟨⟨h,λd hd=>?_⟩,λd hd e he=>?_⟩,.inl λd hd=>?_⟩
 ·obtain ⟨x,_,rfl⟩:=Ar.mp hd
  rfl
 ·obtain ⟨x,_,rfl⟩:=Ar.mp hd
  obtain ⟨y,_,rfl⟩:=Ar.mp he
  rfl
 ·obtain ⟨x,_,rfl⟩:=Ar.mp hd
  rfl
theorem WQ {ss:List Str}{mu:Sto}(h:ss.length<64):Kh [.lst (ss.map D.str)] mu=some (.lst (Ee (ss.map D.str)),mu):=by
 simp only [Kh,Ho,Qh,G0,DV,O7 h,if_true]
theorem Vh {ss:List Str}{mu:Sto}(h:ss.length<64):J9 [.lst (ss.map D.str)] mu=some (.lst (Ee (ss.map D.str)),mu):=by
 unfold J9
 rw [WQ h]
theorem KG {es:List D}{ss:List Str}(h:es.Perm (ss.map D.str)):∃ ts:List Str,es=ts.map D.str∧ts.Perm ss:=by
 have al:∀ d∈es,∃ x,d=D.str x:=λd hd=>by
  obtain ⟨x,_,e⟩:=Ar.mp (h.mem_iff.mp hd)
  exact ⟨x,e.symm⟩
 have:∃ ts:List Str,es=ts.map D.str:=by
  clear h
  induction es with
  | nil=>exact ⟨[],rfl⟩
  | cons d es ih =>
   obtain ⟨x,rfl⟩:=al d (.head _)
   obtain ⟨ts,rfl⟩:=ih λd hd=>al d (.tail _ hd)
   exact ⟨x::ts,rfl⟩
 obtain ⟨ts,rfl⟩:=this
 refine ⟨ts,rfl,?_⟩
 have:=h.map (λd=>match d with|.str x=>x|_=>(⟨#[]⟩:Str))
 simpa [Bu,Function.comp_def] using this
end PV
namespace PG
open PySem L2 PV PyProof.Rows K1
variable {mu:Sto}
theorem N8:∀ (ss:List Str),HI (ss.map D.str)=true ↔ ss.Pairwise λx y=>x.cps.toList<y.cps.toList
 | []=>by simp [HI]
 | [x]=>by simp [HI]
 | x::y::ss=>by
  have ih:=N8 (y::ss)
  have e:HI ((x::y::ss).map D.str)=(decide (x.cps.toList<y.cps.toList)&&HI ((y::ss).map D.str)):=rfl
  rw [e,Ac,ih,Af]
  constructor
  ·intro ⟨h1,h2⟩
   refine BF.mpr ⟨λz hz=>?_,h2⟩
   rcases An.mp hz with rfl|hz
   ·exact h1
   ·exact List.lt_trans h1 ((BF.mp h2).1 z hz)
  ·exact λh=>⟨(BF.mp h).1 y (by simp),(BF.mp h).2⟩
theorem Sg {ss:List Str}(h:ss.Pairwise λx y=>x.cps.toList<y.cps.toList):ss.Nodup:=by
 rw [AF]
 exact h.imp λl e=>by subst e;exact List.lt_irrefl _ l
theorem UM (ss:List Str):decide (ss.map D.str=Ee (DB (ss.map D.str)))=HI (ss.map D.str):=by
 have ord:∀ (ts:List Str),∀ d∈ts.map D.str,FC d=true:=λts d hd=>by
  obtain ⟨x,_,rfl⟩:=Ar.mp hd
  rfl
 rw [B0,Af,N8]
 constructor
 ·intro h
  have p:=Dg (DB (ss.map D.str))
  rw [← h] at p
  have nd:=J5.mp p.length_eq.symm
  have up:=HY (DB (ss.map D.str))
  rw [← h,A8] at up
  have ne:=AF.mp (HX.mp nd)
  refine (up.and ne).imp λ{x y} ⟨l,n⟩=>?_
  have l':¬ y.cps.toList<x.cps.toList:=by
   unfold leT at l
   rw [Ow] at l
   simpa using l
  have c:=IH x y
  cases q:GL x y with
  | lt=>exact FE.mp q
  | eq=>exact (n (HH.mp q)).elim
  | gt=>exact (l' (Jj.mp q)).elim
 ·intro h
  rw [Jn (HX.mpr (Sg h))]
  refine HK (ord ss) (BN _) ?_
  rw [A8]
  refine h.imp λ{x y} l=>?_
  unfold leT
  rw [Ow]
  have:=List.lt_asymm l
  simp [this]
end PG
namespace PV
open PySem L2 PyProof.Rows K1
variable {mu:Sto}
theorem Ta {i j:Int}(h:CMul i j):Fp (.int i) (.int j) mu=some (.int (i*j),mu):=by
 unfold Fp
 dsimp only
 rw [if_pos h]
theorem RR {i j:Int}(h:Lw i j):JO (.int i) (.int j) mu=some (.int (i / j),mu):=by
 unfold JO
 dsimp only
 rw [if_pos h]
theorem SO {o i:Ex}{d:D}{ro:Ro}:gIx o i d ro mu=bM (o ro mu) λx m1=>bM (i ro m1) λe m2=>bM (putG x e d m2) λ_ m3=>some (ro,m3):=rfl
theorem Vs {k:Nat}{ds:List D}{v:D}{j:Nat}(h:mu[k]? = some (.lst ds))(hj:j<ds.length):putG (.ref k) (.int j) v mu=some ((),mu.set k (.lst (ds.set j v))):=by
 have e:ixN ds.length (j:Int)=some j:=by
  unfold ixN
  rw [if_pos (by omega),if_pos (by omega),Int.toNat_natCast]
 simp only [putG,h,Tw,e]
theorem OT {k:Nat}{ds:List D}{d:D}{j:Nat}(h:mu[k]? = some (.lst ds))(hd:ds[j]? = some d):ixG (.ref k) (.int j) mu=some (d,mu):=by
 have:=(Ae.mp hd).1
 have e:ixN ds.length (j:Int)=some j:=by
  unfold ixN
  rw [if_pos (by omega),if_pos (by omega),Int.toNat_natCast]
 have:ixD (.ref k) (.int j) mu=some (d,mu):=by
  simp only [ixD,DV,h,atI,e,Option.bind_some,hd,Option.map_some]
 unfold ixG
 rw [this]
theorem F6 {k:Nat}{o o':MO}(h:mu[k]? = some o):(mu.set k o')[k]? = some o':=by
 have:=(Ae.mp h).1
 simp [this]
noncomputable def HandOk (mu:Sto)(k n:Nat):Prop:=∃ a b c:Int,mu[k]? = some (.lst [.int a,.int b,.int c])∧(-(2 ^ 63)<b∧b<2 ^ 63)∧0≤c∧c+n<2 ^ 40
theorem HandOk.mono {mu:Sto}{k n n':Nat}(h:HandOk mu k n)(l:n'≤n):HandOk mu k n':=by
 obtain ⟨a,b,c,h1,h2,h3,h4⟩:=h
 exact ⟨a,b,c,h1,h2,h3,by omega⟩
theorem HandOk.lt {k n:Nat}(h:HandOk mu k n):k<mu.length:=by
 obtain ⟨a,b,c,h1,_⟩:=h
 exact (Ae.mp h1).1
noncomputable def Flat (mu:Sto):Prop:=∀ (j:Nat) (o:MO),mu[j]? = some o->Mo 0 o=true
structure Fr (k n:Nat) (mu mu':Sto):Prop where
 hand:HandOk mu' k n
 keep:∀ j,j≠k->mu'[j]? = mu[j]?
 len:mu'.length=mu.length
theorem Fr.refl {k n:Nat}{mu:Sto}(h:HandOk mu k n):Fr k n mu mu:=⟨h,λ_ _=>rfl,rfl⟩
theorem Fr.trans {k n n':Nat}{a b c:Sto}(x:Fr k n a b)(y:Fr k n' b c):Fr k n' a c:=⟨y.hand,λj hk=>(y.keep j hk).trans (x.keep j hk),y.len.trans x.len⟩
theorem Fr.mono {k n n':Nat}{a b:Sto}(x:Fr k n a b)(l:n'≤n):Fr k n' a b:=⟨x.hand.mono l,x.keep,x.len⟩
theorem Fr.flat {k n:Nat}{a b:Sto}(x:Fr k n a b)(h:Flat a):Flat b:=by
 intro j o e
 by_cases c:j=k
 ·subst c
  obtain ⟨_,_,_,h1,_⟩:=x.hand
  rw [h1] at e
  cases e
  rfl
 ·rw [x.keep j c] at e
  exact h j o e
noncomputable def Run (r:Rs D)(k n:Nat)(mu:Sto)(P:D->Prop):Prop:=∃ d mu',r=some (d,mu')∧Fr k n mu mu'∧P d
theorem Q8 {ds:List D}{t:Int}(h0:0≤t)(h1:t<ds.length):∃ d,d∈ds∧ds[t.toNat]? = some d:=by
 have h:t.toNat<ds.length:=by omega
 exact ⟨ds[t.toNat],BG h,Ak h⟩
theorem OB {ds:List D}{d:D}{t:Int}(s:D)(hs:s=.lst ds∨s=.tup ds)(h0:0≤t)(h:ds[t.toNat]? = some d):ixG s (.int t) mu=some (d,mu):=by
 have:=X7 (mu:=mu) s hs h
 rwa [Int.toNat_of_nonneg h0] at this
end PV
namespace PG
open PySem L2 PV PyProof.Rows K1
variable {mu:Sto}
theorem Dr {k n:Nat}{m:Int}(h:HandOk mu k (n+1))(m0:0<m)(m1:m<1073741824):Run (Ct [.ref k,.int m] mu) k n mu λd=>∃ t:Int,d=.int t∧0≤t∧t<m:=by
 obtain ⟨a,b,c,h1,h2,h3,h4⟩:=h
 have hk:k<mu.length:=(Ae.mp h1).1
 have fr:∀ a' c':Int,0≤c'->c'≤c+1->Fr k n mu (mu.set k (.lst [.int a',.int b,.int c'])):=λa' c' z1 z2=>⟨⟨a',b,c',F6 h1,h2,z1,by omega⟩,λj hj=>by rw [AM (Ne.symm hj)],by simp⟩
 have i0:ixG (.ref k) (.int 0) mu=some (.int a,mu):=OT (j:=0) h1 rfl
 by_cases ha:0<a
 ·refine ⟨.int (a % m),_,?_,fr (a / m) c h3 (by omega),a % m,rfl,By _ (by omega),Bk _ m0⟩
  have cd:Lw a m:=⟨m0,m1⟩
  have p0:∀ v,putG (.ref k) (.int 0) v mu=some ((),mu.set k (.lst [v,.int b,.int c])):=λv=>Vs (j:=0) h1 (by simp)
  have ha':decide (0<a)=true:=by simp [ha]
  simp_arith only [Ct,Gr,i0,ha',Iy m0,RR cd,SO,p0]
 ·refine ⟨.int (((b*(48271+2*(c+1)*(c+1)+65537*(c+1)) % 2305843009213693921*(b*(48271+2*(c+1)*(c+1)+65537*(c+1)) % 2305843009213693921 % 1000003+(c+1)*99991+11) % 2305843009213693907) / 97+(b*(48271+2*(c+1)*(c+1)+65537*(c+1)) % 2305843009213693921*(b*(48271+2*(c+1)*(c+1)+65537*(c+1)) % 2305843009213693921 % 1000003+(c+1)*99991+11) % 2305843009213693907) / 1000033) % m),_,?_,fr a (c+1) (by omega) (by omega),_,rfl,By _ (by omega),Bk _ m0⟩
  have hs:∀ o,(mu.set k o)[k]? = some o:=λo=>F6 h1
  have c1:CMul 2 (c+1):=.inl ⟨by decide,by decide⟩
  have c2:CMul (2*(c+1)) (c+1):=.inl ⟨by omega,by omega⟩
  have c3:CMul 65537 (c+1):=.inl ⟨by decide,by decide⟩
  have c4:∀ z,CMul b z:=λz=>.inl ⟨by omega,by omega⟩
  have c5:CMul (c+1) 99991:=.inr ⟨by decide,by decide⟩
  have c6:∀ y z:Int,CMul (y % 2305843009213693921) z:=λy z=>.inl ⟨by omega,by omega⟩
  have c7:∀ y:Int,Lw y 97:=λy=>⟨by decide,by decide⟩
  have c8:∀ y:Int,Lw y 1000033:=λy=>⟨by decide,by decide⟩
  have i2:ixG (.ref k) (.int 2) mu=some (.int c,mu):=OT (j:=2) h1 rfl
  have p2:∀ v,putG (.ref k) (.int 2) v mu=some ((),mu.set k (.lst [.int a,.int b,v])):=λv=>Vs (j:=2) h1 (by simp)
  have j1:∀ v,ixG (.ref k) (.int 1) (mu.set k (.lst [.int a,.int b,v]))=some (.int b,mu.set k (.lst [.int a,.int b,v])):=λv=>OT (j:=1) (hs _) rfl
  have j2:∀ v,ixG (.ref k) (.int 2) (mu.set k (.lst [.int a,.int b,v]))=some (v,mu.set k (.lst [.int a,.int b,v])):=λv=>OT (j:=2) (hs _) rfl
  have ha':decide (0<a)=false:=by simp [ha]
  simp_arith only [Ct,Gr,i0,ha',Iy,Iy m0,RR,Ta,SO,i2,p2,j1,j2,c1,c2,c3,c4,c5,c6,c7,c8,Int.reduceLT]
theorem pick_run {k n:Nat}{s:D}{ds:List D}(hs:s=.lst ds∨s=.tup ds)(hn:ds≠[])(hl:ds.length<1073741824)(h:HandOk mu k (n+1)):Run (Dd [.ref k,s] mu) k n mu λd=>d∈ds:=by
 have pos:0<ds.length:=List.length_pos_iff.mpr hn
 obtain ⟨_,mu',e,fr,t,rfl,t0,t1⟩:=Dr (m:=ds.length) h (by omega) (by omega)
 obtain ⟨d,hd,ed⟩:=Q8 t0 t1
 refine ⟨d,mu',?_,fr,hd⟩
 have ix:=OB (mu:=mu') s hs t0 ed
 rcases hs with rfl|rfl
 ·simp_arith only [Dd,Gu,e,ix]
 ·simp_arith only [Dd,Gu,e,ix]
theorem QH:∀ c∈DC.cps.toList,decide (c<0x110000)=true:=by decide +kernel
theorem JS {x:Str}(h:∀ c∈x.cps.toList,c∈DC.cps.toList):PyData.strOk x=true:=by
 unfold PyData.strOk
 rw [← Array.all_toList,Aw]
 exact λc hc=>QH c (h c hc)
theorem Rx {x y:Str}(h:x.length+y.length≤sizeLine):CT (.str x) (.str y) mu=some (.str (x++y),mu):=by
 simp only [CT,h,if_true]
theorem Vv {x:Str}{lo hi:Option Int}(h:PyData.strOk (Txt.slice x lo hi)=true):slD (.str x) lo hi mu=some (.str (Txt.slice x lo hi),mu):=by
 simp only [slD,h,if_true]
theorem IM {k n:Nat}{many:Int}(m0:0≤many)(m6:many≤6)(h:HandOk mu k (n+5)):Run (Ea [.ref k,.int many,.int 8] mu) k n mu λd=>∃ ws:List Str,d=.lst (ws.map D.str)∧(ws.length:Int)=many∧ws.Nodup∧∀ x∈ws,IsW x:=by
 obtain ⟨_,mu1,e1,f1,fi,rfl,a0,a1⟩:=Dr (m:=36) (n:=n+4) h (by decide) (by decide)
 obtain ⟨st,mu2,e2,f2,hst⟩:=pick_run (s:=.lst [.int 1,.int 5,.int 7,.int 11,.int 13,.int 17]) (n:=n+3) (.inl rfl) (by simp) (by decide) f1.hand
 obtain ⟨_,mu3,e3,f3,si,rfl,b0,b1⟩:=Dr (m:=36) (n:=n+2) f2.hand (by decide) (by decide)
 obtain ⟨mv,mu4,e4,f4,hmv⟩:=pick_run (s:=.lst [.int 0,.int 1,.int 0,.int 2,.int 7]) (n:=n+1) (.inl rfl) (by simp) (by decide) f3.hand
 obtain ⟨s',rfl,hs⟩:∃ s':Int,st=.int s'∧JQ s':=by
  simp only [An,A4,or_false] at hst
  unfold JQ
  rcases hst with rfl|rfl|rfl|rfl|rfl|rfl<;>exact ⟨_,rfl,by decide⟩
 obtain ⟨v,rfl,v0,v7⟩:∃ v:Int,mv=.int v∧0≤v∧v≤7:=by
  simp only [An,A4,or_false] at hmv
  rcases hmv with rfl|rfl|rfl|rfl|rfl<;>exact ⟨_,rfl,by decide,by decide⟩
 have hmin:Ma [.int 7,.int v] mu4=some (.int v,mu4):=by
  have:(if v<7 then v else 7)=v:=by split<;>omega
  simp only [Ma,PV.ints2,Option.map_some,this]
 obtain ⟨ch,hc,ix3⟩:∃ ch,ch∈DC.cps.toList∧ixG (.str (Str.ofString "abcdefghijklmnopqrstuvwxyz0123456789")) (.int si) mu3=some (.str ⟨#[ch]⟩,mu3):=⟨_,Am (G4 b0 b1),Mv b0 b1⟩
 have len:(Txt.mul ⟨#[ch]⟩ v).length=v.toNat:=by
  have:=congrArg List.length (mul_list (ch) v v0 v7)
  simpa [Str.length] using this
 generalize hst:Txt.mul ⟨#[ch]⟩ v=stem at len
 have stl:stem.cps.toList=List.replicate v.toNat (ch):=by rw [← hst];exact mul_list _ v v0 v7
 have stAll:∀ x∈stem.cps.toList,x=ch:=λx hx=>by rw [stl] at hx;exact (List.mem_replicate.mp hx).2
 obtain ⟨_,mu5,e5,f5,at',rfl,c0,c1⟩:=Dr (m:=(stem.length:Int)+1) (n:=n) f4.hand (by omega) (by omega)
 have at2:at'≤stem.length:=by omega
 have sl1:=SF (x:=stem) c0 at2
 have sl2:=Nw (x:=stem) c0 at2
 have allA:∀ x∈(Txt.slice stem none (some at')).cps.toList,x=ch:=λx hx=>stAll x (by rw [sl1] at hx;exact List.mem_of_mem_take hx)
 have allB:∀ x∈(Txt.slice stem (some at') none).cps.toList,x=ch:=λx hx=>stAll x (by rw [sl2] at hx;exact List.mem_of_mem_drop hx)
 have lens:(Txt.slice stem none (some at')).length+(Txt.slice stem (some at') none).length≤7:=by
  have l1:=congrArg List.length sl1
  have l2:=congrArg List.length sl2
  simp only [Array.length_toList,AG,BA] at l1 l2
  have ls:stem.cps.size=v.toNat:=len
  unfold Str.length
  omega
 refine ⟨.lst ((M0 (Txt.slice stem none (some at')) (Txt.slice stem (some at') none) fi s' many.toNat).map D.str),mu5,?_,(((f1.trans f2).trans f3).trans f4).trans f5,_,rfl,by simp [M0];omega,Vj hs (by omega),λx hx=>?_⟩
 ·have mo:MulOk ⟨#[ch]⟩ v:=Ze _ v v0 v7
  have okm:PyData.strOk stem=true:=JS λc h=>by rw [stAll c h];exact hc
  have okA:PyData.strOk (Txt.slice stem none (some at'))=true:=JS λc h=>by rw [allA c h];exact hc
  have okB:PyData.strOk (Txt.slice stem (some at') none)=true:=JS λc h=>by rw [allB c h];exact hc
  have zl:stem.length≤sizeLine:=by rw [AS];omega
  have lc:Gf none mu5 (gNm 0) tY (Cq CT (Cq CT (eSl (Cj 1) pNo (DD (Cj 2))) (Cq ixG (Cj 3) (Cq F5 (Cq CT (Cj 4) (Cq Fp (Cj 5) (Cj 0))) (eC (.int 36))))) (eSl (Cj 1) (DD (Cj 2)) pNo)) [none,some (.str stem),some (.int at'),some (.str DC),some (.int fi),some (.int s')] (EI 0 many.toNat) mu5=some ((M0 (Txt.slice stem none (some at')) (Txt.slice stem (some at') none) fi s' many.toNat).map D.str,mu5):=by
   have ew:(M0 (Txt.slice stem none (some at')) (Txt.slice stem (some at') none) fi s' many.toNat).map D.str=(EI 0 many.toNat).map λd=>match d with|.int i=>.str (wrd (Txt.slice stem none (some at')) (Txt.slice stem (some at') none) fi s' i.toNat)|_=>.non:=by
    unfold M0 EI
    rw [Bu,Bu]
    refine List.map_congr_left λj _=>?_
    simp
   rw [ew]
   refine Hu _ _ λd hd=>⟨_,rfl,?_⟩
   unfold EI at hd
   obtain ⟨j,hj,rfl⟩:=Ar.mp hd
   have i0:=By (fi+s'*(j:Int)) (show (36:Int)≠0 by decide)
   have i1:=Bk (fi+s'*(j:Int)) (show (0:Int)<36 by decide)
   have ix:=Mv (mu:=mu5) i0 i1
   have cm:CMul s' (j:Int):=.inl (by rcases hs with rfl|rfl|rfl|rfl|rfl|rfl<;>exact ⟨by decide,by decide⟩)
   have z1:(Txt.slice stem none (some at')).length+(⟨#[DC.cps.toList.getD ((fi+s'*(j:Int)) % 36).toNat 0]⟩:Str).length≤sizeLine:=by
    rw [AS,show (⟨#[DC.cps.toList.getD ((fi+s'*(j:Int)) % 36).toNat 0]⟩:Str).length=1 from rfl]
    omega
   have z2:(Txt.slice stem none (some at')++(⟨#[DC.cps.toList.getD ((fi+s'*(j:Int)) % 36).toNat 0]⟩:Str)).length+(Txt.slice stem (some at') none).length≤sizeLine:=by
    rw [AS,PySem.Str.length_append,show (⟨#[DC.cps.toList.getD ((fi+s'*(j:Int)) % 36).toNat 0]⟩:Str).length=1 from rfl]
    omega
   simp_arith only [Vv okA,Vv okB,Ta cm,Iy,Int.reduceLT,Int.zero_add,ix,Rx z1,Rx z2,Int.toNat_natCast]
   rfl
  have mm:Fp (.str ⟨#[ch]⟩) (.int v) mu4=some (.str stem,mu4):=by
   unfold Fp
   dsimp only
   rw [hst,if_pos ⟨mo,zl,okm⟩]
  have rg:=Qo (mu:=mu5) (ro:=[some (.ref k),some (.int many),some (.int 8),some (.str DC),some (.int fi),some (.int s'),some (.str stem),some (.int at')]) (r:=Cg (Cj 1) Cm) (n:=many) (m:=mu5) rfl (by omega) (by rw [AS];omega)
  have rg':iRg (Cg (Cj 1) Cm) [some (.ref k),some (.int many),some (.int 8),some (.str (Str.ofString "abcdefghijklmnopqrstuvwxyz0123456789")),some (.int fi),some (.int s'),some (.str stem),some (.int at')] mu5=some ((EI 0 many.toNat,none),mu5):=rg
  simp_arith only [Ea,GQ,e1,e2,e3,ix3,Int.reduceSub,e4,hmin,mm,e5,rg',lc]
 ·unfold M0 at hx
  obtain ⟨j,_,rfl⟩:=Ar.mp hx
  exact Vk hc allA allB lens
theorem Sd {k n:Nat}{ns:List Int}(hk:k<64)(hn:n<2 ^ 39):∃ o,El [.lst (ns.map D.int),.int k] mu=some (.ref mu.length,mu++[o])∧HandOk (mu++[o]) mu.length n:=by
 have fin:∀ c:Int,∃ a b:Int,sRt (G3 (Cg (Cq Fp (Cj 2) (Cn Iv (Cg (Cq geD (Cj 2) (Cq QM (eC (.int 10)) (eC (.int 18)))) Cm))) (Cg (Cq CT (Cq CT (Cq F5 (Cj 2) (eC (.int 2305843009213693951))) (Cq Fp (eC (.int 7919)) (Cj 1))) (eC (.int 3))) (Cg (eC (.int 0)) Cm)))) [some (.lst (ns.map D.int)),some (.int k),some (.int c)] mu=some ((.rt (.ref mu.length),[some (.lst (ns.map D.int)),some (.int k),some (.int c)]),mu++[.lst [.int a,.int b,.int 0]])∧(-(2 ^ 63)<b∧b<2 ^ 63):=by
  intro c
  refine ⟨c*(if (1000000000000000000:Int)≤c then 1 else 0),c % 2305843009213693951+7919*(k:Int)+3,?_,?_⟩
  ·have p1:Qt 10 18:=⟨by decide,by decide,by decide⟩
   have p3:CMul 7919 (k:Int):=.inl ⟨by decide,by decide⟩
   have p4:CMul c (if (1000000000000000000:Int)≤c then 1 else 0):=.inr (by split<;>exact ⟨by decide,by decide⟩)
   simp [sRt,G3,Cg,Cm,Cq,Cj,Cn,eC,bM,geD,RC,QM,p1,Iv,intOf,Fp,p3,CT,F5,p4]
  ·have:=By c (show (2305843009213693951:Int)≠0 by decide)
   have:=Bk c (show (0:Int)<2305843009213693951 by decide)
   omega
 have done:∀ (a b:Int),(-(2 ^ 63)<b∧b<2 ^ 63)->HandOk (mu++[.lst [.int a,.int b,.int 0]]) mu.length n:=λa b hb=>⟨a,b,0,by simp,hb,Int.le_refl _,by omega⟩
 by_cases c:k<ns.length
 ·have e:ixG (.lst (ns.map D.int)) (.int k) mu=some (.int ns[k],mu):=X7 _ (.inl rfl) (by simp [c])
  obtain ⟨a,b,e2,hb⟩:=fin ns[k]
  refine ⟨_,?_,done a b hb⟩
  have c':decide ((k:Int)<((ns.map D.int).length:Int))=true:=by simp [c]
  generalize hR:sRt (G3 _)=R at e2
  simp only [El,Gi,hR]
  simp_arith only [c',e,e2]
 ·obtain ⟨a,b,e2,hb⟩:=fin 0
  refine ⟨_,?_,done a b hb⟩
  have c':decide ((k:Int)<((ns.map D.int).length:Int))=false:=by simp [c]
  generalize hR:sRt (G3 _)=R at e2
  simp only [El,Gi,hR]
  simp_arith only [c',e2]
end PG
namespace PV
open PySem L2 PyProof.Rows K1
variable {mu:Sto}
theorem EW {m0:Sto}{tg:Gx}{body:Sx}(Inv:Nat->Ro->Sto->Prop):∀ (ds:List D) (i:Nat) (ro:Ro) (mu:Sto),Inv i ro mu->(∀ j d ro mu,ds[j]? = some d->Inv (i+j) ro mu->∃ ro1 m1 ro2 m2,tg d ro mu=some (ro1,m1)∧body ro1 m1=some ((.nx,ro2),m2)∧Inv (i+j+1) ro2 m2) ->
  ∃ ro' mu',D2 none m0 tg body ds ro mu=some ((.nx,ro'),mu')∧Inv (i+ds.length) ro' mu'
 | [],i,ro,mu,h,_=>⟨ro,mu,rfl,h⟩
 | d::ds,i,ro,mu,h,st=>by
  obtain ⟨ro1,m1,ro2,m2,e1,e2,h2⟩:=st 0 d ro mu rfl h
  obtain ⟨ro',mu',e3,h3⟩:=EW (m0:=m0) (tg:=tg) (body:=body) Inv ds (i+1) ro2 m2 h2 λj d' ro mu ed hi=>by
   have:=st (j+1) d' ro mu (by simpa using ed) (by rw [show i+(j+1)=i+1+j by omega];exact hi)
   rw [show i+(j+1)+1=i+1+j+1 by omega] at this
   exact this
  refine ⟨ro',mu',?_,by rw [List.length_cons,show i+(ds.length+1)=i+1+ds.length by omega];exact h3⟩
  unfold D2
  rw [e1,CL,e2,CL]
  dsimp only
  rw [DY,if_pos (show gOk none m0 m2 from True.intro),e3]
theorem LU {n j:Nat}{d:D}(h:(EI 0 n)[j]? = some d):d=.int j∧j<n:=by
 unfold EI at h
 rw [Ap] at h
 cases q:(List.range n)[j]? with
 | none=>rw [q] at h;cases h
 | some k =>
  rw [q] at h
  obtain ⟨hj,e⟩:=Ae.mp q
  rw [Br] at hj
  rw [List.getElem_range] at e
  subst e
  exact ⟨by simpa using h.symm,hj⟩
theorem LL (n:Nat):(EI 0 n).length=n:=by simp [EI]
theorem append_at {mu':Sto}{r:Nat}{ds ds0:List D}{y:D}(h0:mu[r]? = some (.lst ds0))(h:mu'[r]? = some (.lst ds))(hl:ds.length<sizeLine){ro:Ro}{i:Nat}{e:Ex}(h1:Cj i ro mu=some (.ref r,mu))(h2:e ro mu=some (y,mu')):LH (Cj i) (Cg e Cm) ro mu=some (.non,mu'.set r (.lst (ds++[y]))):=by
 have ok:ED mu (.ref r)=true:=by simp [ED,h0]
 have a1:Ho [y]=some y:=rfl
 simp only [LH,h1,QN,ok,if_true,Yc,Y3,h2,a1,h,hl]
theorem Ts {n x y:Int}(hn:0<n)(h:x % n=y % n)(h1:x-y<n)(h2:y-x<n):x=y:=by
 have e1:=Int.mul_ediv_add_emod x n
 have e2:=Int.mul_ediv_add_emod y n
 have e:n*(x / n-y / n)=x-y:=by rw [Int.mul_sub];omega
 rcases Int.lt_trichotomy (x / n-y / n) 0 with c|c|c
 ·have:n*(x / n-y / n)≤n*(-1):=Int.mul_le_mul_of_nonneg_left (by omega) (by omega)
  omega
 ·rw [c] at e
  omega
 ·have:n*1≤n*(x / n-y / n):=Int.mul_le_mul_of_nonneg_left (by omega) (by omega)
  omega
noncomputable def rot (ws:List Str)(t:Int)(s:Nat):List Str:=(List.range s).map λj:Nat=>ws.getD (((j:Int)+t) % (ws.length:Int)).toNat ⟨#[]⟩
theorem J2 {ws:List Str}(hw:0<ws.length)(x:Int):ws[(x % (ws.length:Int)).toNat]? = some (ws.getD (x % (ws.length:Int)).toNat ⟨#[]⟩):=by
 have h0:=By x (show (ws.length:Int)≠0 by omega)
 have h1:=Bk x (show (0:Int)<ws.length by omega)
 have h:(x % (ws.length:Int)).toNat<ws.length:=by omega
 rw [AK,Ak h]
 rfl
theorem Vo {ws:List Str}{t:Int}{s:Nat}(hw:0<ws.length):∀ x∈rot ws t s,x∈ws:=by
 intro x hx
 unfold rot at hx
 obtain ⟨j,_,rfl⟩:=Ar.mp hx
 exact Am (J2 hw _)
theorem S6 {ws:List Str}{t:Int}{s:Nat}(hw:0<ws.length)(hd:ws.Nodup)(hs:s≤ws.length):(rot ws t s).Nodup:=by
 unfold rot
 rw [AF,A8]
 refine BB (λ{a b} ha hb hne e=>hne ?_) (AF.mp List.nodup_range)
 rw [A3] at ha hb
 have a0:=By ((a:Int)+t) (show (ws.length:Int)≠0 by omega)
 have a1:=Bk ((a:Int)+t) (show (0:Int)<ws.length by omega)
 have b0:=By ((b:Int)+t) (show (ws.length:Int)≠0 by omega)
 have b1:=Bk ((b:Int)+t) (show (0:Int)<ws.length by omega)
 have e1:=J2 hw ((a:Int)+t)
 have e2:=J2 hw ((b:Int)+t)
 rw [e,← e2] at e1
 have l1:(((a:Int)+t) % (ws.length:Int)).toNat<ws.length:=by omega
 have l2:(((b:Int)+t) % (ws.length:Int)).toNat<ws.length:=by omega
 rw [Ak l1,Ak l2] at e1
 have h:=(List.getElem_inj hd).mp (AB e1)
 have:=Ts (n:=ws.length) (x:=(a:Int)+t) (y:=(b:Int)+t) (by omega) (by omega) (by omega) (by omega)
 omega
theorem LK (ws:List Str)(t:Int)(s:Nat):(rot ws t s).length=s:=by simp [rot]
theorem QA {ws:List Str}(hw:0<ws.length)(x:Int):ixG (.lst (ws.map D.str)) (.int (x % (ws.length:Int))) mu=some (.str (ws.getD (x % (ws.length:Int)).toNat ⟨#[]⟩),mu):=by
 have h0:=By x (show (ws.length:Int)≠0 by omega)
 refine OB (ds:=ws.map D.str) _ (.inl rfl) h0 ?_
 rw [Ap,J2 hw]
 rfl
mutual
noncomputable def okD:D->Bool
 | .ref _=>false
 | .tup ds=>decide (ds.length≤1000)&&okL ds
 | .lst ds=>okL ds
 | .dct ks ds=>okL ks&&okL ds
 | .set ds=>okL ds
 | _=>true
noncomputable def okL:List D->Bool
 | []=>true
 | d::ds=>okD d&&okL ds
end
mutual
theorem Rf:∀ {d:D},okD d=true->DK 0 d=true
 | .non,_=>rfl
 | .bl _,_=>rfl
 | .int _,_=>rfl
 | .str _,_=>rfl
 | .ref k,e=>by simp [okD] at e
 | .tup ds,e=>by
  simp only [okD,Ac] at e
  simp only [DK]
  exact Ha e.2
 | .lst ds,e=>by
  simp only [okD] at e
  simp only [DK]
  exact Ha e
 | .set ds,e=>by
  simp only [okD] at e
  simp only [DK]
  exact Ha e
 | .dct ks ds,e=>by
  simp only [okD,Ac] at e
  simp only [DK,Ac]
  exact ⟨Ha e.1,Ha e.2⟩
theorem Ha:∀ {ds:List D},okL ds=true->Fe 0 ds=true
 | [],_=>rfl
 | d::ds,e=>by
  simp only [okL,Ac] at e
  simp only [Fe,Ac]
  exact ⟨Rf e.1,Ha e.2⟩
end
theorem LN {ds:List D}:okL ds=true ↔ ∀ d∈ds,okD d=true:=by
 induction ds with
 | nil=>simp [okL]
 | cons d ds ih=>simp [okL,ih]
theorem UB (ss:List Str):okL (ss.map D.str)=true:=by
 rw [LN]
 intro d hd
 obtain ⟨x,_,rfl⟩:=Ar.mp hd
 rfl
end PV
namespace PG
open PySem L2 PV PyProof.Rows K1
variable {mu:Sto}
theorem Qj {ss:List Str}(h0:0<ss.length)(h4:ss.length≤4)(hd:ss.Nodup)(hw:∀ x∈ss,IsW x):GO (.tup (ss.map D.str))=true:=by
 have W:GO (.tup (ss.map D.str))=(Eh 1 4 (.tup (ss.map D.str))&&((ss.map D.str).all Hm&&ndB (ss.map D.str))):=rfl
 rw [W]
 simp only [Ac,Eh,Ah,Af,Aw,ndB]
 refine ⟨⟨by omega,by omega⟩,λd hd=>?_,HX.mpr hd⟩
 obtain ⟨x,hx,rfl⟩:=Ar.mp hd
 exact JR.mpr (hw x hx)
noncomputable def KQ:Sx:=(CJ (Di (D4 (Cg (Cq CT (eC (.int 1)) (Cn Ct (Cg (Cj 0) (Cg (Cj 3) Cm)))) (Cg (Cn Ct (Cg (Cj 0) (Cg (eC (.int 2)) Cm))) Cm))) (gTp 2 (Co (gNm 13) (Co (gNm 14) CM)))) (CJ (Di (Cn FR (Cg (eLC (iRg (Cg (Cj 13) Cm)) 1 [6,14] (gNm 0) (tY) (Cq ixG (Cj 1) (Cq F5 (Cq CT (Cj 0) (Cj 2)) (Cn Ef (Cg (Cj 1) Cm))))) Cm)) (gNm 15)) (sEx (LH (Cj 11) (Cg (D4 (Cg (Cq ixG (Cj 5) (Cq F5 (Cq CT (Cj 12) (Cj 10)) (Cn Ef (Cg (Cj 5) Cm)))) (Cg (Cj 15) Cm))) Cm)))))
theorem SR {k n R b c j:Nat}{sh:Int}{a nms fnd nm1 x9:D}{ws st:List Str}{cs:List D}{x13 x14 x15:Option D}(hc:1≤c)(hc4:c≤4)(hw:0<ws.length)(hs:st.length=c+1)(sd:st.Nodup)(sW:∀ x∈st,IsW x)(hR:mu[R]? = some (.lst cs))(hcs:cs.length<100)(hkR:R≠k)(h:HandOk mu k (n+2)) :
  ∃ y13 y14 y15 m' vs,KQ [some (.ref k),some a,some (.int b),some (.int c),some nms,some (.lst (ws.map D.str)),some (.lst (st.map D.str)),some fnd,some nm1,some x9,some (.int sh),some (.ref R),some (.int j),x13,x14,x15] mu=some ((.nx,[some (.ref k),some a,some (.int b),some (.int c),some nms,some (.lst (ws.map D.str)),some (.lst (st.map D.str)),some fnd,some nm1,some x9,some (.int sh),some (.ref R),some (.int j),y13,y14,y15]),m') ∧
   m'[R]? = some (.lst (cs++[.tup [.str (ws.getD (((j:Int)+sh) % (ws.length:Int)).toNat ⟨#[]⟩),.tup vs]]))∧GO (.tup vs)=true∧okD (.tup vs)=true∧HandOk m' k n∧(∀ i,i≠k->i≠R->m'[i]? = mu[i]?)∧m'.length=mu.length:=by
 obtain ⟨_,m1,e1,f1,t1,rfl,a0,a1⟩:=Dr (m:=c) (n:=n+1) h (by omega) (by omega)
 obtain ⟨_,m2,e2,f2,t2,rfl,b0,b1⟩:=Dr (m:=2) (n:=n) f1.hand (by decide) (by decide)
 have fr:=f1.trans f2
 have hR2:m2[R]? = some (.lst cs):=(fr.keep R hkR).trans hR
 have st0:0<st.length:=by omega
 obtain ⟨s,hs1⟩:∃ s:Nat,1+t1=(s:Int):=⟨(1+t1).toNat,by omega⟩
 have lc:Gf none m2 (gNm 0) tY (Cq ixG (Cj 1) (Cq F5 (Cq CT (Cj 0) (Cj 2)) (Cn Ef (Cg (Cj 1) Cm)))) [none,some (.lst (st.map D.str)),some (.int t2)] (EI 0 s) m2=some ((rot st t2 s).map D.str,m2):=by
  have e:(rot st t2 s).map D.str=(EI 0 s).map λd=>match d with|.int i=>.str (st.getD ((i+t2) % (st.length:Int)).toNat ⟨#[]⟩)|_=>.non:=by
   unfold rot EI
   rw [Bu,Bu]
   refine List.map_congr_left λj _=>?_
   simp
  rw [e]
  refine Hu _ _ λd hd=>⟨_,rfl,?_⟩
  unfold EI at hd
  obtain ⟨i,_,rfl⟩:=Ar.mp hd
  have l0:(0:Int)<(st.length:Int):=by omega
  simp_arith only [Ah,Iy l0,QA st0,Int.zero_add]
 have rg:=Qo (mu:=m2) (ro:=[some (.ref k),some a,some (.int b),some (.int c),some nms,some (.lst (ws.map D.str)),some (.lst (st.map D.str)),some fnd,some nm1,some x9,some (.int sh),some (.ref R),some (.int j),some (.int s),some (.int t2),x15]) (r:=Cg (Cj 13) Cm) (n:=s) (m:=m2) rfl (by omega) (by rw [AS];omega)
 rw [Int.toNat_natCast] at rg
 have l6:(0:Int)<(ws.length:Int):=by omega
 have ap:=append_at (ro:=[some (.ref k),some a,some (.int b),some (.int c),some nms,some (.lst (ws.map D.str)),some (.lst (st.map D.str)),some fnd,some nm1,some x9,some (.int sh),some (.ref R),some (.int j),some (.int s),some (.int t2),some (.tup ((rot st t2 s).map D.str))]) (i:=11) hR2 hR2 (y:=.tup [.str (ws.getD (((j:Int)+sh) % (ws.length:Int)).toNat ⟨#[]⟩),.tup ((rot st t2 s).map D.str)]) (by rw [AS];omega) rfl (e:=(D4 (Cg (Cq ixG (Cj 5) (Cq F5 (Cq CT (Cj 12) (Cj 10)) (Cn Ef (Cg (Cj 5) Cm)))) (Cg (Cj 15) Cm)))) (by
  simp_arith only [Ah,Iy l6,QA hw])
 refine ⟨some (.int s),some (.int t2),some (.tup ((rot st t2 s).map D.str)),_,(rot st t2 s).map D.str,?_,F6 hR2,Qj (by rw [LK];omega) (by rw [LK];omega) (S6 st0 sd (by omega)) (λx hx=>sW x (Vo st0 x hx)),?_,?_,?_,?_⟩
 ·unfold KQ
  simp_arith only [e1,e2,hs1,rg,lc,ap]
 ·simp only [okD,UB,Ah,LK,Bool.and_true,Af]
  omega
 ·obtain ⟨a,b,c',h1,h2⟩:=f2.hand
  exact ⟨a,b,c',by rw [AM hkR];exact h1,h2⟩
 ·intro i hik hiR
  rw [AM (Ne.symm hiR),fr.keep i hik]
 ·rw [List.length_set,fr.len]
end PG
namespace PV
open PySem L2 PyProof.Rows K1
variable {mu:Sto}
theorem Sy (ws:List Str)(t:Int)(s:Nat):rot ws t (s+1)=rot ws t s++[ws.getD (((s:Int)+t) % (ws.length:Int)).toNat ⟨#[]⟩]:=by
 unfold rot
 rw [List.range_succ,Bd]
 rfl
theorem HandOk.app {k n:Nat}{os:Sto}(h:HandOk mu k n):HandOk (mu++os) k n:=by
 have hk:=h.lt
 obtain ⟨a,b,c',q,r⟩:=h
 exact ⟨a,b,c',by rw [Ay hk];exact q,r⟩
theorem HandOk.set {k n j:Nat}{o:MO}(h:HandOk mu k n)(hj:j≠k):HandOk (mu.set j o) k n:=by
 obtain ⟨a,b,c',q,r⟩:=h
 exact ⟨a,b,c',by rw [AM hj];exact q,r⟩
theorem TL {o:MO}{n:Nat}(h:Mo 0 o=true):Mo n o=true:=by
 cases o with
 | lst ds=>exact Fd (AW _) h
 | dct ks ds =>
  simp only [Mo,Ac] at h ⊢
  exact ⟨Fd (AW _) h.1,Fd (AW _) h.2⟩
theorem OE {m:Sto}{d:D}(hd:DK 0 d=true)(hf:Flat (m.take mu.length)):LZ mu m d=some (d,m.take mu.length):=by
 have e:frz mu.length m 3 d=some d:=by
  unfold frz
  rw [if_pos (Td (AW _) hd)]
 have al:(m.take mu.length).all (Mo mu.length)=true:=by
  rw [Aw]
  intro o ho
  obtain ⟨j,hj⟩:=AO.mp ho
  exact TL (hf j o hj)
 unfold LZ
 rw [e]
 dsimp only
 rw [if_pos al]
end PV
namespace PG
open PySem L2 PV PyProof.Rows K1
variable {mu:Sto}
theorem RV {k n R b c:Nat}{many:Nat}{sh:Int}{a nms fnd nm1:D}{ws st:List Str}(hc:1≤c)(hc4:c≤4)(hw:0<ws.length)(wW:∀ x∈ws,IsW x)(hs:st.length=c+1)(sd:st.Nodup)(sW:∀ x∈st,IsW x)(hm:many≤4)(hR:mu[R]? = some (.lst []))(hkR:R≠k)(h:HandOk mu k (n+2*many)){m0:Sto}{x12 x13 x14 x15:Option D} :
  ∃ (y12 y13 y14 y15:Option D) (mu':Sto) (cs:List D),D2 none m0 (gNm 12) KQ (EI 0 many) [some (.ref k),some a,some (.int b),some (.int c),some nms,some (.lst (ws.map D.str)),some (.lst (st.map D.str)),some fnd,some nm1,some (.int many),some (.int sh),some (.ref R),x12,x13,x14,x15] mu=some ((.nx,[some (.ref k),some a,some (.int b),some (.int c),some nms,some (.lst (ws.map D.str)),some (.lst (st.map D.str)),some fnd,some nm1,some (.int many),some (.int sh),some (.ref R),y12,y13,y14,y15]),mu') ∧
   mu'[R]? = some (.lst cs)∧cs.length=many∧cs.all JL=true∧okL cs=true∧cs.map IZ=(rot ws sh many).map D.str∧HandOk mu' k n∧(∀ j,j≠k->j≠R->mu'[j]? = mu[j]?)∧mu'.length=mu.length:=by
 have key:=EW (m0:=m0) (tg:=gNm 12) (body:=KQ) (λi ro m=>(∃ y12 y13 y14 y15,ro=[some (.ref k),some a,some (.int b),some (.int c),some nms,some (.lst (ws.map D.str)),some (.lst (st.map D.str)),some fnd,some nm1,some (.int many),some (.int sh),some (.ref R),y12,y13,y14,y15])∧(∃ cs:List D,m[R]? = some (.lst cs)∧cs.length=i∧cs.all JL=true∧okL cs=true∧cs.map IZ=(rot ws sh i).map D.str)∧i≤many∧HandOk m k (n+2*(many-i))∧(∀ j,j≠k->j≠R->m[j]? = mu[j]?)∧m.length=mu.length) (EI 0 many) 0 [some (.ref k),some a,some (.int b),some (.int c),some nms,some (.lst (ws.map D.str)),some (.lst (st.map D.str)),some fnd,some nm1,some (.int many),some (.int sh),some (.ref R),x12,x13,x14,x15] mu
  ⟨⟨x12,x13,x14,x15,rfl⟩,⟨[],hR,rfl,rfl,rfl,rfl⟩,AW _,h,λ_ _ _=>rfl,rfl⟩ λj d ro m ed hi=>by
   obtain ⟨⟨y12,y13,y14,y15,rfl⟩,⟨cs,hR',hl,ha,ho,hf⟩,hle,hh,hkeep,hlen⟩:=hi
   obtain ⟨rfl,hj⟩:=LU ed
   obtain ⟨z13,z14,z15,m',vs,e,g1,g2,g3,g4,g5,g6⟩:=SR (n:=n+2*(many-(0+j+1))) (b:=b) (c:=c) (j:=j) (sh:=sh) (a:=a) (nms:=nms) (fnd:=fnd) (nm1:=nm1) (x9:=.int many) (x13:=y13) (x14:=y14) (x15:=y15) (ws:=ws) hc hc4 hw hs sd sW hR' (by omega) hkR (hh.mono (by omega))
   have wm:=wW _ (Am (J2 hw ((j:Int)+sh)))
   refine ⟨_,m,_,m',rfl,e,⟨_,_,_,_,rfl⟩,⟨_,g1,by simp [hl],?_,?_,?_⟩,by omega,g4,λi hik hiR=>(g5 i hik hiR).trans (hkeep i hik hiR),g6.trans hlen⟩
   ·rw [List.all_append,ha]
    have:JL (.tup [.str (ws.getD (((j:Int)+sh) % (ws.length:Int)).toNat ⟨#[]⟩),.tup vs])=(wB (ws.getD (((j:Int)+sh) % (ws.length:Int)).toNat ⟨#[]⟩)&&GO (.tup vs)):=rfl
    rw [List.all_cons,this,JR.mpr wm,g2]
    rfl
   ·rw [LN] at ho ⊢
    intro d hd
    rcases AH.mp hd with hd|hd
    ·exact ho d hd
    ·rw [Ao.mp hd]
     simp only [okD,okL,g3,List.length_cons,List.length_nil]
     simp only [okD] at g3
     rw [g3]
     rfl
   ·rw [Bd,hf,BE,Sy,Bd]
    rfl
 obtain ⟨ro',mu',e,⟨y12,y13,y14,y15,rfl⟩,⟨cs,a2,a3,a4,a5,a6⟩,_,a7,a8,a9⟩:=key
 rw [LL] at a3 a6 a7
 refine ⟨y12,y13,y14,y15,mu',cs,e,a2,by omega,a4,a5,by rw [a6,BE],a7.mono (by omega),a8,a9⟩
noncomputable def OZ:Sx:=(CJ (OY 9 10 11 (Cg (Cq CT (eC (.int 1)) (Cn Ct (Cg (Cj 0) (Cg (Cj 2) Cm)))) (Cg (Cn Ct (Cg (Cj 0) (Cg (eC (.int 3)) Cm))) (Cg (G3 Cm) Cm)))) (CJ (FO (iRg (Cg (Cj 9) Cm)) (gNm 12) KQ) (sEx (LH (Cj 7) (Cg (D4 (Cg (Cj 8) (Cg (Cn FR (Cg (Cj 11) Cm)) (Cg (Cq CT (eC (.int 1)) (Cn Ct (Cg (Cj 0) (Cg (Cj 9) Cm)))) Cm)))) Cm)))))
theorem Oa {R:Nat}{cs:List D}(h:mu[R]? = some (.lst cs)):FR [.ref R] mu=some (.tup cs,mu):=by
 simp only [FR,sq1,Ho,G0,DV,h,Option.map_some]
theorem QU {k n F b c:Nat}{nm:Str}{ws st:List Str}{a nms:D}{ts:List D}{x9 x10 x11 x12 x13 x14 x15:Option D}(hb:1≤b)(hb4:b≤4)(hc:1≤c)(hc4:c≤4)(hw:ws.length=b+2)(wd:ws.Nodup)(wW:∀ x∈ws,IsW x)(hs:st.length=c+1)(sd:st.Nodup)(sW:∀ x∈st,IsW x)(hW:IsW nm)(hF:mu[F]? = some (.lst ts))(hts:ts.length≤100)(hkF:F≠k)(h:HandOk mu k (n+11)) :
  ∃ y9 y10 y11 y12 y13 y14 y15 m2 cs,∃ q:Nat,OZ [some (.ref k),some a,some (.int b),some (.int c),some nms,some (.lst (ws.map D.str)),some (.lst (st.map D.str)),some (.ref F),some (.str nm),x9,x10,x11,x12,x13,x14,x15] mu=some ((.nx,[some (.ref k),some a,some (.int b),some (.int c),some nms,some (.lst (ws.map D.str)),some (.lst (st.map D.str)),some (.ref F),some (.str nm),y9,y10,y11,y12,y13,y14,y15]),m2) ∧
   m2[F]? = some (.lst (ts++[.tup [.str nm,.tup cs,.int q]]))∧J3 (.tup [.str nm,.tup cs,.int q])=true∧okD (.tup [.str nm,.tup cs,.int q])=true∧HandOk m2 k n∧(∀ j,j<mu.length->j≠k->j≠F->m2[j]? = mu[j]?)∧mu.length≤m2.length:=by
 obtain ⟨_,m1,e1,f1,t1,rfl,a0,a1⟩:=Dr (m:=b) (n:=n+10) h (by omega) (by omega)
 obtain ⟨_,m2,e2,f2,t2,rfl,b0,b1⟩:=Dr (m:=3) (n:=n+9) f1.hand (by decide) (by decide)
 have fr:=f1.trans f2
 have hkl:=h.lt
 have hFl:F<mu.length:=(Ae.mp hF).1
 obtain ⟨q,hq⟩:∃ q:Nat,1+t1=(q:Int):=⟨(1+t1).toNat,by omega⟩
 have hR:(m2++[MO.lst []])[m2.length]? = some (.lst []):=by simp
 have l2:=fr.len
 obtain ⟨y12,y13,y14,y15,m3,cs,e3,g1,g2,g3,g4,g5,g6,g7,g8⟩:=RV (mu:=m2++[MO.lst []]) (k:=k) (n:=n+1) (R:=m2.length) (b:=b) (c:=c) (many:=q) (sh:=t2) (a:=a) (nms:=nms) (fnd:=.ref F) (nm1:=.str nm) (ws:=ws) (st:=st) hc hc4 (by omega) wW hs sd sW (by omega) hR (by omega) (f2.hand.app.mono (by omega)) (m0:=m2++[MO.lst []]) (x12:=x12) (x13:=x13) (x14:=x14) (x15:=x15)
 have F3:m3[F]? = some (.lst ts):=by
  rw [g7 F hkF (by omega),Ay (by omega),fr.keep F hkF,hF]
 obtain ⟨_,m4,e4,f4,t4,rfl,c0,c1⟩:=Dr (m:=q) (n:=n) g6 (by omega) (by omega)
 have F4:m4[F]? = some (.lst ts):=(f4.keep F hkF).trans F3
 obtain ⟨p,hp⟩:∃ p:Nat,1+t4=(p:Int):=⟨(1+t4).toNat,by omega⟩
 have ap:=append_at (ro:=[some (.ref k),some a,some (.int b),some (.int c),some nms,some (.lst (ws.map D.str)),some (.lst (st.map D.str)),some (.ref F),some (.str nm),some (.int q),some (.int t2),some (.ref m2.length),y12,y13,y14,y15]) (i:=7) F3 F4 (y:=.tup [.str nm,.tup cs,.int p]) (by rw [AS];omega) rfl (e:=(D4 (Cg (Cj 8) (Cg (Cn FR (Cg (Cj 11) Cm)) (Cg (Cq CT (eC (.int 1)) (Cn Ct (Cg (Cj 0) (Cg (Cj 9) Cm)))) Cm))))) (by
  simp_arith only [Oa g1,e4,hp])
 have rg:=Qo (mu:=m2++[MO.lst []]) (ro:=[some (.ref k),some a,some (.int b),some (.int c),some nms,some (.lst (ws.map D.str)),some (.lst (st.map D.str)),some (.ref F),some (.str nm),some (.int q),some (.int t2),some (.ref m2.length),x12,x13,x14,x15]) (r:=Cg (Cj 9) Cm) (n:=q) (m:=m2++[MO.lst []]) rfl (by omega) (by rw [AS];omega)
 rw [Int.toNat_natCast] at rg
 refine ⟨some (.int q),some (.int t2),some (.ref m2.length),y12,y13,y14,y15,_,cs,p,?_,F6 F4,?_,?_,f4.hand.set hkF,?_,?_⟩
 ·unfold OZ
  simp_arith only [e1,e2,hq,rg,e3,ap]
 ·have T:J3 (.tup [.str nm,.tup cs,.int p])=((wB nm&&((Eh 1 4 (.tup cs)&&cs.all JL)&&ndB (cs.map IZ)))&&(decide ((1:Int)≤p)&&decide ((p:Int)≤cs.length))):=rfl
  rw [T,JR.mpr hW,g3,g5]
  have nd:ndB ((rot ws t2 q).map D.str)=true:=by
   unfold ndB
   rw [Af]
   exact HX.mpr (S6 (by omega) wd (by omega))
  rw [nd]
  simp only [Eh,Bool.and_true,BP,Ac,Af]
  omega
 ·simp only [okD,okL,g4,List.length_cons,List.length_nil,Bool.and_true,BP,Ac,Af]
  omega
 ·intro i hi hik hiF
  rw [AM (Ne.symm hiF),f4.keep i hik,g7 i hik (by omega),Ay (by omega),fr.keep i hik]
 ·rw [List.length_set]
  have:=f4.len
  simp only [As,List.length_cons,List.length_nil] at g8
  omega
theorem Nq {k n a b c:Nat}(ha:1≤a)(ha4:a≤4)(hb:1≤b)(hb4:b≤4)(hc:1≤c)(hc4:c≤4)(hfl:Flat mu)(h:HandOk mu k (n+60)):Run (DN [.ref k,.int a,.int b,.int c] mu) k n mu λd=>∃ ds,d=.tup ds∧Q9 d=true∧okD d=true:=by
 obtain ⟨_,m1,e1,f1,t1,rfl,a0,a1⟩:=Dr (m:=a) (n:=n+59) h (by omega) (by omega)
 obtain ⟨_,m2,e2,f2,nm,rfl,nl,nd,nW⟩:=IM (many:=1+t1) (n:=n+54) (by omega) (by omega) f1.hand
 obtain ⟨_,m3,e3,f3,ws,rfl,wl,wd,wW⟩:=IM (many:=(b:Int)+2) (n:=n+49) (by omega) (by omega) f2.hand
 obtain ⟨_,m4,e4,f4,st,rfl,sl,sd,sW⟩:=IM (many:=(c:Int)+1) (n:=n+44) (by omega) (by omega) f3.hand
 have fr:=((f1.trans f2).trans f3).trans f4
 have l4:=fr.len
 obtain ⟨us,ue,up⟩:=KG (Dg (nm.map D.str))
 have ul:=up.length_eq
 have ud:us.Nodup:=up.nodup_iff.mpr nd
 have hkl:=f4.hand.lt
 have key:=EW (m0:=m4++[MO.lst []]) (tg:=gNm 8) (body:=OZ) (λi ro m=>(∃ y8 y9 y10 y11 y12 y13 y14 y15,ro=[some (.ref k),some (.int a),some (.int b),some (.int c),some (.lst (us.map D.str)),some (.lst (ws.map D.str)),some (.lst (st.map D.str)),some (.ref m4.length),y8,y9,y10,y11,y12,y13,y14,y15]) ∧
   (∃ ts:List D,m[m4.length]? = some (.lst ts)∧ts.length=i∧ts.all J3=true∧okL ts=true∧ts.map IZ=(us.take i).map D.str)∧i≤us.length∧HandOk m k (n+11*(us.length-i))∧(∀ j,j<m4.length->j≠k->m[j]? = m4[j]?)∧m4.length<m.length) (us.map D.str) 0
   [some (.ref k),some (.int a),some (.int b),some (.int c),some (.lst (us.map D.str)),some (.lst (ws.map D.str)),some (.lst (st.map D.str)),some (.ref m4.length),none,none,none,none,none,none,none,none] (m4++[MO.lst []])
   ⟨⟨_,_,_,_,_,_,_,_,rfl⟩,⟨[],by simp,rfl,rfl,rfl,by simp⟩,AW _,f4.hand.app.mono (by omega),λj hj _=>Ay hj,by simp⟩ λj d ro m ed hi=>by
  obtain ⟨⟨y8,y9,y10,y11,y12,y13,y14,y15,rfl⟩,⟨ts,hF,tl,ta,to,tn⟩,hle,hh,hkeep,hlen⟩:=hi
  rw [Ap] at ed
  cases q:us[j]? with
  | none=>rw [q] at ed;cases ed
  | some x =>
   rw [q] at ed
   have ed':D.str x=d:=by simpa using ed
   subst ed'
   obtain ⟨hj,ex⟩:=Ae.mp q
   have hxm:x∈nm:=up.mem_iff.mp (by rw [← ex];exact BG hj)
   obtain ⟨z9,z10,z11,z12,z13,z14,z15,m',cs,p,g1,g2,g3,g4,g5,g6,g7⟩:=QU (n:=n+11*(us.length-(0+j+1))) (a:=.int a) (b:=b) (c:=c) (nms:=.lst (us.map D.str)) (nm:=x) (x9:=y9) (x10:=y10) (x11:=y11) (x12:=y12) (x13:=y13) (x14:=y14) (x15:=y15) (ws:=ws) (st:=st) hb hb4 hc hc4 (by omega) wd wW (by omega) sd sW (nW x hxm) hF (by omega) (by omega) (hh.mono (by omega))
   refine ⟨_,m,_,m',rfl,g1,⟨_,_,_,_,_,_,_,_,rfl⟩,⟨_,g2,by simp [tl],?_,?_,?_⟩,by omega,g5,λi hi hik=>?_,by omega⟩
   ·rw [List.all_append,ta,List.all_cons,g3]
    rfl
   ·rw [LN] at to ⊢
    intro d hd
    rcases AH.mp hd with hd|hd
    ·exact to d hd
    ·rw [Ao.mp hd]
     exact g4
   ·rw [Bd,tn]
    have:=List.take_add_one (l:=us) (i:=0+j)
    rw [this,BE,q,Bd]
    rfl
   ·rw [g6 i (by omega) hik (by omega),hkeep i hi hik]
 obtain ⟨ro',m5,e5,⟨_,_,_,_,_,_,_,_,rfl⟩,⟨ts,b1,b2,b3,b4,b5⟩,_,b6,b7,b8⟩:=key
 rw [Ah,BE] at b2 b5 b6
 rw [List.take_length] at b5
 have okT:okD (.tup ts)=true:=by
  simp only [okD,b4,Bool.and_true,Af]
  omega
 have f5:Fr k n mu (m5.take mu.length):=by
  refine ⟨?_,λj hj=>?_,by rw [AG];omega⟩
  ·obtain ⟨x,y,z,q,r1,r2,r3⟩:=b6
   exact ⟨x,y,z,by rw [Bg (by omega)];exact q,r1,r2,by omega⟩
  ·by_cases hj':j<mu.length
   ·rw [Bg hj',b7 j (by omega) hj,fr.keep j hj]
   ·rw [List.getElem?_eq_none (by rw [AG];omega),List.getElem?_eq_none (by omega)]
 refine ⟨.tup ts,m5.take mu.length,?_,f5,ts,rfl,?_,okT⟩
 ·have s64:nm.length<64:=by omega
  unfold OZ KQ at e5
  simp_arith only [DN,Gg,e1,e2,Vh s64,ue,e3,e4,e5,Oa b1]
  exact OE (Rf okT) (f5.flat hfl)
 ·have W:Q9 (.tup ts)=((Eh 1 4 (.tup ts)&&ts.all J3)&&HI (ts.map IZ)):=rfl
  have rs:HI (us.map D.str)=true:=by
   have r:=UM us
   rw [Jn (HX.mpr ud)] at r
   rw [← r,Af]
   rw [← ue]
   exact (K9 (λd hd=>by
    obtain ⟨x,_,rfl⟩:=Ar.mp hd
    rfl) (Dg (nm.map D.str))).symm
  rw [W,b3,b5,rs]
  simp only [Eh,Bool.and_true,Ac,Af]
  omega
end PG
namespace PV
open PySem L2 PyProof.Rows K1
variable {mu:Sto}
theorem Rm {m0:Sto}{tg:Gx}{el:Ex}{ro:Ro}(Inv:Nat->Sto->Prop)(P:Nat->D->Prop):∀ (ds:List D) (i:Nat) (mu:Sto),Inv i mu->(∀ j d mu,ds[j]? = some d->Inv (i+j) mu->∃ ro1 y m1,tg d ro mu=some (ro1,mu)∧el ro1 mu=some (y,m1)∧P (i+j) y∧Inv (i+j+1) m1) ->
  ∃ ys mu',Gf none m0 tg tY el ro ds mu=some (ys,mu')∧Inv (i+ds.length) mu'∧ys.length=ds.length∧∀ j y,ys[j]? = some y->P (i+j) y
 | [],i,mu,h,_=>⟨[],mu,rfl,h,rfl,λj y e=>by simp at e⟩
 | d::ds,i,mu,h,st=>by
  obtain ⟨ro1,y,m1,e1,e2,p,h2⟩:=st 0 d mu rfl h
  obtain ⟨ys,mu',e3,h3,h4,h5⟩:=Rm (m0:=m0) (tg:=tg) (el:=el) (ro:=ro) Inv P ds (i+1) m1 h2 λj d' mu ed hi=>by
   have:=st (j+1) d' mu (by simpa using ed) (by rw [show i+(j+1)=i+1+j by omega];exact hi)
   rw [show i+(j+1)+1=i+1+j+1 by omega,show i+(j+1)=i+1+j by omega] at this
   exact this
  refine ⟨y::ys,mu',?_,by rw [List.length_cons,show i+(ds.length+1)=i+1+ds.length by omega];exact h3,by simp [h4],λj z e=>?_⟩
  ·unfold Gf
   rw [e1,CL]
   simp only [Yj,QN,if_true]
   rw [e2,CL,DY,if_pos (show gOk none m0 m1 from True.intro),e3]
   rfl
  ·cases j with
   | zero=>cases e;exact p
   | succ j=>have:=h5 j z (by simpa using e);rw [show i+(j+1)=i+1+j by omega];exact this
theorem AaC {d e:D}(hd:D7 d=true)(he:D7 e=true):eqB mu d e=some (decide (d=e)):=by
 have a:=DU hd
 have b:=DU he
 have sd:seen mu d=d:=by cases d<;>first|rfl|(simp [D7,hsh] at hd)
 have se:seen mu e=e:=by cases e<;>first|rfl|(simp [D7,hsh] at he)
 unfold eqB
 rw [sd,se,FV a.1,FV b.1,if_pos,GA a.1 b.1]
 rw [HC a.1,HC b.1]
 simp only [BP,Af]
 omega
theorem YY {d e:D}(hd:D7 d=true)(he:D7 e=true):eqD d e mu=some (.bl (decide (d=e)),mu):=by unfold eqD;rw [AaC hd he];rfl
theorem Pl (ss:List Str):Ib (ss.map D.str)≤1:=by
 rw [← Ly (M5 ss)]
 exact Ie ss
theorem Qf (ss:List Str):D7 (.tup (ss.map D.str))=true:=by
 unfold D7
 rw [Ac,Af]
 refine ⟨by unfold hsh;exact M5 ss,?_⟩
 have:=Pl ss
 unfold dpt
 omega
end PV
namespace PG
open PySem L2 PV PyProof.Rows K1
variable {mu:Sto}
structure Tb where
 nm:Str
 cs:List (Str×List Str)
 ks:Nat
noncomputable def clD (p:Str×List Str):D:=.tup [.str p.1,.tup (p.2.map D.str)]
noncomputable def tbD (t:Tb):D:=.tup [.str t.nm,.tup (t.cs.map clD),.int t.ks]
structure Je (t:Tb):Prop where
 c1:1≤t.cs.length
 c4:t.cs.length≤4
 k1:1≤t.ks
 k4:t.ks≤t.cs.length
 vs:∀ p∈t.cs,p.2≠[]∧p.2.length≤4
theorem PQ {d:D}(h:GO d=true):∃ ss:List Str,d=.tup (ss.map D.str)∧ss≠[]∧ss.length≤4:=by
 unfold GO at h
 rw [Ac,Ac] at h
 cases d with
 | tup ds =>
  obtain ⟨ss,rfl,_⟩:=Pu (show ds.all Hm=true from h.2.1)
  have:=h.1
  simp only [Eh,Ah,Ac,Af] at this
  exact ⟨ss,rfl,λe=>by rw [e] at this;simp at this,by omega⟩
 | _=>simp [Eh] at h
theorem Uh {d:D}(h:JL d=true):∃ p:Str×List Str,d=clD p∧p.2≠[]∧p.2.length≤4:=by
 unfold JL at h
 split at h
 ·rename_i a b
  rw [Ac] at h
  obtain ⟨ss,rfl,h1,h2⟩:=PQ h.2
  cases a with
  | str x=>exact ⟨(x,ss),rfl,h1,h2⟩
  | _=>simp [Hm] at h
 ·cases h
theorem Tg {ds:List D}(h:ds.all JL=true):∃ cs:List (Str×List Str),ds=cs.map clD∧∀ p∈cs,p.2≠[]∧p.2.length≤4:=by
 induction ds with
 | nil=>exact ⟨[],rfl,λ_ h=>nomatch h⟩
 | cons d ds ih =>
  rw [List.all_cons,Ac] at h
  obtain ⟨cs,rfl,hc⟩:=ih h.2
  obtain ⟨p,rfl,h1⟩:=Uh h.1
  refine ⟨p::cs,rfl,λq hq=>?_⟩
  rcases An.mp hq with rfl|hq
  ·exact h1
  ·exact hc q hq
theorem UC {d:D}(h:J3 d=true):∃ t,d=tbD t∧Je t:=by
 unfold J3 at h
 split at h
 ·rename_i n c k
  rw [Ac,Ac] at h
  obtain ⟨⟨h1,h2⟩,h3⟩:=h
  cases n with
  | str x =>
   cases c with
   | tup ds =>
    have h2':((Eh 1 4 (.tup ds)&&ds.all JL)&&ndB (ds.map IZ))=true:=h2
    rw [Ac,Ac] at h2'
    obtain ⟨cs,rfl,hv⟩:=Tg h2'.1.2
    have hl:=h2'.1.1
    simp only [Eh,Ah,Ac,Af] at hl
    cases k with
    | int i =>
     simp only [W3,Yx,Ah,Ac,Af] at h3
     refine ⟨⟨x,cs,i.toNat⟩,?_,⟨by show 1≤cs.length;omega,by show cs.length≤4;omega,by show 1≤i.toNat;omega,by show i.toNat≤cs.length;omega,hv⟩⟩
     unfold tbD
     rw [Int.toNat_of_nonneg (by omega)]
    | _=>simp [W3] at h3
   | _=>simp [Vz] at h2
  | _=>simp [Hm] at h1
 ·cases h
theorem Rb {ds:List D}(h:ds.all J3=true):∃ ts:List Tb,ds=ts.map tbD∧∀ t∈ts,Je t:=by
 induction ds with
 | nil=>exact ⟨[],rfl,λ_ h=>nomatch h⟩
 | cons d ds ih =>
  rw [List.all_cons,Ac] at h
  obtain ⟨ts,rfl,hc⟩:=ih h.2
  obtain ⟨t,rfl,h1⟩:=UC h.1
  refine ⟨t::ts,rfl,λq hq=>?_⟩
  rcases An.mp hq with rfl|hq
  ·exact h1
  ·exact hc q hq
structure SOk (ts:List Tb):Prop where
 l1:1≤ts.length
 l4:ts.length≤4
 ok:∀ t∈ts,Je t
 nd:(ts.map Tb.nm).Nodup
theorem U4 {d:D}(h:Q9 d=true):∃ ts,d=.tup (ts.map tbD)∧SOk ts:=by
 cases d with
 | tup ds =>
  have h':((Eh 1 4 (.tup ds)&&ds.all J3)&&HI (ds.map IZ))=true:=h
  rw [Ac,Ac] at h'
  obtain ⟨ts,rfl,ho⟩:=Rb h'.1.2
  have hl:=h'.1.1
  simp only [Eh,Ah,Ac,Af] at hl
  refine ⟨ts,rfl,by omega,by omega,ho,?_⟩
  have e:(ts.map tbD).map IZ=(ts.map Tb.nm).map D.str:=by
   rw [Bu,Bu]
   rfl
  have r:=h'.2
  rw [e,N8] at r
  exact Sg r
 | _=>simp [Q9] at h
structure RwOk (t:Tb) (r:List Str):Prop where
 len:r.length=t.cs.length
 at':∀ (i:Nat) x p,r[i]? = some x->t.cs[i]? = some p->x∈p.2
noncomputable def rwD (r:List Str):D:=.tup (r.map D.str)
theorem VH {ds:List D}(h:∀ (j:Nat) (d:D),ds[j]? = some d->∃ x,d=D.str x):∃ ss:List Str,ds=ss.map D.str:=by
 induction ds with
 | nil=>exact ⟨[],rfl⟩
 | cons d ds ih =>
  obtain ⟨x,rfl⟩:=h 0 d rfl
  obtain ⟨ss,rfl⟩:=ih λj d e=>h (j+1) d (by simpa using e)
  exact ⟨x::ss,rfl⟩
theorem Uo {k n:Nat}{t:Tb}(ht:Je t){m0:Sto}(h:HandOk mu k (n+4)):∃ r mu',Gf none m0 (gTp 2 (Co (gNm 0) (Co (gNm 1) CM))) tY (Cn Dd (Cg (Cj 2) (Cg (Cj 1) Cm))) [none,none,some (.ref k)] (t.cs.map clD) mu=some (r.map D.str,mu')∧Fr k n mu mu'∧RwOk t r:=by
 obtain ⟨ys,mu',e,fr,hl,hp⟩:=Rm (m0:=m0) (tg:=gTp 2 (Co (gNm 0) (Co (gNm 1) CM))) (el:=Cn Dd (Cg (Cj 2) (Cg (Cj 1) Cm))) (ro:=[none,none,some (.ref k)]) (λi m=>Fr k (n+4-i) mu m) (λi d=>∃ x,d=D.str x∧∀ p,t.cs[i]? = some p->x∈p.2) (t.cs.map clD) 0 mu (.refl h) λj d m ed fr=>by
  rw [Ap] at ed
  cases q:t.cs[j]? with
  | none=>rw [q] at ed;cases ed
  | some p =>
   rw [q] at ed
   have ed':clD p=d:=AB ed
   subst ed'
   have hj:=(Ae.mp q).1
   have hm:p∈t.cs:=Am q
   have c4:=ht.c4
   obtain ⟨y,m1,e1,f1,hy⟩:=pick_run (s:=.tup (p.2.map D.str)) (n:=n+4-(0+j+1)) (.inr rfl) (by simpa using (ht.vs p hm).1) (by rw [Ah];have:=(ht.vs p hm).2;omega) (fr.hand.mono (by omega))
   obtain ⟨x,hx,rfl⟩:=Ar.mp hy
   refine ⟨_,.str x,m1,rfl,?_,⟨x,rfl,λp' hp'=>?_⟩,fr.trans f1⟩
   ·simp_arith only [clD,e1]
   ·rw [BE,q] at hp'
    cases hp'
    exact hx
 obtain ⟨r,rfl⟩:=VH λj d ed=>by
  obtain ⟨x,hx,_⟩:=hp j d ed
  exact ⟨x,hx⟩
 refine ⟨r,mu',e,fr.mono ?_,⟨by simpa using hl,λi x p hx hpp=>?_⟩⟩
 ·rw [Ah]
  have:=ht.c4
  omega
 ·obtain ⟨y,ey,h2⟩:=hp i (.str x) (by rw [Ap,hx];rfl)
  cases ey
  exact h2 p (by rw [BE];exact hpp)
theorem IB {α:Type}{xs:List α}{j:Nat}(h:j≤xs.length):PV.cutD xs none (some (j:Int))=xs.take j:=by
 unfold PV.cutD
 rw [HT.Jz,HT.Lh]
 simp [Nat.min_eq_left h]
theorem M7 {α:Type}{xs:List α}{j:Nat}(h:j≤xs.length):PV.cutD xs (some (j:Int)) none=xs.drop j:=by
 unfold PV.cutD
 rw [HT.Jz,HT.Lh]
 rw [Nat.min_eq_left h]
 apply List.take_of_length_le
 simp
end PG
namespace PV
open PySem L2 PyProof.Rows K1
variable {mu:Sto}
theorem MT (k v:D):∀ ks ds:List D,(HU k v ks ds).length=ds.length
 | [],_=>rfl
 | _::_,[]=>rfl
 | _::ks,_::ds=>by rw [HU,List.length_cons,List.length_cons,MT k v ks ds]
theorem Mn (k v:D):∀ ks ds:List D,∀ d∈HU k v ks ds,d∈ds∨d=v
 | [],_,d,h=>.inl h
 | _::_,[],d,h=>.inl h
 | k'::ks,e::ds,d,h=>by
  rw [HU] at h
  rcases An.mp h with h|h
  ·split at h
   ·exact .inr h
   ·exact .inl (by rw [h];exact .head _)
  ·rcases Mn k v ks ds d h with h|h
   ·exact .inl (.tail _ h)
   ·exact .inr h
structure DictOk (ks ds:List D) (n:Nat):Prop where
 len:ks.length≤n
 eq:ds.length=ks.length
 nd:ks.Nodup
theorem DictOk.put {ks ds:List D}{n:Nat}(h:DictOk ks ds n)(k v:D):DictOk (DX k v ks ds).1 (DX k v ks ds).2 (n+1)∧(∀ d∈(DX k v ks ds).2,d∈ds∨d=v)∧∀ d∈(DX k v ks ds).1,d∈ks∨d=k:=by
 unfold DX
 by_cases c:k∈ks
 ·rw [if_pos c]
  exact ⟨⟨by have:=h.len;show ks.length≤n+1;omega,by rw [MT];exact h.eq,h.nd⟩,Mn k v ks ds,λd hd=>.inl hd⟩
 ·rw [if_neg c]
  refine ⟨⟨by have:=h.len;simp;omega,by simp [h.eq],?_⟩,λd hd=>?_,λd hd=>?_⟩
  ·rw [BY]
   exact ⟨h.nd,by simp,λa ha b hb e=>by rw [Ao.mp hb] at e;rw [e] at ha;exact c ha⟩
  ·rcases AH.mp hd with hd|hd
   ·exact .inl hd
   ·exact .inr (Ao.mp hd)
  ·rcases AH.mp hd with hd|hd
   ·exact .inl hd
   ·exact .inr (Ao.mp hd)
theorem VZ {k:Nat}{ks ds:List D}{e v:D}(h:mu[k]? = some (.dct ks ds))(he:D7 e=true)(hl:ks.length<sizeLine):putG (.ref k) e v mu=some ((),mu.set k (.dct (DX e v ks ds).1 (DX e v ks ds).2)):=by
 simp only [putG,h,he,hl,and_self,if_true]
theorem Mb:∀ xs ys:List Str,(Gw (xs.map D.str) (ys.map D.str)).isSome=true
 | [],[]=>rfl
 | [],_::_=>rfl
 | _::_,[]=>rfl
 | x::xs,y::ys=>by
  have ih:=Mb xs ys
  rw [A1,A1,Gw]
  simp only [CU,Bool.and_self,if_true]
  split
  ·exact ih
  ·rfl
theorem JY (ss:List Str):GK (ss.map D.str)=true:=by
 induction ss with
 | nil=>rfl
 | cons x xs ih=>simp [GK,FC,ih]
end PV
namespace PG
open PySem L2 PV PyProof.Rows K1
variable {mu:Sto}
theorem LA {rs:List (List Str)}(h64:rs.length<64)(hne:∀ r∈rs,r≠[]):DM (rs.map rwD)=true:=by
 unfold DM
 simp only [Ac,Af,Ah,Aw,Bool.or_eq_true,J1]
 refine ⟨⟨⟨h64,λd hd=>?_⟩,λd hd e he=>?_⟩,.inr λd hd=>?_⟩
 ·obtain ⟨r,_,rfl⟩:=Ar.mp hd
  unfold rwD FC
  exact JY r
 ·obtain ⟨r,_,rfl⟩:=Ar.mp hd
  obtain ⟨q,_,rfl⟩:=Ar.mp he
  unfold rwD ltB
  exact Mb r q
 ·obtain ⟨r,hr,rfl⟩:=Ar.mp hd
  cases r with
  | nil=>exact (hne _ hr rfl).elim
  | cons x xs =>
   have d1:=Ie xs
   simp only [rwD,A1,tupS,KL,BP,Af]
   omega
theorem OM {t:Tb}{ds:List D}(h:∀ d∈ds,∃ r,d=rwD r∧RwOk t r):∃ rs:List (List Str),ds=rs.map rwD∧∀ r∈rs,RwOk t r:=by
 induction ds with
 | nil=>exact ⟨[],rfl,λ_ h=>nomatch h⟩
 | cons d ds ih =>
  obtain ⟨r,rfl,hr⟩:=h d (.head _)
  obtain ⟨rs,rfl,hs⟩:=ih λd hd=>h d (.tail _ hd)
  refine ⟨r::rs,rfl,λq hq=>?_⟩
  rcases An.mp hq with rfl|hq
  ·exact hr
  ·exact hs q hq
theorem RwOk.ne {t:Tb}{r:List Str}(ht:Je t)(h:RwOk t r):r≠[]:=λe=>by
 have:=h.len
 rw [e] at this
 have:=ht.c1
 simp at *
 omega
noncomputable def tkD (n:Nat):D->D
 | .tup ds=>.tup (ds.take n)
 | d=>d
theorem Nf (n:Nat)(v:D):∀ ds:List D,(HU (tkD n v) v (ds.map (tkD n)) ds).map (tkD n)=ds.map (tkD n)
 | []=>rfl
 | d::ds=>by
  rw [A1,HU,A1,Nf n v ds]
  split
  ·rename_i h
   rw [h]
  ·rfl
theorem RX {n:Nat}{v:D}{ks ds:List D}(h:ks=ds.map (tkD n)):(DX (tkD n v) v ks ds).1=(DX (tkD n v) v ks ds).2.map (tkD n):=by
 subst h
 unfold DX
 split
 ·exact (Nf n v ds).symm
 ·simp
structure ZD (t:Tb) (rs:List (List Str)):Prop where
 len:rs.length≤16
 ok:∀ r∈rs,RwOk t r
 nd:((rs.map rwD).map (tkD t.ks)).Nodup
structure U2 (t:Tb) (rs:List (List Str)):Prop extends ZD t rs where
 up:(rs.map rwD).Pairwise λa b=>ltT a b=true
noncomputable def flD (rs:List (List Str)):D:=.tup (rs.map rwD)
noncomputable def Mu:Sx:=(CJ (Di (Cn FR (Cg (eLC (Et (Cj 5)) 2 [0] (gTp 2 (Co (gNm 0) (Co (gNm 1) CM))) (tY) (Cn Dd (Cg (Cj 2) (Cg (Cj 1) Cm)))) Cm)) (gNm 9)) (Di (Cj 9) (gIx (Cj 7) (eSl (Cj 9) (pNo) (DD (Cj 6))))))
theorem QE {k n Dk c w:Nat}{t:Tb}(ht:Je t){sc fnd:D}{x4 x8 x9:Option D}(hc:c≤16)(hD:mu[Dk]? = some (.dct [] []))(hkD:Dk≠k)(h:HandOk mu k (n+4*c)){m0:Sto} :
  ∃ y8 y9 m' ks rs,D2 none m0 (gNm 8) Mu (EI 0 c) [some (.ref k),some sc,some (.int w),some fnd,x4,some (.tup (t.cs.map clD)),some (.int t.ks),some (.ref Dk),x8,x9] mu=some ((.nx,[some (.ref k),some sc,some (.int w),some fnd,x4,some (.tup (t.cs.map clD)),some (.int t.ks),some (.ref Dk),y8,y9]),m') ∧
   m'[Dk]? = some (.dct ks (rs.map rwD))∧ZD t rs∧HandOk m' k n∧(∀ j,j≠k->j≠Dk->m'[j]? = mu[j]?)∧m'.length=mu.length:=by
 obtain ⟨ro',m',e,⟨y8,y9,rfl⟩,⟨ks,ds,a1,a2,a3,ak⟩,a4,a5,a6⟩:=EW (m0:=m0) (tg:=gNm 8) (body:=Mu) (λi ro m=>(∃ y8 y9,ro=[some (.ref k),some sc,some (.int w),some fnd,x4,some (.tup (t.cs.map clD)),some (.int t.ks),some (.ref Dk),y8,y9])∧(∃ ks ds,m[Dk]? = some (.dct ks ds)∧DictOk ks ds i∧(∀ d∈ds,∃ r,d=rwD r∧RwOk t r)∧ks=ds.map (tkD t.ks))∧HandOk m k (n+4*(c-i))∧(∀ j,j≠k->j≠Dk->m[j]? = mu[j]?)∧m.length=mu.length) (EI 0 c) 0 _ mu ⟨⟨x8,x9,rfl⟩,⟨[],[],hD,⟨Ag _,rfl,List.nodup_nil⟩,λ_ h=>(nomatch h),rfl⟩,h,λ_ _ _=>rfl,rfl⟩ λj d ro m ed hi=>by
   obtain ⟨⟨y8,y9,rfl⟩,⟨ks,ds,a1,a2,a3,ak⟩,hh,hk,hl⟩:=hi
   obtain ⟨rfl,hj⟩:=LU ed
   obtain ⟨r,m1,e1,f1,hr⟩:=Uo (n:=n+4*(c-(0+j+1))) ht (m0:=m) (hh.mono (by omega))
   have a1':m1[Dk]? = some (.dct ks ds):=(f1.keep Dk hkD).trans a1
   have kl:t.ks≤(r.map D.str).length:=by rw [Ah,hr.len];exact ht.k4
   have ct:=IB kl
   have hK:D7 (.tup ((r.map D.str).take t.ks))=true:=by rw [← List.map_take];exact Qf _
   obtain ⟨p1,p2,_⟩:=a2.put (.tup ((r.map D.str).take t.ks)) (rwD r)
   have z:=VZ (v:=rwD r) a1' hK (by have:=a2.len;rw [AS];omega)
   refine ⟨_,m,_,_,rfl,?_,⟨some (.int j),some (rwD r),rfl⟩,⟨_,_,F6 a1',by rw [show 0+j+1=0+j+1 from rfl];exact p1,λd hd=>?_,RX (v:=rwD r) ak⟩,(f1.hand.mono (by omega)).set hkD,λi hik hiD=>?_,?_⟩
   ·unfold Mu
    have rw':rwD r=.tup (r.map D.str):=rfl
    rw [rw'] at z
    simp_arith only [e1,SO,ct,z]
    rfl
   ·rcases p2 d hd with hd|rfl
    ·exact a3 d hd
    ·exact ⟨r,rfl,hr⟩
   ·rw [AM hiD.symm,f1.keep i hik,hk i hik hiD]
   ·rw [List.length_set,f1.len,hl]
 rw [LL] at a2 a4
 obtain ⟨rs,rfl,hr⟩:=OM a3
 refine ⟨y8,y9,m',ks,rs,e,a1,⟨?_,hr,ak▸a2.nd⟩,a4.mono (by omega),a5,a6⟩
 have:=a2.eq
 have:=a2.len
 simp at *
 omega
end PG
namespace PV
open PySem L2 PyProof.Rows K1
variable {mu:Sto}
theorem Zp (a b c:D)(h1:ltT a b=true)(h2:ltT b c=true):ltT a c=true:=by
 cases e:ltT a c with
 | true=>rfl
 | false =>
  have:=Nv b c a (HQ b c h2) e
  rw [this] at h1
  cases h1
noncomputable def HJ (ds:List D):Bool:=(ds.zip ds.tail).all λp=>ltT p.1 p.2
theorem Ig:∀ (ds:List D),HJ ds=true ↔ ds.Pairwise λa b=>ltT a b=true
 | []=>by simp [HJ]
 | [x]=>by simp [HJ]
 | x::y::ds=>by
  have ih:=Ig (y::ds)
  have e:HJ (x::y::ds)=(ltT x y&&HJ (y::ds)):=rfl
  rw [e,Ac,ih]
  constructor
  ·intro ⟨h1,h2⟩
   refine BF.mpr ⟨λz hz=>?_,h2⟩
   rcases An.mp hz with rfl|hz
   ·exact h1
   ·exact Zp _ _ _ h1 ((BF.mp h2).1 z hz)
  ·exact λh=>⟨(BF.mp h).1 y (by simp),(BF.mp h).2⟩
theorem VB {ds:List D}(h:ds.Pairwise λa b=>ltT a b=true):ds.Nodup:=by
 rw [AF]
 exact h.imp λ{a b} l e=>by subst e;have:=HQ a a l;rw [l] at this;cases this
theorem QI {ds:List D}(ho:∀ d∈ds,FC d=true):decide (ds=Ee (DB ds))=HJ ds:=by
 rw [B0,Af,Ig]
 constructor
 ·intro h
  have p:=Dg (DB ds)
  rw [← h] at p
  have nd:=J5.mp p.length_eq.symm
  have up:=HY (DB ds)
  rw [← h] at up
  have ne:=AF.mp nd
  refine BB (λ{a b} ha hb ⟨l,n⟩=>?_) (up.and ne)
  cases c:ltT a b with
  | true=>rfl
  | false =>
   unfold leT at l
   exact (n (lt_eq a b (ho a ha) (ho b hb) c (by simpa using l))).elim
 ·intro h
  rw [Jn (VB h)]
  refine HK ho (BN _) (h.imp λ{a b} l=>?_)
  unfold leT
  rw [HQ a b l]
  rfl
theorem Xb {ds:List D}(ho:∀ d∈ds,FC d=true)(nd:ds.Nodup):(Ee ds).Pairwise λa b=>ltT a b=true:=by
 have p:=Dg ds
 have up:=HY ds
 have ne:=AF.mp (p.nodup_iff.mpr nd)
 refine BB (λ{a b} ha hb ⟨l,n⟩=>?_) (up.and ne)
 cases c:ltT a b with
 | true=>rfl
 | false =>
  unfold leT at l
  exact (n (lt_eq a b (ho a (p.mem_iff.mp ha)) (ho b (p.mem_iff.mp hb)) c (by simpa using l))).elim
theorem Sw {ks:List D}(ok:DM ks=true){d e:D}(hd:d∈ks)(he:e∈ks)(l:(toPy d).depth≤60):ltG d e mu=some (.bl (ltT d e),mu):=by
 have ho:=G6 ok
 unfold DM J1 at ok
 rw [Ac,Ac,Ac] at ok
 have:=Aw.mp (Aw.mp ok.1.2 d hd) e he
 obtain ⟨r,hr⟩:=Option.isSome_iff_exists.mp this
 unfold ltG
 rw [if_pos l,hr,R0 d e r (ho d hd) (ho e he) hr]
 rfl
theorem Pn {α β:Type}{f:α->β}{l:List α}(h:(l.map f).Nodup):l.Nodup:=by
 rw [AF] at h ⊢
 exact (A8.mp h).imp λh e=>h (congrArg f e)
end PV
namespace PG
open PySem L2 PV PyProof.Rows K1
variable {mu:Sto}
noncomputable def fBody:Sx:=(CJ (Di Om (gNm 7)) (CJ (FO (iRg (Cg (Cn Ct (Cg (Cj 0) (Cg (Cq CT (Cj 2) (eC (.int 1))) Cm))) Cm)) (gNm 8) Mu) (sEx (LH (Cj 3) (Cg (Cn FR (Cg (KR (Cj 7)) Cm)) Cm)))))
theorem XF {k:Nat}{ks ds:List D}{e:Ex}{ro:Ro}{m1:Sto}(he:e ro mu=some (.ref k,m1))(h:m1[k]? = some (.dct ks ds))(ok:DM ds=true):KR e ro mu=some (.lst (Ee ds),m1):=by
 unfold KR
 rw [he]
 simp only [QN,EA,h,ok,if_true]
theorem UQ {k n F w:Nat}(hw:w≤16){t:Tb}(ht:Je t){sc:D}{fs:List D}{x7 x8 x9:Option D}(hF:mu[F]? = some (.lst fs))(hfs:fs.length≤100)(hkF:F≠k)(h:HandOk mu k (n+70)) :
  ∃ y7 y8 y9 m' rs,fBody [some (.ref k),some sc,some (.int w),some (.ref F),some (.str t.nm),some (.tup (t.cs.map clD)),some (.int t.ks),x7,x8,x9] mu=some ((.nx,[some (.ref k),some sc,some (.int w),some (.ref F),some (.str t.nm),some (.tup (t.cs.map clD)),some (.int t.ks),y7,y8,y9]),m') ∧
   m'[F]? = some (.lst (fs++[flD rs]))∧U2 t rs∧HandOk m' k n∧(∀ j,j<mu.length->j≠k->j≠F->m'[j]? = mu[j]?)∧mu.length≤m'.length:=by
 have hFl:F<mu.length:=(Ae.mp hF).1
 have hkl:=h.lt
 have h0:HandOk (mu++[MO.dct [] []]) k (n+70):=h.app
 obtain ⟨_,m1,e1,f1,t1,rfl,a0,a1⟩:=Dr (m:=w+1) (n:=n+69) h0 (by omega) (by omega)
 obtain ⟨c,rfl⟩:∃ c:Nat,t1=(c:Int):=⟨t1.toNat,by omega⟩
 have w1:(w:Int)+1=((w+1:Nat):Int):=by omega
 have l1:=f1.len
 simp only [As,List.length_cons,List.length_nil] at l1
 have hD:m1[mu.length]? = some (.dct [] []):=by
  rw [f1.keep _ (by omega)]
  simp
 obtain ⟨y8,y9,m2,ks,rs,e2,g1,g2,g3,g4,g5⟩:=QE (mu:=m1) (k:=k) (n:=n) (Dk:=mu.length) (c:=c) (w:=w) (t:=t) ht (sc:=sc) (fnd:=.ref F) (x4:=some (.str t.nm)) (x8:=x8) (x9:=x9) (by omega) hD (by omega) (f1.hand.mono (by omega)) (m0:=m1)
 have F2:m2[F]? = some (.lst fs):=by
  rw [g4 F hkF (by omega),f1.keep F hkF,Ay hFl,hF]
 have ok:=LA (rs:=rs) (by have:=g2.len;omega) λr hr=>(g2.ok r hr).ne ht
 obtain ⟨rs',er,hr'⟩:=OM (t:=t) (ds:=Ee (rs.map rwD)) λd hd=>by
  obtain ⟨r,hr,rfl⟩:=Ar.mp ((Dg _).mem_iff.mp hd)
  exact ⟨r,rfl,g2.ok r hr⟩
 have ll:rs'.length≤16:=by
  have:=congrArg List.length er
  rw [(Dg _).length_eq,Ah,Ah] at this
  have:=g2.len
  omega
 have nd':((rs'.map rwD).map (tkD t.ks)).Nodup:=by
  rw [← er]
  exact ((Dg _).map _).nodup_iff.mpr g2.nd
 have up':(rs'.map rwD).Pairwise λa b=>ltT a b=true:=by
  rw [← er]
  exact Xb (G6 ok) (Pn g2.nd)
 have ap:=append_at (ro:=[some (.ref k),some sc,some (.int w),some (.ref F),some (.str t.nm),some (.tup (t.cs.map clD)),some (.int t.ks),some (.ref mu.length),y8,y9]) (i:=3) F2 F2 (y:=flD rs') (by rw [AS];omega) rfl (e:=(Cn FR (Cg (KR (Cj 7)) Cm))) (by
  have z:=XF (mu:=m2) (e:=Cj 7) (ro:=[some (.ref k),some sc,some (.int w),some (.ref F),some (.str t.nm),some (.tup (t.cs.map clD)),some (.int t.ks),some (.ref mu.length),y8,y9]) rfl g1 ok
  rw [er] at z
  simp_arith only [z]
  rfl)
 have rg:=Qo (mu:=mu++[MO.dct [] []]) (ro:=[some (.ref k),some sc,some (.int w),some (.ref F),some (.str t.nm),some (.tup (t.cs.map clD)),some (.int t.ks),some (.ref mu.length),x8,x9]) (r:=(Cg (Cn Ct (Cg (Cj 0) (Cg (Cq CT (Cj 2) (eC (.int 1))) Cm))) Cm)) (n:=c) (m:=m1) (by simp_arith only [e1]) (by omega) (by rw [AS];omega)
 rw [Int.toNat_natCast] at rg
 refine ⟨some (.ref mu.length),y8,y9,_,rs',?_,F6 F2,⟨⟨ll,hr',nd'⟩,up'⟩,g3.set hkF,λi hi hik hiF=>?_,?_⟩
 ·unfold fBody
  simp_arith only [rg,e2,ap]
 ·rw [AM hiF.symm,g4 i hik (by omega),f1.keep i hik,Ay hi]
 ·rw [List.length_set]
  omega
structure Hy (ts:List Tb) (gs:List (List (List Str))):Prop where
 len:gs.length=ts.length
 ok:∀ (j:Nat) rs t,gs[j]? = some rs->ts[j]? = some t->U2 t rs
theorem Sn (gs:List (List (List Str))):DK 0 (.tup (gs.map flD))=true:=by
 have hs:∀ ss:List Str,Fe 0 (ss.map D.str)=true:=λss=>by
  rw [Jh]
  intro d hd
  obtain ⟨x,_,rfl⟩:=Ar.mp hd
  rfl
 have hr:∀ rs:List (List Str),Fe 0 (rs.map rwD)=true:=λrs=>by
  rw [Jh]
  intro d hd
  obtain ⟨x,_,rfl⟩:=Ar.mp hd
  simpa [rwD,DK] using hs x
 simp only [DK]
 rw [Jh]
 intro d hd
 obtain ⟨x,_,rfl⟩:=Ar.mp hd
 simpa [flD,DK] using hr x
theorem Mt {k n w:Nat}(hw:w≤16){ts:List Tb}(hS:SOk ts)(hfl:Flat mu)(h:HandOk mu k (n+280)):Run (Dt [.ref k,.tup (ts.map tbD),.int w] mu) k n mu λd=>∃ gs,d=.tup (gs.map flD)∧Hy ts gs:=by
 have hkl:=h.lt
 have s4:=hS.l4
 obtain ⟨ro',m5,e5,⟨_,_,_,_,_,_,rfl⟩,⟨gs,b1,b2,b3⟩,b6,b7,b8⟩:=EW (m0:=mu++[MO.lst []]) (tg:=(gTp 3 (Co (gNm 4) (Co (gNm 5) (Co (gNm 6) CM))))) (body:=fBody) (λi ro m=>(∃ y4 y5 y6 y7 y8 y9,ro=[some (.ref k),some (.tup (ts.map tbD)),some (.int w),some (.ref mu.length),y4,y5,y6,y7,y8,y9]) ∧
   (∃ gs:List (List (List Str)),m[mu.length]? = some (.lst (gs.map flD))∧gs.length=i∧∀ (j:Nat) rs t,gs[j]? = some rs->ts[j]? = some t->U2 t rs)∧HandOk m k (n+70*(ts.length-i))∧(∀ j,j<mu.length->j≠k->m[j]? = mu[j]?)∧mu.length<m.length) (ts.map tbD) 0
   [some (.ref k),some (.tup (ts.map tbD)),some (.int w),some (.ref mu.length),none,none,none,none,none,none] (mu++[MO.lst []])
   ⟨⟨_,_,_,_,_,_,rfl⟩,⟨[],by simp,rfl,λj rs t e=>by simp at e⟩,(h.app).mono (by omega),λj hj _=>Ay hj,by simp⟩ λj d ro m ed hi=>by
  obtain ⟨⟨y4,y5,y6,y7,y8,y9,rfl⟩,⟨gs,hF,gl,gk⟩,hh,hkeep,hlen⟩:=hi
  rw [Ap] at ed
  cases q:ts[j]? with
  | none=>rw [q] at ed;cases ed
  | some t =>
   rw [q] at ed
   have ed':tbD t=d:=AB ed
   subst ed'
   have hj:=(Ae.mp q).1
   obtain ⟨z7,z8,z9,m',rs,g1,g2,g3,g4,g5,g6⟩:=UQ hw (n:=n+70*(ts.length-(0+j+1))) (hS.ok t (Am q)) (sc:=.tup (ts.map tbD)) (x7:=y7) (x8:=y8) (x9:=y9) hF (by rw [Ah];omega) (by omega) (hh.mono (by omega))
   refine ⟨[some (.ref k),some (.tup (ts.map tbD)),some (.int w),some (.ref mu.length),some (.str t.nm),some (.tup (t.cs.map clD)),some (.int t.ks),y7,y8,y9],m,_,m',rfl,g1,⟨_,_,_,_,_,_,rfl⟩,⟨gs++[rs],by rw [g2,Bd];rfl,by simp [gl],λi r t' hr ht'=>?_⟩,g4,λi hi hik=>?_,by omega⟩
   ·by_cases c:i<gs.length
    ·rw [Ay c] at hr
     exact gk i r t' hr ht'
    ·have hil:=(Ae.mp hr).1
     simp only [As,List.length_cons,List.length_nil] at hil
     have:i=gs.length:=by omega
     subst this
     rw [AU (Ag _),Nat.sub_self] at hr
     cases hr
     rw [gl,BE,q] at ht'
     cases ht'
     exact g3
   ·rw [g5 i (by omega) hik (by omega),hkeep i hi hik]
 rw [Ah,BE] at b2 b6
 have f5:Fr k n mu (m5.take mu.length):=by
  refine ⟨?_,λj hj=>?_,by rw [AG];omega⟩
  ·obtain ⟨x,y,z,q,r1,r2,r3⟩:=b6
   exact ⟨x,y,z,by rw [Bg (by omega)];exact q,r1,r2,by omega⟩
  ·by_cases hj':j<mu.length
   ·rw [Bg hj',b7 j hj' hj]
   ·rw [List.getElem?_eq_none (by rw [AG];omega),List.getElem?_eq_none (by omega)]
 refine ⟨.tup (gs.map flD),m5.take mu.length,?_,f5,gs,rfl,⟨b2,b3⟩⟩
 unfold fBody Mu at e5
 simp_arith only [Dt,FQ,e5,Oa b1]
 exact OE (Sn gs) (f5.flat hfl)
end PG
namespace PV
open PySem L2 PyProof.Rows K1
variable {mu:Sto}
theorem HD {xs ys:List D}(h:xs.length+ys.length≤sizeLine):CT (.tup xs) (.tup ys) mu=some (.tup (xs++ys),mu):=by
 simp only [CT,h,if_true]
theorem Si {ds:List D}:FA ds=true ↔ ∀ d∈ds,hsh d=true:=by
 induction ds with
 | nil=>simp [FA]
 | cons d ds ih=>simp [FA,ih]
theorem RH {n:Nat}{ds:List D}(h:∀ d∈ds,dpt d≤n):Ib ds≤n:=by
 induction ds with
 | nil=>simp [Ib]
 | cons d ds ih =>
  have a:=h d (.head _)
  have b:=ih λd hd=>h d (.tail _ hd)
  simp only [Ib]
  omega
noncomputable def Hn (n:Nat)(d:D):Prop:=hsh d=true∧dpt d≤n
theorem Hn.tup {n:Nat}{ds:List D}(h:∀ d∈ds,Hn n d):Hn (n+1) (.tup ds):=by
 refine ⟨by unfold hsh;exact Si.mpr λd hd=>(h d hd).1,?_⟩
 have:=RH λd hd=>(h d hd).2
 unfold dpt
 omega
theorem Hn.up {n m:Nat}{d:D}(h:Hn n d)(l:n≤m):Hn m d:=⟨h.1,AJ h.2 l⟩
theorem Hn.K {n:Nat}{d:D}(h:Hn n d)(l:n≤8):D7 d=true:=by
 unfold D7
 rw [h.1,BP,Af]
 exact AJ h.2 l
theorem Hn.str (x:Str):Hn 1 (.str x):=⟨rfl,by simp [dpt]⟩
theorem Hn.strs (ss:List Str):Hn 2 (.tup (ss.map D.str)):=Hn.tup λd hd=>by
 obtain ⟨x,_,rfl⟩:=Ar.mp hd
 exact .str x
theorem JV {m:Exs}{ro:Ro}{xs ys:List D}{m1:Sto}(h:m ro mu=some ([.tup xs,.tup ys],m1)):Hs m ro mu=some ((DE xs ys,none),m1):=by
 simp only [Hs,orI,iZp,W5,h,QN,R9,P4,Option.map_none,Option.map_some]
theorem Nb (x:Str)(ss:List Str):((CD (ss.map D.str)).any λy=>PyData.eqv y (toPy (.str x)))=decide (x∈ss):=by
 induction ss with
 | nil=>simp [CD]
 | cons y ys ih =>
  rw [A1,CD,List.any_cons,ih]
  simp only [toPy,PyData.eqv,An]
  by_cases c:x=y
  ·subst c;simp
  ·have:(y==x)=false:=by simpa using λe:y=x=>c e.symm
   simp [c,this]
theorem Ox {x:Str}{ss:List Str}{s:D}(hs:s=.tup (ss.map D.str)∨s=.lst (ss.map D.str)):inB mu (.str x) s=some (decide (x∈ss)):=by
 have p:=KL ss
 have d:=Ie ss
 rcases hs with rfl|rfl
 ·simp only [inB,seen,CU,p,Bool.and_self,BP]
  rw [if_pos (by rw [Af];omega),Nb]
 ·simp only [inB,seen,CU,p,Bool.and_self,BP]
  rw [if_pos (by rw [Af];omega),Nb]
theorem Yh {x:Str}{ss:List Str}:inG (.str x) (.tup (ss.map D.str)) mu=some (.bl (decide (x∈ss)),mu):=by simp only [inG,inD,Ox (.inl rfl),Option.map_some]
theorem Xp {x:Str}{ss:List Str}:Q6 (.str x) (.tup (ss.map D.str)) mu=some (.bl (!decide (x∈ss)),mu):=by simp only [Q6,UO,Ox (.inl rfl),Option.map_some]
mutual
noncomputable def okB (n:Nat):D->Bool
 | .ref _=>false
 | .set _=>false
 | .tup ds=>decide (ds.length≤n)&&Hh n ds
 | .lst ds=>Hh n ds
 | .dct ks ds=>Hh n ks&&Hh n ds
 | _=>true
noncomputable def Hh (n:Nat):List D->Bool
 | []=>true
 | d::ds=>okB n d&&Hh n ds
end
theorem GZ {n:Nat}{ds:List D}:Hh n ds=true ↔ ∀ d∈ds,okB n d=true:=by
 induction ds with
 | nil=>simp [Hh]
 | cons d ds ih=>simp [Hh,ih]
mutual
theorem HZ {n:Nat}:∀ {d:D},okB n d=true->DK 0 d=true
 | .non,_=>rfl
 | .bl _,_=>rfl
 | .int _,_=>rfl
 | .str _,_=>rfl
 | .ref k,e=>by simp [okB] at e
 | .set k,e=>by simp [okB] at e
 | .tup ds,e=>by
  simp only [okB,Ac] at e
  simp only [DK]
  exact G2 e.2
 | .lst ds,e=>by
  simp only [okB] at e
  simp only [DK]
  exact G2 e
 | .dct ks ds,e=>by
  simp only [okB,Ac] at e
  simp only [DK,Ac]
  exact ⟨G2 e.1,G2 e.2⟩
theorem G2 {n:Nat}:∀ {ds:List D},Hh n ds=true->Fe 0 ds=true
 | [],_=>rfl
 | d::ds,e=>by
  simp only [Hh,Ac] at e
  simp only [Fe,Ac]
  exact ⟨HZ e.1,G2 e.2⟩
end
mutual
theorem LQ {n m:Nat}(h:n≤m):∀ {d:D},okB n d=true->okB m d=true
 | .non,_=>rfl
 | .bl _,_=>rfl
 | .int _,_=>rfl
 | .str _,_=>rfl
 | .ref k,e=>by simp [okB] at e
 | .set k,e=>by simp [okB] at e
 | .tup ds,e=>by
  simp only [okB,Ac,Af] at e ⊢
  exact ⟨by omega,HV h e.2⟩
 | .lst ds,e=>by
  simp only [okB] at e ⊢
  exact HV h e
 | .dct ks ds,e=>by
  simp only [okB,Ac] at e ⊢
  exact ⟨HV h e.1,HV h e.2⟩
theorem HV {n m:Nat}(h:n≤m):∀ {ds:List D},Hh n ds=true->Hh m ds=true
 | [],_=>rfl
 | d::ds,e=>by
  simp only [Hh,Ac] at e ⊢
  exact ⟨LQ h e.1,HV h e.2⟩
end
theorem G8 {n:Nat}{ds:List D}(h:okB n (.tup ds)=true):∀ d∈ds,okB n d=true:=by
 simp only [okB,Ac] at h
 exact GZ.mp h.2
theorem QC (n:Nat)(ss:List Str):Hh n (ss.map D.str)=true:=by
 rw [GZ]
 intro d hd
 obtain ⟨x,_,rfl⟩:=Ar.mp hd
 rfl
noncomputable def Nl:D->Bool
 | .str _=>true
 | _=>false
theorem HM (d:D)(h:nR d=true):Gv "str" d mu=some (.bl (Nl d),mu):=by
 cases d<;>first|(cases h;done)|simp [Nl]
theorem Jm (d:D)(h:nR d=true):Gv "tuple" d mu=some (.bl (isT d),mu):=by
 cases d<;>first|(cases h;done)|simp [isT]
end PV
namespace PG
open PySem L2 PV PyProof.Rows K1
variable {mu:Sto}
theorem Hn.row (r:List Str):Hn 2 (rwD r):=Hn.strs r
noncomputable def EE (x:D)(vs:List Str):Bool:=match x with
 | .str y=>decide (y∈vs)
 | _=>false
noncomputable def DR (cs:List (Str×List Str))(d:D):Bool:=match d with
 | .tup ds=>decide (ds.length=cs.length)&&(ds.zip cs).all (λp=>EE p.1 p.2.2)
 | _=>false
theorem P5 {m0:Sto}{cs:List (Str×List Str)}{ds:List D}(h:∀ d∈ds,nR d=true):Gf none m0 (gTp 2 (Co (gNm 0) (Co (gTp 2 (Co (gNm 1) (Co (gNm 2) CM))) CM))) tY (eAn (Hg "str" (Cj 0)) (Cq inG (Cj 0) (Cj 2))) [none,none,none] (DE ds (cs.map clD)) mu=some (((ds.zip cs).map λp=>EE p.1 p.2.2).map D.bl,mu):=by
 have:=Oq (m0:=m0) (tg:=(gTp 2 (Co (gNm 0) (Co (gTp 2 (Co (gNm 1) (Co (gNm 2) CM))) CM)))) (el:=(eAn (Hg "str" (Cj 0)) (Cq inG (Cj 0) (Cj 2)))) (ro:=[none,none,none]) (mu:=mu) (λd=>match d with|.tup [x,.tup [_,.tup vs]]=>(match x with|.str y=>decide (D.str y∈vs)|_=>false)|_=>false) (DE ds (cs.map clD)) (λd hd=>by
  unfold DE at hd
  obtain ⟨p,hp,rfl⟩:=Ar.mp hd
  have h1:=h p.1 (Bw hp).1
  obtain ⟨q,_,e2⟩:=Ar.mp (Bw hp).2
  obtain ⟨x,y⟩:=p
  dsimp only at h1 e2 ⊢
  subst e2
  refine ⟨[some x,some (.str q.1),some (.tup (q.2.map D.str))],rfl,?_⟩
  simp only [clD]
  cases x with
  | str z =>
   have e:decide (D.str z∈q.2.map D.str)=decide (z∈q.2):=by
    rw [B0,Af,Af,Ar]
    exact ⟨λ⟨w,hw,e⟩=>by cases e;exact hw,λh=>⟨z,h,rfl⟩⟩
   simp_arith only [HM _ h1,Nl,Yh,e]
  | _=>simp_arith only [HM _ h1,Nl])
 rw [this]
 congr 2
 unfold DE
 rw [List.zip_map_right]
 simp only [Bu]
 refine List.map_congr_left λp _=>?_
 obtain ⟨x,q⟩:=p
 simp only [Function.comp,Prod.map,clD,id,EE]
 congr 1
 cases x with
 | str z =>
  simp only []
  rw [B0,Af,Af,Ar]
  exact ⟨λ⟨w,hw,e⟩=>by cases e;exact hw,λh=>⟨z,h,rfl⟩⟩
 | _=>rfl
theorem NX {cs:List (Str×List Str)}{d:D}(h:DK 0 d=true):EX [.tup (cs.map clD),d] mu=some (.bl (DR cs d),mu):=by
 have it:=MX (mu:=mu) d cs.length cs.length (ES h)
 cases d with
 | tup ds =>
  by_cases c:ds.length=cs.length
  ·have tb:Eh cs.length cs.length (.tup ds)=true:=by simp [Eh,c]
   rw [tb] at it
   have cr:=P5 (mu:=mu) (m0:=mu) (cs:=cs) (nRs h)
   have e:DR cs (.tup ds)=(ds.zip cs).all (λp=>EE p.1 p.2.2):=by simp [DR,c]
   have zp:=JV (mu:=mu) (ro:=[some (.tup (cs.map clD)),some (.tup ds)]) (m:=(Cg (Cj 1) (Cg (Cj 0) Cm))) (xs:=ds) (ys:=cs.map clD) (m1:=mu) (by simp_arith only [])
   have af:Jd [.lst (((ds.zip cs).map λp=>EE p.1 p.2.2).map D.bl)] mu=some (.bl ((ds.zip cs).all (λp=>EE p.1 p.2.2)),mu):=by
    rw [OR,List.all_map]
    rfl
   rw [e]
   simp_arith only [EX,G1,Ah,it,zp,cr,af]
  ·have tb:Eh cs.length cs.length (.tup ds)=false:=by simp [Eh];omega
   rw [tb] at it
   have e:DR cs (.tup ds)=false:=by simp [DR,c]
   rw [e]
   simp_arith only [EX,G1,Ah,it]
 | ref k=>cases ES h
 | _ =>
  simp only [Eh] at it
  simp_arith only [EX,G1,Ah,it,DR]
structure RwC (cs:List (Str×List Str)) (r:List Str):Prop where
 len:r.length=cs.length
 at':∀ (i:Nat) x p,r[i]? = some x->cs[i]? = some p->x∈p.2
theorem P2 {cs:List (Str×List Str)}{d:D}(h:DR cs d=true):∃ r,d=rwD r∧RwC cs r:=by
 cases d with
 | tup ds =>
  simp only [DR,Ac,Af,Aw] at h
  obtain ⟨hl,ha⟩:=h
  have at_:∀ (i:Nat) (d:D) (p:Str×List Str),ds[i]? = some d->cs[i]? = some p->EE d p.2=true:=λi d p h1 h2=>ha (d,p) (Am (i:=i) (by rw [BJ];exact ⟨h1,h2⟩))
  obtain ⟨r,rfl⟩:=VH (ds:=ds) λj d hj=>by
   have jl:j<cs.length:=by rw [← hl];exact (Ae.mp hj).1
   have:=at_ j d _ hj (Ak jl)
   cases d with
   | str x=>exact ⟨x,rfl⟩
   | _=>cases this
  refine ⟨r,rfl,by simpa using hl,λi x p hx hp=>?_⟩
  have:=at_ i (.str x) p (by rw [Ap,hx];rfl) hp
  simpa [EE] using this
 | _=>simp [DR] at h
theorem Sf {cs:List (Str×List Str)}{r:List Str}(h:RwC cs r):DR cs (rwD r)=true:=by
 simp only [DR,rwD,Ah,h.len,decide_true,BP,Aw]
 intro p hp
 obtain ⟨i,hi⟩:=AO.mp hp
 rw [BJ,Ap] at hi
 cases q:r[i]? with
 | none=>rw [q] at hi;cases hi.1
 | some x =>
  rw [q] at hi
  have e1:D.str x=p.1:=AB hi.1
  rw [← e1]
  simp only [EE,Af]
  exact h.at' i x p.2 q hi.2
theorem RwOk.c {t:Tb}{r:List Str}(h:RwOk t r):RwC t.cs r:=⟨h.len,h.at'⟩
theorem RwC.r {t:Tb}{r:List Str}(h:RwC t.cs r):RwOk t r:=⟨h.len,h.at'⟩
theorem QO {a b:List Str}:rwD a=rwD b ↔ a=b:=by
 constructor
 ·intro h
  have h':a.map D.str=b.map D.str:=by unfold rwD at h;injection h
  exact (List.map_inj_right (λx y e=>by injection e)).mp h'
 ·rintro rfl;rfl
theorem Vg {a b:List Str}:eqD (rwD a) (rwD b) mu=some (.bl (decide (a=b)),mu):=by
 rw [YY ((Hn.row a).K (by decide)) ((Hn.row b).K (by decide))]
 congr 3
 rw [B0,Af,Af,QO]
theorem Lg {ts:List Tb}{x:Str}{t:Tb}(h:ts.find? (λt=>decide (t.nm=x))=some t):Fw [.tup (ts.map tbD),.str x] mu=some (tbD t,mu):=by
 have lc:=LG (m0:=mu) (tg:=gNm 0) (tt:=(tV (Cq eqD (Cq ixG (Cj 0) (eC (.int 0))) (Cj 1)))) (el:=Cj 0) (ro:=[none,some (.str x)]) (mu:=mu) (λd=>match d with|.tup (.str y::_)=>decide (y=x)|_=>false) id (ts.map tbD) (λd hd=>by
  obtain ⟨t,_,rfl⟩:=Ar.mp hd
  refine ⟨_,rfl,?_,λ_=>rfl⟩
  simp_arith only [tbD])
 have e:((ts.map tbD).filter (λd=>match d with|.tup (.str y::_)=>decide (y=x)|_=>false)).map id=(ts.filter (λt=>decide (t.nm=x))).map tbD:=by
  rw [List.map_id,List.filter_map]
  rfl
 obtain ⟨r,hr⟩:∃ r,ts.filter (λt=>decide (t.nm=x))=t::r:=by
  have:=List.head?_filter (p:=λt:Tb=>decide (t.nm=x)) (l:=ts)
  rw [h] at this
  cases q:ts.filter (λt=>decide (t.nm=x)) with
  | nil=>rw [q] at this;cases this
  | cons a r=>rw [q] at this;cases this;exact ⟨r,rfl⟩
 rw [e,hr,A1] at lc
 simp_arith only [Fw,Hw,lc]
noncomputable def FN (ks:Nat)(rs:List (List Str))(k:List Str):D:=match rs.find? (λr=>decide (r.take ks=k)) with
 | some r=>rwD r
 | none=>.non
theorem Jk {r:List Str}{j:Nat}(h:j≤r.length):slD (rwD r) none (some (j:Int)) mu=some (rwD (r.take j),mu):=by
 unfold rwD
 rw [VA,IB (by rw [Ah];exact h),List.map_take]
theorem LO {ks:Nat}{rs:List (List Str)}{k:List Str}(h:∀ r∈rs,ks≤r.length):Dv [flD rs,.int ks,rwD k] mu=some (FN ks rs k,mu):=by
 have key:∀ (qs:List (List Str)) (x3:Option D),(∀ r∈qs,ks≤r.length)->∃ y3,D2 none mu (gNm 3) (sIf (tV (Cq eqD (eSl (Cj 3) (pNo) (DD (Cj 1))) (Cj 2))) (sRt (Cj 3)) (sNx)) (qs.map rwD) [some (flD rs),some (.int ks),some (rwD k),x3] mu=some ((match qs.find? (λr=>decide (r.take ks=k)) with|some r=>.rt (rwD r)|none=>.nx,[some (flD rs),some (.int ks),some (rwD k),y3]),mu):=by
  intro qs
  induction qs with
  | nil=>exact λx3 _=>⟨x3,rfl⟩
  | cons r qs ih =>
   intro x3 hq
   have e:=Vg (mu:=mu) (a:=r.take ks) (b:=k)
   have cr:=Jk (mu:=mu) (hq r (.head _))
   have tg:gNm 3 (rwD r) [some (flD rs),some (.int ks),some (rwD k),x3] mu=some ([some (flD rs),some (.int ks),some (rwD k),some (rwD r)],mu):=rfl
   rw [A1]
   by_cases c:r.take ks=k
   ·have c1:decide (r.take ks=k)=true:=by simp [c]
    rw [c1] at e
    refine ⟨some (rwD r),?_⟩
    rw [List.find?_cons_of_pos (by simpa using c)]
    unfold D2
    rw [tg,CL]
    simp_arith only [cr,e]
   ·have c1:decide (r.take ks=k)=false:=by simp [c]
    rw [c1] at e
    obtain ⟨y3,e3⟩:=ih (some (rwD r)) λr hr=>hq r (.tail _ hr)
    refine ⟨y3,?_⟩
    rw [List.find?_cons_of_neg (by simpa using c)]
    unfold D2
    rw [tg,CL]
    simp_arith only [cr,e]
    rw [DY,if_pos (show gOk none mu mu from True.intro)]
    exact e3
 obtain ⟨y3,e⟩:=key rs none h
 have iv:JE mu (flD rs)=some ((rs.map rwD,none),mu):=rfl
 unfold FN
 cases q:rs.find? (λr=>decide (r.take ks=k)) with
 | none =>
  rw [q] at e
  simp_arith only [Dv,Ez,iv,e]
 | some r =>
  rw [q] at e
  simp_arith only [Dv,Ez,iv,e]
noncomputable def MN:List Tb->List (List (List Str))->Str->List (List Str)
 | t::ts,rs::gs,x=>if t.nm=x then rs else MN ts gs x
 | _,_,_=>[]
theorem NJ {ts:List Tb}{gs:List (List (List Str))}(hl:gs.length=ts.length)(ho:∀ (j:Nat) rs t,gs[j]? = some rs->ts[j]? = some t->∀ r∈rs,t.ks≤r.length){x:Str}{t:Tb}(ht:ts.find? (λt=>decide (t.nm=x))=some t){k:List Str}:FY [.tup (ts.map tbD),.tup (gs.map flD),.str x,rwD k] mu=some (FN t.ks (MN ts gs x) k,mu):=by
 have key:∀ (us:List Tb) (hs:List (List (List Str))) (x4 x5:Option D),hs.length=us.length->(∀ (j:Nat) rs t,hs[j]? = some rs->us[j]? = some t->∀ r∈rs,t.ks≤r.length)->us.find? (λt=>decide (t.nm=x))=some t->∃ y4 y5,D2 none mu (gTp 2 (Co (gNm 4) (Co (gNm 5) CM))) (sIf (tV (Cq eqD (Cq ixG (Cj 4) (eC (.int 0))) (Cj 2))) (sRt (Cn Dv (Cg (Cj 5) (Cg (Cq ixG (Cj 4) (eC (.int 2))) (Cg (Cj 3) Cm))))) (sNx)) (DE (us.map tbD) (hs.map flD)) [some (.tup (ts.map tbD)),some (.tup (gs.map flD)),some (.str x),some (rwD k),x4,x5] mu=some ((.rt (FN t.ks (MN us hs x) k),[some (.tup (ts.map tbD)),some (.tup (gs.map flD)),some (.str x),some (rwD k),y4,y5]),mu):=by
  intro us
  induction us with
  | nil=>intro hs x4 x5 _ _ h;cases h
  | cons u us ih =>
   intro hs x4 x5 hl ho hf
   cases hs with
   | nil=>simp at hl
   | cons rs hs =>
    have tg:gTp 2 (Co (gNm 4) (Co (gNm 5) CM)) (.tup [tbD u,flD rs]) [some (.tup (ts.map tbD)),some (.tup (gs.map flD)),some (.str x),some (rwD k),x4,x5] mu=some ([some (.tup (ts.map tbD)),some (.tup (gs.map flD)),some (.str x),some (rwD k),some (tbD u),some (flD rs)],mu):=rfl
    have zz:DE ((u::us).map tbD) ((rs::hs).map flD)=.tup [tbD u,flD rs]::DE (us.map tbD) (hs.map flD):=rfl
    rw [zz]
    have i0:ixG (tbD u) (.int 0) mu=some (.str u.nm,mu):=Sa
    have i2:ixG (tbD u) (.int 2) mu=some (.int u.ks,mu):=Lz
    by_cases c:u.nm=x
    ·rw [List.find?_cons_of_pos (by simpa using c)] at hf
     cases hf
     have wk:=LO (mu:=mu) (k:=k) (ho 0 rs t rfl rfl)
     refine ⟨some (tbD t),some (flD rs),?_⟩
     unfold D2
     rw [tg,CL]
     simp_arith only [i0,i2,c,wk,MN]
    ·rw [List.find?_cons_of_neg (by simpa using c)] at hf
     obtain ⟨y4,y5,e⟩:=ih hs (some (tbD u)) (some (flD rs)) (by simpa using hl) (λj r t h1 h2=>ho (j+1) r t h1 h2) hf
     refine ⟨y4,y5,?_⟩
     have c1:decide (u.nm=x)=false:=by simp [c]
     unfold D2
     rw [tg,CL]
     simp_arith only [i0,c1,MN,c]
     rw [DY,if_pos (show gOk none mu mu from True.intro)]
     exact e
 obtain ⟨y4,y5,e⟩:=key ts gs none none hl ho ht
 have zp:=JV (mu:=mu) (ro:=[some (.tup (ts.map tbD)),some (.tup (gs.map flD)),some (.str x),some (rwD k),none,none]) (m:=(Cg (Cj 0) (Cg (Cj 1) Cm))) (xs:=ts.map tbD) (ys:=gs.map flD) (m1:=mu) (by simp_arith only [])
 simp_arith only [FY,Jx,zp,e]
end PG
namespace PV
open PySem L2 PyProof.Rows K1
variable {mu:Sto}
theorem Sl {es:List D}(ok:DM es=true):J9 [.set es] mu=some (.lst (Ee es),mu):=by
 have e1:Kh [.set es] mu=some (.lst (Ee es),mu):=by simp only [Kh,Ho,Qh,ok,if_true]
 unfold J9
 rw [e1]
theorem Tu {ds es:List D}(hd:Hn 6 (.tup ds))(he:Hn 6 (.tup es)):eqD (.lst ds) (.lst es) mu=some (.bl (decide (ds=es)),mu):=by
 have p1:Eg ds=true:=by have:=FV hd.1;simpa only [CU] using this
 have p2:Eg es=true:=by have:=FV he.1;simpa only [CU] using this
 have q:=GA hd.1 he.1
 have d1:=HC hd.1
 have d2:=HC he.1
 have:eqB mu (.lst ds) (.lst es)=some (decide (ds=es)):=by
  unfold eqB
  simp only [PV.seen,CU,p1,p2,Bool.and_self,BP]
  rw [if_pos]
  ·have e1:PyData.eqv (toPy (.lst ds)) (toPy (.lst es))=PyData.eqv (toPy (.tup ds)) (toPy (.tup es)):=by simp only [toPy,PyData.eqv]
   rw [e1,q]
   simp only [D.tup.injEq]
  ·have e1:(toPy (.lst ds)).depth=(toPy (.tup ds)).depth:=by simp only [toPy,PyData.depth]
   refine BM ?_
   show min (toPy (.lst ds)).depth (toPy (.lst es)).depth≤60
   rw [e1,d1]
   have:=hd.2
   omega
 unfold eqD
 rw [this]
 rfl
theorem MA:∀ (n:Nat) (r q:List D),r.length=q.length->(D1 (r.take n) (q.take n)=.lt->D1 r q=.lt)∧(D1 r q=.lt->D1 (r.take n) (q.take n)=.lt∨D1 (r.take n) (q.take n)=.eq)
 | 0,r,q,_=>⟨λh=>by simp [D1] at h,λ_=>.inr (by simp [D1])⟩
 | n+1,[],[],_=>⟨λh=>by simp [D1] at h,λh=>by simp [D1] at h⟩
 | n+1,[],y::q,h=>by simp at h
 | n+1,x::r,[],h=>by simp at h
 | n+1,x::r,y::q,h=>by
  have ih:=MA n r q (by simpa using h)
  simp only [List.take_succ_cons,D1]
  cases CV x y with
  | eq=>exact ih
  | lt=>exact ⟨λ_=>rfl,λ_=>.inl rfl⟩
  | gt=>exact ⟨λh=>(nomatch h),λh=>(nomatch h)⟩
end PV
namespace PG
open PySem L2 PV PyProof.Rows K1
variable {mu:Sto}
theorem IL (n:Nat)(r:List Str):tkD n (rwD r)=rwD (r.take n):=by simp only [tkD,rwD,List.map_take]
theorem MK {n m:Nat}{ds:List D}(h:∀ d∈ds,∃ r,d=rwD r∧r.length=m):HJ (ds.map (tkD n))=(HJ ds&&ndB (ds.map (tkD n))):=by
 unfold ndB
 rw [B0,Ac,Af,Ig,Ig]
 have key:∀ a∈ds,∀ b∈ds,(ltT (tkD n a) (tkD n b)=true->ltT a b=true)∧(ltT a b=true->tkD n a≠tkD n b->ltT (tkD n a) (tkD n b)=true):=λa ha b hb=>by
  obtain ⟨r,rfl,hr⟩:=h a ha
  obtain ⟨q,rfl,hq⟩:=h b hb
  have ct:=MA n (r.map D.str) (q.map D.str) (by simp [hr,hq])
  have e1:∀ a b:List D,ltT (.tup a) (.tup b)=true ↔ D1 a b=.lt:=λa b=>by simp [ltT,CV]
  unfold rwD tkD
  dsimp only
  rw [e1,e1]
  refine ⟨ct.1,λh1 hne=>?_⟩
  rcases ct.2 h1 with h|h
  ·exact h
  ·refine absurd (lt_eq _ _ ?_ ?_ ?_ ?_) hne
   ·rw [← List.map_take];exact JY _
   ·rw [← List.map_take];exact JY _
   ·simp [ltT,CV,h]
   ·have:=cmp_swap (.tup ((r.map D.str).take n)) (.tup ((q.map D.str).take n))
    simp only [CV,h,Ordering.swap] at this
    simp [ltT,CV,this]
 constructor
 ·intro hp
  refine ⟨?_,VB hp⟩
  rw [A8] at hp
  exact hp.imp_of_mem λ{a b} ha hb l=>(key a ha b hb).1 l
 ·intro ⟨h1,h2⟩
  rw [AF,A8] at h2
  rw [A8]
  exact (h1.and h2).imp_of_mem λ{a b} ha hb ⟨l,ne⟩=>(key a ha b hb).2 l ne
theorem Sz {ds:List D}(h64:ds.length<64)(h:∀ d∈ds,∃ r,d=rwD r∧r≠[]):setG [.lst ds] mu=some (.set (DB ds),mu):=by
 have sq:sq1 [.lst ds] mu=some ds:=rfl
 unfold setG
 cases q:Sm [.lst ds] mu with
 | some r =>
  obtain ⟨d,es,ss,e1,e2,e3,e4,e5⟩:=MJ q
  cases e1
  cases e2
  exact congrArg some e5
 | none =>
  dsimp only
  unfold R5
  rw [sq]
  dsimp only
  rw [if_pos]
  rw [Ac,Af,Aw]
  refine ⟨λd hd=>?_,h64⟩
  obtain ⟨r,rfl,hr⟩:=h d hd
  unfold okE
  rw [(Hn.row r).K (by decide)]
  cases r with
  | nil=>exact absurd rfl hr
  | cons x xs=>rfl
theorem N4 {ds:List D}(h64:ds.length<64)(h:∀ d∈ds,∃ r,d=rwD r∧r≠[]):Ey [.lst ds] mu=some (.bl (ndB ds),mu):=by
 simp_arith only [Ey,Gq,Sz h64 h]
 exact W2
theorem ND {ds:List D}(h:∀ d∈ds,∀ e∈ds,ltG d e mu=some (.bl (ltT d e),mu)):D6 [.tup ds] mu=some (.bl (HJ ds),mu):=by
 have z:=JV (mu:=mu) (ro:=[some (.tup ds)]) (m:=Cg (Cj 0) (Cg (eSl (Cj 0) (DD (eC (.int 1))) (pNo)) Cm)) (xs:=ds) (ys:=ds.drop 1) (m1:=mu) (by simp_arith only [])
 have al:=Oq (m0:=mu) (tg:=gTp 2 (Co (gNm 0) (Co (gNm 1) CM))) (el:=Cq ltG (Cj 0) (Cj 1)) (ro:=[none,none]) (mu:=mu) (λd=>match d with|.tup [a,b]=>ltT a b|_=>false) (DE ds (ds.drop 1)) (λd hd=>by
  unfold DE at hd
  obtain ⟨p,hp,rfl⟩:=Ar.mp hd
  have h1:=(Bw hp).1
  have h2:=List.mem_of_mem_drop (Bw hp).2
  refine ⟨_,rfl,?_⟩
  simp_arith only [h _ h1 _ h2])
 have e:((DE ds (ds.drop 1)).all λd=>match d with|.tup [a,b]=>ltT a b|_=>false)=HJ ds:=by
  unfold DE HJ
  rw [List.all_map,List.drop_one]
  rfl
 simp_arith only [D6,FI,z,al,e]
noncomputable def arB (t:Tb)(d:D):Bool:=match d with
 | .tup ds=>ds.all (DR t.cs)&&HJ (ds.map (tkD t.ks))
 | _=>false
theorem Mr {cs:List (Str×List Str)}{ds:List D}(h:∀ d∈ds,DR cs d=true):∃ rs:List (List Str),ds=rs.map rwD∧∀ r∈rs,RwC cs r:=by
 induction ds with
 | nil=>exact ⟨[],rfl,λ_ h=>nomatch h⟩
 | cons d ds ih =>
  obtain ⟨r,rfl,hr⟩:=P2 (h d (.head _))
  obtain ⟨rs,rfl,hs⟩:=ih λd hd=>h d (.tail _ hd)
  refine ⟨r::rs,rfl,λq hq=>?_⟩
  rcases An.mp hq with rfl|hq
  ·exact hr
  ·exact hs q hq
theorem Of (r:List Str):(toPy (rwD r)).depth≤60:=by
 have:=Ie r
 simp only [rwD,toPy,PyData.depth] at this ⊢
 omega
theorem Il {t:Tb}(ht:Je t){rs:List (List Str)}(hr:∀ r∈rs,RwC t.cs r):(∀ d∈(rs.map rwD).map (tkD t.ks),∃ r,d=rwD r∧r≠[])∧(∀ d∈rs.map rwD,∃ r,d=rwD r∧r.length=t.cs.length):=by
 refine ⟨λd hd=>?_,λd hd=>?_⟩
 ·rw [Bu] at hd
  obtain ⟨r,hm,rfl⟩:=Ar.mp hd
  refine ⟨r.take t.ks,IL _ _,λe=>?_⟩
  have l:=congrArg List.length e
  have:=(hr r hm).len
  have:=ht.c1
  have:=ht.k1
  rw [AG,List.length_nil] at l
  omega
 ·obtain ⟨r,hm,rfl⟩:=Ar.mp hd
  exact ⟨r,rfl,(hr r hm).len⟩
theorem LF {t:Tb}(ht:Je t){d:D}(h:DK 0 d=true)(h64:∀ ds,d=.tup ds->ds.length<64):DP [tbD t,d] mu=some (.bl (arB t d),mu):=by
 have it:=Jm (mu:=mu) d (ES h)
 have tg:∀ x,gTp 3 (Co (gNm 2) (Co (gNm 3) (Co (gNm 4) CM))) (tbD t) [some (tbD t),some x,none,none,none] mu=some ([some (tbD t),some x,some (.str t.nm),some (.tup (t.cs.map clD)),some (.int t.ks)],mu):=λx=>rfl
 cases d with
 | tup ds =>
  have l64:=h64 ds rfl
  have lw:=lows h
  have al:=Oq (m0:=mu) (tg:=gNm 0) (el:=(Cn EX (Cg (Cj 1) (Cg (Cj 0) Cm)))) (ro:=[none,some (.tup (t.cs.map clD))]) (mu:=mu) (DR t.cs) ds (λd hd=>⟨_,rfl,by simp_arith only [NX (lw d hd)]⟩)
  unfold arB
  dsimp only
  cases c:ds.all (DR t.cs) with
  | false=>simp_arith only [DP,EJ,tg,it,isT,al,c]
  | true =>
   obtain ⟨rs,rfl,hr⟩:=Mr (Aw.mp c)
   obtain ⟨k1,k2⟩:=Il ht hr
   have ok:=LA (rs:=rs) (by simpa using l64) λr hm=>(RwC.r (hr r hm)).ne ht
   have rr:=ND (mu:=mu) (ds:=rs.map rwD) λd hd e he=>by
    refine Sw ok hd he ?_
    obtain ⟨r,_,rfl⟩:=Ar.mp hd
    exact Of r
   have sp:=Hu (m0:=mu) (tg:=gNm 0) (el:=(eSl (Cj 0) (pNo) (DD (Cj 1)))) (ro:=[none,some (.int t.ks)]) (mu:=mu) (tkD t.ks) (rs.map rwD) (λd hd=>by
    refine ⟨_,rfl,?_⟩
    obtain ⟨r,hm,rfl⟩:=Ar.mp hd
    have cr:=Jk (mu:=mu) (r:=r) (j:=t.ks) (by rw [(hr r hm).len];exact ht.k4)
    rw [IL]
    simp_arith only [cr])
   have ul:=N4 (mu:=mu) (by rw [Ah];exact l64) k1
   rw [MK k2]
   cases c2:HJ (rs.map rwD) with
   | false =>
    rw [c2] at rr
    simp_arith only [DP,EJ,tg,it,isT,al,c,rr]
   | true =>
    rw [c2] at rr
    simp_arith only [DP,EJ,tg,it,isT,al,c,rr,sp,ul]
 | ref k=>cases ES h
 | _=>simp_arith only [DP,EJ,tg,it,isT,arB]
noncomputable def cBd:Sx:=(sIf (tO (tNt (tV (Hg "str" (Cj 3)))) (tV (Cq Q6 (Cj 3) (Cj 5)))) (sRt (eC (.bl false))) (sNx))
noncomputable def wBd:Sx:=(CJ (sIf (tO (tNt (tV (Hg "tuple" (Cj 2)))) (tV (Cq neD (Cn Ef (Cg (Cj 2) Cm)) (Cn Ef (Cg (Cq ixG (Cj 0) (eC (.int 1))) Cm))))) (sRt (eC (.bl false))) (sNx)) (FO (Hs (Cg (Cj 2) (Cg (Cq ixG (Cj 0) (eC (.int 1))) Cm))) (gTp 2 (Co (gNm 3) (Co (gTp 2 (Co (gNm 4) (Co (gNm 5) CM))) CM))) cBd))
noncomputable def O3:D->Bool
 | .tup [.str y,.tup [_,.tup vs]]=>decide (D.str y∈vs)
 | _=>false
theorem MU (x:D)(q:Str×List Str):O3 (.tup [x,clD q])=EE x q.2:=by
 unfold clD
 cases x with
 | str z =>
  simp only [O3,EE]
  rw [B0,Af,Af,Ar]
  exact ⟨λ⟨w,hw,e⟩=>by cases e;exact hw,λh=>⟨z,h,rfl⟩⟩
 | _=>rfl
theorem VF {d:D}(h:okB 41 d=true):∀ ps,d=.tup ps->ps.length<64:=λps e=>by
 subst e
 rw [okB,Ac,Af] at h
 omega
theorem Pw {cs:List (Str×List Str)}{ds:List D}(h:∀ d∈ds,nR d=true){a b c x3 x4 x5 x6:Option D}{m0:Sto} :
  ∃ y3 y4 y5,D2 none m0 (gTp 2 (Co (gNm 3) (Co (gTp 2 (Co (gNm 4) (Co (gNm 5) CM))) CM))) cBd (DE ds (cs.map clD)) [a,b,c,x3,x4,x5,x6] mu=some ((if (ds.zip cs).all (λp=>EE p.1 p.2.2)=true then .nx else .rt (.bl false),[a,b,c,y3,y4,y5,x6]),mu):=by
 obtain ⟨ro',⟨y3,y4,y5,rfl⟩,e⟩:=LY (m0:=m0) (tg:=(gTp 2 (Co (gNm 3) (Co (gTp 2 (Co (gNm 4) (Co (gNm 5) CM))) CM)))) (body:=cBd) (mu:=mu) (λro=>∃ y3 y4 y5,ro=[a,b,c,y3,y4,y5,x6]) O3 (.bl false) (DE ds (cs.map clD)) _ ⟨x3,x4,x5,rfl⟩ (λd hd ro ⟨y3,y4,y5,er⟩=>by
  subst er
  unfold DE at hd
  obtain ⟨p,hp,rfl⟩:=Ar.mp hd
  have h1:=h p.1 (Bw hp).1
  obtain ⟨q,_,e2⟩:=Ar.mp (Bw hp).2
  obtain ⟨x,y⟩:=p
  dsimp only at h1 e2 ⊢
  subst e2
  refine ⟨[a,b,c,some x,some (.str q.1),some (.tup (q.2.map D.str)),x6],_,rfl,⟨some x,some (.str q.1),some (.tup (q.2.map D.str)),rfl⟩,?_⟩
  rw [MU]
  unfold cBd
  cases x with
  | str z =>
   have nn:=Xp (mu:=mu) (x:=z) (ss:=q.2)
   by_cases hz:z∈q.2
   ·have c1:EE (.str z) q.2=true:=by simp [EE,hz]
    have c2:(!decide (z∈q.2))=false:=by simp [hz]
    rw [c2] at nn
    rw [c1]
    simp_arith only [HM _ h1,Nl,nn]
   ·have c1:EE (.str z) q.2=false:=by simp [EE,hz]
    have c2:(!decide (z∈q.2))=true:=by simp [hz]
    rw [c2] at nn
    rw [c1]
    simp_arith only [HM _ h1,Nl,nn]
  | _=>simp_arith only [HM _ h1,Nl,EE])
 refine ⟨y3,y4,y5,?_⟩
 rw [e]
 have:(DE ds (cs.map clD)).all O3=(ds.zip cs).all (λp=>EE p.1 p.2.2):=by
  unfold DE
  rw [List.zip_map_right,List.all_map,List.all_map]
  congr 1
  funext p
  exact MU p.1 p.2
 rw [this]
theorem R6 {t:Tb}{ds:List D}(h:∀ d∈ds,DK 0 d=true){b x2 x3 x4 x5 x6:Option D}{m0:Sto} :
  ∃ y2 y3 y4 y5,D2 none m0 (gNm 2) wBd ds [some (tbD t),b,x2,x3,x4,x5,x6] mu=some ((if ds.all (DR t.cs)=true then .nx else .rt (.bl false),[some (tbD t),b,y2,y3,y4,y5,x6]),mu):=by
 obtain ⟨ro',⟨y2,y3,y4,y5,rfl⟩,e⟩:=LY (m0:=m0) (tg:=gNm 2) (body:=wBd) (mu:=mu) (λro=>∃ y2 y3 y4 y5,ro=[some (tbD t),b,y2,y3,y4,y5,x6]) (DR t.cs) (.bl false) ds _ ⟨x2,x3,x4,x5,rfl⟩ (λd hd ro ⟨y2,y3,y4,y5,er⟩=>by
  subst er
  have hl:=h d hd
  have it:=Jm (mu:=mu) d (ES hl)
  have i1:ixG (tbD t) (.int 1) mu=some (.tup (t.cs.map clD),mu):=NV
  have no:isT d=false->DR t.cs d=false->∃ ro1 ro2,gNm 2 d [some (tbD t),b,y2,y3,y4,y5,x6] mu=some (ro1,mu)∧(∃ y2 y3 y4 y5,ro2=[some (tbD t),b,y2,y3,y4,y5,x6])∧wBd ro1 mu=some ((if DR t.cs d=true then .nx else .rt (.bl false),ro2),mu):=λh1 h2=>by
   refine ⟨[some (tbD t),b,some d,y3,y4,y5,x6],[some (tbD t),b,some d,y3,y4,y5,x6],rfl,⟨some d,y3,y4,y5,rfl⟩,?_⟩
   rw [h1] at it
   unfold wBd
   rw [h2]
   simp_arith only [it]
  cases d with
  | tup es =>
   by_cases c:es.length=t.cs.length
   ·obtain ⟨z3,z4,z5,e3⟩:=Pw (mu:=mu) (m0:=mu) (cs:=t.cs) (ds:=es) (nRs hl) (a:=some (tbD t)) (b:=b) (c:=some (.tup es)) (x3:=y3) (x4:=y4) (x5:=y5) (x6:=x6)
    refine ⟨[some (tbD t),b,some (.tup es),y3,y4,y5,x6],_,rfl,⟨some (.tup es),z3,z4,z5,rfl⟩,?_⟩
    have e:DR t.cs (.tup es)=(es.zip t.cs).all (λp=>EE p.1 p.2.2):=by simp [DR,c]
    have zp:=JV (mu:=mu) (ro:=[some (tbD t),b,some (.tup es),y3,y4,y5,x6]) (m:=(Cg (Cj 2) (Cg (Cq ixG (Cj 0) (eC (.int 1))) Cm))) (xs:=es) (ys:=t.cs.map clD) (m1:=mu) (by simp_arith only [i1])
    have c1:(!decide ((es.length:Int)=(t.cs.length:Int)))=false:=by simp [c]
    unfold cBd at e3
    unfold wBd cBd
    rw [e]
    simp_arith only [Ah,it,isT,i1,c1,zp,e3]
   ·refine ⟨[some (tbD t),b,some (.tup es),y3,y4,y5,x6],_,rfl,⟨some (.tup es),y3,y4,y5,rfl⟩,?_⟩
    have e:DR t.cs (.tup es)=false:=by simp [DR,c]
    have c1:(!decide ((es.length:Int)=(t.cs.length:Int)))=true:=by simp;omega
    unfold wBd
    rw [e]
    simp_arith only [Ah,it,isT,i1,c1]
  | ref k=>cases ES hl
  | _=>exact no rfl rfl)
 exact ⟨y2,y3,y4,y5,e⟩
theorem Lj {t:Tb}(ht:Je t){d:D}(h:DK 0 d=true)(h64:∀ ds,d=.tup ds->ds.length<64):Dq [tbD t,d] mu=some (.bl (arB t d),mu):=by
 have it:=Jm (mu:=mu) d (ES h)
 have i2:∀ m,ixG (tbD t) (.int 2) m=some (.int t.ks,m):=λm=>Lz
 cases d with
 | tup ds =>
  have l64:=h64 ds rfl
  have lw:=lows h
  obtain ⟨y2,y3,y4,y5,el⟩:=R6 (mu:=mu) (m0:=mu) (t:=t) (ds:=ds) lw (b:=some (.tup ds)) (x2:=none) (x3:=none) (x4:=none) (x5:=none) (x6:=none)
  unfold wBd cBd at el
  unfold arB
  dsimp only
  cases c:ds.all (DR t.cs) with
  | false =>
   rw [c] at el
   simp_arith only [Dq,D9,it,isT,el]
  | true =>
   rw [c] at el
   obtain ⟨rs,rfl,hr⟩:=Mr (Aw.mp c)
   obtain ⟨k1,k2⟩:=Il ht hr
   have sp:=Hu (m0:=mu) (tg:=gNm 0) (el:=(eSl (Cj 0) (pNo) (DD (Cq ixG (Cj 1) (eC (.int 2)))))) (ro:=[none,some (tbD t)]) (mu:=mu) (tkD t.ks) (rs.map rwD) (λd hd=>by
    refine ⟨_,rfl,?_⟩
    obtain ⟨r,hm,rfl⟩:=Ar.mp hd
    have cr:=Jk (mu:=mu) (r:=r) (j:=t.ks) (by rw [(hr r hm).len];exact ht.k4)
    rw [IL]
    simp_arith only [i2,cr])
   have l64':((rs.map rwD).map (tkD t.ks)).length<64:=by rw [Ah];exact l64
   generalize (rs.map rwD).map (tkD t.ks)=ks at sp k1 l64'
   have ol:=Iw ks []
   have om:∀ d∈DB ks,∃ r,d=rwD r∧r≠[]:=λd hd=>by
    rcases (Kt ks [] d).mp hd with z|z
    ·cases z
    ·exact k1 d z
   have rok:∀ {es:List D},es.length<64->(∀ d∈es,∃ r,d=rwD r∧r≠[])->DM es=true:=λ{es} h1 h2=>by
    obtain ⟨qs,rfl,hq⟩:∃ qs:List (List Str),es=qs.map rwD∧∀ r∈qs,r≠[]:=by
     clear h1
     induction es with
     | nil=>exact ⟨[],rfl,λ_ h=>nomatch h⟩
     | cons d ds ih =>
      obtain ⟨r,rfl,hr⟩:=h2 d (.head _)
      obtain ⟨qs,rfl,hs⟩:=ih λd hd=>h2 d (.tail _ hd)
      refine ⟨r::qs,rfl,λq hq=>?_⟩
      rcases An.mp hq with rfl|hq
      ·exact hr
      ·exact hs q hq
    exact LA (by simpa using h1) hq
   have ok1:=rok (es:=DB ks) (by unfold DB;simp only [List.length_nil,BE] at ol;omega) om
   have ok0:=rok l64' k1
   have hn:∀ {es:List D},(∀ d∈es,∃ r,d=rwD r∧r≠[])->Hn 6 (.tup es):=λ{es} h=>(Hn.tup (n:=2) λd hd=>by
    obtain ⟨r,rfl,_⟩:=h d hd
    exact Hn.row r).up (by decide)
   have sg:=Sz (mu:=mu) l64' k1
   have ss:=Sl (mu:=mu) ok1
   have eq:=Tu (mu:=mu) (hn k1) (hn (es:=Ee (DB ks)) λd hd=>om d ((Dg _).mem_iff.mp hd))
   rw [QI (G6 ok0)] at eq
   simp_arith only [Dq,D9,it,isT,el,sp,sg,ss,eq]
 | ref k=>cases ES h
 | _=>simp_arith only [Dq,D9,it,isT,arB]
noncomputable def fiB (ts:List Tb)(d:D):Bool:=match d with
 | .tup ds=>decide (ds.length=ts.length)&&(ts.zip ds).all (λp=>arB p.1 p.2)
 | _=>false
theorem Lk {f:Fn}{mu m0:Sto}:∀ (us:List Tb) (es:List D),(∀ t∈us,∀ d∈es,f [tbD t,d] mu=some (.bl (arB t d),mu))->Gf none m0 (gTp 2 (Co (gNm 0) (Co (gNm 1) CM))) tY (Cn f (Cg (Cj 0) (Cg (Cj 1) Cm))) [none,none] (DE (us.map tbD) es) mu=some (((us.zip es).map λp=>arB p.1 p.2).map D.bl,mu)
 | [],es,_=>rfl
 | _::_,[],_=>rfl
 | u::us,e::es,h=>by
  have ih:=Lk (f:=f) (mu:=mu) (m0:=m0) us es λt ht d hd=>h t (.tail _ ht) d (.tail _ hd)
  have zz:DE ((u::us).map tbD) (e::es)=.tup [tbD u,e]::DE (us.map tbD) es:=rfl
  have tg:gTp 2 (Co (gNm 0) (Co (gNm 1) CM)) (.tup [tbD u,e]) [none,none] mu=some ([some (tbD u),some e],mu):=rfl
  have t:tY [some (tbD u),some e] mu=some (true,mu):=rfl
  have e2:Cn f (Cg (Cj 0) (Cg (Cj 1) Cm)) [some (tbD u),some e] mu=some (.bl (arB u e),mu):=by
   simp_arith only [h u (.head _) e (.head _)]
  rw [zz]
  unfold Gf
  rw [tg,CL,t,CL,if_pos rfl,e2,CL,DY,if_pos (show gOk none m0 mu from True.intro),ih,CL]
  rfl
theorem HA {ts:List Tb}(hS:SOk ts){d:D}(h:okB 41 d=true):CY [.tup (ts.map tbD),d] mu=some (.bl (fiB ts d),mu):=by
 have hl:=HZ h
 have it:=MX (mu:=mu) d ts.length ts.length (ES hl)
 cases d with
 | tup ds =>
  have zr:=Lk (f:=DP) (mu:=mu) (m0:=mu) ts ds λt ht d hd=>LF (hS.ok t ht) (HZ (G8 h d hd)) (VF (G8 h d hd))
  have zp:=JV (mu:=mu) (ro:=[some (.tup (ts.map tbD)),some (.tup ds)]) (m:=(Cg (Cj 0) (Cg (Cj 1) Cm))) (xs:=ts.map tbD) (ys:=ds) (m1:=mu) (by simp_arith only [])
  have af:Jd [.lst (((ts.zip ds).map λp=>arB p.1 p.2).map D.bl)] mu=some (.bl ((ts.zip ds).all (λp=>arB p.1 p.2)),mu):=by
   rw [OR,List.all_map]
   rfl
  unfold fiB
  dsimp only
  by_cases c:ds.length=ts.length
  ·have tb:Eh ts.length ts.length (.tup ds)=true:=by simp [Eh,c]
   have c1:decide (ds.length=ts.length)=true:=by simp [c]
   rw [tb] at it
   rw [c1]
   simp_arith only [CY,EG,Ah,it,zp,zr,af]
  ·have tb:Eh ts.length ts.length (.tup ds)=false:=by simp [Eh];omega
   have c1:decide (ds.length=ts.length)=false:=by simp [c]
   rw [tb] at it
   rw [c1]
   simp_arith only [CY,EG,Ah,it]
 | ref k=>cases ES hl
 | _ =>
  simp only [Eh] at it
  simp_arith only [CY,EG,Ah,it,fiB]
theorem Rg {ts:List Tb}(hS:SOk ts){d:D}(h:okB 41 d=true):D5 [.tup (ts.map tbD),d] mu=some (.bl (fiB ts d),mu):=by
 have hl:=HZ h
 have it:=Jm (mu:=mu) d (ES hl)
 cases d with
 | tup ds =>
  have zr:=Lk (f:=Dq) (mu:=mu) (m0:=mu) ts ds λt ht d hd=>Lj (hS.ok t ht) (HZ (G8 h d hd)) (VF (G8 h d hd))
  have zp:=JV (mu:=mu) (ro:=[some (.tup (ts.map tbD)),some (.tup ds)]) (m:=(Cg (Cj 0) (Cg (Cj 1) Cm))) (xs:=ts.map tbD) (ys:=ds) (m1:=mu) (by simp_arith only [])
  have af:Jd [.lst (((ts.zip ds).map λp=>arB p.1 p.2).map D.bl)] mu=some (.bl ((ts.zip ds).all (λp=>arB p.1 p.2)),mu):=by
   rw [OR,List.all_map]
   rfl
  unfold fiB
  dsimp only
  by_cases c:ds.length=ts.length
  ·have c0:(!decide ((ds.length:Int)=(ts.length:Int)))=false:=by simp [c]
   have c1:decide (ds.length=ts.length)=true:=by simp [c]
   rw [c1]
   simp_arith only [D5,Fz,Ah,it,isT,c0,zp,zr,af]
  ·have c0:(!decide ((ds.length:Int)=(ts.length:Int)))=true:=by simp;omega
   have c1:decide (ds.length=ts.length)=false:=by simp [c]
   rw [c1]
   simp_arith only [D5,Fz,Ah,it,isT,c0]
 | ref k=>cases ES hl
 | _=>simp_arith only [D5,Fz,Ah,it,isT,fiB]
end PG
namespace PV
open PySem L2 PyProof.Rows K1
variable {mu:Sto}
theorem YG {ds:List D}:UY (.tup ds) mu=some (.tup ds.reverse,mu):=rfl
end PV
namespace PG
open PySem L2 PV PyProof.Rows K1
variable {mu:Sto}
theorem okT {n:Nat}{ds:List D}(l:ds.length≤n)(h:∀ d∈ds,okB n d=true):okB n (.tup ds)=true:=by
 rw [okB,GZ.mpr h,Bool.and_true,Af]
 exact l
theorem SM {r:List Str}(h:r.length≤4):okB 40 (rwD r)=true:=by
 simp only [rwD,okB,QC,Ah,Bool.and_true,Af]
 omega
theorem KJ {ts:List Tb}{gs:List (List (List Str))}(hS:SOk ts)(hG:Hy ts gs):okB 40 (.tup (gs.map flD))=true:=by
 have:=hG.len
 have:=hS.l4
 refine okT (by rw [Ah];omega) λd hd=>?_
 obtain ⟨rs,hm,rfl⟩:=Ar.mp hd
 obtain ⟨j,hj⟩:=AO.mp hm
 have jl:j<ts.length:=by rw [← hG.len];exact (Ae.mp hj).1
 have fl:=hG.ok j rs _ hj (Ak jl)
 have tk:=hS.ok _ (BG jl)
 refine okT (by have:=fl.len;rw [Ah];omega) λd hd=>?_
 obtain ⟨r,hr,rfl⟩:=Ar.mp hd
 exact SM (by rw [(fl.ok r hr).len];exact tk.c4)
theorem Uw {t:Tb}(ht:Je t){rs:List (List Str)}(h:U2 t rs):arB t (flD rs)=true:=by
 have hr:∀ r∈rs,RwC t.cs r:=λr hr=>(h.ok r hr).c
 show ((rs.map rwD).all (DR t.cs)&&HJ ((rs.map rwD).map (tkD t.ks)))=true
 rw [MK (Il ht hr).2,Ac,Ac,Aw]
 refine ⟨λd hd=>?_,(Ig _).mpr h.up,by unfold ndB;rw [Af];exact h.nd⟩
 obtain ⟨r,hm,rfl⟩:=Ar.mp hd
 exact Sf (hr r hm)
theorem TV {ts:List Tb}{gs:List (List (List Str))}(hS:SOk ts)(hG:Hy ts gs):fiB ts (.tup (gs.map flD))=true:=by
 unfold fiB
 dsimp only
 rw [Ac,Af,Ah,Aw]
 refine ⟨hG.len,λp hp=>?_⟩
 obtain ⟨j,hj⟩:=AO.mp hp
 obtain ⟨t,d⟩:=p
 rw [BJ,Ap] at hj
 obtain ⟨h1,h2⟩:=hj
 cases q:gs[j]? with
 | none=>rw [q] at h2;cases h2
 | some rs =>
  rw [q] at h2
  have e:flD rs=d:=AB h2
  subst e
  exact Uw (hS.ok t (Am h1)) (hG.ok j rs t q h1)
theorem SE (n:Nat):(List.replicate n [D.tup []]).flatten=List.replicate n (D.tup []):=by
 induction n with
 | zero=>rfl
 | succ n ih=>rw [List.replicate_succ,List.flatten_cons,ih,List.replicate_succ];rfl
theorem UP (ts:List Tb):fiB ts (.tup (List.replicate ts.length (.tup [])))=true:=by
 unfold fiB
 dsimp only
 rw [Ac,Af,B1,Aw]
 refine ⟨rfl,λp hp=>?_⟩
 have:=(Bw (a:=p.1) (b:=p.2) hp).2
 rw [List.eq_of_mem_replicate this]
 rfl
theorem Uq {n:Nat}(h:n≤4):okB 41 (.tup (List.replicate n (.tup [])))=true:=by
 refine okT (by rw [B1];omega) λd hd=>?_
 rw [List.eq_of_mem_replicate hd]
 rfl
theorem S8 {n:Nat}(h1:1≤n)(h:n≤4):QD (.tup [.tup []]) (.int n) mu=some (.tup (List.replicate n (.tup [])),mu):=by
 have e1:Fp (.tup [.tup []]) (.int (n:Int)) mu=none:=rfl
 unfold QD
 rw [e1]
 dsimp only
 unfold TZ
 dsimp only
 rw [if_pos ⟨by omega,by omega,by simp;omega⟩,Int.toNat_natCast,SE]
theorem Lm {k n:Nat}(h:HandOk mu k (n+1)):Run (Fj [.ref k] mu) k n mu λd=>okB 40 d=true:=by
 obtain ⟨d,m',e,fr,hd⟩:=pick_run (mu:=mu) (s:=.lst [.non,.bl true,.int 0,.str "",.str "zz9",.str "a",.tup [],.lst [],.dct [] [],.tup [.tup []],.tup [.str "a"],.tup [.tup [.str "a"]],.tup [.str "zz9",.str "zz9"]]) (n:=n) (.inl rfl) (by simp) (by simp) h
 refine ⟨d,m',?_,fr,?_⟩
 ·simp_arith only [Fj,ID,e]
 ·have:Hh 40 [.non,.bl true,.int 0,.str "",.str "zz9",.str "a",.tup [],.lst [],.dct [] [],.tup [.tup []],.tup [.str "a"],.tup [.tup [.str "a"]],.tup [.str "zz9",.str "zz9"]]=true:=by
   simp only [Hh,okB,List.length_cons,List.length_nil]
   rfl
  exact GZ.mp this d hd
theorem Pc {k:Nat}:∀ (f:Nat) {n deep:Nat} {mu:Sto} {d:D},deep≤f->Flat mu->HandOk mu k (n+5*(f+1))->okB 40 d=true->Run (CG (f+1) [.ref k,d,.int deep] mu) k n mu λz=>okB 41 z=true
 | f,n,deep,mu,d,hf,fl,h,ok=>by
  have u:∀ d,okB 40 d=true->okB 41 d=true:=λd h=>LQ (by decide) h
  obtain ⟨od,mo,eo,fo,ho⟩:=Lm (mu:=mu) (n:=n) (h.mono (by omega))
  cases d with
  | tup ds =>
   have ok1:=LQ (m:=41) (by decide) ok
   have okm:=G8 ok1
   have hl:ds.length≤40:=by
    rw [okB,Ac,Af] at ok
    exact ok.1
   by_cases c0:(ds.length:Int)=0
   ·refine ⟨od,mo,?_,fo,u _ ho⟩
    simp_arith only [CG,C0,c0,eo]
   by_cases c1:(deep:Int)=0
   ·refine ⟨od,mo,?_,fo,u _ ho⟩
    simp_arith only [CG,C0,c0,c1,eo]
   obtain ⟨_,m1,e1,f1,t1,rfl,a0,a1⟩:=Dr (m:=7) (n:=n+5*f+4) (h.mono (by omega)) (by decide) (by decide)
   by_cases c2:t1=0
   ·obtain ⟨od,mo,eo,fo,ho⟩:=Lm (mu:=m1) (n:=n) (f1.hand.mono (by omega))
    refine ⟨od,mo,?_,f1.trans fo,u _ ho⟩
    simp_arith only [CG,C0,c0,c1,e1,c2,eo]
   obtain ⟨_,m2,e2,f2,at',rfl,b0,b1⟩:=Dr (m:=ds.length) (n:=n+5*f+3) f1.hand (by omega) (by omega)
   obtain ⟨i,rfl⟩:∃ i:Nat,at'=(i:Int):=⟨at'.toNat,by omega⟩
   have il:i<ds.length:=by omega
   obtain ⟨_,m3,e3,f3,way,rfl,w0,w1⟩:=Dr (m:=8) (n:=n+5*f+2) f2.hand (by decide) (by decide)
   have fr:=(f1.trans f2).trans f3
   have i1:(i:Int)+1=((i+1:Nat):Int):=by omega
   have ct0:=IB (xs:=ds) (j:=i) (by omega)
   have ct1:=IB (xs:=ds) (j:=i+1) (by omega)
   have cf0:=M7 (xs:=ds) (j:=i) (by omega)
   have cf1:=M7 (xs:=ds) (j:=i+1) (by omega)
   have tl:∀ j,(ds.take j).length≤ds.length:=λj=>by rw [AG];omega
   have dl:∀ j,(ds.drop j).length≤ds.length:=λj=>by rw [BA];omega
   have tm:∀ j,∀ d∈ds.take j,okB 41 d=true:=λj d hd=>okm d (List.mem_of_mem_take hd)
   have dm:∀ j,∀ d∈ds.drop j,okB 41 d=true:=λj d hd=>okm d (List.mem_of_mem_drop hd)
   by_cases c3:way=0
   ·refine ⟨.tup (ds.take i++ds.drop (i+1)),m3,?_,fr.mono (by omega),okT (by rw [As,AG,BA];omega) λd hd=>(AH.mp hd).elim (tm _ d) (dm _ d)⟩
    have za:CT (.tup (ds.take i)) (.tup (ds.drop (i+1))) m3=some (.tup (ds.take i++ds.drop (i+1)),m3):=HD (by rw [AS];have:=tl i;have:=dl (i+1);omega)
    simp_arith only [CG,C0,c0,c1,e1,c2,e2,e3,c3,i1,ct0,cf1,za]
   by_cases c4:way=1
   ·refine ⟨.tup (ds.take (i+1)++ds.drop i),m3,?_,fr.mono (by omega),okT (by rw [As,AG,BA];omega) λd hd=>(AH.mp hd).elim (tm _ d) (dm _ d)⟩
    have za:CT (.tup (ds.take (i+1))) (.tup (ds.drop i)) m3=some (.tup (ds.take (i+1)++ds.drop i),m3):=HD (by rw [AS];have:=tl (i+1);have:=dl i;omega)
    simp_arith only [CG,C0,c0,c1,e1,c2,e2,e3,c3,c4,Int.reduceEq,i1,ct1,cf0,za]
   by_cases c5:way=2
   ·obtain ⟨od,mo,eo,fo,ho⟩:=Lm (mu:=m3) (n:=n+1) (f3.hand.mono (by omega))
    obtain ⟨_,m4,e4,f4,t4,rfl,d0,d1⟩:=Dr (m:=4) (n:=n) fo.hand (by decide) (by decide)
    have cl:=IB (xs:=ds) (j:=1) (by omega)
    obtain ⟨x,hx,ex⟩:=Q8 (ds:=[.lst ds,.tup ds.reverse,.tup (ds++[od]),.tup (ds.drop 1++ds.take 1)]) d0 (by simpa using d1)
    have ix:=OB (mu:=m4) (.lst [.lst ds,.tup ds.reverse,.tup (ds++[od]),.tup (ds.drop 1++ds.take 1)]) (.inl rfl) d0 ex
    have za:CT (.tup ds) (.tup [od]) mo=some (.tup (ds++[od]),mo):=HD (by rw [AS];simp;omega)
    have zb:CT (.tup (ds.drop 1)) (.tup (ds.take 1)) mo=some (.tup (ds.drop 1++ds.take 1),mo):=HD (by rw [AS];have:=tl 1;have:=dl 1;omega)
    have cl':PV.cutD ds none (some 1)=ds.take 1:=cl
    refine ⟨x,m4,?_,(fr.trans fo).trans f4,?_⟩
    ·simp_arith only [CG,C0,c0,c1,e1,c2,e2,e3,c3,c4,c5,Int.reduceEq,YG,eo,za,cl',zb,e4,ix]
    ·simp only [An,A4,or_false] at hx
     rcases hx with rfl|rfl|rfl|rfl
     ·rw [okB]
      exact GZ.mpr okm
     ·exact okT (by rw [List.length_reverse];omega) λd hd=>okm d (List.mem_reverse.mp hd)
     ·exact okT (by rw [As,List.length_singleton];omega) λd hd=>(AH.mp hd).elim (okm d) λh=>by rw [Ao.mp h];exact u _ ho
     ·exact okT (by rw [As,AG,BA];omega) λd hd=>(AH.mp hd).elim (dm _ d) (tm _ d)
   ·have ey:ds[i]? = some ds[i]:=Ak il
    have ix:=OB (mu:=m3) (t:=(i:Int)) (.tup ds) (.inr rfl) (by omega) (by rw [Int.toNat_natCast];exact ey)
    have hy:ds[i]∈ds:=BG il
    generalize ds[i]=y at ey ix hy
    match f,hf with
    | 0,hf=>omega
    | g+1,hf =>
     obtain ⟨z,m4,e4,f4,lz⟩:=Pc (k:=k) g (n:=n) (deep:=deep-1) (mu:=m3) (d:=y) (by omega) (fr.flat fl) (f3.hand.mono (by omega)) (G8 ok y hy)
     have dd:(deep:Int)-1=((deep-1:Nat):Int):=by omega
     have z1:CT (.tup (ds.take i)) (.tup [z]) m4=some (.tup (ds.take i++[z]),m4):=HD (by
      rw [AS,List.length_singleton]
      have:=tl i
      omega)
     have z2:CT (.tup (ds.take i++[z])) (.tup (ds.drop (i+1))) m4=some (.tup (ds.take i++[z]++ds.drop (i+1)),m4):=HD (by
      rw [AS,As,List.length_singleton]
      have:=tl i
      have:=dl (i+1)
      omega)
     refine ⟨.tup (ds.take i++[z]++ds.drop (i+1)),m4,?_,fr.trans f4,okT (by rw [As,As,List.length_singleton,AG,BA];omega) λd hd=>(AH.mp hd).elim (λhd=>(AH.mp hd).elim (tm _ d) λh=>by rw [Ao.mp h];exact lz) (dm _ d)⟩
     rw [CG]
     simp_arith only [C0,c0,c1,e1,c2,e2,e3,c3,c4,c5,ix,dd,e4,i1,ct0,cf1,z1,z2]
  | ref k=>simp [okB] at ok
  | set _=>simp [okB] at ok
  | _ =>
   refine ⟨od,mo,?_,fo,u _ ho⟩
   simp_arith only [CG,C0,eo]
end PG
namespace PV
open PySem L2 PySem.Spec PyProof.Rows K1 Builtin.Str
theorem Hz:∀ c∈DC.cps.toList,reprChar 39 c=[c]∧c≠39∧c<1114112:=by
 have:DC.cps.toList.all (λc=>decide (reprChar 39 c=[c])&&(decide (c≠39)&&decide (c<1114112)))=true:=by decide +kernel
 intro c hc
 have h:=Aw.mp this c hc
 simp only [Ac,Af] at h
 exact h
theorem J0:∀ (l:List Nat) (acc:Array Nat),(∀ c∈l,c∈DC.cps.toList)->l.foldl (λout c=>out++(reprChar 39 c).toArray) acc=acc++l.toArray
 | [],acc,_=>by simp
 | c::l,acc,h=>by
  rw [List.foldl_cons,J0 l _ λc hc=>h c (.tail _ hc),(Hz c (h c (.head _))).1]
  apply Array.ext'
  simp
theorem N6 {x:Str}(h:IsW x):reprText x=⟨(#[39]++x.cps).push 39⟩:=by
 have q:reprQuote x=39:=by
  unfold reprQuote
  have:x.cps.contains 39=false:=by
   rw [Bool.eq_false_iff]
   intro e
   have:=Array.contains_iff_mem.mp e
   exact (Hz 39 (h.al 39 (by simpa using this))).2.1 rfl
  rw [this]
  rfl
 unfold reprText
 rw [q,← Array.foldl_toList,J0 _ _ h.al]
theorem N7 {x:Str}(h:IsW x):(reprText x).length≤10∧PyData.strOk (reprText x)=true:=by
 rw [N6 h]
 have h8:=h.hi
 constructor
 ·unfold Str.length at h8 ⊢
  simp
  omega
 ·unfold PyData.strOk
  rw [Array.all_eq_true']
  intro c hc
  simp only [Array.mem_push,Array.mem_append] at hc
  rcases hc with (hc|hc)|hc
  ·simp at hc
   subst hc
   decide
  ·have:=(Hz c (h.al c (by simpa using hc))).2.2
   simpa using this
  ·subst hc
   decide
mutual
noncomputable def rsz:D->Nat
 | .tup ds=>5+NZ ds
 | .lst ds=>5+NZ ds
 | _=>10
noncomputable def NZ:List D->Nat
 | []=>0
 | d::ds=>rsz d+2+NZ ds
end
mutual
noncomputable def rok:D->Prop
 | .tup ds=>MM ds
 | .str x=>IsW x
 | .non=>True
 | _=>False
noncomputable def MM:List D->Prop
 | []=>True
 | d::ds=>rok d∧MM ds
end
theorem Fc {a b:Str}(ha:PyData.strOk a=true)(hb:PyData.strOk b=true):PyData.strOk (a++b)=true:=by
 unfold PyData.strOk at ha hb ⊢
 rw [Str.cps_append,Array.all_append,ha,hb]
 rfl
theorem J4 (sep:Str)(hs:PyData.strOk sep=true):∀ ts:List Str,(∀ t∈ts,PyData.strOk t=true)->PyData.strOk (Str.join sep ts)=true
 | [],_=>(show PyData.strOk (Str.ofString "")=true by decide +kernel)
 | [x],h=>h x (.head _)
 | x::y::r,h=>by
  show PyData.strOk (x++sep++Str.join sep (y::r))=true
  exact Fc (Fc (h x (.head _)) hs) (J4 sep hs (y::r) λt ht=>h t (.tail _ ht))
mutual
theorem M9:∀ (d:D),rok d->(toPy d).showable=true∧(toPy d).hasDict=false∧(toPy d).shown.length≤rsz d∧PyData.strOk (toPy d).shown=true∧CU d=true
 | .tup ds,h=>by
  obtain ⟨a,b,c,e,f⟩:=K4 ds (by simpa only [rok] using h)
  have hc:PyData.strOk (Str.ofString ", ")=true:=by decide +kernel
  have h0:PyData.strOk (Str.ofString "(")=true:=by decide +kernel
  have h1:PyData.strOk (Str.ofString ",)")=true:=by decide +kernel
  have h2:PyData.strOk (Str.ofString ")")=true:=by decide +kernel
  have l0:(Str.ofString "(").length=1:=by decide +kernel
  have l1:(Str.ofString ",)").length=2:=by decide +kernel
  have l2:(Str.ofString ")").length=1:=by decide +kernel
  have l3:(Str.ofString ", ").length=2:=by decide +kernel
  refine ⟨by simp only [toPy,PyData.showable,a],by simp only [toPy,PyData.hasDict,b],?_,?_,by simp only [CU,f]⟩
  ·simp only [toPy,PyData.shown,rsz]
   unfold tupleText
   rw [Str.length_append,Str.length_append,l0]
   have j:=StrLaws.join_length_le (Str.ofString ", ") (PyData.shownAll (CD ds))
   rw [l3] at j
   split
   ·rw [l1];omega
   ·rw [l2];omega
  ·simp only [toPy,PyData.shown]
   unfold tupleText
   refine Fc (Fc h0 (J4 _ hc _ e)) ?_
   split
   ·exact h1
   ·exact h2
 | .str x,h=>by
  obtain ⟨a,b⟩:=N7 (by simpa only [rok] using h)
  exact ⟨rfl,rfl,by simpa only [toPy,PyData.shown,rsz] using a,by simpa only [toPy,PyData.shown] using b,rfl⟩
 | .non,_=>⟨rfl,rfl,by decide +kernel,by decide +kernel,rfl⟩
 | .lst _,h=>by simp only [rok] at h
 | .dct _ _,h=>by simp only [rok] at h
 | .set _,h=>by simp only [rok] at h
 | .ref _,h=>by simp only [rok] at h
 | .bl _,h=>by simp only [rok] at h
 | .int _,h=>by simp only [rok] at h
theorem K4:∀ (ds:List D),MM ds->PyData.showableAll (CD ds)=true∧PyData.hasDictAll (CD ds)=false∧((PyData.shownAll (CD ds)).map (·.length)).sum+(PyData.shownAll (CD ds)).length*2≤NZ ds∧(∀ t∈PyData.shownAll (CD ds),PyData.strOk t=true)∧Eg ds=true
 | [],_=>⟨rfl,rfl,Ag _,(λ_ h=>nomatch h),rfl⟩
 | d::ds,h=>by
  have h':rok d∧MM ds:=by simpa only [MM] using h
  obtain ⟨a,b,c,e,f⟩:=M9 d h'.1
  obtain ⟨a',b',c',e',f'⟩:=K4 ds h'.2
  refine ⟨by simp only [CD,PyData.showableAll,a,a',Bool.and_self],by simp only [CD,PyData.hasDictAll,b,b',Bool.or_self],?_,λt ht=>?_,by simp only [Eg,f,f',Bool.and_self]⟩
  ·simp only [CD,PyData.shownAll,A1,List.sum_cons,List.length_cons,NZ]
   omega
  ·simp only [CD,PyData.shownAll,An] at ht
   rcases ht with rfl|ht
   ·exact e
   ·exact e' t ht
end
theorem OF {mu:Sto}{d:D}(h:rok d)(hd:(toPy d).depth≤60)(hz:rsz d≤16777216):GI [d] mu=some (.str (toPy d).shown,mu):=by
 obtain ⟨a,b,c,e,f⟩:=M9 d h
 have sd:seen mu d=d:=by cases d<;>first|rfl|(simp [rok] at h)
 unfold GI
 simp only [Ho,sd,f,O6,a,b,e,Bool.not_false,BP,Bool.and_true]
 rw [if_pos]
 rw [Ac,Af,Af,AS]
 omega
theorem V7 {mu:Sto}{s:Str}:neD (.str s) (.str s) mu=some (.bl false,mu):=by
 simp [neD,eqB,seen,CU,toPy,PyData.eqv,PyData.depth]
theorem Q5 {ds:List D}:MM ds ↔ ∀ d∈ds,rok d:=by
 induction ds with
 | nil=>simp [MM]
 | cons d ds ih=>simp [MM,ih]
theorem O8 {n:Nat}:∀ {ds:List D},(∀ d∈ds,rsz d≤n)->NZ ds≤ds.length*(n+2)
 | [],_=>AW _
 | d::ds,h=>by
  have:=O8 λd hd=>h d (.tail _ hd)
  have:=h d (.head _)
  simp only [NZ,List.length_cons,Nat.succ_mul]
  omega
end PV
namespace PV
open PySem L2 PyProof.Rows K1
variable {mu:Sto}
theorem Ku:∀ (ps:List (D×D)) (ks vs:List D),ks.length=vs.length->(ks++ps.map (·.1)).Nodup->putAll (ks,vs) ps=(ks++ps.map (·.1),vs++ps.map (·.2))
 | [],ks,vs,_,_=>by simp [putAll]
 | p::ps,ks,vs,l,n=>by
  have h1:p.1∉ks:=λh=>by
   rw [A1,BY] at n
   exact n.2.2 p.1 h p.1 (.head _) rfl
  have:putAll (ks,vs) (p::ps)=putAll (ks++[p.1],vs++[p.2]) ps:=by
   unfold putAll
   rw [List.foldl_cons]
   congr 1
   unfold DX
   rw [if_neg h1]
  rw [this,Ku ps (ks++[p.1]) (vs++[p.2]) (by simp [l]) (by simpa using n)]
  simp
theorem Ud {ss:List Str}{mu:Sto}(h:ss.length<64):J9 [.tup (ss.map D.str)] mu=some (.lst (Ee (ss.map D.str)),mu):=by
 have e:Kh [.tup (ss.map D.str)] mu=some (.lst (Ee (ss.map D.str)),mu):=by simp only [Kh,Ho,Qh,G0,O7 h,if_true]
 unfold J9
 rw [e]
end PV
namespace PG
open PySem L2 PV PyProof.Rows K1
variable {mu:Sto}
theorem OL {m0:Sto}{p:List Str}{x c:Option D}(hp:p.length≤100):∀ (ss:List Str) (b:List D),b.length+ss.length≤sizeLine->cGo none m0 (gNm 1) tY (stL (Cq CT (Cj 0) (D4 (Cg (Cj 1) Cm)))) [some (rwD p),x,c] (ss.map D.str) b mu=some (b++(ss.map λs=>p++[s]).map rwD,mu)
 | [],b,_=>by
  simp [cGo]
 | s::ss,b,h=>by
  rw [List.length_cons] at h
  have ih:=OL (m0:=m0) (x:=x) (c:=c) hp ss (b++[rwD (p++[s])]) (by rw [As,List.length_singleton];omega)
  have tg:gNm 1 (.str s) [some (rwD p),x,c] mu=some ([some (rwD p),some (.str s),c],mu):=rfl
  have t:tY [some (rwD p),some (.str s),c] mu=some (true,mu):=rfl
  have za:CT (.tup (p.map D.str)) (.tup [.str s]) mu=some (.tup (p.map D.str++[.str s]),mu):=HD (by rw [AS,Ah,List.length_singleton];omega)
  have e2:stL (Cq CT (Cj 0) (D4 (Cg (Cj 1) Cm))) b [some (rwD p),some (.str s),c] mu=some (b++[rwD (p++[s])],mu):=by
   have e:rwD (p++[s])=.tup (p.map D.str++[.str s]):=by unfold rwD;rw [Bd];rfl
   have e':rwD p=.tup (p.map D.str):=rfl
   unfold stL
   rw [e,e']
   simp_arith only [za]
   rw [if_pos (by omega)]
  rw [A1]
  unfold cGo
  rw [tg,CL,t,CL,if_pos rfl,e2,CL,DY,if_pos (show gOk none m0 mu from True.intro),ih]
  simp
noncomputable def Hl (ps:List (List Str))(ss:List Str):List (List Str):=ps.flatMap λp=>ss.map λs=>p++[s]
theorem Ms {m0:Sto}{ss:List Str}{x y:Option D}:∀ (ps:List (List Str)) (b:List D),(∀ p∈ps,p.length≤100)->b.length+ps.length*ss.length≤sizeLine->cGo none m0 (gNm 0) tY (stI (Et (Cj 2)) (gNm 1) tY (stL (Cq CT (Cj 0) (D4 (Cg (Cj 1) Cm))))) [x,y,some (.lst (ss.map D.str))] (ps.map rwD) b mu=some (b++(Hl ps ss).map rwD,mu)
 | [],b,_,_=>by simp [cGo,Hl]
 | p::ps,b,hp,h=>by
  rw [List.length_cons,Nat.succ_mul] at h
  have e1:=OL (m0:=mu) (mu:=mu) (p:=p) (x:=y) (c:=some (.lst (ss.map D.str))) (hp p (.head _)) ss b (by omega)
  have ih:=Ms (m0:=m0) (ss:=ss) (x:=x) (y:=y) ps (b++(ss.map λs=>p++[s]).map rwD) (λq hq=>hp q (.tail _ hq)) (by rw [As,Ah,Ah];omega)
  have tg:gNm 0 (rwD p) [x,y,some (.lst (ss.map D.str))] mu=some ([some (rwD p),y,some (.lst (ss.map D.str))],mu):=rfl
  have t:tY [some (rwD p),y,some (.lst (ss.map D.str))] mu=some (true,mu):=rfl
  have e2:stI (Et (Cj 2)) (gNm 1) tY (stL (Cq CT (Cj 0) (D4 (Cg (Cj 1) Cm)))) b [some (rwD p),y,some (.lst (ss.map D.str))] mu=some (b++(ss.map λs=>p++[s]).map rwD,mu):=by
   have iv:Et (Cj 2) [some (rwD p),y,some (.lst (ss.map D.str))] mu=some ((ss.map D.str,none),mu):=rfl
   unfold PV.stI
   rw [iv,CL]
   exact e1
  rw [A1]
  unfold cGo
  rw [tg,CL,t,CL,if_pos rfl,e2,CL,DY,if_pos (show gOk none m0 mu from True.intro),ih]
  unfold Hl
  simp
theorem RQ (ps:List (List Str))(ss:List Str):(Hl ps ss).length=ps.length*ss.length:=by
 unfold Hl
 induction ps with
 | nil=>simp
 | cons p ps ih=>simp [ih,Nat.succ_mul,Nat.add_comm]
theorem Ri {ps:List (List Str)}{ss:List Str}{n:Nat}(h:∀ p∈ps,p.length≤n):∀ p∈Hl ps ss,p.length≤n+1:=λp hp=>by
 unfold Hl at hp
 obtain ⟨q,hq,hp⟩:=List.mem_flatMap.mp hp
 obtain ⟨s,_,rfl⟩:=Ar.mp hp
 have:=h q hq
 rw [As,List.length_singleton]
 omega
theorem L7 {cs:List (List Str)}(h4:cs.length≤4)(hs:∀ ss∈cs,ss.length≤4):∃ ps:List (List Str),FZ [.lst (cs.map λss=>.lst (ss.map D.str))] mu=some (.lst (ps.map rwD),mu):=by
 obtain ⟨ro',m',e,⟨y2,ps,rfl,_,_⟩,rfl⟩:=EW (m0:=mu) (tg:=gNm 2) (body:=(Di (eCo (Et (Cj 1)) 2 [2] (gNm 0) (tY) (stI (Et (Cj 2)) (gNm 1) (tY) (stL (Cq CT (Cj 0) (D4 (Cg (Cj 1) Cm))))) [] Sq) (gNm 1))) (λi ro m=>(∃ y2 ps,ro=[some (.lst (cs.map λss=>.lst (ss.map D.str))),some (.lst (ps.map rwD)),y2]∧ps.length≤4 ^ i∧∀ p∈ps,p.length≤i)∧m=mu) (cs.map λss=>.lst (ss.map D.str)) 0 [some (.lst (cs.map λss=>.lst (ss.map D.str))),some (.lst [.tup []]),none] mu ⟨⟨none,[[]],rfl,by simp,by simp⟩,rfl⟩ λj d ro m ed ⟨⟨y2,ps,er,pl,pp⟩,em⟩=>by
   subst er
   subst em
   rw [Ap] at ed
   cases q:cs[j]? with
   | none=>rw [q] at ed;cases ed
   | some ss =>
    rw [q] at ed
    have ed':D.lst (ss.map D.str)=d:=AB ed
    subst ed'
    have jl:j<cs.length:=(Ae.mp q).1
    have sl:=hs ss (Am q)
    have pw:4 ^ (0+j)≤4 ^ 4:=Nat.pow_le_pow_right (by decide) (by omega)
    have ml:ps.length*ss.length≤4 ^ (0+j)*4:=Nat.mul_le_mul pl sl
    have g:=Ms (m0:=m) (mu:=m) (ss:=ss) (x:=none) (y:=none) ps [] (λp hp=>by have:=pp p hp;omega) (by rw [AS,List.length_nil];omega)
    rw [List.nil_append] at g
    refine ⟨_,m,[some (.lst (cs.map λss=>.lst (ss.map D.str))),some (.lst ((Hl ps ss).map rwD)),some (.lst (ss.map D.str))],m,rfl,?_,⟨_,Hl ps ss,rfl,by rw [RQ,Nat.pow_succ];exact ml,Ri pp⟩,rfl⟩
    have co:eCo (Et (Cj 1)) 2 [2] (gNm 0) (tY) (stI (Et (Cj 2)) (gNm 1) (tY) (stL (Cq CT (Cj 0) (D4 (Cg (Cj 1) Cm))))) [] Sq [some (.lst (cs.map λss=>.lst (ss.map D.str))),some (.lst (ps.map rwD)),some (.lst (ss.map D.str))] m=some (.lst ((Hl ps ss).map rwD),m):=by
     have iv:Et (Cj 1) [some (.lst (cs.map λss=>.lst (ss.map D.str))),some (.lst (ps.map rwD)),some (.lst (ss.map D.str))] m=some ((ps.map rwD,none),m):=rfl
     have r:r0 2 [2] [some (.lst (cs.map λss=>.lst (ss.map D.str))),some (.lst (ps.map rwD)),some (.lst (ss.map D.str))]=[none,none,some (.lst (ss.map D.str))]:=rfl
     unfold eCo
     rw [iv,CL]
     dsimp only
     rw [r,g,CL]
     rfl
    simp_arith only [co]
 refine ⟨ps,?_⟩
 have iv:∀ y:Option D,Et (Cj 0) [some (.lst (cs.map λss=>.lst (ss.map D.str))),some (.lst [.tup []]),y] m'=some ((cs.map λss=>.lst (ss.map D.str),none),m'):=λy=>rfl
 simp_arith only [FZ,Ir,e]
theorem S4 {ts:List Tb}(hS:SOk ts){x:Str}{t:Tb}(h:ts.find? (λt=>decide (t.nm=x))=some t):∃ ps:List (List Str),Ff [.tup (ts.map tbD),.str x] mu=some (.tup (ps.map rwD),mu):=by
 have tk:=hS.ok t (List.mem_of_find?_eq_some h)
 have tr:=Lg (mu:=mu) h
 have i1:ixG (tbD t) (.int 1) mu=some (.tup (t.cs.map clD),mu):=NV
 have i2:ixG (tbD t) (.int 2) mu=some (.int t.ks,mu):=Lz
 have ct:=IB (xs:=t.cs.map clD) (j:=t.ks) (by rw [Ah];exact tk.k4)
 obtain ⟨ss,es,el,ev⟩:∃ vs:List (List Str),((t.cs.take t.ks).map λp=>D.lst (Ee (p.2.map D.str)))=vs.map (λss=>.lst (ss.map D.str))∧vs.length≤4∧∀ v∈vs,v.length≤4:=by
  have key:∀ qs:List (Str×List Str),(∀ p∈qs,p.2.length≤4)->∃ vs:List (List Str),(qs.map λp=>D.lst (Ee (p.2.map D.str)))=vs.map (λss=>.lst (ss.map D.str))∧vs.length=qs.length∧∀ v∈vs,v.length≤4:=by
   intro qs
   induction qs with
   | nil=>exact λ_=>⟨[],rfl,rfl,λ_ h=>nomatch h⟩
   | cons q qs ih =>
    intro hq
    obtain ⟨vs,e,l,a⟩:=ih λp hp=>hq p (.tail _ hp)
    obtain ⟨v,ev,pv⟩:=KG (Dg (q.2.map D.str))
    refine ⟨v::vs,by rw [A1,A1,ev,e],by simp [l],λw hw=>?_⟩
    rcases An.mp hw with rfl|hw
    ·rw [pv.length_eq];exact hq q (.head _)
    ·exact a w hw
  obtain ⟨vs,e,l,a⟩:=key (t.cs.take t.ks) λp hp=>(tk.vs p (List.mem_of_mem_take hp)).2
  exact ⟨vs,e,by rw [l,AG];have:=tk.c4;omega,a⟩
 obtain ⟨ps,ep⟩:=L7 (mu:=mu) (cs:=ss) el ev
 refine ⟨ps,?_⟩
 have lc:=Hu (m0:=mu) (tg:=(gTp 2 (Co (gNm 0) (Co (gNm 1) CM)))) (el:=(Cn J9 (Cg (Cj 1) Cm))) (ro:=[none,none]) (mu:=mu) (λd=>match d with|.tup [_,.tup vs]=>D.lst (Ee vs)|_=>.non) ((t.cs.take t.ks).map clD) (λd hd=>by
  obtain ⟨p,hp,rfl⟩:=Ar.mp hd
  refine ⟨[some (.str p.1),some (.tup (p.2.map D.str))],rfl,?_⟩
  have z:=Ud (mu:=mu) (ss:=p.2) (by have:=(tk.vs p (List.mem_of_mem_take hp)).2;omega)
  simp_arith only [z,clD])
 have em:((t.cs.take t.ks).map clD).map (λd=>match d with|.tup [_,.tup vs]=>D.lst (Ee vs)|_=>.non)=ss.map (λss=>.lst (ss.map D.str)):=by
  rw [Bu,← es]
  rfl
 rw [em] at lc
 have rv:DS [.tup ((t.cs.take t.ks).map clD)] mu=some (.lst (ss.map λss=>.lst (ss.map D.str)),mu):=by
  simp_arith only [DS,E6,lc]
 have tf:FR [.lst (ps.map rwD)] mu=some (.tup (ps.map rwD),mu):=rfl
 rw [← List.map_take] at ct
 simp_arith only [Ff,IE,tr,i1,i2,ct,rv,ep,tf]
theorem OW (ks:Nat)(k:List Str):∀ rs:List (List Str),(E4 (rwD k) ((rs.map λr=>(rwD (r.take ks),rwD r)).map (·.1)) ((rs.map λr=>(rwD (r.take ks),rwD r)).map (·.2))).getD .non=FN ks rs k
 | []=>rfl
 | r::rs=>by
  have ih:=OW ks k rs
  unfold FN at ih ⊢
  simp only [A1,E4,QO]
  by_cases c:r.take ks=k
  ·rw [if_pos c,List.find?_cons_of_pos (by simpa using c)]
   rfl
  ·rw [if_neg c,List.find?_cons_of_neg (by simpa using c)]
   exact ih
theorem Su {ks:Nat}{rs:List (List Str)}(nd:((rs.map rwD).map (tkD ks)).Nodup):dctP [.lst (rs.map λr=>.tup [rwD (r.take ks),rwD r])] mu=some (.dct ((rs.map λr=>(rwD (r.take ks),rwD r)).map (·.1)) ((rs.map λr=>(rwD (r.take ks),rwD r)).map (·.2)),mu):=by
 have sq:sq1 [.lst (rs.map λr=>.tup [rwD (r.take ks),rwD r])] mu=some (rs.map λr=>.tup [rwD (r.take ks),rwD r]):=rfl
 have po:∀ qs:List (List Str),PV.pairsOf (qs.map λr=>.tup [rwD (r.take ks),rwD r])=some (qs.map λr=>(rwD (r.take ks),rwD r)):=by
  intro qs
  induction qs with
  | nil=>rfl
  | cons q qs ih =>
   rw [A1,PV.pairsOf,if_pos ((Hn.row _).K (by decide)),ih]
   rfl
 have nd':(([]:List D)++(rs.map λr:List Str=>(rwD (r.take ks),rwD r)).map (λx:D×D=>x.1)).Nodup:=by
  rw [List.nil_append,Bu]
  rw [Bu] at nd
  have:(tkD ks∘rwD)=((λx:D×D=>x.1)∘λr:List Str=>(rwD (r.take ks),rwD r)):=funext λr=>IL ks r
  exact this▸nd
 have pa:=Ku (rs.map λr=>(rwD (r.take ks),rwD r)) [] [] rfl nd'
 unfold dctP
 rw [sq]
 dsimp only
 rw [po]
 dsimp only
 rw [pa]
 rfl
theorem Rv {r:List Str}(hw:∀ x∈r,IsW x)(hl:r.length≤4):GI [rwD r] mu=some (.str (toPy (rwD r)).shown,mu):=by
 refine OF ?_ (Of r) ?_
 ·unfold rwD rok
  rw [Q5]
  intro d hd
  obtain ⟨x,hx,rfl⟩:=Ar.mp hd
  exact hw x hx
 ·have:=O8 (n:=10) (ds:=r.map D.str) λd hd=>by
   obtain ⟨x,hx,rfl⟩:=Ar.mp hd
   exact Ag _
  rw [Ah] at this
  unfold rwD rsz
  omega
theorem QV:GI [.non] mu=some (.str (toPy .non).shown,mu):=OF (by unfold rok;trivial) (by simp [toPy,PyData.depth]) (by unfold rsz;omega)
noncomputable def KH:Sx:=(CJ (Di (Cn (CG 14) (Cg (Cj 2) (Cg (Cj 4) (Cg (eC (.int 3)) Cm)))) (gNm 6)) (CJ (Di (Cn CY (Cg (Cj 3) (Cg (Cj 6) Cm))) (gNm 7)) (sIf (tO (tNt (tV (Hg "bool" (Cj 7)))) (tV (Cq neD (Cj 7) (Cn D5 (Cg (Cj 3) (Cg (Cj 6) Cm)))))) (sRt (eC (.bl false))) (sNx))))
noncomputable def K6:Sx:=(sIf (tV (Cq neD (Cn GI (Cg (Cn FY (Cg (Cj 3) (Cg (Cj 4) (Cg (Cj 9) (Cg (Cj 13) Cm))))) Cm)) (Cn GI (Cg (MV (Cj 12) (Cg (Cj 13) Cm)) Cm)))) (sRt (eC (.bl false))) (sNx))
noncomputable def Ld:Sx:=(CJ (Di (Cn dctP (Cg (eLC (Et (Cj 8)) 1 [11] (gNm 0) (tY) (D4 (Cg (eSl (Cj 0) (pNo) (DD (Cj 1))) (Cg (Cj 0) Cm)))) Cm)) (gNm 12)) (FO (Et (Cn Ff (Cg (Cj 3) (Cg (Cj 9) Cm)))) (gNm 13) K6))
noncomputable def Pd:Sx:=(CJ (Di (Cn El (Cg (Cj 0) (Cg (Cj 1) Cm))) (gNm 2)) (CJ (Di (Cn DN (Cg (Cj 2) (Cg (eC (.int 4)) (Cg (eC (.int 4)) (Cg (eC (.int 4)) Cm))))) (gNm 3)) (CJ (Di (Cn Dt (Cg (Cj 2) (Cg (Cj 3) (Cg (Cq ixG (Ia (Cg (eC (.int 6)) (Cg (eC (.int 16)) Cm))) (Cn Iv (Cg (Cq eqD (Cn Ct (Cg (Cj 2) (Cg (eC (.int 8)) Cm))) (eC (.int 0))) Cm))) Cm)))) (gNm 4)) (CJ (sIf (tO (tV (Cq Mc (Cn CY (Cg (Cj 3) (Cg (Cj 4) Cm))) (eC (.bl true)))) (tV (Cq Mc (Cn CY (Cg (Cj 3) (Cg (Cq QD (D4 (Cg (D4 Cm) Cm)) (Cn Ef (Cg (Cj 3) Cm))) Cm))) (eC (.bl true))))) (sRt (eC (.bl false))) (sNx)) (CJ (FO (iRg (Cg (eC (.int 10)) Cm)) (gNm 5) KH) (FO (Hs (Cg (Cj 4) (Cg (Cj 3) Cm))) (gTp 2 (Co (gNm 8) (Co (gTp 3 (Co (gNm 9) (Co (gNm 10) (Co (gNm 11) CM)))) CM))) Ld))))))
theorem YX {ts:List Tb}(h:Q9 (.tup (ts.map tbD))=true):∀ t∈ts,∀ p∈t.cs,∀ x∈p.2,IsW x:=by
 intro t ht p hp x hx
 have h':((Eh 1 4 (.tup (ts.map tbD))&&(ts.map tbD).all J3)&&HI ((ts.map tbD).map IZ))=true:=h
 rw [Ac,Ac,Aw] at h'
 have:=h'.1.2 (tbD t) (Ar.mpr ⟨t,ht,rfl⟩)
 unfold J3 tbD at this
 dsimp only at this
 rw [Ac,Ac] at this
 have h2:((Eh 1 4 (.tup (t.cs.map clD))&&(t.cs.map clD).all JL)&&ndB ((t.cs.map clD).map IZ))=true:=this.1.2
 rw [Ac,Ac,Aw] at h2
 have h3:=h2.1.2 (clD p) (Ar.mpr ⟨p,hp,rfl⟩)
 unfold JL clD at h3
 dsimp only at h3
 rw [Ac] at h3
 have h4:=h3.2
 unfold GO at h4
 rw [Ac,Ac] at h4
 have h5:(p.2.map D.str).all Hm=true:=h4.2.1
 rw [Aw] at h5
 exact JR.mp (h5 (.str x) (Ar.mpr ⟨x,hx,rfl⟩))
theorem OA:∀ {ts:List Tb} {gs:List (List (List Str))},(ts.map Tb.nm).Nodup->∀ {i:Nat} {t:Tb} {rs:List (List Str)},ts[i]? = some t->gs[i]? = some rs->MN ts gs t.nm=rs∧ts.find? (λu=>decide (u.nm=t.nm))=some t
 | [],_,_,i,t,rs,h,_=>by simp at h
 | u::ts,[],_,i,t,rs,_,h=>by simp at h
 | u::ts,q::gs,nd,0,t,rs,h1,h2=>by
  cases h1;cases h2
  exact ⟨by simp [MN],List.find?_cons_of_pos (by simp)⟩
 | u::ts,q::gs,nd,i+1,t,rs,h1,h2=>by
  rw [A1,Bm] at nd
  have h1':ts[i]? = some t:=h1
  have h2':gs[i]? = some rs:=h2
  have ne:u.nm≠t.nm:=λe=>nd.1 (e▸Ar.mpr ⟨t,Am h1',rfl⟩)
  rw [MN,if_neg ne,List.find?_cons_of_neg (by simpa using ne)]
  exact OA nd.2 h1' h2'
theorem Rl {t:Tb}(ht:Je t)(hv:∀ p∈t.cs,∀ x∈p.2,IsW x){rs:List (List Str)}(hr:∀ r∈rs,RwOk t r)(k:List Str):∃ s,∀ m,GI [FN t.ks rs k] m=some (.str s,m):=by
 unfold FN
 cases q:rs.find? (λr=>decide (r.take t.ks=k)) with
 | none=>exact ⟨_,λm=>QV⟩
 | some r =>
  have ok:=hr r (List.mem_of_find?_eq_some q)
  refine ⟨_,λm=>Rv (λx hx=>?_) (by rw [ok.len];exact ht.c4)⟩
  obtain ⟨i,hi⟩:=AO.mp hx
  have il:i<t.cs.length:=by rw [← ok.len];exact (Ae.mp hi).1
  exact hv _ (BG il) x (ok.at' i x _ hi (Ak il))
theorem Wg {ts:List Tb}{gs:List (List (List Str))}(hS:SOk ts)(hv:∀ t∈ts,∀ p∈t.cs,∀ x∈p.2,IsW x)(hG:Hy ts gs){j:Nat}{t:Tb}{rs:List (List Str)}(h1:ts[j]? = some t)(h2:gs[j]? = some rs){x0 x1 x2 x5 x6 x7 x12 x13:Option D} :
  ∃ y12 y13,Ld [x0,x1,x2,some (.tup (ts.map tbD)),some (.tup (gs.map flD)),x5,x6,x7,some (flD rs),some (.str t.nm),some (.tup (t.cs.map clD)),some (.int t.ks),x12,x13] mu=some ((.nx,[x0,x1,x2,some (.tup (ts.map tbD)),some (.tup (gs.map flD)),x5,x6,x7,some (flD rs),some (.str t.nm),some (.tup (t.cs.map clD)),some (.int t.ks),y12,y13]),mu):=by
 have tm:=Am h1
 have ht:=hS.ok t tm
 have fl:=hG.ok j rs t h2 h1
 obtain ⟨er,ef⟩:=OA hS.nd h1 h2
 have kl:∀ r∈rs,t.ks≤r.length:=λr hr=>by rw [(fl.ok r hr).len];exact ht.k4
 have lc:=Hu (m0:=mu) (tg:=gNm 0) (el:=(D4 (Cg (eSl (Cj 0) (pNo) (DD (Cj 1))) (Cg (Cj 0) Cm)))) (ro:=[none,some (.int t.ks)]) (mu:=mu) (λd=>.tup [tkD t.ks d,d]) (rs.map rwD) (λd hd=>by
  refine ⟨_,rfl,?_⟩
  obtain ⟨r,hm,rfl⟩:=Ar.mp hd
  have cr:=Jk (mu:=mu) (r:=r) (j:=t.ks) (kl r hm)
  rw [IL]
  simp_arith only [cr])
 have em:(rs.map rwD).map (λd=>D.tup [tkD t.ks d,d])=rs.map λr=>.tup [rwD (r.take t.ks),rwD r]:=by
  rw [Bu]
  exact List.map_congr_left λr _=>by simp only [Function.comp,IL]
 rw [em] at lc
 have dr:=Su (mu:=mu) fl.nd
 obtain ⟨ps,ep⟩:=S4 (mu:=mu) hS ef
 generalize hdk:(rs.map λr=>(rwD (r.take t.ks),rwD r)).map (·.1)=dk at dr
 generalize hdv:(rs.map λr=>(rwD (r.take t.ks),rwD r)).map (·.2)=dv at dr
 have gr:∀ k,(E4 (rwD k) dk dv).getD .non=FN t.ks rs k:=λk=>by rw [← hdk,← hdv];exact OW t.ks k rs
 obtain ⟨ro',m',e,⟨y13,rfl⟩,rfl⟩:=EW (m0:=mu) (tg:=gNm 13) (body:=K6) (λi ro m=>(∃ y13,ro=[x0,x1,x2,some (.tup (ts.map tbD)),some (.tup (gs.map flD)),x5,x6,x7,some (flD rs),some (.str t.nm),some (.tup (t.cs.map clD)),some (.int t.ks),some (.dct dk dv),y13])∧m=mu) (ps.map rwD) 0 _ mu ⟨⟨x13,rfl⟩,rfl⟩ λi d ro m ed ⟨⟨y13,er'⟩,em'⟩=>by
   subst er'
   subst em'
   rw [Ap] at ed
   cases q:ps[i]? with
   | none=>rw [q] at ed;cases ed
   | some k =>
    rw [q] at ed
    have ed':rwD k=d:=AB ed
    subst ed'
    have ra:=NJ (mu:=m) hG.len (λj rs' t' h1' h2' r hr=>by rw [((hG.ok j rs' t' h1' h2').ok r hr).len];exact (hS.ok t' (Am h2')).k4) ef (k:=k)
    rw [er] at ra
    obtain ⟨s,hs⟩:=Rl ht (hv t tm) fl.ok k
    have gt:MV (Cj 12) (Cg (Cj 13) Cm) [x0,x1,x2,some (.tup (ts.map tbD)),some (.tup (gs.map flD)),x5,x6,x7,some (flD rs),some (.str t.nm),some (.tup (t.cs.map clD)),some (.int t.ks),some (.dct dk dv),some (rwD k)] m=some (FN t.ks rs k,m):=by
     have e0:Cj 12 [x0,x1,x2,some (.tup (ts.map tbD)),some (.tup (gs.map flD)),x5,x6,x7,some (flD rs),some (.str t.nm),some (.tup (t.cs.map clD)),some (.int t.ks),some (.dct dk dv),some (rwD k)] m=some (.dct dk dv,m):=rfl
     have e1:Cg (Cj 13) Cm [x0,x1,x2,some (.tup (ts.map tbD)),some (.tup (gs.map flD)),x5,x6,x7,some (flD rs),some (.str t.nm),some (.tup (t.cs.map clD)),some (.int t.ks),some (.dct dk dv),some (rwD k)] m=some ([rwD k],m):=rfl
     have e2:EA m (.dct dk dv)=some (dk,dv):=rfl
     unfold MV
     rw [e0,CL,e2,if_pos (show (some (dk,dv)).isSome=true from rfl),e1,CL]
     unfold O5
     rw [e2]
     dsimp only
     rw [if_pos ((Hn.row k).K (by decide)),gr]
    refine ⟨_,m,_,m,rfl,?_,⟨some (rwD k),rfl⟩,rfl⟩
    have ns:=V7 (mu:=m) (s:=s)
    unfold K6
    simp_arith only [ra,hs,gt,ns]
 refine ⟨some (.dct dk dv),y13,?_⟩
 have iv:JE m' (.tup (ps.map rwD))=some ((ps.map rwD,none),m'):=rfl
 have wk:JE m' (flD rs)=some ((rs.map rwD,none),m'):=rfl
 unfold K6 at e
 unfold Ld K6
 simp_arith only [wk,lc,dr,ep,iv,e]
theorem Up {ts:List Tb}{gs:List (List (List Str))}(hS:SOk ts)(hv:∀ t∈ts,∀ p∈t.cs,∀ x∈p.2,IsW x)(hG:Hy ts gs){x0 x1 x2 x5 x6 x7 x8 x9 x10 x11 x12 x13:Option D}{m0:Sto} :
  ∃ y8 y9 y10 y11 y12 y13,D2 none m0 (gTp 2 (Co (gNm 8) (Co (gTp 3 (Co (gNm 9) (Co (gNm 10) (Co (gNm 11) CM)))) CM))) Ld (DE (gs.map flD) (ts.map tbD)) [x0,x1,x2,some (.tup (ts.map tbD)),some (.tup (gs.map flD)),x5,x6,x7,x8,x9,x10,x11,x12,x13] mu=some ((.nx,[x0,x1,x2,some (.tup (ts.map tbD)),some (.tup (gs.map flD)),x5,x6,x7,y8,y9,y10,y11,y12,y13]),mu):=by
 obtain ⟨ro',m',e,⟨y8,y9,y10,y11,y12,y13,rfl⟩,rfl⟩:=EW (m0:=m0) (tg:=(gTp 2 (Co (gNm 8) (Co (gTp 3 (Co (gNm 9) (Co (gNm 10) (Co (gNm 11) CM)))) CM)))) (body:=Ld) (λi ro m=>(∃ y8 y9 y10 y11 y12 y13,ro=[x0,x1,x2,some (.tup (ts.map tbD)),some (.tup (gs.map flD)),x5,x6,x7,y8,y9,y10,y11,y12,y13])∧m=mu) (DE (gs.map flD) (ts.map tbD)) 0 _ mu ⟨⟨x8,x9,x10,x11,x12,x13,rfl⟩,rfl⟩ λj d ro m ed ⟨⟨y8,y9,y10,y11,y12,y13,er⟩,em⟩=>by
   subst er
   subst em
   unfold DE at ed
   rw [Ap,Option.map_eq_some_iff] at ed
   obtain ⟨p,hp,rfl⟩:=ed
   obtain ⟨a,b⟩:=p
   rw [BJ,Ap,Ap,Option.map_eq_some_iff,Option.map_eq_some_iff] at hp
   obtain ⟨⟨rs,h2,rfl⟩,t,h1,rfl⟩:=hp
   obtain ⟨z12,z13,ez⟩:=Wg (mu:=m) hS hv hG h1 h2 (x0:=x0) (x1:=x1) (x2:=x2) (x5:=x5) (x6:=x6) (x7:=x7) (x12:=y12) (x13:=y13)
   exact ⟨_,m,_,m,rfl,ez,⟨_,_,_,_,_,_,rfl⟩,rfl⟩
 exact ⟨y8,y9,y10,y11,y12,y13,e⟩
theorem RE {ts:List Tb}{gs:List (List (List Str))}(hS:SOk ts)(hG:Hy ts gs){k n:Nat}{x0 x1 x5 x6 x7 x8 x9 x10 x11 x12 x13:Option D}(hf:Flat mu)(h:HandOk mu k (n+100)) :
  ∃ y6 y7 m',KH [x0,x1,some (.ref k),some (.tup (ts.map tbD)),some (.tup (gs.map flD)),x5,x6,x7,x8,x9,x10,x11,x12,x13] mu=some ((.nx,[x0,x1,some (.ref k),some (.tup (ts.map tbD)),some (.tup (gs.map flD)),x5,y6,y7,x8,x9,x10,x11,x12,x13]),m')∧Fr k n mu m':=by
 obtain ⟨z,m2,e2,f2,o2⟩:=Pc (k:=k) 13 (n:=n) (deep:=3) (d:=.tup (gs.map flD)) (by decide) hf (h.mono (by omega)) (KJ hS hG)
 have e2':CG 14 [.ref k,.tup (gs.map flD),.int 3] mu=some (z,m2):=e2
 have c1:=HA (mu:=m2) hS o2
 have c2:=Rg (mu:=m2) hS o2
 have ne:neD (.bl (fiB ts z)) (.bl (fiB ts z)) m2=some (.bl false,m2):=by
  cases fiB ts z<;>rfl
 refine ⟨some z,some (.bl (fiB ts z)),m2,?_,f2⟩
 unfold KH
 simp_arith only [e2',c1,c2,ne]
theorem Pt {ts:List Tb}{gs:List (List (List Str))}(hS:SOk ts)(hG:Hy ts gs){k n:Nat}{x0 x1 x5 x6 x7 x8 x9 x10 x11 x12 x13:Option D}(hf:Flat mu)(h:HandOk mu k (n+1000)){m0:Sto} :
  ∃ y5 y6 y7 m',D2 none m0 (gNm 5) KH (EI 0 10) [x0,x1,some (.ref k),some (.tup (ts.map tbD)),some (.tup (gs.map flD)),x5,x6,x7,x8,x9,x10,x11,x12,x13] mu=some ((.nx,[x0,x1,some (.ref k),some (.tup (ts.map tbD)),some (.tup (gs.map flD)),y5,y6,y7,x8,x9,x10,x11,x12,x13]),m')∧Fr k n mu m':=by
 obtain ⟨ro',mu',e,⟨y5,y6,y7,rfl⟩,fr⟩:=EW (m0:=m0) (tg:=gNm 5) (body:=KH) (λi ro m=>(∃ y5 y6 y7,ro=[x0,x1,some (.ref k),some (.tup (ts.map tbD)),some (.tup (gs.map flD)),y5,y6,y7,x8,x9,x10,x11,x12,x13])∧Fr k (n+1000-100*i) mu m) (EI 0 10) 0 _ mu ⟨⟨x5,x6,x7,rfl⟩,.refl h⟩ λj d ro m ed ⟨⟨y5,y6,y7,er⟩,fr⟩=>by
   subst er
   obtain ⟨rfl,hj⟩:=LU ed
   obtain ⟨z6,z7,m1,e1,f1⟩:=RE (mu:=m) hS hG (n:=n+1000-100*(0+j+1)) (x0:=x0) (x1:=x1) (x5:=some (.int j)) (x6:=y6) (x7:=y7) (x8:=x8) (x9:=x9) (x10:=x10) (x11:=x11) (x12:=x12) (x13:=x13) (fr.flat hf) (fr.hand.mono (by omega))
   exact ⟨_,m,_,m1,rfl,e1,⟨_,_,_,rfl⟩,fr.trans f1⟩
 exact ⟨y5,y6,y7,mu',e,fr.mono (by rw [LL];omega)⟩
theorem W6 {i:Nat}{ns:List Int}{x2 x3 x4 x5 x6 x7 x8 x9 x10 x11 x12 x13:Option D}(hi:i<64)(hfl:Flat mu) :
  ∃ y2 y3 y4 y5 y6 y7 y8 y9 y10 y11 y12 y13 m',Pd [some (.lst (ns.map D.int)),some (.int i),x2,x3,x4,x5,x6,x7,x8,x9,x10,x11,x12,x13] mu=some ((.nx,[some (.lst (ns.map D.int)),some (.int i),y2,y3,y4,y5,y6,y7,y8,y9,y10,y11,y12,y13]),m')∧Flat m':=by
 obtain ⟨o,e1,h1⟩:=Sd (mu:=mu) (k:=i) (n:=2000) (ns:=ns) hi (by decide)
 have fl1:Flat (mu++[o]):=by
  intro j q hq
  by_cases c:j=mu.length
  ·subst c
   obtain ⟨_,_,_,h,_⟩:=h1
   rw [h] at hq
   cases hq
   rfl
  ·have:j<(mu++[o]).length:=(Ae.mp hq).1
   simp at this
   rw [Ay (by omega)] at hq
   exact hfl j q hq
 obtain ⟨_,m2,e2,f2,ds,rfl,sb,ok⟩:=Nq (n:=1900) (a:=4) (b:=4) (c:=4) (by decide) (by decide) (by decide) (by decide) (by decide) (by decide) fl1 (h1.mono (by decide))
 obtain ⟨ts,et,hS⟩:=U4 sb
 have ed:ds=ts.map tbD:=by injection et
 subst ed
 have hv:=YX sb
 have e2':DN [.ref mu.length,.int 4,.int 4,.int 4] (mu++[o])=some (.tup (ts.map tbD),m2):=e2
 have fl2:=f2.flat fl1
 obtain ⟨_,mt,et,ft,t1,rfl,a0,a1⟩:=Dr (m:=8) (n:=1899) f2.hand (by decide) (by decide)
 have flt:=ft.flat fl2
 obtain ⟨w,hw,ew⟩:∃ w:Nat,w≤16∧Cq ixG (Ia (Cg (eC (.int 6)) (Cg (eC (.int 16)) Cm))) (Cn Iv (Cg (Cq eqD (Cn Ct (Cg (Cj 2) (Cg (eC (.int 8)) Cm))) (eC (.int 0))) Cm)) [some (.lst (ns.map D.int)),some (.int i),some (.ref mu.length),some (.tup (ts.map tbD)),x4,x5,x6,x7,x8,x9,x10,x11,x12,x13] m2=some (.int w,mt):=by
  by_cases c:t1=0
  ·refine ⟨16,Ag _,?_⟩
   have iF:Iv [.bl true] mt=some (.int 1,mt):=rfl
   have ix:ixG (.lst [.int 6,.int 16]) (.int 1) mt=some (.int (16:Nat),mt):=rfl
   simp_arith only [et,c,iF,ix]
  ·refine ⟨6,by decide,?_⟩
   have iF:Iv [.bl false] mt=some (.int 0,mt):=rfl
   have ix:ixG (.lst [.int 6,.int 16]) (.int 0) mt=some (.int (6:Nat),mt):=rfl
   have c1:decide (t1=0)=false:=by simp [c]
   simp_arith only [et,c1,iF,ix]
 obtain ⟨_,m3,e3,f3,gs,rfl,hG⟩:=Mt (n:=1500) hw hS flt (ft.hand.mono (by decide))
 have fl3:=f3.flat flt
 have i1:=HA (mu:=m3) hS (LQ (show 40≤41 by decide) (KJ hS hG))
 rw [TV hS hG] at i1
 have i2:=HA (mu:=m3) hS (Uq hS.l4)
 rw [UP] at i2
 have mn:=S8 (mu:=m3) hS.l1 hS.l4
 obtain ⟨y5,y6,y7,m4,e4,f4⟩:=Pt (mu:=m3) hS hG (k:=mu.length) (n:=100) (x0:=some (.lst (ns.map D.int))) (x1:=some (.int i)) (x5:=x5) (x6:=x6) (x7:=x7) (x8:=x8) (x9:=x9) (x10:=x10) (x11:=x11) (x12:=x12) (x13:=x13) fl3 (f3.hand.mono (by decide)) (m0:=m3)
 obtain ⟨y8,y9,y10,y11,y12,y13,e5⟩:=Up (mu:=m4) (m0:=m4) hS hv hG (x0:=some (.lst (ns.map D.int))) (x1:=some (.int i)) (x2:=some (.ref mu.length)) (x5:=y5) (x6:=y6) (x7:=y7) (x8:=x8) (x9:=x9) (x10:=x10) (x11:=x11) (x12:=x12) (x13:=x13)
 have rg1:∀ (ro:Ro) (m:Sto),iRg (Cg (eC (.int 10)) Cm) ro m=some ((EI 0 10,none),m):=λro m=>Qo (n:=10) rfl (by decide) (by rw [AS];decide)
 have zp:∀ (x5 x6 x7:Option D),Hs (Cg (Cj 4) (Cg (Cj 3) Cm)) [some (.lst (ns.map D.int)),some (.int i),some (.ref mu.length),some (.tup (ts.map tbD)),some (.tup (gs.map flD)),x5,x6,x7,x8,x9,x10,x11,x12,x13] m4=some ((DE (gs.map flD) (ts.map tbD),none),m4):=λx5 x6 x7=>JV (by simp_arith only [])
 have isn:Mc (.bl true) (.bl true) m3=some (.bl false,m3):=rfl
 refine ⟨some (.ref mu.length),some (.tup (ts.map tbD)),some (.tup (gs.map flD)),y5,y6,y7,y8,y9,y10,y11,y12,y13,m4,?_,f4.flat fl3⟩
 have e3':Cn Dt (Cg (Cj 2) (Cg (Cj 3) (Cg (Cq ixG (Ia (Cg (eC (.int 6)) (Cg (eC (.int 16)) Cm))) (Cn Iv (Cg (Cq eqD (Cn Ct (Cg (Cj 2) (Cg (eC (.int 8)) Cm))) (eC (.int 0))) Cm))) Cm))) [some (.lst (ns.map D.int)),some (.int i),some (.ref mu.length),some (.tup (ts.map tbD)),x4,x5,x6,x7,x8,x9,x10,x11,x12,x13] m2=some (.tup (gs.map flD),m3):=by
  generalize hE:Cq ixG (Ia (Cg (eC (.int 6)) (Cg (eC (.int 16)) Cm))) (Cn Iv (Cg (Cq eqD (Cn Ct (Cg (Cj 2) (Cg (eC (.int 8)) Cm))) (eC (.int 0))) Cm))=E at ew
  simp_arith only [ew,e3]
 unfold Pd
 generalize hF:Cn Dt (Cg (Cj 2) (Cg (Cj 3) (Cg (Cq ixG (Ia (Cg (eC (.int 6)) (Cg (eC (.int 16)) Cm))) (Cn Iv (Cg (Cq eqD (Cn Ct (Cg (Cj 2) (Cg (eC (.int 8)) Cm))) (eC (.int 0))) Cm))) Cm)))=F at e3'
 simp_arith only [e1,e2',e3',Ah,i1,isn,mn,i2,rg1,e4,zp,e5]
theorem TF (ns:List Int):∃ mu',K2 [.lst (ns.map .int)] []=some (.bl true,mu'):=by
 obtain ⟨N,hN,h2,h5⟩:∃ N:Nat,(if (if (ns.length:Int)<5 then (ns.length:Int) else 5) > 2 then (if (ns.length:Int)<5 then (ns.length:Int) else 5) else 2)=(N:Int)∧2≤N∧N≤5:=by
  refine ⟨(if (if (ns.length:Int)<5 then (ns.length:Int) else 5) > 2 then (if (ns.length:Int)<5 then (ns.length:Int) else 5) else 2).toNat,?_,?_,?_⟩<;>split<;>split<;>omega
 obtain ⟨ro',mu',e,⟨y1,y2,y3,y4,y5,y6,y7,y8,y9,y10,y11,y12,y13,rfl⟩,_⟩:=EW (m0:=[]) (tg:=gNm 1) (body:=Pd) (λi ro m=>(∃ y1 y2 y3 y4 y5 y6 y7 y8 y9 y10 y11 y12 y13,ro=[some (.lst (ns.map D.int)),y1,y2,y3,y4,y5,y6,y7,y8,y9,y10,y11,y12,y13])∧Flat m) (EI 0 N) 0 [some (.lst (ns.map D.int)),none,none,none,none,none,none,none,none,none,none,none,none,none] [] ⟨⟨_,_,_,_,_,_,_,_,_,_,_,_,_,rfl⟩,λj o h=>by simp at h⟩ λj d ro m ed ⟨⟨y1,y2,y3,y4,y5,y6,y7,y8,y9,y10,y11,y12,y13,er⟩,fl⟩=>by
   subst er
   obtain ⟨rfl,hj⟩:=LU ed
   obtain ⟨z2,z3,z4,z5,z6,z7,z8,z9,z10,z11,z12,z13,m',e,fl'⟩:=W6 (mu:=m) (i:=j) (ns:=ns) (x2:=y2) (x3:=y3) (x4:=y4) (x5:=y5) (x6:=y6) (x7:=y7) (x8:=y8) (x9:=y9) (x10:=y10) (x11:=y11) (x12:=y12) (x13:=y13) (by omega) fl
   exact ⟨_,m,_,m',rfl,e,⟨_,_,_,_,_,_,_,_,_,_,_,_,_,rfl⟩,fl'⟩
 refine ⟨mu',?_⟩
 have mn:Ma [.int 5,.int (ns.length:Int)] []=some (.int (if (ns.length:Int)<5 then (ns.length:Int) else 5),[]):=rfl
 have mx:So [.int 2,.int (if (ns.length:Int)<5 then (ns.length:Int) else 5)] []=some (.int N,[]):=by
  rw [← hN]
  rfl
 have rg:=Qo (mu:=[]) (ro:=[some (.lst (ns.map D.int)),none,none,none,none,none,none,none,none,none,none,none,none,none]) (r:=(Cg (Cn So (Cg (eC (.int 2)) (Cg (Cn Ma (Cg (eC (.int 5)) (Cg (Cn Ef (Cg (Cj 0) Cm)) Cm))) Cm))) Cm)) (n:=N) (m:=[]) (by simp_arith only [Ah,mn,mx]) (by omega) (by rw [AS];omega)
 rw [Int.toNat_natCast] at rg
 unfold Pd KH Ld K6 at e
 simp_arith only [K2,SH,rg,e]
end PG
namespace PG
open PySem L2 PV PyProof.Rows
@[elab_as_elim] theorem SQ {P:List Value->Prop}(us:List Value)(hl:us.length=1)(h:∀ a0,P [a0]):P us:=by
 match us,hl with
 | [_],_=>exact h _
@[elab_as_elim] theorem Kj {P:List Value->Prop}(us:List Value)(hl:us.length=2)(h:∀ a0 a1,P [a0,a1]):P us:=by
 match us,hl with
 | [_,_],_=>exact h _ _
@[elab_as_elim] theorem SJ {P:List Value->Prop}(us:List Value)(hl:us.length=3)(h:∀ a0 a1 a2,P [a0,a1,a2]):P us:=by
 match us,hl with
 | [_,_,_],_=>exact h _ _ _
@[elab_as_elim] theorem YC {P:List Value->Prop}(us:List Value)(hl:us.length=4)(h:∀ a0 a1 a2 a3,P [a0,a1,a2,a3]):P us:=by
 match us,hl with
 | [_,_,_,_],_=>exact h _ _ _ _
noncomputable def FH (K:PySem.W.Frag)(x:Str)(st:Stmt):Prop:=∃ (f:Addr) (oc kV dc pm cd ct:Value) (od an:Option Addr) (sl:Array (Option Value)),PySem.W.nsIn K mainGlobals x=some (some (.ref f))∧K.lookup f=some ⟨oc,od,.func (PySem.W.fnOf x x (Ge st) (Ek st) (Cr st) .none kV dc pm an cd ct),sl⟩∧PySem.W.codeIn K cd x=true∧PySem.W.keepIn K (.ref f)=true
theorem fh {K:PySem.W.Frag}{x:Str}{st:Stmt}{f:Addr}{oc kV dc pm cd ct:Value}{od an:Option Addr}{sl:Array (Option Value)}(a:PySem.W.nsIn K mainGlobals x=some (some (.ref f)))(l:K.lookup f=some ⟨oc,od,.func (PySem.W.fnOf x x (Ge st) (Ek st) (Cr st) .none kV dc pm an cd ct),sl⟩)(c:PySem.W.codeIn K cd x=true)(k:PySem.W.keepIn K (.ref f)=true):FH K x st:=⟨f,oc,kV,dc,pm,cd,ct,od,an,sl,a,l,c,k⟩
theorem FH.go {K:PySem.W.Frag}{x:Str}{st:Stmt}{h:Heap}{mg:Str->Option Value}(H:FH K x st)(X:K.In h)(G:h.Ns mainGlobals mg):∃ f fd,Fun K x x st f fd∧mg x=some (.ref f):=by
 obtain ⟨_,_,_,_,_,_,_,_,_,_,a,l,c,k⟩:=H
 exact ⟨_,_,RB l c k,PySem.W.mg_of X G a⟩
set_option maxHeartbeats 0 in
theorem all_mk {l:PySem.W.OpenLaw}{w:World}{K:PySem.W.Frag}{h:Heap}{mg:Str->Option Value}{fa:Addr}(X:K.In h)(G:h.Ns mainGlobals mg)(hfa:mg "law"=some (.ref fa))
  (h1:FH K "is_tuple" GC) (h2:FH K "are_unlike" E9) (h3:FH K "is_rising" EY) (h4:FH K "product" FX) (h5:FH K "is_row" GY) (h6:FH K "are_rows" EN) (h7:FH K "is_filling" EH) (h8:FH K "row_with_key" Ew) (h9:FH K "row_at" HW) (h10:FH K "table_of" Fo) (h11:FH K "rising_values" DT) (h12:FH K "keys_of" Hb) (h13:FH K "_law_hand" Ga) (h14:FH K "_law_take" F9) (h15:FH K "_law_pick" Gp) (h16:FH K "_law_words" EZ) (h17:FH K "_law_schema" Eu) (h18:FH K "_law_filling" Ei) (h19:FH K "_law_rows_fit" Eb) (h20:FH K "_law_fits" Fq) (h21:FH K "_law_odd" G9) (h22:FH K "_law_put_in" E8) (h23:FH K "law" IW)
  (z1:PySem.W.nsIn K mainGlobals "all"=some none) (z2:PySem.W.nsIn K mainGlobals "bool"=some none) (z3:PySem.W.nsIn K mainGlobals "dict"=some none) (z4:PySem.W.nsIn K mainGlobals "int"=some none) (z5:PySem.W.nsIn K mainGlobals "isinstance"=some none) (z6:PySem.W.nsIn K mainGlobals "len"=some none) (z7:PySem.W.nsIn K mainGlobals "list"=some none) (z8:PySem.W.nsIn K mainGlobals "max"=some none) (z9:PySem.W.nsIn K mainGlobals "min"=some none) (z10:PySem.W.nsIn K mainGlobals "range"=some none) (z11:PySem.W.nsIn K mainGlobals "repr"=some none) (z12:PySem.W.nsIn K mainGlobals "set"=some none) (z13:PySem.W.nsIn K mainGlobals "sorted"=some none) (z14:PySem.W.nsIn K mainGlobals "str"=some none) (z15:PySem.W.nsIn K mainGlobals "tuple"=some none) (z16:PySem.W.nsIn K mainGlobals "zip"=some none)
   :
  ∃ fd:FuncData,(∀ (s:Shared) (v:Value),BindsTo s fd ⟨[v],[]⟩ [("_law_script",v)])∧∀ base:Heap,K.In base->base.Ns mainGlobals mg->D3 l.prog w K mg base CX0 19 fa fd ["_law_script"] (spF ⟨K,l.prog,w⟩ K2 1):=by
 have T:Tx K mg:=⟨AZ X G z1,AZ X G z2,AZ X G z3,AZ X G z4,AZ X G z5,AZ X G z6,AZ X G z7,AZ X G z8,AZ X G z9,AZ X G z10,AZ X G z11,AZ X G z12,AZ X G z13,AZ X G z14,AZ X G z15,AZ X G z16⟩
 obtain ⟨_,_,kV,dc,pm,cd,ct,_,an,_,a,lk,c,k⟩:=h23
 cases hfa.symm.trans (PySem.W.mg_of X G a)
 refine ⟨PySem.W.fnOf "law" "law" (Ge IW) (Ek IW) (Cr IW) .none kV dc pm an cd ct,λs v=>.of_eq rfl,λbase _ _=>?_⟩
 obtain ⟨_,_,F,m⟩:=h1.go X G
 have C1:=Dx (P:=l.prog) (w:=w) (base:=base) F m (Ml F T ) (F.binds λ_ _ _ _ _ _ us hl=>SJ us hl λ_ _ _=>rfl)
 obtain ⟨_,_,F,m⟩:=h2.go X G
 have C2:=Dx (P:=l.prog) (w:=w) (base:=base) F m (Kf F T ) (F.binds λ_ _ _ _ _ _ us hl=>SQ us hl λ_=>rfl)
 obtain ⟨_,_,F,m⟩:=h3.go X G
 have C3:=Dx (P:=l.prog) (w:=w) (base:=base) F m (Lo F T ) (F.binds λ_ _ _ _ _ _ us hl=>SQ us hl λ_=>rfl)
 obtain ⟨_,_,F,m⟩:=h4.go X G
 have C4:=Dx (P:=l.prog) (w:=w) (base:=base) F m (NY F T ) (F.binds λ_ _ _ _ _ _ us hl=>SQ us hl λ_=>rfl)
 obtain ⟨_,_,F,m⟩:=h5.go X G
 have C5:=Dx (P:=l.prog) (w:=w) (base:=base) F m (PR F T C1) (F.binds λ_ _ _ _ _ _ us hl=>Kj us hl λ_ _=>rfl)
 obtain ⟨_,_,F,m⟩:=h6.go X G
 have C6:=Dx (P:=l.prog) (w:=w) (base:=base) F m (MR F T C5 C3 C2) (F.binds λ_ _ _ _ _ _ us hl=>Kj us hl λ_ _=>rfl)
 obtain ⟨_,_,F,m⟩:=h7.go X G
 have C7:=Dx (P:=l.prog) (w:=w) (base:=base) F m (Ko F T C1 C6) (F.binds λ_ _ _ _ _ _ us hl=>Kj us hl λ_ _=>rfl)
 obtain ⟨_,_,F,m⟩:=h8.go X G
 have C8:=Dx (P:=l.prog) (w:=w) (base:=base) F m (Jb F T ) (F.binds λ_ _ _ _ _ _ us hl=>SJ us hl λ_ _ _=>rfl)
 obtain ⟨_,_,F,m⟩:=h9.go X G
 have C9:=Dx (P:=l.prog) (w:=w) (base:=base) F m (Qu F T C8) (F.binds λ_ _ _ _ _ _ us hl=>YC us hl λ_ _ _ _=>rfl)
 obtain ⟨_,_,F,m⟩:=h10.go X G
 have C10:=Dx (P:=l.prog) (w:=w) (base:=base) F m (Mm F T ) (F.binds λ_ _ _ _ _ _ us hl=>Kj us hl λ_ _=>rfl)
 obtain ⟨_,_,F,m⟩:=h11.go X G
 have C11:=Dx (P:=l.prog) (w:=w) (base:=base) F m (Iu F T ) (F.binds λ_ _ _ _ _ _ us hl=>SQ us hl λ_=>rfl)
 obtain ⟨_,_,F,m⟩:=h12.go X G
 have C12:=Dx (P:=l.prog) (w:=w) (base:=base) F m (N9 F T C10 C4 C11) (F.binds λ_ _ _ _ _ _ us hl=>Kj us hl λ_ _=>rfl)
 obtain ⟨_,_,F,m⟩:=h13.go X G
 have C13:=Dx (P:=l.prog) (w:=w) (base:=base) F m (M3 F T ) (F.binds λ_ _ _ _ _ _ us hl=>Kj us hl λ_ _=>rfl)
 obtain ⟨_,_,F,m⟩:=h14.go X G
 have C14:=Dx (P:=l.prog) (w:=w) (base:=base) F m (My F T ) (F.binds λ_ _ _ _ _ _ us hl=>Kj us hl λ_ _=>rfl)
 obtain ⟨_,_,F,m⟩:=h15.go X G
 have C15:=Dx (P:=l.prog) (w:=w) (base:=base) F m (MS F T C14) (F.binds λ_ _ _ _ _ _ us hl=>Kj us hl λ_ _=>rfl)
 obtain ⟨_,_,F,m⟩:=h16.go X G
 have C16:=Dx (P:=l.prog) (w:=w) (base:=base) F m (L4 F T C14 C15) (F.binds λ_ _ _ _ _ _ us hl=>SJ us hl λ_ _ _=>rfl)
 obtain ⟨_,_,F,m⟩:=h17.go X G
 have C17:=Dx (P:=l.prog) (w:=w) (base:=base) F m (Kk F T C16 C14) (F.binds λ_ _ _ _ _ _ us hl=>YC us hl λ_ _ _ _=>rfl)
 obtain ⟨_,_,F,m⟩:=h18.go X G
 have C18:=Dx (P:=l.prog) (w:=w) (base:=base) F m (JB F T C14 C15) (F.binds λ_ _ _ _ _ _ us hl=>SJ us hl λ_ _ _=>rfl)
 obtain ⟨_,_,F,m⟩:=h19.go X G
 have C19:=Dx (P:=l.prog) (w:=w) (base:=base) F m (Jg F T ) (F.binds λ_ _ _ _ _ _ us hl=>Kj us hl λ_ _=>rfl)
 obtain ⟨_,_,F,m⟩:=h20.go X G
 have C20:=Dx (P:=l.prog) (w:=w) (base:=base) F m (MD F T C19) (F.binds λ_ _ _ _ _ _ us hl=>Kj us hl λ_ _=>rfl)
 obtain ⟨_,_,F,m⟩:=h21.go X G
 have C21:=Dx (P:=l.prog) (w:=w) (base:=base) F m (Nm F T C15) (F.binds λ_ _ _ _ _ _ us hl=>SQ us hl λ_=>rfl)
 obtain ⟨_,_,F,m⟩:=h22.go X G
 have b:=F.binds (ps:=["_law_hand_here","_law_thing","_law_deep"]) λ_ _ _ _ _ _ us hl=>SJ us hl λ_ _ _=>rfl
 have C22:=Dx (P:=l.prog) (w:=w) (base:=base) F m (Hk F m b T C14 C21 14) b
 exact VT (RB lk c k) T C13 C17 C18 C14 C7 C22 C20 C12 C9
theorem Mq {K:Zc}{th:List Addr}{H:Hp}:∀ ns:List Int,RepL K th H (ns.map D.int) (ns.map V.int)
 | []=>.nil
 | i::ns=>.cons rfl (Mq ns)
theorem walk {l:PySem.W.OpenLaw}{q:Program}{loose:List Str}{XP:(Str->Option Value)->Heap->Prop}{YP:World->Heap->Prop}{d:DefRec}{K:Params->PySem.W.Frag}(hn:l.most=some 63)(hdf:d.params.defaults=[])
  (hY:∀ (w:World) (h:Heap),YP w h->(K w.params).In h)
  (F:∀ (w:World) (mg:Str->Option Value) (fa:Addr) (h:Heap),(K w.params).In h->h.Ns mainGlobals mg->mg d.name=some (.ref fa) ->
   ∃ fd:FuncData,(∀ (s:Shared) (u:Value),BindsTo s fd ⟨[u],[]⟩ [("_law_script",u)])∧∀ base:Heap,(K w.params).In base->base.Ns mainGlobals mg->D3 l.prog w (K w.params) mg base CX0 19 fa fd ["_law_script"] (spF ⟨K w.params,l.prog,w⟩ K2 1)) :
  PySem.W.WalkO q loose XP YP l.row.toRowW d [] (λf vs=>PySem.call f vs):=
 L2.U1 (n:=63) (k:=19) (x:="_law_script") (CX:=λ_=>CX0) (sp:=λw=>spF ⟨K w.params,l.prog,w⟩ K2 1) hn (by decide) hdf ⟨rfl,by decide,by decide,rfl⟩ hY F (λw H a ns hl _ hS=>by
  obtain ⟨mu',e⟩:=TF ns
  refine ⟨[],[],[.lst (ns.map D.int)],⟨rfl,List.nodup_nil,λk a o e=>by simp at e⟩,.cons ?_ .nil,rfl,.bl true,mu',e,λth' H' _ _ v rv=>rv⟩
  unfold Rep
  refine ⟨a,ns.map V.int,rfl,?_,Mq ns,by rw [Ah];exact AJ hl (by decide)⟩
  rcases hS with hS|hS
  ·exact .inl ⟨by simp,hS⟩
  ·exact .inr hS) λ_ _ _ _ _ z=>z
end PG
local macro_rules|`({ scope:=$a,locals:=$b,globals:=$c,cells:=[],code:=$d,frame:=some $_ })=>`({ scope:=$a,locals:=$b,globals:=$c,cells:=[],code:=$d,frame:=none })
open PySem PySem.W PyProof.Rows
set_option maxRecDepth 100000 in
set_option maxHeartbeats 0 in
theorem PySem.Challenge.cw_lookback_k04_fillings_or_not_holds : PySem.Challenge.rw_lookback_k04_fillings_or_not.Holds := by
 w_on;o_law;k_head;(case hw=>w_witness2)
 k_fill
 refine PG.walk (l:=PySem.Challenge.rw_lookback_k04_fillings_or_not) rfl rfl (λw h Y=>PySem.W.kIn_of Y) ?F
 case F =>
  intro w mg fa h KX G hmg
  refine' PG.all_mk KX G hmg ?h1 ?h2 ?h3 ?h4 ?h5 ?h6 ?h7 ?h8 ?h9 ?h10 ?h11 ?h12 ?h13 ?h14 ?h15 ?h16 ?h17 ?h18 ?h19 ?h20 ?h21 ?h22 ?h23 ?z1 ?z2 ?z3 ?z4 ?z5 ?z6 ?z7 ?z8 ?z9 ?z10 ?z11 ?z12 ?z13 ?z14 ?z15 ?z16
  case h1|h2|h3|h4|h5|h6|h7|h8|h9|h10|h11|h12|h13|h14|h15|h16|h17|h18|h19|h20|h21|h22|h23=>(refine' PG.fh ?a ?l ?c ?k;(case a=>k_is);(case l=>k_is);(case c=>k_is);(case k=>k_is))
  (case z1=>k_is);(case z2=>k_is);(case z3=>k_is);(case z4=>k_is);(case z5=>k_is);(case z6=>k_is)
  (case z7=>k_is);(case z8=>k_is);(case z9=>k_is);(case z10=>k_is);(case z11=>k_is);(case z12=>k_is)
  (case z13=>k_is);(case z14=>k_is);(case z15=>k_is);(case z16=>k_is)
