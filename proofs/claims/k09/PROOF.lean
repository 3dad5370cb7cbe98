import PyProof.Rows.All
import Wide.All
import OpenK.AllK
import Wide.FinOn
import Lean
import PyProof.EqAt
import PyProof.EqKinds
import PyProof.TupleCall
import PySem.Challenge.RW_lookback_k09_changes_or_not
set_option Elab.async false
set_option linter.all false
set_option compiler.extract_closed false
set_option maxRecDepth 100000
def Aa:=@PySem.wpAny_bind
def Ab:=@Bool.and_eq_true
def Ac:=@PySem.wpAny_pure
def Ad:=@PySem.Heap.get?_push_of_some
def Ae:=@List.getElem?_eq_some_iff
def Af:=@decide_eq_true_eq
def Ag:=@List.length_map
def Ah:=@List.getElem?_eq_getElem
def Ai:=@Nat.le_refl
def Aj:=@PySem.Heap.get?_push_size
def Ak:=@List.mem_of_getElem?
def Al:=@List.getElem?_map
def Am:=@List.mem_cons
def An:=@List.size_toArray
def Ao:=@PySem.Heap.lt_size
def Ap:=@List.mem_map
def Aq:=@Array.getElem?_eq_getElem
def Ar:=@List.length_append
def As:=@List.getElem?_append_left
def Au:=@List.all_eq_true
def Av:=@Bool.false_eq_true
def Aw:=@List.mem_singleton
def Ax:=@Array.getElem?_toList
def Ay:=@Nat.ne_of_lt
def Az:=@List.length_take
def AA:=@PySem.Heap.SameBut.update
def AB:=@Option.some.inj
def AD:=@List.mem_append_right
def AE:=@List.nodup_iff_pairwise_ne
def AF:=@Nat.lt_of_lt_of_le
def AG:=@Bool.false_ne_true
def AH:=@PySem.sizeLine_eq
def AI:=@PySem.wpAny_holding
def AJ:=@List.not_mem_nil
def AK:=@List.mem_iff_getElem?
def AL:=@List.mem_append
def AM:=@PySem.wpAny_callSpecial?_slot
def AN:=@List.getD_eq_getElem?_getD
def AO:=@PySem.wpAny_call_entry
def AQ:=@Nat.le_trans
def AR:=@List.getElem?_take_of_lt
def AS:=@PySem.Heap.get?_update_self
def AU:=@PySem.wpAny_newObj_type
def AV:=@List.getElem?_set_ne
def AW:=@List.getElem?_append_right
def AX:=@List.mem_range
def AY:=@PyProof.Rows.slot_tuple_getitem
def AZ:=@Nat.zero_le
def A0:=@if_false
def A1:=@Nat.lt_succ_self
def A3:=@decide_eq_false
def A4:=@PySem.W.mg_none_of
def A5:=@Nat.lt_succ_of_lt
def A6:=@PySem.wpAny_setState_of
def A7:=@List.getElem?_eq_none
def A8:=@PySem.wpAny_loadPart'
def A9:=@PySem.Heap.size_push
def Ba:=@PyProof.Rows.F.plain_set_update_loop
def Bb:=@Array.getD_eq_getD_getElem?
def Bc:=@PySem.Around.under_plainId
def Bd:=@PySem.W.kia_one
def Be:=@Nat.lt_irrefl
def Bf:=@List.map_cons
def Bg:=@PySem.codeAny_builtin
def Bh:=@List.mem_append_left
def Bi:=@PySem.wpAny_truthy_bool
def Bj:=@PySem.wpAny_setField
def Bk:=@Array.getElem?_eq_none
def Bl:=@List.pairwise_map
def Bm:=@Option.isSome_iff_exists
def Bn:=@Int.emod_lt_of_pos
def Bo:=@List.map_take
def Bp:=@PySem.wpAny_field
def Bq:=@Nat.zero_add
def Br:=@List.nodup_cons
def Bs:=@List.map_append
def Bt:=@Bool.or_eq_true
def Bu:=@List.length_drop
def Bv:=@decide_eq_true
def Bw:=@PySem.F.slot_dict_valueiterator_next
def Bx:=@List.length_range
def By:=@PySem.Heap.get?_update_other
def Bz:=@PySem.wpAny_seqItems
def BA:=@PySem.wpAny_dictEpoch
def BB:=@Int.emod_nonneg
def BC:=@PySem.F.slot_dict_keyiterator_next
def BD:=@List.getElem_mem
def BE:=@List.Pairwise.imp_of_mem
def BF:=@Bool.true_and
def BG:=@or_false
def BH:=@Nat.lt_or_ge
def BI:=@PySem.wpAny_dictEntries
def BJ:=@List.mem_of_mem_drop
def BK:=@List.pairwise_cons
def BL:=@Bool.eq_iff_iff
def BM:=@PySem.PassesOwn.never
def BN:=@List.map_map
def BP:=@List.pairwise_iff_getElem
def BQ:=@Classical.byContradiction
def BR:=@PySem.F.slot_dict_eq_refl
def BS:=@PySem.wpAny_rule
def BU:=@PyProof.Rows.F.entry_set_update_loop
def BV:=@List.ext_getElem?
def BW:=@List.Perm.refl
def BX:=@Bool.and_self
def BY:=@PySem.wpAny_typeOf
def BZ:=@List.mem_cons_of_mem
def B0:=@Bool.and_true
def B1:=@Nat.lt_trichotomy
def B2:=@PySem.SeqAt.rc_eq_decline_or
def B3:=@PySem.F.args_dict_eq_2
def B4:=@PyProof.Rows.boot_tuple
def B5:=@List.of_mem_zip
def B6:=@PySem.F.entry_dict_eq
def B7:=@PySem.wpAny_isInstance
def B8:=@Nat.lt_or_eq_of_le
def B9:=@PySem.wpAny_typeNameOfWhole_keyiter
def Ca:=@PySem.wpAny_typeNameOfWhole_valiter
def Cb:=@PySem.F.slot_dict_eq
def Cc:=@List.getElem?_replicate
def Cd:=@List.forIn_cons
def Ce:=@PySem.wpAny_updateSeq
def Cf:=@PySem.mem_of_lookup
def Cg:=@PyProof.Rows.callWith_type1
def Ci:=@List.nodup_range
def Cj:=@PySem.F.slot_tuple_iterator_next
namespace L2
open PySem PySem.Spec PyProof.Rows
noncomputable abbrev Key:=Sum Int Str
noncomputable def VH:Key->Value->Bool
 | .inl k,v=>Value.isInt k v
 | .inr x,v=>Value.isStrOf x v
noncomputable def Z6 (w:World):Key->Int
 | .inl k=>hashInt k
 | .inr x=>hashStr w x
theorem DT:∀ {k:Key} {v:Value},VH k v=true->(∃ i t,k=Sum.inl i∧v=Value.int i t)∨(∃ x t,k=Sum.inr x∧v=Value.str x t)
 | .inl i,v,h=>by
  obtain ⟨t,e⟩:=Value.isInt_shape (k:=i) (v:=v) h
  exact .inl ⟨i,t,rfl,e⟩
 | .inr x,v,h=>by
  obtain ⟨t,e⟩:=Value.isStrOf_shape (x:=x) (v:=v) h
  exact .inr ⟨x,t,rfl,e⟩
theorem W4 (a b:Int):decide ((Sum.inl a:Key)=Sum.inl b)=(a==b):=by
 by_cases e:a=b
 ·subst e;simp
 ·have h:¬ (Sum.inl a:Key)=Sum.inl b:=λq=>e (Sum.inl.inj q)
  rw [A3 h]
  exact (beq_eq_false_iff_ne.mpr e).symm
theorem Xg (a b:Str):decide ((Sum.inr a:Key)=Sum.inr b)=decide (a=b):=by
 by_cases e:a=b
 ·subst e;simp
 ·have h:¬ (Sum.inr a:Key)=Sum.inr b:=λq=>e (Sum.inr.inj q)
  rw [A3 h,A3 e]
theorem We (a:Int)(b:Str):decide ((Sum.inl a:Key)=Sum.inr b)=false:=A3 (λq=>nomatch q)
theorem Wa (a:Str)(b:Int):decide ((Sum.inr a:Key)=Sum.inl b)=false:=A3 (λq=>nomatch q)
noncomputable def OG (prog:Program)(w:World):PySem.KeyKind prog w Key where
 is:=VH
 hash:=Z6 w
 inj:=λv a b ha hb=>by
  rcases DT ha with ⟨i,t,rfl,rfl⟩|⟨x,t,rfl,rfl⟩
  ·rcases DT hb with ⟨j,u,rfl,e⟩|⟨y,u,rfl,e⟩
   ·injection e with e1 _;rw [e1]
   ·exact nomatch e
  ·rcases DT hb with ⟨j,u,rfl,e⟩|⟨y,u,rfl,e⟩
   ·exact nomatch e
   ·injection e with e1 _;rw [e1]
 byValue:=λk v h=>by
  rcases DT h with ⟨i,t,rfl,rfl⟩|⟨x,t,rfl,rfl⟩<;>rfl
 pyHash:=λhv h=>by
  rcases DT hv with ⟨i,t,rfl,rfl⟩|⟨x,t,rfl,rfl⟩
  ·exact wpAny_pyHash_int h
  ·exact wpAny_pyHash_str h
 eqBool:=λhu hv h=>by
  rcases DT hu with ⟨i,t,rfl,rfl⟩|⟨x,t,rfl,rfl⟩
  ·rcases DT hv with ⟨j,u,rfl,rfl⟩|⟨y,u,rfl,rfl⟩
   ·rw [W4] at h;exact wpAny_eqBool_int h
   ·rw [We] at h;exact SeqAt.EqAt.int_str i t y u _ _ _ _ h
  ·rcases DT hv with ⟨j,u,rfl,rfl⟩|⟨y,u,rfl,rfl⟩
   ·rw [Wa] at h;exact SeqAt.EqAt.str_int x t j u _ _ _ _ h
   ·rw [Xg] at h;exact wpAny_eqBool_str h
 «strs»:=λk x t v h=>by
  rcases DT h with ⟨i,u,rfl,e⟩|⟨y,u,rfl,e⟩
  ·exact nomatch e
  ·injection e with e1 _
   subst e1
   cases v<;>rfl
inductive V where
 | non|bl (b:Bool)|int (i:Int)|str (x:Str)|byt (b:Array UInt8)|flt (b:UInt64)|ref (a:Addr)|ty (n:String)
 deriving DecidableEq
noncomputable def RelV:V->Value->Prop
 | .non,u=>u=Value.none
 | .bl b,u=>u=Value.bool b
 | .int i,u=>∃ t,u=Value.int i t
 | .str x,u=>∃ t,u=Value.str x t
 | .byt b,u=>∃ t,u=Value.bytes b t
 | .flt b,u=>∃ t,u=Value.float b t
 | .ref a,u=>u=Value.ref a
 | .ty n,u=>u=Value.type n
noncomputable abbrev Vals:List V->List Value->Prop:=Paired RelV
theorem Vals.length {xs:List V}{us:List Value}(r:Vals xs us):xs.length=us.length:=Paired.length r
theorem Vals.get:∀ {xs:List V} {us:List Value} {i:Nat} {x:V},Vals xs us->xs[i]? = some x->∃ u,us[i]? = some u∧RelV x u
 | _,_,_,_,.nil,e=>by simp at e
 | _,_,0,_,.cons r _,e=>by simp at e;subst e;exact ⟨_,rfl,r⟩
 | _,_,i+1,x,.cons _ t,e=>by
  obtain ⟨u,h1,h2⟩:=Vals.get (i:=i) (x:=x) t (by simpa using e)
  exact ⟨u,by simpa using h1,h2⟩
theorem Vals.set {x:V}{u:Value}(r:RelV x u):∀ {xs:List V} {us:List Value} (i:Nat),Vals xs us->Vals (xs.set i x) (us.set i u)
 | _,_,_,.nil=>.nil
 | _,_,0,.cons _ t=>.cons r t
 | _,_,i+1,.cons q t=>.cons q (Vals.set r i t)
theorem Vals.append:∀ {xs ys:List V} {us ws:List Value},Vals xs us->Vals ys ws->Vals (xs++ys) (us++ws)
 | _,_,_,_,.nil,s=>s
 | _,_,_,_,.cons r t,s=>.cons r (Vals.append t s)
theorem Vals.take:∀ {xs:List V} {us:List Value} (n:Nat),Vals xs us->Vals (xs.take n) (us.take n)
 | _,_,0,_=>.nil
 | _,_,_+1,.nil=>.nil
 | _,_,n+1,.cons r t=>.cons r (Vals.take n t)
theorem Vals.drop:∀ {xs:List V} {us:List Value} (n:Nat),Vals xs us->Vals (xs.drop n) (us.drop n)
 | _,_,0,r=>r
 | _,_,_+1,.nil=>.nil
 | _,_,n+1,.cons _ t=>Vals.drop n t
noncomputable def W3:Option V->Option Value->Prop
 | some v,some u=>RelV v u
 | none,none=>True
 | _,_=>False
noncomputable def KV {κ:Type}:List (κ×V)->List (κ×Value)->Prop:=Paired λ(p:κ×V) (q:κ×Value)=>p.1=q.1∧RelV p.2 q.2
noncomputable def kV:Key->V
 | .inl i=>.int i
 | .inr x=>.str x
inductive HO where
  | lst (xs:List V)
  | tup (xs:List V)
  | dK (kvs:List (Key×V))|dT (kvs:List (List Key×V))
  | set (S:Int->Bool) (n:Nat)
  | ins (C dx:Addr) (fs:List (Str×V))
  | own (x:Addr)
  | xd (fs:List (Str×V))
  | met (f x:Addr)
  | rng (lo hi:Int)
  | frz (o:Obj) (u:HO)
  | tbl (ps:Array Value)
  | ext (φ:Heap->Prop)
noncomputable abbrev Hp:=Addr->Option HO
noncomputable def upd (H:Hp)(a:Addr)(o:HO):Hp:=λb=>if b=a then some o else H b
theorem DR {H:Hp}{a:Addr}{o:HO}:upd H a o a=some o:=by unfold upd;rw [if_pos rfl]
theorem Dg {H:Hp}{a b:Addr}{o:HO}(h:b≠a):upd H a o b=H b:=by unfold upd;rw [if_neg h]
theorem CW {H:Hp}{a b:Addr}{o:HO}(h:H a=some o)(h':H b=none):a≠b:=by
 intro e;subst e;rw [h] at h';cases h'
section
variable (P:Program) (w:World)
noncomputable def ObjOk (H:Hp)(h:Heap)(a:Addr):HO->Prop
 | .lst xs=>xs.length≤sizeLine∧∃ (its:List Value) (n:Nat),Vals xs its∧h.get? a=some { cls:=.type "list",data:=.seq its.toArray n }
 | .tup xs=>(xs.length≤sizeLine∧∃ o,h.get? a=some o∧o.dict=none)∧∃ its:List Value,Vals xs its∧IsTup h a its.toArray
 | .dK kvs=>kvs.length≤sizeLine∧(a==sysModules)=false∧∃ vs,KV kvs vs∧h.DictOf (OG P w) a vs
 | .dT kvs=>kvs.length≤sizeLine∧(a==sysModules)=false∧∃ xs:List (List Key×Addr×Value),
   Paired (λ(p:List Key×V) (q:List Key×Addr×Value)=>p.1=q.1∧H q.2.1=some (.tup (p.1.map kV))∧RelV p.2 q.2.2) kvs xs ∧
   ∃ o es ep,h.get? a=some o∧o.ExactDict∧o.data=.dict es ep∧es.toList=xs.map (entryOfKey (tupleKind (OG P w)))∧(xs.map (·.1)).Nodup
 | .set S n=>h.SetOf (intKind P w) a S n
 | .ins C dx fs=>H dx=some (.own a)∧fs.length≤1000∧dx≠a∧h.get? a=some (PySem.W.instObj C dx) ∧
   ∃ mA,h.Ns1 dx mA∧(∀ f,W3 (fs.lookup f) (mA f))∧PySem.Within mA (fs.map (·.1))
 | .own _=>∃ o,h.get? a=some o
 | .xd fs=>∃ mA,h.Ns1 a mA∧∀ f,W3 (fs.lookup f) (mA f)
 | .rng lo hi=>∃ t u v,h.get? a=some { cls:=.type "range",data:=.fields #[.int lo t,.int hi u,.int 1 v] }
 | .frz o u=>h.get? a=some o∧ObjOk H h a u
 | .tbl ps=>h.get? a=some { cls:=.none,data:=.fields ps }
 | .met f x=>h.get? a=some (PySem.W.methodObj (.ref f) (.ref x))
 | .ext φ=>φ h∧(∃ o,h.get? a=some o)∧∀ h1 h2:Heap,φ h1->(∀ o,h1.get? a=some o->h2.get? a=some o)->φ h2
noncomputable def HOk (H:Hp)(h:Heap):Prop:=∀ a o,H a=some o->ObjOk P w H h a o
end
section
variable {P:Program} {w:World} {H H':Hp} {h h':Heap} {a:Addr} {o:HO}
theorem ObjOk.lt (x:ObjOk P w H h a o):a<h.objs.size:=by
 cases o with
 | lst xs=>obtain ⟨_,_,_,_,e⟩:=x;exact Ao e
 | tup xs=>obtain ⟨_,_,_,p⟩:=x;exact p.lt
 | dK kvs=>obtain ⟨_,_,_,_,o,_,_,e,_⟩:=x;exact Ao e
 | dT kvs=>obtain ⟨_,_,_,_,o,_,_,e,_⟩:=x;exact Ao e
 | set S n=>obtain ⟨o,_,_,_,e,_⟩:=x;exact Ao e
 | ins C dx fs=>obtain ⟨_,_,_,e,_⟩:=x;exact Ao e
 | own y=>obtain ⟨_,e⟩:=x;exact Ao e
 | xd fs=>obtain ⟨_,⟨_,_,_,e,_⟩,_⟩:=x;exact Ao e
 | rng lo hi=>obtain ⟨_,_,_,e⟩:=x;exact Ao e
 | frz ob u=>obtain ⟨e,_⟩:=x;exact Ao e
 | tbl ps=>exact Ao (show h.get? a=some _ from x)
 | met f y=>exact Ao (show h.get? a=some _ from x)
 | ext φ=>obtain ⟨_,⟨_,e⟩,_⟩:=x;exact Ao e
theorem Paired.mapP {α β:Type}{F G:α->β->Prop}:∀ {l₁:List α} {l₂:List β},Paired F l₁ l₂->(∀ a b,F a b->G a b)->Paired G l₁ l₂
 | _,_,.nil,_=>.nil
 | _,_,.cons r t,f=>.cons (f _ _ r) (Paired.mapP t f)
theorem ObjOk.stay (x:ObjOk P w H h a o)(k:∀ b u,(b=a∨H b=some (.own a))->h.get? b=some u->h'.get? b=some u)
  (ho:∀ b,H b=some (.own a)->H' b=some (.own a)) (ht:∀ b xs,H b=some (.tup xs)->H' b=some (.tup xs)):ObjOk P w H' h' a o:=by
 induction o with
 | lst xs=>obtain ⟨z,its,n,r,e⟩:=x;exact ⟨z,its,n,r,k _ _ (.inl rfl) e⟩
 | tup xs=>obtain ⟨⟨z,o1,z1,z2⟩,its,r,ob,e,c⟩:=x;exact ⟨⟨z,o1,k _ _ (.inl rfl) z1,z2⟩,its,r,ob,k _ _ (.inl rfl) e,c⟩
 | dK kvs=>obtain ⟨z,y,vs,r,ob,es,ep,e,c⟩:=x;exact ⟨z,y,vs,r,ob,es,ep,k _ _ (.inl rfl) e,c⟩
 | dT kvs =>
  obtain ⟨z,y,xs,r,ob,es,ep,e,c⟩:=x
  exact ⟨z,y,xs,Paired.mapP r λp q z=>⟨z.1,ht _ _ z.2.1,z.2.2⟩,ob,es,ep,k _ _ (.inl rfl) e,c⟩
 | set S n=>obtain ⟨ob,es,ep,t,e,c⟩:=x;exact ⟨ob,es,ep,t,k _ _ (.inl rfl) e,c⟩
 | ins C dx fs =>
  obtain ⟨d,z,ne,e,mA,⟨od,es,ep,e2,c⟩,r⟩:=x
  exact ⟨ho _ d,z,ne,k _ _ (.inl rfl) e,mA,⟨od,es,ep,k _ _ (.inr d) e2,c⟩,r⟩
 | own y=>obtain ⟨ob,e⟩:=x;exact ⟨ob,k _ _ (.inl rfl) e⟩
 | xd fs=>obtain ⟨mA,⟨od,es,ep,e,c⟩,r⟩:=x;exact ⟨mA,⟨od,es,ep,k _ _ (.inl rfl) e,c⟩,r⟩
 | rng lo hi=>obtain ⟨t,u,v,e⟩:=x;exact ⟨t,u,v,k _ _ (.inl rfl) e⟩
 | frz ob u ih=>obtain ⟨e,q⟩:=x;exact ⟨k _ _ (.inl rfl) e,ih q⟩
 | tbl ps =>
  have e:h.get? a=some { cls:=.none,data:=.fields ps }:=x
  show h'.get? a=some { cls:=.none,data:=.fields ps }
  exact k a _ (.inl rfl) e
 | met f y =>
  have e:h.get? a=some (PySem.W.methodObj (.ref f) (.ref y)):=x
  show h'.get? a=some (PySem.W.methodObj (.ref f) (.ref y))
  exact k a _ (.inl rfl) e
 | ext φ=>obtain ⟨p,⟨o,e⟩,st⟩:=x;exact ⟨st _ _ p λo q=>k _ _ (.inl rfl) q,⟨o,k _ _ (.inl rfl) e⟩,st⟩
theorem HOk.lt (x:HOk P w H h)(e:H a=some o):a<h.objs.size:=(x a o e).lt
theorem HOk.fresh (x:HOk P w H h)(e:h.objs.size≤a):H a=none:=by
 cases q:H a with
 | none=>rfl
 | some u=>exact absurd (AF (x.lt q) e) (Be _)
theorem HOk.kept (x:HOk P w H h)(k:∀ b u,h.get? b=some u->h'.get? b=some u):HOk P w H h':=λa o e =>
 (x a o e).stay (λb u _ q=>k b u q) (λ_ q=>q) λ_ _ q=>q
theorem HOk.laid (x:HOk P w H h)(k:∀ b u,h.get? b=some u->h'.get? b=some u)(hp:h.objs.size≤a)(new:ObjOk P w (upd H a o) h' a o):HOk P w (upd H a o) h':=λb u e=>by
 have hn:=x.fresh hp
 by_cases hb:b=a
 ·subst hb;rw [DR] at e;cases e;exact new
 ·rw [Dg hb] at e
  exact (x b u e).stay (λc v _ q=>k c v q) (λc q=>by rw [Dg (CW q hn)];exact q) λc xs q=>by rw [Dg (CW q hn)];exact q
end
noncomputable def Rd (H:Hp)(a:Addr)(u:HO):Prop:=H a=some u∨∃ o,H a=some (.frz o u)
theorem Rd.ok {P:Program}{w:World}{H:Hp}{h:Heap}{a:Addr}{u:HO}(r:Rd H a u)(x:HOk P w H h):ObjOk P w H h a u:=by
 rcases r with r|⟨o,r⟩
 ·exact x a u r
 ·obtain ⟨_,q⟩:=x a _ r
  exact q
noncomputable def Mut:Option HO->Prop
 | some (.lst _)=>True
 | some (.dK _)=>True
 | some (.dT _)=>True
 | some (.set _ _)=>True
 | some (.ins _ _ _)=>True
 | some (.ext _)=>True
 | _=>False
section
variable {P:Program} {w:World} {H:Hp} {h h':Heap} {x e:Addr} {o':HO}
theorem HOk.write (ok:HOk P w H h)(mu:Mut (H x))(he:e=x∨H e=some (.own x))(k:∀ b u,b≠e->h.get? b=some u->h'.get? b=some u)(heo:∃ u,h'.get? e=some u)
  (new:ObjOk P w (upd H x o') h' x o'):HOk P w (upd H x o') h':=λb u q=>by
 have nown:∀ c y,H c=some (.own y)->c≠x:=λc y r z=>by subst z;rw [r] at mu;exact mu
 have ntup:∀ c xs,H c=some (.tup xs)->c≠x:=λc xs r z=>by subst z;rw [r] at mu;exact mu
 by_cases hb:b=x
 ·subst hb;rw [DR] at q;cases q;exact new
 ·rw [Dg hb] at q
  by_cases hbe:b=e
  ·have q':H b=some (.own x):=by
    rcases he with z|z
    ·exact absurd (hbe.trans z) hb
    ·rw [hbe];exact z
   rw [q] at q';cases q'
   obtain ⟨v,hv⟩:=heo
   exact ⟨v,by rw [hbe];exact hv⟩
  ·refine (ok b u q).stay (λc v hc r=>k c v ?_ r) (λc r=>by rw [Dg (nown c b r)];exact r) λc xs r=>by rw [Dg (ntup c xs r)];exact r
   rcases hc with rfl|hc
   ·exact hbe
   ·rintro rfl
    rcases he with z|z
    ·exact nown c b hc z
    ·rw [hc] at z;cases z;exact hb rfl
end
structure Un (fs ex:List Addr) (H H':Hp) (h h':Heap):Prop where
 keep:∀ b o,h.get? b=some o->H b=none->b∉fs->b∉ex->h'.get? b=some o
 slot:∀ b o,h.get? b=some o->H b=none->b∈fs->b∉ex->∃ sl,h'.get? b=some { o with slots:=sl }
 free:∀ b o,h.get? b=some o->H b=none->b∉ex->H' b=none
 there:∀ b o,h.get? b=some o->b∉ex->∃ o',h'.get? b=some o'
 tups:∀ b xs,H b=some (.tup xs)->H' b=some (.tup xs)
 frzs:∀ b o u,H b=some (.frz o u)->H' b=some (.frz o u)
 tbls:∀ b ps,H b=some (.tbl ps)->∃ more,H' b=some (.tbl (ps++more))
section
variable {fs fs' ex ex':List Addr} {H H1 H2:Hp} {h h1 h2 h':Heap} {a x e:Addr} {o:HO}
theorem Un.any (u:Un fs ex H H1 h h1){b:Addr}{ob:Obj}(q:h.get? b=some ob)(n:H b=none)(hx:b∉ex):∃ sl,h1.get? b=some { ob with slots:=sl }:=by
 by_cases hb:b∈fs
 ·exact u.slot b ob q n hb hx
 ·exact ⟨ob.slots,u.keep b ob q n hb hx⟩
theorem Un.kept (k:∀ b u,h.get? b=some u->h'.get? b=some u):Un fs ex H H h h':=
 ⟨λb ob q _ _ _=>k b ob q,λb ob q _ _ _=>⟨ob.slots,k b ob q⟩,λ_ _ _ n _=>n,λb ob q _=>⟨ob,k b ob q⟩,λ_ _ q=>q,λ_ _ _ q=>q,λ_ ps q=>⟨#[],by rw [q];simp⟩⟩
theorem Un.refl:Un fs ex H H h h:=Un.kept λ_ _ q=>q
theorem Un.laid (k:∀ b u,h.get? b=some u->h'.get? b=some u)(hp:h.objs.size≤a)(hn:H a=none):Un fs ex H (upd H a o) h h' where
 keep:=λb u q _ _ _=>k b u q
 slot:=λb u q _ _ _=>⟨u.slots,k b u q⟩
 free:=λb u q n _=>by rw [Dg (Ay (AF (Ao q) hp))];exact n
 there:=λb u q _=>⟨u,k b u q⟩
 tups:=λb xs q=>by rw [Dg (CW q hn)];exact q
 frzs:=λb u xs q=>by rw [Dg (CW q hn)];exact q
 tbls:=λb ps q=>⟨#[],by rw [Dg (CW q hn),q];simp⟩
theorem Un.write (mu:Mut (H x))(he:e=x∨H e=some (.own x))(k:∀ b u,b≠e->h.get? b=some u->h'.get? b=some u)(heo:∃ u,h'.get? e=some u):Un fs ex H (upd H x o) h h':=by
 have hx:∀ b,H b=none->b≠x:=λb n z=>by subst z;rw [n] at mu;exact mu
 have hb:∀ b,H b=none->b≠e:=λb n z=>by
  subst z
  rcases he with r|r
  ·exact hx b n r
  ·rw [n] at r;cases r
 have hm:∀ b u,H b=some u->¬ Mut (some u)->b≠x:=λb u q nm z=>by subst z;rw [q] at mu;exact nm mu
 refine ⟨λb u q n _ _=>k b u (hb b n) q,λb u q n _ _=>⟨u.slots,k b u (hb b n) q⟩,λb u q n _=>by rw [Dg (hx b n)];exact n,λb u q _=>?_,
  λb xs q=>by rw [Dg (hm b _ q λz=>z)];exact q,λb u xs q=>by rw [Dg (hm b _ q λz=>z)];exact q,λb ps q=>⟨#[],by rw [Dg (hm b _ q λz=>z),q];simp⟩⟩
 by_cases hbe:b=e
 ·subst hbe;exact heo
 ·exact ⟨u,k b u hbe q⟩
end
noncomputable def trk (h:Heap)(H:Hp):List Addr:=(List.range h.objs.size).filter λa=>(H a).isSome
noncomputable def Mq (h:Heap)(H:Hp):Heap:=PySem.W.hideAll h (trk h H)
theorem QH (h:Heap)(H:Hp):(Mq h H).objs.size=h.objs.size:=PySem.W.hideAll_size _ _
theorem S1 {h:Heap}{H:Hp}{b:Addr}{o:Obj}(e:h.get? b=some o)(n:H b=none):(Mq h H).get? b=some o:=
 PySem.W.hideAll_get _ e λhm=>by
  have q:(H b).isSome=true:=(List.mem_filter.mp hm).2
  rw [n] at q;simp at q
theorem UU {h:Heap}{H:Hp}{b:Addr}{o:Obj}(e:(Mq h H).get? b=some o):h.get? b=some o∧H b=none:=by
 have e':h.get? b=some o:=PySem.W.of_hideAll (trk h H) e
 refine ⟨e',?_⟩
 cases q:H b with
 | none=>rfl
 | some x =>
  have hm:b∈trk h H:=List.mem_filter.mpr ⟨AX.mpr (Ao e'),by simp [q]⟩
  have z:(Mq h H).get? b=none:=PySem.W.hideAll_none (trk h H) hm
  rw [z] at e;cases e
noncomputable def UN (g h:Heap)(L:Addr):List (Addr×Obj):=(List.range h.objs.size).filterMap λa=>if a=L∨(g.get? a).isSome=true then none else (h.get? a).map λo=>(a,o)
noncomputable def rest (g h:Heap)(L d:Addr):List (Addr×Obj):=(UN g h L).filter λp=>decide (p.1≠d)
structure Mod (K:PySem.W.Frag) (mg:Str->Option Value) (base:Heap):Prop where
 kin:K.In base
 glob:base.Ns mainGlobals mg
 blt:∃ mb,base.Ns builtinsNs mb∧∀ x:Str,x≠"__name__"->mb x=bootBuiltins x
 nolimit:base.NoLimit
structure Cx where
 prog:Program
 w:World
 K:PySem.W.Frag
 mg:Str->Option Value
 base:Heap
 A:Around
 N:List Str
 s₀:Shared
 H₀:Hp
 env:Env
 outer:List Env
 stack:List Env
 ex:List Addr
 fn:Str->Bool
 calm:Bool
 pn:List (Addr×Obj)
 xe:Value->Shared->Prop
noncomputable def frs (l:List Env):List Addr:=l.filterMap (·.frame)
noncomputable abbrev Cx.fs (X:Cx):List Addr:=frs X.outer
noncomputable def Vis (sc:Scope)(x:Str):Prop:=sc.names.lookup x=some .local∨sc.names.lookup x=some .cell∨sc.names.lookup x=some .free
noncomputable def Loc (sc:Scope)(x:Str):Prop:=sc.names.lookup x=some .local∨sc.names.lookup x=some .cell
noncomputable def Look (env:Env)(h:Heap)(m:Str->Option Value)(x:Str)(u:Value):Prop:=
 (env.kindOf x=some .local∧m x=some u)∨((env.kindOf x=some .cell∨env.kindOf x=some .free)∧∃ c,env.cells.lookup x=some c∧h.IsCell c (some u))
structure Cx.Ok (X:Cx):Prop where
 mod:Mod X.K X.mg X.base
 kind:X.env.scope.kind=.function
 glob:X.env.globals=mainGlobals
 blt:X.env.builtins=builtinsNs
 above:X.s₀.heap.objs.size≤X.env.locals
 inj:∀ x y c,X.env.cells.lookup x=some c->X.env.cells.lookup y=some c->x=y
 has:∀ x,(X.env.kindOf x=some .cell∨X.env.kindOf x=some .free)->∃ c,X.env.cells.lookup x=some c
 cab:∀ x c,X.fn x=true->X.env.cells.lookup x=some c->X.s₀.heap.objs.size≤c
 hd:X.calm=true->X.A.handled=none
 frames:X.A.frames=some X.stack
 stk:X.stack=X.outer∨(X.stack=X.env::X.outer∧X.env.frame=some X.env.locals)
 exf:∀ b∈X.ex,b≠X.env.locals∧∀ x c,X.env.cells.lookup x=some c->c≠b
 bs:∀ b o,X.base.get? b=some o->X.s₀.heap.get? b=some o∧X.H₀ b=none
 bsz:X.base.objs.size≤X.s₀.heap.objs.size
 noex:∀ b o,X.base.get? b=some o->b∉X.ex
 exfs:∀ b∈X.ex,b∉X.fs
 funs:X.s₀.heap.FunFrames X.base X.outer
 frf:∀ b∈X.fs,X.H₀ b=none
structure Inv (X:Cx) (pins:List (Addr×Obj)) (σ:List (Option V)) (H:Hp) (s:Shared):Prop where
 ok:X.Ok
 os:s.os=X.s₀.os
 bare:AllBare s.gens
 base:Un X.fs X.ex X.H₀ H X.s₀.heap s.heap
 loc:∃ m,s.heap.Ns X.env.locals m∧∀ (i:Nat) (x:Str) (v:V),X.N[i]? = some x->σ[i]? = some (some v)->Vis X.env.scope x->∃ u,RelV v u∧Look X.env s.heap m x u
 cell:∀ x c,X.env.cells.lookup x=some c->∃ v,s.heap.IsCell c v
 free:H X.env.locals=none
 freeC:∀ x c,X.env.cells.lookup x=some c->H c=none
 pin:∀ p∈X.pn++pins,s.heap.get? p.1=some p.2∧H p.1=none∧p.1≠X.env.locals∧p.1∉X.fs∧∀ v,p.2.data≠.cell v
 hok:HOk X.prog X.w H s.heap
 len:σ.length=X.N.length
section
variable {X:Cx} {pins:List (Addr×Obj)} {σ:List (Option V)} {H H':Hp} {s:Shared} {h':Heap}
theorem Cx.Ok.nofr (ok:X.Ok){b:Addr}{o:Obj}(e:X.base.get? b=some o):b∉X.fs:=λhb=>by
 have:=(ok.funs.mem hb).1
 rw [e] at this;cases this
theorem Inv.bs (I:Inv X pins σ H s):∀ b o,X.base.get? b=some o->s.heap.get? b=some o∧H b=none:=λb o e =>
 ⟨I.base.keep b o (I.ok.bs b o e).1 (I.ok.bs b o e).2 (I.ok.nofr e) (I.ok.noex b o e),I.base.free b o (I.ok.bs b o e).1 (I.ok.bs b o e).2 (I.ok.noex b o e)⟩
theorem Inv.bk (I:Inv X pins σ H s):∀ b o,X.base.get? b=some o->s.heap.get? b=some o:=λb o e=>(I.bs b o e).1
theorem Inv.mod (I:Inv X pins σ H s):Mod X.K X.mg X.base:=I.ok.mod
theorem Inv.kIn (I:Inv X pins σ H s):X.K.In s.heap:=I.ok.mod.kin.keeps I.bk
theorem Inv.fr (I:Inv X pins σ H s):∃ m,Fr X.base X.env.locals s.heap m:=
 let ⟨m,hn,_⟩:=I.loc
 ⟨m,hn,I.bk,AQ I.ok.bsz I.ok.above⟩
theorem Inv.lt (I:Inv X pins σ H s):X.env.locals<s.heap.objs.size:=let ⟨_,hn,_⟩:=I.loc;hn.lt
theorem Inv.sz (I:Inv X pins σ H s):X.s₀.heap.objs.size≤s.heap.objs.size:=AQ I.ok.above (Nat.le_of_lt I.lt)
theorem Inv.nofs (I:Inv X pins σ H s){a:Addr}(h:s.heap.objs.size≤a):a∉X.fs:=λhb=>by
 obtain ⟨_,o,ho,_⟩:=I.ok.funs.mem hb
 exact absurd (AF (Ao ho) (AQ I.sz h)) (Be _)
theorem Inv.cne (I:Inv X pins σ H s):∀ x c,X.env.cells.lookup x=some c->c≠X.env.locals:=λx c e z=>by
 obtain ⟨v,o,ho,hd⟩:=I.cell x c e
 obtain ⟨m,⟨o',es,ep,ho',hd',_⟩,_⟩:=I.loc
 rw [z,ho'] at ho;cases ho;rw [hd'] at hd;cases hd
theorem Inv.funs (I:Inv X pins σ H s):s.heap.FunFrames X.base X.outer:=by
 have all:∀ (l:List Env),(∀ b∈frs l,b∈X.fs)->X.s₀.heap.FunFrames X.base l->s.heap.FunFrames X.base l:=by
  intro l
  induction l with
  | nil=>intro _ _;trivial
  | cons env r ih =>
   intro hs hl
   obtain ⟨hk,⟨L,o,hf,hn,ho,hd⟩,hr⟩:=hl
   have hL:L∈X.fs:=hs L (by unfold frs;rw [List.filterMap_cons,hf];exact List.mem_cons_self)
   obtain ⟨sl,e⟩:=I.base.slot L o ho (I.ok.frf L hL) hL λz=>I.ok.exfs L z hL
   exact ⟨hk,⟨L,_,hf,hn,e,hd⟩,ih (λb hb=>hs b (by unfold frs;rw [List.filterMap_cons,hf];exact BZ _ hb)) hr⟩
 exact all X.outer (λ_ hb=>hb) I.ok.funs
theorem Inv.stack (I:Inv X pins σ H s):s.heap.FunFrames X.base X.stack:=by
 rcases I.ok.stk with e|⟨e,hf⟩
 ·rw [e];exact I.funs
 ·rw [e]
  obtain ⟨m,hn,_⟩:=I.loc
  refine .cons (by rw [I.ok.kind];decide) hf hn ?_ I.funs
  exact Heap.get?_none_of_le (AQ I.ok.bsz I.ok.above)
theorem Inv.stkSub (I:Inv X pins σ H s):∀ b∈frs X.stack,b∈X.env.locals::X.fs:=λb hb=>by
 rcases I.ok.stk with e|⟨e,hf⟩
 ·rw [e] at hb;exact BZ _ hb
 ·rw [e] at hb
  unfold frs at hb
  rw [List.filterMap_cons,hf] at hb
  exact hb
theorem Inv.stkFree (I:Inv X pins σ H s):∀ b∈frs X.stack,H b=none:=λb hb=>by
 rcases Am.mp (I.stkSub b hb) with e|hb
 ·rw [e];exact I.free
 ·obtain ⟨_,o,ho,_⟩:=I.ok.funs.mem hb
  exact I.base.free b o ho (I.ok.frf b hb) λz=>I.ok.exfs b z hb
theorem Inv.step {g':Array GenState}{t':Nat}{d':Drawn}{ch:List Addr}(I:Inv X pins σ H s)
  (hch:∀ b∈ch,(b∈X.ex∨X.s₀.heap.objs.size≤b)∧b≠X.env.locals∧(∀ x c,X.env.cells.lookup x=some c->c≠b)∧∀ p∈X.pn++pins,p.1≠b)
  (keep:∀ b o,b≠X.env.locals->b∉X.fs->b∉ch->s.heap.get? b=some o->H b=none->h'.get? b=some o)
  (slot:∀ b o,b≠X.env.locals->b∈X.fs->b∉ch->s.heap.get? b=some o->H b=none->∃ sl,h'.get? b=some { o with slots:=sl }) (free:∀ b o,b∉ch->s.heap.get? b=some o->H b=none->H' b=none)
  (there:∀ b o,b∉ch->s.heap.get? b=some o->∃ o',h'.get? b=some o')
  (tups:∀ b xs,H b=some (.tup xs)->H' b=some (.tup xs)) (frzs:∀ b o u,H b=some (.frz o u)->H' b=some (.frz o u)) (tbls:∀ b ps,H b=some (.tbl ps)->∃ more,H' b=some (.tbl (ps++more)))
  (ns:∀ m,s.heap.Ns X.env.locals m->h'.Ns X.env.locals m) (hok:HOk X.prog X.w H' h') (hg:AllBare g') :
  Inv X pins σ H' { s with heap:=h',gens:=g',drawn:=d',toks:=t' }:=by
 have neL:∀ b o,X.s₀.heap.get? b=some o->b≠X.env.locals:=λb o e=>Ay (AF (Ao e) I.ok.above)
 have neC:∀ b o,X.s₀.heap.get? b=some o->b∉X.ex->b∉ch:=λb o e hx hb=>by
  rcases (hch b hb).1 with z|z
  ·exact hx z
  ·exact absurd (AF (Ao e) z) (Be _)
 have cellK:∀ x c,X.env.cells.lookup x=some c->∀ v,s.heap.IsCell c v->h'.IsCell c v:=λx c e v ⟨o,ho,hd⟩=>by
  have nch:c∉ch:=λz=>(hch c z).2.2.1 x c e rfl
  by_cases hc:c∈X.fs
  ·obtain ⟨sl,q⟩:=slot c o (I.cne x c e) hc nch ho (I.freeC x c e)
   exact ⟨_,q,hd⟩
  ·exact ⟨o,keep c o (I.cne x c e) hc nch ho (I.freeC x c e),hd⟩
 refine ⟨I.ok,I.os,hg,⟨λb o e n hb hx=>?_,λb o e n hb hx=>?_,λb o e n hx=>?_,λb o e hx=>?_,λb xs e=>tups b xs (I.base.tups b xs e),λb o xs e=>frzs b o xs (I.base.frzs b o xs e),λb ps e=>?_⟩,?_,λx c e=>?_,?_,λx c e=>?_,λp hp=>?_,hok,I.len⟩
 ·exact keep b o (neL b o e) hb (neC b o e hx) (I.base.keep b o e n hb hx) (I.base.free b o e n hx)
 ·obtain ⟨sl,e1⟩:=I.base.slot b o e n hb hx
  obtain ⟨sl',e2⟩:=slot b _ (neL b o e) hb (neC b o e hx) e1 (I.base.free b o e n hx)
  exact ⟨sl',e2⟩
 ·obtain ⟨o',e1⟩:=I.base.there b o e hx
  exact free b o' (neC b o e hx) e1 (I.base.free b o e n hx)
 ·obtain ⟨o',e1⟩:=I.base.there b o e hx
  exact there b o' (neC b o e hx) e1
 ·obtain ⟨m1,e1⟩:=I.base.tbls b ps e
  obtain ⟨m2,e2⟩:=tbls b _ e1
  exact ⟨m1++m2,by rw [e2,Array.append_assoc]⟩
 ·obtain ⟨m,hn,hl⟩:=I.loc
  refine ⟨m,ns m hn,λi x v e1 e2 e3=>?_⟩
  obtain ⟨u,r,l⟩:=hl i x v e1 e2 e3
  refine ⟨u,r,?_⟩
  rcases l with l|⟨k,c,e,z⟩
  ·exact .inl l
  ·exact .inr ⟨k,c,e,cellK x c e _ z⟩
 ·obtain ⟨v,z⟩:=I.cell x c e
  exact ⟨v,cellK x c e v z⟩
 ·obtain ⟨m,⟨o,_,_,ho,_⟩,_⟩:=I.loc
  exact free _ o (λz=>(hch _ z).2.1 rfl) ho I.free
 ·obtain ⟨v,o,ho,hd⟩:=I.cell x c e
  exact free c o (λz=>(hch c z).2.2.1 x c e rfl) ho (I.freeC x c e)
 ·obtain ⟨e,n,ne,nf,d⟩:=I.pin p hp
  have nch:p.1∉ch:=λz=>(hch p.1 z).2.2.2 p hp rfl
  exact ⟨keep p.1 p.2 ne nf nch e n,free p.1 p.2 nch e n,ne,nf,d⟩
theorem Inv.un {t':Nat}(I:Inv X pins σ H s)(u:Un X.fs [] H H' s.heap h')(hok:HOk X.prog X.w H' h'):Inv X pins σ H' { s with heap:=h',toks:=t' }:=by
 obtain ⟨m,⟨o,es,ep,ho,r⟩,_⟩:=id I.loc
 obtain ⟨sl,hL⟩:=u.any ho I.free (by simp)
 exact I.step (g':=s.gens) (d':=s.drawn) (ch:=[]) (λ_ z=>nomatch z) (λb o _ hb _ e n=>u.keep b o e n hb (by simp)) (λb o _ hb _ e n=>u.slot b o e n hb (by simp)) (λb o _ e n=>u.free b o e n (by simp)) (λb o _ e=>u.there b o e (by simp)) u.tups u.frzs u.tbls (λm' hm=>by
  obtain ⟨o',es',ep',ho',r'⟩:=hm
  rw [ho] at ho';cases ho'
  exact ⟨_,es',ep',hL,r'⟩) hok I.bare
theorem Inv.call {g':Array GenState}{t':Nat}{d':Drawn}{ch:List Addr}(I:Inv X pins σ H s)(u:Un (frs X.stack) ch H H' s.heap h')(hok:HOk X.prog X.w H' h')(hg:AllBare g')
  (hch:∀ b∈ch,(b∈X.ex∨X.s₀.heap.objs.size≤b)∧b≠X.env.locals∧(∀ x c,X.env.cells.lookup x=some c->c≠b)∧∀ p∈X.pn++pins,p.1≠b) :
  Inv X pins σ H' { s with heap:=h',gens:=g',drawn:=d',toks:=t' }:=by
 obtain ⟨m,⟨o,es,ep,ho,r⟩,_⟩:=id I.loc
 obtain ⟨sl,hL⟩:=u.any ho I.free λz=>(hch _ z).2.1 rfl
 exact I.step (ch:=ch) hch (λb o hL hb hc e n=>u.keep b o e n (λz=>(Am.mp (I.stkSub b z)).elim hL hb) hc) (λb o _ _ hc e n=>u.any e n hc) (λb o hc e n=>u.free b o e n hc) (λb o hc e=>u.there b o e hc) u.tups u.frzs u.tbls (λm' hm=>by
  obtain ⟨o',es',ep',ho',r'⟩:=hm
  rw [ho] at ho';cases ho'
  exact ⟨_,es',ep',hL,r'⟩) hok hg
theorem Inv.turned {t':Nat}{it:Addr}(I:Inv X pins σ H s)(k:∀ b o,b≠it->s.heap.get? b=some o->h'.get? b=some o)(hn:H it=none)(hL:it≠X.env.locals)
  (h1:it∈X.ex∨X.s₀.heap.objs.size≤it) (h2:∀ x c,X.env.cells.lookup x=some c->c≠it) (h3:∀ p∈X.pn++pins,p.1≠it):Inv X pins σ H { s with heap:=h',toks:=t' }:=by
 have nit:∀ b u,H b=some u->b≠it:=λb u e z=>by rw [z,hn] at e;cases e
 refine I.step (g':=s.gens) (d':=s.drawn) (ch:=[it]) (λb hb=>?_) (λb o _ _ hc e _=>k b o (λz=>hc (by simp [z])) e) (λb o _ _ hc e _=>⟨o.slots,k b o (λz=>hc (by simp [z])) e⟩) (λ_ _ _ _ n=>n)
  (λb o hc e=>⟨o,k b o (λz=>hc (by simp [z])) e⟩) (λ_ _ e=>e) (λ_ _ _ e=>e) (λb ps e=>⟨#[],by rw [e];simp⟩) (λm hm=>?_) (λb u e=>?_) I.bare
 ·have e:b=it:=by simpa using hb
  subst e
  exact ⟨h1,hL,h2,h3⟩
 ·obtain ⟨o,es,ep,ho,r⟩:=hm
  exact ⟨o,es,ep,k _ o (Ne.symm hL) ho,r⟩
 ·refine (I.hok b u e).stay (λc v hc q=>k c v ?_ q) (λ_ q=>q) λ_ _ q=>q
  rcases hc with z|z
  ·rw [z];exact nit b u e
  ·exact nit c _ z
theorem Inv.tok (I:Inv X pins σ H s)(t:Nat):Inv X pins σ H { s with toks:=t }:=I.un (h':=s.heap) (t':=t) Un.refl I.hok
theorem Inv.kept {t':Nat}(I:Inv X pins σ H s)(k:∀ b u,s.heap.get? b=some u->h'.get? b=some u):Inv X pins σ H { s with heap:=h',toks:=t' }:=I.un (Un.kept k) (I.hok.kept k)
theorem Inv.laid {a:Addr}{o:HO}{t':Nat}(I:Inv X pins σ H s)(k:∀ b u,s.heap.get? b=some u->h'.get? b=some u)(hp:s.heap.objs.size≤a)(new:ObjOk X.prog X.w (upd H a o) h' a o) :
  Inv X pins σ (upd H a o) { s with heap:=h',toks:=t' }:=I.un (Un.laid k hp (I.hok.fresh hp)) (I.hok.laid k hp new)
theorem Inv.write {x e:Addr}{o:HO}{t':Nat}(I:Inv X pins σ H s)(mu:Mut (H x))(he:e=x∨H e=some (.own x))(k:∀ b u,b≠e->s.heap.get? b=some u->h'.get? b=some u)(heo:∃ u,h'.get? e=some u)
  (new:ObjOk X.prog X.w (upd H x o) h' x o):Inv X pins σ (upd H x o) { s with heap:=h',toks:=t' }:=I.un (Un.write mu he k heo) (I.hok.write mu he k heo new)
theorem Inv.pins_of {pins':List (Addr×Obj)}(I:Inv X pins σ H s)(h:∀ p∈pins',s.heap.get? p.1=some p.2∧H p.1=none∧p.1≠X.env.locals∧p.1∉X.fs∧∀ v,p.2.data≠.cell v):Inv X pins' σ H s:=
 ⟨I.ok,I.os,I.bare,I.base,I.loc,I.cell,I.free,I.freeC,λp hp=>(AL.mp hp).elim (λz=>I.pin p (Bh _ z)) (h p),I.hok,I.len⟩
theorem M9 {N:List Str}(hN:N.Nodup){i j:Nat}{x:Str}(a:N[i]? = some x)(b:N[j]? = some x):i=j:=by
 obtain ⟨h1,e1⟩:=Ae.mp a
 obtain ⟨h2,e2⟩:=Ae.mp b
 exact (List.getElem_inj hN).mp (e1.trans e2.symm)
theorem Qi {M:Model}{A:Around}{E:Value->Shared->Prop}{i:Nat}{x:Str}{v:V}{u:Value}{Q:Unit->Shared->Prop}(I:Inv X pins σ H s)(hN:X.N.Nodup)(hi:X.N[i]? = some x)(hx:Loc X.env.scope x)(r:RelV v u)
  (h:∀ s',Inv X pins (σ.set i (some v)) H s'->(∃ a,Heap.SameBut a s.heap s'.heap∧(a=X.env.locals∨X.env.cells.lookup x=some a))->Q () s') (hf:X.fn x=true∨X.env.scope.names.lookup x=some .local:=by first|exact .inl rfl|exact .inr rfl|assumption):wpAny M A (storeName X.env x u) Q E s:=by
 obtain ⟨m,hn,hl⟩:=id I.loc
 have hcls:(X.env.scope.kind==.class||(X.env.scope.kind==.module&&X.env.locals != X.env.globals))=false:=by rw [I.ok.kind];rfl
 have hiσ:i<σ.length:=by rw [I.len];exact (Ae.mp hi).1
 have cne:=I.cne
 have tracked:∀ {a:Addr} {h':Heap},(∃ o,s.heap.get? a=some o∧H a=none)->Heap.SameBut a s.heap h'->HOk X.prog X.w H h':=λ{a h'} ha hs b ob e=>by
  obtain ⟨_,_,hfree⟩:=ha
  refine (I.hok b ob e).stay (λc w' hc q=>(hs.2 c ?_).trans q) (λ_ q=>q) λ_ _ q=>q
  rintro rfl
  rcases hc with rfl|hc
  ·rw [hfree] at e;cases e
  ·rw [hfree] at hc;cases hc
 rcases hx with hk|hk
 ·refine wpAny_storeName_local hk hn (λh' hn' hs=>?_) hcls
  obtain ⟨oL,_,_,hoL,_⟩:=id hn
  refine h _ ⟨I.ok,I.os,I.bare,⟨λb o e n hb hx=>?_,λb o e n hb hx=>?_,I.base.free,λb o e hx=>?_,I.base.tups,I.base.frzs,I.base.tbls⟩,⟨_,hn',λj y v' e1 e2 e3=>?_⟩,λy c e=>?_,I.free,I.freeC,λp hp=>?_,tracked ⟨oL,hoL,I.free⟩ hs,by simpa using I.len⟩ ⟨_,hs,.inl rfl⟩
  ·exact (hs.2 b (Ay (AF (Ao e) I.ok.above))).trans (I.base.keep b o e n hb hx)
  ·obtain ⟨sl,e1⟩:=I.base.slot b o e n hb hx
   exact ⟨sl,(hs.2 b (Ay (AF (Ao e) I.ok.above))).trans e1⟩
  ·obtain ⟨o',e1⟩:=I.base.there b o e hx
   exact ⟨o',(hs.2 b (Ay (AF (Ao e) I.ok.above))).trans e1⟩
  ·by_cases hj:j=i
   ·subst hj
    rw [hi] at e1;cases e1
    rw [List.getElem?_set_self hiσ] at e2
    cases e2
    exact ⟨u,r,.inl ⟨hk,by simp⟩⟩
   ·rw [AV (Ne.symm hj)] at e2
    obtain ⟨u',r',q⟩:=hl j y v' e1 e2 e3
    refine ⟨u',r',?_⟩
    rcases q with ⟨k,e⟩|⟨k,c,e,z⟩
    ·refine .inl ⟨k,?_⟩
     have:y≠x:=λe=>hj (M9 hN e1 (e▸hi))
     simp [this,e]
    ·exact .inr ⟨k,c,e,z.sameBut hs (cne y c e)⟩
  ·obtain ⟨w',z⟩:=I.cell y c e
   exact ⟨w',z.sameBut hs (cne y c e)⟩
  ·obtain ⟨e,n,ne,nf,d⟩:=I.pin p hp
   exact ⟨(hs.2 p.1 ne).trans e,n,ne,nf,d⟩
 ·have hfn:X.fn x=true:=by
   rcases hf with z|z
   ·exact z
   ·rw [z] at hk;cases hk
  obtain ⟨c,hc⟩:=I.ok.has x (.inl hk)
  obtain ⟨w',z⟩:=I.cell x c hc
  refine wpAny_storeName_cell I.ok.kind hk hc z (λh' hc' hs=>?_)
  obtain ⟨oc,hoc,hocd⟩:=id z
  refine h { s with heap:=h' } ⟨I.ok,I.os,I.bare,⟨λb o e n hb hx=>?_,λb o e n hb hx=>?_,I.base.free,λb o e hx=>?_,I.base.tups,I.base.frzs,I.base.tbls⟩,⟨m,hn.sameBut hs (Ne.symm (cne x c hc)),λj y v' e1 e2 e3=>?_⟩,λy c' e=>?_,I.free,I.freeC,λp hp=>?_,tracked ⟨oc,hoc,I.freeC x c hc⟩ hs,by simpa using I.len⟩ ⟨c,hs,.inr hc⟩
  ·exact (hs.2 b (Ay (AF (Ao e) (I.ok.cab x c hfn hc)))).trans (I.base.keep b o e n hb hx)
  ·obtain ⟨sl,e1⟩:=I.base.slot b o e n hb hx
   exact ⟨sl,(hs.2 b (Ay (AF (Ao e) (I.ok.cab x c hfn hc)))).trans e1⟩
  ·obtain ⟨o',e1⟩:=I.base.there b o e hx
   exact ⟨o',(hs.2 b (Ay (AF (Ao e) (I.ok.cab x c hfn hc)))).trans e1⟩
  ·by_cases hj:j=i
   ·subst hj
    rw [hi] at e1;cases e1
    rw [List.getElem?_set_self hiσ] at e2
    cases e2
    exact ⟨u,r,.inr ⟨.inl hk,c,hc,hc'⟩⟩
   ·rw [AV (Ne.symm hj)] at e2
    obtain ⟨u',r',q⟩:=hl j y v' e1 e2 e3
    refine ⟨u',r',?_⟩
    rcases q with q|⟨k,c',e,z'⟩
    ·exact .inl q
    ·refine .inr ⟨k,c',e,z'.sameBut hs ?_⟩
     rintro rfl
     exact hj (M9 hN e1 (I.ok.inj _ _ _ e hc▸hi))
  ·by_cases hcc:c'=c
   ·subst hcc;exact ⟨_,hc'⟩
   ·obtain ⟨w2,z2⟩:=I.cell y c' e
    exact ⟨w2,z2.sameBut hs hcc⟩
  ·obtain ⟨e,n,ne,nf,d⟩:=I.pin p hp
   refine ⟨(hs.2 p.1 ?_).trans e,n,ne,nf,d⟩
   intro q
   rw [q,hoc] at e
   have q':oc=p.2:=AB e
   exact d w' (by rw [← q'];exact hocd)
theorem Gq {M:Model}{A:Around}{E:Value->Shared->Prop}{i:Nat}{x:Str}{v:V}{u:Value}{Q:Unit->Shared->Prop}(I:Inv X pins σ H s)(hN:X.N.Nodup)(hi:X.N[i]? = some x)(hx:Loc X.env.scope x)(r:RelV v u)
  (h:∀ s',Inv X pins (σ.set i (some v)) H s'->Q () s') (hf:X.fn x=true∨X.env.scope.names.lookup x=some .local:=by first|exact .inl rfl|exact .inr rfl|assumption):wpAny M A (storeName X.env x u) Q E s:=
 Qi I hN hi hx r (λs' I' _=>h s' I') hf
theorem Inv.call' {s':Shared}{ch:List Addr}(I:Inv X pins σ H s)(ho:s'.os=s.os)(u:Un (frs X.stack) ch H H' s.heap s'.heap)(hok:HOk X.prog X.w H' s'.heap)(hg:AllBare s'.gens)
  (hch:∀ b∈ch,(b∈X.ex∨X.s₀.heap.objs.size≤b)∧b≠X.env.locals∧(∀ x c,X.env.cells.lookup x=some c->c≠b)∧∀ p∈X.pn++pins,p.1≠b):Inv X pins σ H' s':=by
 obtain ⟨h',g',d',t',o'⟩:=s'
 have e:o'=s.os:=ho
 subst e
 exact I.call (g':=g') (t':=t') (d':=d') u hok hg hch
end
noncomputable abbrev XK:=Value->Option Addr->Hp->Prop
noncomputable abbrev St:=List (Option V)
noncomputable abbrev VK:=V->Hp->Prop
noncomputable abbrev TE:=St->Hp->VK->Prop
noncomputable abbrev TT:=St->Hp->(Bool->Hp->Prop)->Prop
noncomputable abbrev TA:=St->Hp->(List V->Hp->Prop)->Prop
structure Ends where
 nx:St->Hp->Prop
 rt:VK
 bk:St->Hp->Prop:=λ_ _=>False
 ct:St->Hp->Prop:=λ_ _=>False
noncomputable abbrev TS:=Ends->St->Hp->Prop
noncomputable def EP (X:Cx)(pins:List (Addr×Obj))(σ:St)(Q:VK)(u:Value)(s':Shared):Prop:=∃ v H',Inv X pins σ H' s'∧RelV v u∧Q v H'
noncomputable def TP (X:Cx)(pins:List (Addr×Obj))(σ:St)(Q:Bool->Hp->Prop)(b:Bool)(s':Shared):Prop:=∃ H',Inv X pins σ H' s'∧Q b H'
noncomputable def AP (X:Cx)(pins:List (Addr×Obj))(σ:St)(Q:List V->Hp->Prop)(us:List Value)(s':Shared):Prop:=∃ vs H',Inv X pins σ H' s'∧Vals vs us∧Q vs H'
noncomputable def SP (X:Cx)(pins:List (Addr×Obj))(D:Ends)(f:Flow)(s':Shared):Prop:=
 match f with
 | .next=>∃ σ' H',Inv X pins σ' H' s'∧D.nx σ' H'
 | .brk=>∃ σ' H',Inv X pins σ' H' s'∧D.bk σ' H'
 | .cont=>∃ σ' H',Inv X pins σ' H' s'∧D.ct σ' H'
 | .ret u=>∃ v σ' H',Inv X pins σ' H' s'∧RelV v u∧D.rt v H'
noncomputable def PE (X:Cx)(e:Expr)(t:TE):Prop:=
 ∀ (pins:List (Addr×Obj)) (s:Shared) (σ:St) (H:Hp) (Q:VK),Inv X pins σ H s->t σ H Q->wpAny (model X.prog X.w) X.A (eval e X.env) (EP X pins σ Q) X.xe s
noncomputable def PT (X:Cx)(e:Expr)(t:TT):Prop:=
 ∀ (pins:List (Addr×Obj)) (s:Shared) (σ:St) (H:Hp) (Q:Bool->Hp->Prop),Inv X pins σ H s->t σ H Q->wpAny (model X.prog X.w) X.A (isTrue e X.env (eval e X.env)) (TP X pins σ Q) X.xe s
noncomputable def PW (X:Cx)(e:Expr)(t:TT):Prop:=
 ∀ (whole:Sem Value) (pins:List (Addr×Obj)) (s:Shared) (σ:St) (H:Hp) (Q:Bool->Hp->Prop),Inv X pins σ H s->t σ H Q->wpAny (model X.prog X.w) X.A (isTrue e X.env whole) (TP X pins σ Q) X.xe s
theorem PW.pt {X:Cx}{e:Expr}{t:TT}(h:PW X e t):PT X e t:=h _
noncomputable def PA (X:Cx)(es:List Expr)(t:TA):Prop:=
 ∀ (pos:Pos) (pins:List (Addr×Obj)) (s:Shared) (σ:St) (H:Hp) (Q:List V->Hp->Prop),Inv X pins σ H s->t σ H Q->wpAny (model X.prog X.w) X.A (spliced (backTo pos (starEach es X.env))) (AP X pins σ Q) X.xe s
noncomputable def PS (X:Cx)(st:Stmt)(t:TS):Prop:=
 ∀ (pins:List (Addr×Obj)) (s:Shared) (σ:St) (H:Hp) (D:Ends),Inv X pins σ H s->t D σ H->wpAny (model X.prog X.w) X.A (exec st X.env) (SP X pins D) X.xe s
noncomputable def PSs (X:Cx)(st:List Stmt)(t:TS):Prop:=
 ∀ (pins:List (Addr×Obj)) (s:Shared) (σ:St) (H:Hp) (D:Ends),Inv X pins σ H s->t D σ H->wpAny (model X.prog X.w) X.A (execs st X.env) (SP X pins D) X.xe s
theorem thn {α:Type}{t:Sem α}{Q Q':α->Shared->Prop}{M:Model}{A:Around}{E:Value->Shared->Prop}{s:Shared}(h:wpAny M A t Q E s)(hQ:∀ a s,Q a s->Q' a s):wpAny M A t Q' E s:=wpAny_mono h hQ λ_ _ x=>x
section
variable {X:Cx}
noncomputable def Z2 (i:Nat):TE:=fun σ H Q=>∃ v,σ[i]? = some (some v)∧Q v H
noncomputable def tC (v:V):TE:=λ_ H Q=>Q v H
theorem XF {i:Nat}{x:Str}{pos:Pos}(hN:X.N[i]? = some x)(hv:Vis X.env.scope x)(hd:(x==("__debug__":Str))=false:=by decide)(hcd:(x==("__classdict__":Str))=false:=by decide):PE X (.Name x pos) (Z2 i):=by
 intro pins s σ H Q I h
 obtain ⟨v,e,h⟩:=h
 obtain ⟨m,hn,hl⟩:=I.loc
 obtain ⟨u,r,l⟩:=hl i x v hN e hv
 have fin:EP X pins σ Q u s:=⟨v,H,I,r,h⟩
 rcases l with ⟨hk,hm⟩|⟨hk,c,hc,hcell⟩
 ·exact wpAny_Name (wpAny_loadName_local I.ok.kind hk hn hm fin) hd
 ·rcases hk with hk|hk
  ·exact wpAny_Name (wpAny_loadName_cell I.ok.kind hk hc hcell fin) hd
  ·exact wpAny_Name (wpAny_loadName_free I.ok.kind hk hc hcell fin hcd) hd
theorem RF {i j pos}:PE X (.Constant (.int i) j pos) (tC (.int i)):=λ_ _ _ H _ I h=>wpAny_Constant_int ⟨.int i,H,I.tok _,⟨_,rfl⟩,h⟩
theorem Yx {b j pos}:PE X (.Constant (.bool b) j pos) (tC (.bl b)):=λ_ _ _ H _ I h=>Constant_bool ⟨.bl b,H,I,rfl,h⟩
theorem Wx {j pos}:PE X (.Constant .none j pos) (tC .non):=λ_ _ _ H _ I h=>Constant_none ⟨.non,H,I,rfl,h⟩
theorem WE {x j pos}:PE X (.Constant (.str x) j pos) (tC (.str x)):=λ_ _ _ H _ I h=>Calls.Constant_str ⟨.str x,H,I.tok _,⟨_,rfl⟩,h⟩
noncomputable def Gl (X:Cx)(x:Str):Prop:=X.env.kindOf x=some .globalImplicit
theorem O4 {E:Value->Shared->Prop}{pins:List (Addr×Obj)}{s:Shared}{σ:St}{H:Hp}{x:Str}{u:Value}{pos:Pos}{Q:Value->Shared->Prop}(I:Inv X pins σ H s)(hg:Gl X x)(hm:X.mg x=some u)(h:Q u s)
  (hd:(x==("__debug__":Str))=false:=by decide):wpAny (model X.prog X.w) X.A (eval (.Name x pos) X.env) Q E s:=
 Calls.Name_function_global I.ok.kind hg (Calls.loadGlobal_global (by rw [I.ok.glob];exact I.mod.glob.keeps I.bk) hm h) hd
theorem IG {E:Value->Shared->Prop}{pins:List (Addr×Obj)}{s:Shared}{σ:St}{H:Hp}{x:Str}{u:Value}{pos:Pos}{Q:Value->Shared->Prop}(I:Inv X pins σ H s)(hg:Gl X x)(hm:X.mg x=none)(hv:bootBuiltins x=some u)(h:Q u s)
  (hn:x≠"__name__":=by decide) (hd:(x==("__debug__":Str))=false:=by decide):wpAny (model X.prog X.w) X.A (eval (.Name x pos) X.env) Q E s:=by
 obtain ⟨mb,h1,h2⟩:=I.mod.blt
 exact Calls.Name_function_global I.ok.kind hg (Calls.loadGlobal_builtin (by rw [I.ok.glob];exact I.mod.glob.keeps I.bk) hm (by rw [I.ok.blt];exact h1.keeps I.bk) ((h2 x hn).trans hv) h) hd
theorem O0 {x:Str}{v:V}{u:Value}{pos:Pos}(hg:Gl X x)(hm:X.mg x=some u)(r:RelV v u)(hd:(x==("__debug__":Str))=false:=by decide):PE X (.Name x pos) (tC v):=
 λ_ _ _ H _ I h=>O4 I hg hm ⟨v,H,I,r,h⟩ hd
theorem Ur {x:Str}{v:V}{u:Value}{pos:Pos}(hg:Gl X x)(hm:X.mg x=none)(hv:bootBuiltins x=some u)(r:RelV v u)(hn:x≠"__name__":=by decide)(hd:(x==("__debug__":Str))=false:=by decide):PE X (.Name x pos) (tC v):=
 λ_ _ _ H _ I h=>IG I hg hm hv ⟨v,H,I,r,h⟩ hn hd
variable {a b:Expr} {ta tb:TE} {pos:Pos}
noncomputable def tB (t:TE):TT:=fun σ H Q=>t σ H λx H1=>∃ c,x=.bl c∧Q c H1
theorem WR {e:Expr}{t:TE}(h:PE X e t)(he:∀ whole,isTrue e X.env whole=(do let v←whole;standAt e.pos;holding [v] (truthy v)):=by intro _;rfl):PT X e (tB t):=by
 intro pins s σ H Q I hw
 refine isTrue_plain (thn (h pins s σ H _ I hw) λv s1 ⟨x,H1,I1,r1,q1⟩=>?_) (he _)
 obtain ⟨d,rfl,q⟩:=q1
 cases r1
 exact Bi ⟨H1,I1,q⟩
variable {tA tB':TT} {rest:List Expr}
noncomputable def Aae (t u:TT):TT:=fun σ H Q=>t σ H λc H1=>if c=true then u σ H1 Q else Q false H1
noncomputable def tOr (t u:TT):TT:=fun σ H Q=>t σ H λc H1=>if c=true then Q true H1 else u σ H1 Q
noncomputable def Aal (t:TT):TT:=fun σ H Q=>t σ H λc H1=>Q (!c) H1
theorem U9 (ha:PT X a tA):PW X (.BoolOp .And [a] pos) tA:=by
 intro wh pins s σ H Q I h
 refine isTrue_and (thn (ha pins s σ H Q I h) λc s1 e=>?_)
 cases c with
 | true=>exact isTrue_and_nil e
 | false=>exact e
theorem V9 (ha:PT X a tA):PW X (.BoolOp .Or [a] pos) tA:=by
 intro wh pins s σ H Q I h
 refine isTrue_or (thn (ha pins s σ H Q I h) λc s1 e=>?_)
 cases c with
 | false=>exact isTrue_or_nil e
 | true=>exact e
theorem Wj (ha:PT X a tA)(hb:PW X (.BoolOp .And (b::rest) pos) tB'):PW X (.BoolOp .And (a::b::rest) pos) (Aae tA tB'):=by
 intro wh pins s σ H Q I h
 refine isTrue_and (thn (ha pins s σ H _ I h) λc s1 ⟨H1,I1,q1⟩=>?_)
 cases c with
 | true=>exact hb wh pins s1 σ H1 Q I1 q1
 | false=>exact ⟨H1,I1,q1⟩
theorem YN (ha:PT X a tA)(hb:PW X (.BoolOp .Or (b::rest) pos) tB'):PW X (.BoolOp .Or (a::b::rest) pos) (tOr tA tB'):=by
 intro wh pins s σ H Q I h
 refine isTrue_or (thn (ha pins s σ H _ I h) λc s1 ⟨H1,I1,q1⟩=>?_)
 cases c with
 | true=>exact ⟨H1,I1,q1⟩
 | false=>exact hb wh pins s1 σ H1 Q I1 q1
theorem V6 (ha:PT X a tA):PT X (.UnaryOp .Not a pos) (Aal tA):=by
 intro pins s σ H Q I h
 exact isTrue_not (ha pins s σ H (λc H1=>Q (!c) H1) I h)
noncomputable def Zh (ta tb:TE):TE:=fun σ H Q=>ta σ H λx H1=>∃ c,x=.bl c∧if c=true then tb σ H1 Q else Q (.bl false) H1
noncomputable def AaE (ta tb:TE):TE:=fun σ H Q=>ta σ H λx H1=>∃ c,x=.bl c∧if c=true then Q (.bl true) H1 else tb σ H1 Q
theorem WZ {op}{t:TE}(h:PE X a t):PE X (.BoolOp op [a] pos) t:=λpins s σ H Q I hw=>BoolOp_one (h pins s σ H Q I hw)
theorem Wq (ha:PE X a ta)(hb:PE X (.BoolOp .And (b::rest) pos) tb):PE X (.BoolOp .And (a::b::rest) pos) (Zh ta tb):=by
 intro pins s σ H Q I h
 refine BoolOp_and (thn (ha pins s σ H _ I h) λv s1 ⟨x,H1,I1,r1,q1⟩=>?_)
 obtain ⟨c,rfl,q1⟩:=q1
 cases r1
 refine Bi ?_
 cases c with
 | true=>exact hb pins s1 σ H1 Q I1 q1
 | false=>exact ⟨.bl false,H1,I1,rfl,q1⟩
theorem Zf (ha:PE X a ta)(hb:PE X (.BoolOp .Or (b::rest) pos) tb):PE X (.BoolOp .Or (a::b::rest) pos) (AaE ta tb):=by
 intro pins s σ H Q I h
 refine BoolOp_or (thn (ha pins s σ H _ I h) λv s1 ⟨x,H1,I1,r1,q1⟩=>?_)
 obtain ⟨c,rfl,q1⟩:=q1
 cases r1
 refine Bi ?_
 cases c with
 | false=>exact hb pins s1 σ H1 Q I1 q1
 | true=>exact ⟨.bl true,H1,I1,rfl,q1⟩
noncomputable def tIf (t:TT)(ta tb:TE):TE:=fun σ H Q=>t σ H λc H1=>if c=true then ta σ H1 Q else tb σ H1 Q
theorem QY {c:Expr}(hc:PT X c tA)(ha:PE X a ta)(hb:PE X b tb):PE X (.IfExp c a b pos) (tIf tA ta tb):=by
 intro pins s σ H Q I h
 refine wpAny_IfExp (thn (hc pins s σ H _ I h) λd s1 ⟨H1,I1,q1⟩=>?_)
 cases d with
 | true=>exact ha pins s1 σ H1 Q I1 q1
 | false=>exact hb pins s1 σ H1 Q I1 q1
end
noncomputable def SqL (K:PySem.W.Frag)(H:Hp)(a:Addr)(xs:List V):Prop:=
 Rd H a (.lst xs) ∨
  ∃ (o:Obj) (its:Array Value) (n:Nat),K.lookup a=some o∧o.cls=.type "list"∧o.dict=none∧o.data=.seq its n∧its.size≤sizeLine∧Vals xs its.toList
noncomputable def SqT (K:PySem.W.Frag)(H:Hp)(a:Addr)(xs:List V):Prop:=
 Rd H a (.tup xs) ∨
  ∃ (o:Obj) (its:Array Value) (n:Nat),K.lookup a=some o∧o.cls=.type "tuple"∧o.dict=none∧o.data=.seq its n∧its.size≤sizeLine∧Vals xs its.toList
noncomputable def AaO:Value->Option V
 | .none=>some .non
 | .bool b=>some (.bl b)
 | .int i _=>some (.int i)
 | .str x _=>some (.str x)
 | .bytes b _=>some (.byt b)
 | .float b _=>some (.flt b)
 | .ref a=>some (.ref a)
 | .type n=>some (.ty n)
 | _=>none
theorem RelV.abs {x:V}{u:Value}(r:RelV x u):AaO u=some x:=by
 cases x with
 | non=>cases r;rfl
 | bl _=>cases r;rfl
 | int _=>obtain ⟨t,rfl⟩:=r;rfl
 | str _=>obtain ⟨t,rfl⟩:=r;rfl
 | byt _=>obtain ⟨t,rfl⟩:=r;rfl
 | flt _=>obtain ⟨t,rfl⟩:=r;rfl
 | ref _=>cases r;rfl
 | ty _=>cases r;rfl
theorem RelV.inj {x y:V}{u:Value}(r:RelV x u)(q:RelV y u):x=y:=AB (r.abs.symm.trans q.abs)
theorem Vals.inj:∀ {xs ys:List V} {us:List Value},Vals xs us->Vals ys us->xs=ys
 | _,_,_,.nil,.nil=>rfl
 | _,_,_,.cons r t,.cons r' t'=>by rw [r.inj r',Vals.inj t t']
section
variable {X:Cx} {pins:List (Addr×Obj)} {σ:St} {H:Hp} {s:Shared} {a:Addr} {xs ys:List V}
theorem SqL.of {K:PySem.W.Frag}(h:H a=some (.lst xs)):SqL K H a xs:=.inl (.inl h)
theorem SqT.of {K:PySem.W.Frag}(h:H a=some (.tup xs)):SqT K H a xs:=.inl (.inl h)
theorem Inv.list (I:Inv X pins σ H s)(h:SqL X.K H a xs):∃ its:List Value,Vals xs its∧PlainL s.heap a its.toArray∧xs.length≤sizeLine:=by
 rcases h with h|⟨o,its,n,hk,hc,hd,hs,hz,r⟩
 ·obtain ⟨z,its,n,r,e⟩:=h.ok I.hok
  exact ⟨its,r,⟨_,n,e,rfl,rfl,rfl⟩,z⟩
 ·refine ⟨its.toList,r,⟨o,n,I.kIn a o hk,hc,hd,by simpa using hs⟩,?_⟩
  have e:=r.length
  simp only [Array.length_toList] at e
  omega
theorem Inv.tuple (I:Inv X pins σ H s)(h:SqT X.K H a xs):∃ its:List Value,Vals xs its∧IsTup s.heap a its.toArray∧xs.length≤sizeLine:=by
 rcases h with h|⟨o,its,n,hk,hc,_,hs,hz,r⟩
 ·obtain ⟨⟨z,_⟩,its,r,p⟩:=h.ok I.hok
  exact ⟨its,r,p,z⟩
 ·refine ⟨its.toList,r,⟨o,I.kIn a o hk,hc,n,by simpa using hs⟩,?_⟩
  have e:=r.length
  simp only [Array.length_toList] at e
  omega
theorem Inv.list_inj (I:Inv X pins σ H s)(h:SqL X.K H a xs)(h':SqL X.K H a ys):xs=ys:=by
 obtain ⟨its,r,⟨o,n,e,_,_,d⟩,_⟩:=I.list h
 obtain ⟨its',r',⟨o',n',e',_,_,d'⟩,_⟩:=I.list h'
 rw [e] at e';cases e'
 rw [d] at d'
 injection d' with d1 _
 have:its=its':=by simpa using congrArg Array.toList d1
 subst this
 exact r.inj r'
theorem Inv.tuple_inj (I:Inv X pins σ H s)(h:SqT X.K H a xs)(h':SqT X.K H a ys):xs=ys:=by
 obtain ⟨its,r,⟨o,e,_,n,d⟩,_⟩:=I.tuple h
 obtain ⟨its',r',⟨o',e',_,n',d'⟩,_⟩:=I.tuple h'
 rw [e] at e';cases e'
 rw [d] at d'
 injection d' with d1 _
 have:its=its':=by simpa using congrArg Array.toList d1
 subst this
 exact r.inj r'
end
noncomputable abbrev Cx.wish (X:Cx) (E:Value->Shared->Prop):Cx:={ X with xe:=E }
noncomputable abbrev Cx.nox (X:Cx):Cx:=X.wish λ_ _=>False
theorem Cx.Ok.wish {X:Cx}(ok:X.Ok)(E:Value->Shared->Prop):(X.wish E).Ok:=
 ⟨ok.mod,ok.kind,ok.glob,ok.blt,ok.above,ok.inj,ok.has,ok.cab,ok.hd,ok.frames,ok.stk,ok.exf,ok.bs,ok.bsz,ok.noex,ok.exfs,ok.funs,ok.frf⟩
theorem Cx.Ok.unwish {X:Cx}{E:Value->Shared->Prop}(ok:(X.wish E).Ok):X.Ok:=
 ⟨ok.mod,ok.kind,ok.glob,ok.blt,ok.above,ok.inj,ok.has,ok.cab,ok.hd,ok.frames,ok.stk,ok.exf,ok.bs,ok.bsz,ok.noex,ok.exfs,ok.funs,ok.frf⟩
section
variable {X:Cx} {pins:List (Addr×Obj)} {σ:St} {H:Hp} {s:Shared} {E:Value->Shared->Prop}
theorem Inv.wish (I:Inv X pins σ H s)(E:Value->Shared->Prop):Inv (X.wish E) pins σ H s:=⟨I.ok.wish E,I.os,I.bare,I.base,I.loc,I.cell,I.free,I.freeC,I.pin,I.hok,I.len⟩
theorem Inv.unwish (I:Inv (X.wish E) pins σ H s):Inv X pins σ H s:=⟨I.ok.unwish,I.os,I.bare,I.base,I.loc,I.cell,I.free,I.freeC,I.pin,I.hok,I.len⟩
theorem SP.unwish {D:Ends}{f:Flow}{s':Shared}(h:SP (X.wish E) pins D f s'):SP X pins D f s':=by
 cases f with
 | next=>obtain ⟨σ',H',I,q⟩:=h;exact ⟨σ',H',I.unwish,q⟩
 | brk=>obtain ⟨σ',H',I,q⟩:=h;exact ⟨σ',H',I.unwish,q⟩
 | cont=>obtain ⟨σ',H',I,q⟩:=h;exact ⟨σ',H',I.unwish,q⟩
 | ret u=>obtain ⟨v,σ',H',I,r,q⟩:=h;exact ⟨v,σ',H',I.unwish,r,q⟩
theorem PSs.nox {st:List Stmt}{t:TS}(h:PSs X.nox st t):PSs X st t:=λpins s σ H D I hw =>
 wpAny_mono (h pins s σ H D (I.wish _) hw) (λ_ _ q=>q.unwish) λ_ _ z=>False.elim z
end
section
variable {X:Cx} {st:Stmt} {rest:List Stmt} {t u:TS} {e:Expr} {te:TE} {pos:Pos}
noncomputable def ZT:TS:=λD σ H=>D.nx σ H
noncomputable def AaH (t u:TS):TS:=λD σ H=>t { D with nx:=u D } σ H
theorem Vf:PSs X [] ZT:=λ_ _ σ H _ I h=>wpAny_execs_nil ⟨σ,H,I,h⟩
theorem RD (h1:PS X st t)(h2:PSs X rest u):PSs X (st::rest) (AaH t u):=by
 intro pins s σ H D I h
 refine wpAny_execs_cons (thn (h1 pins s σ H { D with nx:=u D } I h) λf s1 q=>?_)
 cases f with
 | next =>
  obtain ⟨σ',H',I',q⟩:=q
  exact h2 pins s1 σ' H' D I' q
 | ret v=>exact q
 | brk=>exact q
 | cont=>exact q
theorem Vy (h1:PS X st t):PSs X [st] t:=by
 intro pins s σ H D I h
 refine wpAny_execs_cons (thn (h1 pins s σ H D I h) λf s1 q=>?_)
 cases f with
 | next=>exact wpAny_execs_nil q
 | ret v=>exact q
 | brk=>exact q
 | cont=>exact q
theorem Inv.quiet {pins:List (Addr×Obj)}{σ:St}{H:Hp}{s:Shared}(I:Inv X pins σ H s):interactive X.env=false:=by simp [interactive,I.ok.kind]
noncomputable def Ys (te:TE):TS:=λD σ H=>te σ H λ_ H1=>D.nx σ H1
theorem Um (he:PE X e te)(hs:swapsWith e none pos.line X.env=pure false:=by rfl):PS X (.Expr e pos) (Ys te):=by
 intro pins s σ H D I h
 exact wpAny_Expr_any (thn (he pins s σ H _ I h) λv s1 ⟨x,H1,I1,r1,q1⟩=>⟨σ,H1,I1,q1⟩) I.quiet hs
noncomputable def AaU (te:TE):TS:=λD σ H=>te σ H D.rt
theorem Xs (he:PE X e te):PS X (.Return (some e) pos) (AaU te):=by
 intro pins s σ H D I h
 exact wpAny_Return_some (thn (he pins s σ H _ I h) λv s1 ⟨x,H1,I1,r1,q1⟩=>⟨x,σ,H1,I1,r1,q1⟩)
noncomputable def Aak (c:TT)(t u:TS):TS:=λD σ H=>c σ H λb H1=>if b=true then t D σ H1 else u D σ H1
theorem ZA {c:Expr}{a b:List Stmt}{tc:TT}(hc:PT X c tc)(ha:PSs X a t)(hb:PSs X b u):PS X (.If c a b pos) (Aak tc t u):=by
 intro pins s σ H D I h
 refine wpAny_If (thn (hc pins s σ H _ I h) λd s1 ⟨H1,I1,q1⟩=>?_)
 cases d with
 | true=>exact ha pins s1 σ H1 D I1 q1
 | false=>exact hb pins s1 σ H1 D I1 q1
end
noncomputable abbrev TG:=V->St->Hp->(St->Hp->Prop)->Prop
noncomputable abbrev TGs:=List V->St->Hp->(St->Hp->Prop)->Prop
noncomputable def PG (X:Cx)(target:Expr)(t:TG):Prop:=
 ∀ (pins:List (Addr×Obj)) (s:Shared) (σ:St) (H:Hp) (v:V) (u:Value) (Q:St->Hp->Prop),Inv X pins σ H s->RelV v u->t v σ H Q ->
  wpAny (model X.prog X.w) X.A (assign target X.env u) (λ_ s'=>∃ σ' H',Inv X pins σ' H' s'∧Q σ' H') X.xe s
noncomputable def PGs (X:Cx)(ts:List Expr)(t:TGs):Prop:=
 ∀ (pins:List (Addr×Obj)) (s:Shared) (σ:St) (H:Hp) (vs:List V) (us:List Value) (Q:St->Hp->Prop),Inv X pins σ H s->Vals vs us->t vs σ H Q ->
  wpAny (model X.prog X.w) X.A (assignInOrder ((assignEach ts X.env).map (·.2)) us) (λ_ s'=>∃ σ' H',Inv X pins σ' H' s'∧Q σ' H') X.xe s
noncomputable abbrev Q6:=V->V->V->Hp->(Hp->Prop)->Prop
noncomputable def UH (X:Cx)(t:Q6):Prop:=
 ∀ (pins:List (Addr×Obj)) (s:Shared) (σ:St) (H:Hp) (o i v:V) (ov iv u:Value) (Q:Hp->Prop),Inv X pins σ H s->RelV o ov->RelV i iv->RelV v u->t o i v H Q ->
  wpAny (model X.prog X.w) X.A (setItem ov iv u) (λ_ s'=>∃ H',Inv X pins σ H' s'∧Q H') X.xe s
section
variable {X:Cx} {pos:Pos}
noncomputable def Rr (i:Nat):TG:=λv σ H Q=>Q (σ.set i (some v)) H
theorem U0 {i:Nat}{x:Str}(hN:X.N.Nodup)(hi:X.N[i]? = some x)(hx:Loc X.env.scope x)(hf:X.fn x=true∨X.env.scope.names.lookup x=some .local:=by first|exact .inl rfl|exact .inr rfl|assumption):PG X (.Name x pos) (Rr i):=by
 intro pins s σ H v u Q I r h
 exact wpAny_assign_Name (Gq I hN hi hx r (λs' I'=>⟨_,H,I',h⟩) hf)
noncomputable def Z9:TGs:=λvs σ H Q=>vs=[]∧Q σ H
noncomputable def YG (t:TG)(u:TGs):TGs:=λvs σ H Q=>∃ v r,vs=v::r∧t v σ H fun σ' H'=>u r σ' H' Q
theorem Vx:PGs X [] Z9:=by
 intro pins s σ H vs us Q I r h
 obtain ⟨e,h⟩:=h
 subst e
 cases r
 exact assignInOrder_nil ⟨σ,H,I,h⟩
theorem SS {e:Expr}{es:List Expr}{t:TG}{u:TGs}(h1:PG X e t)(h2:PGs X es u)
  (hs:(assignEach (e::es) X.env).map (·.2)=assign e X.env::(assignEach es X.env).map (·.2):=by rfl):PGs X (e::es) (YG t u):=by
 intro pins s σ H vs us Q I r h
 obtain ⟨v,vr,e1,h⟩:=h
 subst e1
 cases r with
 | cons r rr =>
  rw [hs]
  refine assignInOrder_cons (thn (h1 pins s σ H _ _ _ I r h) λ_ s1 ⟨σ1,H1,I1,q1⟩=>?_)
  exact h2 pins s1 σ1 H1 _ _ Q I1 rr q1
noncomputable def AaY (K:PySem.W.Frag)(n:Nat)(t:TGs):TG:=λv σ H Q=>∃ a xs,v=.ref a∧SqT K H a xs∧xs.length=n∧t xs σ H Q
theorem Xw {es:List Expr}{k:Nat}{t:TGs}{n:Nat}(hc:X.calm=true)(h:PGs X es t)
  (hn:(assignEach es X.env).length=n:=by rfl) (hst:(assignEach es X.env).findIdx? (·.1)=none:=by rfl):PG X (.Tuple es k pos) (AaY X.K n t):=by
 intro pins s σ H v u Q I r hw
 obtain ⟨a,xs,e1,hq,hl,hw⟩:=hw
 subst e1
 cases r
 obtain ⟨its,rv,ht,hz⟩:=I.tuple hq
 refine assign_Tuple_tuple (I.ok.hd hc) ht (by simp [hn,← hl,rv.length]) hst λh' hx=>?_
 have I1:Inv X pins σ H { s with heap:=h' }:=I.kept (t':=s.toks) λb o e=>hx b o (Ay (Ao e)) e
 exact h pins _ σ H xs _ Q I1 (by simpa using rv) hw
noncomputable def AaB (to ti:TE)(t:Q6):TG:=λv σ H Q=>to σ H λo H1=>ti σ H1 λi H2=>t o i v H2 λH3=>Q σ H3
theorem XN {o i:Expr}{to ti:TE}{t:Q6}(ho:PE X o to)(hi:PE X i ti)(hs:UH X t)
  (ha:∀ v,assign (.Subscript o i pos) X.env v=(do
   let ov←holding [v] (eval o X.env)
   let iv←holding [v,ov] (eval i X.env)
   standAt pos
   holding [v,ov,iv] (setItem ov iv v)
   release [v,ov,iv] []):=by intro _;rfl):PG X (.Subscript o i pos) (AaB to ti t):=by
 intro pins s σ H v u Q I r h
 rw [ha]
 refine Aa (AI (thn (ho pins s σ H _ I h) λov s1 ⟨x,H1,I1,r1,q1⟩=>?_))
 refine Aa (AI (thn (hi pins s1 σ H1 _ I1 q1) λiv s2 ⟨y,H2,I2,r2,q2⟩=>?_))
 refine Aa (wpAny_standAt (Aa (AI (thn (hs pins s2 σ H2 x y v ov iv u _ I2 r1 r2 r q2) λ_ s3 ⟨H3,I3,q3⟩=>?_))))
 exact wpAny_release ⟨σ,H3,I3,q3⟩
noncomputable def U7 (te:TE)(g:TG):TS:=λD σ H=>te σ H λx H1=>g x σ H1 D.nx
theorem WT {tg e:Expr}{te:TE}{g:TG}(he:PE X e te)(hg:PG X tg g)(hs:swapsWithSole [tg] e pos.line X.env=pure false:=by rfl)(hw:swappedStores [tg] e X.env=pure none:=by rfl)
  (h1:(assignEach [tg] X.env).map (·.2)=[assign tg X.env]:=by rfl):PS X (.Assign [tg] e pos) (U7 te g):=by
 intro pins s σ H D I h
 refine wpAny_Assign_stores (thn (he pins s σ H _ I h) λv s1 ⟨x,H1,I1,r1,q1⟩=>?_) hs hw
 rw [h1]
 exact thn (hg pins s1 σ H1 x v _ I1 r1 q1) λ_ s2 q=>q
theorem Ws {i:Nat}{x:Str}{e:Expr}{te:TE}{pos':Pos}(hN:X.N.Nodup)(hi:X.N[i]? = some x)(hx:Loc X.env.scope x)(he:PE X e te)(hs:swapsWith e (some (.Name x pos')) pos.line X.env=pure false:=by rfl)(hf:X.fn x=true∨X.env.scope.names.lookup x=some .local:=by first|exact .inl rfl|exact .inr rfl|assumption) :
  PS X (.Assign [.Name x pos'] e pos) (U7 te (Rr i)):=by
 intro pins s σ H D I h
 refine wpAny_Assign_Name (thn (he pins s σ H _ I h) λv s1 ⟨y,H1,I1,r1,q1⟩=>?_) hs
 exact Gq I1 hN hi hx r1 (λs2 I2=>⟨_,H1,I2,q1⟩) hf
end
structure It where
 go:Nat->Hp->Prop
 yld:Nat->Hp->V->Hp->Prop
 stop:Nat->Hp->Prop
noncomputable def Iq (X:Cx)(pins:List (Addr×Obj))(H:Hp)(b:Addr):Prop:=
 H b=none∧b≠X.env.locals∧b∉X.fs∧(b∈X.ex∨X.s₀.heap.objs.size≤b)∧(∀ x c,X.env.cells.lookup x=some c->c≠b)∧∀ p∈X.pn++pins,p.1≠b
theorem Inv.fpOk {X:Cx}{pins:List (Addr×Obj)}{σ:St}{H H':Hp}{s:Shared}{b:Addr}(I:Inv X pins σ H s)(hb:s.heap.objs.size≤b)(hn:H' b=none):Iq X pins H' b:=by
 refine ⟨hn,Nat.ne_of_gt (AF I.lt hb),I.nofs hb,.inr (AQ I.sz hb),λx c e z=>?_,λp hp z=>?_⟩
 ·obtain ⟨v,q⟩:=I.cell x c e
  exact absurd (AF q.lt (by rw [z];exact hb)) (Be _)
 ·exact absurd (AF (Ao (I.pin p hp).1) (by rw [z];exact hb)) (Be _)
structure Turn (P:Program) (w:World) (K:PySem.W.Frag) (tg:Expr) (J:It) (fp:List Addr) (it:Addr) (tn:Nat->Heap->Prop):Prop where
 mem:it∈fp
 obj:∀ i h,tn i h->∀ b∈fp,∃ o,h.get? b=some o∧∀ v,o.data≠.cell v
 keep:∀ i h h',tn i h->(∀ b∈fp,∀ o,h.get? b=some o->h'.get? b=some o)->tn i h'
 item:∀ (X:Cx),X.prog=P->X.w=w->X.K=K->X.calm=true->∀ (i:Nat) (pins:List (Addr×Obj)) (s:Shared) (σ:St) (H:Hp) (E:Value->Shared->Prop),Inv X pins σ H s->(∀ b∈fp,Iq X pins H b)->tn i s.heap->J.go i H ->
  wpAny (model P w) X.A (pyNext (.ref it)) (λr s1=>∃ u,r=some u ∧
   wpAny (model P w) X.A (letOwnedTupleGo tg (.ref it) u) (λ_ s2=>∃ x H',Inv X pins σ H' s2∧RelV x u∧J.yld i H x H'∧tn (i+1) s2.heap∧∀ b∈fp,H' b=none) E s1) E s
 done:∀ (X:Cx),X.prog=P->X.w=w->X.K=K->X.calm=true->∀ (i:Nat) (pins:List (Addr×Obj)) (s:Shared) (σ:St) (H:Hp) (E:Value->Shared->Prop),Inv X pins σ H s->(∀ b∈fp,Iq X pins H b)->tn i s.heap->J.stop i H ->
  wpAny (model P w) X.A (pyNext (.ref it)) (λr s1=>r=none∧Inv X pins σ H s1) E s
 self:∀ (A:Around) (i:Nat) (s:Shared) (Q:Value->Shared->Prop) (E:Value->Shared->Prop),tn i s.heap->Q (.ref it) s->wpAny (model P w) A (pyIter (.ref it)) Q E s
noncomputable abbrev TI:=St->Hp->(It->Hp->Prop)->Prop
noncomputable def PIE (X:Cx)(pins:List (Addr×Obj))(σ:St)(tg:Expr)(R:It->Hp->Prop)(itv:Value)(s2:Shared):Prop:=
 ∃ (it:Addr) (fp:List Addr) (tn:Nat->Heap->Prop) (J:It) (H':Hp),itv=.ref it∧Inv X pins σ H' s2∧Turn X.prog X.w X.K tg J fp it tn∧tn 0 s2.heap∧(∀ b∈fp,Iq X pins H' b)∧R J H'
noncomputable def PI (X:Cx)(tg iter:Expr)(wi:TI):Prop:=
 ∀ (pins:List (Addr×Obj)) (s:Shared) (σ:St) (H:Hp) (R:It->Hp->Prop),Inv X pins σ H s->wi σ H R ->
  wpAny (model X.prog X.w) X.A (eval iter X.env) (λv s1=>wpAny (model X.prog X.w) X.A (pyIter v) (PIE X pins σ tg R) X.xe s1) X.xe s
theorem Pd {M:Model}{A:Around}{E:Value->Shared->Prop}{s:Shared}{tg:Expr}{it:Addr}{u:Value}{o:Obj}{n:String}{vs:Array Value}{Q:Unit->Shared->Prop}(ho:s.heap.get? it=some o)(hc:o.cls=.type n)(hd:o.data=.fields vs)
  (hn:["enumerate","zip","dict_itemiterator","dict_reverseitemiterator","odict_iterator","itertools.zip_longest","itertools.pairwise"].contains n=false) (hQ:Q () s):wpAny M A (letOwnedTupleGo tg (.ref it) u) Q E s:=by
 unfold letOwnedTupleGo
 cases tg<;>first
  | exact Ac hQ
  | (cases u<;>first
    | exact Ac hQ
    | (refine Aa (wpAny_load ho ?_);rw [hc,hd];show wpAny M A (if (["enumerate","zip","dict_itemiterator","dict_reverseitemiterator","odict_iterator","itertools.zip_longest","itertools.pairwise"].contains n&&vs[0]?==some (rawInt _))=true then _ else _) Q E s;rw [if_neg (by intro h;rw [hn,Bool.false_and] at h;cases h)];exact Ac hQ))
noncomputable def Itl (K:PySem.W.Frag)(a:Addr):It:=
 ⟨λi H=>∃ xs x,SqL K H a xs∧xs[i]? = some x,λi H x H'=>H'=H∧∀ xs,SqL K H a xs->xs[i]? = some x,λi H=>∃ xs,SqL K H a xs∧xs.length≤i⟩
noncomputable def Itt (K:PySem.W.Frag)(a:Addr):It:=
 ⟨λi H=>∃ xs x,SqT K H a xs∧xs[i]? = some x,λi H x H'=>H'=H∧∀ xs,SqT K H a xs->xs[i]? = some x,λi H=>∃ xs,SqT K H a xs∧xs.length≤i⟩
noncomputable def Itr (lo:Int)(n:Nat):It:=⟨λi _=>i<n,λi H x H'=>H'=H∧x=.int (lo+i),λi _=>n≤i⟩
theorem Qg {P:Program}{w:World}{K:PySem.W.Frag}{tg:Expr}(a it:Addr):Turn P w K tg (Itl K a) [it] it (λi h=>h.IsListIter it a i) where
 mem:=by simp
 obj:=λi h st b hb=>by
  have e:b=it:=by simpa using hb
  subst e
  obtain ⟨o,e,c,d⟩:=st
  exact ⟨o,e,λv z=>by rw [d] at z;cases z⟩
 keep:=λi h h' st k=>st.at λo e=>k it (by simp) o e
 item:=by
  intro X hP hw hK hc i pins s σ H E I hf st hg
  subst hP hw hK
  obtain ⟨xs,x,hq,hx⟩:=hg
  obtain ⟨its,rv,p,hz⟩:=I.list hq
  obtain ⟨u,hu,ru⟩:=rv.get hx
  obtain ⟨f0,f1,f2,f3,f4,f5⟩:=hf it (by simp)
  refine wpAny_pyNext_list_item st p.isList (x:=u) (by simpa using hu) λh' st' sb=>?_
  have I1:Inv X pins σ H { s with heap:=h' }:=I.turned (t':=s.toks) (λb o hb e=>(sb.2 b hb).trans e) f0 f1 f3 f4 f5
  obtain ⟨o,e,c,d⟩:=id st'
  exact ⟨u,rfl,Pd (s:={ s with heap:=h' }) e c d (by decide) ⟨x,H,I1,ru,⟨rfl,λys hy=>by rw [I.list_inj hy hq];exact hx⟩,st',λb hb=>(hf b hb).1⟩⟩
 done:=by
  intro X hP hw hK hc i pins s σ H E I hf st hg
  subst hP hw hK
  obtain ⟨xs,hq,hx⟩:=hg
  obtain ⟨its,rv,p,hz⟩:=I.list hq
  obtain ⟨f0,f1,f2,f3,f4,f5⟩:=hf it (by simp)
  have hl:=rv.length
  exact wpAny_pyNext_list_end (I.ok.hd hc) st p.isList (by simp;omega) λh' eb=>⟨rfl,I.turned (t':=s.toks) (λb o hb e=>eb b o hb e) f0 f1 f3 f4 f5⟩
 self:=λ_ _ _ _ _ st h=>wpAny_pyIter_listiter st h
theorem N1 {P:Program}{w:World}{K:PySem.W.Frag}{tg:Expr}(a it:Addr):Turn P w K tg (Itt K a) [it] it (λi h=>h.IsTupleIter it a i) where
 mem:=by simp
 obj:=λi h st b hb=>by
  have e:b=it:=by simpa using hb
  subst e
  obtain ⟨o,e,c,d⟩:=st
  exact ⟨o,e,λv z=>by rw [d] at z;cases z⟩
 keep:=λi h h' st k=>st.at λo e=>k it (by simp) o e
 item:=by
  intro X hP hw hK hc i pins s σ H E I hf st hg
  subst hP hw hK
  obtain ⟨xs,x,hq,hx⟩:=hg
  obtain ⟨its,rv,p,hz⟩:=I.tuple hq
  obtain ⟨u,hu,ru⟩:=rv.get hx
  obtain ⟨f0,f1,f2,f3,f4,f5⟩:=hf it (by simp)
  refine wpAny_pyNext_tuple_item st (show s.heap.IsTuple a its.toArray from p) (x:=u) (by simpa using hu) λh' st' sb=>?_
  have I1:Inv X pins σ H { s with heap:=h' }:=I.turned (t':=s.toks) (λb o hb e=>(sb.2 b hb).trans e) f0 f1 f3 f4 f5
  obtain ⟨o,e,c,d⟩:=id st'
  exact ⟨u,rfl,Pd (s:={ s with heap:=h' }) e c d (by decide) ⟨x,H,I1,ru,⟨rfl,λys hy=>by rw [I.tuple_inj hy hq];exact hx⟩,st',λb hb=>(hf b hb).1⟩⟩
 done:=by
  intro X hP hw hK hc i pins s σ H E I hf st hg
  subst hP hw hK
  obtain ⟨xs,hq,hx⟩:=hg
  obtain ⟨its,rv,p,hz⟩:=I.tuple hq
  obtain ⟨f0,f1,f2,f3,f4,f5⟩:=hf it (by simp)
  have hl:=rv.length
  exact wpAny_pyNext_tuple_end (I.ok.hd hc) st (show s.heap.IsTuple a its.toArray from p) (by simp;omega) λh' eb=>⟨rfl,I.turned (t':=s.toks) (λb o hb e=>eb b o hb e) f0 f1 f3 f4 f5⟩
 self:=λ_ _ _ _ _ st h=>wpAny_pyIter_tupleiter st h
theorem Oo {P:Program}{w:World}{K:PySem.W.Frag}{tg:Expr}(it:Addr)(lo:Int)(n:Nat):Turn P w K tg (Itr lo n) [it] it (λi h=>IsRangeIter h it (lo+(i:Nat)*1) ((n:Int)-(i:Nat)) 1) where
 mem:=by simp
 obj:=λi h st b hb=>by
  have e:b=it:=by simpa using hb
  subst e
  exact ⟨_,st,λv z=>by
   have z':Data.fields _=Data.cell v:=z
   cases z'⟩
 keep:=λi h h' st k=>k it (by simp) _ st
 item:=by
  intro X hP hw hK hc i pins s σ H E I hf st hg
  subst hP hw hK
  obtain ⟨f0,f1,f2,f3,f4,f5⟩:=hf it (by simp)
  have W:=Walks.range (prog:=X.prog) (w:=X.w) (I.ok.hd hc) it lo 1 n
  refine W.item i s _ _ hg st λv h' tk hv st' kk=>?_
  obtain ⟨t,rfl⟩:=hv
  have I1:Inv X pins σ H { s with heap:=h',toks:=tk }:=I.turned (λb o hb e=>kk b o (by simpa using hb) e) f0 f1 f3 f4 f5
  refine ⟨_,rfl,Pd (s:={ s with heap:=h',toks:=tk }) (n:="range_iterator") st' rfl rfl (by decide) ⟨.int (lo+i),H,I1,⟨t,?_⟩,⟨rfl,rfl⟩,st',λb hb=>(hf b hb).1⟩⟩
  rw [Int.mul_one]
 done:=by
  intro X hP hw hK hc i pins s σ H E I hf st hg
  subst hP hw hK
  obtain ⟨f0,f1,f2,f3,f4,f5⟩:=hf it (by simp)
  exact wpAny_pyNext_range_end (I.ok.hd hc) st (by have:n≤i:=hg;omega) λh' eb=>⟨rfl,I.turned (t':=s.toks) (λb o hb e=>eb b o hb e) f0 f1 f3 f4 f5⟩
 self:=λ_ _ _ _ _ st h=>wpAny_pyIter_rangeiter st h
section
variable {X:Cx} {tg:Expr}
noncomputable def Zo (K:PySem.W.Frag)(tl:TE):TI:=fun σ H R=>tl σ H λx H1=>∃ a,x=.ref a∧(∃ xs,SqL K H1 a xs)∧R (Itl K a) H1
noncomputable def AaQ (K:PySem.W.Frag)(tl:TE):TI:=fun σ H R=>tl σ H λx H1=>∃ a,x=.ref a∧(∃ xs,SqT K H1 a xs)∧R (Itt K a) H1
theorem OW {l:Expr}{tl:TE}(hl:PE X l tl):PI X tg l (Zo X.K tl):=by
 intro pins s σ H R I h
 refine thn (hl pins s σ H _ I h) λv s1 ⟨x,H1,I1,r1,q1⟩=>?_
 obtain ⟨a,e,⟨xs,hq⟩,q⟩:=q1
 subst e
 cases r1
 obtain ⟨its,rv,p,hz⟩:=I1.list hq
 refine wpAny_pyIter_list p.isList ?_
 refine ⟨s1.heap.objs.size,[s1.heap.objs.size],_,_,H1,rfl,I1.kept (t':=s1.toks) λb o e=>Ad _ e,Qg a _,⟨_,Aj _ rfl,rfl,rfl⟩,λb hb=>?_,q⟩
 have e:b=s1.heap.objs.size:=by simpa using hb
 subst e
 exact I1.fpOk (Ai _) (I1.hok.fresh (Ai _))
theorem X1 {l:Expr}{tl:TE}(hl:PE X l tl):PI X tg l (AaQ X.K tl):=by
 intro pins s σ H R I h
 refine thn (hl pins s σ H _ I h) λv s1 ⟨x,H1,I1,r1,q1⟩=>?_
 obtain ⟨a,e,⟨xs,hq⟩,q⟩:=q1
 subst e
 cases r1
 obtain ⟨its,rv,p,hz⟩:=I1.tuple hq
 refine wpAny_pyIter_tuple (show s1.heap.IsTuple a its.toArray from p) ?_
 refine ⟨s1.heap.objs.size,[s1.heap.objs.size],_,_,H1,rfl,I1.kept (t':=s1.toks) λb o e=>Ad _ e,N1 a _,⟨_,Aj _ rfl,rfl,rfl⟩,λb hb=>?_,q⟩
 have e:b=s1.heap.objs.size:=by simpa using hb
 subst e
 exact I1.fpOk (Ai _) (I1.hok.fresh (Ai _))
theorem TR {pins:List (Addr×Obj)}{σ:St}{H:Hp}{s:Shared}{R:It->Hp->Prop}{E:Value->Shared->Prop}{lo hi:Int}{t u v:Tok}{tk:Nat}(I:Inv X pins σ H s)(h1:-(2 ^ 62)≤lo)(h2:lo<2 ^ 62)(h3:-(2 ^ 62)≤hi)(h4:hi<2 ^ 62)
  (q:R (Itr lo (hi-lo).toNat) H):wpAny (model X.prog X.w) X.A (pyIter (.ref s.heap.objs.size)) (PIE X pins σ tg R) E { s with heap:=s.heap.push { cls:=.type "range",data:=.fields #[.int lo t,.int hi u,.int 1 v] },toks:=tk }:=by
 refine wpAny_pyIter_range (IsRange.new ..) (small_one h1 h2 h3 h4) ?_
 have I1:Inv X pins σ H { s with heap:=s.heap.push { cls:=.type "range",data:=.fields #[.int lo t,.int hi u,.int 1 v] },toks:=tk }:=I.kept λb o e=>Ad _ e
 refine ⟨(s.heap.push { cls:=.type "range",data:=.fields #[.int lo t,.int hi u,.int 1 v] }).objs.size,[(s.heap.push { cls:=.type "range",data:=.fields #[.int lo t,.int hi u,.int 1 v] }).objs.size],_,_,H,rfl,
  I1.kept (t':=tk) λb o e=>Ad _ e,Oo _ lo (hi-lo).toNat,?_,λb hb=>?_,q⟩
 ·have e1:lo+((0:Nat):Int)*1=lo:=by simp
  have e2:(((hi-lo).toNat:Nat):Int)-((0:Nat):Int)=Builtin.Range.rangeSize lo hi 1:=by rw [rangeSize_one];split<;>omega
  show IsRangeIter _ _ (lo+((0:Nat):Int)*1) ((((hi-lo).toNat:Nat):Int)-((0:Nat):Int)) 1
  rw [e1,e2]
  exact Aj _ rfl
 ·have e:b=(s.heap.push { cls:=.type "range",data:=.fields #[.int lo t,.int hi u,.int 1 v] }).objs.size:=by simpa using hb
  subst e
  exact I1.fpOk (Ai _) (I1.hok.fresh (Ai _))
noncomputable def YV (ta:TA):TI:=fun σ H R=>ta σ H λvs H1=>∃ j:Int,vs=[.int j]∧-(2 ^ 62)≤j∧j<2 ^ 62∧R (Itr 0 j.toNat) H1
theorem Qk {a:Expr}{ta:TA}{p pos:Pos}(hg:Gl X "range")(hm:X.mg "range"=none)(ha:PA X [a] ta)(hs:starEach [a] X.env=[(false,eval a X.env)]:=by rfl):PI X tg (.Call (.Name "range" p) [a] [] pos) (YV ta):=by
 intro pins s σ H R I h
 refine Call_ (IG I hg hm boot_range (Cg (thn (ha pos pins s σ H _ I h) λus s1 ⟨vs,H1,I1,r1,q1⟩=>?_) hs rfl))
 obtain ⟨j,e,q1,q2,q⟩:=q1
 subst e
 cases r1 with
 | cons r rr =>
  cases rr
  obtain ⟨t,rfl⟩:=r
  exact call_range_1 (TR I1 (by omega) (by omega) q1 q2 (by simpa using q))
noncomputable def Z4 (wi:TI)(g:TG)(tb:TS):TS:=λD σ H=>wi σ H λJ H1=>∃ W:Nat->Nat->St->Hp->Prop,(∃ m,W 0 m σ H1)∧∀ i m σ H,W i m σ H ->
 (J.stop i H∧D.nx σ H)∨(J.go i H∧∃ N:St->Hp->Prop,(∀ σ' H',N σ' H'->∃ m',m'<m∧W (i+1) m' σ' H')∧∀ x H',J.yld i H x H'->g x σ H' fun σ2 H2=>tb { D with nx:=N,ct:=N,bk:=D.nx } σ2 H2)
noncomputable def IW (fp:List Addr)(h:Heap):List (Addr×Obj):=fp.filterMap λb=>(h.get? b).map λo=>(b,o)
theorem Fh {fp:List Addr}{h:Heap}{b:Addr}{o:Obj}(hb:b∈fp)(e:h.get? b=some o):(b,o)∈IW fp h:=List.mem_filterMap.mpr ⟨b,hb,by rw [e];rfl⟩
theorem P7 {fp:List Addr}{h:Heap}{p:Addr×Obj}(hp:p∈IW fp h):p.1∈fp∧h.get? p.1=some p.2:=by
 obtain ⟨b,hb,e⟩:=List.mem_filterMap.mp hp
 cases q:h.get? b with
 | none=>rw [q] at e;cases e
 | some o =>
  rw [q] at e
  have e':(b,o)=p:=AB e
  subst e'
  exact ⟨hb,q⟩
theorem Inv.pinned {pins:List (Addr×Obj)}{σ:St}{H:Hp}{s:Shared}{fp:List Addr}(I:Inv X pins σ H s)(hf:∀ b∈fp,Iq X pins H b)(ho:∀ b∈fp,∃ o,s.heap.get? b=some o∧∀ v,o.data≠.cell v):Inv X (pins++IW fp s.heap) σ H s:=
 I.pins_of λp hp=>(AL.mp hp).elim (λz=>I.pin p (AD _ z)) λz=>by
  obtain ⟨hb,e⟩:=P7 z
  obtain ⟨f0,f1,f2,_⟩:=hf p.1 hb
  obtain ⟨o,e',d⟩:=ho p.1 hb
  rw [e] at e';cases e'
  exact ⟨e,f0,f1,f2,d⟩
theorem Inv.unpinned {pins pl:List (Addr×Obj)}{σ:St}{H:Hp}{s:Shared}(I:Inv X (pins++pl) σ H s):Inv X pins σ H s:=I.pins_of λp hp=>I.pin p (AD _ (Bh _ hp))
theorem Xm {iter:Expr}{body:List Stmt}{wi:TI}{g:TG}{tb:TS}{pos:Pos}(hp:PassesOwn (model X.prog X.w) X.A X.env X.xe)(hc:X.calm=true)(hi:PI X tg iter wi)(hg:PG X tg g)(hb:PSs X body tb)
  (hs:∀ x,foldedSetIterable iter X.env x=pure x:=by intro _;rfl):PS X (.For tg iter body [] pos) (Z4 wi g tb):=by
 intro pins s σ H D I h
 refine wpAny_For (thn (hi pins s σ H _ I h) λv s1 h1=>thn h1 λitv s2 h2=>?_) hs
 obtain ⟨it,fp,tn,J,H2,e,I2,T,st2,f2,W,⟨m0,w0⟩,turn⟩:=h2
 subst e
 have stat:∀ {H':Hp},(∀ b∈fp,H' b=none)->∀ b∈fp,Iq X pins H' b:=λhn b hb=>⟨hn b hb,(f2 b hb).2⟩
 refine codeAny_forLoop_any (λn s'=>∃ i σ' H',Inv X pins σ' H' s'∧tn i s'.heap∧(∀ b∈fp,H' b=none)∧W i n σ' H') ?_ m0 ⟨0,σ,H2,I2,st2,λb hb=>(f2 b hb).1,w0⟩
 rintro n s3 ⟨i,σ3,H3,I3,st3,fr3,w3⟩
 rcases turn i n σ3 H3 w3 with ⟨stop,qn⟩|⟨go,N,hN,step⟩
 ·refine wpAny_passesOwn hp (thn (T.done X rfl rfl rfl hc i pins s3 σ3 H3 X.xe I3 (stat fr3) st3 stop) λr s4 ⟨hr,I4⟩=>?_)
  subst hr
  exact wpAny_execs_nil ⟨σ3,H3,I4,qn⟩
 ·refine wpAny_passesOwn hp (thn (T.item X rfl rfl rfl hc i pins s3 σ3 H3 X.xe I3 (stat fr3) st3 go) λr s4 ⟨u,hr,h4⟩=>?_)
  subst hr
  refine wpAny_passesOwn hp (thn h4 λ_ s5 ⟨x,H5,I5,r5,y5,st5,fr5⟩=>?_)
  have I5':=I5.pinned (stat fr5) (T.obj _ _ st5)
  refine wpAny_passesOwn hp (thn (hg _ s5 σ3 H5 x u _ I5' r5 (step x H5 y5)) λ_ s6 ⟨σ6,H6,I6,q6⟩=>?_)
  refine wpAny_passesOwn hp (thn (hb _ s6 σ6 H6 _ I6 q6) λf s7 q7=>?_)
  have again:∀ {σ7:St} {H7:Hp},Inv X (pins++IW fp s5.heap) σ7 H7 s7->N σ7 H7->∃ m,m<n∧∃ i σ' H',Inv X pins σ' H' s7∧tn i s7.heap∧(∀ b∈fp,H' b=none)∧W i m σ' H':=λ{σ7 H7} I7 n7=>by
   obtain ⟨m',hm,w7⟩:=hN σ7 H7 n7
   refine ⟨m',hm,i+1,σ7,H7,I7.unpinned,T.keep _ _ _ st5 λb hb o e=>(I7.pin (b,o) (AD _ (AD _ (Fh hb e)))).1,λb hb=>?_,w7⟩
   obtain ⟨o,e,d⟩:=T.obj _ _ st5 b hb
   exact (I7.pin (b,o) (AD _ (AD _ (Fh hb e)))).2.1
  cases f with
  | next=>obtain ⟨σ7,H7,I7,n7⟩:=q7;exact again I7 n7
  | cont=>obtain ⟨σ7,H7,I7,n7⟩:=q7;exact again I7 n7
  | brk=>obtain ⟨σ7,H7,I7,q7⟩:=q7;exact ⟨σ7,H7,I7.unpinned,q7⟩
  | ret v=>obtain ⟨x7,σ7,H7,I7,r7,q7⟩:=q7;exact ⟨x7,σ7,H7,I7.unpinned,r7,q7⟩
end
noncomputable abbrev R2:=V->V->Hp->VK->Prop
noncomputable def OpR (X:Cx)(f:Value->Value->Sem Value)(r:R2):Prop:=
 ∀ (pins:List (Addr×Obj)) (s:Shared) (σ:St) (H:Hp) (x y:V) (v u:Value) (Q:VK),Inv X pins σ H s->RelV x v->RelV y u->r x y H Q ->
  wpAny (model X.prog X.w) X.A (f v u) (EP X pins σ Q) X.xe s
noncomputable def UnR (X:Cx)(f:Value->Sem Value)(r:V->Hp->VK->Prop):Prop:=
 ∀ (pins:List (Addr×Obj)) (s:Shared) (σ:St) (H:Hp) (x:V) (v:Value) (Q:VK),Inv X pins σ H s->RelV x v->r x H Q ->
  wpAny (model X.prog X.w) X.A (f v) (EP X pins σ Q) X.xe s
noncomputable def F9 (X:Cx)(f:Value)(r:List V->Hp->VK->Prop):Prop:=
 ∀ (pins:List (Addr×Obj)) (s:Shared) (σ:St) (H:Hp) (xs:List V) (us:List Value) (Q:VK),Inv X pins σ H s->Vals xs us->r xs H Q ->
  wpAny (model X.prog X.w) X.A (call f us) (EP X pins σ Q) X.xe s
noncomputable def tOp (r:R2)(ta tb:TE):TE:=fun σ H Q=>ta σ H λx H1=>tb σ H1 λy H2=>r x y H2 Q
noncomputable def tUn (r:V->Hp->VK->Prop)(ta:TE):TE:=fun σ H Q=>ta σ H λx H1=>r x H1 Q
noncomputable def rI (C:Int->Int->Prop)(g:Int->Int->V):R2:=λx y H Q=>∃ i j,x=.int i∧y=.int j∧C i j∧Q (g i j) H
noncomputable def rI0 (g:Int->Int->V):R2:=λx y H Q=>∃ i j,x=.int i∧y=.int j∧Q (g i j) H
noncomputable def rU (g:Int->V):V->Hp->VK->Prop:=λx H Q=>∃ i,x=.int i∧Q (g i) H
section
variable {X:Cx} {a b c:Expr} {ta tb tc:TE} {pos:Pos}
theorem WY (ha:PE X a ta)(hb:PE X b tb){pins:List (Addr×Obj)}{s:Shared}{σ:St}{H:Hp}{R:V->V->Hp->Prop}(I:Inv X pins σ H s)
  (h:ta σ H λx H1=>tb σ H1 λy H2=>R x y H2) {Q:Value->Shared->Prop} {f:Value->Value->Sem Value}
  (hf:∀ v u s2 x y H2,Inv X pins σ H2 s2->RelV x v->RelV y u->R x y H2->wpAny (model X.prog X.w) X.A (f v u) Q X.xe s2) :
  wpAny (model X.prog X.w) X.A (eval a X.env) (λv s₁=>wpAny (model X.prog X.w) X.A (eval b X.env) (λu s₂=>wpAny (model X.prog X.w) X.A (f v u) Q X.xe s₂) X.xe s₁) X.xe s:=by
 refine thn (ha pins s σ H _ I h) λv s1 ⟨x,H1,I1,r1,q1⟩=>?_
 refine thn (hb pins s1 σ H1 _ I1 q1) λu s2 ⟨y,H2,I2,r2,q2⟩=>?_
 exact hf v u s2 x y H2 I2 r1 r2 q2
theorem YI {op:Operator}{r:R2}(ho:OpR X (binaryOp op) r)(ha:PE X a ta)(hb:PE X b tb):PE X (.BinOp a op b pos) (tOp r ta tb):=by
 intro pins s σ H Q I h
 exact wpAny_BinOp (WY ha hb I h λv u s2 x y H2 I2 rx ry q=>ho pins s2 σ H2 x y v u Q I2 rx ry q)
theorem VV {op:UnaryOp}{r:V->Hp->VK->Prop}(ho:UnR X (unaryOp op) r)(ha:PE X a ta):PE X (.UnaryOp op a pos) (tUn r ta):=by
 intro pins s σ H Q I h
 exact UnaryOp_ (thn (ha pins s σ H _ I h) λv s1 ⟨x,H1,I1,r1,q1⟩=>ho pins s1 σ H1 x v Q I1 r1 q1)
theorem opI {f:Value->Value->Sem Value}{C:Int->Int->Prop}{g:Int->Int->Int}
  (rule:∀ (i j:Int) (t u:Tok) (s:Shared) (Q:Value->Shared->Prop) (E:Value->Shared->Prop),C i j->Q (.int (g i j) s.toks) { s with toks:=s.toks+1 }->wpAny (model X.prog X.w) X.A (f (.int i t) (.int j u)) Q E s) :
  OpR X f (rI C λi j=>.int (g i j)):=by
 intro pins s σ H x y v u Q I rx ry h
 obtain ⟨i,j,rfl,rfl,hc,q⟩:=h
 obtain ⟨t,rfl⟩:=rx
 obtain ⟨t',rfl⟩:=ry
 exact rule i j t t' s _ _ hc ⟨.int (g i j),H,I.tok _,⟨_,rfl⟩,q⟩
theorem Zm {f:Value->Value->Sem Value}{g:Int->Int->Int}
  (rule:∀ (i j:Int) (t u:Tok) (s:Shared) (Q:Value->Shared->Prop) (E:Value->Shared->Prop),Q (.int (g i j) s.toks) { s with toks:=s.toks+1 }->wpAny (model X.prog X.w) X.A (f (.int i t) (.int j u)) Q E s) :
  OpR X f (rI0 λi j=>.int (g i j)):=by
 intro pins s σ H x y v u Q I rx ry h
 obtain ⟨i,j,rfl,rfl,q⟩:=h
 obtain ⟨t,rfl⟩:=rx
 obtain ⟨t',rfl⟩:=ry
 exact rule i j t t' s _ _ ⟨.int (g i j),H,I.tok _,⟨_,rfl⟩,q⟩
theorem XD {f:Value->Value->Sem Value}{g:Int->Int->Bool}
  (rule:∀ (i j:Int) (t u:Tok) (s:Shared) (Q:Value->Shared->Prop) (E:Value->Shared->Prop),Q (.bool (g i j)) s->wpAny (model X.prog X.w) X.A (f (.int i t) (.int j u)) Q E s) :
  OpR X f (rI0 λi j=>.bl (g i j)):=by
 intro pins s σ H x y v u Q I rx ry h
 obtain ⟨i,j,rfl,rfl,q⟩:=h
 obtain ⟨t,rfl⟩:=rx
 obtain ⟨t',rfl⟩:=ry
 exact rule i j t t' s _ _ ⟨.bl (g i j),H,I,rfl,q⟩
noncomputable def Ma (i j:Int):Prop:=0<j∧j<1073741824
noncomputable def P4 (i j:Int):Prop:=0≤j∧j≤1000000∧i.natAbs<2 ^ 64
noncomputable def CMul (i j:Int):Prop:=(-(2 ^ 64)<i∧i<2 ^ 64)∨(-(2 ^ 64)<j∧j<2 ^ 64)
theorem CMul.ok {i j:Int}(h:CMul i j):IntMulOk i j:=by
 rcases h with ⟨h1,h2⟩|⟨h1,h2⟩
 ·exact .of_left (intBits_le_64 h1 h2)
 ·exact .of_right (intBits_le_64 h1 h2)
theorem X4:OpR X (binaryOp .Add) (rI0 λi j=>.int (i+j)):=Zm λ_ _ _ _ _ _ _ q=>add_int q
theorem Xb:OpR X (binaryOp .Sub) (rI0 λi j=>.int (i-j)):=Zm λ_ _ _ _ _ _ _ q=>sub_int q
theorem WL:OpR X (binaryOp .Mult) (rI CMul λi j=>.int (i*j)):=opI λ_ _ _ _ _ _ _ hc q=>mul_int q hc.ok
theorem TX:OpR X (binaryOp .FloorDiv) (rI Ma λi j=>.int (i / j)):=opI λi j _ _ _ _ _ hc q=>by
 have h1:(0:Int)<j:=hc.1
 have h2:j<1073741824:=hc.2
 exact floordiv_int (by omega) (by rw [Int.fdiv_eq_ediv_of_nonneg i (by omega)];exact q) (.inl (PyProof.noPylong_small (by omega)))
theorem WO:OpR X (binaryOp .Mod) (rI (λ_ j=>0<j) λi j=>.int (i % j)):=opI λi j _ _ _ _ _ hc q=>by
 have h1:(0:Int)<j:=hc
 exact mod_int' (by omega) (by rw [Int.fmod_eq_emod_of_nonneg i (by omega)];exact q)
theorem XW:OpR X (binaryOp .Pow) (rI P4 λi j=>.int (i ^ j.toNat)):=opI λ_ _ _ _ _ _ _ hc q=>pow_int_small hc.1 hc.2.1 hc.2.2 q
theorem unI {f:Value->Sem Value}{g:Int->Int}
  (rule:∀ (i:Int) (t:Tok) (s:Shared) (Q:Value->Shared->Prop) (E:Value->Shared->Prop),Q (.int (g i) s.toks) { s with toks:=s.toks+1 }->wpAny (model X.prog X.w) X.A (f (.int i t)) Q E s) :
  UnR X f (rU λi=>.int (g i)):=by
 intro pins s σ H x v Q I rx h
 obtain ⟨i,rfl,q⟩:=h
 obtain ⟨t,rfl⟩:=rx
 exact rule i t s _ _ ⟨.int (g i),H,I.tok _,⟨_,rfl⟩,q⟩
theorem Ts:UnR X (unaryOp .USub) (rU λi=>.int (-i)):=unI λ_ _ _ _ _ q=>neg_int q
theorem Jg {pins:List (Addr×Obj)}{σ:St}{H:Hp}{s:Shared}{Q:VK}{k k':Bool}(I:Inv X pins σ H s)(q:Q (.bl k) H)(e:k=k'):EP X pins σ Q (.bool k') s:=by
 subst e
 exact ⟨.bl k,H,I,rfl,q⟩
theorem YY:OpR X (compareOp .LtE) (rI0 λi j=>.bl (decide (i≤j))):=XD λ_ _ _ _ _ _ _ q=>le_int q
theorem Zw:OpR X (compareOp .Gt) (rI0 λi j=>.bl (decide (j<i))):=XD λ_ _ _ _ _ _ _ q=>gt_int q
theorem YD:OpR X (compareOp .GtE) (rI0 λi j=>.bl (decide (j≤i))):=XD λ_ _ _ _ _ _ _ q=>ge_int q
theorem P6:OpR X (compareOp .In) (λx y H Q=>∃ i j,x=.str i∧y=.str j∧Q (.bl (!(Builtin.Str.occurrences j i 0 j.length 1).isEmpty)) H):=by
 intro pins s σ H x y v u Q I rx ry h
 obtain ⟨i,j,rfl,rfl,q⟩:=h
 obtain ⟨t,rfl⟩:=rx
 obtain ⟨t',rfl⟩:=ry
 exact in_str (Jg I q rfl)
theorem V3:OpR X (compareOp .Is) (λx y H Q=>y=.non∧Q (.bl (decide (x=.non))) H):=by
 intro pins s σ H x y v u Q I rx ry h
 obtain ⟨rfl,q⟩:=h
 cases ry
 refine is_none_gen (Jg I q ?_)
 cases x<;>first
  | (cases rx;rfl)
  | (obtain ⟨t,rfl⟩:=rx;rfl)
theorem UP:OpR X (compareOp .IsNot) (λx y H Q=>y=.non∧Q (.bl (!decide (x=.non))) H):=by
 intro pins s σ H x y v u Q I rx ry h
 obtain ⟨rfl,q⟩:=h
 cases ry
 refine isnot_none_gen (Jg I q ?_)
 cases x<;>first
  | (cases rx;rfl)
  | (obtain ⟨t,rfl⟩:=rx;rfl)
theorem Ms:OpR X (compareOp .NotIn) (λx y H Q=>∃ i j,x=.str i∧y=.str j∧Q (.bl (!(!(Builtin.Str.occurrences j i 0 j.length 1).isEmpty))) H):=by
 intro pins s σ H x y v u Q I rx ry h
 obtain ⟨i,j,rfl,rfl,q⟩:=h
 obtain ⟨t,rfl⟩:=rx
 obtain ⟨t',rfl⟩:=ry
 exact notIn_str (Jg I q rfl)
theorem SK (b:Expr){op:CmpOp}(h:op≠.In:=by decide)(h2:op≠.NotIn:=by decide):behindInMarks op b=false:=by
 have e1:(op==CmpOp.In)=false:=by cases op<;>first|rfl|exact absurd rfl h
 have e2:(op==CmpOp.NotIn)=false:=by cases op<;>first|rfl|exact absurd rfl h2
 cases b<;>simp [behindInMarks,e1,e2]
theorem U4 {op:CmpOp}{r:R2}(ho:OpR X (compareOp op) r)(ha:PE X a ta)(hb:PE X b tb)(hm:behindInMarks op b=false):PE X (.Compare a [op] [b] pos) (tOp r ta tb):=by
 intro pins s σ H Q I h
 exact wpAny_Compare1 (WY ha hb I h λv u s2 x y H2 I2 rx ry q=>ho pins s2 σ H2 x y v u Q I2 rx ry q) hm
noncomputable def Tf (t:TE):TT:=fun σ H Q=>t σ H λx H'=>∃ k,x=.bl k∧Q k H'
theorem Vc {op:CmpOp}{r:R2}(ho:OpR X (compareOp op) r)(ha:PE X a ta)(hb:PE X b tb)(hm:behindInMarks op b=false):PT X (.Compare a [op] [b] pos) (Tf (tOp r ta tb)):=by
 intro pins s σ H Q I h
 refine wpAny_isTrue_Compare1 (thn (ha pins s σ H _ I h) λv s1 ⟨x,H1,I1,r1,q1⟩=>thn (hb pins s1 σ H1 _ I1 q1) λu s2 ⟨y,H2,I2,r2,q2⟩ =>
  thn (ho pins s2 σ H2 x y v u _ I2 r1 r2 q2) λc s3 ⟨z,H3,I3,r3,k,e,q3⟩=>?_) hm
 subst e
 cases r3
 exact Bi ⟨H3,I3,q3⟩
noncomputable def Ov (r r':R2)(ta tb tc:TE):TE:=fun σ H Q=>ta σ H λx H1=>tb σ H1 λy H2=>r x y H2 λz H3=>∃ k,z=.bl k ∧
 (if k=true then tc σ H3 λw' H4=>r' y w' H4 Q else Q (.bl false) H3)
theorem SU {op op':CmpOp}{r r':R2}(ho:OpR X (compareOp op) r)(ho':OpR X (compareOp op') r')(ha:PE X a ta)(hb:PE X b tb)(hc:PE X c tc)
  (hm:lastMarks [op,op'] [b,c]=false:=by with_unfolding_all rfl):PE X (.Compare a [op,op'] [b,c] pos) (Ov r r' ta tb tc):=by
 intro pins s σ H Q I h
 refine Compare_chain (thn (ha pins s σ H _ I h) λv s1 ⟨x,H1,I1,r1,q1⟩=>chain_link (thn (hb pins s1 σ H1 _ I1 q1) λu s2 ⟨y,H2,I2,r2,q2⟩ =>
  thn (ho pins s2 σ H2 x y v u _ I2 r1 r2 q2) λd s3 ⟨z,H3,I3,r3,k,e,q3⟩=>?_)) hm
 subst e
 cases r3
 refine Bi ?_
 cases k with
 | false=>exact ite_ff ⟨.bl false,H3,I3,rfl,q3⟩
 | true=>exact ite_tt (chain_last (thn (hc pins s3 σ H3 _ I3 q3) λw' s4 ⟨z',H4,I4,r4,q4⟩=>ho' pins s4 σ H4 y z' u w' Q I4 r2 r4 q4))
theorem RL {op op':CmpOp}{r r':R2}(ho:OpR X (compareOp op) r)(ho':OpR X (compareOp op') r')(ha:PE X a ta)(hb:PE X b tb)(hc:PE X c tc)
  (hm:lastMarks [op,op'] [b,c]=false:=by with_unfolding_all rfl):PT X (.Compare a [op,op'] [b,c] pos) (Tf (Ov r r' ta tb tc)):=by
 intro pins s σ H Q I h
 refine isTrue_chain (thn (ha pins s σ H _ I h) λv s1 ⟨x,H1,I1,r1,q1⟩=>test_link (thn (hb pins s1 σ H1 _ I1 q1) λu s2 ⟨y,H2,I2,r2,q2⟩ =>
  thn (ho pins s2 σ H2 x y v u _ I2 r1 r2 q2) λd s3 ⟨z,H3,I3,r3,k,e,q3⟩=>?_)) hm
 subst e
 cases r3
 refine Bi ?_
 cases k with
 | false =>
  obtain ⟨k',e',q'⟩:=q3
  cases e'
  exact ite_ff ⟨H3,I3,q'⟩
 | true =>
  refine ite_tt (test_last (thn (hc pins s3 σ H3 _ I3 q3) λw' s4 ⟨z',H4,I4,r4,q4⟩=>thn (ho' pins s4 σ H4 y z' u w' _ I4 r2 r4 q4) λd' s5 ⟨z2,H5,I5,r5,k2,e2,q5⟩=>?_))
  subst e2
  cases r5
  exact Bi ⟨H5,I5,q5⟩
theorem IV:(sizeLine:Nat)<2 ^ 63:=by rw [AH];decide
theorem Oz:OpR X (binaryOp .Add) (λx y H Q=>∃ i j,x=.str i∧y=.str j∧i.length+j.length≤sizeLine∧Q (.str (i++j)) H):=by
 intro pins s σ H x y v u Q I rx ry h
 obtain ⟨i,j,rfl,rfl,hz,q⟩:=h
 obtain ⟨t,rfl⟩:=rx
 obtain ⟨t',rfl⟩:=ry
 exact add_str (λt' tk=>⟨.str (i++j),H,I.tok _,⟨_,rfl⟩,q⟩) hz
theorem vals1 {x:V}{us:List Value}(r:Vals [x] us):∃ u,us=[u]∧RelV x u:=by
 cases r with
 | cons r1 r2=>cases r2;exact ⟨_,rfl,r1⟩
theorem vals2 {x y:V}{us:List Value}(r:Vals [x,y] us):∃ u w',us=[u,w']∧RelV x u∧RelV y w':=by
 cases r with
 | cons r1 r2 =>
  cases r2 with
  | cons r3 r4=>cases r4;exact ⟨_,_,rfl,r1,r3⟩
theorem Qr (hc:X.calm=true):F9 X (.builtin "max") (λxs H Q=>∃ i j,xs=[.int i,.int j]∧Q (.int (if j > i then j else i)) H):=by
 intro pins s σ H xs us Q I r h
 obtain ⟨i,j,rfl,q⟩:=h
 obtain ⟨u,w',rfl,⟨t,rfl⟩,⟨t',rfl⟩⟩:=vals2 r
 refine max_two_ints (I.ok.hd hc) λh' tk k=>⟨_,H,I.kept k,?_,q⟩
 by_cases hj:j > i
 ·rw [if_pos hj,if_pos hj];exact ⟨_,rfl⟩
 ·rw [if_neg hj,if_neg hj];exact ⟨_,rfl⟩
theorem PY (hc:X.calm=true):F9 X (.builtin "min") (λxs H Q=>∃ i j,xs=[.int i,.int j]∧Q (.int (if j<i then j else i)) H):=by
 intro pins s σ H xs us Q I r h
 obtain ⟨i,j,rfl,q⟩:=h
 obtain ⟨u,w',rfl,⟨t,rfl⟩,⟨t',rfl⟩⟩:=vals2 r
 refine min_two_ints (I.ok.hd hc) λh' tk k=>⟨_,H,I.kept k,?_,q⟩
 by_cases hj:j<i
 ·rw [if_pos hj,if_pos hj];exact ⟨_,rfl⟩
 ·rw [if_neg hj,if_neg hj];exact ⟨_,rfl⟩
theorem Lk:F9 X (.type "int") (λxs H Q=>(∃ i,xs=[.int i]∧Q (.int i) H)∨∃ k,xs=[.bl k]∧Q (.int (if k then 1 else 0)) H):=by
 intro pins s σ H xs us Q I r h
 rcases h with ⟨i,rfl,q⟩|⟨k,rfl,q⟩
 ·obtain ⟨u,rfl,t,rfl⟩:=vals1 r
  exact call_int_int ⟨.int i,H,I,⟨_,rfl⟩,q⟩
 ·obtain ⟨u,rfl,r1⟩:=vals1 r
  cases r1
  exact call_int_bool ⟨.int (if k then 1 else 0),H,I.tok _,⟨_,rfl⟩,q⟩
end
structure ObjM (h:Heap) (x dx C:Addr) (mA:Str->Option Value):Prop where
 obj:h.get? x=some (PySem.W.instObj C dx)
 ns:h.Ns1 dx mA
 ne:dx≠x
theorem P8 {h:Heap}{dx:Addr}{mA:Str->Option Value}(n:h.Ns1 dx mA):∃ od,h.get? dx=some od∧∀ name,PySem.W.lookIn name od=some (mA name):=by
 obtain ⟨o,es,ep,ho,hd,hk,_,hm⟩:=n
 refine ⟨o,ho,λname=>?_⟩
 have e:=hm name
 unfold nsFind findBy at e
 rw [← Array.find?_toList] at e
 unfold PySem.W.lookIn
 rw [hd]
 dsimp only
 split
 ·rename_i y q
  rw [q] at e
  exact congrArg some e
 ·rename_i q
  rw [q] at e
  have a:es.toList.any (·.refKey)=false:=by
   rw [List.any_eq_false]
   intro y hy
   obtain ⟨z,t,hkey⟩:=hk y (Array.mem_toList_iff.mp hy)
   simp [DictEntry.refKey,hkey]
  have a':¬ es.toList.any (·.refKey)=true:=by rw [a];exact AG
  rw [if_neg a']
  exact congrArg some e
theorem ObjM.look {h:Heap}{x dx C:Addr}{mA:Str->Option Value}(I:ObjM h x dx C mA):∃ od,PySem.W.InstAt h x (PySem.W.instObj C dx) C (some od)∧∀ name,PySem.W.lookIn name od=some (mA name):=
 let ⟨od,ho,hl⟩:=P8 I.ns
 ⟨od,⟨I.obj,rfl,rfl,ho⟩,hl⟩
section
variable {P:Program} {w:World} {H H':Hp} {h h':Heap} {a C dx:Addr} {fs fs':List (Str×V)}
theorem U8 (hok:HOk P w H h)(e:H a=some (.ins C dx fs)):∃ mA,ObjM h a dx C mA∧(∀ f,W3 (fs.lookup f) (mA f))∧PySem.Within mA (fs.map (·.1))∧fs.length≤1000∧H dx=some (.own a):=by
 obtain ⟨d,z,ne,ob,mA,n,r,q⟩:=(show ObjOk P w H h a (.ins C dx fs) from hok a _ e)
 exact ⟨mA,⟨ob,n,ne⟩,r,q,z,d⟩
end
structure Cls (K:PySem.W.Frag) (C:Addr):Prop where
 pg:PySem.W.plainGet K C Str.empty=true
 hd:PySem.W.hasDictIn K C=true
 po:PySem.W.plainOver K C=true
 sa:PySem.W.findIn K (.ref C) "__setattr__"=some (some (.builtin "object.__setattr__"))
theorem Cls.get {K:PySem.W.Frag}{C:Addr}(c:Cls K C)(f:Str):PySem.W.plainGet K C f=true:=c.pg
section
variable {X:Cx} {pins:List (Addr×Obj)} {σ:St} {H:Hp} {s:Shared} {A:Around} {E:Value->Shared->Prop} {Q:Value->Shared->Prop} {c:Value} {b:Bool}
inductive Ji (K:PySem.W.Frag) (H:Hp):V->Value->Prop where
 | non:Ji K H .non (.type "NoneType")
 | bl (x:Bool):Ji K H (.bl x) (.type "bool")
 | int (i:Int):Ji K H (.int i) (.type "int")
 | str (x:Str):Ji K H (.str x) (.type "str")
 | flt (x:UInt64):Ji K H (.flt x) (.type "float")
 | lst {a:Addr} {xs:List V} (e:H a=some (.lst xs)):Ji K H (.ref a) (.type "list")
 | frz {a:Addr} {o:Obj} {xs:List V} (e:H a=some (.frz o (.lst xs))):Ji K H (.ref a) (.type "list")
 | tup {a:Addr} {xs:List V} (e:H a=some (.tup xs)):Ji K H (.ref a) (.type "tuple")
 | dK {a:Addr} {kvs:List (Key×V)} (e:H a=some (.dK kvs)):Ji K H (.ref a) (.type "dict")
 | dT {a:Addr} {kvs:List (List Key×V)} (e:H a=some (.dT kvs)):Ji K H (.ref a) (.type "dict")
 | ins {a C dx:Addr} {fs:List (Str×V)} (e:H a=some (.ins C dx fs)) (cl:Cls K C) (ha:PySem.W.findIn K (.ref C) "__class__"=some (some (.builtin "object.__class__")))
   (hn:PySem.W.specialIn K (.builtin "object.__class__") "__get__"=some (some (.builtin "getset_descriptor.__get__"))) (htk:PySem.W.takesIn K (.builtin "object.__class__")=some true)
   (hm:PySem.W.mroIn K C (.type "object")=some true):Ji K H (.ref a) (.ref C)
theorem Gy {x:V}{u t:Value}(I:Inv X pins σ H s)(rx:RelV x u)(ty:Ji X.K H x t)(e:PySem.W.kitOne X.K t c=some b)(h:∀ tk,Q (.bool b) { s with toks:=tk }) :
  wpAny (model X.prog X.w) A (call (.builtin "isinstance") [u,c]) Q E s:=by
 cases ty with
 | non=>cases (show u=Value.none from rx);exact Bd PySem.W.kitx_none I.kIn True.intro e (λz=>nomatch z) h
 | bl y=>cases (show u=Value.bool y from rx);exact Bd PySem.W.kitx_bool I.kIn True.intro e (λz=>nomatch z) h
 | int i=>obtain ⟨t,q⟩:=(show ∃ t,u=Value.int i t from rx);cases q;exact Bd PySem.W.kitx_int I.kIn True.intro e (λz=>nomatch z) h
 | str y=>obtain ⟨t,q⟩:=(show ∃ t,u=Value.str y t from rx);cases q;exact Bd PySem.W.kitx_str I.kIn True.intro e (λz=>nomatch z) h
 | flt y=>obtain ⟨t,q⟩:=(show ∃ t,u=Value.float y t from rx);cases q;exact Bd PySem.W.kitx_float I.kIn True.intro e (λz=>nomatch z) h
 | @lst a xs ea =>
  cases (show u=Value.ref a from rx)
  obtain ⟨_,_,n,_,h1⟩:=(show ObjOk X.prog X.w H s.heap a (.lst xs) from I.hok a _ ea)
  exact Bd PySem.W.kitx_list I.kIn ⟨_,h1,rfl⟩ e (λz=>nomatch z) h
 | @frz a ob xs ea =>
  cases (show u=Value.ref a from rx)
  obtain ⟨_,_,_,n,_,h1⟩:=(show ObjOk X.prog X.w H s.heap a (.frz ob (.lst xs)) from I.hok a _ ea)
  exact Bd PySem.W.kitx_list I.kIn ⟨_,h1,rfl⟩ e (λz=>nomatch z) h
 | @tup a xs ea =>
  cases (show u=Value.ref a from rx)
  obtain ⟨_,_,_,p⟩:=(show ObjOk X.prog X.w H s.heap a (.tup xs) from I.hok a _ ea)
  obtain ⟨o,h1,h2,_⟩:=p
  exact Bd PySem.W.kitx_tuple I.kIn ⟨o,h1,h2⟩ e (λz=>nomatch z) h
 | @dK a kvs ea =>
  cases (show u=Value.ref a from rx)
  obtain ⟨_,_,vs,_,p⟩:=(show ObjOk X.prog X.w H s.heap a (.dK kvs) from I.hok a _ ea)
  obtain ⟨o,es,ep,h1,h2,_⟩:=p
  exact Bd PySem.W.kitx_dict I.kIn ⟨o,h1,h2.1⟩ e (λz=>nomatch z) h
 | @dT a kvs ea =>
  cases (show u=Value.ref a from rx)
  obtain ⟨_,_,xs,_,o,es,ep,h1,h2,_⟩:=(show ObjOk X.prog X.w H s.heap a (.dT kvs) from I.hok a _ ea)
  exact Bd PySem.W.kitx_dict I.kIn ⟨o,h1,h2.1⟩ e (λz=>nomatch z) h
 | @ins a C dx fs ea cl ha hn htk hm =>
  cases (show u=Value.ref a from rx)
  obtain ⟨mA,O,_⟩:=U8 I.hok ea
  obtain ⟨od,J,_⟩:=O.look
  exact Bd (PySem.W.kitx_own (cl.get _) cl.hd ha hn htk hm) I.kIn J e (λz=>nomatch z) h
end
structure Room (k:Nat) (A:Around):Prop where
 hd:A.handled=none
 dp:A.depth+3*k+5<recursionLimit
 un:A.units+16*k+200<cLine
 gd:A.guards=some []
theorem Room.mono {j k:Nat}{A:Around}(r:Room k A)(h:j≤k):Room j A:=⟨r.hd,by have:=r.dp;omega,by have:=r.un;omega,r.gd⟩
theorem Room.deeper {k:Nat}{A:Around}(r:Room (k+1) A)(env:Env):Room k (A.deeper env):=
 ⟨r.hd,by have:=r.dp;show A.depth+1+3*k+5<_;omega,by have:=r.un;show A.units+3+16*k+200<_;omega,r.gd⟩
theorem Room.depth {k:Nat}{A:Around}(r:Room k A):A.depth<recursionLimit:=by have:=r.dp;omega
theorem Room.units {k:Nat}{A:Around}(r:Room k A):A.units+64<cLine:=by have:=r.un;omega
noncomputable def Aat:TA:=λ_ H Q=>Q [] H
noncomputable def ZQ (ta:TE)(tr:TA):TA:=fun σ H Q=>ta σ H λx H1=>tr σ H1 λxs H2=>Q (x::xs) H2
section
variable {X:Cx} {e:Expr} {es:List Expr} {te:TE} {t:TA} {pos:Pos}
theorem OE:PA X [] Aat:=λ_ _ _ _ H Q I h=>Calls.spliced_nil ⟨[],H,I,.nil,h⟩
theorem JZ (ha:PE X e te)(hr:PA X es t)(hs:starEach (e::es) X.env=(false,eval e X.env)::starEach es X.env:=by rfl):PA X (e::es) (ZQ te t):=by
 intro pos pins s σ H Q I h
 rw [hs]
 show wpAny _ _ (spliced ((false,eval e X.env)::backTo pos (starEach es X.env))) _ _ s
 refine Calls.spliced_cons (thn (ha pins s σ H _ I h) λu s1 ⟨x,H1,I1,r1,q1⟩=>?_)
 exact thn (hr pos pins s1 σ H1 _ I1 q1) λus s2 ⟨xs,H2,I2,r2,q2⟩=>⟨x::xs,H2,I2,.cons r1 r2,q2⟩
noncomputable def Aau (t:TA):TE:=fun σ H Q=>t σ H λxs H1=>xs.length≤sizeLine∧∀ p,H1 p=none->Q (.ref p) (upd H1 p (.tup xs))
noncomputable def Aay (t:TA):TE:=fun σ H Q=>t σ H λxs H1=>xs.length≤sizeLine∧∀ p,H1 p=none->Q (.ref p) (upd H1 p (.lst xs))
theorem WD {x1}(h:PA X es t):PE X (.Tuple es x1 pos) (Aau t):=by
 intro pins s σ H Q I hq
 refine wpAny_Tuple_spliced (thn (h pos pins s σ H _ I hq) λus s1 ⟨xs,H1,I1,r,z,q⟩=>⟨by rw [← r.length];exact z,?_⟩)
 have hf:H1 s1.heap.objs.size=none:=I1.hok.fresh (Ai _)
 refine ⟨.ref s1.heap.objs.size,upd H1 s1.heap.objs.size (.tup xs),I1.laid (t':=s1.toks) (λb u e=>Ad _ e) (Ai _) ?_,rfl,q _ hf⟩
 exact ⟨⟨z,⟨_,Aj _ rfl,rfl⟩⟩,us,r,⟨_,Aj _ rfl,rfl,_,rfl⟩⟩
theorem TB (h:PA X es t):PE X (.List es pos) (Aay t):=by
 intro pins s σ H Q I hq
 refine wpAny_List_spliced (thn (h pos pins s σ H _ I hq) λus s1 ⟨xs,H1,I1,r,z,q⟩=>⟨by rw [← r.length];exact z,?_⟩)
 have hf:H1 s1.heap.objs.size=none:=I1.hok.fresh (Ai _)
 refine ⟨.ref s1.heap.objs.size,upd H1 s1.heap.objs.size (.lst xs),I1.laid (t':=s1.toks) (λb u e=>Ad _ e) (Ai _) ?_,rfl,q _ hf⟩
 exact ⟨z,us,0,r,Aj _ rfl⟩
end
noncomputable abbrev Sp:=List V->Hp->VK->XK->Prop
noncomputable abbrev CXT:=List Env->Hp->Shared->XK->Value->Shared->Prop
structure T8 (P:Program) (w:World) (K:PySem.W.Frag) (mg:Str->Option Value) (base:Heap) (A:Around) (outer:List Env) (s:Shared) (H:Hp):Prop where
 frames:A.frames=some outer
 mod:Mod K mg base
 bs:∀ b o,base.get? b=some o->s.heap.get? b=some o∧H b=none
 bsz:base.objs.size≤s.heap.objs.size
 funs:s.heap.FunFrames base outer
 frf:∀ b∈frs outer,H b=none
 hok:HOk P w H s.heap
 bare:AllBare s.gens
noncomputable def CE (outer:List Env)(P:Program)(w:World)(H:Hp)(s:Shared)(Q:VK)(u:Value)(s':Shared):Prop:=
 ∃ v H',s'.os=s.os∧AllBare s'.gens∧Un (frs outer) [] H H' s.heap s'.heap∧HOk P w H' s'.heap∧RelV v u∧Q v H'
noncomputable def CR (CX:CXT)(outer:List Env)(P:Program)(w:World)(H:Hp)(s:Shared)(Q:VK)(E:XK)(r:Result)(s':Shared):Prop:=
 match r with
 | .ok (.ret u)=>CE outer P w H s Q u s'
 | .ok _=>False
 | .error e=>CX outer H s E e s'
structure Ee (P:Program) (w:World) (K:PySem.W.Frag) (mg:Str->Option Value) (base:Heap) (CX:CXT) (k:Nat) (f:Addr) (fd:FuncData) (ps:List Str) (sp:Sp):Prop where
 len:∀ vs H Q E,sp vs H Q E->vs.length=ps.length
 run:∀ (A:Around) (outer:List Env) (s:Shared) (H:Hp) (args:Args) (us:List Value) (vs:List V) (Q:VK) (E:XK),Room k A->T8 P w K mg base A outer s H->BindsTo s fd args (ps.zip us)->Vals vs us->sp vs H Q E ->
  codeAny (model P w) A (.call (.ref f) args) (CR CX outer P w H s Q E) s
section
variable {X:Cx} {pins:List (Addr×Obj)} {σ:St} {H:Hp} {s s':Shared}
theorem Inv.env0 (I:Inv X pins σ H s):T8 X.prog X.w X.K X.mg X.base X.A X.stack s H:=
 ⟨I.ok.frames,I.ok.mod,I.bs,AQ I.ok.bsz I.sz,I.stack,I.stkFree,I.hok,I.bare⟩
theorem Inv.after {Q:VK}{u:Value}(I:Inv X pins σ H s)(h:CE X.stack X.prog X.w H s Q u s'):EP X pins σ Q u s':=by
 obtain ⟨v,H',os,bare,un,hok,r,q⟩:=h
 obtain ⟨hh,g,d,t,os'⟩:=s'
 obtain rfl:os'=s.os:=os
 exact ⟨v,H',I.call (h':=hh) (g':=g) (d':=d) (t':=t) (ch:=[]) un hok bare (λb z=>absurd z (by simp)),r,q⟩
end
noncomputable def Zv (sp:Sp)(dvs:List V)(E:XK)(t:TA):TE:=fun σ H Q=>t σ H λvs H1=>sp (vs++dvs) H1 Q E
noncomputable def Binds (K:PySem.W.Frag)(fd:FuncData)(ps:List Str)(ds:List Value):Prop:=
 ∀ (s:Shared) (us:List Value),K.In s.heap->(us++ds).length=ps.length->BindsTo s fd ⟨us,[]⟩ (ps.zip (us++ds))
theorem Binds.all {K:PySem.W.Frag}{fd:FuncData}{ps:List Str}(h:∀ us:List Value,us.length=ps.length->bindArgs fd ⟨us,[]⟩=pure (ps.zip us)):Binds K fd ps []:=λs us _ hl=>by
 rw [List.append_nil] at hl ⊢
 exact .of_eq (h us hl)
noncomputable def Passes (CX:CXT)(X:Cx)(E:XK):Prop:=∀ (pins:List (Addr×Obj)) (σ:St) (H:Hp) (s:Shared) (e:Value) (s':Shared),Inv X pins σ H s->CX X.stack H s E e s'->X.xe e s'
section
variable {X:Cx} {CX:CXT} {k:Nat} {f C:Addr} {fd:FuncData} {ps:List Str} {sp:Sp} {dvs:List V} {ds:List Value} {E:XK} {x m:Str} {p pos apos:Pos} {e o:Expr} {es:List Expr} {ta:TE} {t:TA}
theorem WN {pins:List (Addr×Obj)}{σ:St}{H:Hp}{s:Shared}{Q:VK}{us:List Value}{vs:List V}(F:Ee X.prog X.w X.K X.mg X.base CX k f fd ps sp)(hr:Room k X.A)(hb:Binds X.K fd ps ds)(hd:Vals dvs ds)(hx:Passes CX X E)
  (I:Inv X pins σ H s) (r:Vals vs us) (h:sp (vs++dvs) H Q E):wpAny (model X.prog X.w) X.A (call (.ref f) us) (EP X pins σ Q) X.xe s:=by
 have r2:Vals (vs++dvs) (us++ds):=r.append hd
 have hl:(us++ds).length=ps.length:=by rw [← r2.length];exact F.len _ _ _ _ h
 refine wpAny_call (codeAny_mono (F.run X.A X.stack s H ⟨us,[]⟩ (us++ds) (vs++dvs) Q E hr I.env0 (hb s us I.kIn hl) r2 h) λr s' hq=>?_)
 cases r with
 | error e=>exact hx pins σ H s e s' I hq
 | ok fl =>
  cases fl with
  | ret u=>exact I.after hq
  | next=>exact False.elim hq
  | brk=>exact False.elim hq
  | cont=>exact False.elim hq
theorem UI (F:Ee X.prog X.w X.K X.mg X.base CX k f fd ps sp)(hr:Room k X.A)(hg:Gl X x)(hm:X.mg x=some (.ref f))(hk:PySem.W.keepIn X.K (.ref f)=true)(hb:Binds X.K fd ps ds)(hd:Vals dvs ds)(hx:Passes CX X E)
  (ha:PA X (e::es) t) (hdb:(x==("__debug__":Str))=false:=by decide) (he:starEach (e::es) X.env=(false,eval e X.env)::starEach es X.env:=by rfl) (hpl:(backTo pos (starEach es X.env)).any (·.1)=false:=by rfl) :
  PE X (.Call (.Name x p) (e::es) [] pos) (Zv sp dvs E t):=by
 intro pins s σ H Q I h
 refine wpAny_Call_Name_kw (O4 I hg hm ?_ hdb)
 refine PySem.W.callWith_K (h₀:=X.base) I.ok.mod.kin hk (thn (ha pos pins s σ H _ I h) λus s1 ⟨vs,H1,I1,r,q⟩=>⟨I1.kIn,?_⟩) he hpl
 exact WN F hr hb hd hx I1 r q
end
structure CU (N P:List Str) (sc:Scope):Prop where
 kind:sc.kind=.function
 co:sc.isCoroutine=false
 gen:sc.isGenerator=false
 nd:N.Nodup
 pre:N.take P.length=P
 par:∀ x∈P,sc.names.lookup x=some .local∨sc.names.lookup x=some .cell
 nofree:∀ y∈sc.names,y.2≠.free
theorem Le {kindOf:Str->Option NameKind}{x:Str}:∀ {binds:List (Str×Value)} {m:Str->Option Value},(∀ v,(x,v)∉binds)->bindL kindOf binds m x=m x
 | [],_,_=>rfl
 | (n,v)::r,m,h=>by
  unfold bindL
  rw [Le λw hw=>h w (BZ _ hw)]
  split
  ·have:x≠n:=by rintro rfl;exact h v List.mem_cons_self
   simp [this]
  ·rfl
theorem LH {kindOf:Str->Option NameKind}{x:Str}:∀ {binds:List (Str×Value)} {m:Str->Option Value},(∀ v,(x,v)∉binds)->bindC kindOf binds m x=m x
 | [],_,_=>rfl
 | (n,v)::r,m,h=>by
  unfold bindC
  rw [LH λw hw=>h w (BZ _ hw)]
  split
  ·rfl
  ·have:x≠n:=by rintro rfl;exact h v List.mem_cons_self
   simp [this]
theorem Lq {kindOf:Str->Option NameKind}{x:Str}{v:Value}:∀ {P:List Str} {vs:List Value} {i:Nat} {m:Str->Option Value},P.Nodup->P[i]? = some x->vs[i]? = some v->kindOf x=some .local ->
  bindL kindOf (P.zip vs) m x=some v
 | [],_,_,_,_,h,_,_=>by simp at h
 | _::_,[],_,_,_,_,h,_=>by simp at h
 | p::P,w::vs,0,m,nd,h1,h2,hk=>by
  simp at h1 h2;subst h1;subst h2
  show bindL kindOf ((p,w)::P.zip vs) m p=_
  unfold bindL
  rw [Le λv hv=>(Br.mp nd).1 (B5 hv).1,if_pos hk]
  simp
 | p::P,w::vs,i+1,m,nd,h1,h2,hk=>by
  show bindL kindOf ((p,w)::P.zip vs) m x=_
  unfold bindL
  exact Lq (i:=i) (Br.mp nd).2 (by simpa using h1) (by simpa using h2) hk
theorem LF {kindOf:Str->Option NameKind}{x:Str}{v:Value}:∀ {P:List Str} {vs:List Value} {i:Nat} {m:Str->Option Value},P.Nodup->P[i]? = some x->vs[i]? = some v->kindOf x≠some .local ->
  bindC kindOf (P.zip vs) m x=some v
 | [],_,_,_,_,h,_,_=>by simp at h
 | _::_,[],_,_,_,_,h,_=>by simp at h
 | p::P,w::vs,0,m,nd,h1,h2,hk=>by
  simp at h1 h2;subst h1;subst h2
  show bindC kindOf ((p,w)::P.zip vs) m p=_
  unfold bindC
  rw [LH λv hv=>(Br.mp nd).1 (B5 hv).1,if_neg hk]
  simp
 | p::P,w::vs,i+1,m,nd,h1,h2,hk=>by
  show bindC kindOf ((p,w)::P.zip vs) m x=_
  unfold bindC
  exact LF (i:=i) (Br.mp nd).2 (by simpa using h1) (by simpa using h2) hk
noncomputable def start (N:List Str)(vs:List V):St:=vs.map some++List.replicate (N.length-vs.length) none
noncomputable def KW (CX:CXT)(P:Program)(w:World)(K:PySem.W.Frag)(mg:Str->Option Value)(base:Heap)(N:List Str)(qual:Str)(scope:Scope)(f:Addr)(cd:Value)(A:Around)(outer:List Env)(s:Shared)(H:Hp)(E:XK):Cx where
 prog:=P
 w:=w
 K:=K
 mg:=mg
 base:=base
 A:=A.deeper (envOfC qual scope s.heap.objs.size f cd)
 N:=N
 s₀:=s
 H₀:=H
 env:=envOfC qual scope s.heap.objs.size f cd
 outer:=outer
 stack:=envOfC qual scope s.heap.objs.size f cd::outer
 ex:=[]
 calm:=true
 fn:=λ_=>true
 pn:=[]
 xe:=λe s'=>wpAny (model P w) (A.deeper (envOfC qual scope s.heap.objs.size f cd)) (leaving (envOfC qual scope s.heap.objs.size f cd) e) (λ_ s''=>CX outer H s E e s'') (λe' s''=>CX outer H s E e' s'') s'
theorem M3 {sc:Scope}{n:Nat}{x:Str}(h:sc.names.lookup x=some .cell):∃ c,(cellsFrom n sc.names []).lookup x=some c:=by
 have q:=PySem.W.cellsFrom_some sc.names n [] (.inl h)
 exact Bm.mp q
theorem Qo {CX:CXT}{P:Program}{w:World}{K:PySem.W.Frag}{mg:Str->Option Value}{base:Heap}{N ps:List Str}{qual:Str}{scope:Scope}{f:Addr}{cd:Value}{A:Around}{outer:List Env}{s s1:Shared}{H:Hp}{E:XK}{us:List Value}{vs:List V}
  (S:CU N ps scope) (hd:A.handled=none) (e0:T8 P w K mg base A outer s H) (hl:vs.length=ps.length) (r:Vals vs us)
  (x:InCallC s s.heap.objs.size (bindL (envOfC qual scope s.heap.objs.size f cd).kindOf (ps.zip us) λ_=>none) (cellsFrom (s.heap.objs.size+1) scope.names []) (bindC (envOfC qual scope s.heap.objs.size f cd).kindOf (ps.zip us) λ_=>none) s1) :
  Inv (KW CX P w K mg base N qual scope f cd A outer s H E) [] (start N vs) H s1:=by
 have hpl:ps.length≤N.length:=by have:=congrArg List.length S.pre;rw [Az] at this;omega
 obtain ⟨h1,tk,rfl,hk⟩:=x.done
 have noA:∀ b:Addr,b∉(KW CX P w K mg base N qual scope f cd A outer s H E).ex:=λb z=>absurd (show b∈([]:List Addr) from z) (by simp)
 refine ⟨⟨e0.mod,S.kind,rfl,rfl,Ai _,λy z c h1 h2=>?_,λy hy=>?_,λy c _ h=>?_,λ_=>hd,Around.frames_deeper e0.frames,.inr ⟨rfl,rfl⟩,λb z=>absurd z (noA b),e0.bs,e0.bsz,λb _ _=>noA b,λb z=>absurd z (noA b),e0.funs,e0.frf⟩,
  rfl,e0.bare,Un.kept hk,⟨_,x.toInCall.ns,λi y v h1 h2 h3=>?_⟩,λy c h=>⟨_,x.cell y c h⟩,e0.hok.fresh (Ai _),λy c h=>?_,λp hp=>absurd (show p∈([]:List (Addr×Obj)) from hp) (by simp),e0.hok.kept hk,?_⟩
 ·exact name_of_addr x.apart (Cf h1) (Cf h2)
 ·have hy:scope.names.lookup y=some .cell∨scope.names.lookup y=some .free:=hy
  rcases hy with hy|hy
  ·exact M3 hy
  ·exact absurd rfl (S.nofree _ (Cf hy))
 ·exact Nat.le_of_lt (x.above y c (Cf h))
 ·have hi:i<vs.length:=by
   unfold start at h2
   by_cases hi:i<vs.length
   ·exact hi
   ·rw [AW (by simpa using hi)] at h2
    rw [Cc] at h2
    split at h2<;>cases h2
  have ha:vs[i]? = some v:=by
   unfold start at h2
   rw [As (by simpa using hi),Al] at h2
   cases e:vs[i]? with
   | none=>rw [e] at h2;cases h2
   | some a=>rw [e] at h2;cases h2;rfl
  obtain ⟨u,hu,rv⟩:=r.get ha
  have hp:ps[i]? = some y:=by
   rw [← S.pre,AR (by omega)];exact h1
  have ndP:ps.Nodup:=by rw [← S.pre];exact S.nd.sublist (List.take_sublist _ _)
  refine ⟨u,rv,?_⟩
  rcases S.par y (Ak hp) with k|k
  ·exact .inl ⟨k,Lq ndP hp hu k⟩
  ·obtain ⟨c,e⟩:=M3 (n:=s.heap.objs.size+1) k
   refine .inr ⟨.inl k,c,e,?_⟩
   have q:=x.cell y c e
   rw [LF ndP hp hu (by show scope.names.lookup y≠_;rw [k];decide)] at q
   exact q
 ·exact e0.hok.fresh (Nat.le_of_lt (x.above y c (Cf h)))
 ·unfold start
  show _=N.length
  rw [Ar,Ag,List.length_replicate]
  omega
theorem Zx {CX:CXT}{P:Program}{w:World}{K:PySem.W.Frag}{mg:Str->Option Value}{base:Heap}{k:Nat}{f:Addr}{name qual:Str}{params:Arguments}{body:List Stmt}{scope:Scope}{dV kV doc pm cdv ct oc:Value}{an od:Option Addr}
  {osl:Array (Option Value)} {N ps:List Str} {sp:Sp} (lk:K.lookup f=some ⟨oc,od,.func (PySem.W.fnOf name qual params body scope dV kV doc pm an cdv ct),osl⟩) (hcd:PySem.W.codeIn K cdv qual=true) (S:CU N ps scope)
  (len:∀ vs H Q E,sp vs H Q E->vs.length=ps.length)
  (hbody:∀ (A:Around) (outer:List Env) (s:Shared) (H:Hp) (vs:List V) (Q:VK) (E:XK),Room k (A.deeper (envOfC qual scope s.heap.objs.size f cdv))->sp vs H Q E ->
   ∃ t,PSs (KW CX P w K mg base N qual scope f cdv A outer s H E) body t∧t { nx:=λ_ H'=>Q .non H',rt:=Q } (start N vs) H) :
  Ee P w K mg base CX (k+1) f (PySem.W.fnOf name qual params body scope dV kV doc pm an cdv ct) ps sp:=by
 refine ⟨len,λA outer s H args us vs Q E hr e0 hb r hsp=>?_⟩
 have hl:=len _ _ _ _ hsp
 have KX:K.In s.heap:=e0.mod.kin.keeps λb o e=>(e0.bs b o e).1
 have lim:s.heap.NoLimit:=e0.mod.nolimit.keeps λb o e=>(e0.bs b o e).1
 have hkind:∀ y∈ps.zip us,scope.names.lookup y.1=some .local∨(scope.names.lookup y.1=some .cell∧((cellsFrom (s.heap.objs.size+1) scope.names []).lookup y.1).isSome=true):=λ⟨n,v⟩ hy=>by
  rcases S.par n (B5 hy).1 with q|q
  ·exact .inl q
  ·exact .inr ⟨q,PySem.W.cellsFrom_some _ _ _ (.inl q)⟩
 refine codeAny_call_function hr.depth (KX _ _ lk) rfl S.co S.gen rfl (PySem.W.codeRec_of KX hcd) (hb _ _ _ _ ?_)
 refine wpAny_newFunctionEnv_cells S.kind hkind λenv he s1 x=>?_
 subst he
 refine ⟨lim.keeps x.toInCall.keep,codeAny_func ?_⟩
 obtain ⟨t,ht,hq⟩:=hbody A outer s H vs Q E (hr.deeper _) hsp
 have I:Inv (KW CX P w K mg base N qual scope f cdv A outer s H E) [] (start N vs) H s1:=Qo S hr.hd e0 hl r x
 refine wpAny_mono (ht [] s1 (start N vs) H _ I hq) (λfl s' hs=>?_) λe s' hs=>hs
 have fin:∀ {σ':St} {H':Hp} {v:V} {u:Value},Inv (KW CX P w K mg base N qual scope f cdv A outer s H E) [] σ' H' s'->RelV v u->Q v H'->CE outer P w H s Q u s':=
  λ{σ' H' v u} J rv q=>⟨v,H',J.os,J.bare,J.base,J.hok,rv,q⟩
 cases fl with
 | ret u =>
  obtain ⟨v,σ',H',J,rv,q⟩:=hs
  exact fin J rv q
 | next =>
  obtain ⟨σ',H',J,q⟩:=hs
  exact fin (v:=V.non) (u:=Value.none) J rfl q
 | brk =>
  obtain ⟨_,_,_,q⟩:=hs
  exact False.elim q
 | cont =>
  obtain ⟨_,_,_,q⟩:=hs
  exact False.elim q
section
variable {X:Cx} {x:Str} {p pos:Pos} {e:Expr} {es:List Expr} {t:TA} {id T:String} {r:List V->Hp->VK->Prop}
noncomputable def tCB (r:List V->Hp->VK->Prop)(t:TA):TE:=fun σ H Q=>t σ H λvs H1=>r vs H1 Q
theorem Kt (hc:F9 X (.builtin id) r)(hg:Gl X x)(hm:X.mg x=none)(hv:bootBuiltins x=some (.builtin id))(ha:PA X (e::es) t)(hn:x≠"__name__":=by decide)(hdb:(x==("__debug__":Str))=false:=by decide)
  (he:starEach (e::es) X.env=(false,eval e X.env)::starEach es X.env:=by rfl) (hpl:(backTo pos (starEach es X.env)).any (·.1)=false:=by rfl):PE X (.Call (.Name x p) (e::es) [] pos) (tCB r t):=by
 intro pins s σ H Q I h
 refine wpAny_Call_Name_kw (IG I hg hm hv ?_ hn hdb)
 exact PyProof.Rows.callWith_builtin1 (thn (ha pos pins s σ H _ I h) λus s1 ⟨vs,H1,I1,r1,q1⟩=>hc pins s1 σ H1 vs us Q I1 r1 q1) he hpl
theorem Qu (hc:F9 X (.type T) r)(hg:Gl X x)(hm:X.mg x=none)(hv:bootBuiltins x=some (.type T))(ha:PA X (e::es) t)(hn:x≠"__name__":=by decide)(hdb:(x==("__debug__":Str))=false:=by decide)
  (he:starEach (e::es) X.env=(false,eval e X.env)::starEach es X.env:=by rfl) (hpl:(backTo pos (starEach es X.env)).any (·.1)=false:=by rfl):PE X (.Call (.Name x p) (e::es) [] pos) (tCB r t):=by
 intro pins s σ H Q I h
 refine wpAny_Call_Name_kw (IG I hg hm hv ?_ hn hdb)
 exact Cg (thn (ha pos pins s σ H _ I h) λus s1 ⟨vs,H1,I1,r1,q1⟩=>hc pins s1 σ H1 vs us Q I1 r1 q1) he hpl
end
end L2
namespace HT
open PySem PyProof.Rows
section
open PySem.SeqAt
open PySem.AutoSeq1 (wpAny_loadPart')
open PySem.MeetsSeq PySem.MeetsSeq2 PySem.MeetsSeq3
end
section
variable {prog:Program} {w:World} {A:Around} {E:Value->Shared->Prop} {s:Shared}
theorem Ui {t b:Addr}{vs ws:List Value}{Q:Value->Shared->Prop}(ht:IsTup s.heap t vs.toArray)(hb:IsTup s.heap b ws.toArray)(hv:vs≠[])
  (h1:ws=[]->Q (.ref t) s) (h2:ws≠[]->Q (.ref s.heap.objs.size) { s with heap:=s.heap.push { cls:=.type "tuple",data:=.seq (vs++ws).toArray } })
  (hsz:vs.length+ws.length≤sizeLine):wpAny (model prog w) A (binaryOp .Add (.ref t) (.ref b)) Q E s:=by
 obtain ⟨⟨cls,dd,data,sl⟩,ho,hc,n,hd⟩:=id ht
 obtain ⟨⟨cls2,dd2,data2,sl2⟩,ho2,hc2,n2,hd2⟩:=id hb
 simp only at hc hd hc2 hd2
 subst hc hd hc2 hd2
 have e:vs.toArray++ws.toArray=(vs++ws).toArray:=by simp
 by_cases hw:ws=[]
 ·exact concat_meets ⟨_,ho,rfl⟩ ⟨_,ho2,rfl⟩ noFill_tuple_add seq_tuple_add PySem.F.slot_tuple_add PySem.F.entry_tuple_add (PySem.F.args_tuple_add_2 _ _)
   (tuple_addW1 t b vs.toArray ws.toArray n n2 dd dd2 sl sl2 (by simpa using hv) (by simp [hw])) ⟨ho,ho2,h1 hw⟩
 ·refine concat_meets ⟨_,ho,rfl⟩ ⟨_,ho2,rfl⟩ noFill_tuple_add seq_tuple_add PySem.F.slot_tuple_add PySem.F.entry_tuple_add (PySem.F.args_tuple_add_2 _ _)
   (tuple_addW2 t b vs.toArray ws.toArray n n2 dd dd2 sl sl2 (by simpa using hv) (by simpa using hw) (by rw [An,An];exact hsz)) ⟨ho,ho2,?_⟩
  rw [e]
  exact h2 hw
noncomputable def sIx (n d:Nat):Option Int->Nat
 | none=>d
 | some v=>if v<0 then (v+(n:Int)).toNat else min v.toNat n
theorem J9 (n d:Nat):sIx n d none=d:=rfl
theorem LV (n d k:Nat):sIx n d (some (k:Int))=min k n:=by
 show (if (k:Int)<0 then ((k:Int)+(n:Int)).toNat else min (k:Int).toNat n)=min k n
 rw [if_neg (by omega),Int.toNat_natCast]
theorem V0 (n d:Nat)(hd:d≤n)(o:Option Int):sIx n d o≤n:=by
 cases o with
 | none=>exact hd
 | some v =>
  show (if v<0 then (v+(n:Int)).toNat else min v.toNat n)≤n
  by_cases hv:v<0
  ·rw [if_pos hv];omega
  ·rw [if_neg hv];exact Nat.min_le_right _ _
theorem Pc (v:Int)(n d:Nat):(if v<0 then max (v+(n:Int)) 0 else min v (n:Int))=((sIx n d (some v):Nat):Int):=by
 show (if v<0 then max (v+(n:Int)) 0 else min v (n:Int))=(((if v<0 then (v+(n:Int)).toNat else min v.toNat n):Nat):Int)
 by_cases hv:v<0
 ·simp only [if_pos hv];omega
 ·simp only [if_neg hv];omega
theorem NP (lo hi:Option Int)(n:Nat):Builtin.Slice.sliceAdjust lo hi 1 (n:Int)=(((sIx n 0 lo:Nat):Int),((sIx n n hi:Nat):Int)):=by
 have h1:¬ ((1:Int)<0):=by omega
 unfold Builtin.Slice.sliceAdjust
 simp only [h1,A0]
 refine Prod.ext ?_ ?_
 ·cases lo with
  | none=>rfl
  | some v=>exact Pc v n 0
 ·cases hi with
  | none=>rfl
  | some v=>exact Pc v n n
theorem OF (i j:Nat):Builtin.Slice.slicePlaces (i:Int) (j:Int) 1=j-i:=by
 unfold Builtin.Slice.slicePlaces
 have h1:(1:Int) > 0:=by omega
 simp only [h1,if_true,Int.ediv_one]
 split<;>omega
theorem FL {v:Value}{o:Option Int}{Q:Option Int->Shared->Prop}(p:IsPart v o)(h:Q o s):wpAny (model prog w) A (Builtin.Slice.slicePartIndex v) Q E s:=by
 cases p with
 | none=>exact slicePart_none h
 | int i t=>exact slicePart_int h
theorem Gu {sl:Addr}{vl vu:Value}{lo hi:Option Int}{n:Nat}{Q:Int×Int×Nat->Shared->Prop}(hs:s.heap.IsSliceOf sl vl vu .none)(pl:IsPart vl lo)(pu:IsPart vu hi)
  (h:Q (((sIx n 0 lo:Nat):Int),1,sIx n n hi-sIx n 0 lo) s):wpAny (model prog w) A (Builtin.Slice.sliceApplied (.ref sl) (pure (n:Int))) Q E s:=by
 obtain ⟨os,hos,hcs,hds⟩:=id hs
 unfold Builtin.Slice.sliceApplied Builtin.Slice.sliceFields
 refine Aa (Aa (Bp hos hds (x:=vl) rfl (Aa (Bp hos hds (x:=vu) rfl (Aa (Bp hos hds (x:=.none) rfl (Ac ?_)))))))
 refine Aa (slicePart_none ?_)
 show wpAny _ _ (if ((1:Int)==0)=true then _ else _) _ _ s
 rw [if_neg (by decide)]
 refine Aa (FL pl (Aa (FL pu (Aa (Ac ?_)))))
 show wpAny _ _ (match Builtin.Slice.sliceAdjust lo hi 1 (n:Int) with|(lo,hi)=>pure (lo,(1:Int),Builtin.Slice.slicePlaces lo hi 1)) _ _ s
 rw [NP lo hi n]
 show wpAny _ _ (pure (((sIx n 0 lo:Nat):Int),(1:Int),Builtin.Slice.slicePlaces ((sIx n 0 lo:Nat):Int) ((sIx n n hi:Nat):Int) 1)) _ _ s
 rw [OF]
 exact Ac h
theorem Th (xs:Array Value)(i k:Nat):((List.range k).filterMap λ(m:Nat)=>xs[((i:Int)+(m:Int)*1).toNat]?).toArray=((xs.toList.drop i).take k).toArray:=by
 have e:(λ(m:Nat)=>xs[((i:Int)+(m:Int)*1).toNat]?)=λm=>xs[i+m]?:=by
  funext m
  have:((i:Int)+(m:Int)*1).toNat=i+m:=by omega
  rw [this]
 rw [e]
 have:=pick_run xs i k
 rw [List.filterMap_map] at this
 have e2:((λx=>xs[x]?)∘λx=>i+x)=λm=>xs[i+m]?:=rfl
 rw [e2] at this
 rw [this]
theorem Ii {t sl:Addr}{items:Array Value}{vl vu:Value}{lo hi:Option Int}{Q:Value->Shared->Prop}(ht:IsTup s.heap t items)(hs:s.heap.IsSliceOf sl vl vu .none)(pl:IsPart vl lo)(pu:IsPart vu hi)
  (hw:¬ (sIx items.size 0 lo=0∧sIx items.size items.size hi=items.size))
  (h:Q (.ref s.heap.objs.size) { s with heap:=s.heap.push { cls:=.type "tuple",data:=.seq ((items.toList.drop (sIx items.size 0 lo)).take (sIx items.size items.size hi-sIx items.size 0 lo)).toArray } })
  (hsz:items.size≤sizeLine):wpAny (model prog w) A (getItem (.ref t) (.ref sl)) Q E s:=by
 have htake:sizeOk (.seq ((items.toList.drop (sIx items.size 0 lo)).take (sIx items.size items.size hi-sIx items.size 0 lo)).toArray):=by
  show ((items.toList.drop (sIx items.size 0 lo)).take (sIx items.size items.size hi-sIx items.size 0 lo)).toArray.size≤sizeLine
  rw [An,Az,Bu,Array.length_toList]
  omega
 have hj:sIx items.size items.size hi≤items.size:=V0 _ _ (Ai _) hi
 obtain ⟨os,hos,hcs,hds⟩:=id hs
 have hTs:s.TypeIs (.ref sl) "slice":=⟨os,hos,hcs⟩
 unfold getItem
 try with_reducible refine AI ?_
 first|refine Aa (Ac ?_)|skip
 refine Aa (wpAny_sequenceKey ht.typeIs (by decide) ?_)
 refine Aa (AM (name:=Str.ofString "__getitem__") ht.typeIs AY
  (AO AY ht.typeIs entry_tuple_getitem ?_ (args_tuple_getitem _ _)))
 show wpAny _ _ (Builtin.Tuple.tupleItemsOf (.ref t) >>= _) _ _ s
 refine Aa (tupleItemsOf_ ht ?_)
 refine Aa (BY hTs ?_)
 rw [if_pos (by decide)]
 refine Aa (Gu hs pl pu ?_)
 have hno:¬ ((((sIx items.size 0 lo:Nat):Int)==0&&(1:Int)==1&&(sIx items.size items.size hi-sIx items.size 0 lo)==items.size)=true):=by
  intro q
  rw [Ab,Ab] at q
  have q1:((sIx items.size 0 lo:Nat):Int)=0:=eq_of_beq q.1.1
  have q2:sIx items.size items.size hi-sIx items.size 0 lo=items.size:=eq_of_beq q.2
  exact hw ⟨by omega,by omega⟩
 show wpAny _ _ (if (((sIx items.size 0 lo:Nat):Int)==0&&(1:Int)==1&&(sIx items.size items.size hi-sIx items.size 0 lo)==items.size)=true then _ else _) _ _ s
 rw [if_neg hno,Th]
 first
  | exact Aa (m:=Builtin.Tuple.tupleExact _) (AU (Ac ⟨_,rfl,Ac h⟩) htake)
  | exact Aa (m:=Builtin.Tuple.tupleExact _) (AU (Aa (Ac (Ac ⟨_,rfl,Ac h⟩))) htake)
  | exact Aa (Aa (m:=Builtin.Tuple.tupleExact _) (AU (Ac (Ac ⟨_,rfl,Ac h⟩)) htake))
  | exact Aa (Aa (m:=Builtin.Tuple.tupleExact _) (AU (Ac ⟨_,rfl,Ac h⟩) htake))
end
end HT
namespace L2
open PySem PySem.Spec PyProof.Rows
noncomputable abbrev TO:=St->Hp->(Option Int->Hp->Prop)->Prop
noncomputable def PO (X:Cx)(e:Option Expr)(t:TO):Prop:=
 ∀ (pins:List (Addr×Obj)) (s:Shared) (σ:St) (H:Hp) (Q:Option Int->Hp->Prop),Inv X pins σ H s->t σ H Q ->
  wpAny (model X.prog X.w) X.A (evalPart e X.env) (λu s'=>∃ o H',Inv X pins σ H' s'∧IsPart u o∧Q o H') X.xe s
noncomputable def TV:TO:=λ_ H Q=>Q none H
noncomputable def ZW (t:TE):TO:=fun σ H Q=>t σ H λx H1=>∃ i,x=.int i∧Q (some i) H1
section
variable {X:Cx} {e:Expr} {te:TE} {lo hi:Option Expr} {tl th:TO} {pos p2:Pos}
theorem Uu:PO X none TV:=by
 intro pins s σ H Q I h
 rw [evalPart_none]
 exact Ac ⟨none,H,I,.none,h⟩
theorem UQ (h:PE X e te):PO X (some e) (ZW te):=by
 intro pins s σ H Q I hw
 rw [evalPart_some]
 refine thn (h pins s σ H _ I hw) λu s1 ⟨x,H1,I1,r1,q1⟩=>?_
 obtain ⟨i,rfl,q⟩:=q1
 obtain ⟨t,rfl⟩:=r1
 exact ⟨some i,H1,I1,.int i t,q⟩
noncomputable def SlR (X:Cx)(r:V->Option Int->Option Int->Hp->VK->Prop):Prop:=
 ∀ (pins:List (Addr×Obj)) (s:Shared) (σ:St) (H:Hp) (x:V) (v vl vu:Value) (lo hi:Option Int) (sl:Addr) (Q:VK),Inv X pins σ H s->RelV x v->s.heap.IsSliceOf sl vl vu .none->IsPart vl lo->IsPart vu hi->r x lo hi H Q ->
  ∃ T id,typeLookup (.type T) "__getitem__"=pure (some (.builtin id))∧s.TypeIs v T∧wpAny (model X.prog X.w) X.A (getItem v (.ref sl)) (EP X pins σ Q) X.xe s
noncomputable def tSl (r:V->Option Int->Option Int->Hp->VK->Prop)(te:TE)(tl th:TO):TE:=fun σ H Q=>te σ H λx H1=>tl σ H1 λl H2=>th σ H2 λu H3=>r x l u H3 Q
theorem RJ {r:V->Option Int->Option Int->Hp->VK->Prop}(hr:SlR X r)(he:PE X e te)(hl:PO X lo tl)(hu:PO X hi th):PE X (.Subscript e (.Slice lo hi none p2) pos) (tSl r te tl th):=by
 intro pins s σ H Q I h
 refine Subscript_ (thn (he pins s σ H _ I h) λv s1 ⟨x,H1,I1,r1,q1⟩=>?_)
 refine wpAny_Slice (thn (hl pins s1 σ H1 _ I1 q1) λvl s2 ⟨l,H2,I2,pl,q2⟩=>thn (hu pins s2 σ H2 _ I2 q2) λvu s3 ⟨u,H3,I3,pu,q3⟩=>?_)
 rw [evalPart_none]
 refine Ac ?_
 have I4:Inv X pins σ H3 { s3 with heap:=s3.heap.push { cls:=.type "slice",data:=.fields #[vl,vu,.none] } }:=I3.kept (t':=s3.toks) λb ob q=>Ad _ q
 obtain ⟨T,id,hT,ht,hg⟩:=hr pins { s3 with heap:=s3.heap.push { cls:=.type "slice",data:=.fields #[vl,vu,.none] } } σ H3 x v vl vu l u s3.heap.objs.size Q I4 r1 (Heap.IsSliceOf.new ..) pl pu q3
 show wpAny (model X.prog X.w) X.A (subscriptTail e (.Slice lo hi none p2) v (.ref s3.heap.objs.size)) (EP X pins σ Q) X.xe { s3 with heap:=s3.heap.push { cls:=.type "slice",data:=.fields #[vl,vu,.none] } }
 exact tail_any (ops:=[.ref s3.heap.objs.size,v]) ht hT hg (by with_unfolding_all rfl)
noncomputable def ML (xs:List V)(lo hi:Option Int):List V:=(xs.drop (HT.sIx xs.length 0 lo)).take (HT.sIx xs.length xs.length hi-HT.sIx xs.length 0 lo)
theorem Jw (xs:List V)(lo hi:Option Int):(ML xs lo hi).length≤xs.length:=by
 unfold ML
 rw [Az,Bu]
 omega
noncomputable def AaT (K:PySem.W.Frag):V->Option Int->Option Int->Hp->VK->Prop:=λx lo hi H Q=>∃ a xs,x=.ref a∧SqT K H a xs ∧
 ¬ (HT.sIx xs.length 0 lo=0∧HT.sIx xs.length xs.length hi=xs.length)∧∀ p,H p=none->Q (.ref p) (upd H p (.tup (ML xs lo hi)))
theorem Xf:SlR X (AaT X.K):=by
 intro pins s σ H x v vl vu lo hi sl Q I rx hs pl pu h
 obtain ⟨a,xs,rfl,hx,hw,q⟩:=h
 cases rx
 obtain ⟨its,r,ht,hz⟩:=I.tuple hx
 have hlen:its.toArray.size=xs.length:=by rw [An];exact r.length.symm
 refine ⟨"tuple",_,AY.lookup,ht.typeIs,?_⟩
 refine HT.Ii ht hs pl pu (by rw [hlen];exact hw) ?_ (by rw [hlen];exact hz)
 rw [hlen]
 refine ⟨.ref s.heap.objs.size,_,I.laid (t':=s.toks) (o:=.tup (ML xs lo hi)) (λb ob q=>Ad _ q) (Ai _) ?_,rfl,q _ (I.hok.fresh (Ai _))⟩
 exact ⟨⟨AQ (Jw xs lo hi) hz,⟨_,Aj _ rfl,rfl⟩⟩,_,(r.drop (HT.sIx xs.length 0 lo)).take (HT.sIx xs.length xs.length hi-HT.sIx xs.length 0 lo),IsTup.new _ _⟩
noncomputable def YE (K:PySem.W.Frag):R2:=λx y H Q=>∃ a b xs ys,x=.ref a∧y=.ref b∧SqT K H a xs∧SqT K H b ys∧xs≠[]∧xs.length+ys.length≤sizeLine ∧
 (ys=[]->Q (.ref a) H)∧(ys≠[]->∀ p,H p=none->Q (.ref p) (upd H p (.tup (xs++ys))))
theorem Vals.nil_iff {xs:List V}{us:List Value}(r:Vals xs us):us=[] ↔ xs=[]:=by
 cases r with
 | nil=>simp
 | cons _ _=>simp
theorem UB:OpR X (binaryOp .Add) (YE X.K):=by
 intro pins s σ H x y v u Q I rx ry h
 obtain ⟨a,b,xs,ys,rfl,rfl,ha,hb,hx,hz,q1,q2⟩:=h
 cases rx
 cases ry
 obtain ⟨its,r1,p1,_⟩:=I.tuple ha
 obtain ⟨its2,r2,p2,_⟩:=I.tuple hb
 refine HT.Ui p1 p2 (λz=>hx (r1.nil_iff.mp z)) (λz=>⟨.ref a,H,I,rfl,q1 (r2.nil_iff.mp z)⟩) (λz=>?_) (by rw [← r1.length,← r2.length];exact hz)
 refine ⟨.ref s.heap.objs.size,_,I.laid (t':=s.toks) (o:=.tup (xs++ys)) (λb ob q=>Ad _ q) (Ai _) ?_,rfl,q2 (λw=>z (r2.nil_iff.mpr w)) _ (I.hok.fresh (Ai _))⟩
 exact ⟨⟨by rw [Ar];exact hz,⟨_,Aj _ rfl,rfl⟩⟩,_,r1.append r2,IsTup.new _ _⟩
end
noncomputable def ixN (n:Nat)(i:Int):Option Nat:=if 0≤i then (if i<n then some i.toNat else none) else if -(n:Int)≤i then some (i+n).toNat else none
noncomputable def atI {α:Type}(xs:List α)(i:Int):Option α:=(ixN xs.length i).bind λj=>xs[j]?
theorem Po {n:Nat}{i:Int}{j:Nat}(h:ixN n i=some j):seqIndex? i n=some j∧j<n∧-(n:Int)≤i∧i<n:=by
 unfold ixN at h
 by_cases h0:0≤i
 ·rw [if_pos h0] at h
  by_cases h1:i<n
  ·rw [if_pos h1] at h
   have e:i.toNat=j:=AB h
   exact ⟨by rw [seqIndex_of h0 h1,e],by omega,by omega,h1⟩
  ·rw [if_neg h1] at h;cases h
 ·rw [if_neg h0] at h
  by_cases h1:-(n:Int)≤i
  ·rw [if_pos h1] at h
   have e:(i+n).toNat=j:=AB h
   exact ⟨by rw [seqIndex_neg (by omega) h1,e],by omega,h1,by omega⟩
  ·rw [if_neg h1] at h;cases h
theorem JU {α:Type}{xs:List α}{i:Int}{v:α}(h:atI xs i=some v):∃ j,seqIndex? i xs.length=some j∧xs[j]? = some v∧j<xs.length∧-(xs.length:Int)≤i∧i<xs.length:=by
 unfold atI at h
 cases e:ixN xs.length i with
 | none=>rw [e] at h;cases h
 | some j =>
  rw [e] at h
  obtain ⟨h1,h2,h3,h4⟩:=Po e
  exact ⟨j,h1,h,h2,h3,h4⟩
theorem J1 {α:Type}(xs:List α)(v:α):atI (xs++[v]) (-1)=some v:=by
 have hl:(xs++[v]).length=xs.length+1:=by simp
 have e:ixN (xs++[v]).length (-1)=some xs.length:=by
  unfold ixN
  rw [hl,if_neg (by decide),if_pos (by omega)]
  congr 1
  omega
 unfold atI
 rw [e]
 show (xs++[v])[xs.length]? = some v
 simp
noncomputable def Pm (b:Expr):Prop:=∀ o i,subscripted b false o i=operate [o,i] (getItem o i)
noncomputable def IxR (X:Cx)(r:R2):Prop:=
 ∀ (value slice:Expr) (pins:List (Addr×Obj)) (s:Shared) (σ:St) (H:Hp) (x y:V) (v u:Value) (Q:VK),Inv X pins σ H s->RelV x v->RelV y u->r x y H Q ->
  subscripted slice false v u=operate [v,u] (getItem v u)->wpAny (model X.prog X.w) X.A (subscriptTail value slice v u) (EP X pins σ Q) X.xe s
noncomputable def MtR (X:Cx)(id:String)(r:V->List V->Hp->VK->Prop):Prop:=
 ∀ (pins:List (Addr×Obj)) (s:Shared) (σ:St) (H:Hp) (x:V) (xs:List V) (v:Value) (us:List Value) (Q:VK),Inv X pins σ H s->RelV x v->Vals xs us->r x xs H Q ->
  wpAny (model X.prog X.w) X.A (call (.builtin id) (v::us)) (EP X pins σ Q) X.xe s
section
variable {X:Cx} {a b:Expr} {ta tb:TE} {pos:Pos}
theorem IxR.or {r r':R2}(h:IxR X r)(h':IxR X r'):IxR X (λx y H Q=>r x y H Q∨r' x y H Q):=by
 intro value slice pins s σ H x y v u Q I rx ry q hs
 rcases q with q|q
 ·exact h value slice pins s σ H x y v u Q I rx ry q hs
 ·exact h' value slice pins s σ H x y v u Q I rx ry q hs
theorem Ym {r:R2}(hr:IxR X r)(ha:PE X a ta)(hb:PE X b tb)(hs:Pm b):PE X (.Subscript a b pos) (tOp r ta tb):=by
 intro pins s σ H Q I h
 exact Subscript_ (WY ha hb I h λv u s2 x y H2 I2 rx ry q=>hr a b pins s2 σ H2 x y v u Q I2 rx ry q (hs _ _))
noncomputable def Wi (K:PySem.W.Frag):R2:=λx y H Q=>∃ p xs i v,x=.ref p∧y=.int i∧SqL K H p xs∧atI xs i=some v∧Q v H
noncomputable def Zn (K:PySem.W.Frag):R2:=λx y H Q=>∃ p xs i v,x=.ref p∧y=.int i∧SqT K H p xs∧atI xs i=some v∧Q v H
noncomputable def YL:R2:=λx y H Q=>∃ z i c,x=.str z∧y=.int i∧z.length≤sizeLine∧atI z.cps.toList i=some c∧Q (.str ⟨#[c]⟩) H
theorem Ug:IxR X (Wi X.K):=by
 intro value slice pins s σ H x y v u Q I rx ry h hs
 obtain ⟨p,xs,i,z,rfl,rfl,hq,he,q⟩:=h
 cases rx
 obtain ⟨t,rfl⟩:=ry
 obtain ⟨its,r,pl,hz⟩:=I.list hq
 obtain ⟨j,h1,h2,h3,h4,h5⟩:=JU he
 obtain ⟨w,ew,rw'⟩:=r.get h2
 have hl:=r.length
 have hn:=IV
 have fin:EP X pins σ Q w s:=⟨z,H,I,rw',q⟩
 by_cases h0:0≤i
 ·have hj:i.toNat=j:=by
   rw [seqIndex_of h0 h5] at h1
   exact AB h1
  exact item_listR pl.isList h0 (by omega) (by rw [hj];simpa using ew) fin hs
 ·have hj:(i+(its.toArray.size:Int)).toNat=j:=by
   rw [seqIndex_neg (by omega) h4] at h1
   rw [An,← hl]
   exact AB h1
  exact subscriptTail_builtinR (x:=w) pl.isList.typeIs slot_list_getitem.lookup
   (wpAny_getItem_list_neg (Q:=λr s'=>r=w∧EP X pins σ Q r s') pl.isList (by omega) (by rw [An]<;>omega) (by omega) (by rw [hj];simpa using ew) ⟨rfl,fin⟩) hs
theorem XR:IxR X (Zn X.K):=by
 intro value slice pins s σ H x y v u Q I rx ry h hs
 obtain ⟨p,xs,i,z,rfl,rfl,hq,he,q⟩:=h
 cases rx
 obtain ⟨t,rfl⟩:=ry
 obtain ⟨its,r,pl,hz⟩:=I.tuple hq
 obtain ⟨j,h1,h2,h3,h4,h5⟩:=JU he
 obtain ⟨w,ew,rw'⟩:=r.get h2
 have hl:=r.length
 have hn:=IV
 have fin:EP X pins σ Q w s:=⟨z,H,I,rw',q⟩
 exact subscriptTail_builtinR (x:=w) pl.typeIs slot_tuple_getitem.lookup
  (getItem_tuple (j:=j) (Q:=λr s'=>r=w∧EP X pins σ Q r s') pl (by omega) (by omega) (by rw [An,← hl];exact h1) (by simpa using ew) ⟨rfl,fin⟩) hs
theorem Yb:IxR X YL:=by
 intro value slice pins s σ H x y v u Q I rx ry h hs
 obtain ⟨z,i,c,rfl,rfl,hz,he,q⟩:=h
 obtain ⟨t,rfl⟩:=rx
 obtain ⟨t',rfl⟩:=ry
 obtain ⟨j,h1,h2,h3,h4,h5⟩:=JU he
 have hl:z.cps.toList.length=z.length:=by simp [Str.length]
 rw [hl] at h1 h4 h5
 have hn:=IV
 exact tail_any (typeIs_str s z t) slot_str_getitem.lookup (getItem_str (c:=c) (by
  have e1:decide (i < -(2 ^ 63:Int))=false:=A3 (by omega)
  have e2:decide (i ≥ 2 ^ 63)=false:=A3 (by omega)
  rw [e1,e2,Bool.or_false]) (by rw [h1];simpa using h2) ⟨.str ⟨#[c]⟩,H,I.tok _,⟨_,rfl⟩,q⟩) hs
noncomputable def rIx (K:PySem.W.Frag):R2:=λx y H Q=>Wi K x y H Q∨Zn K x y H Q∨YL x y H Q
theorem Xv:IxR X (rIx X.K):=Ug.or (XR.or Yb)
theorem NW (its:List Value)(n j:Nat)(u:Value):Obj.mapSeq (·.setIfInBounds j u) { cls:=.type "list",data:=.seq its.toArray n }={ cls:=.type "list",data:=.seq (its.set j u).toArray n }:=by
 simp [Obj.mapSeq]
theorem Inv.lst {pins:List (Addr×Obj)}{σ:St}{H:Hp}{s:Shared}{p:Addr}{xs:List V}(I:Inv X pins σ H s)(h:H p=some (.lst xs)) :
  ∃ (its:List Value) (n:Nat),Vals xs its∧s.heap.get? p=some { cls:=.type "list",data:=.seq its.toArray n }∧xs.length≤sizeLine:=by
 obtain ⟨z,its,n,r,e⟩:=I.hok p _ h
 exact ⟨its,n,r,e,z⟩
theorem Inv.lstUpd {pins:List (Addr×Obj)}{σ:St}{H:Hp}{s:Shared}{p:Addr}{xs ys:List V}{its its':List Value}{n n':Nat}{f:Obj->Obj}(I:Inv X pins σ H s)(h:H p=some (.lst xs))
  (ho:s.heap.get? p=some { cls:=.type "list",data:=.seq its.toArray n }) (hf:f { cls:=.type "list",data:=.seq its.toArray n }={ cls:=.type "list",data:=.seq its'.toArray n' }) (r:Vals ys its') (hz:ys.length≤sizeLine) (t:Nat) :
  Inv X pins σ (upd H p (.lst ys)) { s with heap:=s.heap.update p f,toks:=t }:=by
 have e:(s.heap.update p f).get? p=some { cls:=.type "list",data:=.seq its'.toArray n' }:=by
  rw [AS f ho (by rw [hf]<;>rfl),hf]
 refine I.write (x:=p) (e:=p) (by rw [h];trivial) (.inl rfl) (λb u hb q=>(By _ _ (Ne.symm hb)).trans q) ⟨_,e⟩ ?_
 exact ⟨hz,its',n',r,e⟩
noncomputable def Y1:V->V->V->Hp->(Hp->Prop)->Prop:=λo i v H Q=>∃ p xs k j,o=.ref p∧i=.int k∧H p=some (.lst xs)∧ixN xs.length k=some j∧Q (upd H p (.lst (xs.set j v)))
theorem set_list:UH X Y1:=by
 intro pins s σ H o i v ov iv u Q I ro ri rv h
 obtain ⟨p,xs,k,j,rfl,rfl,hp,hj,q⟩:=h
 cases ro
 obtain ⟨t,rfl⟩:=ri
 obtain ⟨its,n,r,ho,hz⟩:=I.lst hp
 obtain ⟨h1,h2,h3,h4⟩:=Po hj
 have hl:=r.length
 have hn:=IV
 have I':Inv X pins σ (upd H p (.lst (xs.set j v))) { s with heap:=s.heap.update p (Obj.mapSeq (·.setIfInBounds j u)) }:=
  I.lstUpd hp ho (NW its n j u) (r.set rv j) (by rw [List.length_set];exact hz) s.toks
 by_cases h0:0≤k
 ·have hk:k.toNat=j:=by
   rw [seqIndex_of h0 h4] at h1
   exact AB h1
  exact PySem.W.ki_setAt ho h0 (by omega) (by rw [An,← hl];exact h4) (by rw [hk];exact ⟨_,I',q⟩)
 ·have hk:(k+(its.toArray.size:Int)).toNat=j:=by
   rw [seqIndex_neg (by omega) h3] at h1
   rw [An,← hl]
   exact AB h1
  exact PySem.W.ki_setBack ho (by omega) (by rw [An,← hl];exact h3) (by omega) (by rw [hk];exact ⟨_,I',q⟩)
theorem LR (lo hi:Option Int)(n:Nat):(sliceBounds lo hi none n).1=((HT.sIx n 0 lo:Nat):Int)∧(sliceBounds lo hi none n).2.1=((HT.sIx n n hi:Nat):Int)∧(sliceBounds lo hi none n).2.2=1:=by
 refine ⟨?_,?_,rfl⟩
 ·cases lo with
  | none=>simp [sliceBounds,HT.sIx]
  | some i =>
   simp only [sliceBounds,HT.sIx,Option.getD_none,show (1:Int) > 0 by decide,if_true]
   by_cases h:i<0
   ·simp only [h,if_true]<;>omega
   ·simp only [h,A0]<;>omega
 ·cases hi with
  | none=>simp [sliceBounds,HT.sIx]
  | some i =>
   simp only [sliceBounds,HT.sIx,Option.getD_none,show (1:Int) > 0 by decide,if_true]
   by_cases h:i<0
   ·simp only [h,if_true]<;>omega
   ·simp only [h,A0]<;>omega
theorem KU (its:List Value)(lo hi:Option Int):slicePick its.toArray lo hi none=((its.drop (HT.sIx its.length 0 lo)).take (HT.sIx its.length its.length hi-HT.sIx its.length 0 lo)).toArray:=by
 obtain ⟨h1,h2,h3⟩:=LR lo hi its.toArray.size
 unfold slicePick
 rw [h1,h2,h3]
 simp only [sliceRange_one,pick_run,An]<;>rfl
noncomputable def ZP (K:PySem.W.Frag):V->Option Int->Option Int->Hp->VK->Prop:=λx lo hi H Q=>∃ a xs,x=.ref a∧SqL K H a xs∧∀ p,H p=none->Q (.ref p) (upd H p (.lst (ML xs lo hi)))
theorem UW:SlR X (ZP X.K):=by
 intro pins s σ H x v vl vu lo hi sl Q I rx hs pl pu h
 obtain ⟨a,xs,rfl,hx,q⟩:=h
 cases rx
 obtain ⟨its,r,ht,hz⟩:=I.list hx
 have hlen:=r.length
 refine ⟨"list",_,slot_list_getitem.lookup,ht.isList.typeIs,?_⟩
 refine wpAny_getItem_list_slice ht.isList hs pl pu .none (by simp) ?_ (by rw [An]<;>omega)
 rw [KU,← hlen]
 refine ⟨.ref s.heap.objs.size,_,I.laid (t':=s.toks) (o:=.lst (ML xs lo hi)) (λb ob q=>Ad _ q) (Ai _) ?_,rfl,q _ (I.hok.fresh (Ai _))⟩
 exact ⟨AQ (Jw xs lo hi) hz,_,0,(r.drop (HT.sIx xs.length 0 lo)).take (HT.sIx xs.length xs.length hi-HT.sIx xs.length 0 lo),Aj _ rfl⟩
theorem GI:F9 X (.builtin "len") (λxs H Q=>∃ p ys,xs=[.ref p]∧(SqL X.K H p ys∨SqT X.K H p ys)∧Q (.int ys.length) H):=by
 intro pins s σ H xs us Q I r h
 obtain ⟨p,ys,rfl,hq,q⟩:=h
 obtain ⟨u,rfl,rx⟩:=vals1 r
 cases rx
 have hn:=IV
 rcases hq with hq|hq
 ·obtain ⟨its,r',pl,hz⟩:=I.list hq
  have hlen:=r'.length
  exact Calls.call_len_list pl.isList (by simp only [An]<;>omega) ⟨.int ys.length,H,I.tok _,⟨s.toks+1,by rw [An,hlen]⟩,q⟩
 ·obtain ⟨its,r',pl,hz⟩:=I.tuple hq
  have hlen:=r'.length
  exact len_tuple pl (by simp only [An]<;>omega) ⟨.int ys.length,H,I.tok _,⟨s.toks+1,by rw [An,hlen]⟩,q⟩
theorem LW:F9 X (.builtin "len") (λxs H Q=>∃ z,xs=[.str z]∧z.length≤sizeLine∧Q (.int z.length) H):=by
 intro pins s σ H xs us Q I r h
 obtain ⟨z,rfl,hz,q⟩:=h
 obtain ⟨u,rfl,t,rfl⟩:=vals1 r
 have hn:=IV
 exact len_str (by omega) ⟨.int z.length,H,I.tok _,⟨_,rfl⟩,q⟩
theorem LL:F9 X (.type "list") (λxs H Q=>∃ p ys,xs=[.ref p]∧(SqL X.K H p ys∨SqT X.K H p ys)∧∀ l,H l=none->Q (.ref l) (upd H l (.lst ys))):=by
 intro pins s σ H xs us Q I r h
 obtain ⟨p,ys,rfl,hq,q⟩:=h
 obtain ⟨u,rfl,rx⟩:=vals1 r
 cases rx
 have fin:∀ (its:List Value),Vals ys its->ys.length≤sizeLine->∀ (h':Heap) (c':Nat),(∀ b o',s.heap.get? b=some o'->h'.get? b=some o') ->
   h'.get? s.heap.objs.size=some { cls:=.type "list",dict:=none,data:=.seq its.toArray c',slots:=#[] }->EP X pins σ Q (.ref s.heap.objs.size) { s with heap:=h' }:=λits r' hz h' c' kp e =>
  ⟨.ref s.heap.objs.size,_,I.laid (t':=s.toks) kp (Ai _) (show ObjOk X.prog X.w _ h' _ (.lst ys) from ⟨hz,its,c',r',e⟩),rfl,q _ (I.hok.fresh (Ai _))⟩
 rcases hq with hq|hq
 ·obtain ⟨its,r',pl,hz⟩:=I.list hq
  have hlen:=r'.length
  obtain ⟨o,ho,hc,n,hd⟩:=pl.isList
  exact call_list_seq p (.inl rfl) ho hc hd (λh' c' kp e=>fin its r' hz h' c' kp e) (by simp only [An]<;>omega)
 ·obtain ⟨its,r',pl,hz⟩:=I.tuple hq
  have hlen:=r'.length
  obtain ⟨o,ho,hc,n,hd⟩:=pl
  exact call_list_seq p (.inr rfl) ho hc hd (λh' c' kp e=>fin its r' hz h' c' kp e) (by simp only [An]<;>omega)
theorem K5:F9 X (.type "tuple") (λxs H Q=>∃ p ys,xs=[.ref p]∧((SqL X.K H p ys∧∀ l,H l=none->Q (.ref l) (upd H l (.tup ys)))∨(SqT X.K H p ys∧Q (.ref p) H))):=by
 intro pins s σ H xs us Q I r h
 obtain ⟨p,ys,rfl,h⟩:=h
 obtain ⟨u,rfl,rx⟩:=vals1 r
 cases rx
 rcases h with ⟨hq,q⟩|⟨hq,q⟩
 ·obtain ⟨its,r',pl,hz⟩:=I.list hq
  have hlen:=r'.length
  refine call_tuple_list pl.isList (λh' kp=>?_) (by simp only [An]<;>omega)
  have I1:Inv X pins σ H { s with heap:=h' }:=I.kept (t':=s.toks) kp
  have I2:Inv X pins σ (upd H h'.objs.size (.tup ys)) { s with heap:=h'.push { cls:=.type "tuple",data:=.seq its.toArray } }:=
   I1.laid (t':=s.toks) (λb o e=>Ad _ e) (Ai _) (show ObjOk X.prog X.w _ _ _ (.tup ys) from ⟨⟨hz,⟨_,Aj _ rfl,rfl⟩⟩,its,r',IsTup.new _ _⟩)
  exact ⟨.ref h'.objs.size,_,I2,rfl,q _ (I1.hok.fresh (Ai _))⟩
 ·obtain ⟨its,r',pl,hz⟩:=I.tuple hq
  exact call_tuple_same pl ⟨.ref p,H,I,rfl,q⟩
noncomputable def tyV (K:PySem.W.Frag)(T:String)(x:V)(H:Hp):Prop:=match x with
 | .str _=>T="str"
 | .int _=>T="int"
 | .ref p=>(T="list"∧∃ xs,SqL K H p xs)∨(T="tuple"∧∃ o,K.lookup p=some o∧o.cls=.type "tuple"∧o.dict=none) ∨
   (T="dict"∧((∃ kvs,H p=some (.dK kvs))∨∃ kvs,H p=some (.dT kvs)))∨(T="set"∧∃ S n,H p=some (.set S n))
 | _=>False
theorem Ya {pins:List (Addr×Obj)}{σ:St}{H:Hp}{s:Shared}{T:String}{x:V}{v:Value}(I:Inv X pins σ H s)(r:RelV x v)(ty:tyV X.K T x H) :
  s.TypeIs v T∧∀ a,v=.ref a->∃ ob,s.heap.get? a=some ob∧ob.dict=none:=by
 cases x with
 | str z =>
  obtain ⟨t,rfl⟩:=r
  cases (show T="str" from ty)
  exact ⟨typeIs_str s z t,λ_ e=>nomatch e⟩
 | int i =>
  obtain ⟨t,rfl⟩:=r
  cases (show T="int" from ty)
  exact ⟨typeIs_int s i t,λ_ e=>nomatch e⟩
 | ref p =>
  cases r
  rcases ty with ⟨rfl,xs,hq⟩|⟨rfl,o,hk,hc,hd⟩|⟨rfl,hk⟩|⟨rfl,S,n,hk⟩
  ·obtain ⟨its,_,pl,_⟩:=I.list hq
   refine ⟨pl.isList.typeIs,λa e=>?_⟩
   cases e
   obtain ⟨o,n,e,c,hd,_⟩:=pl
   exact ⟨o,e,hd⟩
  ·refine ⟨⟨o,I.kIn p o hk,hc⟩,λa e=>?_⟩
   cases e
   exact ⟨o,I.kIn _ o hk,hd⟩
  ·have z:∃ o,s.heap.get? p=some o∧o.ExactDict:=by
    rcases hk with ⟨kvs,hk⟩|⟨kvs,hk⟩
    ·obtain ⟨_,_,_,_,o,_,_,e,ex,_⟩:=I.hok p _ hk
     exact ⟨o,e,ex⟩
    ·obtain ⟨_,_,_,_,o,_,_,e,ex,_⟩:=I.hok p _ hk
     exact ⟨o,e,ex⟩
   obtain ⟨o,e,ex⟩:=z
   refine ⟨⟨o,e,ex.1⟩,λa e2=>?_⟩
   cases e2
   exact ⟨o,e,ex.2.1⟩
  ·obtain ⟨o,_,_,_,e,ex,_⟩:=I.hok p _ hk
   refine ⟨⟨o,e,ex.1⟩,λa e2=>?_⟩
   cases e2
   exact ⟨o,e,ex.2.1⟩
 | _=>exact False.elim ty
noncomputable def tBM (K:PySem.W.Frag)(T:String)(r:V->List V->Hp->VK->Prop)(to:TE)(t:TA):TE:=fun σ H Q=>to σ H λx H1=>tyV K T x H1∧t σ H1 λxs H2=>r x xs H2 Q
variable {o e:Expr} {es:List Expr} {to:TE} {t:TA} {name:Str} {apos cpos:Pos} {T id:String} {r:V->List V->Hp->VK->Prop}
theorem VT (pa:PlainAttrs T)(slot:Slot T name id)(hty:typeOf (.builtin id)=pure (.type "method_descriptor"))(hm:MtR X id r)(ho:PE X o to)(ha:PA X (e::es) t)
  (hbase:attributeBase o name X.env (eval o X.env)=eval o X.env:=by rfl)
  (hfew:((backTo cpos (starEach (e::es) X.env)).all (λx=>!x.1)&&(backToKw cpos (keywordEach [] X.env)).all (λx=>x.1.isSome)
   && decide ((e::es).length+([]:List Keyword).length+(if ([]:List Keyword).isEmpty then 0 else 1)<30))=true:=by rfl)
  (hline:(apos.endLine==cpos.line)=true:=by rfl) (hs:starEach (e::es) X.env=(false,eval e X.env)::starEach es X.env:=by rfl) (hplain:(backTo cpos (starEach es X.env)).any (·.1)=false:=by rfl) :
  PE X (.Call (.Attribute o name apos) (e::es) [] cpos) (tBM X.K T r to t):=by
 intro pins s σ H Q I h
 refine wpAny_Call_method_late hbase hfew hline rfl (thn (ho pins s σ H _ I h) λv s1 ⟨x,H1,I1,r1,ty,q1⟩=>?_)
 obtain ⟨h1,h2⟩:=Ya I1 r1 ty
 refine ⟨T,id,pa,slot,hty,h1,h2,?_⟩
 have hA:=ha cpos pins s1 σ H1 _ I1 q1
 rw [hs] at hA ⊢
 refine Calls.callWith_builtin (by show (false||(backTo cpos (starEach es X.env)).any (·.1))=false;rw [hplain]<;>rfl) (Calls.evalArgs_plain ?_)
 exact thn hA λus s2 ⟨vs,H2,I2,r2,q2⟩=>hm pins s2 σ H2 x vs v us Q I2 r1 r2 q2
end
noncomputable def MtM (X:Cx)(id:String)(r:V->List V->Hp->VK->Prop):Prop:=
 ∀ (pins:List (Addr×Obj)) (s:Shared) (σ:St) (H:Hp) (x:V) (xs:List V) (v:Value) (us:List Value) (Q:VK),Inv X pins σ H s->RelV x v->Vals xs us->r x xs H Q ->
  wpAny (model X.prog X.w) X.A (call (.builtin id) (v::us)) (EP X pins σ Q) X.xe s
theorem Vals.one:∀ {x:V} {us:List Value},Vals [x] us->∃ u,us=[u]∧RelV x u
 | _,_,.cons r .nil=>⟨_,rfl,r⟩
theorem Vals.reverse {xs:List V}{us:List Value}(h:Vals xs us):Vals xs.reverse us.reverse:=by
 induction h with
 | nil=>exact .nil
 | cons r t ih=>rw [List.reverse_cons,List.reverse_cons];exact Vals.append ih (.cons r .nil)
section
variable {X:Cx} {pins:List (Addr×Obj)} {σ:St} {H:Hp} {s:Shared} {l b:Addr} {xs ys zs:List V}
theorem Inv.lset {its its':List Value}{n:Nat}{f:Array Value->Array Value}{t':Nat}(I:Inv X pins σ H s)(hH:H l=some (.lst xs))
  (e:s.heap.get? l=some { cls:=.type "list",data:=.seq its.toArray n }) (hf:f its.toArray=its'.toArray) (hv:Vals ys its') (hz:ys.length≤sizeLine) :
  Inv X pins σ (upd H l (.lst ys)) { s with heap:=s.heap.update l (Obj.mapSeq f),toks:=t' }:=by
 have q:=PySem.IsL.update e f
 rw [hf] at q
 refine I.write (x:=l) (e:=l) (by rw [hH];exact trivial) (.inl rfl) (λb' u hb hu=>(By s.heap (Obj.mapSeq f) (Ne.symm hb)).trans hu) ⟨_,q⟩ ?_
 exact ⟨hz,its',_,hv,q⟩
theorem Inv.lstM (I:Inv X pins σ H s)(hH:H l=some (.lst xs)):xs.length≤sizeLine∧∃ (its:List Value) (n:Nat),Vals xs its∧xs.length=its.length∧s.heap.get? l=some { cls:=.type "list",data:=.seq its.toArray n }:=by
 obtain ⟨z,its,n,r,e⟩:=I.hok l _ hH
 exact ⟨z,its,n,r,r.length,e⟩
theorem TJ {n:Nat}(h:n≤sizeLine):Builtin.List.listTooLong n=false:=by
 unfold Builtin.List.listTooLong
 exact A3 (by omega)
end
section
variable {X:Cx}
noncomputable def T5:V->List V->Hp->VK->Prop:=λx vs H Q=>∃ l xs y,x=.ref l∧vs=[y]∧H l=some (.lst xs)∧xs.length<sizeLine∧Q .non (upd H l (.lst (xs++[y])))
theorem P5:MtM X "list.append" T5:=by
 intro pins s σ H x vs v us Q I rx rv h
 obtain ⟨l,xs,y,rfl,rfl,hH,hz,q⟩:=h
 cases rx
 obtain ⟨u,rfl,ru⟩:=rv.one
 obtain ⟨z,its,n,r,hl,e⟩:=I.lstM hH
 refine call_meets F.slot_list_append ⟨_,e,rfl⟩ F.entry_list_append (F.args_list_append_2 _ _) (PySem.list_append l its.toArray n u (by rw [An];omega)) ⟨e,?_⟩
 refine ⟨.non,_,I.lset (its':=its++[u]) hH e (by simp) (r.append (.cons ru .nil)) ?_,rfl,q⟩
 rw [Ar,List.length_singleton]
 omega
end
end L2
namespace Att
open PySem PySem.W PySem.Calls PyProof.Rows
theorem JG {P:Params}{h:Heap}:∀ (ns:List Int) (vs:List Value),WellAll P h vs (ns.map WData.int)->IntsAre vs ns:=by
 intro ns
 induction ns with
 | nil =>
  intro vs w
  rw [List.map_nil] at w
  cases w
  exact .nil
 | cons n ns ih =>
  intro vs w
  rw [Bf] at w
  cases w with
  | cons a b =>
   cases a
   exact .cons _ _ (ih _ b)
theorem Qx {l:OpenLaw}{n:Nat}(hn:l.most=some n){P:Params}{h:Heap}{args:List WData}{vals:List Value}
  (hpre:l.row.toRowW.claim.pre args=true) (hwl:WellAll P h vals args) :
  ∃ a vs ns,vals=[Value.ref a]∧args=[WData.list (ns.map WData.int)]∧h.get? a=some { cls:=.type "list",data:=.seq vs.toArray }∧IntsAre vs ns∧ns.length≤n:=by
 have hsh:WShape.hasAll [] args [.list .int]=true:=(pre_splitW hpre).1
 have hc:l.pre.holds [] { args:=args }=true:=(pre_splitW hpre).2
 obtain ⟨d,r,rfl,h1,h2⟩:=hasAllW_cons hsh
 obtain rfl:=hasAllW_nil h2
 obtain ⟨xs,rfl,h3⟩:=hasW_list h1
 obtain ⟨ns,rfl⟩:=items_int h3
 have hlen:ns.length≤n:=by
  unfold OpenLaw.pre at hc
  have h4:(WTm.not (.lt (.lit (.int (n:Int))) (.len (.arg 0)))).holds [] { args:=[.list (ns.map .int)] }=true:=by
   have h4:=(holds_andW hc).1
   rw [hn] at h4
   exact h4
  have h5:=condW_of h4 (w_not (w_lt w_lit (w_len_list (w_arg rfl))))
  rw [Ag] at h5
  refine Nat.le_of_not_lt λq=>?_
  have q':(n:Int)<((ns.length:Nat):Int):=by omega
  first
   | (rw [Bv q'] at h5;exact absurd h5 (by decide))
   | (simp at h5;omega)
 cases hwl with
 | cons w1 w2 =>
  cases w2
  cases w1 with
  | list ho hall=>exact ⟨_,_,ns,rfl,rfl,ho,JG ns _ hall,hlen⟩
theorem QG (l:OpenLaw)(args:List WData):l.row.toRowW.claim.post args (.bool true) args=true:=
 postW_of (r:=l.row.toRowW) (X:=(true==true))
  (show WShape.has [] (.bool true) .bool=true by first|rfl|decide|simp [WShape.has,WShape.arms,WShape.armsAll])
  (show (WTm.eq .res (.lit (.bool true))).value [] { args:=args,res:=some (.bool true),after:=args }=some (.bool (true==true)) from w_eq_bool (w_res rfl) w_lit) rfl
theorem MW {l:OpenLaw}{n:Nat}{q:Program}{loose:List Str}{XP:(Str->Option Value)->Heap->Prop}{YP:World->Heap->Prop}{d:DefRec}
  (hn:l.most=some n) (hdf:d.params.defaults=[])
  (call:∀ (w:World) (s₀ s₁:Shared) (mg mb:Str->Option Value) (fa:Addr) (o:Obj) (pm cd doc:Value) (a:Addr) (vs:List Value) (ns:List Int),
   Ground q loose [] XP w s₀ mg mb s₁.heap->YP w s₁.heap ->
   s₁.heap.get? fa=some o->o.data=.func (docDef d.name d.params d.body d.scope pm cd doc)->s₁.heap.CodeRec cd d.name->mg d.name=some (.ref fa) ->
   s₁.heap.get? a=some { cls:=.type "list",data:=.seq vs.toArray }->IntsAre vs ns->ns.length≤n->s₁.gens=#[] ->
   codeAny (model l.prog w) callerA (.call (.ref fa) ⟨[.ref a],[]⟩) (λr s'=>r=.ok (.ret (.bool true))∧OldK s₁.heap s'.heap∧s'.os=s₁.os∧AllBare s'.gens) s₁) :
  WalkO q loose XP YP l.row.toRowW d [] (λf vs=>PySem.call f vs):=by
 intro w s₀ s₁ mg mb G Y fa o pm cd doc dV kV ho hd hcd hD hmg hg args vals as hpre hlay hrd hwl hlo
 obtain rfl:dV=.none:=Dflts.none hD hdf
 obtain rfl:kV=.none:=Dflts.noKw hD
 obtain ⟨a,vs,ns,rfl,rfl,hobj,hints,hlen⟩:=Qx hn hpre hwl
 refine enter_call (codeAny_mono (call w s₀ s₁ mg mb fa o pm cd doc a vs ns G Y ho (fd_plain hd) hcd hmg hobj hints hlen hg) λr s' hq=>?_)
 obtain ⟨rfl,h2,h3,h4⟩:=hq
 exact ⟨.inl ⟨.bool true,.bool true,[],rfl,λ_=>rfl,.bool true,QG l _,λ_=>⟨List.Pairwise.nil,λ_ hm=>(nomatch hm)⟩⟩,h2,h3,h4⟩
end Att
namespace L2
open PySem PySem.Spec PyProof.Rows
theorem Ln:∀ {vs:List Value} {ns:List Int},IntsAre vs ns->Vals (ns.map V.int) vs
 | _,_,.nil=>.nil
 | _,_,.cons n t h=>.cons ⟨t,rfl⟩ (Ln h)
noncomputable def Xl (H:Hp):Prop:=∀ b,H b=none∨∃ o xs,H b=some (.frz o (.lst xs))
theorem Td {P:Program}{w:World}{K:PySem.W.Frag}{mg mb:Str->Option Value}{CX:CXT}{k:Nat}{fa a:Addr}{fd:FuncData}{x:Str}{sp:Sp}{s₁:Shared}{vs:List Value}{ns:List Int}
  (KX:K.In s₁.heap) (hns:s₁.heap.Ns mainGlobals mg) (hb:s₁.heap.Ns builtinsNs mb) (hbb:∀ x:Str,x≠"__name__"->mb x=bootBuiltins x) (hlim:s₁.heap.NoLimit) (hg:s₁.gens=#[])
  (ha:s₁.heap.get? a=some { cls:=.type "list",data:=.seq vs.toArray }) (hi:IntsAre vs ns) (hl:ns.length≤sizeLine) (hr:Room k callerA)
  (F:∀ base:Heap,K.In base->base.Ns mainGlobals mg->Ee P w K mg base CX k fa fd [x] sp) (hbind:∀ (s:Shared) (u:Value),BindsTo s fd ⟨[u],[]⟩ [(x,u)])
  (hsp:∀ H:Hp,Xl H->SqL K H a (ns.map V.int)->sp [.ref a] H (λv _=>v=.bl true) λ_ _ _=>False)
  (hCX:∀ H e s',CX [] H s₁ (λ_ _ _=>False) e s'->False) :
  codeAny (model P w) callerA (.call (.ref fa) ⟨[.ref a],[]⟩) (λr s'=>r=.ok (.ret (.bool true))∧OldK s₁.heap s'.heap∧s'.os=s₁.os∧AllBare s'.gens) s₁:=by
 have rv:=Ln hi
 have lenV:=hi.length
 have core:∀ H:Hp,Xl H->SqL K H a (ns.map V.int)->HOk P w H s₁.heap->(∀ b,H b≠none->b=a)->(H a≠none->K.lookup a=none) ->
   codeAny (model P w) callerA (.call (.ref fa) ⟨[.ref a],[]⟩) (λr s'=>r=.ok (.ret (.bool true))∧OldK s₁.heap s'.heap∧s'.os=s₁.os∧AllBare s'.gens) s₁:=by
  intro H hO hS hok hA hK
  have base_of:∀ {b:Addr} {o:Obj},s₁.heap.get? b=some o->H b=none->(Mq s₁.heap H).get? b=some o:=λe n=>S1 e n
  have noA:∀ {b:Addr} {o:Obj} {es:Array DictEntry} {ep:Nat},s₁.heap.get? b=some o->o.data=.dict es ep->H b=none:=λ{b o es ep} e d=>by
   cases q:H b with
   | none=>rfl
   | some u =>
    have e':b=a:=hA b (by rw [q];simp)
    subst e'
    rw [ha] at e;cases e
    have d':Data.seq vs.toArray _=Data.dict es ep:=d
    cases d'
  have nsK:∀ {b:Addr} {m:Str->Option Value},s₁.heap.Ns b m->(Mq s₁.heap H).Ns b m:=λ{b m} ⟨o,es,ep,e,d,r⟩=>⟨o,es,ep,base_of e (noA e d),d,r⟩
  have hKb:K.In (Mq s₁.heap H):=λb o e=>base_of (KX b o e) (by
   cases q:H b with
   | none=>rfl
   | some u =>
    have e':b=a:=hA b (by rw [q];simp)
    subst e'
    rw [hK (by rw [q];simp)] at e;cases e)
  have hM:Mod K mg (Mq s₁.heap H):=⟨hKb,nsK hns,⟨mb,nsK hb,hbb⟩,let ⟨mc,h1,h2⟩:=hlim;⟨mc,nsK h1,h2⟩⟩
  have e0:T8 P w K mg (Mq s₁.heap H) callerA [] s₁ H:=⟨rfl,hM,λb o e=>UU e,Nat.le_of_eq (QH _ _),trivial,λb hb=>absurd (show b∈([]:List Addr) from hb) (by simp),hok,.of_eq hg⟩
  refine codeAny_mono ((F _ hKb (nsK hns)).run callerA [] s₁ H ⟨[.ref a],[]⟩ [.ref a] [.ref a] _ _ hr e0 (hbind s₁ (.ref a)) (.cons rfl .nil) (hsp H hO hS)) λr s' h=>?_
  cases r with
  | error e=>exact (hCX H e s' h).elim
  | ok fl =>
   cases fl with
   | next=>exact False.elim h
   | brk=>exact False.elim h
   | cont=>exact False.elim h
   | ret u =>
    obtain ⟨v,H',os,bare,un,hok',r',q⟩:=h
    have q':v=.bl true:=q
    subst q'
    obtain rfl:u=Value.bool true:=r'
    refine ⟨rfl,OldK.of_keep λb o e=>?_,os,bare⟩
    cases q:H b with
    | none=>exact un.keep b o e q (by intro z;exact absurd (show b∈([]:List Addr) from z) (by simp)) (by simp)
    | some u =>
     rcases hO b with z|⟨ob,xs,z⟩
     ·rw [q] at z;cases z
     ·have z2:=un.frzs b ob _ z
      obtain ⟨e1,_⟩:=hok b _ z
      obtain ⟨e2,_⟩:=hok' b _ z2
      rw [e] at e1;cases e1
      exact e2
 cases hk:K.lookup a with
 | some o =>
  have e:=KX a o hk
  rw [ha] at e
  cases e
  refine core (λ_=>none) (λ_=>.inl rfl) (.inr ⟨_,vs.toArray,_,hk,rfl,rfl,rfl,by rw [An,lenV];exact hl,by simpa using rv⟩) (λb u z=>by have z':(none:Option HO)=some u:=z;cases z') (λb z=>absurd rfl z) λz=>absurd rfl z
 | none =>
  refine core (λb=>if b=a then some (.frz { cls:=.type "list",data:=.seq vs.toArray } (.lst (ns.map V.int))) else none) (λb=>?_) (.inl (.inr ⟨{ cls:=.type "list",data:=.seq vs.toArray },if_pos rfl⟩)) (λb u z=>?_) (λb z=>?_) λ_=>hk
  ·by_cases hb:b=a
   ·exact .inr ⟨_,_,if_pos hb⟩
   ·exact .inl (if_neg hb)
  ·by_cases hb:b=a
   ·have z':=(if_pos hb).symm.trans z
    cases z'
    subst hb
    exact ⟨ha,by rw [Ag];exact hl,vs,_,rv,ha⟩
   ·have z':=(if_neg hb).symm.trans z
    cases z'
  ·by_cases hb:b=a
   ·exact hb
   ·exact absurd (if_neg hb) z
theorem Vk {l:PySem.W.OpenLaw}{n k:Nat}{q:Program}{loose:List Str}{XP:(Str->Option Value)->Heap->Prop}{YP:World->Heap->Prop}{d:DefRec}{K:Params->PySem.W.Frag}{CX:World->CXT}{sp:World->Sp}{x:Str}
  (hn:l.most=some n) (hn2:n≤sizeLine) (hdf:d.params.defaults=[]) (hr:Room k callerA)
  (hY:∀ (w:World) (h:Heap),YP w h->(K w.params).In h)
  (F:∀ (w:World) (mg:Str->Option Value) (fa:Addr) (h:Heap),(K w.params).In h->h.Ns mainGlobals mg->mg d.name=some (.ref fa) ->
   ∃ fd:FuncData,(∀ (s:Shared) (u:Value),BindsTo s fd ⟨[u],[]⟩ [(x,u)]) ∧
    ∀ base:Heap,(K w.params).In base->base.Ns mainGlobals mg->Ee l.prog w (K w.params) mg base (CX w) k fa fd [x] (sp w))
  (hsp:∀ (w:World) (H:Hp) (a:Addr) (ns:List Int),ns.length≤n->Xl H->SqL (K w.params) H a (ns.map V.int)->sp w [.ref a] H (λv _=>v=.bl true) λ_ _ _=>False)
  (hCX:∀ (w:World) (H:Hp) (s:Shared) (e:Value) (s':Shared),CX w [] H s (λ_ _ _=>False) e s'->False) :
  PySem.W.WalkO q loose XP YP l.row.toRowW d [] (λf vs=>PySem.call f vs):=by
 refine Att.MW hn hdf λw s₀ s₁ mg mb fa o pm cd doc a vs ns G Y ho hd hcd hmg hobj hints hlen hg=>?_
 have KX:=hY w _ Y
 obtain ⟨fd,hb,hF⟩:=F w mg fa _ KX G.T.g hmg
 exact Td KX G.T.g G.T.b G.T.builtins G.T.nolimit hg hobj hints (AQ hlen hn2) hr hF hb (λH hO hS=>hsp w H a ns hlen hO hS) λH e s'=>hCX w H s₁ e s'
noncomputable def GL (s:Stmt):Arguments:=match s with
 | .FunctionDef _ a _ _ _ _ _ _ _ _=>a
 | _=>{ posonlyargs:=[],args:=[],vararg:=none,kwonlyargs:=[],kw_defaults:=[],kwarg:=none,defaults:=[] }
noncomputable def EF (s:Stmt):List Stmt:=match s with
 | .FunctionDef _ _ b _ _ _ _ _ _ _=>b
 | _=>[]
noncomputable def Cv (s:Stmt):Scope:=match s with
 | .FunctionDef _ _ _ _ _ _ sc _ _ _=>sc
 | _=>{ kind:=.function,names:=[],isGenerator:=false,isCoroutine:=false }
noncomputable abbrev CX0:CXT:=λ_ _ _ _ _ _=>False
noncomputable abbrev E0:XK:=λ_ _ _=>False
theorem Yg {X:Cx}:Passes CX0 X E0:=λ_ _ _ _ _ _ _ h=>h.elim
structure Fun (K:PySem.W.Frag) (x qual:Str) (st:Stmt) (f:Addr) (fd:FuncData):Prop where
 ex:∃ (oc:Value) (od:Option Addr) (kV doc pm:Value) (an:Option Addr) (cdv ct:Value) (osl:Array (Option Value)),
  fd=PySem.W.fnOf x qual (GL st) (EF st) (Cv st) .none kV doc pm an cdv ct∧K.lookup f=some ⟨oc,od,.func fd,osl⟩∧PySem.W.codeIn K cdv qual=true
 kp:PySem.W.keepIn K (.ref f)=true
section
variable {P:Program} {w:World} {K:PySem.W.Frag} {mg:Str->Option Value} {base:Heap}
theorem Fun.ok {x qual:Str}{st:Stmt}{f:Addr}{fd:FuncData}{N ps:List Str}{k:Nat}{sp:Sp}(F:Fun K x qual st f fd)(S:CU N ps (Cv st))(len:∀ vs H Q E,sp vs H Q E->vs.length=ps.length)
  (hbody:∀ (cdv:Value) (A:Around) (outer:List Env) (s:Shared) (H:Hp) (vs:List V) (Q:VK) (E:XK),Room k (A.deeper (envOfC qual (Cv st) s.heap.objs.size f cdv))->sp vs H Q E ->
   ∃ t,PSs (KW CX0 P w K mg base N qual (Cv st) f cdv A outer s H E).nox (EF st) t∧t { nx:=λ_ H'=>Q .non H',rt:=Q } (start N vs) H):Ee P w K mg base CX0 (k+1) f fd ps sp:=by
 obtain ⟨oc,od,kV,doc,pm,an,cdv,ct,osl,rfl,lk,hcd⟩:=F.ex
 refine Zx lk hcd S len λA outer s H vs Q E hr hsp=>?_
 obtain ⟨t,h,q⟩:=hbody cdv A outer s H vs Q E hr hsp
 exact ⟨t,h.nox,q⟩
theorem Fun.binds {x qual:Str}{st:Stmt}{f:Addr}{fd:FuncData}{ps:List Str}(F:Fun K x qual st f fd)
  (h:∀ (kV doc pm:Value) (an:Option Addr) (cdv ct:Value) (us:List Value),us.length=ps.length->bindArgs (PySem.W.fnOf x qual (GL st) (EF st) (Cv st) .none kV doc pm an cdv ct) ⟨us,[]⟩=pure (ps.zip us)):Binds K fd ps []:=by
 obtain ⟨oc,od,kV,doc,pm,an,cdv,ct,osl,rfl,lk,hcd⟩:=F.ex
 exact .all (h kV doc pm an cdv ct)
theorem Rv {x qual:Str}{st:Stmt}{f:Addr}{oc:Value}{od an:Option Addr}{osl:Array (Option Value)}{kV doc pm cdv ct:Value}(l:K.lookup f=some ⟨oc,od,.func (PySem.W.fnOf x qual (GL st) (EF st) (Cv st) .none kV doc pm an cdv ct),osl⟩)
  (c:PySem.W.codeIn K cdv qual=true) (k:PySem.W.keepIn K (.ref f)=true):Fun K x qual st f (PySem.W.fnOf x qual (GL st) (EF st) (Cv st) .none kV doc pm an cdv ct):=⟨⟨oc,od,kV,doc,pm,an,cdv,ct,osl,rfl,l,c⟩,k⟩
end
noncomputable abbrev Go (prog:Program) (w:World) (A:Around) {α:Type} (t:Sem α) (Q:α->Shared->Prop) (s:Shared):Prop:=wpAny (model prog w) A t Q (λ_ _=>False) s
noncomputable def tests (env:Env)(ifs:List Expr):Sem Bool:=forIn ifs true λc r =>
 if r=true then (isTrue c env (eval c env) >>= λok=>pure (ForInStep.yield ok)) else pure (ForInStep.yield r)
noncomputable def Vq (prog:Program)(w:World)(A:Around)(target elt:Expr)(ifs:List Expr)(it acc:Value)(env:Env)(fin:Shared->Prop)(v:Value)(s:Shared):Prop:=
 Go prog w A (letOwnedTupleGo target it v) (λ_ s1=>Go prog w A (assign target env v) (λ_ s2=>Go prog w A (tests env ifs) (λok s3 =>
  if ok=true then Go prog w A (eval elt env) (λx s4=>Go prog w A (call (.builtin "list.append") [acc,x]) (λ_ s5=>fin s5) s4) s3 else fin s3) s2) s1) s
theorem Jp {prog:Program}{w:World}{A:Around}{R:Result->Shared->Prop}{s:Shared}{elt target iter:Expr}{ifs:List Expr}{scope:Scope}{pos:Pos}{it acc:Value}{env:Env}(J:Nat->Shared->Prop)
  (turn:∀ (n:Nat) (z:Shared),J n z->Go prog w A (pyNext it) (λr z1=>match r with
   | .none=>R (.ok .next) z1
   | .some v=>Vq prog w A target elt ifs it acc env (λz2=>∃ m,m<n∧J m z2) v z1) z) (n:Nat) (h:J n s) :
  codeAny (model prog w) A (Code.compLoop (Expr.ListComp elt [⟨target,iter,ifs,0⟩] scope pos) 0 it acc env) R s:=by
 have step:∀ (n:Nat) (z:Shared),J n z->Go prog w A (compTurn (Expr.ListComp elt [⟨target,iter,ifs,0⟩] scope pos) 0 it acc env)
   (λfin z'=>match fin with
    | .done f=>R (.ok f) z'
    | .again c'=>c'=Code.compLoop (Expr.ListComp elt [⟨target,iter,ifs,0⟩] scope pos) 0 it acc env∧∃ m,m<n∧J m z') z:=by
  intro n z hz
  rw [compTurn_list]
  refine Aa (wpAny_standAt (Aa (thn (turn n z hz) λr z1 h1=>?_)))
  cases r with
  | none=>exact Ac h1
  | some v =>
   refine Aa (thn h1 λ_ z2 h2=>Aa (thn h2 λ_ z3 h3=>Aa (thn h3 λok z4 h4=>?_)))
   cases ok with
   | false=>exact Ac (And.intro rfl h4)
   | true=>exact Aa (Aa (thn h4 λx z5 h5=>Aa (thn h5 λ_ z6 h6=>Ac (Ac (And.intro rfl h6)))))
 refine codeAny_loop rfl J (λn z hz=>?_) n h
 exact wpAny_noted (wpAny_mono (step n z hz) (λ_ _ q=>q) λ_ _ q=>q.elim)
theorem Kr {scope:Scope}{env:Env}(h:∀ y∈scope.names,y.2=.free->∃ c,env.cells.lookup y.1=some c) :
  ∃ cl,closureFor scope env=pure cl∧(∀ x c,cl.lookup x=some c->env.cells.lookup x=some c)∧∀ y∈scope.names,y.2=.free->∃ c,cl.lookup y.1=some c:=by
 have gen:∀ (l:List (Str×NameKind)) (acc:List (Str×Addr)),(∀ y∈l,y.2=.free->∃ c,env.cells.lookup y.1=some c)->(∀ x c,acc.lookup x=some c->env.cells.lookup x=some c) ->
   ∃ cl,(forIn l acc λ(x:Str×NameKind) (r:List (Str×Addr))=>if (x.2==NameKind.free)=true then do let c←cellOf env x.1;pure (ForInStep.yield ((x.1,c)::r)) else pure (ForInStep.yield r))=(pure cl:Sem (List (Str×Addr))) ∧
    (∀ x c,cl.lookup x=some c->env.cells.lookup x=some c)∧(∀ y∈l,y.2=.free->∃ c,cl.lookup y.1=some c)∧∀ x c,acc.lookup x=some c->∃ c',cl.lookup x=some c':=by
  intro l
  induction l with
  | nil=>intro acc _ ha;exact ⟨acc,rfl,ha,λ_ z=>(nomatch z),λx c e=>⟨c,e⟩⟩
  | cons y r ih =>
   intro acc hl ha
   obtain ⟨n,k⟩:=y
   by_cases hk:k=.free
   ·subst hk
    obtain ⟨c,hc⟩:=hl (n,.free) List.mem_cons_self rfl
    have ha':∀ x c',((n,c)::acc).lookup x=some c'->env.cells.lookup x=some c':=λx c' e=>by
     by_cases hx:x=n
     ·subst hx
      have hb:(x==x)=true:=beq_iff_eq.mpr rfl
      simp only [List.lookup,hb] at e
      cases e;exact hc
     ·have hb:(x==n)=false:=beq_eq_false_iff_ne.mpr hx
      simp only [List.lookup,hb] at e
      exact ha x c' e
    obtain ⟨cl,h1,h2,h3,h4⟩:=ih ((n,c)::acc) (λy hy=>hl y (BZ _ hy)) ha'
    refine ⟨cl,?_,h2,λy hy hf=>?_,λx c' e=>?_⟩
    ·rw [Cd]
     have e:cellOf env n=pure c:=by unfold cellOf;rw [hc]
     simp only [beq_self_eq_true,if_true,e,pure_bind]
     exact h1
    ·refine (Am.mp hy).elim (λz=>?_) λhy=>?_
     ·subst z
      have hb:(n==n)=true:=beq_iff_eq.mpr rfl
      exact h4 n c (by simp only [List.lookup,hb])
     ·exact h3 y hy hf
    ·by_cases hx:x=n
     ·subst hx
      have hb:(x==x)=true:=beq_iff_eq.mpr rfl
      exact h4 x c (by simp only [List.lookup,hb])
     ·have hb:(x==n)=false:=beq_eq_false_iff_ne.mpr hx
      exact h4 x c' (by simp only [List.lookup,hb];exact e)
   ·obtain ⟨cl,h1,h2,h3,h4⟩:=ih acc (λy hy=>hl y (BZ _ hy)) ha
    refine ⟨cl,?_,h2,λy hy hf=>?_,h4⟩
    ·rw [Cd]
     have e:(k==NameKind.free)=false:=by simpa using hk
     simp only [e,Av,A0,pure_bind]
     exact h1
    ·refine (Am.mp hy).elim (λz=>?_) λhy=>?_
     ·subst z
      exact absurd hf hk
     ·exact h3 y hy hf
 obtain ⟨cl,h1,h2,h3,_⟩:=gen scope.names [] h (λx c e=>by simp at e)
 refine ⟨cl,?_,h2,h3⟩
 unfold closureFor
 rw [← h1]
 simp only [bind_pure]
noncomputable def DU (X:Cx)(scope:Scope)(N:List Str)(cl:List (Str×Addr))(C:Addr)(s₁:Shared)(H₁:Hp)(fp:List Addr):Cx where
 prog:=X.prog
 w:=X.w
 K:=X.K
 mg:=X.mg
 base:=X.base
 A:=X.A
 N:=N
 s₀:=s₁
 H₀:=H₁
 env:=compEnvC scope cl C X.env
 outer:=X.stack
 stack:=X.stack
 ex:=fp
 fn:=λ_=>false
 calm:=X.calm
 pn:=[]
 xe:=λ_ _=>False
noncomputable def PF (X:Cx)(ifs:List Expr)(t:TT):Prop:=
 ∀ (pins:List (Addr×Obj)) (s:Shared) (σ:St) (H:Hp) (Q:Bool->Hp->Prop),Inv X pins σ H s->t σ H Q ->
  wpAny (model X.prog X.w) X.A (tests X.env ifs) (TP X pins σ Q) X.xe s
noncomputable def AaD:TT:=λ_ H Q=>Q true H
theorem WQ {X:Cx}:PF X [] AaD:=λ_ _ _ H _ I h=>wpAny_tests_nil ⟨H,I,h⟩
theorem XE {X:Cx}{c:Expr}{t:TT}(h:PT X c t):PF X [c] t:=λpins s σ H Q I q=>wpAny_tests_one (h pins s σ H Q I q)
noncomputable def FvOk (X:Cx)(sc:Scope):List (Nat×Str)->Prop
 | []=>True
 | p::r=>(X.N[p.1]? = some p.2∧(X.env.scope.names.lookup p.2=some .cell∨X.env.scope.names.lookup p.2=some .free)∧(sc.names.lookup p.2=some .cell∨sc.names.lookup p.2=some .free))∧FvOk X sc r
theorem FvOk.get {X:Cx}{sc:Scope}:∀ {l:List (Nat×Str)} {k:Nat} {p:Nat×Str},FvOk X sc l->l[k]? = some p ->
  X.N[p.1]? = some p.2∧(X.env.scope.names.lookup p.2=some .cell∨X.env.scope.names.lookup p.2=some .free)∧(sc.names.lookup p.2=some .cell∨sc.names.lookup p.2=some .free)
 | [],_,_,_,h=>(by simp at h)
 | _::_,0,_,hf,h=>by simp at h;subst h;exact hf.1
 | _::_,k+1,_,hf,h=>FvOk.get (k:=k) hf.2 (by simpa using h)
noncomputable def st0 (nc:Nat)(fv:List (Nat×Str))(σ:St):St:=List.replicate nc none++fv.map λp=>σ.getD p.1 none
noncomputable def Z3 (J:It)(st:St)(g:TG)(tt:TT)(te:TE)(Q:VK)(H1:Hp):Prop:=
 ∃ W:Nat->Nat->List V->St->Hp->Prop,(∃ m,W 0 m [] st H1)∧∀ i m ys σ' H',W i m ys σ' H'->ys.length≤sizeLine ∧
  ((J.stop i H'∧∀ p,H' p=none->Q (.ref p) (upd H' p (.lst ys))) ∨
   (J.go i H'∧∀ x H2,J.yld i H' x H2->g x σ' H2 fun σ3 H3=>tt σ3 H3 λb H4 =>
    if b=true then te σ3 H4 λv H5=>∃ m',m'<m∧W (i+1) m' (ys++[v]) σ3 H5 else ∃ m',m'<m∧W (i+1) m' ys σ3 H4))
noncomputable def tLC (wi:TI)(nc:Nat)(fv:List (Nat×Str))(g:TG)(tt:TT)(te:TE):TE:=fun σ H Q=>wi σ H λJ H1=>Z3 J (st0 nc fv σ) g tt te Q H1
theorem Jt {scope:Scope}{env:Env}{x:Str}(hcell:∀ y∈scope.names,y.2≠.cell)
  (h:(relabel scope env).names.lookup x=some .cell∨(relabel scope env).names.lookup x=some .free):(x,NameKind.free)∈scope.names:=by
 have key:∀ k,(relabel scope env).names.lookup x=some k->k=.cell∨k=.free->(x,NameKind.free)∈scope.names:=λk hk hkk=>by
  have hm:=Cf hk
  obtain ⟨⟨n,k'⟩,hy,e⟩:=Ap.mp hm
  dsimp only at e
  by_cases hc:(k'==NameKind.free&&env.scope.kind==.function&&env.kindOf n==some .cell)=true
  ·rw [if_pos hc] at e
   cases e
   have:k'=.free:=by
    rw [Ab,Ab] at hc
    exact beq_iff_eq.mp hc.1.1
   subst this
   exact hy
  ·rw [if_neg hc] at e
   cases e
   rcases hkk with e|e
   ·subst e;exact absurd rfl (hcell _ hy)
   ·subst e;exact hy
 rcases h with h|h
 ·exact key _ h (.inl rfl)
 ·exact key _ h (.inr rfl)
theorem Un.lay {fs ex:List Addr}{H H':Hp}{h h':Heap}{D:Addr}{o:HO}(u:Un fs ex H H' h h')(hD:h.objs.size≤D)(hn:H' D=none):Un fs ex H (upd H' D o) h h' where
 keep:=u.keep
 slot:=u.slot
 free:=λb ob q n hx=>by
  rw [Dg (Ay (AF (Ao q) hD))]
  exact u.free b ob q n hx
 there:=u.there
 tups:=λb xs q=>by have:=u.tups b xs q;rw [Dg (CW this hn)];exact this
 frzs:=λb ob xs q=>by have:=u.frzs b ob xs q;rw [Dg (CW this hn)];exact this
 tbls:=λb ps q=>by
  obtain ⟨m,e⟩:=u.tbls b ps q
  exact ⟨m,by rw [Dg (CW e hn)];exact e⟩
theorem HOk.lay {P:Program}{w:World}{H:Hp}{h:Heap}{D:Addr}{o:HO}(x:HOk P w H h)(hn:H D=none)(new:ObjOk P w (upd H D o) h D o):HOk P w (upd H D o) h:=λb u e=>by
 by_cases hb:b=D
 ·subst hb;rw [DR] at e;cases e;exact new
 ·rw [Dg hb] at e
  exact (x b u e).stay (λc v _ q=>q) (λc q=>by rw [Dg (CW q hn)];exact q) λc xs q=>by rw [Dg (CW q hn)];exact q
theorem Un.same {fs ex:List Addr}{H H':Hp}{h h1 h2:Heap}{C:Addr}(u:Un fs ex H H' h h1)(hC:h.objs.size≤C)(sb:Heap.SameBut C h1 h2):Un fs ex H H' h h2:=by
 have ne:∀ b o,h.get? b=some o->b≠C:=λb o e=>Ay (AF (Ao e) hC)
 refine ⟨λb o q n hb hx=>(sb.2 b (ne b o q)).trans (u.keep b o q n hb hx),λb o q n hb hx=>?_,u.free,λb o q hx=>?_,u.tups,u.frzs,u.tbls⟩
 ·obtain ⟨sl,e⟩:=u.slot b o q n hb hx
  exact ⟨sl,(sb.2 b (ne b o q)).trans e⟩
 ·obtain ⟨o',e⟩:=u.there b o q hx
  exact ⟨o',(sb.2 b (ne b o q)).trans e⟩
theorem HOk.same {P:Program}{w:World}{H:Hp}{h1 h2:Heap}{C:Addr}(x:HOk P w H h1)(hn:H C=none)(sb:Heap.SameBut C h1 h2):HOk P w H h2:=λb u e=>by
 refine (x b u e).stay (λc v hc q=>(sb.2 c ?_).trans q) (λ_ q=>q) λ_ _ q=>q
 rcases hc with rfl|hc
 ·exact CW e hn
 ·exact CW hc hn
section
variable {X:Cx} {tg iter elt:Expr} {ifs:List Expr} {scope:Scope} {pos:Pos} {wi:TI} {own:List Str} {fv:List (Nat×Str)} {g:TG} {tt:TT} {te:TE}
structure NT (X:Cx) (scope:Scope) (fv:List (Nat×Str)):Prop where
 calm:X.calm=true
 kind:scope.kind=.function
 cell:∀ y∈scope.names,y.2≠.cell
 names:∀ y∈scope.names,y.2=.local->scope.names.lookup y.1=some .local
 free:∀ y∈scope.names,y.2=.free->X.env.kindOf y.1=some .cell∨X.env.kindOf y.1=some .free
 fv:FvOk X (relabel scope X.env) fv
theorem Kw {pins:List (Addr×Obj)}{σ:St}{H:Hp}{s:Shared}{fp:List Addr}{cl:List (Str×Addr)}{h₁:Heap}{own:List Str}(I:Inv X pins σ H s)(L:NT X scope fv)(hf:∀ b∈fp,Iq X pins H b)(hfo:∀ b∈fp,∃ o,s.heap.get? b=some o)
  (hsub:∀ x c,cl.lookup x=some c->X.env.cells.lookup x=some c) (hhas:∀ y∈scope.names,y.2=.free->∃ c,cl.lookup y.1=some c)
  (hns:h₁.Ns (s.heap.objs.size+1) (λx=>([]:List (Str×Value)).reverse.lookup x)) (hold:∀ b o,s.heap.get? b=some o->h₁.get? b=some o) (hD:h₁.get? s.heap.objs.size=some { cls:=.type "list",data:=.seq #[] 0 }) {tk:Nat} :
  Inv (DU X scope (own++fv.map (·.2)) cl (s.heap.objs.size+1) s H fp) [(s.heap.objs.size,{ cls:=.type "list",data:=.seq #[] 0 })] (st0 own.length fv σ) H { s with heap:=h₁,toks:=tk }:=by
 have nst:∀ b,s.heap.objs.size≤b->b∉frs X.stack:=λb hb hm=>by
  rcases Am.mp (I.stkSub b hm) with e|e
  ·exact absurd I.lt (by rw [← e];exact Nat.not_lt.mpr hb)
  ·exact I.nofs hb e
 have fpst:∀ b∈fp,b∉frs X.stack:=λb hb hm=>by
  obtain ⟨_,f1,f2,_⟩:=hf b hb
  rcases Am.mp (I.stkSub b hm) with e|e
  ·exact f1 e
  ·exact f2 e
 have celllt:∀ x c,cl.lookup x=some c->c<s.heap.objs.size:=λx c e=>by
  obtain ⟨v,z⟩:=I.cell x c (hsub x c e)
  exact z.lt
 refine ⟨⟨I.ok.mod,L.kind,I.ok.glob,I.ok.blt,Nat.le_succ _,λx y c h1 h2=>I.ok.inj x y c (hsub _ _ h1) (hsub _ _ h2),λx hx=>hhas (x,.free) (Jt L.cell hx) rfl,λ_ _ z=>Bool.noConfusion z,I.ok.hd,I.ok.frames,.inl rfl,
   λb hb=>⟨?_,λx c e z=>?_⟩,I.bs,AQ I.ok.bsz I.sz,λb o e hb=>?_,fpst,I.stack,I.stkFree⟩,
  rfl,I.bare,Un.kept hold,⟨_,hns,λi x v e1 e2 e3=>?_⟩,λx c e=>?_,I.hok.fresh (Nat.le_succ _),λx c e=>I.freeC x c (hsub x c e),λp hp=>?_,I.hok.kept hold,?_⟩
 ·obtain ⟨o,e⟩:=hfo b hb
  exact Ay (A5 (Ao e))
 ·exact (hf b hb).2.2.2.2.1 x c (hsub x c e) z
 ·obtain ⟨_,_,_,f3,_⟩:=hf b hb
  rcases f3 with f3|f3
  ·exact I.ok.noex b o e f3
  ·exact absurd (AF (Ao e) (AQ I.ok.bsz f3)) (Be _)
 ·-- a name that is read
  have e1':(own++fv.map (·.2))[i]? = some x:=e1
  unfold st0 at e2
  by_cases hi:i<own.length
  ·rw [As (by simpa using hi),Cc] at e2
   split at e2<;>cases e2
  ·rw [AW (by simpa using hi),List.length_replicate,Al] at e2
   rw [AW (by simpa using hi),Al] at e1'
   cases hp:fv[i-own.length]? with
   | none=>rw [hp] at e1';cases e1'
   | some p =>
    rw [hp] at e1' e2
    have ex:p.2=x:=AB e1'
    have ev:σ.getD p.1 none=some v:=AB e2
    obtain ⟨q1,q2,q3⟩:=L.fv.get hp
    rw [ex] at q1 q2 q3
    have hσ:σ[p.1]? = some (some v):=by
     rw [AN] at ev
     cases q:σ[p.1]? with
     | none=>rw [q] at ev;cases ev
     | some w=>rw [q] at ev;exact congrArg some ev
    obtain ⟨m,_,hl⟩:=I.loc
    obtain ⟨u,r,l⟩:=hl p.1 x v q1 hσ (by rcases q2 with z|z;exact .inr (.inl z);exact .inr (.inr z))
    refine ⟨u,r,.inr ⟨q3,?_⟩⟩
    rcases l with ⟨k,_⟩|⟨_,c,ec,z⟩
    ·exfalso
     have k':X.env.scope.names.lookup x=some .local:=k
     rcases q2 with z|z<;>rw [k'] at z<;>cases z
    ·obtain ⟨c',ec'⟩:=hhas (x,.free) (Jt L.cell q3) rfl
     have:c'=c:=AB ((hsub x c' ec').symm.trans ec)
     subst this
     obtain ⟨o,ho,hd⟩:=z
     exact ⟨c',ec',o,hold _ _ ho,hd⟩
 ·obtain ⟨v,o,ho,hd⟩:=I.cell x c (hsub x c e)
  exact ⟨v,o,hold _ _ ho,hd⟩
 ·have e:p=(s.heap.objs.size,{ cls:=.type "list",data:=.seq #[] 0 }):=by simpa [DU] using hp
  subst e
  exact ⟨hD,I.hok.fresh (Ai _),Ay (A1 _),nst _ (Ai _),λv z=>by cases z⟩
 ·show (st0 own.length fv σ).length=(own++fv.map (·.2)).length
  unfold st0
  simp
theorem Yr (L:NT X scope fv)(hi:PI X tg iter wi)
  (hg:∀ cl C s₁ H₁ fp,PG (DU X scope (own++fv.map (·.2)) cl C s₁ H₁ fp) tg g)
  (ht:∀ cl C s₁ H₁ fp,PF (DU X scope (own++fv.map (·.2)) cl C s₁ H₁ fp) ifs tt)
  (he:∀ cl C s₁ H₁ fp,PE (DU X scope (own++fv.map (·.2)) cl C s₁ H₁ fp) elt te)
  (hs:∀ x,foldedSetIterable iter X.env x=pure x:=by intro _;rfl) :
  PE X (.ListComp elt [⟨tg,iter,ifs,0⟩] scope pos) (tLC wi own.length fv g tt te):=by
 intro pins s σ H Q I h
 rw [eval_ListComp]
 obtain ⟨cl,hclos,hsub,hhas⟩:=Kr (scope:=scope) (env:=X.env) λy hy hf=>I.ok.has y.1 (L.free y hy hf)
 refine wpAny_comprehension_free (use:=none) rfl hs hclos L.kind L.names (thn (hi pins s σ H _ I h) λv s1 h1=>thn h1 λitv s2 h2=>?_)
 obtain ⟨it,fp,tn,J,H2,e,I2,T,st2,f2,W,⟨m0,w0⟩,turn⟩:=h2
 subst e
 have hfo:∀ b∈fp,∃ o,s2.heap.get? b=some o:=λb hb=>let ⟨o,e,_⟩:=T.obj _ _ st2 b hb;⟨o,e⟩
 refine AU (wpAny_newFunctionEnv L.cell (by intro y hy;simp at hy) (λh₁ hns₁ hsb₁=>?_) L.kind)
 dsimp only at hns₁ hsb₁ ⊢
 have hCe:(s2.heap.push { cls:=.type "list",dict:=none,data:=.seq ([]:List Value).toArray }).objs.size=s2.heap.objs.size+1:=A9 _ _
 rw [hCe] at hns₁ hsb₁ ⊢
 have old:∀ b o,s2.heap.get? b=some o->h₁.get? b=some o:=λb o e=>hsb₁.extBut b o (Ay (A5 (Ao e))) (Ad _ (Ad _ e))
 have hD₁:h₁.get? s2.heap.objs.size=some { cls:=.type "list",data:=.seq #[] 0 }:=hsb₁.extBut _ _ (Ay (A1 _)) (Ad _ (Aj _ rfl))
 have I4:=Kw (own:=own) (tk:=s2.toks+([]:List (Str×Value)).length) I2 L f2 hfo hsub hhas hns₁ old hD₁
 generalize hXc:DU X scope (own++fv.map (·.2)) cl (s2.heap.objs.size+1) s2 H2 fp=Xc at I4
 have hg':=hg cl (s2.heap.objs.size+1) s2 H2 fp
 have ht':=ht cl (s2.heap.objs.size+1) s2 H2 fp
 have he':=he cl (s2.heap.objs.size+1) s2 H2 fp
 have st4:tn 0 h₁:=T.keep _ _ _ st2 λb _ o e=>old b o e
 have celllt:∀ x c,cl.lookup x=some c->c<s2.heap.objs.size:=λx c e=>by
  obtain ⟨v,z⟩:=I2.cell x c (hsub x c e)
  exact z.lt
 have nst:s2.heap.objs.size∉frs X.stack:=λhm=>by
  rcases Am.mp (I2.stkSub _ hm) with e|e
  ·exact absurd I2.lt (by rw [← e];exact Be _)
  ·exact I2.nofs (Ai _) e
 rw [hXc] at hg' ht' he'
 have loop:∀ s4:Shared,s4={ s2 with heap:=h₁,toks:=s2.toks+([]:List (Str×Value)).length } ->
   codeAny (model X.prog X.w) X.A (.compLoop (.ListComp elt [⟨tg,iter,ifs,0⟩] scope pos) 0 (.ref it) (.ref s2.heap.objs.size) (compEnvC scope cl (s2.heap.objs.size+1) X.env))
    (compPost (model X.prog X.w) X.A X.xe none (EP X pins σ Q) (.ref s2.heap.objs.size) (s2.heap.objs.size+1)) s4:=by
  rintro s4 rfl
  have fpok:∀ {pl:List (Addr×Obj)} {H':Hp},(∀ p∈pl,p.1=s2.heap.objs.size)->(∀ b∈fp,H' b=none)->∀ b∈fp,Iq Xc pl H' b:=λ{pl H'} hpl hn b hb=>by
   obtain ⟨o,eo⟩:=hfo b hb
   have blt:=Ao eo
   subst hXc
   refine ⟨hn b hb,Ay (A5 blt),λhm=>?_,.inl hb,λx c e=>(f2 b hb).2.2.2.2.1 x c (hsub x c e),λp hp=>?_⟩
   ·obtain ⟨_,f1,f3,_⟩:=f2 b hb
    rcases Am.mp (I2.stkSub b hm) with e|e
    ·exact f1 e
    ·exact f3 e
   ·have hp':p∈pl:=by simpa [DU] using hp
    rw [hpl p hp']
    exact Nat.ne_of_gt blt
  have xP:Xc.prog=X.prog:=by subst hXc;rfl
  have xw:Xc.w=X.w:=by subst hXc;rfl
  have xK:Xc.K=X.K:=by subst hXc;rfl
  have xA:Xc.A=X.A:=by subst hXc;rfl
  have xc:Xc.calm=true:=by subst hXc;exact L.calm
  have xx:Xc.xe=λ_ _=>False:=by subst hXc;rfl
  have xe:Xc.env=compEnvC scope cl (s2.heap.objs.size+1) X.env:=by subst hXc;rfl
  have xs:Xc.s₀=s2:=by subst hXc;rfl
  have xH:Xc.H₀=H2:=by subst hXc;rfl
  have xf:Xc.fs=frs X.stack:=by subst hXc;rfl
  have xex:Xc.ex=fp:=by subst hXc;rfl
  have xpn:Xc.pn=[]:=by subst hXc;rfl
  refine Jp (λn s'=>∃ i ys its k σ' H',Inv Xc [(s2.heap.objs.size,{ cls:=.type "list",data:=.seq its k })] σ' H' s'∧Vals ys its.toList∧tn i s'.heap∧(∀ b∈fp,H' b=none)∧W i n ys σ' H') ?_ m0
   ⟨0,[],#[],0,_,H2,I4,.nil,st4,λb hb=>(f2 b hb).1,w0⟩
  rintro n s5 ⟨i,ys,its,k,σ5,H5,I5,r5,st5,fr5,w5⟩
  obtain ⟨hlen,hst⟩:=turn i n ys σ5 H5 w5
  have hf5:=fpok (pl:=[(s2.heap.objs.size,{ cls:=.type "list",data:=.seq its k })]) (λp hp=>by simp at hp;rw [hp]) fr5
  rcases hst with ⟨stop,qn⟩|⟨go,step⟩
  ·-- the end
   have d:=T.done Xc xP xw xK xc i _ s5 σ5 H5 (λ_ _=>False) I5 hf5 st5 stop
   rw [xA] at d
   refine thn d λr s6 ⟨hr,I6⟩=>?_
   subst hr
   obtain ⟨m,hn,_⟩:=I6.loc
   rw [xe] at hn
   refine ⟨m,hn,λh' sb=>?_⟩
   obtain ⟨eD,nD,_⟩:=I6.pin (s2.heap.objs.size,_) (AD _ (Aw.mpr rfl))
   have nC:H5 (s2.heap.objs.size+1)=none:=by have:=I6.free;rw [xe] at this;exact this
   refine ⟨.ref s2.heap.objs.size,upd H5 s2.heap.objs.size (.lst ys),?_,rfl,qn _ nD⟩
   have U:Un (frs X.stack) fp H2 H5 s2.heap s6.heap:=by have:=I6.base;rw [xf,xex,xs,xH] at this;exact this
   have ok6:HOk X.prog X.w H5 s6.heap:=by have:=I6.hok;rw [xP,xw] at this;exact this
   have eD':h'.get? s2.heap.objs.size=some { cls:=.type "list",data:=.seq its k }:=(sb.2 _ (Ay (A1 _))).trans eD
   refine I2.call' (s':={ s6 with heap:=h' }) (by have:=I6.os;rw [xs] at this;exact this) ((U.same (Nat.le_succ _) sb).lay (Ai _) nD) ((ok6.same nC sb).lay nD ?_) I6.bare λb hb=>?_
   ·exact ⟨hlen,its.toList,k,r5,by simpa using eD'⟩
   ·obtain ⟨_,f1,_,f3,f4,f5⟩:=f2 b hb
    exact ⟨f3,f1,f4,f5⟩
  ·have d:=T.item Xc xP xw xK xc i _ s5 σ5 H5 (λ_ _=>False) I5 hf5 st5 go
   rw [xA] at d
   refine thn d λr s6 ⟨u,hr,h6⟩=>?_
   subst hr
   refine thn h6 λ_ s7 ⟨x,H7,I7,r7,y7,st7,fr7⟩=>?_
   have I7':=I7.pinned (fpok (pl:=[(s2.heap.objs.size,{ cls:=.type "list",data:=.seq its k })]) (λp hp=>by simp at hp;rw [hp]) fr7) (T.obj _ _ st7)
   have a:=hg' _ s7 σ5 H7 x u _ I7' r7 (step x H7 y7)
   rw [xP,xw,xA,xx,xe] at a
   refine thn a λ_ s8 ⟨σ8,H8,I8,q8⟩=>?_
   have b:=ht' _ s8 σ8 H8 _ I8 q8
   rw [xP,xw,xA,xx,xe] at b
   refine thn b λok s9 ⟨H9,I9,q9⟩=>?_
   have back:∀ {s':Shared} {σ':St} {H':Hp},Inv Xc ([(s2.heap.objs.size,{ cls:=.type "list",data:=.seq its k })]++IW fp s7.heap) σ' H' s' ->
     tn (i+1) s'.heap∧(∀ b∈fp,H' b=none)∧s'.heap.get? s2.heap.objs.size=some { cls:=.type "list",data:=.seq its k }∧H' s2.heap.objs.size=none:=λ{s' σ' H'} J'=>by
    refine ⟨T.keep _ _ _ st7 λb hb o e=>(J'.pin (b,o) (AD _ (AD _ (Fh hb e)))).1,λb hb=>?_,?_,?_⟩
    ·obtain ⟨o,e,_⟩:=T.obj _ _ st7 b hb
     exact (J'.pin (b,o) (AD _ (AD _ (Fh hb e)))).2.1
    ·exact (J'.pin (s2.heap.objs.size,_) (AD _ (Bh _ (Aw.mpr rfl)))).1
    ·exact (J'.pin (s2.heap.objs.size,_) (AD _ (Bh _ (Aw.mpr rfl)))).2.1
   cases ok with
   | false =>
    rw [if_neg AG] at q9 ⊢
    obtain ⟨m',hm,w9⟩:=q9
    obtain ⟨b1,b2,_,_⟩:=back I9
    exact ⟨m',hm,i+1,ys,its,k,σ8,H9,I9.unpinned,r5,b1,b2,w9⟩
   | true =>
    rw [if_pos rfl] at q9 ⊢
    have c:=he' _ s9 σ8 H9 _ I9 q9
    rw [xP,xw,xA,xx,xe] at c
    refine thn c λu' s10 ⟨y,H10,I10,r10,m',hm,w10⟩=>?_
    obtain ⟨b1,b2,b3,b4⟩:=back I10
    have hz:its.size≤sizeLine:=by
     have e:=r5.length
     simp only [Array.length_toList] at e
     omega
    refine wpAny_list_append_plain (hsz:=hz) ⟨k,b3⟩ λh' hl' sb=>?_
    obtain ⟨k',hk'⟩:=hl'
    have I11:Inv Xc [] σ8 H10 s10:=I10.pins_of λp hp=>nomatch hp
    have nDL:s2.heap.objs.size≠Xc.env.locals:=by rw [xe];exact Ay (A1 _)
    have I12:Inv Xc [] σ8 H10 { s10 with heap:=h' }:=I11.turned (t':=s10.toks) (it:=s2.heap.objs.size) (λb o hb e=>(sb.2 b hb).trans e) b4 nDL
     (.inr (by rw [xs];exact Ai _)) (λx c e=>by rw [xe] at e;exact Ay (celllt x c e)) (λp hp=>by rw [xpn] at hp;exact nomatch hp)
    have I13:Inv Xc [(s2.heap.objs.size,{ cls:=.type "list",data:=.seq (its.push u') k' })] σ8 H10 { s10 with heap:=h' }:=I12.pins_of λp hp=>by
     have e:p=(s2.heap.objs.size,{ cls:=.type "list",data:=.seq (its.push u') k' }):=by simpa using hp
     subst e
     exact ⟨hk',b4,nDL,by rw [xf];exact nst,λv z=>by cases z⟩
    refine ⟨m',hm,i+1,ys++[y],its.push u',k',σ8,H10,I13,?_,T.keep _ _ _ b1 λb hb o e=>(sb.2 b ?_).trans e,b2,w10⟩
    ·rw [Array.toList_push]
     exact r5.append (.cons r10 .nil)
    ·obtain ⟨o',eo⟩:=hfo b hb
     exact Ay (Ao eo)
 exact codeAny_compStart_list (loop _ rfl) (T.self _ 0 _ _ _ st4 (loop _ rfl))
end
section
variable {X:Cx}
theorem SM:OpR X (compareOp .Is) (λx y H Q=>∃ a b,x=.bl a∧y=.bl b∧Q (.bl (a==b)) H):=by
 intro pins s σ H x y v u Q I rx ry h
 obtain ⟨a,b,rfl,rfl,q⟩:=h
 cases rx
 cases ry
 exact is_bool (Jg I q rfl)
theorem Np:OpR X (compareOp .IsNot) (λx y H Q=>∃ a b,x=.bl a∧y=.bl b∧Q (.bl (a != b)) H):=by
 intro pins s σ H x y v u Q I rx ry h
 obtain ⟨a,b,rfl,rfl,q⟩:=h
 cases rx
 cases ry
 exact isnot_bool (Jg I q rfl)
theorem Vn {bs:List Bool}{us:List Value}(r:Vals (bs.map V.bl) us){i:Nat}{v:Value}(e:us[i]? = some v):∃ b,bs[i]? = some b∧v=.bool b:=by
 have hl:=r.length
 rw [Ag] at hl
 have hi:i<us.length:=(Ae.mp e).1
 obtain ⟨u,hu,ru⟩:=r.get (i:=i) (x:=V.bl (bs[i]'(by omega))) (by simp)
 rw [e] at hu
 cases hu
 exact ⟨_,by simp,ru⟩
theorem OD (bs:List Bool):((List.range bs.length).all λi=>(bs[i]?).getD true)=bs.all id:=by
 refine BL.mpr ⟨λh=>Au.mpr λb hb=>?_,λh=>Au.mpr λi hi=>?_⟩
 ·obtain ⟨k,lk,rfl⟩:=List.mem_iff_getElem.mp hb
  simpa [lk] using Au.mp h k (AX.mpr lk)
 ·have lk:i<bs.length:=AX.mp hi
  simpa [lk] using Au.mp h bs[i] (BD lk)
theorem RQ (hc:X.calm=true):F9 X (.builtin "all") (λxs H Q=>∃ (p:Addr) (bs:List Bool),xs=[.ref p]∧SqL X.K H p (bs.map V.bl)∧Q (.bl (bs.all id)) H):=by
 intro pins s σ H xs us Q I r h
 obtain ⟨p,bs,rfl,hq,q⟩:=h
 obtain ⟨u,rfl,ru⟩:=vals1 r
 cases ru
 obtain ⟨its,rv,pl,hz⟩:=I.list hq
 obtain ⟨m,F⟩:=I.fr
 have hlt:p<s.heap.objs.size:=by obtain ⟨o,n,e,_⟩:=pl;exact Ao e
 refine call_all_walk (wpAny_pyIter_list pl.isList ?_)
 refine ⟨s.heap.objs.size,[s.heap.objs.size,p],[s.heap.objs.size],its.toArray.size,_,_,λi=>(bs[i]?).getD true,rfl,
  Walks.list (A:=X.A.in1) (I.ok.hd hc) _ p (Ay hlt) its.toArray,⟨⟨_,Aj _ rfl,rfl,rfl⟩,pl.isList.push _⟩,λi v s' Q' E' hP hQ=>?_,λh' tk hk=>?_⟩
 ·obtain ⟨b,e,rfl⟩:=Vn rv (i:=i) (v:=v) (by simpa using hP)
  exact Bi (by simpa only [e,Option.getD_some] using hQ)
 ·have e:((List.range its.toArray.size).all λi=>(bs[i]?).getD true)=bs.all id:=by
   rw [An,← rv.length,Ag]
   exact OD bs
  rw [e]
  exact ⟨.bl _,H,I.kept λb x e=>hk b x (λhm=>absurd (Ao e) (by rw [Aw.mp hm];exact Be _)) (Ad _ e),rfl,q⟩
theorem N3:OpR X (binaryOp .Mult) (λx y H Q=>∃ (z:Str) (n:Int),x=.str z∧y=.int n∧MulOk z n∧Q (.str (Txt.mul z n)) H):=by
 intro pins s σ H x y v u Q I rx ry h
 obtain ⟨z,n,rfl,rfl,hok,q⟩:=h
 obtain ⟨t,rfl⟩:=rx
 obtain ⟨t',rfl⟩:=ry
 exact SB.mul hok λt' k=>⟨.str _,H,I.tok _,⟨_,rfl⟩,q⟩
theorem part_of {v:Value}{o:Option Int}(p:IsPart v o):∃ l:Option (Int×Tok),v=partValue l∧l.map (·.1)=o:=by
 cases p with
 | none=>exact ⟨none,rfl,rfl⟩
 | int i t=>exact ⟨some (i,t),rfl,rfl⟩
theorem Xk:SlR X (λx lo hi H Q=>∃ z:Str,x=.str z∧z.length≤sizeLine∧Q (.str (Txt.slice z lo hi)) H):=by
 intro pins s σ H x v vl vu lo hi sl Q I rx hs pl pu h
 obtain ⟨z,rfl,hz,q⟩:=h
 obtain ⟨t,rfl⟩:=rx
 obtain ⟨l,rfl,rfl⟩:=part_of pl
 obtain ⟨u,rfl,rfl⟩:=part_of pu
 refine ⟨"str",_,PySem.F.slot_str_getitem.lookup,typeIs_str _ _ _,?_⟩
 refine wpAny_getItem_str_slice (l:=l) (u:=u) (st:=none) hs rfl (post_val_or_str ⟨AQ (Txt.slice_le z _ _) hz,λt' k=>?_⟩)
 exact ⟨.str _,H,I.tok _,⟨_,rfl⟩,q⟩
end
section
variable {X:Cx} {pins:List (Addr×Obj)} {σ:St} {H:Hp} {s:Shared} {h':Heap}
theorem Inv.turnedL {t':Nat}{ch:List Addr}(I:Inv X pins σ H s)(k:∀ b o,b∉ch->s.heap.get? b=some o->h'.get? b=some o)(hf:∀ b∈ch,Iq X pins H b):Inv X pins σ H { s with heap:=h',toks:=t' }:=by
 have nit:∀ b u,H b=some u->b∉ch:=λb u e z=>by rw [(hf b z).1] at e;cases e
 refine I.step (g':=s.gens) (d':=s.drawn) (ch:=ch) (λb hb=>?_) (λb o _ _ hc e _=>k b o hc e) (λb o _ _ hc e _=>⟨o.slots,k b o hc e⟩) (λ_ _ _ _ n=>n) (λb o hc e=>⟨o,k b o hc e⟩)
  (λ_ _ e=>e) (λ_ _ _ e=>e) (λb ps e=>⟨#[],by rw [e];simp⟩) (λm hm=>?_) (λb u e=>?_) I.bare
 ·obtain ⟨_,f1,_,f3,f4,f5⟩:=hf b hb
  exact ⟨f3,f1,f4,f5⟩
 ·obtain ⟨o,es,ep,ho,r⟩:=hm
  exact ⟨o,es,ep,k _ o (λz=>(hf _ z).2.1 rfl) ho,r⟩
 ·refine (I.hok b u e).stay (λc v hc q=>k c v ?_ q) (λ_ q=>q) λ_ _ q=>q
  rcases hc with z|z
  ·rw [z];exact nit b u e
  ·exact nit c _ z
theorem Inv.lay {T:Addr}{o:HO}(I:Inv X pins σ H s)(hf:Iq X pins H T)(hs:X.s₀.heap.objs.size≤T)(new:ObjOk X.prog X.w (upd H T o) s.heap T o):Inv X pins σ (upd H T o) s:=by
 obtain ⟨f0,f1,f2,f3,f4,f5⟩:=hf
 refine ⟨I.ok,I.os,I.bare,I.base.lay hs f0,I.loc,I.cell,?_,λx c e=>?_,λp hp=>?_,I.hok.lay f0 new,I.len⟩
 ·rw [Dg (Ne.symm f1)];exact I.free
 ·rw [Dg (f4 x c e)];exact I.freeC x c e
 ·obtain ⟨e,n,r⟩:=I.pin p hp
  exact ⟨e,by rw [Dg (f5 p hp)];exact n,r⟩
end
noncomputable def Its (x:Str):It:=⟨λi _=>i<x.cps.size,λi H v H'=>H'=H∧∃ c,x.cps[i]? = some c∧v=.str ⟨#[c]⟩,λi _=>i=x.cps.size⟩
theorem S2 {P:Program}{w:World}{K:PySem.W.Frag}{tg:Expr}{ty:String}(x:Str)(t:Tok)(it:Addr)
  (W:∀ A:Around,A.handled=none->Walks P w A it [it] [it] x.cps.size (SignAt x) (λi h=>h.IsStrIter it ty x t i)) (W0:∀ A:Around,∀ i (s:Shared) (Q:Value->Shared->Prop) (E:Value->Shared->Prop),s.heap.IsStrIter it ty x t i->Q (.ref it) s->wpAny (model P w) A (pyIter (.ref it)) Q E s)
  (hn:["enumerate","zip","dict_itemiterator","dict_reverseitemiterator","odict_iterator","itertools.zip_longest","itertools.pairwise"].contains ty=false):Turn P w K tg (Its x) [it] it (λi h=>h.IsStrIter it ty x t i) where
 mem:=by simp
 obj:=λi h st b hb=>by
  have e:b=it:=by simpa using hb
  subst e
  obtain ⟨o,e,c,d⟩:=st
  exact ⟨o,e,λv z=>by rw [d] at z;cases z⟩
 keep:=λi h h' st k=>by
  obtain ⟨o,e,r⟩:=st
  exact ⟨o,k it (by simp) o e,r⟩
 item:=by
  intro X hP hw hK hc i pins s σ H E I hf st hg
  subst hP hw hK
  refine (W X.A (I.ok.hd hc)).item i s _ _ hg st λv h' tk hv st' kk=>?_
  obtain ⟨c,u,hc',rfl⟩:=hv
  have I1:Inv X pins σ H { s with heap:=h',toks:=tk }:=I.turnedL kk hf
  obtain ⟨o,e,c2,d⟩:=id st'
  exact ⟨_,rfl,Pd (s:={ s with heap:=h',toks:=tk }) e c2 d hn ⟨.str ⟨#[c]⟩,H,I1,⟨u,rfl⟩,⟨rfl,c,hc',rfl⟩,st',λb hb=>(hf b hb).1⟩⟩
 done:=by
  intro X hP hw hK hc i pins s σ H E I hf st hg
  subst hP hw hK
  have e:i=x.cps.size:=hg
  subst e
  exact (W X.A (I.ok.hd hc)).done s _ _ st λh' tk kk=>⟨rfl,I.turnedL kk hf⟩
 self:=λA i s Q E st h=>W0 A i s Q E st h
noncomputable def Aaz (tl:TE):TI:=fun σ H R=>tl σ H λx H1=>∃ z,x=.str z∧R (Its z) H1
theorem Xx {X:Cx}{tg l:Expr}{tl:TE}(hl:PE X l tl):PI X tg l (Aaz tl):=by
 intro pins s σ H R I h
 refine thn (hl pins s σ H _ I h) λv s1 ⟨x,H1,I1,r1,q1⟩=>?_
 obtain ⟨z,e,q⟩:=q1
 subst e
 obtain ⟨t,rfl⟩:=r1
 have fin:∀ ty:String,(∀ A:Around,A.handled=none->Walks X.prog X.w A s1.heap.objs.size [s1.heap.objs.size] [s1.heap.objs.size] z.cps.size (SignAt z) (λi h=>h.IsStrIter s1.heap.objs.size ty z t i)) ->
   (∀ A:Around,∀ i (s:Shared) (Q:Value->Shared->Prop) (E:Value->Shared->Prop),s.heap.IsStrIter s1.heap.objs.size ty z t i->Q (.ref s1.heap.objs.size) s->wpAny (model X.prog X.w) A (pyIter (.ref s1.heap.objs.size)) Q E s) ->
   ["enumerate","zip","dict_itemiterator","dict_reverseitemiterator","odict_iterator","itertools.zip_longest","itertools.pairwise"].contains ty=false ->
   PIE X pins σ tg R (.ref s1.heap.objs.size) { s1 with heap:=s1.heap.push { cls:=.type ty,data:=.fields #[.str z t,.int 0 0] } }:=λty W W0 hn=>by
  refine ⟨s1.heap.objs.size,[s1.heap.objs.size],_,_,H1,rfl,I1.kept (t':=s1.toks) λb o e=>Ad _ e,S2 z t _ W W0 hn,⟨_,Aj _ rfl,rfl,rfl⟩,λb hb=>?_,q⟩
  have e:b=s1.heap.objs.size:=by simpa using hb
  subst e
  exact I1.fpOk (Ai _) (I1.hok.fresh (Ai _))
 cases ha:z.cps.all (·<128)
 ·exact wpAny_pyIter_wide ha (fin _ (λA hA=>Walks.strWide hA _ z t) (λA i s Q E st h=>wpAny_pyIter_striter_wide st h) (by decide))
 ·exact wpAny_pyIter_ascii ha (fin _ (λA hA=>Walks.strAscii hA _ z t) (λA i s Q E st h=>wpAny_pyIter_striter_ascii st h) (by decide))
noncomputable def Itz (K:PySem.W.Frag)(a b:Addr):It:=
 ⟨λi H=>∃ xs ys x y,SqL K H a xs∧SqL K H b ys∧xs[i]? = some x∧ys[i]? = some y,
  λi H v H'=>∃ T x y,v=.ref T∧H T=none∧H'=upd H T (.tup [x,y])∧(∀ xs,SqL K H a xs->xs[i]? = some x)∧∀ ys,SqL K H b ys->ys[i]? = some y,
  λi H=>∃ xs ys,SqL K H a xs∧SqL K H b ys∧(xs.length≤i∨ys.length≤i)⟩
noncomputable def Ze (z TI TO i1 i2 l1 l2:Addr)(i:Nat)(h:Heap):Prop:=
 IsZip h z TI TO .none∧IsPair h TI (.ref i1) (.ref i2)∧(∃ a b,IsPair h TO a b)∧h.IsListIter i1 l1 i∧h.IsListIter i2 l2 i
theorem RM {P:Program}{w:World}{K:PySem.W.Frag}{elts:List Expr}{k:Nat}{pos:Pos}(z TI TO i1 i2 l1 l2:Addr)(D:ZipApart z TI TO i1 i2 l1 l2) :
  Turn P w K (.Tuple elts k pos) (Itz K l1 l2) [z,TI,TO,i1,i2] z (Ze z TI TO i1 i2 l1 l2) where
 mem:=by simp
 obj:=λi h st b hb=>by
  obtain ⟨h1,h2,⟨_,_,h3⟩,⟨o4,h4,_,d4⟩,⟨o5,h5,_,d5⟩⟩:=st
  have hb':b=z∨b=TI∨b=TO∨b=i1∨b=i2:=by simpa using hb
  rcases hb' with e|e|e|e|e<;>subst e
  ·exact ⟨_,h1,λv e=>by cases e⟩
  ·exact ⟨_,h2,λv e=>by cases e⟩
  ·exact ⟨_,h3,λv e=>by cases e⟩
  ·exact ⟨_,h4,λv e=>by rw [d4] at e;cases e⟩
  ·exact ⟨_,h5,λv e=>by rw [d5] at e;cases e⟩
 keep:=λi h h' st kk=>by
  obtain ⟨h1,h2,⟨a,b,h3⟩,h4,h5⟩:=st
  exact ⟨kk z (by simp) _ h1,kk TI (by simp) _ h2,⟨a,b,kk TO (by simp) _ h3⟩,h4.at λo e=>kk i1 (by simp) o e,h5.at λo e=>kk i2 (by simp) o e⟩
 item:=by
  intro X hP hw hK hc i pins s σ H E I hf st hg
  subst hP hw hK
  obtain ⟨xs,ys,x,y,hq1,hq2,hx,hy⟩:=hg
  obtain ⟨its1,rv1,p1,hz1⟩:=I.list hq1
  obtain ⟨its2,rv2,p2,hz2⟩:=I.list hq2
  obtain ⟨u1,hu1,ru1⟩:=rv1.get hx
  obtain ⟨u2,hu2,ru2⟩:=rv2.get hy
  obtain ⟨h1,h2,⟨a,b,h3⟩,h4,h5⟩:=st
  have D':=D
  refine wpAny_pyNext_zip_item D h1 h2 h3 h4 h5 p1.isList p2.isList (x:=u1) (y:=u2) (by simpa using hu1) (by simpa using hu2) λh' a1 a2 a3 a4 a5 a6 hk=>?_
  have lt:∀ {c:Addr} {o:Obj},s.heap.get? c=some o->c≠s.heap.objs.size:=λe=>Ay (Ao e)
  refine ⟨_,rfl,wpAny_letOwnedTupleGo_zip a1 λh'' b1 sb=>?_⟩
  have nT:s.heap.objs.size≠z:=Ne.symm (lt h1)
  have kk:∀ b o,b∉[z,TI,TO,i1,i2]->s.heap.get? b=some o->h''.get? b=some o:=λb o hb e=>by
   simp only [Am,AJ,BG,not_or] at hb
   exact (sb.2 b hb.1).trans (hk b o hb.1 hb.2.2.1 hb.2.2.2.1 hb.2.2.2.2 e)
  have I1:Inv X pins σ H { s with heap:=h'',toks:=s.toks }:=I.turnedL kk hf
  have hn:H s.heap.objs.size=none:=I.hok.fresh (Ai _)
  have fT:Iq X pins H s.heap.objs.size:=I.fpOk (Ai _) hn
  have I2:Inv X pins σ (upd H s.heap.objs.size (.tup [x,y])) { s with heap:=h'',toks:=s.toks }:=I1.lay fT I.sz
   ⟨⟨by show 2≤sizeLine;decide,_,(sb.2 _ nT).trans a5,rfl⟩,[u1,u2],.cons ru1 (.cons ru2 .nil),⟨_,(sb.2 _ nT).trans a5,rfl,_,rfl⟩⟩
  refine ⟨.ref s.heap.objs.size,_,I2,rfl,⟨_,x,y,rfl,hn,rfl,λxs' hx'=>by rw [I.list_inj hx' hq1];exact hx,λys' hy'=>by rw [I.list_inj hy' hq2];exact hy⟩,?_,λb hb=>?_⟩
  ·exact ⟨b1,(sb.2 _ D.TIz).trans (hk _ _ D.TIz D.TITO D.TIi1 D.TIi2 h2),⟨_,_,(sb.2 _ D.TOz).trans a2⟩,a3.at λo e=>(sb.2 _ D.i1z).trans e,a4.at λo e=>(sb.2 _ D.i2z).trans e⟩
  ·have hb':b=z∨b=TI∨b=TO∨b=i1∨b=i2:=by simpa using hb
   have ne:b≠s.heap.objs.size:=by
    obtain ⟨o4,e4,_⟩:=h4
    obtain ⟨o5,e5,_⟩:=h5
    rcases hb' with e|e|e|e|e<;>subst e
    ·exact lt h1
    ·exact lt h2
    ·exact lt h3
    ·exact lt e4
    ·exact lt e5
   rw [Dg ne]
   exact (hf b hb).1
 done:=by
  intro X hP hw hK hc i pins s σ H E I hf st hg
  subst hP hw hK
  obtain ⟨xs,ys,hq1,hq2,hend⟩:=hg
  obtain ⟨its1,rv1,p1,hz1⟩:=I.list hq1
  obtain ⟨its2,rv2,p2,hz2⟩:=I.list hq2
  obtain ⟨h1,h2,⟨a,b,h3⟩,h4,h5⟩:=st
  have l1:=rv1.length
  have l2:=rv2.length
  refine wpAny_pyNext_zip_end (I.ok.hd hc) D h1 h2 h3 h4 h5 p1.isList p2.isList (by
   rcases hend with e|e
   ·exact .inl (by simp;omega)
   ·exact .inr (by simp;omega)) λh' hk=>⟨rfl,I.turnedL (t':=s.toks) (λb o hb e=>?_) hf⟩
  simp only [Am,AJ,BG,not_or] at hb
  exact hk b o hb.1 hb.2.2.1 hb.2.2.2.1 hb.2.2.2.2 e
 self:=λA i s Q E st h=>wpAny_pyIter_zip st.1 h
theorem Xz {a b:Nat}(h:a<b∨b<a):a≠b:=by omega
theorem MP (n a b:Nat)(h1:a<n)(h2:b<n):ZipApart (n+4) (n+2) (n+3) n (n+1) a b:=by
 constructor<;>(refine Xz ?_;omega)
noncomputable def AaI (K:PySem.W.Frag)(ta:TA):TI:=fun σ H R=>ta σ H λvs H1=>∃ a b,vs=[.ref a,.ref b]∧(∃ xs,SqL K H1 a xs)∧(∃ ys,SqL K H1 b ys)∧R (Itz K a b) H1
theorem Wr {X:Cx}{a b:Expr}{ta:TA}{p pos:Pos}{elts:List Expr}{k:Nat}{tp:Pos}(hg:Gl X "zip")(hm:X.mg "zip"=none)(hz:bootBuiltins "zip"=some (.type "zip"))(ha:PA X [a,b] ta)(hs:starEach [a,b] X.env=[(false,eval a X.env),(false,eval b X.env)]:=by rfl)(hs2:starEach [b] X.env=[(false,eval b X.env)]:=by rfl) :
  PI X (.Tuple elts k tp) (.Call (.Name "zip" p) [a,b] [] pos) (AaI X.K ta):=by
 intro pins s σ H R I h
 refine Call_ (IG I hg hm hz (Cg (thn (ha pos pins s σ H _ I h) λus s1 ⟨vs,H1,I1,r1,q1⟩=>?_) (by rw [hs,hs2]) (by rw [hs2];rfl)))
 obtain ⟨a1,a2,e,⟨xs,hx⟩,⟨ys,hy⟩,q⟩:=q1
 subst e
 obtain ⟨u1,u2,rfl,ra,rb⟩:=vals2 r1
 cases ra
 cases rb
 obtain ⟨its1,rv1,p1,_⟩:=I1.list hx
 obtain ⟨its2,rv2,p2,_⟩:=I1.list hy
 have lt1:a1<s1.heap.objs.size:=by obtain ⟨o,n,e,_⟩:=p1;exact Ao e
 have lt2:a2<s1.heap.objs.size:=by obtain ⟨o,n,e,_⟩:=p2;exact Ao e
 refine call_zip_2 p1.isList p2.isList λh' z1 z2 z3 z4 z5 hsz hk=>?_
 refine wpAny_pyIter_zip z1 ?_
 refine ⟨s1.heap.objs.size+4,[s1.heap.objs.size+4,s1.heap.objs.size+2,s1.heap.objs.size+3,s1.heap.objs.size,s1.heap.objs.size+1],_,_,H1,rfl,I1.kept (t':=s1.toks) λb o e=>hk b o e,
  RM _ _ _ _ _ a1 a2 ?_,⟨z1,z2,⟨_,_,z3⟩,z4,z5⟩,λb hb=>?_,q⟩
 ·exact MP _ _ _ lt1 lt2
 ·have hle:s1.heap.objs.size≤b:=by
   have hb':b=s1.heap.objs.size+4∨b=s1.heap.objs.size+2∨b=s1.heap.objs.size+3∨b=s1.heap.objs.size∨b=s1.heap.objs.size+1:=by simpa using hb
   rcases hb' with rfl|rfl|rfl|rfl|rfl<;>simp
  exact I1.fpOk hle (I1.hok.fresh hle)
section
variable {prog:Program} {w:World} {A:Around} {E:Value->Shared->Prop} {s:Shared}
theorem OR:isSubtype (.type "tuple") (.type "set")=pure false:=(by rw [isSubtype_type];kernel_rfl)
theorem Kf:isSubtype (.type "tuple") (.type "frozenset")=pure false:=(by rw [isSubtype_type];kernel_rfl)
noncomputable abbrev E9 (led:Bool):Obj:={ cls:=.type "set",dict:=none,data:=.set #[] 0 (.fresh 0 0 led) }
theorem call_cls {T nw ini:String}{args:List Value}{Q Q1:Value->Shared->Prop}(ft:TypeCalled T nw ini)(hct:checkTypeCall T ⟨args,[]⟩=pure ())
  (hn:codeAny (model prog w) A.in1 (.call (.builtin nw) ⟨.type T::args,[]⟩) (wants Q1 E) s)
  (hi:∀ obj z,Q1 obj z->z.TypeIs obj T∧codeAny (model prog w) A.in1 (.call (.builtin ini) ⟨obj::args,[]⟩) (wants (λr z'=>r=.none∧Q obj z') E) z) :
  wpAny (model prog w) A (PySem.call (.type T) args) Q E s:=by
 have m1:=ft.made
 have m2:=ft.sub
 have m3:=ft.notType
 have m4:=ft.canCreate
 obtain ⟨_,_,m5⟩:=ft.mro
 have cl:wpAny (model prog w) A.in1 (callAny (.type T) ⟨args,[]⟩) (λfin z=>match fin with
   | .done f=>wants Q E (.ok f) z
   | .again c'=>c'.quiet=true∧codeAny (model prog w) A c' (wants Q E) z) (λe z=>wants Q E (.error e) z) s:=by
  refine Ac (And.intro (Code.quiet_builtin _ (by decide +kernel)) (Bg PySem.F.entry_type_call ?_))
  rw [Around.under_plain (weight_type_call_type T args []) (by rfl)]
  repeat (any_goals (first|wp_step|assumption))
  refine codeAny_mono hn λr z hz=>?_
  cases r with
  | error e=>exact hz
  | ok fl =>
   cases fl<;>first|exact hz.elim|skip
   rename_i obj
   obtain ⟨hT,hc⟩:=hi _ _ hz
   have m6:=ft.init.lookup
   have m7:=ft.init.bind obj
   repeat (any_goals (first|wp_step|assumption))
   refine codeAny_mono hc λr2 z2 h2=>?_
   cases r2 with
   | error e=>exact h2
   | ok f2 =>
    cases f2<;>first|exact h2.elim|skip
    obtain ⟨e0,hq⟩:=h2
    subst e0
    repeat (any_goals (first|wp_step|assumption))
 exact wpAny_call (codeAny_of_tree cl)
end
structure LcS (esc scope:Scope):Prop where
 kind:scope.kind=.function
 cell:∀ y∈scope.names,y.2≠.cell
 names:∀ y∈scope.names,y.2=.local->scope.names.lookup y.1=some .local
 free:∀ y∈scope.names,y.2=.free->esc.names.lookup y.1=some .cell∨esc.names.lookup y.1=some .free
theorem GN {X:Cx}{scope:Scope}{fv:List (Nat×Str)}(esc:Scope)(he:X.env.scope=esc)(hc:X.calm=true)(h:LcS esc scope)(hf:FvOk X (relabel scope X.env) fv):NT X scope fv:=
 ⟨hc,h.kind,h.cell,h.names,λy hy hk=>by subst he;exact h.free y hy hk,hf⟩
end L2
namespace PV
open PySem L2 PySem.Spec PyProof.Rows
structure Zc where
 K:PySem.W.Frag
 P:Program
 w:World
noncomputable abbrev _root_.L2.Cx.z (X:Cx):Zc:=⟨X.K,X.prog,X.w⟩
inductive D where
 | non|bl (b:Bool)|int (i:Int)|str (x:Str)|tup (ds:List D)|lst (ds:List D)|dct (ks vs:List D)|set (ds:List D)|ref (k:Nat)
noncomputable instance:DecidableEq D:=λa b=>Classical.propDecidable (a=b)
inductive MO where
 | lst (ds:List D)|dct (ks ds:List D)
noncomputable abbrev Sto:=List MO
noncomputable abbrev Rs (α:Type):=Option (α×Sto)
noncomputable abbrev Ro:=List (Option D)
noncomputable abbrev Ex:=Ro->Sto->Rs D
noncomputable abbrev Exs:=Ro->Sto->Rs (List D)
noncomputable abbrev Tx:=Ro->Sto->Rs Bool
inductive Fl where
 | nx|bk|ct|rt (d:D)
noncomputable abbrev Sx:=Ro->Sto->Rs (Fl×Ro)
noncomputable abbrev Fn:=List D->Sto->Rs D
noncomputable def bM {α β:Type}(r:Rs α)(f:α->Sto->Rs β):Rs β:=match r with
 | none=>none
 | some (a,m)=>f a m
theorem Ef {α β:Type}{a:α}{m:Sto}{f:α->Sto->Rs β}:bM (some (a,m)) f=f a m:=rfl
theorem GP {α β:Type}{r:Rs α}{f:α->Sto->Rs β}{b:β}{m':Sto}(h:bM r f=some (b,m')):∃ a m,r=some (a,m)∧f a m=some (b,m'):=by
 cases r with
 | none=>cases h
 | some p=>exact ⟨p.1,p.2,rfl,h⟩
mutual
noncomputable def CH (w:World):D->Int
 | .non=>reduceHash 0xFCA86420
 | .int i=>hashInt i
 | .str x=>hashStr w x
 | .tup ds=>reduceHash (Builtin.Tuple.tupleHashOf (FZ w ds))
 | _=>0
noncomputable def FZ (w:World):List D->List Int
 | []=>[]
 | d::ds=>CH w d::FZ w ds
end
mutual
noncomputable def dpt:D->Nat
 | .tup ds=>IB ds+1
 | _=>0
noncomputable def IB:List D->Nat
 | []=>0
 | d::ds=>max (dpt d) (IB ds)
end
mutual
noncomputable def hsh:D->Bool
 | .non=>true
 | .int _=>true
 | .str _=>true
 | .tup ds=>F1 ds
 | _=>false
noncomputable def F1:List D->Bool
 | []=>true
 | d::ds=>hsh d&&F1 ds
end
noncomputable def EZ (d:D):Bool:=hsh d&&decide (dpt d≤8)
structure KeysOk (ks:List D):Prop where
 len:ks.length≤sizeLine
 nd:ks.Nodup
 ok:∀ k∈ks,EZ k=true
theorem HN (w:World)(ds:List D):FZ w ds=ds.map (CH w):=by induction ds with
 | nil=>rfl
 | cons d ds ih=>rw [FZ,ih];rfl
noncomputable def W9 (a:Addr)(xs:List (Int×V×V))(h:Heap):Prop:=(a==sysModules)=false∧∃ o es ep,h.get? a=some o∧o.ExactDict∧o.data=.dict es ep∧Paired (λ(x:Int×V×V) (e:DictEntry)=>e.hash=x.1∧RelV x.2.1 e.key∧RelV x.2.2 e.val) xs es.toList
noncomputable def Ge (a:Addr)(xs:List (Int×V×V)):HO:=.ext (W9 a xs)
noncomputable def Ua (w:World)(a:Addr)(us:List V)(h:Heap):Prop:=∃ o es ep t,h.get? a=some o∧o.ExactSet∧o.data=.set es ep t∧es.size<scanBound∧t.fits es.size=true∧Vals us (es.toList.map (·.2)) ∧
 (w.params.followText "set-order"=true∨t.led=true∧(t.plain=false∨es.size≤1))
noncomputable def Nn (w:World)(a:Addr)(us:List V):HO:=.ext (Ua w a us)
noncomputable def FzL (K:Zc)(th:List Addr)(H:Hp)(a:Addr)(vs:List V):Prop:=(a∉th∧Rd H a (.lst vs)) ∨
 ∃ (o:Obj) (its:Array Value) (n:Nat),K.K.lookup a=some o∧o.cls=.type "list"∧o.dict=none∧o.data=.seq its n∧its.size≤sizeLine∧Vals vs its.toList
theorem FzL.sq {K:Zc}{th:List Addr}{H:Hp}{a:Addr}{vs:List V}(h:FzL K th H a vs):SqL K.K H a vs:=h.elim (λh=>.inl h.2) .inr
mutual
noncomputable def Rep (K:Zc)(th:List Addr)(H:Hp):D->V->Prop
 | .non,v=>v=.non
 | .bl b,v=>v=.bl b
 | .int i,v=>v=.int i
 | .str x,v=>v=.str x∧x.length≤sizeLine∧PyData.strOk x=true
 | .tup ds,v=>∃ a vs,v=.ref a∧SqT K.K H a vs∧RepL K th H ds vs∧ds.length≤sizeLine
 | .lst ds,v=>∃ a vs,v=.ref a∧FzL K th H a vs∧RepL K th H ds vs∧ds.length≤sizeLine
 | .dct ks ds,v=>∃ a xs,v=.ref a∧a∉th∧H a=some (Ge a xs)∧xs.map (·.1)=FZ K.w ks∧RepL K th H ks (xs.map (·.2.1))∧RepL K th H ds (xs.map (·.2.2))∧KeysOk ks
 | .set ds,v=>∃ a us vs,v=.ref a∧a∉th∧H a=some (Nn K.w a us)∧us.Perm vs∧RepL K th H ds vs∧ds.Nodup
 | .ref k,v=>∃ a,v=.ref a∧th[k]? = some a
noncomputable def RepL (K:Zc)(th:List Addr)(H:Hp):List D->List V->Prop
 | [],vs=>vs=[]
 | d::ds,vs=>∃ v r,vs=v::r∧Rep K th H d v∧RepL K th H ds r
end
section
variable {K:Zc} {th th':List Addr} {H H':Hp}
theorem RepL.nil:RepL K th H [] []:=by unfold RepL;rfl
theorem RepL.cons {d:D}{ds:List D}{v:V}{r:List V}(h:Rep K th H d v)(t:RepL K th H ds r):RepL K th H (d::ds) (v::r):=by unfold RepL;exact ⟨v,r,rfl,h,t⟩
theorem RepL.inv {d:D}{ds:List D}{vs:List V}(h:RepL K th H (d::ds) vs):∃ v r,vs=v::r∧Rep K th H d v∧RepL K th H ds r:=by unfold RepL at h;exact h
theorem RepL.inv0 {vs:List V}(h:RepL K th H [] vs):vs=[]:=by unfold RepL at h;exact h
theorem RepL.len:∀ {ds:List D} {vs:List V},RepL K th H ds vs->vs.length=ds.length
 | [],_,h=>by rw [h.inv0];rfl
 | d::ds,_,h=>by obtain ⟨v,r,rfl,_,t⟩:=h.inv;simp [RepL.len t]
theorem RepL.get:∀ {ds:List D} {vs:List V} {i:Nat} {d:D},RepL K th H ds vs->ds[i]? = some d->∃ v,vs[i]? = some v∧Rep K th H d v
 | [],_,_,_,_,e=>by simp at e
 | d::ds,_,0,d',h,e=>by obtain ⟨v,r,rfl,h1,_⟩:=h.inv;simp at e;subst e;exact ⟨v,rfl,h1⟩
 | d::ds,_,i+1,d',h,e=>by
  obtain ⟨v,r,rfl,_,t⟩:=h.inv
  obtain ⟨u,e1,e2⟩:=RepL.get (i:=i) t (by simpa using e)
  exact ⟨u,by simpa using e1,e2⟩
theorem RepL.getV:∀ {ds:List D} {vs:List V} {i:Nat} {v:V},RepL K th H ds vs->vs[i]? = some v->∃ d,ds[i]? = some d∧Rep K th H d v
 | [],_,_,_,h,e=>by rw [h.inv0] at e;simp at e
 | d::ds,_,0,v',h,e=>by obtain ⟨v,r,rfl,h1,_⟩:=h.inv;simp at e;subst e;exact ⟨d,rfl,h1⟩
 | d::ds,_,i+1,v',h,e=>by
  obtain ⟨v,r,rfl,_,t⟩:=h.inv
  obtain ⟨u,e1,e2⟩:=RepL.getV (i:=i) t (by simpa using e)
  exact ⟨u,by simpa using e1,e2⟩
theorem RepL.app:∀ {ds es:List D} {vs us:List V},RepL K th H ds vs->RepL K th H es us->RepL K th H (ds++es) (vs++us)
 | [],_,_,_,h,t=>by rw [h.inv0];exact t
 | d::ds,_,_,_,h,t=>by obtain ⟨v,r,rfl,h1,h2⟩:=h.inv;exact .cons h1 (RepL.app h2 t)
theorem RepL.take:∀ {ds:List D} {vs:List V} (n:Nat),RepL K th H ds vs->RepL K th H (ds.take n) (vs.take n)
 | _,_,0,_=>by simp only [List.take_zero];exact .nil
 | [],_,n+1,h=>by rw [h.inv0];exact .nil
 | d::ds,_,n+1,h=>by obtain ⟨v,r,rfl,h1,h2⟩:=h.inv;exact .cons h1 (RepL.take n h2)
theorem RepL.drop:∀ {ds:List D} {vs:List V} (n:Nat),RepL K th H ds vs->RepL K th H (ds.drop n) (vs.drop n)
 | _,_,0,h=>h
 | [],_,n+1,h=>by rw [h.inv0];exact .nil
 | d::ds,_,n+1,h=>by obtain ⟨v,r,rfl,h1,h2⟩:=h.inv;exact RepL.drop n h2
theorem RepL.rev:∀ {ds:List D} {vs:List V},RepL K th H ds vs->RepL K th H ds.reverse vs.reverse
 | [],_,h=>by rw [h.inv0];exact .nil
 | d::ds,_,h=>by
  obtain ⟨v,r,rfl,h1,h2⟩:=h.inv
  rw [List.reverse_cons,List.reverse_cons]
  exact (RepL.rev h2).app (.cons h1 .nil)
theorem RepL.setAt:∀ {ds:List D} {vs:List V} (i:Nat) {d:D} {v:V},RepL K th H ds vs->Rep K th H d v->RepL K th H (ds.set i d) (vs.set i v)
 | [],_,_,_,_,h,_=>by rw [h.inv0];exact .nil
 | d::ds,_,0,_,_,h,g=>by obtain ⟨v,r,rfl,h1,h2⟩:=h.inv;exact .cons g h2
 | d::ds,_,i+1,_,_,h,g=>by obtain ⟨v,r,rfl,h1,h2⟩:=h.inv;exact .cons h1 (RepL.setAt i h2 g)
structure Ext (th:List Addr) (H:Hp) (th':List Addr) (H':Hp):Prop where
 pre:∃ more,th'=th++more
 out:∀ a o,a∉th->H a=some o->a∉th'
 keep:∀ a o,a∉th->H a=some o->H' a=some o
theorem Ext.refl (th:List Addr)(H:Hp):Ext th H th H:=⟨⟨[],by simp⟩,λ_ _ n _=>n,λ_ _ _ h=>h⟩
theorem Ext.trans {th2:List Addr}{H2:Hp}(a:Ext th H th' H')(b:Ext th' H' th2 H2):Ext th H th2 H2:=by
 obtain ⟨m1,e1⟩:=a.pre
 obtain ⟨m2,e2⟩:=b.pre
 exact ⟨⟨m1++m2,by rw [e2,e1,List.append_assoc]⟩,λx o n h=>b.out x o (a.out x o n h) (a.keep x o n h),λx o n h=>b.keep x o (a.out x o n h) (a.keep x o n h)⟩
theorem Ext.at (e:Ext th H th' H'){k:Nat}{a:Addr}(h:th[k]? = some a):th'[k]? = some a:=by
 obtain ⟨m,rfl⟩:=e.pre
 rw [As (Ae.mp h).1]
 exact h
theorem Ext.new {p:Addr}(h:H p=none)(o:HO):Ext th H th (upd H p o):=⟨⟨[],by simp⟩,λ_ _ n _=>n,λa u _ e=>by rw [Dg (CW e h)];exact e⟩
theorem Ext.newM {p:Addr}(h:H p=none)(o:HO):Ext th H (th++[p]) (upd H p o):=⟨⟨[p],rfl⟩,λa u n e z=>(AL.mp z).elim n λz=>(by rw [Aw.mp z,h] at e;cases e),
 λa u _ e=>by rw [Dg (CW e h)];exact e⟩
theorem Ext.mut {p:Addr}(h:p∈th)(o:HO):Ext th H th (upd H p o):=⟨⟨[],by simp⟩,λ_ _ n _=>n,λa u n e=>by rw [Dg (λz=>n (by rw [z];exact h))];exact e⟩
theorem Ext.rd (e:Ext th H th' H'){a:Addr}{u:HO}(n:a∉th)(h:Rd H a u):a∉th'∧Rd H' a u:=by
 rcases h with h|⟨o,h⟩
 ·exact ⟨e.out _ _ n h,.inl (e.keep _ _ n h)⟩
 ·exact ⟨e.out _ _ n h,.inr ⟨o,e.keep _ _ n h⟩⟩
theorem Ext.fz (e:Ext th H th' H'){a:Addr}{vs:List V}(h:FzL K th H a vs):FzL K th' H' a vs:=h.elim (λh=>.inl (e.rd h.1 h.2)) .inr
noncomputable def IL (th:List Addr)(H:Hp):Prop:=∀ a,a∈th->∃ o,H a=some o∧((∃ xs,o=.lst xs)∨∃ φ,o=.ext φ)
theorem Ext.sqT (e:Ext th H th' H')(t:IL th H){a:Addr}{xs:List V}(h:SqT K.K H a xs):SqT K.K H' a xs:=by
 rcases h with h|h
 ·refine .inl (e.rd (λz=>?_) h).2
  obtain ⟨o',q,q2⟩:=t a z
  rcases h with h|⟨o,h⟩
  ·rcases q2 with ⟨_,rfl⟩|⟨_,rfl⟩<;>(rw [q] at h;cases h)
  ·rcases q2 with ⟨_,rfl⟩|⟨_,rfl⟩<;>(rw [q] at h;cases h)
 ·exact .inr h
mutual
theorem Rep.ext (e:Ext th H th' H')(t:IL th H):∀ {d:D} {v:V},Rep K th H d v->Rep K th' H' d v
 | .non,_,h=>h
 | .bl _,_,h=>h
 | .int _,_,h=>h
 | .str _,_,h=>h
 | .tup ds,_,h=>by
  unfold Rep at h ⊢
  obtain ⟨a,vs,q,h1,h2,z⟩:=h
  exact ⟨a,vs,q,e.sqT t h1,RepL.ext e t h2,z⟩
 | .lst ds,_,h=>by
  unfold Rep at h ⊢
  obtain ⟨a,vs,q,h1,h2,z⟩:=h
  exact ⟨a,vs,q,e.fz h1,RepL.ext e t h2,z⟩
 | .dct ks ds,_,h=>by
  unfold Rep at h ⊢
  obtain ⟨a,xs,q,n,h1,h2,h3,h4,h5⟩:=h
  exact ⟨a,xs,q,e.out _ _ n h1,e.keep _ _ n h1,h2,RepL.ext e t h3,RepL.ext e t h4,h5⟩
 | .set ds,_,h=>by
  unfold Rep at h ⊢
  obtain ⟨a,us,vs,q,n,h1,h2,h3,h4⟩:=h
  exact ⟨a,us,vs,q,e.out _ _ n h1,e.keep _ _ n h1,h2,RepL.ext e t h3,h4⟩
 | .ref k,_,h=>by
  unfold Rep at h ⊢
  obtain ⟨a,q,h1⟩:=h
  exact ⟨a,q,e.at h1⟩
theorem RepL.ext (e:Ext th H th' H')(t:IL th H):∀ {ds:List D} {vs:List V},RepL K th H ds vs->RepL K th' H' ds vs
 | [],_,h=>by rw [h.inv0];exact .nil
 | _::_,_,h=>by
  obtain ⟨v,r,rfl,h1,h2⟩:=h.inv
  exact .cons (Rep.ext e t h1) (RepL.ext e t h2)
end
theorem VL {N:List Addr}(hN:N.Nodup){i j:Nat}{x:Addr}(a:N[i]? = some x)(b:N[j]? = some x):i=j:=by
 obtain ⟨hi,ei⟩:=Ae.mp a
 obtain ⟨hj,ej⟩:=Ae.mp b
 have:=BP.mp hN
 rcases B1 i j with h|h|h
 ·exact absurd (ei.trans ej.symm) (this i j hi hj h)
 ·exact h
 ·exact absurd (ej.trans ei.symm) (this j i hj hi h)
noncomputable def MRep (K:Zc)(th:List Addr)(H:Hp)(a:Addr):MO->Prop
 | .lst ds=>∃ vs,H a=some (.lst vs)∧RepL K th H ds vs∧ds.length≤sizeLine
 | .dct ks ds=>∃ xs,H a=some (Ge a xs)∧xs.map (·.1)=FZ K.w ks∧RepL K th H ks (xs.map (·.2.1))∧RepL K th H ds (xs.map (·.2.2))∧KeysOk ks
theorem MRep.ext (e:Ext th H th' H')(t:IL th H){a:Addr}{o:MO}(ha:∀ u,H a=some u->H' a=some u)(h:MRep K th H a o):MRep K th' H' a o:=by
 cases o with
 | lst ds=>obtain ⟨vs,q1,q2,z⟩:=h;exact ⟨vs,ha _ q1,q2.ext e t,z⟩
 | dct ks ds=>obtain ⟨xs,q1,q2,q3,q4,z⟩:=h;exact ⟨xs,ha _ q1,q2,q3.ext e t,q4.ext e t,z⟩
structure StoOk (K:Zc) (th:List Addr) (mu:Sto) (H:Hp):Prop where
 len:th.length=mu.length
 nd:th.Nodup
 at':∀ (k:Nat) (a:Addr) (o:MO),th[k]? = some a->mu[k]? = some o->MRep K th H a o
theorem StoOk.out {mu:Sto}(s:StoOk K th mu H):IL th H:=λa ha=>by
 obtain ⟨k,hk,rfl⟩:=List.mem_iff_getElem.mp ha
 have hk':k<mu.length:=by rw [← s.len];exact hk
 have q:=s.at' k th[k] mu[k] (by simp) (by simp)
 cases e:mu[k] with
 | lst ds=>rw [e] at q;obtain ⟨vs,q,_⟩:=q;exact ⟨_,q,.inl ⟨_,rfl⟩⟩
 | dct ks ds=>rw [e] at q;obtain ⟨vs,q,_⟩:=q;exact ⟨_,q,.inr ⟨_,rfl⟩⟩
theorem StoOk.new {mu:Sto}(s:StoOk K th mu H){p:Addr}(h:H p=none)(o:HO):StoOk K th mu (upd H p o):=
 ⟨s.len,s.nd,λk a o' e1 e2=>(s.at' k a o' e1 e2).ext (.new h o) s.out λu q=>by rw [Dg (CW q h)];exact q⟩
theorem StoOk.newG {mu:Sto}(s:StoOk K th mu H){p:Addr}(h:H p=none)(o:HO)(mo:MO)(r:MRep K (th++[p]) (upd H p o) p mo):StoOk K (th++[p]) (mu++[mo]) (upd H p o):=by
 have ex:Ext th H (th++[p]) (upd H p o):=.newM h _
 refine ⟨by simp [s.len],?_,λk a o' e1 e2=>?_⟩
 ·refine List.nodup_append.mpr ⟨s.nd,by simp,λx hx y hy=>?_⟩
  rw [Aw.mp hy]
  obtain ⟨xs,q,_⟩:=s.out x hx
  exact CW q h
 ·by_cases hk:k<th.length
  ·rw [As hk] at e1
   rw [As (by rw [← s.len];exact hk)] at e2
   exact (s.at' k a o' e1 e2).ext ex s.out λu q=>by rw [Dg (CW q h)];exact q
  ·have hk2:k=th.length:=by
    have:=(Ae.mp e1).1
    simp at this
    omega
   subst hk2
   have e1':a=p:=by simpa using e1.symm
   have e2':o'=mo:=by rw [s.len] at e2;simpa using e2.symm
   subst e1' e2'
   exact r
theorem StoOk.newM {mu:Sto}(s:StoOk K th mu H){p:Addr}(h:H p=none){ds:List D}{vs:List V}(r:RepL K th H ds vs)(hz:ds.length≤sizeLine):StoOk K (th++[p]) (mu++[.lst ds]) (upd H p (.lst vs)):=
 s.newG h _ _ ⟨vs,DR,r.ext (.newM h _) s.out,hz⟩
theorem StoOk.putG {mu:Sto}(s:StoOk K th mu H){k:Nat}{a:Addr}(hk:th[k]? = some a)(o:HO)(mo:MO)(r:MRep K th (upd H a o) a mo):StoOk K th (mu.set k mo) (upd H a o):=by
 have ex:Ext th H th (upd H a o):=.mut (Ak hk) _
 refine ⟨by simp [s.len],s.nd,λj b o' e1 e2=>?_⟩
 by_cases hj:j=k
 ·subst hj
  rw [hk] at e1
  cases e1
  have:j<mu.length:=by rw [← s.len];exact (Ae.mp hk).1
  have e2':o'=mo:=by simpa [this] using e2.symm
  subst e2'
  exact r
 ·rw [AV (Ne.symm hj)] at e2
  have nb:b≠a:=λz=>by
   subst z
   exact hj (VL s.nd e1 hk)
  exact (s.at' j b o' e1 e2).ext ex s.out λu q=>by rw [Dg nb];exact q
theorem StoOk.put {mu:Sto}(s:StoOk K th mu H){k:Nat}{a:Addr}(hk:th[k]? = some a){ds:List D}{vs:List V}(r:RepL K th H ds vs)(hz:ds.length≤sizeLine):StoOk K th (mu.set k (.lst ds)) (upd H a (.lst vs)):=
 s.putG hk _ _ ⟨vs,DR,r.ext (.mut (Ak hk) _) s.out,hz⟩
theorem KeysOk.nil:KeysOk []:=⟨AZ _,List.nodup_nil,λ_ h=>nomatch h⟩
theorem StoOk.newD {mu:Sto}(s:StoOk K th mu H){p:Addr}(h:H p=none):StoOk K (th++[p]) (mu++[.dct [] []]) (upd H p (Ge p [])):=
 s.newG h _ _ ⟨[],DR,rfl,.nil,.nil,.nil⟩
noncomputable def Tr (K:Zc){A:Type}(th:List Addr)(H:Hp)(r:Rs A)(k:A->List Addr->Sto->Hp->Prop):Prop:=
 ∃ a mu',r=some (a,mu')∧∀ th' H',Ext th H th' H'->StoOk K th' mu' H'->k a th' mu' H'
theorem Tr.mono {A:Type}{r:Rs A}{k k':A->List Addr->Sto->Hp->Prop}(h:Tr K th H r k)(f:∀ a th' mu' H',Ext th H th' H'->StoOk K th' mu' H'->k a th' mu' H'->k' a th' mu' H'):Tr K th H r k':=by
 obtain ⟨a,mu',e,q⟩:=h
 exact ⟨a,mu',e,λth' H' x s=>f a th' mu' H' x s (q th' H' x s)⟩
theorem Tr.ahead {A:Type}{r:Rs A}{k:A->List Addr->Sto->Hp->Prop}(h:Tr K th H r k)(x:Ext th H th' H'):Tr K th' H' r k:=by
 obtain ⟨a,mu',e,q⟩:=h
 exact ⟨a,mu',e,λth2 H2 y s=>q th2 H2 (x.trans y) s⟩
theorem Tr.bind {A B:Type}{r:Rs A}{f:A->Sto->Rs B}{k:B->List Addr->Sto->Hp->Prop}(h:Tr K th H (bM r f) k):Tr K th H r λa th1 mu1 H1=>Tr K th1 H1 (f a mu1) k:=by
 obtain ⟨b,mu',e,q⟩:=h
 obtain ⟨a,m,e1,e2⟩:=GP e
 exact ⟨a,m,e1,λth1 H1 x1 s1=>⟨b,mu',e2,λth' H' x s=>q th' H' (x1.trans x) s⟩⟩
theorem Tr.bindE {A B:Type}{r:Rs A}{f:A->Sto->Rs B}{k:B->List Addr->Sto->Hp->Prop}(h:Tr K th H (bM r f) k):Tr K th H r λa th1 mu1 H1=>r=some (a,mu1)∧Tr K th1 H1 (f a mu1) k:=by
 obtain ⟨b,mu',e,q⟩:=h
 obtain ⟨a,m,e1,e2⟩:=GP e
 exact ⟨a,m,e1,λth1 H1 x1 s1=>⟨e1,b,mu',e2,λth' H' x s=>q th' H' (x1.trans x) s⟩⟩
theorem Tr.ret {A:Type}{a:A}{mu:Sto}{k:A->List Addr->Sto->Hp->Prop}(h:Tr K th H (some (a,mu)) k)(s:StoOk K th mu H):k a th mu H:=by
 obtain ⟨b,mu',e,q⟩:=h
 cases e
 exact q th H (.refl _ _) s
theorem Tr.retX {A:Type}{a:A}{mu:Sto}{k:A->List Addr->Sto->Hp->Prop}(h:Tr K th H (some (a,mu)) k)(x:Ext th H th' H')(s:StoOk K th' mu H'):k a th' mu H':=by
 obtain ⟨b,mu',e,q⟩:=h
 cases e
 exact q th' H' x s
theorem Tr.no {A:Type}{k:A->List Addr->Sto->Hp->Prop}(h:Tr K th H (none:Rs A) k):False:=by
 obtain ⟨b,mu',e,q⟩:=h
 cases e
noncomputable def EnvOk (K:Zc)(th:List Addr)(H:Hp)(ro:Ro)(st:L2.St):Prop:=ro.length=st.length∧∀ (i:Nat) (d:D),ro[i]? = some (some d)->∃ v,st[i]? = some (some v)∧Rep K th H d v
theorem EnvOk.ext {ro:Ro}{st:L2.St}(h:EnvOk K th H ro st)(e:Ext th H th' H')(t:IL th H):EnvOk K th' H' ro st:=⟨h.1,λi d q=>by
 obtain ⟨v,a,b⟩:=h.2 i d q
 exact ⟨v,a,b.ext e t⟩⟩
theorem EnvOk.set {ro:Ro}{st:L2.St}(h:EnvOk K th H ro st)(i:Nat){d:D}{v:V}(r:Rep K th H d v):EnvOk K th H (ro.set i (some d)) (st.set i (some v)):=by
 refine ⟨by simp [h.1],λj d' q=>?_⟩
 by_cases hj:j=i
 ·subst hj
  have hl:j<ro.length:=by
   have:=(Ae.mp q).1
   simpa using this
  have:d'=d:=by simpa [hl] using q.symm
  subst this
  exact ⟨v,by simp [← h.1,hl],r⟩
 ·rw [AV (Ne.symm hj)] at q ⊢
  exact h.2 j d' q
noncomputable abbrev KV' (K:Zc) (Q:VK):D->List Addr->Sto->Hp->Prop:=λd th' _ H'=>∀ v,Rep K th' H' d v->Q v H'
noncomputable def rdE (K:Zc)(m:Ex):TE:=λst H Q=>∃ th mu ro,StoOk K th mu H∧EnvOk K th H ro st∧Tr K th H (m ro mu) (KV' K Q)
noncomputable def rdA (K:Zc)(m:Exs):TA:=λst H Q=>∃ th mu ro,StoOk K th mu H∧EnvOk K th H ro st∧Tr K th H (m ro mu) λds th' _ H'=>∀ vs,RepL K th' H' ds vs->Q vs H'
noncomputable def rdT (K:Zc)(m:Tx):TT:=λst H Q=>∃ th mu ro,StoOk K th mu H∧EnvOk K th H ro st∧Tr K th H (m ro mu) λb _ _ H'=>Q b H'
noncomputable def XT (K:Zc)(E:Ends)(p:Fl×Ro)(th:List Addr)(_:Sto)(H:Hp):Prop:=∀ st',EnvOk K th H p.2 st'->match p.1 with
 | .nx=>E.nx st' H
 | .bk=>E.bk st' H
 | .ct=>E.ct st' H
 | .rt d=>∀ v,Rep K th H d v->E.rt v H
noncomputable def rdS (K:Zc)(m:Sx):TS:=λE st H=>∃ th mu ro,StoOk K th mu H∧EnvOk K th H ro st∧Tr K th H (m ro mu) (XT K E)
noncomputable def r2 (K:Zc)(op:D->D->Sto->Rs D):R2:=λx y H Q=>∃ th mu d e,StoOk K th mu H∧Rep K th H d x∧Rep K th H e y∧Tr K th H (op d e mu) (KV' K Q)
noncomputable def rL (K:Zc)(f:Fn):List V->Hp->VK->Prop:=λxs H Q=>∃ th mu ds,StoOk K th mu H∧RepL K th H ds xs∧Tr K th H (f ds mu) (KV' K Q)
end
structure SV (X:Cx) (e:Expr) (m:Ex):Prop where
 r:PE X e (rdE X.z m)
structure SVT (X:Cx) (e:Expr) (m:Tx):Prop where
 r:PT X e (rdT X.z m)
structure SVW (X:Cx) (e:Expr) (m:Tx):Prop where
 r:PW X e (rdT X.z m)
noncomputable def SVA (X:Cx)(es:List Expr)(m:Exs):Prop:=PA X es (rdA X.z m)∧∀ ro mu ds mu',m ro mu=some (ds,mu')->ds.length=es.length
structure SVS (X:Cx) (s:Stmt) (m:Sx):Prop where
 r:PS X s (rdS X.z m)
structure SVB (X:Cx) (b:List Stmt) (m:Sx):Prop where
 r:PSs X b (rdS X.z m)
noncomputable def OpV (X:Cx)(f:Value->Value->Sem Value)(op:D->D->Sto->Rs D):Prop:=OpR X f (r2 X.z op)
noncomputable def CallV (X:Cx)(f:Value)(g:Fn):Prop:=F9 X f (rL X.z g)
theorem PE.weak {X:Cx}{e:Expr}{t t':TE}(h:PE X e t)(f:∀ st H Q,t' st H Q->t st H Q):PE X e t':=λpins s st H Q I q=>h pins s st H Q I (f st H Q q)
theorem PT.weak {X:Cx}{e:Expr}{t t':TT}(h:PT X e t)(f:∀ st H Q,t' st H Q->t st H Q):PT X e t':=λpins s st H Q I q=>h pins s st H Q I (f st H Q q)
theorem PW.weak {X:Cx}{e:Expr}{t t':TT}(h:PW X e t)(f:∀ st H Q,t' st H Q->t st H Q):PW X e t':=λwh pins s st H Q I q=>h wh pins s st H Q I (f st H Q q)
theorem PA.weak {X:Cx}{e:List Expr}{t t':TA}(h:PA X e t)(f:∀ st H Q,t' st H Q->t st H Q):PA X e t':=λpos pins s st H Q I q=>h pos pins s st H Q I (f st H Q q)
theorem PS.weak {X:Cx}{e:Stmt}{t t':TS}(h:PS X e t)(f:∀ E st H,t' E st H->t E st H):PS X e t':=λpins s st H E I q=>h pins s st H E I (f E st H q)
theorem PSs.weak {X:Cx}{e:List Stmt}{t t':TS}(h:PSs X e t)(f:∀ E st H,t' E st H->t E st H):PSs X e t':=λpins s st H E I q=>h pins s st H E I (f E st H q)
section
variable {X:Cx} {K:Zc} {th:List Addr} {mu:Sto} {H:Hp}
noncomputable def Co (i:Nat):Ex:=λro mu=>match ro[i]? with
 | some (some d)=>some (d,mu)
 | _=>none
noncomputable def eC (d:D):Ex:=λ_ mu=>some (d,mu)
theorem Cm (i:Nat){x:Str}{pos:Pos}(hN:X.N[i]? = some x:=by rfl)(hv:Vis X.env.scope x:=by first|exact Or.inl rfl|exact Or.inr (Or.inl rfl)|exact Or.inr (Or.inr rfl))(hd:(x==("__debug__":Str))=false:=by decide)
  (hcd:(x==("__classdict__":Str))=false:=by decide):SV X (.Name x pos) (Co i):=⟨PE.weak (XF hN hv hd hcd) λst H Q h=>by
 obtain ⟨th,mu,ro,so,en,t⟩:=h
 unfold Co at t
 cases e:ro[i]? with
 | none=>rw [e] at t;exact t.no.elim
 | some o =>
  cases o with
  | none=>rw [e] at t;exact t.no.elim
  | some d =>
   rw [e] at t
   obtain ⟨v,ev,rv⟩:=en.2 i d e
   exact ⟨v,ev,t.ret so v rv⟩⟩
theorem Gv {e:Expr}{d:D}{v:V}(h:PE X e (tC v))(r:∀ K th H,Rep K th H d v):SV X e (eC d):=⟨PE.weak h λst H Q q=>by
 obtain ⟨th,mu,ro,so,en,t⟩:=q
 exact t.ret so v (r _ _ _)⟩
theorem Cq {i j pos}:SV X (.Constant (.int i) j pos) (eC (.int i)):=Gv RF λ_ _ _=>by unfold Rep;rfl
theorem EO {i j pos}:SV X (.Constant (.bool i) j pos) (eC (.bl i)):=Gv Yx λ_ _ _=>by unfold Rep;rfl
theorem Fm {j pos}:SV X (.Constant .none j pos) (eC .non):=Gv Wx λ_ _ _=>by unfold Rep;rfl
theorem J0 {i j pos}(h:i.length≤sizeLine∧PyData.strOk i=true:=by decide +kernel):SV X (.Constant (.str i) j pos) (eC (.str i)):=Gv WE λ_ _ _=>by unfold Rep;exact ⟨rfl,h⟩
theorem Vh {x:Str}{i:Int}{pos:Pos}(hm:∃ t,X.mg x=some (.int i t))(hg:Gl X x:=by rfl)(hd:(x==("__debug__":Str))=false:=by decide):SV X (.Name x pos) (eC (.int i)):=by
 obtain ⟨t,hm⟩:=hm
 exact Gv (O0 (v:=.int i) hg hm ⟨t,rfl⟩ hd) λ_ _ _=>by unfold Rep;rfl
theorem UY {x:Str}{i:Str}{pos:Pos}(hm:∃ t,X.mg x=some (.str i t))(h:i.length≤sizeLine∧PyData.strOk i=true:=by decide +kernel)(hg:Gl X x:=by rfl)(hd:(x==("__debug__":Str))=false:=by decide):SV X (.Name x pos) (eC (.str i)):=by
 obtain ⟨t,hm⟩:=hm
 exact Gv (O0 (v:=.str i) hg hm ⟨t,rfl⟩ hd) λ_ _ _=>by unfold Rep;exact ⟨rfl,h⟩
noncomputable def Cs (g:D->D->Sto->Rs D)(a b:Ex):Ex:=λro mu=>bM (a ro mu) λx m1=>bM (b ro m1) λy m2=>g x y m2
theorem Me {a b:Ex}{g:D->D->Sto->Rs D}{st:L2.St}{Q:VK}(h:rdE K (Cs g a b) st H Q):tOp (r2 K g) (rdE K a) (rdE K b) st H Q:=by
 obtain ⟨th,mu,ro,so,en,t⟩:=h
 refine ⟨th,mu,ro,so,en,t.bind.mono λx th1 mu1 H1 e1 s1 t1 v rv=>?_⟩
 exact ⟨th1,mu1,ro,s1,en.ext e1 so.out,t1.bind.mono λy th2 mu2 H2 e2 s2 t2 u ru=>⟨th2,mu2,x,y,s2,rv.ext e2 s1.out,ru,t2⟩⟩
theorem CD {a b:Expr}{op:Operator}{g:D->D->Sto->Rs D}{ma mb:Ex}{pos:Pos}(ho:OpV X (binaryOp op) g)(ha:SV X a ma)(hb:SV X b mb):SV X (.BinOp a op b pos) (Cs g ma mb):=
 ⟨PE.weak (YI ho ha.r hb.r) λ_ _ _ h=>Me h⟩
theorem Ez {a b:Expr}{op:CmpOp}{g:D->D->Sto->Rs D}{ma mb:Ex}{pos:Pos}(ho:OpV X (compareOp op) g)(ha:SV X a ma)(hb:SV X b mb)(hm:behindInMarks op b=false:=by first|exact SK _|with_unfolding_all rfl):SV X (.Compare a [op] [b] pos) (Cs g ma mb):=
 ⟨PE.weak (U4 ho ha.r hb.r hm) λ_ _ _ h=>Me h⟩
theorem CP {a b:Expr}{g:D->D->Sto->Rs D}{ma mb:Ex}{pos:Pos}(ho:IxR X (r2 X.z g))(ha:SV X a ma)(hb:SV X b mb)(hs:Pm b:=by intro _ _;rfl):SV X (.Subscript a b pos) (Cs g ma mb):=
 ⟨PE.weak (Ym ho ha.r hb.r hs) λ_ _ _ h=>Me h⟩
noncomputable def e1 (g:D->Sto->Rs D)(a:Ex):Ex:=λro mu=>bM (a ro mu) λx m1=>g x m1
noncomputable def asB:D->Option Bool
 | .bl b=>some b
 | _=>none
noncomputable def tV (a:Ex):Tx:=λro mu=>bM (a ro mu) λx m1=>(asB x).map λb=>(b,m1)
theorem JV {d:D}{b:Bool}{v:V}(h:asB d=some b)(r:Rep K th H d v):v=.bl b:=by
 cases d with
 | bl c=>cases h;exact r
 | _=>cases h
theorem Sm {a:Ex}{st:L2.St}{Q:Bool->Hp->Prop}(h:rdT K (tV a) st H Q):Tf (rdE K a) st H Q:=by
 obtain ⟨th,mu,ro,so,en,t⟩:=h
 refine ⟨th,mu,ro,so,en,t.bind.mono λx th1 mu1 H1 e1 s1 t1 v rv=>?_⟩
 cases e:asB x with
 | none=>rw [e] at t1;exact t1.no.elim
 | some b=>rw [e] at t1;exact ⟨b,JV e rv,t1.ret s1⟩
theorem DM {e:Expr}{m:Ex}(h:SV X e m)(he:∀ whole,isTrue e X.env whole=(do let v←whole;standAt e.pos;holding [v] (truthy v)):=by intro _;rfl):SVT X e (tV m):=⟨PT.weak (WR h.r he) λ_ _ _ h=>Sm h⟩
theorem Dd {a b:Expr}{op:CmpOp}{g:D->D->Sto->Rs D}{ma mb:Ex}{pos:Pos}(ho:OpV X (compareOp op) g)(ha:SV X a ma)(hb:SV X b mb)(hm:behindInMarks op b=false:=by first|exact SK _|with_unfolding_all rfl):SVT X (.Compare a [op] [b] pos) (tV (Cs g ma mb)):=
 ⟨PT.weak (Vc ho ha.r hb.r hm) λ_ _ _ h=>by
  obtain ⟨th,mu,ro,so,en,t⟩:=Sm h
  exact Me ⟨th,mu,ro,so,en,t⟩⟩
noncomputable def tNt (a:Tx):Tx:=λro mu=>bM (a ro mu) λb m1=>some (!b,m1)
theorem DL {e:Expr}{m:Tx}{pos:Pos}(h:SVT X e m):SVT X (.UnaryOp .Not e pos) (tNt m):=⟨PT.weak (V6 h.r) λst H Q h=>by
 obtain ⟨th,mu,ro,so,en,t⟩:=h
 exact ⟨th,mu,ro,so,en,t.bind.mono λb th1 mu1 H1 e1 s1 t1=>t1.ret s1⟩⟩
noncomputable def tAn (a b:Tx):Tx:=λro mu=>bM (a ro mu) λx m1=>if x=true then b ro m1 else some (false,m1)
noncomputable def tO (a b:Tx):Tx:=λro mu=>bM (a ro mu) λx m1=>if x=true then some (true,m1) else b ro m1
theorem MK {a:Expr}{m:Tx}{pos:Pos}(ha:SVT X a m):SVW X (.BoolOp .And [a] pos) m:=⟨U9 ha.r⟩
theorem EE {a:Expr}{m:Tx}{pos:Pos}(ha:SVT X a m):SVW X (.BoolOp .Or [a] pos) m:=⟨V9 ha.r⟩
theorem O3 {a b:Expr}{rest:List Expr}{m n:Tx}{pos:Pos}(ha:SVT X a m)(hb:SVW X (.BoolOp .And (b::rest) pos) n):SVW X (.BoolOp .And (a::b::rest) pos) (tAn m n):=⟨PW.weak (Wj ha.r hb.r) λst H Q h=>by
 obtain ⟨th,mu,ro,so,en,t⟩:=h
 refine ⟨th,mu,ro,so,en,t.bind.mono λb th1 mu1 H1 e1 s1 t1=>?_⟩
 cases b with
 | true=>exact ⟨th1,mu1,ro,s1,en.ext e1 so.out,t1⟩
 | false=>exact t1.ret s1⟩
theorem EG {a b:Expr}{rest:List Expr}{m n:Tx}{pos:Pos}(ha:SVT X a m)(hb:SVW X (.BoolOp .Or (b::rest) pos) n):SVW X (.BoolOp .Or (a::b::rest) pos) (tO m n):=⟨PW.weak (YN ha.r hb.r) λst H Q h=>by
 obtain ⟨th,mu,ro,so,en,t⟩:=h
 refine ⟨th,mu,ro,so,en,t.bind.mono λb th1 mu1 H1 e1 s1 t1=>?_⟩
 cases b with
 | true=>exact t1.ret s1
 | false=>exact ⟨th1,mu1,ro,s1,en.ext e1 so.out,t1⟩⟩
theorem SVW.t {e:Expr}{m:Tx}(h:SVW X e m):SVT X e m:=⟨PW.pt h.r⟩
noncomputable def eAn (a b:Ex):Ex:=λro mu=>bM (a ro mu) λx m1=>match asB x with
 | none=>none
 | some c=>if c=true then b ro m1 else some (.bl false,m1)
noncomputable def eO (a b:Ex):Ex:=λro mu=>bM (a ro mu) λx m1=>match asB x with
 | none=>none
 | some c=>if c=true then some (.bl true,m1) else b ro m1
noncomputable def eNt (a:Ex):Ex:=λro mu=>bM (a ro mu) λx m1=>match asB x with
 | none=>none
 | some c=>some (.bl (!c),m1)
theorem Hi {a:Expr}{op}{m:Ex}{pos:Pos}(h:SV X a m):SV X (.BoolOp op [a] pos) m:=⟨WZ h.r⟩
theorem Jh {a b:Expr}{rest:List Expr}{m n:Ex}{pos:Pos}(ha:SV X a m)(hb:SV X (.BoolOp .And (b::rest) pos) n):SV X (.BoolOp .And (a::b::rest) pos) (eAn m n):=⟨PE.weak (Wq ha.r hb.r) λst H Q h=>by
 obtain ⟨th,mu,ro,so,en,t⟩:=h
 refine ⟨th,mu,ro,so,en,t.bind.mono λx th1 mu1 H1 e1 s1 t1 v rv=>?_⟩
 cases e:asB x with
 | none=>rw [e] at t1;exact t1.no.elim
 | some c =>
  rw [e] at t1
  refine ⟨c,JV e rv,?_⟩
  cases c with
  | true=>exact ⟨th1,mu1,ro,s1,en.ext e1 so.out,t1⟩
  | false=>exact t1.ret s1 _ (by unfold Rep;rfl)⟩
theorem VU {a b:Expr}{rest:List Expr}{m n:Ex}{pos:Pos}(ha:SV X a m)(hb:SV X (.BoolOp .Or (b::rest) pos) n):SV X (.BoolOp .Or (a::b::rest) pos) (eO m n):=⟨PE.weak (Zf ha.r hb.r) λst H Q h=>by
 obtain ⟨th,mu,ro,so,en,t⟩:=h
 refine ⟨th,mu,ro,so,en,t.bind.mono λx th1 mu1 H1 e1 s1 t1 v rv=>?_⟩
 cases e:asB x with
 | none=>rw [e] at t1;exact t1.no.elim
 | some c =>
  rw [e] at t1
  refine ⟨c,JV e rv,?_⟩
  cases c with
  | true=>exact t1.ret s1 _ (by unfold Rep;rfl)
  | false=>exact ⟨th1,mu1,ro,s1,en.ext e1 so.out,t1⟩⟩
noncomputable def eIf (c:Tx)(a b:Ex):Ex:=λro mu=>bM (c ro mu) λx m1=>if x=true then a ro m1 else b ro m1
theorem Rk {c a b:Expr}{mc:Tx}{ma mb:Ex}{pos:Pos}(hc:SVT X c mc)(ha:SV X a ma)(hb:SV X b mb):SV X (.IfExp c a b pos) (eIf mc ma mb):=⟨PE.weak (QY hc.r ha.r hb.r) λst H Q h=>by
 obtain ⟨th,mu,ro,so,en,t⟩:=h
 refine ⟨th,mu,ro,so,en,t.bind.mono λb th1 mu1 H1 e1 s1 t1=>?_⟩
 cases b with
 | true=>exact ⟨th1,mu1,ro,s1,en.ext e1 so.out,t1⟩
 | false=>exact ⟨th1,mu1,ro,s1,en.ext e1 so.out,t1⟩⟩
noncomputable def Cr:Exs:=λ_ mu=>some ([],mu)
noncomputable def Cn (a:Ex)(r:Exs):Exs:=λro mu=>bM (a ro mu) λx m1=>bM (r ro m1) λxs m2=>some (x::xs,m2)
theorem Cp:SVA X [] Cr:=by
 refine ⟨PA.weak OE λst H Q h=>?_,λro mu ds mu' h=>by cases h;rfl⟩
 obtain ⟨th,mu,ro,so,en,t⟩:=h
 exact t.ret so [] .nil
theorem Ck {e:Expr}{es:List Expr}{m:Ex}{n:Exs}(ha:SV X e m)(hr:SVA X es n)(hs:starEach (e::es) X.env=(false,eval e X.env)::starEach es X.env:=by rfl):SVA X (e::es) (Cn m n):=by
 refine ⟨PA.weak (JZ ha.r hr.1 hs) λst H Q h=>?_,λro mu ds mu' h=>?_⟩
 ·obtain ⟨th,mu,ro,so,en,t⟩:=h
  refine ⟨th,mu,ro,so,en,t.bind.mono λx th1 mu1 H1 e1 s1 t1 v rv=>?_⟩
  exact ⟨th1,mu1,ro,s1,en.ext e1 so.out,t1.bind.mono λxs th2 mu2 H2 e2 s2 t2 vs rvs=>t2.ret s2 _ (.cons (rv.ext e2 s1.out) rvs)⟩
 ·obtain ⟨x,m1,_,h⟩:=GP h
  obtain ⟨xs,m2,h1,h⟩:=GP h
  cases h
  rw [List.length_cons,List.length_cons,hr.2 _ _ _ _ h1]
noncomputable def EB (a:Exs):Ex:=λro mu=>bM (a ro mu) λxs m1=>some (.tup xs,m1)
noncomputable def GK (a:Exs):Ex:=λro mu=>bM (a ro mu) λxs m1=>some (.lst xs,m1)
noncomputable def G2 (a:Exs):Ex:=λro mu=>bM (a ro mu) λxs m1=>some (.ref m1.length,m1++[.lst xs])
theorem Rep.newTup (so:StoOk K th mu H){p:Addr}(h:H p=none){ds:List D}{vs:List V}(r:RepL K th H ds vs)(hz:ds.length≤sizeLine):Rep K th (upd H p (.tup vs)) (.tup ds) (.ref p):=by
 unfold Rep
 exact ⟨p,vs,rfl,SqT.of DR,r.ext (.new h _) so.out,hz⟩
theorem StoOk.notin (so:StoOk K th mu H){p:Addr}(h:H p=none):p∉th:=λz=>by
 obtain ⟨xs,e,_⟩:=so.out p z
 rw [h] at e
 cases e
theorem Rep.newLst (so:StoOk K th mu H){p:Addr}(h:H p=none){ds:List D}{vs:List V}(r:RepL K th H ds vs)(hz:ds.length≤sizeLine):Rep K th (upd H p (.lst vs)) (.lst ds) (.ref p):=by
 unfold Rep
 exact ⟨p,vs,rfl,.inl ⟨so.notin h,.inl DR⟩,r.ext (.new h _) so.out,hz⟩
theorem El {es:List Expr}{m:Exs}{x1}{pos:Pos}(h:SVA X es m)(hl:es.length≤1000:=by decide):SV X (.Tuple es x1 pos) (EB m):=⟨PE.weak (WD h.1) λst H Q q=>by
 obtain ⟨th,mu,ro,so,en,t⟩:=q
 obtain ⟨d,mu',e,_⟩:=id t
 obtain ⟨xs0,m0,e0,_⟩:=GP e
 have hn:=h.2 _ _ _ _ e0
 have tb:Tr X.z th H (m ro mu) λds th' mu' H'=>ds.length≤1000∧Tr X.z th' H' (some (D.tup ds,mu')) (KV' X.z Q):=by
  obtain ⟨a,mu1,e1,q1⟩:=t.bind
  exact ⟨a,mu1,e1,λth' H' x s=>⟨by rw [h.2 _ _ _ _ e1];exact hl,q1 th' H' x s⟩⟩
 refine ⟨th,mu,ro,so,en,tb.mono λxs th1 mu1 H1 e1 s1 t1 vs rvs=>⟨?_,λp hp=>?_⟩⟩
 ·rw [rvs.len];exact AQ t1.1 (by decide)
 ·exact t1.2.retX (.new hp _) (s1.new hp _) _ (Rep.newTup s1 hp rvs (AQ t1.1 (by decide)))⟩
theorem SH {es:List Expr}{m:Exs}{C:List D->Sto->Rs D}{st:L2.St}{ro:Ro}{k:D->List Addr->Sto->Hp->Prop}(h:SVA X es m)(hl:es.length≤1000)(t:Tr K th H (bM (m ro mu) C) k) :
  Tr K th H (m ro mu) λds th' mu' H'=>ds.length≤1000∧Tr K th' H' (C ds mu') k:=by
 obtain ⟨a,mu1,e1,q1⟩:=t.bind
 exact ⟨a,mu1,e1,λth' H' x s=>⟨by rw [h.2 _ _ _ _ e1];exact hl,q1 th' H' x s⟩⟩
theorem Fg {es:List Expr}{m:Exs}{pos:Pos}(h:SVA X es m)(hl:es.length≤1000:=by decide):SV X (.List es pos) (GK m):=⟨PE.weak (TB h.1) λst H Q q=>by
 obtain ⟨th,mu,ro,so,en,t⟩:=q
 refine ⟨th,mu,ro,so,en,(SH (st:=st) h hl t).mono λxs th1 mu1 H1 e1 s1 t1 vs rvs=>⟨?_,λp hp=>?_⟩⟩
 ·rw [rvs.len];exact AQ t1.1 (by decide)
 ·exact t1.2.retX (.new hp _) (s1.new hp _) _ (Rep.newLst s1 hp rvs (AQ t1.1 (by decide)))⟩
theorem Ih {es:List Expr}{m:Exs}{pos:Pos}(h:SVA X es m)(hl:es.length≤1000:=by decide):SV X (.List es pos) (G2 m):=⟨PE.weak (TB h.1) λst H Q q=>by
 obtain ⟨th,mu,ro,so,en,t⟩:=q
 refine ⟨th,mu,ro,so,en,(SH (st:=st) h hl t).mono λxs th1 mu1 H1 e1 s1 t1 vs rvs=>⟨?_,λp hp=>?_⟩⟩
 ·rw [rvs.len];exact AQ t1.1 (by decide)
 ·refine t1.2.retX (.newM hp _) (s1.newM hp rvs (AQ t1.1 (by decide))) _ ?_
  unfold Rep
  exact ⟨p,rfl,by rw [← s1.len];simp⟩⟩
noncomputable def Ct (f:Fn)(a:Exs):Ex:=λro mu=>bM (a ro mu) λxs m1=>f xs m1
theorem RE {f:Fn}{a:Exs}{st:L2.St}{Q:VK}(h:rdE K (Ct f a) st H Q):tCB (rL K f) (rdA K a) st H Q:=by
 obtain ⟨th,mu,ro,so,en,t⟩:=h
 exact ⟨th,mu,ro,so,en,t.bind.mono λxs th1 mu1 H1 e1 s1 t1 vs rvs=>⟨th1,mu1,xs,s1,rvs,t1⟩⟩
theorem CM {x:Str}{id:String}{g:Fn}{e:Expr}{es:List Expr}{m:Exs}{p pos:Pos}(hc:CallV X (.builtin id) g)(hm:X.mg x=none)(hv:bootBuiltins x=some (.builtin id))(ha:SVA X (e::es) m)(hg:Gl X x:=by rfl)
  (hn:x≠"__name__":=by decide) (hdb:(x==("__debug__":Str))=false:=by decide) (hs1:starEach (e::es) X.env=(false,eval e X.env)::starEach es X.env:=by rfl) (hs2:(backTo pos (starEach es X.env)).any (·.1)=false:=by rfl):SV X (.Call (.Name x p) (e::es) [] pos) (Ct g m):=
 ⟨PE.weak (Kt hc hg hm hv ha.1 hn hdb hs1 hs2) λ_ _ _ h=>RE h⟩
theorem DG {x:Str}{T:String}{g:Fn}{e:Expr}{es:List Expr}{m:Exs}{p pos:Pos}(hc:CallV X (.type T) g)(hm:X.mg x=none)(hv:bootBuiltins x=some (.type T))(ha:SVA X (e::es) m)(hg:Gl X x:=by rfl)
  (hn:x≠"__name__":=by decide) (hdb:(x==("__debug__":Str))=false:=by decide) (hs1:starEach (e::es) X.env=(false,eval e X.env)::starEach es X.env:=by rfl) (hs2:(backTo pos (starEach es X.env)).any (·.1)=false:=by rfl):SV X (.Call (.Name x p) (e::es) [] pos) (Ct g m):=
 ⟨PE.weak (Qu hc hg hm hv ha.1 hn hdb hs1 hs2) λ_ _ _ h=>RE h⟩
noncomputable def spF (K:Zc)(f:Fn)(n:Nat):Sp:=λvs H Q _=>∃ th mu ds,StoOk K th mu H∧RepL K th H ds vs∧ds.length=n∧Tr K th H (f ds mu) (KV' K Q)
structure Cal (P:Program) (w:World) (K:PySem.W.Frag) (mg:Str->Option Value) (base:Heap) (k:Nat) (x:Str) (f:Fn) (n:Nat):Prop where
 ex:∃ (ps:List Str) (a:Addr) (fd:FuncData),ps.length=n∧Ee P w K mg base CX0 k a fd ps (spF ⟨K,P,w⟩ f n)∧Binds K fd ps []∧PySem.W.keepIn K (.ref a)=true∧mg x=some (.ref a)
theorem CA {x:Str}{k:Nat}{f:Fn}{n:Nat}{e:Expr}{es:List Expr}{m:Exs}{p pos:Pos}(C:Cal X.prog X.w X.K X.mg X.base k x f n)(hr:Room k X.A)(ha:SVA X (e::es) m)(hl:(e::es).length=n:=by rfl)(hg:Gl X x:=by rfl)
  (hdb:(x==("__debug__":Str))=false:=by decide) (he:starEach (e::es) X.env=(false,eval e X.env)::starEach es X.env:=by rfl) (hpl:(backTo pos (starEach es X.env)).any (·.1)=false:=by rfl):SV X (.Call (.Name x p) (e::es) [] pos) (Ct f m):=⟨by
 obtain ⟨ps,a,fd,hn,F,b,kp,mm⟩:=C.ex
 refine PE.weak (UI F hr hg mm kp b .nil Yg ha.1 hdb he hpl) λst H Q h=>?_
 obtain ⟨th,mu,ro,so,en,t⟩:=h
 have tb:Tr X.z th H (m ro mu) λds th' mu' H'=>ds.length=n∧Tr X.z th' H' (f ds mu') (KV' X.z Q):=by
  obtain ⟨a,mu1,e1,q1⟩:=t.bind
  exact ⟨a,mu1,e1,λth' H' x s=>⟨by rw [ha.2 _ _ _ _ e1];exact hl,q1 th' H' x s⟩⟩
 exact ⟨th,mu,ro,so,en,tb.mono λxs th1 mu1 H1 e1 s1 t1 vs rvs=>⟨th1,mu1,xs,s1,by simpa using rvs,t1.1,t1.2⟩⟩⟩
noncomputable def sNx:Sx:=λro mu=>some ((.nx,ro),mu)
noncomputable def CI (a b:Sx):Sx:=λro mu=>bM (a ro mu) λp m1=>match p.1 with
 | .nx=>b p.2 m1
 | _=>some (p,m1)
theorem Dl:SVB X [] sNx:=⟨PSs.weak Vf λE st H h=>by
 obtain ⟨th,mu,ro,so,en,t⟩:=h
 exact t.ret so st en⟩
theorem Cz {s:Stmt}{m:Sx}(h:SVS X s m):SVB X [s] m:=⟨Vy h.r⟩
theorem Cu {s:Stmt}{r:List Stmt}{m n:Sx}(h1:SVS X s m)(h2:SVB X r n):SVB X (s::r) (CI m n):=⟨PSs.weak (RD h1.r h2.r) λE st H h=>by
 obtain ⟨th,mu,ro,so,en,t⟩:=h
 refine ⟨th,mu,ro,so,en,t.bind.mono λp th1 mu1 H1 e1 s1 t1 st' en'=>?_⟩
 obtain ⟨fl,ro'⟩:=p
 cases fl with
 | nx=>exact ⟨th1,mu1,ro',s1,en',t1⟩
 | bk=>exact t1.ret s1 st' en'
 | ct=>exact t1.ret s1 st' en'
 | rt d=>exact t1.ret s1 st' en'⟩
noncomputable def sRt (a:Ex):Sx:=λro mu=>bM (a ro mu) λd m1=>some ((.rt d,ro),m1)
theorem CF {e:Expr}{m:Ex}{pos:Pos}(h:SV X e m):SVS X (.Return (some e) pos) (sRt m):=⟨PS.weak (Xs h.r) λE st H h=>by
 obtain ⟨th,mu,ro,so,en,t⟩:=h
 exact ⟨th,mu,ro,so,en,t.bind.mono λd th1 mu1 H1 e1 s1 t1 v rv=>t1.ret s1 st (en.ext e1 so.out) v rv⟩⟩
noncomputable def sEx (a:Ex):Sx:=λro mu=>bM (a ro mu) λ_ m1=>some ((.nx,ro),m1)
theorem G8 {e:Expr}{m:Ex}{pos:Pos}(h:SV X e m)(hs:swapsWith e none pos.line X.env=pure false:=by rfl):SVS X (.Expr e pos) (sEx m):=⟨PS.weak (Um h.r hs) λE st H h=>by
 obtain ⟨th,mu,ro,so,en,t⟩:=h
 exact ⟨th,mu,ro,so,en,t.bind.mono λd th1 mu1 H1 e1 s1 t1 v rv=>t1.ret s1 st (en.ext e1 so.out)⟩⟩
noncomputable def sIf (c:Tx)(a b:Sx):Sx:=λro mu=>bM (c ro mu) λx m1=>if x=true then a ro m1 else b ro m1
theorem DB {c:Expr}{a b:List Stmt}{mc:Tx}{ma mb:Sx}{pos:Pos}(hc:SVT X c mc)(ha:SVB X a ma)(hb:SVB X b mb):SVS X (.If c a b pos) (sIf mc ma mb):=⟨PS.weak (ZA hc.r ha.r hb.r) λE st H h=>by
 obtain ⟨th,mu,ro,so,en,t⟩:=h
 refine ⟨th,mu,ro,so,en,t.bind.mono λb th1 mu1 H1 e1 s1 t1=>?_⟩
 cases b with
 | true=>exact ⟨th1,mu1,ro,s1,en.ext e1 so.out,t1⟩
 | false=>exact ⟨th1,mu1,ro,s1,en.ext e1 so.out,t1⟩⟩
noncomputable abbrev Gx:=D->Ro->Sto->Rs Ro
noncomputable abbrev Gxs:=List D->Ro->Sto->Rs Ro
noncomputable def rdG (K:Zc)(g:Gx):TG:=λv st H Q=>∃ th mu ro d,StoOk K th mu H∧EnvOk K th H ro st∧Rep K th H d v∧Tr K th H (g d ro mu) λro' th' _ H'=>∀ st',EnvOk K th' H' ro' st'->Q st' H'
noncomputable def AaC (K:Zc)(g:Gxs):TGs:=λvs st H Q=>∃ th mu ro ds,StoOk K th mu H∧EnvOk K th H ro st∧RepL K th H ds vs∧Tr K th H (g ds ro mu) λro' th' _ H'=>∀ st',EnvOk K th' H' ro' st'->Q st' H'
structure SVG (X:Cx) (e:Expr) (g:Gx):Prop where
 r:PG X e (rdG X.z g)
structure U6 (X:Cx) (es:List Expr) (g:Gxs):Prop where
 r:PGs X es (AaC X.z g)
theorem PG.weak {e:Expr}{t t':TG}(h:PG X e t)(f:∀ v st H Q,t' v st H Q->t v st H Q):PG X e t':=λpins s st H v u Q I r q=>h pins s st H v u Q I r (f v st H Q q)
theorem PGs.weak {e:List Expr}{t t':TGs}(h:PGs X e t)(f:∀ v st H Q,t' v st H Q->t v st H Q):PGs X e t':=λpins s st H v u Q I r q=>h pins s st H v u Q I r (f v st H Q q)
noncomputable def gNm (i:Nat):Gx:=λd ro mu=>some (ro.set i (some d),mu)
theorem Cy (i:Nat){x:Str}{pos:Pos}(hN:X.N.Nodup)(hi:X.N[i]? = some x:=by rfl)(hx:Loc X.env.scope x:=by first|exact Or.inl rfl|exact Or.inr rfl)(hf:X.fn x=true∨X.env.scope.names.lookup x=some .local:=by first|exact .inl rfl|exact .inr rfl):SVG X (.Name x pos) (gNm i):=
 ⟨PG.weak (U0 hN hi hx hf) λv st H Q h=>by
  obtain ⟨th,mu,ro,d,so,en,r,t⟩:=h
  exact t.ret so _ (en.set i r)⟩
noncomputable def DC:Gxs:=λds ro mu=>match ds with
 | []=>some (ro,mu)
 | _=>none
noncomputable def CB (g:Gx)(r:Gxs):Gxs:=λds ro mu=>match ds with
 | d::ds=>bM (g d ro mu) λro' m1=>r ds ro' m1
 | []=>none
theorem DJ:U6 X [] DC:=⟨PGs.weak Vx λv st H Q h=>by
 obtain ⟨th,mu,ro,ds,so,en,r,t⟩:=h
 cases ds with
 | nil=>exact ⟨r.inv0,t.ret so _ en⟩
 | cons d ds=>exact t.no.elim⟩
theorem CC {e:Expr}{es:List Expr}{g:Gx}{gs:Gxs}(h1:SVG X e g)(h2:U6 X es gs)(hs:(assignEach (e::es) X.env).map (·.2)=assign e X.env::(assignEach es X.env).map (·.2):=by rfl):U6 X (e::es) (CB g gs):=⟨PGs.weak (SS h1.r h2.r hs) λv st H Q h=>by
 obtain ⟨th,mu,ro,ds,so,en,r,t⟩:=h
 cases ds with
 | nil=>exact t.no.elim
 | cons d ds =>
  obtain ⟨v,vr,rfl,r1,r2⟩:=r.inv
  refine ⟨v,vr,rfl,th,mu,ro,d,so,en,r1,?_⟩
  exact Tr.mono (Tr.bind t) λro' th1 mu1 H1 e1 s1 t1 st' en'=>⟨th1,mu1,ro',ds,s1,en',r2.ext e1 so.out,t1⟩⟩
noncomputable def gTp (n:Nat)(g:Gxs):Gx:=λd ro mu=>match d with
 | .tup ds=>if ds.length=n then g ds ro mu else none
 | _=>none
theorem D8 {es:List Expr}{k n:Nat}{g:Gxs}{pos:Pos}(hc:X.calm=true)(h:U6 X es g)(hn:(assignEach es X.env).length=n:=by rfl)(hst:(assignEach es X.env).findIdx? (·.1)=none:=by rfl):SVG X (.Tuple es k pos) (gTp n g):=
 ⟨PG.weak (Xw hc h.r hn hst) λv st H Q q=>by
  obtain ⟨th,mu,ro,d,so,en,r,t⟩:=q
  cases d with
  | tup ds =>
   unfold Rep at r
   obtain ⟨a,vs,rfl,hs,rl,_⟩:=r
   unfold gTp at t;dsimp only at t
   by_cases e:ds.length=n
   ·rw [if_pos e] at t
    exact ⟨a,vs,rfl,hs,by rw [rl.len];exact e,th,mu,ro,ds,so,en,rl,t⟩
   ·rw [if_neg e] at t;exact t.no.elim
  | _=>exact t.no.elim⟩
noncomputable def Dc (a:Ex)(g:Gx):Sx:=λro mu=>bM (a ro mu) λd m1=>bM (g d ro m1) λro' m2=>some ((.nx,ro'),m2)
theorem Vd {a:Ex}{g:Gx}{st:L2.St}{E:Ends}(h:rdS K (Dc a g) E st H):U7 (rdE K a) (rdG K g) E st H:=by
 obtain ⟨th,mu,ro,so,en,t⟩:=h
 refine ⟨th,mu,ro,so,en,t.bind.mono λd th1 mu1 H1 e1 s1 t1 v rv=>?_⟩
 refine ⟨th1,mu1,ro,d,s1,en.ext e1 so.out,rv,t1.bind.mono λro' th2 mu2 H2 e2 s2 t2 st' en'=>?_⟩
 exact t2.ret s2 st' en'
theorem Fo {tg e:Expr}{m:Ex}{g:Gx}{pos:Pos}(he:SV X e m)(hg:SVG X tg g)(hs:swapsWithSole [tg] e pos.line X.env=pure false:=by rfl)(hw:swappedStores [tg] e X.env=pure none:=by rfl)
  (h1:(assignEach [tg] X.env).map (·.2)=[assign tg X.env]:=by rfl):SVS X (.Assign [tg] e pos) (Dc m g):=⟨PS.weak (WT he.r hg.r hs hw h1) λ_ _ _ h=>Vd h⟩
theorem CO (i:Nat){x:Str}{e:Expr}{m:Ex}{pos pos':Pos}(hN:X.N.Nodup)(he:SV X e m)(hi:X.N[i]? = some x:=by rfl)(hx:Loc X.env.scope x:=by first|exact Or.inl rfl|exact Or.inr rfl)(hs:swapsWith e (some (.Name x pos')) pos.line X.env=pure false:=by rfl)
  (hf:X.fn x=true∨X.env.scope.names.lookup x=some .local:=by first|exact .inl rfl|exact .inr rfl):SVS X (.Assign [.Name x pos'] e pos) (Dc m (gNm i)):=⟨PS.weak (Ws hN hi hx he.r hs hf) λE st H h=>by
 obtain ⟨th,mu,ro,so,en,t⟩:=h
 refine ⟨th,mu,ro,so,en,t.bind.mono λd th1 mu1 H1 e1 s1 t1 v rv=>?_⟩
 exact t1.ret s1 _ ((en.ext e1 so.out).set i rv)⟩
noncomputable def Aaa (i j:Nat)(a:Exs):Sx:=λro mu=>bM (a ro mu) λds m1=>match ds with
 | [x,y]=>some ((.nx,(ro.set i (some x)).set j (some y)),m1)
 | _=>none
noncomputable def fnB (n:Nat)(m:Sx):Fn:=λds mu=>bM (m (ds.map some++List.replicate (n-ds.length) none) mu) λp m1=>match p.1 with
 | .rt d=>some (d,m1)
 | .nx=>some (.non,m1)
 | _=>none
theorem Js {N:List Str}{ds:List D}{vs:List V}(r:RepL K th H ds vs):EnvOk K th H (ds.map some++List.replicate (N.length-ds.length) none) (L2.start N vs):=by
 unfold L2.start
 refine ⟨by simp [r.len],λi d e=>?_⟩
 by_cases hi:i<ds.length
 ·rw [As (by simpa using hi),Al] at e
  cases q:ds[i]? with
  | none=>rw [q] at e;cases e
  | some d' =>
   rw [q] at e
   have:d'=d:=by simpa using e
   subst this
   obtain ⟨v,ev,rv⟩:=r.get q
   exact ⟨v,by rw [As (by simpa [r.len] using hi),Al,ev];rfl,rv⟩
 ·rw [AW (by simpa using hi),Cc] at e
  split at e<;>cases e
theorem ZZ {P:Program}{w:World}{K:PySem.W.Frag}{mg:Str->Option Value}{base:Heap}{x qual:Str}{st:Stmt}{f:Addr}{fd:FuncData}{N ps:List Str}{k:Nat}{m:Sx}(F:Fun K x qual st f fd)(S:CU N ps (Cv st))
  (hbody:∀ (cdv:Value) (A:Around) (outer:List Env) (s:Shared) (H:Hp) (E:XK),Room k (A.deeper (envOfC qual (Cv st) s.heap.objs.size f cdv)) ->
   SVB (KW CX0 P w K mg base N qual (Cv st) f cdv A outer s H E).nox (EF st) m):Ee P w K mg base CX0 (k+1) f fd ps (spF ⟨K,P,w⟩ (fnB N.length m) ps.length):=by
 refine F.ok S (λvs H Q E h=>?_) (λcdv A outer s H vs Q E hr h=>?_)
 ·obtain ⟨th,mu,ds,_,r,hl,_⟩:=h
  rw [r.len]
  exact hl
 ·obtain ⟨th,mu,ds,so,r,hl,t⟩:=h
  refine ⟨_,(hbody cdv A outer s H E hr).r,?_⟩
  refine ⟨th,mu,_,so,Js r,t.bind.mono λp th1 mu1 H1 e1 s1 t1 st' en'=>?_⟩
  obtain ⟨fl,ro'⟩:=p
  cases fl with
  | nx=>exact t1.ret s1 _ (by unfold Rep;rfl)
  | bk=>exact t1.no.elim
  | ct=>exact t1.no.elim
  | rt d=>exact λv rv=>t1.ret s1 v rv
theorem DZ (n np:Nat){P:Program}{w:World}{K:PySem.W.Frag}{mg:Str->Option Value}{base:Heap}{x qual:Str}{st:Stmt}{f:Addr}{fd:FuncData}{N ps:List Str}{k:Nat}{m:Sx}(F:Fun K x qual st f fd)(S:CU N ps (Cv st))(hn:N.length=n)(hp:ps.length=np)
  (hbody:∀ (cdv:Value) (A:Around) (outer:List Env) (s:Shared) (H:Hp) (E:XK),Room k (A.deeper (envOfC qual (Cv st) s.heap.objs.size f cdv)) ->
   SVB (KW CX0 P w K mg base N qual (Cv st) f cdv A outer s H E).nox (EF st) m):Ee P w K mg base CX0 (k+1) f fd ps (spF ⟨K,P,w⟩ (fnB n m) np):=by
 subst hn hp
 exact ZZ F S hbody
theorem DD {P:Program}{w:World}{K:PySem.W.Frag}{mg:Str->Option Value}{base:Heap}{x:Str}{st:Stmt}{f:Addr}{fd:FuncData}{ps:List Str}{k n:Nat}{g:Fn}(F:Fun K x x st f fd)(hm:mg x=some (.ref f))(h:Ee P w K mg base CX0 k f fd ps (spF ⟨K,P,w⟩ g n))(hb:Binds K fd ps [])(hn:ps.length=n:=by rfl):Cal P w K mg base k x g n:=
 ⟨ps,f,fd,hn,h,hb,F.kp,hm⟩
noncomputable abbrev Ix:=Ro->Sto->Rs (List D×Option Nat)
noncomputable def gOk (g:Option Nat)(m0 m:Sto):Prop:=match g with
 | none=>True
 | some k=>m0[k]? = m[k]?
structure Rc (K:Zc) (J:It) (th:List Addr) (mu:Sto) (H:Hp) (ds:List D) (g:Option Nat):Prop where
 sz:ds.length≤sizeLine
 go:∀ th' mu' H',Ext th H th' H'->StoOk K th' mu' H'->gOk g mu mu'->∀ (i:Nat) (d:D),ds[i]? = some d->J.go i H'∧∀ x H2,J.yld i H' x H2->Ext th' H' th' H2∧StoOk K th' mu' H2∧Rep K th' H2 d x
 stop:∀ th' mu' H',Ext th H th' H'->StoOk K th' mu' H'->gOk g mu mu'->J.stop ds.length H'
noncomputable def rdI (K:Zc)(m:Ix):TI:=λst H R=>∃ th mu ro,StoOk K th mu H∧EnvOk K th H ro st∧Tr K th H (m ro mu) λp th' mu' H'=>∀ J,Rc K J th' mu' H' p.1 p.2->R J H'
structure SVI (X:Cx) (tg iter:Expr) (m:Ix):Prop where
 r:PI X tg iter (rdI X.z m)
theorem PI.weak {tg e:Expr}{t t':TI}(h:PI X tg e t)(f:∀ st H R,t' st H R->t st H R):PI X tg e t':=λpins s st H R I q=>h pins s st H R I (f st H R q)
open Classical in
noncomputable def Ff {A:Type}(g:Option Nat)(m0 m:Sto)(r:Rs A):Rs A:=if gOk g m0 m then r else none
theorem Hy {A:Type}{g:Option Nat}{m0 m:Sto}{r:Rs A}{p:A×Sto}(h:Ff g m0 m r=some p):gOk g m0 m∧r=some p:=by
 unfold Ff at h
 by_cases e:gOk g m0 m
 ·rw [if_pos e] at h;exact ⟨e,h⟩
 ·rw [if_neg e] at h;cases h
noncomputable def Ey (g:Option Nat)(m0:Sto)(tg:Gx)(body:Sx):List D->Ro->Sto->Rs (Fl×Ro)
 | [],ro,mu=>some ((.nx,ro),mu)
 | d::ds,ro,mu=>bM (tg d ro mu) λro1 m1=>bM (body ro1 m1) λp m2=>match p.1 with
  | .nx=>Ff g m0 m2 (Ey g m0 tg body ds p.2 m2)
  | .ct=>Ff g m0 m2 (Ey g m0 tg body ds p.2 m2)
  | .bk=>some ((.nx,p.2),m2)
  | .rt d=>some ((.rt d,p.2),m2)
noncomputable def HC (i:Ix)(tg:Gx)(body:Sx):Sx:=λro mu=>bM (i ro mu) λp m1=>Ey p.2 m1 tg body p.1 ro m1
theorem E4 {tg iter:Expr}{body:List Stmt}{i:Ix}{g:Gx}{m:Sx}{pos:Pos}(hp:PassesOwn (model X.prog X.w) X.A X.env X.xe)(hc:X.calm=true)(hi:SVI X tg iter i)(hg:SVG X tg g)(hb:SVB X body m)
  (hs:∀ x,foldedSetIterable iter X.env x=pure x:=by intro _;rfl):SVS X (.For tg iter body [] pos) (HC i g m):=⟨PS.weak (Xm hp hc hi.r hg.r hb.r hs) λE st H h=>by
 obtain ⟨th,mu,ro,so,en,t⟩:=h
 refine ⟨th,mu,ro,so,en,t.bind.mono λp th1 mu1 H1 e1 s1 t1 J ok=>?_⟩
 obtain ⟨ds,gd⟩:=p
 have en1:=en.ext e1 so.out
 refine ⟨λk n st' H'=>n=ds.length-k∧k≤ds.length∧∃ th' mu' ro',StoOk X.z th' mu' H'∧EnvOk X.z th' H' ro' st'∧Ext th1 H1 th' H'∧gOk gd mu1 mu'∧Tr X.z th' H' (Ey gd mu1 g m (ds.drop k) ro' mu') (XT X.z E),⟨_,rfl,AZ _,th1,mu1,ro,s1,en1,.refl _ _,?_,t1⟩,?_⟩
 ·cases gd with
  | none=>exact True.intro
  | some k=>exact rfl
 rintro k n st2 H2 ⟨rfl,hk,th2,mu2,ro2,s2,en2,e2,g2,t2⟩
 by_cases lt:k<ds.length
 ·refine .inr ?_
  have ek:ds[k]? = some ds[k]:=by simp
  obtain ⟨a1,a2⟩:=ok.go th2 mu2 H2 e2 s2 g2 k ds[k] ek
  refine ⟨a1,λst' H'=>k+1≤ds.length∧∃ th' mu' ro',StoOk X.z th' mu' H'∧EnvOk X.z th' H' ro' st'∧Ext th1 H1 th' H'∧gOk gd mu1 mu'∧Tr X.z th' H' (Ey gd mu1 g m (ds.drop (k+1)) ro' mu') (XT X.z E),λst' H' q=>⟨ds.length-(k+1),by omega,rfl,q⟩,λx H3 y=>?_⟩
  obtain ⟨e3,s3,r3⟩:=a2 x H3 y
  rw [List.drop_eq_getElem_cons lt] at t2
  unfold Ey at t2
  refine ⟨th2,mu2,ro2,ds[k],s3,en2.ext e3 s2.out,r3,?_⟩
  refine (t2.ahead e3).bind.mono λro4 th4 mu4 H4 e4 s4 t4 st4 en4=>?_
  refine ⟨th4,mu4,ro4,s4,en4,t4.bind.mono λp th5 mu5 H5 e5 s5 t5 st5 en5=>?_⟩
  obtain ⟨fl,ro5⟩:=p
  have e15:Ext th1 H1 th5 H5:=((e2.trans e3).trans e4).trans e5
  cases fl with
  | nx =>
   obtain ⟨a,mu',q1,q2⟩:=t5
   obtain ⟨go5,q1⟩:=Hy q1
   exact ⟨lt,th5,mu5,ro5,s5,en5,e15,go5,a,mu',q1,q2⟩
  | ct =>
   obtain ⟨a,mu',q1,q2⟩:=t5
   obtain ⟨go5,q1⟩:=Hy q1
   exact ⟨lt,th5,mu5,ro5,s5,en5,e15,go5,a,mu',q1,q2⟩
  | bk=>exact t5.ret s5 st5 en5
  | rt d=>exact t5.ret s5 st5 en5
 ·have e:k=ds.length:=by omega
  subst e
  rw [List.drop_length] at t2
  unfold Ey at t2
  exact .inl ⟨ok.stop th2 mu2 H2 e2 s2 g2,t2.ret s2 st2 en2⟩⟩
end
end PV
namespace L2
open PySem PySem.Spec PyProof.Rows
section
variable {X:Cx} {tg iter elt:Expr} {ifs:List Expr} {scope:Scope} {pos:Pos} {wi:TI} {own:List Str} {fv:List (Nat×Str)} {g:TG} {tt:TT} {te:TE}
theorem XU {pos2:Pos}{pins:List (Addr×Obj)}{s:Shared}{σ:L2.St}{H:Hp}{Q:VK}{use:Option (Value->Sem Unit)}{Qc:Value->Shared->Prop}(L:NT X scope fv)(hi:PI X tg iter wi)
  (hg:∀ cl C s₁ H₁ fp,PG (DU X scope (own++fv.map (·.2)) cl C s₁ H₁ fp) tg g)
  (ht:∀ cl C s₁ H₁ fp,PF (DU X scope (own++fv.map (·.2)) cl C s₁ H₁ fp) ifs tt)
  (he:∀ cl C s₁ H₁ fp,PE (DU X scope (own++fv.map (·.2)) cl C s₁ H₁ fp) elt te)
  (hs:∀ x,foldedSetIterable iter X.env x=pure x) (I:Inv X pins σ H s) (h:tLC wi own.length fv g tt te σ H Q)
  (fin:∀ (s6:Shared) (H':Hp) (D C:Addr) (m:Str->Option Value),Inv X pins σ H' s6->Iq X pins H' C->s6.heap.Ns C m->Q (.ref D) H'->compPost (model X.prog X.w) X.A X.xe use Qc (.ref D) C (.ok .next) s6) :
  wpAny (model X.prog X.w) X.A (comprehension (.ListComp elt [⟨tg,iter,ifs,0⟩] scope pos) scope X.env pos2 (newList []) false (eval iter X.env) use) Qc X.xe s:=by
 obtain ⟨cl,hclos,hsub,hhas⟩:=Kr (scope:=scope) (env:=X.env) λy hy hf=>I.ok.has y.1 (L.free y hy hf)
 refine wpAny_comprehension_free (use:=use) rfl hs hclos L.kind L.names (thn (hi pins s σ H _ I h) λv s1 h1=>thn h1 λitv s2 h2=>?_)
 obtain ⟨it,fp,tn,J,H2,e,I2,T,st2,f2,W,⟨m0,w0⟩,turn⟩:=h2
 subst e
 have hfo:∀ b∈fp,∃ o,s2.heap.get? b=some o:=λb hb=>let ⟨o,e,_⟩:=T.obj _ _ st2 b hb;⟨o,e⟩
 refine AU (wpAny_newFunctionEnv L.cell (by intro y hy;simp at hy) (λh₁ hns₁ hsb₁=>?_) L.kind)
 dsimp only at hns₁ hsb₁ ⊢
 have hCe:(s2.heap.push { cls:=.type "list",dict:=none,data:=.seq ([]:List Value).toArray }).objs.size=s2.heap.objs.size+1:=A9 _ _
 rw [hCe] at hns₁ hsb₁ ⊢
 have old:∀ b o,s2.heap.get? b=some o->h₁.get? b=some o:=λb o e=>hsb₁.extBut b o (Ay (A5 (Ao e))) (Ad _ (Ad _ e))
 have hD₁:h₁.get? s2.heap.objs.size=some { cls:=.type "list",data:=.seq #[] 0 }:=hsb₁.extBut _ _ (Ay (A1 _)) (Ad _ (Aj _ rfl))
 have I4:=Kw (own:=own) (tk:=s2.toks+([]:List (Str×Value)).length) I2 L f2 hfo hsub hhas hns₁ old hD₁
 generalize hXc:DU X scope (own++fv.map (·.2)) cl (s2.heap.objs.size+1) s2 H2 fp=Xc at I4
 have hg':=hg cl (s2.heap.objs.size+1) s2 H2 fp
 have ht':=ht cl (s2.heap.objs.size+1) s2 H2 fp
 have he':=he cl (s2.heap.objs.size+1) s2 H2 fp
 have st4:tn 0 h₁:=T.keep _ _ _ st2 λb _ o e=>old b o e
 have celllt:∀ x c,cl.lookup x=some c->c<s2.heap.objs.size:=λx c e=>by
  obtain ⟨v,z⟩:=I2.cell x c (hsub x c e)
  exact z.lt
 have nst:s2.heap.objs.size∉frs X.stack:=λhm=>by
  rcases Am.mp (I2.stkSub _ hm) with e|e
  ·exact absurd I2.lt (by rw [← e];exact Be _)
  ·exact I2.nofs (Ai _) e
 rw [hXc] at hg' ht' he'
 have loop:∀ s4:Shared,s4={ s2 with heap:=h₁,toks:=s2.toks+([]:List (Str×Value)).length } ->
   codeAny (model X.prog X.w) X.A (.compLoop (.ListComp elt [⟨tg,iter,ifs,0⟩] scope pos) 0 (.ref it) (.ref s2.heap.objs.size) (compEnvC scope cl (s2.heap.objs.size+1) X.env))
    (compPost (model X.prog X.w) X.A X.xe use Qc (.ref s2.heap.objs.size) (s2.heap.objs.size+1)) s4:=by
  rintro s4 rfl
  have fpok:∀ {pl:List (Addr×Obj)} {H':Hp},(∀ p∈pl,p.1=s2.heap.objs.size)->(∀ b∈fp,H' b=none)->∀ b∈fp,Iq Xc pl H' b:=λ{pl H'} hpl hn b hb=>by
   obtain ⟨o,eo⟩:=hfo b hb
   have blt:=Ao eo
   subst hXc
   refine ⟨hn b hb,Ay (A5 blt),λhm=>?_,.inl hb,λx c e=>(f2 b hb).2.2.2.2.1 x c (hsub x c e),λp hp=>?_⟩
   ·obtain ⟨_,f1,f3,_⟩:=f2 b hb
    rcases Am.mp (I2.stkSub b hm) with e|e
    ·exact f1 e
    ·exact f3 e
   ·have hp':p∈pl:=by simpa [DU] using hp
    rw [hpl p hp']
    exact Nat.ne_of_gt blt
  have xP:Xc.prog=X.prog:=by subst hXc;rfl
  have xw:Xc.w=X.w:=by subst hXc;rfl
  have xK:Xc.K=X.K:=by subst hXc;rfl
  have xA:Xc.A=X.A:=by subst hXc;rfl
  have xc:Xc.calm=true:=by subst hXc;exact L.calm
  have xx:Xc.xe=λ_ _=>False:=by subst hXc;rfl
  have xe:Xc.env=compEnvC scope cl (s2.heap.objs.size+1) X.env:=by subst hXc;rfl
  have xs:Xc.s₀=s2:=by subst hXc;rfl
  have xH:Xc.H₀=H2:=by subst hXc;rfl
  have xf:Xc.fs=frs X.stack:=by subst hXc;rfl
  have xex:Xc.ex=fp:=by subst hXc;rfl
  have xpn:Xc.pn=[]:=by subst hXc;rfl
  refine Jp (λn s'=>∃ i ys its k σ' H',Inv Xc [(s2.heap.objs.size,{ cls:=.type "list",data:=.seq its k })] σ' H' s'∧Vals ys its.toList∧tn i s'.heap∧(∀ b∈fp,H' b=none)∧W i n ys σ' H') ?_ m0
   ⟨0,[],#[],0,_,H2,I4,.nil,st4,λb hb=>(f2 b hb).1,w0⟩
  rintro n s5 ⟨i,ys,its,k,σ5,H5,I5,r5,st5,fr5,w5⟩
  obtain ⟨hlen,hst⟩:=turn i n ys σ5 H5 w5
  have hf5:=fpok (pl:=[(s2.heap.objs.size,{ cls:=.type "list",data:=.seq its k })]) (λp hp=>by simp at hp;rw [hp]) fr5
  rcases hst with ⟨stop,qn⟩|⟨go,step⟩
  ·-- the end
   have d:=T.done Xc xP xw xK xc i _ s5 σ5 H5 (λ_ _=>False) I5 hf5 st5 stop
   rw [xA] at d
   refine thn d λr s6 ⟨hr,I6⟩=>?_
   subst hr
   obtain ⟨m,hn,_⟩:=I6.loc
   rw [xe] at hn
   obtain ⟨eD,nD,_⟩:=I6.pin (s2.heap.objs.size,_) (AD _ (Aw.mpr rfl))
   have nC:H5 (s2.heap.objs.size+1)=none:=by have:=I6.free;rw [xe] at this;exact this
   have U:Un (frs X.stack) fp H2 H5 s2.heap s6.heap:=by have:=I6.base;rw [xf,xex,xs,xH] at this;exact this
   have ok6:HOk X.prog X.w H5 s6.heap:=by have:=I6.hok;rw [xP,xw] at this;exact this
   have J6:Inv X pins σ (upd H5 s2.heap.objs.size (.lst ys)) s6:=I2.call' (s':=s6) (by have:=I6.os;rw [xs] at this;exact this) (U.lay (Ai _) nD) (ok6.lay nD ⟨hlen,its.toList,k,r5,by simpa using eD⟩) I6.bare λb hb=>by
    obtain ⟨_,f1,_,f3,f4,f5⟩:=f2 b hb
    exact ⟨f3,f1,f4,f5⟩
   exact fin s6 _ _ _ m J6 (I2.fpOk (Nat.le_succ _) (by rw [Dg (Nat.ne_of_gt (A1 _))];exact nC)) hn (qn _ nD)
  ·have d:=T.item Xc xP xw xK xc i _ s5 σ5 H5 (λ_ _=>False) I5 hf5 st5 go
   rw [xA] at d
   refine thn d λr s6 ⟨u,hr,h6⟩=>?_
   subst hr
   refine thn h6 λ_ s7 ⟨x,H7,I7,r7,y7,st7,fr7⟩=>?_
   have I7':=I7.pinned (fpok (pl:=[(s2.heap.objs.size,{ cls:=.type "list",data:=.seq its k })]) (λp hp=>by simp at hp;rw [hp]) fr7) (T.obj _ _ st7)
   have a:=hg' _ s7 σ5 H7 x u _ I7' r7 (step x H7 y7)
   rw [xP,xw,xA,xx,xe] at a
   refine thn a λ_ s8 ⟨σ8,H8,I8,q8⟩=>?_
   have b:=ht' _ s8 σ8 H8 _ I8 q8
   rw [xP,xw,xA,xx,xe] at b
   refine thn b λok s9 ⟨H9,I9,q9⟩=>?_
   have back:∀ {s':Shared} {σ':St} {H':Hp},Inv Xc ([(s2.heap.objs.size,{ cls:=.type "list",data:=.seq its k })]++IW fp s7.heap) σ' H' s' ->
     tn (i+1) s'.heap∧(∀ b∈fp,H' b=none)∧s'.heap.get? s2.heap.objs.size=some { cls:=.type "list",data:=.seq its k }∧H' s2.heap.objs.size=none:=λ{s' σ' H'} J'=>by
    refine ⟨T.keep _ _ _ st7 λb hb o e=>(J'.pin (b,o) (AD _ (AD _ (Fh hb e)))).1,λb hb=>?_,?_,?_⟩
    ·obtain ⟨o,e,_⟩:=T.obj _ _ st7 b hb
     exact (J'.pin (b,o) (AD _ (AD _ (Fh hb e)))).2.1
    ·exact (J'.pin (s2.heap.objs.size,_) (AD _ (Bh _ (Aw.mpr rfl)))).1
    ·exact (J'.pin (s2.heap.objs.size,_) (AD _ (Bh _ (Aw.mpr rfl)))).2.1
   cases ok with
   | false =>
    rw [if_neg AG] at q9 ⊢
    obtain ⟨m',hm,w9⟩:=q9
    obtain ⟨b1,b2,_,_⟩:=back I9
    exact ⟨m',hm,i+1,ys,its,k,σ8,H9,I9.unpinned,r5,b1,b2,w9⟩
   | true =>
    rw [if_pos rfl] at q9 ⊢
    have c:=he' _ s9 σ8 H9 _ I9 q9
    rw [xP,xw,xA,xx,xe] at c
    refine thn c λu' s10 ⟨y,H10,I10,r10,m',hm,w10⟩=>?_
    obtain ⟨b1,b2,b3,b4⟩:=back I10
    have hz:its.size≤sizeLine:=by
     have e:=r5.length
     simp only [Array.length_toList] at e
     omega
    refine wpAny_list_append_plain (hsz:=hz) ⟨k,b3⟩ λh' hl' sb=>?_
    obtain ⟨k',hk'⟩:=hl'
    have I11:Inv Xc [] σ8 H10 s10:=I10.pins_of λp hp=>nomatch hp
    have nDL:s2.heap.objs.size≠Xc.env.locals:=by rw [xe];exact Ay (A1 _)
    have I12:Inv Xc [] σ8 H10 { s10 with heap:=h' }:=I11.turned (t':=s10.toks) (it:=s2.heap.objs.size) (λb o hb e=>(sb.2 b hb).trans e) b4 nDL
     (.inr (by rw [xs];exact Ai _)) (λx c e=>by rw [xe] at e;exact Ay (celllt x c e)) (λp hp=>by rw [xpn] at hp;exact nomatch hp)
    have I13:Inv Xc [(s2.heap.objs.size,{ cls:=.type "list",data:=.seq (its.push u') k' })] σ8 H10 { s10 with heap:=h' }:=I12.pins_of λp hp=>by
     have e:p=(s2.heap.objs.size,{ cls:=.type "list",data:=.seq (its.push u') k' }):=by simpa using hp
     subst e
     exact ⟨hk',b4,nDL,by rw [xf];exact nst,λv z=>by cases z⟩
    refine ⟨m',hm,i+1,ys++[y],its.push u',k',σ8,H10,I13,?_,T.keep _ _ _ b1 λb hb o e=>(sb.2 b ?_).trans e,b2,w10⟩
    ·rw [Array.toList_push]
     exact r5.append (.cons r10 .nil)
    ·obtain ⟨o',eo⟩:=hfo b hb
     exact Ay (Ao eo)
 exact codeAny_compStart_list (loop _ rfl) (T.self _ 0 _ _ _ st4 (loop _ rfl))
theorem QL {C:Addr}{h h':Heap}(sb:Heap.SameBut C h h'):∀ b o,b∉[C]->h.get? b=some o->h'.get? b=some o:=λb o hb e=>(sb.2 b (by simpa using hb)).trans e
theorem TC {i:Nat}{x:Str}{px spos:Pos}(L:NT X scope fv)(hi:PI X tg iter wi)
  (hg:∀ cl C s₁ H₁ fp,PG (DU X scope (own++fv.map (·.2)) cl C s₁ H₁ fp) tg g)
  (ht:∀ cl C s₁ H₁ fp,PF (DU X scope (own++fv.map (·.2)) cl C s₁ H₁ fp) ifs tt)
  (he:∀ cl C s₁ H₁ fp,PE (DU X scope (own++fv.map (·.2)) cl C s₁ H₁ fp) elt te)
  (hN:X.N.Nodup) (hix:X.N[i]? = some x) (hx:Loc X.env.scope x) (hf:X.fn x=true∨X.env.scope.names.lookup x=some .local)
  (hsw:swapsWith (.ListComp elt [⟨tg,iter,ifs,0⟩] scope pos) (some (.Name x px)) spos.line X.env=pure true) (hs:∀ x,foldedSetIterable iter X.env x=pure x) :
  PS X (.Assign [.Name x px] (.ListComp elt [⟨tg,iter,ifs,0⟩] scope pos) spos) (U7 (tLC wi own.length fv g tt te) (Rr i)):=by
 intro pins s σ H E I h
 (rw [exec_Assign_Name_used _ _ _ _ hsw])
 refine Aa (wpAny_standAt (Aa ?_))
 show wpAny _ X.A (do let _←comprehension (.ListComp elt [⟨tg,iter,ifs,0⟩] scope pos) scope X.env _ (newList []) false (eval iter X.env) (some (assign (.Name x px) X.env))) _ _ s
 refine Aa (wpAny_mono (XU (use:=some (assign (.Name x px) X.env)) (Qc:=λ_ s'=>SP X pins E .next s') (pos:=pos) L hi hg ht he hs I h λs6 H' D C m J6 fC nsC q=>?_) (λ_ s' hq=>Ac (Ac hq)) λ_ _ e=>e)
 obtain ⟨oC,es,ep,hoC,hdC,rC⟩:=id nsC
 have J7:Inv X (pins++[(C,oC)]) σ H' s6:=J6.pins_of λp hp=>(AL.mp hp).elim (λz=>J6.pin p (AD _ z)) λz=>by
  have e:p=(C,oC):=by simpa using z
  subst e
  obtain ⟨f0,f1,f2,_⟩:=fC
  exact ⟨hoC,f0,f1,f2,λv z=>by rw [hdC] at z;cases z⟩
 show wpAny _ X.A (assign (.Name x px) X.env (.ref D)) _ _ _
 refine wpAny_assign_Name (Gq J7 hN hix hx (show RelV (.ref D) (.ref D) from rfl) (λs8 I8=>?_) hf)
 have eC:=(I8.pin (C,oC) (AD _ (AD _ (Aw.mpr rfl)))).1
 refine ⟨m,⟨oC,es,ep,eC,hdC,rC⟩,λh' sb=>?_⟩
 exact ⟨_,H',(I8.unpinned).turnedL (ch:=[C]) (t':=s8.toks) (QL sb) (λb hb=>by rw [Aw.mp hb];exact fC),q⟩
end
end L2
namespace PV
open PySem L2 PySem.Spec PyProof.Rows
section
variable {X:Cx} {K:Zc} {th:List Addr} {mu:Sto} {H:Hp}
noncomputable def G3 (g:Option Nat)(m0:Sto)(tg:Gx)(tt:Tx)(el:Ex)(ro:Ro):List D->Sto->Rs (List D)
 | [],mu=>some ([],mu)
 | d::ds,mu=>bM (tg d ro mu) λro1 m1=>bM (tt ro1 m1) λb m2 =>
  if b=true then bM (el ro1 m2) λy m3=>Ff g m0 m3 (bM (G3 g m0 tg tt el ro ds m3) λys m4=>some (y::ys,m4)) else Ff g m0 m2 (G3 g m0 tg tt el ro ds m2)
noncomputable def r0 (nc:Nat)(fvs:List Nat)(ro:Ro):Ro:=List.replicate nc none++fvs.map λk=>ro.getD k none
noncomputable def eLC (i:Ix)(nc:Nat)(fvs:List Nat)(tg:Gx)(tt:Tx)(el:Ex):Ex:=λro mu=>bM (i ro mu) λp m1=>bM (G3 p.2 m1 tg tt el (r0 nc fvs ro) p.1 m1) λys m2=>some (.lst ys,m2)
noncomputable def QR (nc:Nat)(tg:Gx):Prop:=∀ d ro mu ro' mu',tg d ro mu=some (ro',mu')->ro'.length=ro.length∧∀ i,nc≤i->ro'[i]? = ro[i]?
noncomputable def Pn (nc:Nat)(tg:Gxs):Prop:=∀ d ro mu ro' mu',tg d ro mu=some (ro',mu')->ro'.length=ro.length∧∀ i,nc≤i->ro'[i]? = ro[i]?
theorem CL {nc i:Nat}(h:i<nc:=by decide):QR nc (gNm i):=λd ro mu ro' mu' e=>by
 cases e
 exact ⟨by simp,λj hj=>AV (by omega)⟩
theorem Fc {nc:Nat}:Pn nc DC:=λds ro mu ro' mu' e=>by
 cases ds with
 | nil=>cases e;exact ⟨rfl,λ_ _=>rfl⟩
 | cons d ds=>cases e
theorem Ds {nc:Nat}{g:Gx}{gs:Gxs}(h1:QR nc g)(h2:Pn nc gs):Pn nc (CB g gs):=λds ro mu ro' mu' e=>by
 cases ds with
 | nil=>cases e
 | cons d ds =>
  obtain ⟨ro1,m1,e1,e2⟩:=GP e
  obtain ⟨a1,a2⟩:=h1 _ _ _ _ _ e1
  obtain ⟨b1,b2⟩:=h2 _ _ _ _ _ e2
  exact ⟨b1.trans a1,λi hi=>(b2 i hi).trans (a2 i hi)⟩
theorem FQ {nc n:Nat}{g:Gxs}(h:Pn nc g):QR nc (gTp n g):=λd ro mu ro' mu' e=>by
 cases d with
 | tup ds =>
  unfold gTp at e
  dsimp only at e
  by_cases q:ds.length=n
  ·rw [if_pos q] at e;exact h _ _ _ _ _ e
  ·rw [if_neg q] at e;cases e
 | _=>cases e
theorem Sa {nc:Nat}{fv:List (Nat×Str)}{ro:Ro}{st:L2.St}(en:EnvOk K th H ro st):EnvOk K th H (r0 nc (fv.map (·.1)) ro) (st0 nc fv st):=by
 unfold r0 st0
 refine ⟨by simp,λi d e=>?_⟩
 by_cases hi:i<nc
 ·rw [As (by simpa using hi),Cc] at e
  split at e<;>cases e
 ·rw [AW (by simpa using hi)] at e ⊢
  simp only [List.length_replicate,BN,Al] at e ⊢
  cases q:fv[i-nc]? with
  | none=>rw [q] at e;cases e
  | some p =>
   rw [q] at e
   have e':ro.getD p.1 none=some d:=by simpa using e
   rw [AN] at e'
   have e2:ro[p.1]? = some (some d):=by
    cases w:ro[p.1]? with
    | none=>rw [w] at e';cases e'
    | some o=>rw [w] at e';exact congrArg some e'
   obtain ⟨v,ev,rv⟩:=en.2 _ _ e2
   exact ⟨v,by simp [AN,ev],rv⟩
theorem S5 {nc:Nat}{fvs:List Nat}{ro:Ro}{i:Nat}{d:D}(e:(r0 nc fvs ro)[i]? = some (some d)):nc≤i:=by
 rcases BH i nc with h|h
 ·unfold r0 at e
  rw [As (by simpa using h),Cc] at e
  split at e<;>cases e
 ·exact h
theorem Rp {i:Ix}{nc:Nat}{fv:List (Nat×Str)}{tg:Gx}{tt:Tx}{el:Ex}{st:L2.St}{Q:VK}(ow:QR nc tg)(h:rdE K (eLC i nc (fv.map (·.1)) tg tt el) st H Q):tLC (rdI K i) nc fv (rdG K tg) (rdT K tt) (rdE K el) st H Q:=by
 obtain ⟨th,mu,ro,so,en,t⟩:=h
 refine ⟨th,mu,ro,so,en,t.bind.mono λp th1 mu1 H1 e1 s1 t1 J ok=>?_⟩
 obtain ⟨ds,gd⟩:=p
 have en1:=Sa (nc:=nc) (fv:=fv) (en.ext e1 so.out)
 generalize hro:r0 nc (fv.map (·.1)) ro=ro0 at t1 en1
 have own:∀ i d,ro0[i]? = some (some d)->nc≤i:=λi d e=>by subst hro;exact S5 e
 refine ⟨λk n ys st' H'=>n=ds.length-k∧k≤ds.length∧∃ th' mu' zs,StoOk K th' mu' H'∧EnvOk K th' H' ro0 st'∧Ext th1 H1 th' H'∧gOk gd mu1 mu'∧RepL K th' H' zs ys∧zs.length≤k ∧
  Tr K th' H' (G3 gd mu1 tg tt el ro0 (ds.drop k) mu') λrest th'' mu'' H''=>∀ th3 H3 v,Ext th'' H'' th3 H3->StoOk K th3 mu'' H3->Rep K th3 H3 (.lst (zs++rest)) v->Q v H3,⟨_,rfl,AZ _,th1,mu1,[],s1,en1,.refl _ _,?_,.nil,AZ _,?_⟩,?_⟩
 ·cases gd with
  | none=>exact True.intro
  | some k=>exact rfl
 ·exact t1.bind.mono λrest th2 mu2 H2 e2 s2 t2 th3 H3 v e3 s3 rv=>t2.retX e3 s3 v rv
 rintro k n ys st2 H2 ⟨rfl,hk,th2,mu2,zs,s2,en2,e2,g2,rz,hz,t2⟩
 have hsz:=ok.sz
 dsimp only at hsz
 refine ⟨by rw [rz.len];omega,?_⟩
 by_cases lt:k<ds.length
 ·refine .inr ?_
  have ek:ds[k]? = some ds[k]:=by simp
  obtain ⟨a1,a2⟩:=ok.go th2 mu2 H2 e2 s2 g2 k ds[k] ek
  refine ⟨a1,λx H3 y=>?_⟩
  obtain ⟨e3,s3,r3⟩:=a2 x H3 y
  rw [List.drop_eq_getElem_cons lt] at t2
  unfold G3 at t2
  refine ⟨th2,mu2,ro0,ds[k],s3,en2.ext e3 s2.out,r3,?_⟩
  refine (t2.ahead e3).bindE.mono λro1 th4 mu4 H4 e4 s4 t4 st4 en4=>?_
  obtain ⟨eq4,t4⟩:=t4
  obtain ⟨ol,ow'⟩:=ow _ _ _ _ _ eq4
  have back:∀ {th' H'},Ext th4 H4 th' H'->EnvOk K th' H' ro0 st4:=λ{th' H'} ex=>by
   have en':=en4.ext ex s4.out
   refine ⟨by rw [← ol];exact en'.1,λi d e=>?_⟩
   exact en'.2 i d (by rw [ow' i (own i d e)];exact e)
  refine ⟨th4,mu4,ro1,s4,en4,t4.bind.mono λb th5 mu5 H5 e5 s5 t5=>?_⟩
  have e14:Ext th1 H1 th5 H5:=((e2.trans e3).trans e4).trans e5
  cases b with
  | false =>
   obtain ⟨a,mu',q1,q2⟩:=t5
   obtain ⟨go5,q1⟩:=Hy q1
   refine ⟨ds.length-(k+1),by omega,rfl,lt,th5,mu5,zs,s5,back e5,e14,go5,rz.ext ((e3.trans e4).trans e5) s2.out,by omega,a,mu',q1,q2⟩
  | true =>
   refine ⟨th5,mu5,ro1,s5,en4.ext e5 s4.out,Tr.mono (Tr.bind t5) λy th6 mu6 H6 e6 s6 t6 v rv=>?_⟩
   obtain ⟨a,mu',q1,q2⟩:=t6
   obtain ⟨go6,q1⟩:=Hy q1
   obtain ⟨rest,m7,q3,q4⟩:=GP q1
   cases q4
   refine ⟨ds.length-(k+1),by omega,rfl,lt,th6,mu6,zs++[y],s6,back (e5.trans e6),e14.trans e6,go6,(rz.ext (((e3.trans e4).trans e5).trans e6) s2.out).app (.cons rv .nil),by rw [Ar];exact Nat.add_le_add_right hz 1,rest,mu',q3,λth7 H7 e7 s7 th8 H8 v' e8 s8 rv'=>?_⟩
   rw [List.append_assoc] at rv'
   exact q2 th7 H7 e7 s7 th8 H8 v' e8 s8 rv'
 ·have e:k=ds.length:=by omega
  subst e
  rw [List.drop_length] at t2
  unfold G3 at t2
  refine .inl ⟨ok.stop th2 mu2 H2 e2 s2 g2,λp hp=>?_⟩
  refine t2.ret s2 th2 _ _ (.new hp _) (s2.new hp _) ?_
  rw [List.append_nil]
  exact Rep.newLst s2 hp rz (by omega)
noncomputable def tY:Tx:=λ_ mu=>some (true,mu)
structure SVF (X:Cx) (ifs:List Expr) (m:Tx):Prop where
 r:PF X ifs (rdT X.z m)
theorem Ea:SVF X [] tY:=⟨λpins s st H Q I h=>WQ pins s st H Q I (by
 obtain ⟨th,mu,ro,so,en,t⟩:=h
 exact t.ret so)⟩
theorem JS {c:Expr}{m:Tx}(h:SVT X c m):SVF X [c] m:=⟨XE h.r⟩
section
variable {tg iter elt:Expr} {ifs:List Expr} {scope:Scope} {pos:Pos} {i:Ix} {g:Gx} {tt:Tx} {el:Ex}
theorem Fy (own:List Str)(fv:List (Nat×Str))(L:NT X scope fv)(hi:SVI X tg iter i)(ow:QR own.length g)
  (hg:∀ cl C s₁ H₁ fp,SVG (DU X scope (own++fv.map (·.2)) cl C s₁ H₁ fp) tg g)
  (ht:∀ cl C s₁ H₁ fp,SVF (DU X scope (own++fv.map (·.2)) cl C s₁ H₁ fp) ifs tt)
  (he:∀ cl C s₁ H₁ fp,SV (DU X scope (own++fv.map (·.2)) cl C s₁ H₁ fp) elt el)
  (hs:∀ x,foldedSetIterable iter X.env x=pure x:=by intro _;rfl):SV X (.ListComp elt [⟨tg,iter,ifs,0⟩] scope pos) (eLC i own.length (fv.map (·.1)) g tt el):=
 ⟨PE.weak (Yr (own:=own) (g:=rdG X.z g) (tt:=rdT X.z tt) (te:=rdE X.z el) L hi.r (λcl C s₁ H₁ fp=>(hg cl C s₁ H₁ fp).r) (λcl C s₁ H₁ fp=>(ht cl C s₁ H₁ fp).r) (λcl C s₁ H₁ fp=>(he cl C s₁ H₁ fp).r) hs) λ_ _ _ h=>Rp ow h⟩
theorem IS (j:Nat){x:Str}{px spos:Pos}(own:List Str)(fv:List (Nat×Str))(L:NT X scope fv)(hi:SVI X tg iter i)(ow:QR own.length g)
  (hg:∀ cl C s₁ H₁ fp,SVG (DU X scope (own++fv.map (·.2)) cl C s₁ H₁ fp) tg g)
  (ht:∀ cl C s₁ H₁ fp,SVF (DU X scope (own++fv.map (·.2)) cl C s₁ H₁ fp) ifs tt)
  (he:∀ cl C s₁ H₁ fp,SV (DU X scope (own++fv.map (·.2)) cl C s₁ H₁ fp) elt el)
  (hN:X.N.Nodup) (hix:X.N[j]? = some x:=by rfl) (hx:Loc X.env.scope x:=by first|exact Or.inl rfl|exact Or.inr rfl) (hf:X.fn x=true∨X.env.scope.names.lookup x=some .local:=by first|exact .inl rfl|exact .inr rfl)
  (hsw:swapsWith (.ListComp elt [⟨tg,iter,ifs,0⟩] scope pos) (some (.Name x px)) spos.line X.env=pure true:=by rfl) (hs:∀ x,foldedSetIterable iter X.env x=pure x:=by intro _;rfl) :
  SVS X (.Assign [.Name x px] (.ListComp elt [⟨tg,iter,ifs,0⟩] scope pos) spos) (Dc (eLC i own.length (fv.map (·.1)) g tt el) (gNm j)):=
 ⟨PS.weak (TC (own:=own) (g:=rdG X.z g) (tt:=rdT X.z tt) (te:=rdE X.z el) L hi.r (λcl C s₁ H₁ fp=>(hg cl C s₁ H₁ fp).r) (λcl C s₁ H₁ fp=>(ht cl C s₁ H₁ fp).r) (λcl C s₁ H₁ fp=>(he cl C s₁ H₁ fp).r) hN hix hx hf hsw hs) λE st H h=>by
  obtain ⟨th,mu,ro,so,en,t⟩:=h
  refine Rp ow ⟨th,mu,ro,so,en,t.bind.mono λd th1 mu1 H1 e1 s1 t1 v rv=>?_⟩
  exact t1.ret s1 _ ((en.ext e1 so.out).set j rv)⟩
end
noncomputable def chars (x:Str):List D:=x.cps.toList.map λc=>.str ⟨#[c]⟩
noncomputable def Fv (a:Ex):Ix:=λro mu=>bM (a ro mu) λd m1=>match d with
 | .tup ds=>some ((ds,none),m1)
 | .lst ds=>some ((ds,none),m1)
 | .str x=>some ((chars x,none),m1)
 | .ref k=>match m1[k]? with
  | some (.lst ds)=>some ((ds,some k),m1)
  | _=>none
 | _=>none
theorem Ly {a:Addr}{ds:List D}{g:Option Nat}(hz:ds.length≤sizeLine)(h:∀ th' mu' H',Ext th H th' H'->StoOk K th' mu' H'->gOk g mu mu'->∃ vs,SqL K.K H' a vs∧RepL K th' H' ds vs):Rc K (Itl K.K a) th mu H ds g where
 sz:=hz
 go:=λth' mu' H' e s go i d ed=>by
  obtain ⟨vs,h1,h2⟩:=h th' mu' H' e s go
  obtain ⟨v,ev,rv⟩:=h2.get ed
  refine ⟨⟨vs,v,h1,ev⟩,λx H2 y=>?_⟩
  obtain ⟨rfl,y⟩:=y
  have ex:=y vs h1
  rw [ev] at ex
  cases ex
  exact ⟨.refl _ _,s,rv⟩
 stop:=λth' mu' H' e s go=>by
  obtain ⟨vs,h1,h2⟩:=h th' mu' H' e s go
  exact ⟨vs,h1,by rw [h2.len];exact Ai _⟩
theorem TK {a:Addr}{ds:List D}{vs:List V}(so:StoOk K th mu H)(hz:ds.length≤sizeLine)(h:SqT K.K H a vs)(r:RepL K th H ds vs):Rc K (Itt K.K a) th mu H ds none where
 sz:=hz
 go:=λth' mu' H' e s go i d ed=>by
  have h1:=e.sqT so.out h
  obtain ⟨v,ev,rv⟩:=(r.ext e so.out).get ed
  refine ⟨⟨vs,v,h1,ev⟩,λx H2 y=>?_⟩
  obtain ⟨rfl,y⟩:=y
  have ex:=y vs h1
  rw [ev] at ex
  cases ex
  exact ⟨.refl _ _,s,rv⟩
 stop:=λth' mu' H' e s go=>⟨vs,e.sqT so.out h,by rw [r.len];exact Ai _⟩
theorem MQ {x:Str}{c:Nat}(ok:PyData.strOk x=true)(h:c∈x.cps.toList):Rep K th H (.str ⟨#[c]⟩) (.str ⟨#[c]⟩):=by
 unfold Rep
 refine ⟨rfl,by show 1≤sizeLine;decide,?_⟩
 unfold PyData.strOk at ok ⊢
 rw [← Array.all_toList] at ok ⊢
 simpa using Au.mp ok c h
theorem TF {x:Str}(hz:x.length≤sizeLine)(ok:PyData.strOk x=true):Rc K (Its x) th mu H (chars x) none where
 sz:=by unfold chars;rw [Ag,Array.length_toList];exact hz
 go:=λth' mu' H' e s go i d ed=>by
  unfold chars at ed
  rw [Al] at ed
  cases q:x.cps.toList[i]? with
  | none=>rw [q] at ed;cases ed
  | some c =>
   rw [q] at ed
   have hd:D.str ⟨#[c]⟩=d:=by simpa using ed
   subst hd
   have hlt:=(Ae.mp q).1
   refine ⟨by show i<x.cps.size;simpa using hlt,λv H2 y=>?_⟩
   obtain ⟨rfl,c',hc',rfl⟩:=y
   have:c'=c:=by
    rw [← Ax,q] at hc'
    exact (AB hc').symm
   subst this
   exact ⟨.refl _ _,s,MQ ok (Ak q)⟩
 stop:=λth' mu' H' e s go=>by show (chars x).length=x.cps.size;unfold chars;simp
theorem DN {tg e:Expr}{m:Ex}(h:SV X e m):SVI X tg e (Fv m):=⟨by
 intro pins s st H R I q
 obtain ⟨th,mu,ro,so,en,t⟩:=q
 obtain ⟨p,mu',e1,q1⟩:=id t
 obtain ⟨d,m1,e2,e3⟩:=GP e1
 have t':=t.bindE
 cases d with
 | tup ds =>
  refine X1 h.r pins s st H R I ⟨th,mu,ro,so,en,t'.mono λd th1 mu1 H1 x1 s1 t1 v rv=>?_⟩
  obtain ⟨eq,t1⟩:=t1
  rw [e2] at eq
  cases eq
  unfold Rep at rv
  obtain ⟨a,vs,rfl,hs,rl,hz⟩:=rv
  exact ⟨a,rfl,⟨vs,hs⟩,t1.ret s1 _ (TK s1 hz hs rl)⟩
 | lst ds =>
  refine OW h.r pins s st H R I ⟨th,mu,ro,so,en,t'.mono λd th1 mu1 H1 x1 s1 t1 v rv=>?_⟩
  obtain ⟨eq,t1⟩:=t1
  rw [e2] at eq
  cases eq
  unfold Rep at rv
  obtain ⟨a,vs,rfl,hs,rl,hz⟩:=rv
  exact ⟨a,rfl,⟨vs,hs.sq⟩,t1.ret s1 _ (Ly hz λth' mu' H' e s' _=>⟨vs,(e.fz hs).sq,rl.ext e s1.out⟩)⟩
 | str x =>
  refine Xx h.r pins s st H R I ⟨th,mu,ro,so,en,t'.mono λd th1 mu1 H1 x1 s1 t1 v rv=>?_⟩
  obtain ⟨eq,t1⟩:=t1
  rw [e2] at eq
  cases eq
  unfold Rep at rv
  obtain ⟨rfl,hz,ok⟩:=rv
  exact ⟨x,rfl,t1.ret s1 _ (TF hz ok)⟩
 | ref k =>
  refine OW h.r pins s st H R I ⟨th,mu,ro,so,en,t'.mono λd th1 mu1 H1 x1 s1 t1 v rv=>?_⟩
  obtain ⟨eq,t1⟩:=t1
  rw [e2] at eq
  cases eq
  unfold Rep at rv
  obtain ⟨a,rfl,ha⟩:=rv
  dsimp only at t1
  cases em:m1[k]? with
  | none=>rw [em] at t1;exact t1.no.elim
  | some o =>
   cases o with
   | dct _ _=>rw [em] at t1;exact t1.no.elim
   | lst ds =>
    rw [em] at t1
    obtain ⟨vs,h1,h2,hz⟩:=s1.at' k a _ ha em
    refine ⟨a,rfl,⟨vs,.inl (.inl h1)⟩,t1.ret s1 _ (Ly hz λth' mu' H' e s' go=>?_)⟩
    have em':mu'[k]? = some (.lst ds):=by rw [← em];exact (show m1[k]? = mu'[k]? from go).symm
    obtain ⟨vs',h1',h2',_⟩:=s'.at' k a _ (e.at ha) em'
    exact ⟨vs',.inl (.inl h1'),h2'⟩
 | non=>cases e3
 | bl b=>cases e3
 | int b=>cases e3
 | dct _ _=>cases e3
 | set _=>cases e3⟩
end
mutual
noncomputable def toPy:D->PyData
 | .non=>.none
 | .bl b=>.bool b
 | .int i=>.int i
 | .str x=>.str x
 | .tup ds=>.tuple (CJ ds)
 | .lst ds=>.list (CJ ds)
 | .dct _ _=>.none
 | .set _=>.none
 | .ref _=>.none
noncomputable def CJ:List D->List PyData
 | []=>[]
 | d::ds=>toPy d::CJ ds
end
mutual
noncomputable def CS:D->Bool
 | .tup ds=>D6 ds
 | .lst ds=>D6 ds
 | .dct _ _=>false
 | .set _=>false
 | .ref _=>false
 | _=>true
noncomputable def D6:List D->Bool
 | []=>true
 | d::ds=>CS d&&D6 ds
end
noncomputable def seen (mu:Sto):D->D
 | .ref k=>match mu[k]? with
  | some (.lst ds)=>.lst ds
  | _=>.ref k
 | d=>d
noncomputable def eqB (mu:Sto)(d e:D):Option Bool:=if CS (seen mu d)&&CS (seen mu e)&&decide (min (toPy (seen mu d)).depth (toPy (seen mu e)).depth≤60) then some (PyData.eqv (toPy (seen mu d)) (toPy (seen mu e))) else none
noncomputable def eqD (d e:D)(mu:Sto):Rs D:=(eqB mu d e).map λb=>(.bl b,mu)
noncomputable def neD (d e:D)(mu:Sto):Rs D:=(eqB mu d e).map λb=>(.bl (!b),mu)
section
variable {X:Cx} {K:Zc} {th:List Addr} {mu:Sto} {H:Hp}
mutual
theorem EW {pins:List (Addr×Obj)}{st:L2.St}{s:Shared}(I:L2.Inv X pins st H s):∀ (d:D) (v:V) (u:Value),CS d=true->Rep X.z th H d v->RelV v u->∃ as,Reads s.heap u (toPy d) as∧(toPy d).canLay0=true
 | .non,_,_,_,r,q=>by cases (show _=_ from r);cases q;exact ⟨_,.none,rfl⟩
 | .bl b,_,_,_,r,q=>by cases (show _=_ from r);cases q;exact ⟨_,.bool b,rfl⟩
 | .int i,_,_,_,r,q=>by cases (show _=_ from r);obtain ⟨t,rfl⟩:=q;exact ⟨_,.int i t,rfl⟩
 | .str x,_,_,_,r,q=>by obtain ⟨rfl,hz,ok⟩:=(show _∧_∧_ from r);obtain ⟨t,rfl⟩:=q;exact ⟨_,.str x t,ok⟩
 | .tup ds,_,_,p,r,q=>by
  unfold Rep at r
  obtain ⟨a,vs,rfl,hs,rl,_⟩:=r
  cases q
  obtain ⟨its,rv,⟨o,h1,h2,n,h3⟩,_⟩:=I.tuple hs
  unfold CS at p
  obtain ⟨as,h4,h5⟩:=F6 I ds vs its p rl rv
  exact ⟨as,by unfold toPy;exact .tuple h1 h2 h3 (by simpa using h4),by unfold toPy PyData.canLay0;exact h5⟩
 | .lst ds,_,_,p,r,q=>by
  unfold Rep at r
  obtain ⟨a,vs,rfl,hs,rl,_⟩:=r
  cases q
  obtain ⟨its,rv,⟨o,n,h1,h2,_,h3⟩,_⟩:=I.list hs.sq
  unfold CS at p
  obtain ⟨as,h4,h5⟩:=F6 I ds vs its p rl rv
  exact ⟨_,by unfold toPy;exact .list h1 h2 h3 (by simpa using h4),by unfold toPy PyData.canLay0;exact h5⟩
 | .dct _ _,_,_,p,_,_=>by cases p
 | .set _,_,_,p,_,_=>by cases p
 | .ref k,_,_,p,_,_=>by cases p
theorem F6 {pins:List (Addr×Obj)}{st:L2.St}{s:Shared}(I:L2.Inv X pins st H s):∀ (ds:List D) (vs:List V) (us:List Value),D6 ds=true->RepL X.z th H ds vs->Vals vs us->∃ as,ReadsAll s.heap us (CJ ds) as∧PyData.canLayAll0 (CJ ds)=true
 | [],_,_,_,r,q=>by cases r.inv0;cases q;exact ⟨_,.nil,rfl⟩
 | d::ds,_,_,p,r,q=>by
  obtain ⟨v,r',rfl,r1,r2⟩:=r.inv
  unfold D6 at p
  rw [Ab] at p
  cases q with
  | cons q1 q2 =>
   obtain ⟨as,a1,a2⟩:=EW I d v _ p.1 r1 q1
   obtain ⟨bs,b1,b2⟩:=F6 I ds r' _ p.2 r2 q2
   exact ⟨_,.cons a1 b1,by unfold CJ PyData.canLayAll0;rw [a2,b2];rfl⟩
end
theorem Fe {pins:List (Addr×Obj)}{st:L2.St}{s:Shared}(I:L2.Inv X pins st H s)(so:StoOk X.z th mu H){d:D}{v:V}{u:Value}(p:CS (seen mu d)=true)(r:Rep X.z th H d v)(q:RelV v u):∃ as,Reads s.heap u (toPy (seen mu d)) as∧(toPy (seen mu d)).canLay0=true:=by
 cases d with
 | ref k =>
  unfold seen at p ⊢
  dsimp only at p ⊢
  cases e:mu[k]? with
  | none=>rw [e] at p;cases p
  | some o =>
   cases o with
   | dct _ _=>rw [e] at p;cases p
   | lst ds =>
    rw [e] at p
    dsimp only at p ⊢
    unfold Rep at r
    obtain ⟨a,rfl,ha⟩:=r
    obtain ⟨vs,h1,rl,hz⟩:=so.at' k a _ ha e
    cases q
    obtain ⟨its,rv,⟨o,n,h2,h3,_,h4⟩,_⟩:=I.list (.inl (.inl h1))
    unfold CS at p
    obtain ⟨as,h5,h6⟩:=F6 I ds vs its p rl rv
    exact ⟨_,by unfold toPy;exact .list h2 h3 h4 (by simpa using h5),by unfold toPy PyData.canLay0;exact h6⟩
 | _=>exact EW I _ v u p r q
theorem E3 (hu:X.A.units+64<cLine):OpV X (compareOp .Eq) eqD:=by
 intro pins s st H x y v u Q I rx ry h
 obtain ⟨th,mu,d,e,so,r1,r2,t⟩:=h
 unfold eqD eqB at t
 by_cases hc:(CS (seen mu d)&&CS (seen mu e)&&decide (min (toPy (seen mu d)).depth (toPy (seen mu e)).depth≤60))=true
 ·rw [if_pos hc] at t
  rw [Ab,Ab,Af] at hc
  obtain ⟨as,a1,a2⟩:=Fe I so hc.1.1 r1 rx
  obtain ⟨bs,b1,b2⟩:=Fe I so hc.1.2 r2 ry
  exact SeqAt.rcAt_reads a1 b1 a2 b2 (by omega) _ _ _ _ ⟨.bl _,H,I,rfl,t.ret so _ rfl⟩
 ·rw [if_neg hc] at t
  exact t.no.elim
theorem Jd (hu:X.A.units+64<cLine):OpV X (compareOp .NotEq) neD:=by
 intro pins s st H x y v u Q I rx ry h
 obtain ⟨th,mu,d,e,so,r1,r2,t⟩:=h
 unfold neD eqB at t
 by_cases hc:(CS (seen mu d)&&CS (seen mu e)&&decide (min (toPy (seen mu d)).depth (toPy (seen mu e)).depth≤60))=true
 ·rw [if_pos hc] at t
  rw [Ab,Ab,Af] at hc
  obtain ⟨as,a1,a2⟩:=Fe I so hc.1.1 r1 rx
  obtain ⟨bs,b1,b2⟩:=Fe I so hc.1.2 r2 ry
  exact SeqAt.rcNeAt_reads a1 b1 a2 b2 (by omega) _ _ _ _ ⟨.bl _,H,I,rfl,t.ret so _ rfl⟩
 ·rw [if_neg hc] at t
  exact t.no.elim
noncomputable def inB (mu:Sto)(d c:D):Option Bool:=match d,seen mu c with
 | .str x,.str y=>some (!(Builtin.Str.occurrences y x 0 y.length 1).isEmpty)
 | d,.tup ds=>if CS d&&D6 ds&&decide (min (PyData.depthAll (CJ ds)) (toPy d).depth≤60) then some ((CJ ds).any λy=>PyData.eqv y (toPy d)) else none
 | d,.lst ds=>if CS d&&D6 ds&&decide (min (PyData.depthAll (CJ ds)) (toPy d).depth≤60) then some ((CJ ds).any λy=>PyData.eqv y (toPy d)) else none
 | _,_=>none
noncomputable def inD (d c:D)(mu:Sto):Rs D:=(inB mu d c).map λb=>(.bl b,mu)
noncomputable def Ut (d c:D)(mu:Sto):Rs D:=(inB mu d c).map λb=>(.bl (!b),mu)
theorem Nm {d c:D}{b:Bool}(h:inB mu d c=some b):(∃ x y,d=.str x∧c=.str y∧b = !(Builtin.Str.occurrences y x 0 y.length 1).isEmpty) ∨
  ∃ ds,(seen mu c=.tup ds∨seen mu c=.lst ds)∧CS d=true∧D6 ds=true∧min (PyData.depthAll (CJ ds)) (toPy d).depth≤60∧b=(CJ ds).any λy=>PyData.eqv y (toPy d):=by
 have fin:∀ ds,(if CS d&&D6 ds&&decide (min (PyData.depthAll (CJ ds)) (toPy d).depth≤60) then some ((CJ ds).any λy=>PyData.eqv y (toPy d)) else none)=some b->CS d=true∧D6 ds=true∧min (PyData.depthAll (CJ ds)) (toPy d).depth≤60∧b=(CJ ds).any λy=>PyData.eqv y (toPy d):=λds e=>by
  by_cases hc:(CS d&&D6 ds&&decide (min (PyData.depthAll (CJ ds)) (toPy d).depth≤60))=true
  ·rw [if_pos hc] at e
   rw [Ab,Ab,Af] at hc
   exact ⟨hc.1.1,hc.1.2,hc.2,(AB e).symm⟩
  ·rw [if_neg hc] at e;cases e
 unfold inB at h
 cases hs:seen mu c with
 | tup ds=>rw [hs] at h;cases d<;>exact .inr ⟨ds,.inl rfl,fin ds h⟩
 | lst ds=>rw [hs] at h;cases d<;>exact .inr ⟨ds,.inr rfl,fin ds h⟩
 | str y =>
  rw [hs] at h
  cases d with
  | str x =>
   have:c=.str y:=by
    cases c with
    | ref k =>
     unfold seen at hs
     dsimp only at hs
     cases e:mu[k]? with
     | none=>rw [e] at hs;cases hs
     | some o=>cases o<;>(rw [e] at hs;cases hs)
    | _=>exact hs
   exact .inl ⟨x,y,rfl,this,(AB h).symm⟩
  | _=>cases h
 | non=>rw [hs] at h;cases d<;>cases h
 | bl _=>rw [hs] at h;cases d<;>cases h
 | int _=>rw [hs] at h;cases d<;>cases h
 | dct _ _=>rw [hs] at h;cases d<;>cases h
 | set _=>rw [hs] at h;cases d<;>cases h
 | ref _=>rw [hs] at h;cases d<;>cases h
theorem WK (hu:X.A.units+64<cLine):OpV X (compareOp .In) inD:=by
 intro pins s st H x y v u Q I rx ry h
 obtain ⟨th,mu,d,c,so,r1,r2,t⟩:=h
 unfold inD at t
 cases e:inB mu d c with
 | none=>rw [e] at t;exact t.no.elim
 | some b =>
  rw [e] at t
  have q:Q (.bl b) H:=t.ret so _ rfl
  rcases Nm e with ⟨x',y',rfl,rfl,hb⟩|⟨ds,hs,p1,p2,p3,hb⟩
  ·obtain ⟨rfl,_⟩:=(show _∧_ from r1)
   obtain ⟨rfl,_⟩:=(show _∧_ from r2)
   exact P6 pins s st H _ _ v u Q I rx ry ⟨x',y',rfl,rfl,by rw [← hb];exact q⟩
  ·obtain ⟨as,a1,a2⟩:=EW I d x v p1 r1 rx
   have pc:CS (seen mu c)=true:=by rcases hs with e|e<;>(rw [e];unfold CS;exact p2)
   obtain ⟨bs,b1,b2⟩:=Fe I so pc r2 ry
   rw [hb] at q
   rcases hs with e|e
   ·rw [e] at b1 b2
    unfold toPy at b1 b2
    exact SeqAt.in_tuple_reads b1 a1 b2 a2 (by omega) ⟨.bl _,H,I,rfl,q⟩
   ·rw [e] at b1 b2
    unfold toPy at b1 b2
    exact SeqAt.in_list_reads b1 a1 b2 a2 (by omega) ⟨.bl _,H,I,rfl,q⟩
theorem Uc (hu:X.A.units+64<cLine):OpV X (compareOp .NotIn) Ut:=by
 intro pins s st H x y v u Q I rx ry h
 obtain ⟨th,mu,d,c,so,r1,r2,t⟩:=h
 unfold Ut at t
 cases e:inB mu d c with
 | none=>rw [e] at t;exact t.no.elim
 | some b =>
  rw [e] at t
  have q:Q (.bl (!b)) H:=t.ret so _ rfl
  rcases Nm e with ⟨x',y',rfl,rfl,hb⟩|⟨ds,hs,p1,p2,p3,hb⟩
  ·obtain ⟨rfl,_⟩:=(show _∧_ from r1)
   obtain ⟨rfl,_⟩:=(show _∧_ from r2)
   exact Ms pins s st H _ _ v u Q I rx ry ⟨x',y',rfl,rfl,by rw [← hb];exact q⟩
  ·obtain ⟨as,a1,a2⟩:=EW I d x v p1 r1 rx
   have pc:CS (seen mu c)=true:=by rcases hs with e|e<;>(rw [e];unfold CS;exact p2)
   obtain ⟨bs,b1,b2⟩:=Fe I so pc r2 ry
   rw [hb] at q
   rcases hs with e|e
   ·rw [e] at b1 b2
    unfold toPy at b1 b2
    exact SeqAt.notIn_tuple_reads b1 a1 b2 a2 (by omega) ⟨.bl _,H,I,rfl,q⟩
   ·rw [e] at b1 b2
    unfold toPy at b1 b2
    exact SeqAt.notIn_list_reads b1 a1 b2 a2 (by omega) ⟨.bl _,H,I,rfl,q⟩
end
section
variable {X:Cx} {K:Zc} {th:List Addr} {mu:Sto} {H:Hp}
noncomputable def Vb (d e:D)(mu:Sto):Rs D:=match d,e with
 | .int i,.int j=>some (.int (i-j),mu)
 | _,_=>none
theorem O6:OpV X (binaryOp .Sub) Vb:=by
 intro pins s st H x y v u Q I rx ry h
 obtain ⟨th,mu,d,e,so,r1,r2,t⟩:=h
 cases d with
 | int i =>
  cases e with
  | int j=>exact Xb pins s st H x y v u Q I rx ry ⟨i,j,r1,r2,t.ret so _ rfl⟩
  | _=>exact t.no.elim
 | _=>exact t.no.elim
noncomputable instance (i j:Int):Decidable (CMul i j):=by unfold CMul;infer_instance
noncomputable instance (i j:Int):Decidable (Ma i j):=by unfold Ma;infer_instance
noncomputable instance (i j:Int):Decidable (P4 i j):=by unfold P4;infer_instance
theorem Qy {x y:Str}(hx:PyData.strOk x=true)(hy:PyData.strOk y=true):PyData.strOk (x++y)=true:=by
 unfold PyData.strOk at *
 show (Array.all (x.cps++y.cps) _)=true
 rw [← Array.all_toList] at *
 rw [Array.toList_append,List.all_append,hx,hy]
 rfl
theorem len_app (x y:Str):(x++y).length=x.length+y.length:=by
 show (x.cps++y.cps).size=_
 rw [Array.size_append]
 rfl
noncomputable def Gm (d e:D)(mu:Sto):Rs D:=match d,e with
 | .int i,.int j=>if 0<j then some (.int (i % j),mu) else none
 | _,_=>none
theorem Fz:OpV X (binaryOp .Mod) Gm:=by
 intro pins s st H x y v u Q I rx ry h
 obtain ⟨th,mu,d,e,so,r1,r2,t⟩:=h
 cases d with
 | int i =>
  cases e with
  | int j =>
   unfold Gm at t;dsimp only at t
   by_cases c:0<j
   ·rw [if_pos c] at t;exact WO pins s st H x y v u Q I rx ry ⟨i,j,r1,r2,c,t.ret so _ rfl⟩
   ·rw [if_neg c] at t;exact t.no.elim
  | _=>exact t.no.elim
 | _=>exact t.no.elim
noncomputable def KG (d e:D)(mu:Sto):Rs D:=match d,e with
 | .int i,.int j=>if Ma i j then some (.int (i / j),mu) else none
 | _,_=>none
theorem KP:OpV X (binaryOp .FloorDiv) KG:=by
 intro pins s st H x y v u Q I rx ry h
 obtain ⟨th,mu,d,e,so,r1,r2,t⟩:=h
 cases d with
 | int i =>
  cases e with
  | int j =>
   unfold KG at t;dsimp only at t
   by_cases c:Ma i j
   ·rw [if_pos c] at t;exact TX pins s st H x y v u Q I rx ry ⟨i,j,r1,r2,c,t.ret so _ rfl⟩
   ·rw [if_neg c] at t;exact t.no.elim
  | _=>exact t.no.elim
 | _=>exact t.no.elim
noncomputable def RY (d e:D)(mu:Sto):Rs D:=match d,e with
 | .int i,.int j=>if P4 i j then some (.int (i ^ j.toNat),mu) else none
 | _,_=>none
theorem Ub:OpV X (binaryOp .Pow) RY:=by
 intro pins s st H x y v u Q I rx ry h
 obtain ⟨th,mu,d,e,so,r1,r2,t⟩:=h
 cases d with
 | int i =>
  cases e with
  | int j =>
   unfold RY at t;dsimp only at t
   by_cases c:P4 i j
   ·rw [if_pos c] at t;exact XW pins s st H x y v u Q I rx ry ⟨i,j,r1,r2,c,t.ret so _ rfl⟩
   ·rw [if_neg c] at t;exact t.no.elim
  | _=>exact t.no.elim
 | _=>exact t.no.elim
noncomputable instance (z:Str) (n:Int):Decidable (MulOk z n):=by unfold MulOk;infer_instance
noncomputable def Gg (d e:D)(mu:Sto):Rs D:=match d,e with
 | .int i,.int j=>if CMul i j then some (.int (i*j),mu) else none
 | .str z,.int n=>if MulOk z n∧(Txt.mul z n).length≤sizeLine∧PyData.strOk (Txt.mul z n)=true then some (.str (Txt.mul z n),mu) else none
 | _,_=>none
theorem Fp:OpV X (binaryOp .Mult) Gg:=by
 intro pins s st H x y v u Q I rx ry h
 obtain ⟨th,mu,d,e,so,r1,r2,t⟩:=h
 cases d with
 | int i =>
  cases e with
  | int j =>
   unfold Gg at t;dsimp only at t
   by_cases c:CMul i j
   ·rw [if_pos c] at t;exact WL pins s st H x y v u Q I rx ry ⟨i,j,r1,r2,c,t.ret so _ rfl⟩
   ·rw [if_neg c] at t;exact t.no.elim
  | _=>exact t.no.elim
 | str z =>
  cases e with
  | int j =>
   unfold Gg at t;dsimp only at t
   by_cases c:MulOk z j∧(Txt.mul z j).length≤sizeLine∧PyData.strOk (Txt.mul z j)=true
   ·rw [if_pos c] at t;exact N3 pins s st H x y v u Q I rx ry ⟨z,j,r1.1,r2,c.1,t.ret so _ ⟨rfl,c.2⟩⟩
   ·rw [if_neg c] at t;exact t.no.elim
  | _=>exact t.no.elim
 | _=>exact t.no.elim
theorem Tn {a b:Addr}{ys:List V}{pins:List (Addr×Obj)}{st:L2.St}{s:Shared}{Q:VK}(I:L2.Inv X pins st H s)(ha:SqT X.K H a [])(hb:SqT X.K H b ys)(q:Q (.ref b) H):wpAny (model X.prog X.w) X.A (binaryOp .Add (.ref a) (.ref b)) (EP X pins st Q) X.xe s:=by
 obtain ⟨its,r1,p1,_⟩:=I.tuple ha
 obtain ⟨its2,r2,p2,_⟩:=I.tuple hb
 have e:its=[]:=by cases r1;rfl
 subst e
 obtain ⟨⟨cls,dd,data,sl⟩,ho,hc,n,hd⟩:=id p1
 obtain ⟨⟨cls2,dd2,data2,sl2⟩,ho2,hc2,n2,hd2⟩:=id p2
 simp only at hc hd hc2 hd2
 subst hc hd hc2 hd2
 exact concat_meets ⟨_,ho,rfl⟩ ⟨_,ho2,rfl⟩ noFill_tuple_add seq_tuple_add PySem.F.slot_tuple_add PySem.F.entry_tuple_add (PySem.F.args_tuple_add_2 _ _)
   (tuple_addW0 a b _ its2.toArray n n2 dd dd2 sl sl2 (by simp)) ⟨ho,ho2,⟨.ref b,H,I,rfl,q⟩⟩
theorem UJ {a b:Addr}{xs ys:List V}{pins:List (Addr×Obj)}{st:L2.St}{s:Shared}{Q:VK}(I:L2.Inv X pins st H s)(ha:SqL X.K H a xs)(hb:SqL X.K H b ys)(hz:xs.length+ys.length≤sizeLine)(q:∀ p,H p=none->Q (.ref p) (upd H p (.lst (xs++ys)))):wpAny (model X.prog X.w) X.A (binaryOp .Add (.ref a) (.ref b)) (EP X pins st Q) X.xe s:=by
 obtain ⟨its,r1,⟨o1,n1,p1,c1,d1,e1⟩,_⟩:=I.list ha
 obtain ⟨its2,r2,⟨o2,n2,p2,c2,d2,e2⟩,_⟩:=I.list hb
 obtain ⟨cls,dd,data,sl⟩:=o1
 obtain ⟨cls2,dd2,data2,sl2⟩:=o2
 simp only at c1 d1 e1 c2 d2 e2
 subst c1 d1 e1 c2 d2 e2
 refine concat_meets ⟨_,p1,rfl⟩ ⟨_,p2,rfl⟩ noFill_list_add seq_list_add PySem.F.slot_list_add PySem.F.entry_list_add (PySem.F.args_list_add_2 _ _)
   (list_addW a b _ its2.toArray n1 n2 _ _ sl sl2 (by rw [An,An,← r1.length,← r2.length];exact hz)) ⟨p1,p2,?_⟩
 refine ⟨.ref s.heap.objs.size,_,I.laid (t':=s.toks) (o:=.lst (xs++ys)) (λb ob q=>Ad _ q) (Ai _) ?_,rfl,q _ (I.hok.fresh (Ai _))⟩
 exact ⟨by rw [Ar];exact hz,its++its2,0,r1.append r2,by simpa using Aj _ rfl⟩
noncomputable def DS (mu:Sto):D->Option (List D)
 | .lst ds=>some ds
 | .ref k=>match mu[k]? with
  | some (.lst ds)=>some ds
  | _=>none
 | _=>none
theorem EM (so:StoOk K th mu H){d:D}{ds:List D}{v:V}(h:DS mu d=some ds)(r:Rep K th H d v):∃ a vs,v=.ref a∧SqL K.K H a vs∧RepL K th H ds vs∧ds.length≤sizeLine:=by
 cases d with
 | lst es=>cases h;unfold Rep at r;obtain ⟨a,vs,rfl,h1,h2,h3⟩:=r;exact ⟨a,vs,rfl,h1.sq,h2,h3⟩
 | ref k =>
  unfold DS at h
  dsimp only at h
  cases e:mu[k]? with
  | none=>rw [e] at h;cases h
  | some o =>
   cases o with
   | dct _ _=>rw [e] at h;cases h
   | lst es =>
    rw [e] at h
    cases h
    unfold Rep at r
    obtain ⟨a,rfl,ha⟩:=r
    obtain ⟨vs,h1,h2,h3⟩:=so.at' k a _ ha e
    exact ⟨a,vs,rfl,.inl (.inl h1),h2,h3⟩
 | _=>cases h
noncomputable def Df (d e:D)(mu:Sto):Rs D:=match d,e with
 | .int i,.int j=>some (.int (i+j),mu)
 | .str x,.str y=>if x.length+y.length≤sizeLine then some (.str (x++y),mu) else none
 | .tup xs,.tup ys=>if xs.length+ys.length≤sizeLine then some (.tup (xs++ys),mu) else none
 | d,e=>match DS mu d,DS mu e with
  | some xs,some ys=>if xs.length+ys.length≤sizeLine then some (.lst (xs++ys),mu) else none
  | _,_=>none
theorem CQ:OpV X (binaryOp .Add) Df:=by
 intro pins s st H x y v u Q I rx ry h
 obtain ⟨th,mu,d,e,so,r1,r2,t⟩:=h
 have lists:∀ (t:Tr X.z th H (match DS mu d,DS mu e with
  | some xs,some ys=>if xs.length+ys.length≤sizeLine then some (D.lst (xs++ys),mu) else none
  | _,_=>none) (KV' X.z Q)),wpAny (model X.prog X.w) X.A (binaryOp .Add v u) (EP X pins st Q) X.xe s:=λt=>by
  cases e1:DS mu d with
  | none=>rw [e1] at t;exact t.no.elim
  | some xs =>
   cases e2:DS mu e with
   | none=>rw [e1,e2] at t;exact t.no.elim
   | some ys =>
    rw [e1,e2] at t
    dsimp only at t
    by_cases c:xs.length+ys.length≤sizeLine
    ·rw [if_pos c] at t
     obtain ⟨a,vs,rfl,h1,h2,h3⟩:=EM so e1 r1
     obtain ⟨b,us,rfl,k1,k2,k3⟩:=EM so e2 r2
     cases rx
     cases ry
     refine UJ I h1 k1 (by rw [h2.len,k2.len];exact c) λp hp=>t.retX (.new hp _) (so.new hp _) _ (Rep.newLst so hp (h2.app k2) (by rw [Ar];exact c))
    ·rw [if_neg c] at t;exact t.no.elim
 cases d with
 | int i =>
  cases e with
  | int j=>exact X4 pins s st H x y v u Q I rx ry ⟨i,j,r1,r2,t.ret so _ rfl⟩
  | _=>exact lists t
 | str i =>
  cases e with
  | str j =>
   unfold Df at t;dsimp only at t
   by_cases c:i.length+j.length≤sizeLine
   ·rw [if_pos c] at t
    exact Oz pins s st H x y v u Q I rx ry ⟨i,j,r1.1,r2.1,c,t.ret so _ ⟨rfl,by rw [len_app];exact c,Qy r1.2.2 r2.2.2⟩⟩
   ·rw [if_neg c] at t;exact t.no.elim
  | _=>exact lists t
 | tup xs =>
  cases e with
  | tup ys =>
   unfold Df at t;dsimp only at t
   by_cases c:xs.length+ys.length≤sizeLine
   ·rw [if_pos c] at t
    unfold Rep at r1 r2
    obtain ⟨a,vs,rfl,h1,h2,h3⟩:=r1
    obtain ⟨b,us,rfl,k1,k2,k3⟩:=r2
    cases rx
    cases ry
    cases xs with
    | nil =>
     cases h2.inv0
     exact Tn I h1 k1 (t.ret so _ (by unfold Rep;exact ⟨b,us,rfl,k1,k2,k3⟩))
    | cons x0 xs0 =>
     obtain ⟨v0,vr,rfl,_,_⟩:=h2.inv
     refine UB pins s st H (.ref a) (.ref b) _ _ Q I rfl rfl ⟨a,b,v0::vr,us,rfl,rfl,h1,k1,by simp,by rw [h2.len,k2.len];exact c,λhu=>?_,λ_ p hp=>t.retX (.new hp _) (so.new hp _) _ (Rep.newTup so hp (h2.app k2) (by rw [Ar];exact c))⟩
     subst hu
     have:ys=[]:=List.length_eq_zero_iff.mp (by rw [← k2.len];rfl)
     subst this
     rw [List.append_nil] at t
     exact t.ret so _ (by unfold Rep;exact ⟨a,_,rfl,h1,h2,h3⟩)
   ·rw [if_neg c] at t;exact t.no.elim
  | _=>exact lists t
 | _=>exact lists t
noncomputable def Tp (f:Int->Int->Bool)(g:Str->Str->Bool)(d e:D)(mu:Sto):Rs D:=match d,e with
 | .int i,.int j=>some (.bl (f i j),mu)
 | .str i,.str j=>some (.bl (g i j),mu)
 | _,_=>none
noncomputable def leD:=Tp (λi j=>decide (i≤j)) λi j=>!decide (j.cps.toList<i.cps.toList)
noncomputable def gtD:=Tp (λi j=>decide (j<i)) λi j=>decide (j.cps.toList<i.cps.toList)
noncomputable def geD:=Tp (λi j=>decide (j≤i)) λi j=>!decide (i.cps.toList<j.cps.toList)
theorem Mz {op:CmpOp}{f:Int->Int->Bool}{g:Str->Str->Bool}(h1:OpR X (compareOp op) (rI0 λi j=>.bl (f i j)))
  (h2:∀ (i j:Str) (t t':Tok) (s:Shared) (Q:Value->Shared->Prop),Q (.bool (g i j)) s->wpAny (model X.prog X.w) X.A (compareOp op (.str i t) (.str j t')) Q X.xe s):OpV X (compareOp op) (Tp f g):=by
 intro pins s st H x y v u Q I rx ry h
 obtain ⟨th,mu,d,e,so,r1,r2,t⟩:=h
 cases d with
 | int i =>
  cases e with
  | int j=>exact h1 pins s st H x y v u Q I rx ry ⟨i,j,r1,r2,t.ret so _ rfl⟩
  | _=>exact t.no.elim
 | str i =>
  cases e with
  | str j =>
   obtain ⟨rfl,_⟩:=(show _∧_ from r1)
   obtain ⟨rfl,_⟩:=(show _∧_ from r2)
   obtain ⟨t1,rfl⟩:=rx
   obtain ⟨t2,rfl⟩:=ry
   exact h2 i j t1 t2 s _ ⟨.bl _,H,I,rfl,t.ret so _ rfl⟩
  | _=>exact t.no.elim
 | _=>exact t.no.elim
theorem L6:OpV X (compareOp .LtE) leD:=Mz YY λi j t t' s Q h=>PySem.P.le_str h
theorem Xh:OpV X (compareOp .Gt) gtD:=Mz Zw λi j t t' s Q h=>PySem.P.gt_str h
theorem WC:OpV X (compareOp .GtE) geD:=Mz YD λi j t t' s Q h=>PySem.P.ge_str h
noncomputable def isB:D->D->Option Bool
 | .non,.non=>some true
 | .bl a,.bl b=>some (a==b)
 | .non,.bl _=>none
 | .ref _,.non=>some false
 | .tup _,.non=>some false
 | .lst _,.non=>some false
 | .str _,.non=>some false
 | .int _,.non=>some false
 | .bl _,.non=>some false
 | .dct _ _,.non=>some false
 | .set _,.non=>some false
 | _,_=>none
noncomputable def isD (d e:D)(mu:Sto):Rs D:=(isB d e).map λb=>(.bl b,mu)
noncomputable def JJ (d e:D)(mu:Sto):Rs D:=(isB d e).map λb=>(.bl (!b),mu)
theorem LI:OpV X (compareOp .Is) isD:=by
 intro pins s st H x y v u Q I rx ry h
 obtain ⟨th,mu,d,e,so,r1,r2,t⟩:=h
 cases e with
 | non =>
  have go:∀ b,isB d .non=some b->(b=decide (x=.non))->wpAny (model X.prog X.w) X.A (compareOp .Is v u) (EP X pins st Q) X.xe s:=λb eb ex=>by
   unfold isD at t
   rw [eb] at t
   have q:Q (.bl b) H:=t.ret so _ rfl
   exact V3 pins s st H x y v u Q I rx ry ⟨r2,by rw [← ex];exact q⟩
  cases d with
  | non=>exact go _ rfl (by rw [show x=_ from r1];rfl)
  | bl b=>exact go _ rfl (by rw [show x=_ from r1];rfl)
  | int b=>exact go _ rfl (by rw [show x=_ from r1];rfl)
  | str b=>exact go _ rfl (by rw [r1.1];rfl)
  | tup b=>exact go _ rfl (by unfold Rep at r1;obtain ⟨a,vs,rfl,_⟩:=r1;rfl)
  | lst b=>exact go _ rfl (by unfold Rep at r1;obtain ⟨a,vs,rfl,_⟩:=r1;rfl)
  | dct _ _=>exact go _ rfl (by unfold Rep at r1;obtain ⟨a,xs,rfl,_⟩:=r1;rfl)
  | set _=>exact go _ rfl (by unfold Rep at r1;obtain ⟨a,us,vs,rfl,_⟩:=r1;rfl)
  | ref b=>exact go _ rfl (by unfold Rep at r1;obtain ⟨a,rfl,_⟩:=r1;rfl)
 | bl b =>
  cases d with
  | bl a=>exact SM pins s st H x y v u Q I rx ry ⟨a,b,r1,r2,t.ret so _ rfl⟩
  | _=>exact t.no.elim
 | _=>cases d<;>exact t.no.elim
theorem LZ:OpV X (compareOp .IsNot) JJ:=by
 intro pins s st H x y v u Q I rx ry h
 obtain ⟨th,mu,d,e,so,r1,r2,t⟩:=h
 cases e with
 | non =>
  have go:∀ b,isB d .non=some b->(b=decide (x=.non))->wpAny (model X.prog X.w) X.A (compareOp .IsNot v u) (EP X pins st Q) X.xe s:=λb eb ex=>by
   unfold JJ at t
   rw [eb] at t
   have q:Q (.bl (!b)) H:=t.ret so _ rfl
   exact UP pins s st H x y v u Q I rx ry ⟨r2,by rw [← ex];exact q⟩
  cases d with
  | non=>exact go _ rfl (by rw [show x=_ from r1];rfl)
  | bl b=>exact go _ rfl (by rw [show x=_ from r1];rfl)
  | int b=>exact go _ rfl (by rw [show x=_ from r1];rfl)
  | str b=>exact go _ rfl (by rw [r1.1];rfl)
  | tup b=>exact go _ rfl (by unfold Rep at r1;obtain ⟨a,vs,rfl,_⟩:=r1;rfl)
  | lst b=>exact go _ rfl (by unfold Rep at r1;obtain ⟨a,vs,rfl,_⟩:=r1;rfl)
  | dct _ _=>exact go _ rfl (by unfold Rep at r1;obtain ⟨a,xs,rfl,_⟩:=r1;rfl)
  | set _=>exact go _ rfl (by unfold Rep at r1;obtain ⟨a,us,vs,rfl,_⟩:=r1;rfl)
  | ref b=>exact go _ rfl (by unfold Rep at r1;obtain ⟨a,rfl,_⟩:=r1;rfl)
 | bl b =>
  cases d with
  | bl a=>exact Np pins s st H x y v u Q I rx ry ⟨a,b,r1,r2,t.ret so _ rfl⟩
  | _=>exact t.no.elim
 | _=>cases d<;>exact t.no.elim
noncomputable def Jn (g g':D->D->Sto->Rs D)(a b c:Ex):Ex:=λro mu=>bM (a ro mu) λx m1=>bM (b ro m1) λy m2=>bM (g x y m2) λz m3=>match asB z with
 | none=>none
 | some k=>if k=true then bM (c ro m3) λw' m4=>g' y w' m4 else some (.bl false,m3)
theorem Lb {g g':D->D->Sto->Rs D}{a b c:Ex}{st:L2.St}{Q:VK}(h:rdE K (Jn g g' a b c) st H Q):Ov (r2 K g) (r2 K g') (rdE K a) (rdE K b) (rdE K c) st H Q:=by
 obtain ⟨th,mu,ro,so,en,t⟩:=h
 refine ⟨th,mu,ro,so,en,t.bind.mono λx th1 mu1 H1 e1 s1 t1 v rv=>?_⟩
 refine ⟨th1,mu1,ro,s1,en.ext e1 so.out,t1.bind.mono λy th2 mu2 H2 e2 s2 t2 u ru=>?_⟩
 refine ⟨th2,mu2,x,y,s2,rv.ext e2 s1.out,ru,t2.bind.mono λz th3 mu3 H3 e3 s3 t3 w rw'=>?_⟩
 cases e:asB z with
 | none=>rw [e] at t3;exact t3.no.elim
 | some k =>
  rw [e] at t3
  refine ⟨k,JV e rw',?_⟩
  cases k with
  | false=>exact t3.ret s3 _ rfl
  | true =>
   exact ⟨th3,mu3,ro,s3,(en.ext e1 so.out).ext (e2.trans e3) s1.out,Tr.mono (Tr.bind t3) λw' th4 mu4 H4 e4 s4 t4 z' rz=>⟨th4,mu4,y,w',s4,(ru.ext e3 s2.out).ext e4 s3.out,rz,t4⟩⟩
theorem R5 {a b c:Expr}{op op':CmpOp}{g g':D->D->Sto->Rs D}{ma mb mc:Ex}{pos:Pos}(ho:OpV X (compareOp op) g)(ho':OpV X (compareOp op') g')(ha:SV X a ma)(hb:SV X b mb)(hc:SV X c mc)
  (hm:lastMarks [op,op'] [b,c]=false:=by with_unfolding_all rfl):SV X (.Compare a [op,op'] [b,c] pos) (Jn g g' ma mb mc):=⟨PE.weak (SU ho ho' ha.r hb.r hc.r hm) λ_ _ _ h=>Lb h⟩
theorem P0 {a b c:Expr}{op op':CmpOp}{g g':D->D->Sto->Rs D}{ma mb mc:Ex}{pos:Pos}(ho:OpV X (compareOp op) g)(ho':OpV X (compareOp op') g')(ha:SV X a ma)(hb:SV X b mb)(hc:SV X c mc)
  (hm:lastMarks [op,op'] [b,c]=false:=by with_unfolding_all rfl):SVT X (.Compare a [op,op'] [b,c] pos) (tV (Jn g g' ma mb mc)):=⟨PT.weak (RL ho ho' ha.r hb.r hc.r hm) λst H Q h=>Lb (Sm h)⟩
noncomputable def ixD (d e:D)(mu:Sto):Rs D:=match e with
 | .int i=>match d with
  | .tup ds=>(atI ds i).map λx=>(x,mu)
  | .str z=>(atI z.cps.toList i).map λc=>(.str ⟨#[c]⟩,mu)
  | d=>match DS mu d with
   | some ds=>(atI ds i).map λx=>(x,mu)
   | none=>none
 | _=>none
theorem PD {ds:List D}{vs:List V}{i:Int}{d:D}(r:RepL K th H ds vs)(h:atI ds i=some d):∃ v,atI vs i=some v∧Rep K th H d v:=by
 unfold atI at h ⊢
 rw [r.len]
 cases e:ixN ds.length i with
 | none=>rw [e] at h;cases h
 | some j =>
  rw [e] at h
  obtain ⟨v,e1,e2⟩:=r.get (show ds[j]? = some d from h)
  exact ⟨v,e1,e2⟩
theorem U5 {α:Type}{xs:List α}{i:Int}{v:α}(h:atI xs i=some v):v∈xs:=by
 obtain ⟨j,_,e,_⟩:=JU h
 exact Ak e
theorem AaR:IxR X (r2 X.z ixD):=by
 intro value slice pins s st H x y v u Q I rx ry h hsub
 obtain ⟨th,mu,d,e,so,r1,r2,t⟩:=h
 cases e with
 | int i =>
  have lists:∀ (t:Tr X.z th H (match DS mu d with
   | some ds=>(atI ds i).map λx=>(x,mu)
   | none=>none) (KV' X.z Q)),Wi X.K x y H Q:=λt=>by
   cases e1:DS mu d with
   | none=>rw [e1] at t;exact t.no.elim
   | some ds =>
    rw [e1] at t
    dsimp only at t
    cases e2:atI ds i with
    | none=>rw [e2] at t;exact t.no.elim
    | some x' =>
     rw [e2] at t
     obtain ⟨a,vs,rfl,h1,h2,h3⟩:=EM so e1 r1
     obtain ⟨v',w1,w2⟩:=PD h2 e2
     exact ⟨a,vs,i,v',rfl,r2,h1,w1,t.ret so _ w2⟩
  refine Xv value slice pins s st H x y v u Q I rx ry ?_ hsub
  cases d with
  | tup ds =>
   unfold ixD at t;dsimp only at t
   cases e2:atI ds i with
   | none=>rw [e2] at t;exact t.no.elim
   | some x' =>
    rw [e2] at t
    unfold Rep at r1
    obtain ⟨a,vs,rfl,h1,h2,h3⟩:=r1
    obtain ⟨v',w1,w2⟩:=PD h2 e2
    exact .inr (.inl ⟨a,vs,i,v',rfl,r2,h1,w1,t.ret so _ w2⟩)
  | str z =>
   unfold ixD at t;dsimp only at t
   cases e2:atI z.cps.toList i with
   | none=>rw [e2] at t;exact t.no.elim
   | some c =>
    rw [e2] at t
    exact .inr (.inr ⟨z,i,c,r1.1,r2,r1.2.1,e2,t.ret so _ (MQ r1.2.2 (U5 e2))⟩)
  | _=>exact .inl (lists t)
 | _=>exact t.no.elim
noncomputable abbrev Px:=Ro->Sto->Rs (Option Int)
noncomputable def pNo:Px:=λ_ mu=>some (none,mu)
noncomputable def Dh (a:Ex):Px:=λro mu=>bM (a ro mu) λd m1=>match d with
 | .int i=>some (some i,m1)
 | _=>none
noncomputable def rdP (K:Zc)(m:Px):TO:=λst H Q=>∃ th mu ro,StoOk K th mu H∧EnvOk K th H ro st∧Tr K th H (m ro mu) λo _ _ H'=>Q o H'
structure SVP (X:Cx) (e:Option Expr) (m:Px):Prop where
 r:PO X e (rdP X.z m)
theorem PO.weak {e:Option Expr}{t t':TO}(h:PO X e t)(f:∀ st H Q,t' st H Q->t st H Q):PO X e t':=λpins s st H Q I q=>h pins s st H Q I (f st H Q q)
theorem CZ:SVP X none pNo:=⟨PO.weak Uu λst H Q h=>by
 obtain ⟨th,mu,ro,so,en,t⟩:=h
 exact t.ret so⟩
theorem C0 {e:Expr}{m:Ex}(h:SV X e m):SVP X (some e) (Dh m):=⟨PO.weak (UQ h.r) λst H Q h=>by
 obtain ⟨th,mu,ro,so,en,t⟩:=h
 refine ⟨th,mu,ro,so,en,t.bind.mono λd th1 mu1 H1 e1 s1 t1 v rv=>?_⟩
 cases d with
 | int i=>exact ⟨i,rv,t1.ret s1⟩
 | _=>exact t1.no.elim⟩
noncomputable def cutD {α:Type}(xs:List α)(lo hi:Option Int):List α:=(xs.drop (HT.sIx xs.length 0 lo)).take (HT.sIx xs.length xs.length hi-HT.sIx xs.length 0 lo)
theorem Pj {ds:List D}{vs:List V}(r:RepL K th H ds vs)(lo hi:Option Int):RepL K th H (cutD ds lo hi) (ML vs lo hi):=by
 unfold cutD ML
 rw [r.len]
 exact (r.drop _).take _
theorem MG {α:Type}(xs:List α)(lo hi:Option Int):(cutD xs lo hi).length≤xs.length:=by
 unfold cutD
 rw [Az,Bu]
 omega
noncomputable def slD (d:D)(lo hi:Option Int)(mu:Sto):Rs D:=match d with
 | .tup ds=>some (.tup (cutD ds lo hi),mu)
 | .str z=>if PyData.strOk (Txt.slice z lo hi)=true then some (.str (Txt.slice z lo hi),mu) else none
 | d=>match DS mu d with
  | some ds=>some (.lst (cutD ds lo hi),mu)
  | none=>none
noncomputable def r3 (K:Zc)(op:D->Option Int->Option Int->Sto->Rs D):V->Option Int->Option Int->Hp->VK->Prop:=λx lo hi H Q=>∃ th mu d,StoOk K th mu H∧Rep K th H d x∧Tr K th H (op d lo hi mu) (KV' K Q)
noncomputable def eSl (a:Ex)(p q:Px):Ex:=λro mu=>bM (a ro mu) λd m1=>bM (p ro m1) λlo m2=>bM (q ro m2) λhi m3=>slD d lo hi m3
theorem HB {prog:Program}{w:World}{A:Around}{E:Value->Shared->Prop}{s:Shared}{t sl:Addr}{items:Array Value}{vl vu:Value}{lo hi:Option Int}{Q:Value->Shared->Prop}(ht:IsTup s.heap t items)(hs:s.heap.IsSliceOf sl vl vu .none)(pl:IsPart vl lo)(pu:IsPart vu hi)
  (h1:HT.sIx items.size 0 lo=0) (h2:HT.sIx items.size items.size hi=items.size) (h:Q (.ref t) s):wpAny (model prog w) A (getItem (.ref t) (.ref sl)) Q E s:=by
 obtain ⟨os,hos,hcs,hds⟩:=id hs
 have hTs:s.TypeIs (.ref sl) "slice":=⟨os,hos,hcs⟩
 unfold getItem
 try with_reducible refine AI ?_
 first|refine Aa (Ac ?_)|skip
 refine Aa (wpAny_sequenceKey ht.typeIs (by decide) ?_)
 refine Aa (AM (name:=Str.ofString "__getitem__") ht.typeIs AY
  (AO AY ht.typeIs entry_tuple_getitem ?_ (args_tuple_getitem _ _)))
 show wpAny _ _ (Builtin.Tuple.tupleItemsOf (.ref t) >>= _) _ _ s
 refine Aa (tupleItemsOf_ ht ?_)
 refine Aa (BY hTs ?_)
 rw [if_pos (by decide)]
 refine Aa (HT.Gu hs pl pu ?_)
 rw [h1,h2]
 dsimp only
 rw [if_pos (by simp)]
 unfold Builtin.Tuple.tupleIsExact
 refine Aa (Aa (BY ht.typeIs (Ac ?_)))
 rw [if_pos (by decide)]
 exact Aa (BS (Ac ⟨_,rfl,Ac h⟩))
theorem Z1:SlR X (r3 X.z slD):=by
 intro pins s st H x v vl vu lo hi sl Q I rx hs pl pu h
 obtain ⟨th,mu,d,so,r,t⟩:=h
 have lists:∀ (t:Tr X.z th H (match DS mu d with
   | some ds=>some (D.lst (cutD ds lo hi),mu)
   | none=>none) (KV' X.z Q)),ZP X.K x lo hi H Q:=λt=>by
   cases e1:DS mu d with
   | none=>rw [e1] at t;exact t.no.elim
   | some ds =>
    rw [e1] at t
    obtain ⟨a,vs,rfl,h1,h2,h3⟩:=EM so e1 r
    exact ⟨a,vs,rfl,h1,λp hp=>t.retX (.new hp _) (so.new hp _) _ (Rep.newLst so hp (Pj h2 lo hi) (AQ (MG ds lo hi) h3))⟩
 cases d with
 | tup ds =>
  unfold Rep at r
  obtain ⟨a,vs,rfl,h1,h2,h3⟩:=r
  by_cases c:HT.sIx vs.length 0 lo=0∧HT.sIx vs.length vs.length hi=vs.length
  ·cases rx
   obtain ⟨its,rv,ht,hz⟩:=I.tuple h1
   have hlen:its.toArray.size=vs.length:=by rw [An];exact rv.length.symm
   refine ⟨"tuple",_,AY.lookup,ht.typeIs,?_⟩
   refine HB ht hs pl pu (by rw [hlen];exact c.1) (by rw [hlen];exact c.2) ⟨.ref a,H,I,rfl,t.ret so _ ?_⟩
   have e:cutD ds lo hi=ds:=by
    unfold cutD
    rw [← h2.len,c.1,c.2,h2.len]
    simp
   rw [e]
   unfold Rep
   exact ⟨a,vs,rfl,h1,h2,h3⟩
  ·exact Xf pins s st H _ v vl vu lo hi sl Q I rx hs pl pu ⟨a,vs,rfl,h1,c,λp hp=>t.retX (.new hp _) (so.new hp _) _ (Rep.newTup so hp (Pj h2 lo hi) (AQ (MG ds lo hi) h3))⟩
 | str z =>
  unfold slD at t;dsimp only at t
  by_cases c:PyData.strOk (Txt.slice z lo hi)=true
  ·rw [if_pos c] at t
   exact Xk pins s st H _ v vl vu lo hi sl Q I rx hs pl pu ⟨z,r.1,r.2.1,t.ret so _ ⟨rfl,AQ (Txt.slice_le z _ _) r.2.1,c⟩⟩
  ·rw [if_neg c] at t;exact t.no.elim
 | _=>exact UW pins s st H _ v vl vu lo hi sl Q I rx hs pl pu (lists t)
theorem CY {e:Expr}{lo hi:Option Expr}{m:Ex}{p q:Px}{p2 pos:Pos}(he:SV X e m)(hl:SVP X lo p)(hh:SVP X hi q):SV X (.Subscript e (.Slice lo hi none p2) pos) (eSl m p q):=⟨PE.weak (RJ Z1 he.r hl.r hh.r) λst H Q h=>by
 obtain ⟨th,mu,ro,so,en,t⟩:=h
 refine ⟨th,mu,ro,so,en,t.bind.mono λd th1 mu1 H1 e1 s1 t1 v rv=>?_⟩
 refine ⟨th1,mu1,ro,s1,en.ext e1 so.out,t1.bind.mono λlo' th2 mu2 H2 e2 s2 t2=>?_⟩
 refine ⟨th2,mu2,ro,s2,(en.ext e1 so.out).ext e2 s1.out,t2.bind.mono λhi' th3 mu3 H3 e3 s3 t3=>?_⟩
 exact ⟨th3,mu3,d,s3,(rv.ext e2 s1.out).ext e3 s2.out,t3⟩⟩
noncomputable def tyN:D->String
 | .non=>"NoneType"|.bl _=>"bool"|.int _=>"int"|.str _=>"str"|.tup _=>"tuple"|.lst _=>"list"|.dct _ _=>"dict"|.set _=>"set"|.ref _=>"list"
noncomputable def isi (T:String)(d:D):Bool:=tyN d==T||(T=="int"&&tyN d=="bool")
theorem ZS {K:PySem.W.Frag}(T:String)(hT:T="str"∨T="tuple"∨T="int"∨T="bool"∨T="list"∨T="dict")(d:D):PySem.W.kitOne K (.type (tyN d)) (.type T)=some (isi T d):=by
 rcases hT with rfl|rfl|rfl|rfl|rfl|rfl<;>cases d<;>rfl
noncomputable def Ek (mu:Sto):D->Bool
 | .ref k=>match mu[k]? with
  | some (.lst _)=>true
  | _=>false
 | _=>true
theorem IM {mu:Sto}{k:Nat}(h:Ek mu (.ref k)=true):∃ ds,mu[k]? = some (.lst ds):=by
 unfold Ek at h
 dsimp only at h
 split at h
 ·rename_i ds e;exact ⟨ds,e⟩
 ·cases h
noncomputable def HD (T:String)(a:Ex):Ex:=λro mu=>bM (a ro mu) λd m1=>if Ek m1 d=true then some (.bl (isi T d),m1) else none
theorem UM {pins:List (Addr×Obj)}{st:L2.St}{s:Shared}{T:String}{d:D}{x:V}{u:Value}{Q:Value->Shared->Prop}{E:Value->Shared->Prop}(hT:T="str"∨T="tuple"∨T="int"∨T="bool"∨T="list"∨T="dict")(I:L2.Inv X pins st H s)(so:StoOk X.z th mu H)(hr:Ek mu d=true)(r:Rep X.z th H d x)(rx:RelV x u)
  (h:∀ tk,Q (.bool (isi T d)) { s with toks:=tk }):wpAny (model X.prog X.w) X.A (call (.builtin "isinstance") [u,.type T]) Q E s:=by
 have e:=ZS (K:=X.K) T hT d
 have ls:∀ {a:Addr} {vs:List V},Rd H a (.lst vs)->Ji X.K H (.ref a) (.type "list"):=λ{a vs} h=>by
  rcases h with h|⟨o,h⟩
  ·exact .lst h
  ·exact .frz h
 cases d with
 | non=>cases (show x=_ from r);exact Gy I rx .non e h
 | bl b=>cases (show x=_ from r);exact Gy I rx (.bl b) e h
 | int b=>cases (show x=_ from r);exact Gy I rx (.int b) e h
 | str b=>cases r.1;exact Gy I rx (.str b) e h
 | tup ds =>
  unfold Rep at r
  obtain ⟨a,vs,rfl,h1,_⟩:=r
  cases rx
  obtain ⟨its,_,⟨o,g1,g2,_⟩,_⟩:=I.tuple h1
  exact Bd PySem.W.kitx_tuple I.kIn ⟨o,g1,g2⟩ e (λz=>nomatch z) h
 | lst ds =>
  unfold Rep at r
  obtain ⟨a,vs,rfl,h1,_⟩:=r
  cases rx
  obtain ⟨its,_,⟨o,n,g1,g2,_⟩,_⟩:=I.list h1.sq
  exact Bd PySem.W.kitx_list I.kIn ⟨o,g1,g2⟩ e (λz=>nomatch z) h
 | dct _ _ =>
  unfold Rep at r
  obtain ⟨a,xs,rfl,_,h1,_⟩:=r
  obtain ⟨⟨_,o,es,ep,g1,g2,_⟩,_⟩:=(show ObjOk X.prog X.w H s.heap a (Ge a xs) from I.hok a _ h1)
  cases rx
  exact Bd PySem.W.kitx_dict I.kIn ⟨o,g1,g2.1⟩ e (λz=>nomatch z) h
 | set _ =>
  unfold Rep at r
  obtain ⟨a,us,vs,rfl,_,h1,_⟩:=r
  obtain ⟨⟨o,es,ep,t,g1,g2,_⟩,_⟩:=(show ObjOk X.prog X.w H s.heap a (Nn X.w a us) from I.hok a _ h1)
  cases rx
  exact Bd PySem.W.kitx_set I.kIn ⟨o,g1,g2.1⟩ e (λz=>nomatch z) h
 | ref k =>
  unfold Rep at r
  obtain ⟨a,rfl,h1⟩:=r
  obtain ⟨ds,em⟩:=IM hr
  obtain ⟨vs,h2,_⟩:=so.at' k a _ h1 em
  exact Gy I rx (.lst h2) e h
theorem FT (T:String){x:Str}{a:Expr}{m:Ex}{p p2 pos:Pos}(ha:SV X a m)(h1:X.mg "isinstance"=none)(h2:X.mg x=none)(hb:bootBuiltins x=some (.type T))(hT:T="str"∨T="tuple"∨T="int"∨T="bool"∨T="list"∨T="dict":=by decide)
  (hn:x≠"__name__":=by decide) (hd:(x==("__debug__":Str))=false:=by decide) (hg:Gl X "isinstance":=by rfl) (hg2:Gl X x:=by rfl)
  (hs1:starEach [a,.Name x p2] X.env=(false,eval a X.env)::starEach [.Name x p2] X.env:=by rfl) (hs2:(backTo pos (starEach [.Name x p2] X.env)).any (·.1)=false:=by rfl) (hs3:starEach [.Name x p2] X.env=(false,eval (.Name x p2) X.env)::starEach [] X.env:=by rfl) :
  SV X (.Call (.Name "isinstance" p) [a,.Name x p2] [] pos) (HD T m):=⟨by
 have hc:F9 X (.builtin "isinstance") (λxs H Q=>∃ th mu d y,StoOk X.z th mu H∧Ek mu d=true∧xs=[y,.ty T]∧Rep X.z th H d y∧Q (.bl (isi T d)) H):=by
  intro pins s st H xs us Q I r h
  obtain ⟨th,mu,d,y,so,hr,rfl,rd,q⟩:=h
  obtain ⟨u,w',rfl,rx,ry⟩:=vals2 r
  cases (show w'=Value.type T from ry)
  exact UM hT I so hr rd rx λtk=>⟨.bl _,H,I.tok _,rfl,q⟩
 have pe:=Kt hc hg h1 boot_isinstance (JZ ha.r (JZ (Ur (v:=.ty T) hg2 h2 hb rfl hn hd) OE hs3) hs1) (by decide) (by decide) hs1 hs2 (pos:=pos) (p:=p)
 refine PE.weak pe λst H Q h=>?_
 obtain ⟨th,mu,ro,so,en,t⟩:=h
 refine ⟨th,mu,ro,so,en,t.bind.mono λd th1 mu1 H1 e1 s1 t1 v rv=>?_⟩
 by_cases c:Ek mu1 d=true
 ·rw [if_pos c] at t1
  exact ⟨th1,mu1,d,v,s1,c,rfl,rv,t1.ret s1 _ rfl⟩
 ·rw [if_neg c] at t1;exact t1.no.elim⟩
noncomputable def Yt (mu:Sto):D->Option Nat
 | .str x=>some x.length
 | .tup ds=>some ds.length
 | .lst ds=>some ds.length
 | .ref k=>(DS mu (.ref k)).map (·.length)
 | _=>none
noncomputable def VY:Fn:=λds mu=>match ds with
 | [d]=>(Yt mu d).map λn=>(.int n,mu)
 | _=>none
theorem DY {xs:List V}{d:D}(r:RepL K th H [d] xs):∃ x,xs=[x]∧Rep K th H d x:=by
 obtain ⟨v,r',rfl,h1,h2⟩:=r.inv
 cases h2.inv0
 exact ⟨v,rfl,h1⟩
theorem HZ {xs:List V}{d e:D}(r:RepL K th H [d,e] xs):∃ x y,xs=[x,y]∧Rep K th H d x∧Rep K th H e y:=by
 obtain ⟨v,r',rfl,h1,h2⟩:=r.inv
 obtain ⟨u,rfl,h3⟩:=DY h2
 exact ⟨v,u,rfl,h1,h3⟩
theorem PM:CallV X (.builtin "len") VY:=by
 intro pins s st H xs us Q I r h
 obtain ⟨th,mu,ds,so,rd,t⟩:=h
 match ds,t,rd with
 | [d],t,rd =>
  obtain ⟨x,rfl,rx⟩:=DY rd
  cases d with
  | str z=>exact LW pins s st H _ us Q I r ⟨z,by rw [rx.1],rx.2.1,t.ret so _ rfl⟩
  | tup es =>
   unfold Rep at rx
   obtain ⟨a,vs,rfl,h1,h2,_⟩:=rx
   exact GI pins s st H _ us Q I r ⟨a,vs,rfl,.inr h1,by rw [h2.len];exact t.ret so _ rfl⟩
  | lst es =>
   unfold Rep at rx
   obtain ⟨a,vs,rfl,h1,h2,_⟩:=rx
   exact GI pins s st H _ us Q I r ⟨a,vs,rfl,.inl h1.sq,by rw [h2.len];exact t.ret so _ rfl⟩
  | ref k =>
   unfold VY Yt at t
   dsimp only at t
   cases e1:DS mu (.ref k) with
   | none=>rw [e1] at t;exact t.no.elim
   | some es =>
    rw [e1] at t
    obtain ⟨a,vs,rfl,h1,h2,h3⟩:=EM so e1 rx
    exact GI pins s st H _ us Q I r ⟨a,vs,rfl,.inl h1,by rw [h2.len];exact t.ret so _ rfl⟩
  | _=>exact t.no.elim
 | [],t,_=>exact t.no.elim
 | _::_::_,t,_=>exact t.no.elim
noncomputable def Jo:List D->Option (List Bool)
 | []=>some []
 | .bl b::ds=>(Jo ds).map (b::·)
 | _=>none
theorem Lr:∀ {ds:List D} {bs:List Bool} {vs:List V},Jo ds=some bs->RepL K th H ds vs->vs=bs.map V.bl
 | [],_,_,h,r=>by cases h;exact r.inv0
 | d::ds,bs,_,h,r=>by
  obtain ⟨v,r',rfl,h1,h2⟩:=r.inv
  cases d with
  | bl b =>
   unfold Jo at h
   cases e:Jo ds with
   | none=>rw [e] at h;cases h
   | some cs =>
    rw [e] at h
    cases h
    rw [Lr e h2,show v=V.bl b from h1]
    rfl
  | _=>cases h
noncomputable def quF (f:List Bool->Bool):Fn:=λds mu=>match ds with
 | [d]=>match DS mu d with
  | some es=>(Jo es).map λbs=>(.bl (f bs),mu)
  | none=>none
 | _=>none
noncomputable def HK:=quF λbs=>bs.all id
theorem SN {id:String}{f:List Bool->Bool}(hq:F9 X (.builtin id) (λxs H Q=>∃ (p:Addr) (bs:List Bool),xs=[.ref p]∧SqL X.K H p (bs.map V.bl)∧Q (.bl (f bs)) H)):CallV X (.builtin id) (quF f):=by
 intro pins s st H xs us Q I r h
 obtain ⟨th,mu,ds,so,rd,t⟩:=h
 match ds,t,rd with
 | [d],t,rd =>
  obtain ⟨x,rfl,rx⟩:=DY rd
  unfold quF at t
  dsimp only at t
  cases e1:DS mu d with
  | none=>rw [e1] at t;exact t.no.elim
  | some es =>
   rw [e1] at t
   dsimp only at t
   cases e2:Jo es with
   | none=>rw [e2] at t;exact t.no.elim
   | some bs =>
    rw [e2] at t
    obtain ⟨a,vs,rfl,h1,h2,h3⟩:=EM so e1 rx
    cases Lr e2 h2
    exact hq pins s st H _ us Q I r ⟨a,bs,rfl,h1,t.ret so _ rfl⟩
 | [],t,_=>exact t.no.elim
 | _::_::_,t,_=>exact t.no.elim
theorem E8 (hc:X.calm=true):CallV X (.builtin "all") HK:=SN (RQ hc)
noncomputable def ints2 (ds:List D):Option (Int×Int):=match ds with
 | [.int i,.int j]=>some (i,j)
 | _=>none
theorem Lc {ds:List D}{p:Int×Int}(h:ints2 ds=some p):ds=[.int p.1,.int p.2]:=by
 unfold ints2 at h
 split at h
 ·cases h;rfl
 ·cases h
noncomputable def ME:Fn:=λds mu=>(ints2 ds).map λp=>(.int (if p.2<p.1 then p.2 else p.1),mu)
noncomputable def SQ:Fn:=λds mu=>(ints2 ds).map λp=>(.int (if p.2 > p.1 then p.2 else p.1),mu)
noncomputable def intOf (ds:List D):Option Int:=match ds with
 | [.int i]=>some i
 | [.bl b]=>some (if b then 1 else 0)
 | _=>none
theorem PR {ds:List D}{i:Int}(h:intOf ds=some i):ds=[.int i]∨∃ b,ds=[.bl b]∧i=if b then 1 else 0:=by
 unfold intOf at h
 split at h
 ·cases h;exact .inl rfl
 ·cases h;exact .inr ⟨_,rfl,rfl⟩
 ·cases h
noncomputable def RV:Fn:=λds mu=>(intOf ds).map λi=>(.int i,mu)
noncomputable def Rq (ds:List D):Option Int:=match ds with
 | [.int i]=>some i
 | _=>none
theorem Rb {ds:List D}{i:Int}(h:Rq ds=some i):ds=[.int i]:=by
 unfold Rq at h
 split at h
 ·cases h;rfl
 ·cases h
theorem Lx (hc:X.calm=true):CallV X (.builtin "min") ME:=by
 intro pins s st H xs us Q I r h
 obtain ⟨th,mu,ds,so,rd,t⟩:=h
 unfold ME at t
 cases e:ints2 ds with
 | none=>rw [e] at t;exact t.no.elim
 | some p =>
  rw [e] at t
  rw [Lc e] at rd
  obtain ⟨x,y,rfl,rx,ry⟩:=HZ rd
  exact PY hc pins s st H _ us Q I r ⟨p.1,p.2,by rw [show x=_ from rx,show y=_ from ry],t.ret so _ rfl⟩
theorem Qn (hc:X.calm=true):CallV X (.builtin "max") SQ:=by
 intro pins s st H xs us Q I r h
 obtain ⟨th,mu,ds,so,rd,t⟩:=h
 unfold SQ at t
 cases e:ints2 ds with
 | none=>rw [e] at t;exact t.no.elim
 | some p =>
  rw [e] at t
  rw [Lc e] at rd
  obtain ⟨x,y,rfl,rx,ry⟩:=HZ rd
  exact Qr hc pins s st H _ us Q I r ⟨p.1,p.2,by rw [show x=_ from rx,show y=_ from ry],t.ret so _ rfl⟩
theorem QD:CallV X (.type "int") RV:=by
 intro pins s st H xs us Q I r h
 obtain ⟨th,mu,ds,so,rd,t⟩:=h
 unfold RV at t
 cases e:intOf ds with
 | none=>rw [e] at t;exact t.no.elim
 | some i =>
  rw [e] at t
  rcases PR e with h|⟨b,h,hb⟩
  ·rw [h] at rd
   obtain ⟨x,rfl,rx⟩:=DY rd
   exact Lk pins s st H _ us Q I r (.inl ⟨i,by rw [show x=_ from rx],t.ret so _ rfl⟩)
  ·rw [h] at rd
   obtain ⟨x,rfl,rx⟩:=DY rd
   exact Lk pins s st H _ us Q I r (.inr ⟨b,by rw [show x=_ from rx],by rw [← hb];exact t.ret so _ rfl⟩)
noncomputable def HF (mu:Sto):D->Option (List D)
 | .tup ds=>some ds
 | d=>DS mu d
theorem FI (so:StoOk K th mu H){d:D}{ds:List D}{v:V}(h:HF mu d=some ds)(r:Rep K th H d v):∃ a vs,v=.ref a∧(SqL K.K H a vs∨SqT K.K H a vs∧d=.tup ds)∧RepL K th H ds vs∧ds.length≤sizeLine:=by
 cases d with
 | tup es=>cases h;unfold Rep at r;obtain ⟨a,vs,rfl,h1,h2,h3⟩:=r;exact ⟨a,vs,rfl,.inr ⟨h1,rfl⟩,h2,h3⟩
 | lst es=>obtain ⟨a,vs,rfl,h1,h2,h3⟩:=EM so (d:=.lst es) h r;exact ⟨a,vs,rfl,.inl h1,h2,h3⟩
 | ref k=>obtain ⟨a,vs,rfl,h1,h2,h3⟩:=EM so (d:=.ref k) h r;exact ⟨a,vs,rfl,.inl h1,h2,h3⟩
 | _=>cases h
noncomputable def HL (ds:List D):Option D:=match ds with
 | [d]=>some d
 | _=>none
theorem Hl {ds:List D}{d:D}(h:HL ds=some d):ds=[d]:=by
 unfold HL at h
 split at h
 ·cases h;rfl
 ·cases h
noncomputable def sq1 (ds:List D)(mu:Sto):Option (List D):=match HL ds with
 | some d=>HF mu d
 | none=>none
noncomputable def Gf:Fn:=λds mu=>(sq1 ds mu).map λes=>(.tup es,mu)
noncomputable def LK:Fn:=λds mu=>(sq1 ds mu).map λes=>(.lst es,mu)
theorem JM {ds es:List D}(h:sq1 ds mu=some es):∃ d,ds=[d]∧HF mu d=some es:=by
 unfold sq1 at h
 cases e:HL ds with
 | none=>rw [e] at h;cases h
 | some d=>rw [e] at h;exact ⟨d,Hl e,h⟩
theorem ES:CallV X (.type "tuple") Gf:=by
 intro pins s st H xs us Q I r h
 obtain ⟨th,mu,ds,so,rd,t⟩:=h
 unfold Gf at t
 cases e:sq1 ds mu with
 | none=>rw [e] at t;exact t.no.elim
 | some es =>
  rw [e] at t
  obtain ⟨d,rfl,e2⟩:=JM e
  obtain ⟨x,rfl,rx⟩:=DY rd
  obtain ⟨a,vs,rfl,h1,h2,h3⟩:=FI so e2 rx
  refine K5 pins s st H _ us Q I r ⟨a,vs,rfl,?_⟩
  rcases h1 with h1|⟨h1,rfl⟩
  ·exact .inl ⟨h1,λp hp=>t.retX (.new hp _) (so.new hp _) _ (Rep.newTup so hp h2 h3)⟩
  ·exact .inr ⟨h1,t.ret so _ rx⟩
theorem Jf:CallV X (.type "list") LK:=by
 intro pins s st H xs us Q I r h
 obtain ⟨th,mu,ds,so,rd,t⟩:=h
 unfold LK at t
 cases e:sq1 ds mu with
 | none=>rw [e] at t;exact t.no.elim
 | some es =>
  rw [e] at t
  obtain ⟨d,rfl,e2⟩:=JM e
  obtain ⟨x,rfl,rx⟩:=DY rd
  obtain ⟨a,vs,rfl,h1,h2,h3⟩:=FI so e2 rx
  refine LL pins s st H _ us Q I r ⟨a,vs,rfl,?_,λp hp=>t.retX (.new hp _) (so.new hp _) _ (Rep.newLst so hp h2 h3)⟩
  rcases h1 with h1|⟨h1,_⟩
  ·exact .inl h1
  ·exact .inr h1
noncomputable def KY (o:Ex)(a:Exs):Ex:=λro mu=>bM (o ro mu) λd m1=>match d with
 | .ref k=>if Ek m1 (.ref k)=true then bM (a ro m1) λxs m2=>match HL xs,m2[k]? with
  | some y,some (.lst ds)=>if ds.length<sizeLine then some (.non,m2.set k (.lst (ds++[y]))) else none
  | _,_=>none
  else none
 | _=>none
theorem Hx {o e:Expr}{m:Ex}{n:Exs}{apos cpos:Pos}(ho:SV X o m)(ha:SVA X [e] n)(hbase:attributeBase o "append" X.env (eval o X.env)=eval o X.env:=by rfl)
  (hfew:((backTo cpos (starEach [e] X.env)).all (λx=>!x.1)&&(backToKw cpos (keywordEach [] X.env)).all (λx=>x.1.isSome)
   && decide ([e].length+([]:List Keyword).length+(if ([]:List Keyword).isEmpty then 0 else 1)<30))=true:=by rfl)
  (hline:(apos.endLine==cpos.line)=true:=by rfl) (hs:starEach [e] X.env=(false,eval e X.env)::starEach [] X.env:=by rfl) (hplain:(backTo cpos (starEach [] X.env)).any (·.1)=false:=by rfl) :
  SV X (.Call (.Attribute o "append" apos) [e] [] cpos) (KY m n):=
 ⟨PE.weak (VT PySem.F.plainAttrs_list PySem.F.slot_list_append PySem.F.type_list_append P5 ho.r ha.1 hbase hfew hline hs hplain) λst H Q h=>by
  obtain ⟨th,mu,ro,so,en,t⟩:=h
  refine ⟨th,mu,ro,so,en,t.bind.mono λd th1 mu1 H1 e1 s1 t1 v rv=>?_⟩
  cases d with
  | ref k =>
   unfold Rep at rv
   obtain ⟨a,rfl,ha'⟩:=rv
   by_cases cr:Ek mu1 (.ref k)=true
   case neg=>dsimp only at t1;rw [if_neg cr] at t1;exact t1.no.elim
   dsimp only at t1
   rw [if_pos cr] at t1
   obtain ⟨ds0,em⟩:=IM cr
   obtain ⟨vs,h2,_⟩:=s1.at' k a _ ha' em
   refine ⟨.inl ⟨rfl,vs,SqL.of h2⟩,th1,mu1,ro,s1,en.ext e1 so.out,?_⟩
   refine Tr.mono (Tr.bind t1) λxs th2 mu2 H2 e2 s2 t2 ws rws=>?_
   cases q1:HL xs with
   | none=>rw [q1] at t2;exact t2.no.elim
   | some y =>
    cases q2:mu2[k]? with
    | none=>rw [q1,q2] at t2;exact t2.no.elim
    | some o =>
     cases o with
     | dct _ _=>rw [q1,q2] at t2;exact t2.no.elim
     | lst ds =>
      rw [q1,q2] at t2
      dsimp only at t2
      by_cases c:ds.length<sizeLine
      ·rw [if_pos c] at t2
       rw [Hl q1] at rws
       obtain ⟨y',rfl,ry⟩:=DY rws
       have hk:=e2.at ha'
       obtain ⟨us,g1,g2,g3⟩:=s2.at' k a _ hk q2
       exact ⟨a,us,y',rfl,rfl,g1,by rw [g2.len];exact c,t2.retX (.mut (Ak hk) _) (s2.put hk (g2.app (.cons ry .nil)) (by rw [Ar];exact c)) _ rfl⟩
      ·rw [if_neg c] at t2;exact t2.no.elim
  | _=>exact t1.no.elim⟩
end
end PV
namespace L2
open PySem PySem.Spec PyProof.Rows
theorem Wk {x y z:V}{us:List Value}(r:Vals [x,y,z] us):∃ u v w',us=[u,v,w']∧RelV x u∧RelV y v∧RelV z w':=by
 cases r with
 | cons r1 r2 =>
  obtain ⟨v,w',rfl,a,b⟩:=vals2 r2
  exact ⟨_,v,w',rfl,r1,a,b⟩
noncomputable def YA (i j k:Nat)(ta:TA):TS:=λD σ H=>ta σ H λvs H1=>∃ u v w,vs=[u,v,w]∧D.nx (((σ.set i (some u)).set j (some v)).set k (some w)) H1
theorem Ue {X:Cx}{pos:Pos}{i j k:Nat}{x y z:Str}{a b c:Expr}{ta:TA}{px py pz pt:Pos}{kt k2 pt2}(hc:X.calm=true)(hN:X.N.Nodup)(hi:X.N[i]? = some x)(hj:X.N[j]? = some y)(hk:X.N[k]? = some z)(hij:i≠j)(hik:i≠k)(hjk:j≠k)
  (hx:X.env.scope.names.lookup x=some .local) (hy:X.env.scope.names.lookup y=some .local) (hz:X.env.scope.names.lookup z=some .local) (ha:PA X [a,b,c] ta)
  (hw:swappedStores [.Tuple [.Name x px,.Name y py,.Name z pz] kt pt] (.Tuple [a,b,c] k2 pt2) X.env=pure (some [x,y,z]))
  (hs:swapsWithSole [.Tuple [.Name x px,.Name y py,.Name z pz] kt pt] (.Tuple [a,b,c] k2 pt2) pos.line X.env=pure false:=by rfl) :
  PS X (.Assign [.Tuple [.Name x px,.Name y py,.Name z pz] kt pt] (.Tuple [a,b,c] k2 pt2) pos) (YA i j k ta):=by
 intro pins s σ H D I h
 rw [exec_Assign_arm]
 refine Aa (wpAny_standAt ?_)
 rw [hs]
 refine Aa (Ac ?_)
 rw [if_neg (by decide)]
 refine Aa (Tuple_ (thn (ha _ pins s σ H _ I h) λus s1 ⟨vs,H1,I1,r1,q1⟩=>?_))
 obtain ⟨v1,v2,v3,e1,q1⟩:=q1
 subst e1
 obtain ⟨u1,u2,u3,rfl,ra,rb,rc⟩:=Wk r1
 refine AU ?_ (by show 3≤sizeLine;decide)
 have I2:Inv X pins σ H1 { s1 with heap:=s1.heap.push { cls:=.type "tuple",data:=.seq [u1,u2,u3].toArray } }:=I1.kept (t':=s1.toks) λb o e=>Ad _ e
 rw [hw]
 refine Aa (Ac ?_)
 show wpAny (model X.prog X.w) X.A (do rule "assign.swapped-stores";let items←unpackItems (.ref s1.heap.objs.size) 3 none;assignInOrder [λv=>bindName X.env z v,λv=>bindName X.env y v,λv=>bindName X.env x v] items.reverse;pure Flow.next) _ _ _
 refine Aa (BS (Aa (unpackItems_tuple (items:=#[u1,u2,u3]) (I.ok.hd hc) (IsTup.new s1.heap _) λh' hx'=>?_)))
 have I3:=I2.kept (h':=h') (t':=s1.toks) λb o e=>hx' b o (Ay (Ao e)) e
 show wpAny _ _ (assignInOrder [λv=>bindName X.env z v,λv=>bindName X.env y v,λv=>bindName X.env x v] [u3,u2,u1] >>= λ_=>pure Flow.next) _ _ _
 refine Aa (assignInOrder_cons (wpAny_bindName (Gq I3 hN hk (.inl hz) rc (λs2 I4=>?_) (.inr hz))))
 refine assignInOrder_cons (wpAny_bindName (Gq I4 hN hj (.inl hy) rb (λs3 I5=>?_) (.inr hy)))
 refine assignInOrder_cons (wpAny_bindName (Gq I5 hN hi (.inl hx) ra (λs4 I6=>assignInOrder_nil (Ac ?_)) (.inr hx)))
 rw [List.set_comm _ _ (Ne.symm hjk),List.set_comm _ _ (Ne.symm hik),List.set_comm (i:=j) (j:=i) _ _ (Ne.symm hij)] at I6
 exact ⟨_,H1,I6,q1⟩
end L2
namespace PV
open PySem L2 PySem.Spec PyProof.Rows
section
variable {X:Cx} {K:Zc} {th:List Addr} {mu:Sto} {H:Hp}
noncomputable def PJ (i j k:Nat)(a:Exs):Sx:=λro mu=>bM (a ro mu) λds m1=>match ds with
 | [x,y,z]=>some ((.nx,((ro.set i (some x)).set j (some y)).set k (some z)),m1)
 | _=>none
theorem Sk (i j k:Nat){x y z:Str}{a b c:Expr}{m:Exs}{px py pz pt:Pos}{kt k2 pt2}{pos:Pos}(hc:X.calm=true)(hN:X.N.Nodup)(ha:SVA X [a,b,c] m)
  (hw:swappedStores [.Tuple [.Name x px,.Name y py,.Name z pz] kt pt] (.Tuple [a,b,c] k2 pt2) X.env=pure (some [x,y,z]))
  (hi:X.N[i]? = some x:=by rfl) (hj:X.N[j]? = some y:=by rfl) (hk:X.N[k]? = some z:=by rfl) (hij:i≠j:=by decide) (hik:i≠k:=by decide) (hjk:j≠k:=by decide)
  (hx:X.env.scope.names.lookup x=some .local:=by rfl) (hy:X.env.scope.names.lookup y=some .local:=by rfl) (hz:X.env.scope.names.lookup z=some .local:=by rfl)
  (hs:swapsWithSole [.Tuple [.Name x px,.Name y py,.Name z pz] kt pt] (.Tuple [a,b,c] k2 pt2) pos.line X.env=pure false:=by rfl) :
  SVS X (.Assign [.Tuple [.Name x px,.Name y py,.Name z pz] kt pt] (.Tuple [a,b,c] k2 pt2) pos) (PJ i j k m):=⟨PS.weak (Ue hc hN hi hj hk hij hik hjk hx hy hz ha.1 hw hs) λE st H h=>by
 obtain ⟨th,mu,ro,so,en,t⟩:=h
 refine ⟨th,mu,ro,so,en,t.bind.mono λds th1 mu1 H1 e1 s1 t1 vs rvs=>?_⟩
 match ds,t1,rvs with
 | [d,d',d''],t1,rvs =>
  obtain ⟨v,r,rfl,r1,r2⟩:=rvs.inv
  obtain ⟨u,w,rfl,r3,r4⟩:=HZ r2
  exact ⟨v,u,w,rfl,t1.ret s1 _ ((((en.ext e1 so.out).set i r1).set j r3).set k r4)⟩
 | [],t1,_=>exact t1.no.elim
 | [_],t1,_=>exact t1.no.elim
 | [_,_],t1,_=>exact t1.no.elim
 | _::_::_::_::_,t1,_=>exact t1.no.elim⟩
noncomputable def UE (d e v:D)(mu:Sto):Rs Unit:=match d,e with
 | .ref k,.int i=>match mu[k]? with
  | some (.lst ds)=>match ixN ds.length i with
   | some j=>some ((),mu.set k (.lst (ds.set j v)))
   | none=>none
  | _=>none
 | _,_=>none
noncomputable def Aaq (K:Zc):Q6:=λo i v H Q=>∃ th mu d e w,StoOk K th mu H∧Rep K th H d o∧Rep K th H e i∧Rep K th H w v∧Tr K th H (UE d e w mu) λ_ _ _ H'=>Q H'
theorem Yq:UH X (Aaq X.z):=by
 intro pins s st H o i v ov iv u Q I ro ri rv h
 obtain ⟨th,mu,d,e,w,so,r1,r2,r3,t⟩:=h
 cases d with
 | ref k =>
  cases e with
  | int j =>
   unfold UE at t
   dsimp only at t
   cases q:mu[k]? with
   | none=>rw [q] at t;exact t.no.elim
   | some o' =>
    cases o' with
    | dct _ _=>rw [q] at t;exact t.no.elim
    | lst ds =>
     rw [q] at t
     dsimp only at t
     cases q2:ixN ds.length j with
     | none=>rw [q2] at t;exact t.no.elim
     | some n =>
      rw [q2] at t
      unfold Rep at r1
      obtain ⟨a,rfl,ha⟩:=r1
      obtain ⟨vs,h1,h2,h3⟩:=so.at' k a _ ha q
      exact set_list pins s st H _ i v ov iv u Q I ro ri rv ⟨a,vs,j,n,rfl,r2,h1,by rw [h2.len];exact q2,t.retX (.mut (Ak ha) _) (so.put ha (h2.setAt n r3) (by rw [List.length_set];exact h3))⟩
  | _=>exact t.no.elim
 | _=>exact t.no.elim
noncomputable def Eg (lo:Int)(n:Nat):List D:=(List.range n).map λk:Nat=>.int (lo+k)
theorem RA {lo:Int}{n:Nat}(hn:n≤sizeLine):Rc K (Itr lo n) th mu H (Eg lo n) none where
 sz:=by unfold Eg;simpa using hn
 go:=λth' mu' H' e s go i d ed=>by
  unfold Eg at ed
  rw [Al] at ed
  cases q:(List.range n)[i]? with
  | none=>rw [q] at ed;cases ed
  | some k =>
   rw [q] at ed
   have hd:D.int (lo+k)=d:=by simpa using ed
   obtain ⟨hi,hk⟩:=Ae.mp q
   rw [Bx] at hi
   rw [List.getElem_range] at hk
   subst hk hd
   refine ⟨hi,λv H2 y=>?_⟩
   obtain ⟨rfl,rfl⟩:=y
   exact ⟨.refl _ _,s,by unfold Rep;rfl⟩
 stop:=λth' mu' H' e s go=>by show n≤(Eg lo n).length;unfold Eg;simp
noncomputable def iRg (a:Exs):Ix:=λro mu=>bM (a ro mu) λds m1=>match Rq ds with
 | some j=>if -(2 ^ 62)≤j∧j≤(sizeLine:Int) then some ((Eg 0 j.toNat,none),m1) else none
 | none=>none
theorem EK {tg a:Expr}{m:Exs}{p pos:Pos}(hm:X.mg "range"=none)(ha:SVA X [a] m)(hg:Gl X "range":=by rfl)(hs:starEach [a] X.env=[(false,eval a X.env)]:=by rfl):SVI X tg (.Call (.Name "range" p) [a] [] pos) (iRg m):=
 ⟨PI.weak (Qk hg hm ha.1 hs) λst H R h=>by
  obtain ⟨th,mu,ro,so,en,t⟩:=h
  refine ⟨th,mu,ro,so,en,t.bind.mono λds th1 mu1 H1 e1 s1 t1 vs rvs=>?_⟩
  cases q:Rq ds with
  | none=>rw [q] at t1;exact t1.no.elim
  | some j =>
   rw [q] at t1
   dsimp only at t1
   by_cases c:-(2 ^ 62)≤j∧j≤(sizeLine:Int)
   ·rw [if_pos c] at t1
    rw [Rb q] at rvs
    obtain ⟨x,rfl,rx⟩:=DY rvs
    refine ⟨j,by rw [show x=_ from rx],c.1,?_,t1.ret s1 _ (RA (by omega))⟩
    have:=c.2
    rw [AH] at this
    omega
   ·rw [if_neg c] at t1;exact t1.no.elim⟩
noncomputable def SI (ds:List D):Option (List D×List D):=match ds with
 | [.lst xs,.lst ys]=>some (xs,ys)
 | _=>none
theorem Rh {ds:List D}{p:List D×List D}(h:SI ds=some p):ds=[.lst p.1,.lst p.2]:=by
 unfold SI at h
 split at h
 ·cases h;rfl
 ·cases h
noncomputable def EA (xs ys:List D):List D:=(xs.zip ys).map λp=>.tup [p.1,p.2]
noncomputable def iZp (a:Exs):Ix:=λro mu=>bM (a ro mu) λds m1=>(SI ds).map λp=>((EA p.1 p.2,none),m1)
theorem Vm {a b:Expr}{m:Exs}{p pos:Pos}{elts:List Expr}{k:Nat}{tp:Pos}(hm:X.mg "zip"=none)(ha:SVA X [a,b] m)(hg:Gl X "zip":=by rfl)(hs:starEach [a,b] X.env=[(false,eval a X.env),(false,eval b X.env)]:=by rfl)(hs2:starEach [b] X.env=[(false,eval b X.env)]:=by rfl) :
  SVI X (.Tuple elts k tp) (.Call (.Name "zip" p) [a,b] [] pos) (iZp m):=⟨PI.weak (Wr hg hm PyProof.Rows.boot_zip ha.1 hs hs2) λst H R h=>by
 obtain ⟨th,mu,ro,so,en,t⟩:=h
 refine ⟨th,mu,ro,so,en,t.bind.mono λds th1 mu1 H1 e1 s1 t1 vs rvs=>?_⟩
 cases q:SI ds with
 | none=>rw [q] at t1;exact t1.no.elim
 | some pr =>
  rw [q] at t1
  rw [Rh q] at rvs
  obtain ⟨xs,ys⟩:=pr
  obtain ⟨x,y,rfl,rx,ry⟩:=HZ rvs
  unfold Rep at rx ry
  obtain ⟨a1,us,rfl,h1,l1,z1⟩:=rx
  obtain ⟨a2,ws,rfl,h2,l2,z2⟩:=ry
  refine ⟨a1,a2,rfl,⟨us,h1.sq⟩,⟨ws,h2.sq⟩,t1.ret s1 _ ⟨?_,λth' mu' H' e s' go i d ed=>?_,λth' mu' H' e s' go=>?_⟩⟩
  ·show (EA xs ys).length≤sizeLine
   unfold EA
   rw [Ag,List.length_zip]
   exact AQ (Nat.min_le_left _ _) z1
  ·have g1:=(e.fz h1).sq
   have g2:=(e.fz h2).sq
   have ed':(EA xs ys)[i]? = some d:=ed
   unfold EA at ed'
   rw [Al] at ed'
   cases q3:(xs.zip ys)[i]? with
   | none=>rw [q3] at ed';cases ed'
   | some pq =>
    rw [q3] at ed'
    have hd:D.tup [pq.1,pq.2]=d:=by simpa using ed'
    subst hd
    obtain ⟨hx,hy⟩:=List.getElem?_zip_eq_some.mp q3
    obtain ⟨v1,ev1,rv1⟩:=(l1.ext e s1.out).get hx
    obtain ⟨v2,ev2,rv2⟩:=(l2.ext e s1.out).get hy
    refine ⟨⟨us,ws,v1,v2,g1,g2,ev1,ev2⟩,λv H2 y=>?_⟩
    obtain ⟨T,x',y',rfl,hT,rfl,f1,f2⟩:=y
    have ex:=f1 us g1
    have ey:=f2 ws g2
    rw [ev1] at ex
    rw [ev2] at ey
    cases ex
    cases ey
    exact ⟨.new hT _,s'.new hT _,Rep.newTup s' hT (.cons rv1 (.cons rv2 .nil)) (by show 2≤sizeLine;decide)⟩
  ·have g1:=(e.fz h1).sq
   have g2:=(e.fz h2).sq
   refine ⟨us,ws,g1,g2,?_⟩
   show us.length≤(EA xs ys).length∨ws.length≤(EA xs ys).length
   unfold EA
   rw [Ag,List.length_zip,l1.len,l2.len]
   dsimp only
   omega⟩
theorem Vw {a b:Str}(h:a.cps.toList=b.cps.toList):a=b:=by
 obtain ⟨x⟩:=a
 obtain ⟨y⟩:=b
 have:x=y:=Array.toList_inj.mp h
 rw [this]
noncomputable def strsOf:List D->Option (List Str)
 | []=>some []
 | .str b::ds=>(strsOf ds).map (b::·)
 | _=>none
theorem FO:∀ {ds:List D} {ss:List Str},strsOf ds=some ss->ds=ss.map D.str
 | [],_,h=>by cases h;rfl
 | d::ds,ss,h=>by
  cases d with
  | str b =>
   unfold strsOf at h
   cases e:strsOf ds with
   | none=>rw [e] at h;cases h
   | some cs=>rw [e] at h;cases h;rw [FO e];rfl
  | _=>cases h
theorem Lp:∀ {ss:List Str} {vs:List V},RepL K th H (ss.map D.str) vs->vs=ss.map V.str∧∀ x∈ss,x.length≤sizeLine∧PyData.strOk x=true
 | [],_,r=>⟨r.inv0,λ_ h=>nomatch h⟩
 | s::ss,_,r=>by
  obtain ⟨v,r',rfl,h1,h2⟩:=RepL.inv (d:=.str s) (ds:=ss.map D.str) r
  obtain ⟨e,hs⟩:=Lp h2
  rw [e,h1.1]
  refine ⟨rfl,λx hx=>?_⟩
  rcases Am.mp hx with rfl|hx
  ·exact h1.2
  ·exact hs x hx
theorem Lf:∀ {ss:List Str},(∀ x∈ss,x.length≤sizeLine∧PyData.strOk x=true)->RepL K th H (ss.map D.str) (ss.map V.str)
 | [],_=>.nil
 | s::ss,h=>.cons (d:=.str s) ⟨rfl,h s (.head _)⟩ (Lf λx hx=>h x (.tail _ hx))
end
noncomputable def LtAt (A:Around)(s:Shared)(y x:Value)(b:Bool):Prop:=
 ∀ (prog:Program) (w:World) (E:Value->Shared->Prop) (Q:Value->Shared->Prop),Q (.bool b) s->wpAny (model prog w) A (richCompare .Lt y x) Q E s
noncomputable def Nb (A:Around)(s:Shared):List Value->List Value->Bool->Prop
 | [],[],b=>b=false
 | [],_::_,b=>b=true
 | _::_,[],b=>b=false
 | y::vs,x::ws,b=>∃ e,SeqAt.EqAt A s y x e∧if e=true then Nb A s vs ws b else LtAt A s y x b
section
open PySem.SeqAt
open PySem.AutoSeq1 (wpAny_loadPart')
open PySem.MeetsSeq PySem.MeetsSeq2 PySem.MeetsSeq3
theorem Mr (l b:Addr)(items items2:Array Value)(n n2:Nat)(dd dd2:Option Addr)(sl sl2:Array (Option Value))(r:Bool) :
  Meets (Builtin.«tuple.__lt__» ⟨[.ref l,.ref b],[]⟩)
   (λA R s=>s.heap.get? l=some { cls:=.type "tuple",dict:=dd,data:=.seq items n,slots:=sl }∧s.heap.get? b=some { cls:=.type "tuple",dict:=dd2,data:=.seq items2 n2,slots:=sl2 } ∧
    Nb A.in1 s items.toList items2.toList r∧R (.ok (.ret (.bool r))) s):=
 .of_wp λprog w A R s h=>by
  obtain ⟨hp,g,d,tk,os⟩:=s;obtain ⟨hl,hb,hx,h⟩:=h
  have f2:=AutoSeq1.sub_tuple_tuple
  wp_walk using A8 hl,A8 hb,wpAny_forIn_list _ (λrest b s'=>b.1=none∧s'=⟨hp,g,d,tk,os⟩∧∃ (vs ws:List Value),rest=vs.zip ws ∧
   Nb A.in1 ⟨hp,g,d,tk,os⟩ vs ws r∧vs.length+items2.size=ws.length+items.size) _
  case turn =>
   rintro ⟨y,x⟩ rest b s' ⟨hb',rfl,vs,ws,hz,hlx,hlen⟩
   cases vs with
   | nil=>rw [List.zip_nil_left] at hz;cases hz
   | cons a vs' =>
    cases ws with
    | nil=>rw [List.zip_nil_right] at hz;cases hz
    | cons c ws' =>
     rw [List.zip_cons_cons] at hz
     injection hz with hyx hrest
     injection hyx with hy hx
     subst hy hx
     simp only [List.length_cons] at hlen
     obtain ⟨e,he,hiff⟩:=hlx
     refine Aa (he prog w _ _ ?_)
     cases e with
     | true =>
      rw [if_pos rfl] at hiff
      wp_walk
      exact ⟨rfl,rfl,_,_,hrest,hiff,by omega⟩
     | false =>
      rw [if_neg AG] at hiff
      have hri:=hiff prog w
      wp_walk using hri
      exact ⟨_,rfl,by simpa using h⟩
  case fin =>
   rintro ⟨b1,b2⟩ s' ⟨hb',rfl,vs,ws,hz,hlx,hlen⟩
   simp only at hb'
   subst hb'
   have hv:r=decide (items.size<items2.size):=by
    cases vs with
    | nil =>
     cases ws with
     | nil =>
      simp only [List.length_nil] at hlen
      rw [show r=false from hlx]
      exact (A3 (by omega)).symm
     | cons c ws' =>
      simp only [List.length_nil,List.length_cons] at hlen
      rw [show r=true from hlx]
      exact (Bv (by omega)).symm
    | cons a vs' =>
     cases ws with
     | nil =>
      simp only [List.length_nil,List.length_cons] at hlen
      rw [show r=false from hlx]
      exact (A3 (by omega)).symm
     | cons c ws' =>
      rw [List.zip_cons_cons] at hz
      cases hz
   rw [hv] at h
   wp_walk
   exact ⟨_,rfl,by simpa [Builtin.Tuple.tupleCompareSizes] using h⟩
  case h =>
   exact ⟨rfl,rfl,items.toList,items2.toList,rfl,hx,by simp;omega⟩
end
theorem LtAt.tuples {A:Around}{s:Shared}{l b:Addr}{items items2:Array Value}{r:Bool}(hl:IsTup s.heap l items)(hb:IsTup s.heap b items2)(hu:A.units<cLine)(hx:Nb A.in1 s items.toList items2.toList r):LtAt A s (.ref l) (.ref b) r:=λprog w E Q h=>by
 obtain ⟨⟨cls,dd,data,sl⟩,ho,hc,n,hd⟩:=id hl
 obtain ⟨⟨cls2,dd2,data2,sl2⟩,ho2,hc2,n2,hd2⟩:=id hb
 simp only at hc hd hc2 hd2
 subst hc hd hc2 hd2
 exact richCompare_meets_room (op:=.Lt) ⟨_,ho,rfl⟩ ⟨_,ho2,rfl⟩ PySem.F.slot_tuple_lt PySem.F.entry_tuple_lt (PySem.F.args_tuple_lt_2 _ _) (Mr l b items items2 n n2 dd dd2 sl sl2 r)
  ⟨ho,ho2,hx,show Value.bool r≠Value.notImplemented∧Q (.bool r) s from ⟨(λx=>nomatch x),h⟩⟩ hu
mutual
noncomputable def ltB:D->D->Option Bool
 | .int i,.int j=>some (decide (i<j))
 | .str i,.str j=>some (decide (i.cps.toList<j.cps.toList))
 | .tup xs,.tup ys=>Gr xs ys
 | _,_=>none
noncomputable def Gr:List D->List D->Option Bool
 | [],[]=>some false
 | [],_::_=>some true
 | _::_,[]=>some false
 | x::xs,y::ys=>if CS x&&CS y then (if PyData.eqv (toPy x) (toPy y) then Gr xs ys else ltB x y) else none
end
section
variable {X:Cx} {K:Zc} {th:List Addr} {mu:Sto} {H:Hp}
mutual
theorem NN {pins:List (Addr×Obj)}{st:L2.St}{s:Shared}(I:L2.Inv X pins st H s):∀ (d e:D) (b:Bool) (v u:V) (vv uu:Value) (A:Around),ltB d e=some b->Rep X.z th H d v->Rep X.z th H e u->RelV v vv->RelV u uu->A.units+(toPy d).depth+1<cLine->LtAt A s vv uu b
 | .int i,e,b,v,u,vv,uu,A,h,r1,r2,q1,q2,hu=>by
  cases e with
  | int j =>
   unfold ltB at h
   cases h
   cases (show _=_ from r1)
   cases (show _=_ from r2)
   obtain ⟨t1,rfl⟩:=q1
   obtain ⟨t2,rfl⟩:=q2
   exact λprog w E Q hq=>(PyProof.Rows.lt_int hq:wpAny (model prog w) A (compareOp .Lt (.int i t1) (.int j t2)) Q E s)
  | _=>unfold ltB at h;cases h
 | .str i,e,b,v,u,vv,uu,A,h,r1,r2,q1,q2,hu=>by
  cases e with
  | str j =>
   unfold ltB at h
   cases h
   obtain ⟨rfl,_⟩:=(show _∧_ from r1)
   obtain ⟨rfl,_⟩:=(show _∧_ from r2)
   obtain ⟨t1,rfl⟩:=q1
   obtain ⟨t2,rfl⟩:=q2
   exact λprog w E Q hq=>(PyProof.Rows.lt_str hq:wpAny (model prog w) A (compareOp .Lt (.str i t1) (.str j t2)) Q E s)
  | _=>unfold ltB at h;cases h
 | .tup xs,e,b,v,u,vv,uu,A,h,r1,r2,q1,q2,hu=>by
  cases e with
  | tup ys =>
   unfold ltB at h
   unfold Rep at r1 r2
   obtain ⟨a,vs,rfl,h1,l1,_⟩:=r1
   obtain ⟨c,us,rfl,h2,l2,_⟩:=r2
   cases q1
   cases q2
   obtain ⟨its,rv,p1,_⟩:=I.tuple h1
   obtain ⟨its2,rv2,p2,_⟩:=I.tuple h2
   have hd:(toPy (.tup xs)).depth=PyData.depthAll (CJ xs)+1:=by unfold toPy PyData.depth;rfl
   rw [hd] at hu
   refine LtAt.tuples p1 p2 (by omega) ?_
   have:=OZ I xs ys b vs us its its2 A.in1 h l1 l2 rv rv2 (by show A.units+1+PyData.depthAll (CJ xs)+1<cLine;omega)
   simpa using this
  | _=>unfold ltB at h;cases h
 | .non,e,b,_,_,_,_,_,h,_,_,_,_,_=>by cases e<;>(unfold ltB at h;cases h)
 | .bl _,e,b,_,_,_,_,_,h,_,_,_,_,_=>by cases e<;>(unfold ltB at h;cases h)
 | .lst _,e,b,_,_,_,_,_,h,_,_,_,_,_=>by cases e<;>(unfold ltB at h;cases h)
 | .dct _ _,e,b,_,_,_,_,_,h,_,_,_,_,_=>by cases e<;>(unfold ltB at h;cases h)
 | .set _,e,b,_,_,_,_,_,h,_,_,_,_,_=>by cases e<;>(unfold ltB at h;cases h)
 | .ref _,e,b,_,_,_,_,_,h,_,_,_,_,_=>by cases e<;>(unfold ltB at h;cases h)
theorem OZ {pins:List (Addr×Obj)}{st:L2.St}{s:Shared}(I:L2.Inv X pins st H s):∀ (xs ys:List D) (b:Bool) (vs us:List V) (vvs uus:List Value) (A:Around),Gr xs ys=some b->RepL X.z th H xs vs->RepL X.z th H ys us->Vals vs vvs->Vals us uus->A.units+PyData.depthAll (CJ xs)+1<cLine->Nb A s vvs uus b
 | [],[],b,_,_,_,_,A,h,r1,r2,q1,q2,hu=>by
  cases r1.inv0;cases r2.inv0;cases q1;cases q2
  unfold Gr at h
  cases h
  rfl
 | [],y::ys,b,_,_,_,_,A,h,r1,r2,q1,q2,hu=>by
  cases r1.inv0
  obtain ⟨v,r,rfl,_,_⟩:=r2.inv
  cases q1
  cases q2
  unfold Gr at h
  cases h
  rfl
 | x::xs,[],b,_,_,_,_,A,h,r1,r2,q1,q2,hu=>by
  cases r2.inv0
  obtain ⟨v,r,rfl,_,_⟩:=r1.inv
  cases q1
  cases q2
  unfold Gr at h
  cases h
  rfl
 | x::xs,y::ys,b,_,_,_,_,A,h,r1,r2,q1,q2,hu=>by
  obtain ⟨v,r,rfl,a1,a2⟩:=r1.inv
  obtain ⟨u,r',rfl,b1,b2⟩:=r2.inv
  cases q1 with
  | cons g1 g2 =>
   cases q2 with
   | cons k1 k2 =>
    unfold Gr at h
    have hd:PyData.depthAll (CJ (x::xs))=max (toPy x).depth (PyData.depthAll (CJ xs)):=by rw [CJ,PyData.depthAll]
    rw [hd] at hu
    by_cases c:(CS x&&CS y)=true
    ·rw [if_pos c] at h
     rw [Ab] at c
     obtain ⟨as,w1,w2⟩:=EW I x v _ c.1 a1 g1
     obtain ⟨bs,w3,w4⟩:=EW I y u _ c.2 b1 k1
     refine ⟨_,SeqAt.eqAt_reads _ _ A s _ _ as bs w1 w3 w2 w4 (by omega),?_⟩
     cases e:PyData.eqv (toPy x) (toPy y) with
     | true=>rw [e] at h;rw [if_pos rfl] at h ⊢;exact OZ I xs ys b _ _ _ _ A h a2 b2 g2 k2 (by omega)
     | false=>rw [e] at h;rw [if_neg AG] at h ⊢;exact NN I x y b _ _ _ _ A h a1 b1 g1 k1 (by omega)
    ·rw [if_neg c] at h;cases h
end
noncomputable def ltG (d e:D)(mu:Sto):Rs D:=if (toPy d).depth≤60 then (ltB d e).map λb=>(.bl b,mu) else none
theorem S9 (hu:X.A.units+64<cLine):OpV X (compareOp .Lt) ltG:=by
 intro pins s st H x y v u Q I rx ry h
 obtain ⟨th,mu,d,e,so,r1,r2,t⟩:=h
 unfold ltG at t
 by_cases c:(toPy d).depth≤60
 ·rw [if_pos c] at t
  cases e1:ltB d e with
  | none=>rw [e1] at t;exact t.no.elim
  | some b =>
   rw [e1] at t
   exact NN I d e b x y v u X.A e1 r1 r2 rx ry (by omega) _ _ _ _ ⟨.bl b,H,I,rfl,t.ret so _ rfl⟩
 ·rw [if_neg c] at t;exact t.no.elim
end
section
variable {X:Cx} {K:Zc} {th:List Addr} {mu:Sto} {H:Hp}
noncomputable def UZ (d:D)(mu:Sto):Rs D:=match d with
 | .int i=>some (.int (-i),mu)
 | _=>none
theorem Rw {a:Expr}{m:Ex}{pos:Pos}(ha:SV X a m):SV X (.UnaryOp .USub a pos) (e1 UZ m):=⟨PE.weak (VV Ts ha.r) λst H Q h=>by
 obtain ⟨th,mu,ro,so,en,t⟩:=h
 refine ⟨th,mu,ro,so,en,t.bind.mono λd th1 mu1 H1 e1 s1 t1 v rv=>?_⟩
 cases d with
 | int i=>exact ⟨i,rv,t1.ret s1 _ rfl⟩
 | _=>exact t1.no.elim⟩
theorem XH {pins:List (Addr×Obj)}{st:L2.St}{s:Shared}(I:L2.Inv X pins st H s):sysModules<s.heap.objs.size:=by
 obtain ⟨o,_,_,ho,_⟩:=I.mod.glob
 exact AF (show sysModules<mainGlobals+1 by decide) (Ao (I.bk _ _ ho))
theorem Mh {P:Program}{w:World}{H:Hp}{h:Heap}{a:Addr}{xs:List (Int×V×V)}(x:W9 a xs h):ObjOk P w H h a (Ge a xs):=by
 refine ⟨x,?_,λh1 h2 ⟨z,o,es,ep,ho,r⟩ k=>⟨z,o,es,ep,k o ho,r⟩⟩
 obtain ⟨_,o,es,ep,ho,r⟩:=x
 exact ⟨o,ho⟩
noncomputable def MI:Ex:=λ_ mu=>some (.dct [] [],mu)
noncomputable def Nq:Ex:=λ_ mu=>some (.ref mu.length,mu++[.dct [] []])
theorem OV {pins:List (Addr×Obj)}{st:L2.St}{s:Shared}(I:L2.Inv X pins st H s):W9 s.heap.objs.size [] (s.heap.push { cls:=.type "dict",data:=.dict #[] }):=
 ⟨beq_eq_false_iff_ne.mpr (Ne.symm (Ay (XH I))),_,#[],0,Aj _ rfl,⟨rfl,rfl,rfl⟩,rfl,.nil⟩
theorem OX {pos:Pos}:SV X (.Dict [] [] pos) MI:=⟨λpins s st H Q I h=>by
 obtain ⟨th,mu,ro,so,en,t⟩:=h
 have hp:H s.heap.objs.size=none:=I.hok.fresh (Ai _)
 refine wpAny_Dict_empty ⟨.ref s.heap.objs.size,_,I.laid (a:=s.heap.objs.size) (o:=Ge s.heap.objs.size []) (t':=s.toks) (λ_ _ q=>Ad _ q) (Ai _) (Mh (OV I)),rfl,t.retX (.new hp _) (so.new hp _) _ ?_⟩
 unfold Rep
 exact ⟨_,[],rfl,so.notin hp,DR,rfl,.nil,.nil,.nil⟩⟩
theorem Pb {pos:Pos}:SV X (.Dict [] [] pos) Nq:=⟨λpins s st H Q I h=>by
 obtain ⟨th,mu,ro,so,en,t⟩:=h
 have hp:H s.heap.objs.size=none:=I.hok.fresh (Ai _)
 refine wpAny_Dict_empty ⟨.ref s.heap.objs.size,_,I.laid (a:=s.heap.objs.size) (o:=Ge s.heap.objs.size []) (t':=s.toks) (λ_ _ q=>Ad _ q) (Ai _) (Mh (OV I)),rfl,t.retX (.newM hp _) (so.newD hp) _ ?_⟩
 unfold Rep
 exact ⟨_,rfl,by rw [← so.len];simp⟩⟩
theorem AaN (xs:Array Value):((List.range xs.size).filterMap λ(m:Nat)=>xs[(((xs.size:Int)-1)+(m:Int)*(-1)).toNat]?)=xs.toList.reverse:=by
 have gen:∀ n,n≤xs.size->((List.range n).filterMap λ(m:Nat)=>xs[(((xs.size:Int)-1)+(m:Int)*(-1)).toNat]?)=xs.toList.reverse.take n:=by
  intro n
  induction n with
  | zero=>intro _;simp
  | succ n ih =>
   intro hn
   have e:(((xs.size:Int)-1)+(n:Int)*(-1)).toNat=xs.size-1-n:=by omega
   rw [List.range_succ,List.filterMap_append,ih (by omega),List.take_add_one]
   congr 1
   rw [List.filterMap_cons,List.filterMap_nil,e,List.getElem?_reverse (by simp;omega)]
   simp [show xs.size-1-n<xs.size by omega]
 rw [gen xs.size (Ai _),List.take_of_length_le (by simp)]
theorem Jk {prog:Program}{w:World}{A:Around}{E:Value->Shared->Prop}{s:Shared}{sl:Addr}{t:Tok}{n:Nat}{Q:Int×Int×Nat->Shared->Prop}(hs:s.heap.IsSliceOf sl .none .none (.int (-1) t))
  (h:Q (((n:Int)-1),-1,n) s):wpAny (model prog w) A (Builtin.Slice.sliceApplied (.ref sl) (pure (n:Int))) Q E s:=by
 obtain ⟨os,hos,hcs,hds⟩:=id hs
 unfold Builtin.Slice.sliceApplied Builtin.Slice.sliceFields
 refine Aa (Aa (Bp hos hds (x:=.none) rfl (Aa (Bp hos hds (x:=.none) rfl (Aa (Bp hos hds (x:=.int (-1) t) rfl (Ac ?_)))))))
 refine Aa (HT.FL (.int (-1) t) ?_)
 show wpAny _ _ (if ((-1:Int)==0)=true then _ else _) _ _ s
 rw [if_neg (by decide)]
 refine Aa (HT.FL .none (Aa (HT.FL .none (Aa (Ac ?_)))))
 show wpAny _ _ (pure (((n:Int)-1),(-1:Int),Builtin.Slice.slicePlaces ((n:Int)-1) (-1) (-1))) _ _ s
 have e:Builtin.Slice.slicePlaces ((n:Int)-1) (-1) (-1)=n:=by
  unfold Builtin.Slice.slicePlaces
  rw [if_neg (by decide)]
  by_cases h:(n:Int)-1 > -1
  ·rw [if_pos h]
   have:((n:Int)-1 - -1-1) / (- -1)+1=n:=by rw [show (- -1:Int)=1 from rfl,Int.ediv_one];omega
   rw [this]
   simp
  ·rw [if_neg h]
   simp
   omega
 rw [e]
 exact Ac h
theorem Ib {prog:Program}{w:World}{A:Around}{E:Value->Shared->Prop}{s:Shared}{t sl:Addr}{items:Array Value}{tk:Tok}{Q:Value->Shared->Prop}(ht:IsTup s.heap t items)(hs:s.heap.IsSliceOf sl .none .none (.int (-1) tk))
  (h:Q (.ref s.heap.objs.size) { s with heap:=s.heap.push { cls:=.type "tuple",data:=.seq items.toList.reverse.toArray } }) (hsz:items.size≤sizeLine):wpAny (model prog w) A (getItem (.ref t) (.ref sl)) Q E s:=by
 obtain ⟨os,hos,hcs,hds⟩:=id hs
 have hTs:s.TypeIs (.ref sl) "slice":=⟨os,hos,hcs⟩
 have htake:sizeOk (.seq items.toList.reverse.toArray):=by
  show items.toList.reverse.toArray.size≤sizeLine
  simpa using hsz
 unfold getItem
 try with_reducible refine AI ?_
 first|refine Aa (Ac ?_)|skip
 refine Aa (wpAny_sequenceKey ht.typeIs (by decide) ?_)
 refine Aa (AM (name:=Str.ofString "__getitem__") ht.typeIs AY
  (AO AY ht.typeIs entry_tuple_getitem ?_ (args_tuple_getitem _ _)))
 show wpAny _ _ (Builtin.Tuple.tupleItemsOf (.ref t) >>= _) _ _ s
 refine Aa (tupleItemsOf_ ht ?_)
 refine Aa (BY hTs ?_)
 rw [if_pos (by decide)]
 refine Aa (Jk hs ?_)
 dsimp only
 rw [if_neg (by simp),AaN]
 exact Aa (m:=Builtin.Tuple.tupleExact _) (AU (Ac ⟨_,rfl,Ac h⟩) htake)
noncomputable def Vg (d:D)(mu:Sto):Rs D:=match d with
 | .tup ds=>some (.tup ds.reverse,mu)
 | _=>none
theorem Vals.rev {xs:List V}{us:List Value}(r:Vals xs us):Vals xs.reverse us.reverse:=Vals.reverse r
theorem W6 {e:Expr}{m:Ex}{j:Nat}{p1 p2 p3 pos:Pos}(he:SV X e m):SV X (.Subscript e (.Slice none none (some (.UnaryOp .USub (.Constant (.int 1) j p1) p2)) p3) pos) (e1 Vg m):=⟨by
 intro pins s st H Q I h
 obtain ⟨th,mu,ro,so,en,t⟩:=h
 refine Subscript_ (thn (he.r pins s st H (λx H1=>∃ th1 mu1 d,StoOk X.z th1 mu1 H1∧Rep X.z th1 H1 d x∧Tr X.z th1 H1 (Vg d mu1) (KV' X.z Q)) I ⟨th,mu,ro,so,en,t.bind.mono λd th1 mu1 H1 e1 s1 t1 v rv=>⟨th1,mu1,d,s1,rv,t1⟩⟩) λv s1 ⟨x,H1,I1,r1,th1,mu1,d,so1,rd,t1⟩=>?_)
 refine wpAny_Slice ?_
 rw [evalPart_none]
 refine Ac (Ac ?_)
 rw [evalPart_some]
 refine thn ((VV (X:=X) Ts (RF (i:=1) (j:=j) (pos:=p1))) pins s1 st H1 (λy H'=>y=.int (-1)∧H'=H1) I1 ⟨1,rfl,rfl,rfl⟩) λu s2 ⟨y,H2,I2,r2,ey,eH⟩=>?_
 subst ey eH
 obtain ⟨tk,rfl⟩:=r2
 have I4:L2.Inv X pins st H2 { s2 with heap:=s2.heap.push { cls:=.type "slice",data:=.fields #[.none,.none,.int (-1) tk] } }:=I2.kept (t':=s2.toks) λb ob q=>Ad _ q
 cases d with
 | tup ds =>
  unfold Rep at rd
  obtain ⟨a,vs,rfl,h1,h2,h3⟩:=rd
  cases r1
  obtain ⟨its,rv,ht,hz⟩:=I4.tuple h1
  show wpAny (model X.prog X.w) X.A (subscriptTail e (.Slice none none (some (.UnaryOp .USub (.Constant (.int 1) j p1) p2)) p3) (.ref a) (.ref s2.heap.objs.size)) (EP X pins st Q) X.xe { s2 with heap:=s2.heap.push { cls:=.type "slice",data:=.fields #[.none,.none,.int (-1) tk] } }
  refine tail_any (ops:=[.ref a,.ref s2.heap.objs.size]) ht.typeIs AY.lookup (Ib ht (Heap.IsSliceOf.new ..) ?_ (by rw [An,← rv.length];exact hz)) (by with_unfolding_all rfl)
  have hp:=I4.hok.fresh (Ai _)
  refine ⟨.ref _,_,I4.laid (t':=s2.toks) (o:=.tup vs.reverse) (λb ob q=>Ad _ q) (Ai _) ⟨⟨by rw [List.length_reverse];exact hz,_,Aj _ rfl,rfl⟩,its.reverse,Vals.rev rv,IsTup.new _ _⟩,rfl,?_⟩
  exact t1.retX (.new hp _) (so1.new hp _) _ (Rep.newTup so1 hp h2.rev (by rw [List.length_reverse];exact h3))
 | _=>exact t1.no.elim⟩
end
noncomputable def DE {α:Type}(ask:Nat->Nat->Option Bool):PySem.W.KasT α->Option α
 | .ret a=>some a
 | .ask i j k=>match ask i j with
  | none=>none
  | some b=>DE ask (k b)
theorem IT {α:Type}{ask:Nat->Nat->Option Bool}{cmp:Nat->Nat->(Bool->Shared->Prop)->Shared->Prop}{s:Shared}(hc:∀ i j b C,ask i j=some b->C b s->cmp i j C s):∀ (t:PySem.W.KasT α) (a:α) (Q:α->Shared->Prop),DE ask t=some a->Q a s->t.kasWp cmp Q s
 | .ret a,_,Q,e,q=>by cases e;exact q
 | .ask i j k,a,Q,e,q=>by
  unfold DE at e
  cases e1:ask i j with
  | none=>rw [e1] at e;cases e
  | some b =>
   rw [e1] at e
   exact hc i j b _ e1 (IT hc (k b) a Q e q)
section
variable {X:Cx} {K:Zc} {th:List Addr} {mu:Sto} {H:Hp}
noncomputable def tupS:D->Bool
 | .tup (.str x::r)=>D6 r&&decide (PyData.depthAll (CJ r)≤50)
 | _=>false
theorem Kg {d:D}(h:tupS d=true):∃ x r,d=.tup (.str x::r)∧D6 r=true∧PyData.depthAll (CJ r)≤50:=by
 unfold tupS at h
 split at h
 ·rename_i x r
  rw [Ab,Af] at h
  exact ⟨x,r,rfl,h.1,h.2⟩
 ·cases h
theorem Lv {pins:List (Addr×Obj)}{st:L2.St}{s:Shared}(I:L2.Inv X pins st H s){A:Around}{fin:Bool}{Q:Bool->Shared->Prop} :
  ∀ (xs ys:List D) (b:Bool) (vs us:List V) (vvs uus:List Value) (i:Nat),Gr xs ys=some b->RepL X.z th H xs vs->RepL X.z th H ys us->Vals vs vvs->Vals us uus->A.units+PyData.depthAll (CJ xs)+1<cLine ->
   (i=0->∃ x r y r',xs=.str x::r∧ys=.str y::r')->(fin=decide (xs.length<ys.length))->Q b s->PySem.W.KatLex X.prog X.w A true fin Q (vvs.zip uus) i s
 | [],[],b,_,_,_,_,i,h,r1,r2,q1,q2,hu,h0,hf,q=>by
  cases r1.inv0;cases r2.inv0;cases q1;cases q2
  unfold Gr at h
  cases h
  exact PySem.W.kat_nil (by rw [hf];exact q)
 | [],y::ys,b,_,_,_,_,i,h,r1,r2,q1,q2,hu,h0,hf,q=>by
  cases r1.inv0
  obtain ⟨v,r,rfl,_,_⟩:=r2.inv
  cases q1
  cases q2
  unfold Gr at h
  cases h
  exact PySem.W.kat_nil (by rw [hf,Bv (by simp)];exact q)
 | x::xs,[],b,_,_,_,_,i,h,r1,r2,q1,q2,hu,h0,hf,q=>by
  cases r2.inv0
  obtain ⟨v,r,rfl,_,_⟩:=r1.inv
  cases q1
  cases q2
  unfold Gr at h
  cases h
  exact PySem.W.kat_nil (by rw [hf,A3 (by simp)];exact q)
 | x::xs,y::ys,b,_,_,_,_,i,h,r1,r2,q1,q2,hu,h0,hf,q=>by
  obtain ⟨v,r,rfl,a1,a2⟩:=r1.inv
  obtain ⟨u,r',rfl,b1,b2⟩:=r2.inv
  cases q1 with
  | cons g1 g2 =>
   cases q2 with
   | cons k1 k2 =>
    unfold Gr at h
    have hd:PyData.depthAll (CJ (x::xs))=max (toPy x).depth (PyData.depthAll (CJ xs)):=by rw [CJ,PyData.depthAll]
    rw [hd] at hu
    by_cases c:(CS x&&CS y)=true
    ·rw [if_pos c] at h
     rw [Ab] at c
     obtain ⟨as,w1,w2⟩:=EW I x v _ c.1 a1 g1
     obtain ⟨bs,w3,w4⟩:=EW I y u _ c.2 b1 k1
     refine PySem.W.kat_cons (SeqAt.eqAt_reads _ _ A s _ _ as bs w1 w3 w2 w4 (by omega) _ _ _ _ ?_)
     cases e:PyData.eqv (toPy x) (toPy y) with
     | true =>
      rw [e,if_pos rfl] at h
      refine PySem.W.kat_yes (Lv I xs ys b _ _ _ _ (i+1) h a2 b2 g2 k2 (by omega) (λz=>by omega) (by rw [hf];simp) q)
     | false =>
      rw [e,if_neg AG] at h
      refine PySem.W.kat_no ?_
      by_cases hi:i=0
      ·subst hi
       obtain ⟨x',_,y',_,e1,e2⟩:=h0 rfl
       cases e1
       cases e2
       obtain ⟨rfl,_⟩:=(show _∧_ from a1)
       obtain ⟨rfl,_⟩:=(show _∧_ from b1)
       obtain ⟨t1,rfl⟩:=g1
       obtain ⟨t2,rfl⟩:=k1
       unfold ltB at h
       cases h
       exact oneLt_str q
      ·rw [show (true&&i==0)=false by simp [hi]]
       exact PySem.W.kat_one _ _ (NN I x y b _ _ _ _ A h a1 b1 g1 k1 (by omega) _ _ _ _ q)
    ·rw [if_neg c] at h;cases h
noncomputable def Qj (ds:List D)(i j:Nat):Option Bool:=match ds[i]?,ds[j]? with
 | some d,some e=>ltB d e
 | _,_=>none
theorem Kj {pins:List (Addr×Obj)}{st:L2.St}{s:Shared}(I:L2.Inv X pins st H s):∀ {ds:List D} {vs:List V} {us:List Value},ds.all tupS=true->RepL X.z th H ds vs->Vals vs us->∃ fs,PySem.W.KatTups s.heap us fs∧fs.length=ds.length∧∀ v∈fs,∃ x t,v=.str x t
 | [],_,_,_,r,q=>by cases r.inv0;cases q;exact ⟨[],.nil,rfl,λ_ h=>nomatch h⟩
 | d::ds,_,_,h,r,q=>by
  obtain ⟨v,r',rfl,a1,a2⟩:=r.inv
  rw [List.all_cons,Ab] at h
  cases q with
  | cons q1 q2 =>
   obtain ⟨x,es,rfl,_,_⟩:=Kg h.1
   obtain ⟨fs,f1,f2,f3⟩:=Kj I h.2 a2 q2
   unfold Rep at a1
   obtain ⟨a,ws,rfl,h1,l1,_⟩:=a1
   obtain ⟨w0,wr,rfl,l2,_⟩:=RepL.inv l1
   obtain ⟨rfl,_⟩:=(show _∧_ from l2)
   cases q1
   obtain ⟨its,rv,⟨o,g1,g2,n,g3⟩,_⟩:=I.tuple h1
   cases rv with
   | cons k1 k2 =>
    obtain ⟨t,rfl⟩:=k1
    exact ⟨_::fs,.cons g1 g2 g3 rfl f1,by simp [f2],λz hz=>(Am.mp hz).elim (λe=>⟨x,t,e⟩) (f3 z)⟩
theorem Wb {pins:List (Addr×Obj)}{st:L2.St}{s:Shared}(I:L2.Inv X pins st H s){ds:List D}{vs:List V}{us:List Value}(hd:ds.all tupS=true)(r:RepL X.z th H ds vs)(q:Vals vs us){A:Around}(hu:A.units+60<cLine) :
  ∀ i j b C,Qj ds i j=some b->C b s->PySem.W.kas_ask X.prog X.w A (tuples' true) us i j C s:=λi j b C e hC=>by
 unfold Qj at e
 cases e1:ds[i]? with
 | none=>rw [e1] at e;cases e
 | some d =>
  cases e2:ds[j]? with
  | none=>rw [e1,e2] at e;cases e
  | some d' =>
   rw [e1,e2] at e
   have m1:=Au.mp hd d (Ak e1)
   have m2:=Au.mp hd d' (Ak e2)
   obtain ⟨x,xs,rfl,_,dx⟩:=Kg m1
   obtain ⟨y,ys,rfl,_,dy⟩:=Kg m2
   obtain ⟨v,ev,rv⟩:=r.get e1
   obtain ⟨v',ev',rv'⟩:=r.get e2
   obtain ⟨u,eu,ru⟩:=q.get ev
   obtain ⟨u',eu',ru'⟩:=q.get ev'
   unfold PySem.W.kas_ask
   rw [show us.getD i Value.none=u by rw [AN,eu];rfl,show us.getD j Value.none=u' by rw [AN,eu'];rfl]
   unfold Rep at rv rv'
   obtain ⟨a,ws,rfl,h1,l1,_⟩:=rv
   obtain ⟨a',ws',rfl,h1',l1',_⟩:=rv'
   cases ru
   cases ru'
   obtain ⟨its,rw1,⟨o,g1,g2,n,g3⟩,_⟩:=I.tuple h1
   obtain ⟨its',rw2,⟨o',g1',g2',n',g3'⟩,_⟩:=I.tuple h1'
   unfold ltB at e
   refine PySem.W.kat_lt g1 g3 g1' g3' ?_
   have hx:PyData.depthAll (CJ (.str x::xs))≤50:=by
    rw [CJ,PyData.depthAll]
    show max 0 _≤50
    omega
   have:=Lv I (A:=A) (fin:=decide (its.toArray.size<its'.toArray.size)) (Q:=C) (.str x::xs) (.str y::ys) b ws ws' its its' 0 e l1 l1' rw1 rw2 (by omega) (λ_=>⟨x,xs,y,ys,rfl,rfl⟩) (by rw [An,An,← rw1.length,← rw2.length,l1.len,l1'.len]) hC
   simpa using this
end
section
variable {prog:Program} {w:World} {A:Around} {E:Value->Shared->Prop} {s:Shared}
theorem NV {T:String}(hT:T="list"∨T="tuple"){l:Addr}{ob:Obj}{zs:List Value}{n:Nat}{Q:List Value->Shared->Prop}(ho:s.heap.get? l=some ob)(hc:ob.cls=.type T)(hd:ob.data=.seq zs.toArray n)
  (h:Q zs { s with heap:=(s.heap.push (seqObj "list" #[] 0)).update s.heap.objs.size (Obj.mapSeq (·++zs.toArray)) }) (hz:zs.length≤sizeLine):wpAny (model prog w) A (collect (.ref l)) Q E s:=by
 unfold collect
 refine Aa (wpAny_runValue (Bg entry_proto_collect' ?_))
 show wpAny _ _ (do again (.builtin "list.__iadd__" ⟨[← newList [],.ref l],[]⟩)) _ _ s
 refine Aa (wpAny_newList (Ac (And.intro (Code.quiet_builtin _ (by decide +kernel)) (Bg entry_list_iadd' ?_))))
 show wpAny _ _ (Builtin.List.listExtendWith (.ref s.heap.objs.size) (.ref l) (.ref s.heap.objs.size)) _ _ { s with heap:=s.heap.push (seqObj "list" #[] 0) }
 have g:(s.heap.push (seqObj "list" #[] 0)).get? l=some ob:=Ad _ ho
 (unfold Builtin.List.listExtendWith)
 refine Aa (BY (T:=T) ⟨ob,g,hc⟩ ?_)
 rw [if_pos (by rcases hT with rfl|rfl<;>simp)]
 refine Aa (listItems_at g hd (Aa (listItems_at (xs:=#[]) (n:=0) (Aj _ rfl) rfl ?_)))
 rw [if_neg (by simp)]
 refine Aa (listUpdate_at (xs:=#[]) (n:=0) (Aj _ rfl) rfl (Ac ?_) (AZ _) (by
  show ((#[]:Array Value)++zs.toArray).size≤sizeLine+1
  simp only [Array.size_append,An,List.length_nil]
  omega))
 show wpAny (model prog w) A (load s.heap.objs.size >>= λo=>match o.data with
   | .seq xs _=>pure xs.toList
   | _=>unsupported "internal:collect") Q E { s with heap:=(s.heap.push (seqObj "list" #[] 0)).update s.heap.objs.size (Obj.mapSeq (·++zs.toArray)) }
 refine Aa (wpAny_load (get?_update_seq (Aj _ rfl) _) ?_)
 show wpAny _ _ (pure ((#[]:Array Value)++zs.toArray).toList) Q E _
 have e0:((#[]:Array Value)++zs.toArray).toList=zs:=by simp
 rw [e0]
 exact Ac h
theorem Pg {a:Addr}{zs:List Value}{n:Nat}{P:PySem.Fin->Shared->Prop}{kd:SortKind}(p:Array Nat)(hp:p.size=zs.length)(ho:s.heap.get? a=some (seqObj "list" zs.toArray n))(h2:2≤zs.length)(h64:zs.length<64)
  (hk:∀ (Q:SortKind->Shared->Prop) (E':Value->Shared->Prop),Q kd { s with heap:=((s.heap.update a (Obj.mapSeq λ_=>#[])).push (seqObj "tuple" zs.toArray 0)).push (seqObj "list" #[] 0) }->wpAny (model prog w) A (keyKind' zs.toArray) Q E' { s with heap:=((s.heap.update a (Obj.mapSeq λ_=>#[])).push (seqObj "tuple" zs.toArray 0)).push (seqObj "list" #[] 0) })
  (hr:∀ G:Array Nat->Shared->Prop,G p { s with heap:=((s.heap.update a (Obj.mapSeq λ_=>#[])).push (seqObj "tuple" zs.toArray 0)).push (seqObj "list" #[] 0) }->(PySem.W.kas_sort zs.length).kasWp (PySem.W.kas_ask prog w A kd zs) G { s with heap:=((s.heap.update a (Obj.mapSeq λ_=>#[])).push (seqObj "tuple" zs.toArray 0)).push (seqObj "list" #[] 0) })
  (h:P (.done (.ret .none)) { s with heap:=sortedHeap s.heap a zs (p.toList.map λi=>zs.getD i Value.none).toArray }):wpAny (model prog w) A (Builtin.«list.sort» ⟨[.ref a],[]⟩) P E s:=by
 have la:a<s.heap.objs.size:=Ao ho
 rw [list_sort_plain]
 refine Aa (listItems_at ho rfl (Aa (listUpdate_at ho rfl ?_ (by rw [An,AH];omega) (AZ _))))
 obtain ⟨n1,ho1⟩:∃ n1,(s.heap.update a (Obj.mapSeq λ_=>#[])).get? a=some (seqObj "list" #[] n1):=⟨_,get?_update_seq ho λ_=>#[]⟩
 refine Aa (seqEpoch_at ho1 rfl (Aa (wpAny_newTuple (Aa (wpAny_newList (AI ?_) (AZ _))) (by show zs.length≤_;rw [AH];omega))))
 have ho2:(((s.heap.update a (Obj.mapSeq λ_=>#[])).push (seqObj "tuple" zs.toArray 0)).push (seqObj "list" #[] 0)).get? a=some (seqObj "list" #[] n1):=Ad _ (Ad _ ho1)
 show wpAny (model prog w) A _ P E { s with heap:=((s.heap.update a (Obj.mapSeq λ_=>#[])).push (seqObj "tuple" zs.toArray 0)).push (seqObj "list" #[] 0) }
 dsimp only
 have n2:¬ zs.toArray.size<2:=by rw [An];omega
 rw [if_neg n2,if_neg n2]
 refine Aa (hk _ _ ?_)
 refine Aa (wpAny_mono (PySem.W.kat_run (E:=E) (Q:=λst' s'=>arrOf st'=p.map (PySem.W.kas_item (zs.toArray.zip zs.toArray))∧failedOf st'=none∧s'={ s with heap:=((s.heap.update a (Obj.mapSeq λ_=>#[])).push (seqObj "tuple" zs.toArray 0)).push (seqObj "list" #[] 0) }) rfl h2 h64
  (G:=λp' s'=>p'=p∧s'={ s with heap:=((s.heap.update a (Obj.mapSeq λ_=>#[])).push (seqObj "tuple" zs.toArray 0)).push (seqObj "list" #[] 0) }) (λp' st' s' _ a2 a3 a4=>⟨by rw [← a4.1];exact a2,a3,a4.2⟩) (hr _ ⟨rfl,rfl⟩)) ?_ λ_ _ e=>e)
 rintro ⟨⟨⟩,st'⟩ s' ⟨ha,hf,rfl⟩
 dsimp only
 rw [PySem.W.kat_snds rfl ha]
 refine Aa (seqEpoch_at ho2 rfl (Aa (listUpdate_at ho2 rfl ?_ (AZ _) (by
  show (List.toArray (p.toList.map λi=>zs.getD i Value.none)).size≤sizeLine+1
  rw [An,Ag,Array.length_toList,hp,AH]
  omega))))
 rw [hf]
 simp only [bne_self_eq_false,Av,A0]
 exact Ac h
theorem Tw {a:Addr}{zs:List Value}{n:Nat}{P:PySem.Fin->Shared->Prop}(ho:s.heap.get? a=some (seqObj "list" zs.toArray n))(h2:zs.length<2)
  (h:P (.done (.ret .none)) { s with heap:=sortedHeap s.heap a zs zs.toArray }):wpAny (model prog w) A (Builtin.«list.sort» ⟨[.ref a],[]⟩) P E s:=by
 rw [list_sort_plain]
 refine Aa (listItems_at ho rfl (Aa (listUpdate_at ho rfl ?_ (by rw [An,AH];omega) (AZ _))))
 obtain ⟨n1,ho1⟩:∃ n1,(s.heap.update a (Obj.mapSeq λ_=>#[])).get? a=some (seqObj "list" #[] n1):=⟨_,get?_update_seq ho λ_=>#[]⟩
 refine Aa (seqEpoch_at ho1 rfl (Aa (wpAny_newTuple (Aa (wpAny_newList (AI ?_) (AZ _))) (by show zs.length≤_;rw [AH];omega))))
 have ho2:(((s.heap.update a (Obj.mapSeq λ_=>#[])).push (seqObj "tuple" zs.toArray 0)).push (seqObj "list" #[] 0)).get? a=some (seqObj "list" #[] n1):=Ad _ (Ad _ ho1)
 show wpAny (model prog w) A _ P E { s with heap:=((s.heap.update a (Obj.mapSeq λ_=>#[])).push (seqObj "tuple" zs.toArray 0)).push (seqObj "list" #[] 0) }
 dsimp only
 have n2:zs.toArray.size<2:=by rw [An];exact h2
 rw [if_pos n2,if_pos n2]
 refine Aa (Ac ?_)
 rw [StateT.run_pure]
 refine Aa (Ac ?_)
 dsimp only
 have e0:(arrOf (SortSt.mk' general' (zs.toArray.zip zs.toArray) #[] 7 none)).map (·.2)=zs.toArray:=by
  show (zs.toArray.zip zs.toArray).map (·.2)=zs.toArray
  rw [show zs.toArray.zip zs.toArray=(zs.zip zs).toArray by simp,List.map_toArray,List.map_snd_zip (Ai _)]
 rw [e0]
 refine Aa (seqEpoch_at ho2 rfl (Aa (listUpdate_at ho2 rfl ?_ (AZ _) (by
  show zs.toArray.size≤sizeLine+1
  rw [An,AH]
  omega))))
 simp only [bne_self_eq_false,Av,A0]
 exact Ac h
end
end PV
namespace PV
open PySem PyProof.Rows
theorem EL {α β:Type}(ask:Nat->Nat->Option Bool):∀ (t:PySem.W.KasT α) (f:α->PySem.W.KasT β),DE ask (t.bind f)=(DE ask t).bind λa=>DE ask (f a)
 | .ret a,f=>rfl
 | .ask i j k,f=>by
  have ih:=λb=>EL ask (k b) f
  simp only [PySem.W.KasT.bind,DE]
  cases ask i j with
  | none=>rfl
  | some b=>exact ih b
structure Pre (n:Nat) (ask:Nat->Nat->Option Bool) (lt:Nat->Nat->Bool):Prop where
 tot:∀ i j,i<n->j<n->ask i j=some (lt i j)
 asym:∀ i j,i<n->j<n->lt i j=true->lt j i=false
 trans:∀ i j k,i<n->j<n->k<n->lt j i=false->lt k j=false->lt k i=false
noncomputable def gi (p:Array Nat)(k:Nat):Nat:=p.getD k 0
structure Ix' (n:Nat) (p:Array Nat):Prop where
 pm:p.toList.Perm (List.range n)
theorem Ix'.size {n:Nat}{p:Array Nat}(h:Ix' n p):p.size=n:=by rw [← Array.length_toList,h.pm.length_eq,Bx]
theorem Sl {p:Array Nat}{k:Nat}(h:k<p.size):gi p k=p[k]:=by unfold gi;simp [Array.getD,h]
theorem Ix'.lt {n:Nat}{p:Array Nat}(h:Ix' n p){k:Nat}(hk:k<n):gi p k<n:=by
 have hs:k<p.size:=by rw [h.size];exact hk
 rw [Sl hs]
 exact AX.mp (h.pm.mem_iff.mp (by simpa using Array.getElem_mem hs))
theorem Li {p q:Array Nat}{k j:Nat}(h:p[k]? = q[j]?):gi p k=gi q j:=by
 unfold gi
 rw [Bb,Bb,h]
theorem Ix'.rev {n:Nat}{p:Array Nat}(h:Ix' n p)(i j:Nat):Ix' n (PySem.W.kas_rev p i j):=⟨(Array.perm_iff_toList_perm.mp (mirror_perm p i j _)).trans h.pm⟩
theorem Ix'.bub {n:Nat}{p:Array Nat}(h:Ix' n p)(i j:Nat):Ix' n (bubble p i j):=⟨(Array.perm_iff_toList_perm.mp (bubble_perm p i j)).trans h.pm⟩
theorem HU {p:Array Nat}{i j:Nat}(hj:j≤p.size)(k:Nat):gi (PySem.W.kas_rev p i j) k=if i≤k∧k<j then gi p (i+j-1-k) else gi p k:=by
 unfold PySem.W.kas_rev
 have e:=getElem?_mirror (xs:=p) (i:=i) hj ((j-i) / 2) (by omega) k
 by_cases c:(i≤k∧k<i+(j-i) / 2)∨(j-(j-i) / 2≤k∧k<j)
 ·rw [if_pos c] at e
  rw [if_pos (by omega)]
  exact Li e
 ·rw [if_neg c] at e
  by_cases c2:i≤k∧k<j
  ·rw [if_pos c2,show i+j-1-k=k by omega]
   exact Li e
  ·rw [if_neg c2]
   exact Li e
theorem XQ {p:Array Nat}{src d:Nat}(hs:src<p.size)(hd:d≤src)(k:Nat):gi (bubble p src d) k=if k=src-d then gi p src else if src-d<k∧k≤src then gi p (k-1) else gi p k:=by
 have e:=getElem?_bubble hs d hd k
 by_cases c:k=src-d
 ·rw [if_pos c] at e ⊢;exact Li e
 ·rw [if_neg c] at e ⊢
  by_cases c2:src-d<k∧k≤src
  ·rw [if_pos c2] at e ⊢;exact Li e
  ·rw [if_neg c2] at e ⊢;exact Li e
section
variable {n:Nat} {ask:Nat->Nat->Option Bool} {lt:Nat->Nat->Bool}
noncomputable def Up' (lt:Nat->Nat->Bool)(p:Array Nat)(m:Nat):Prop:=∀ a b,a≤b->b<m->lt (gi p b) (gi p a)=false
noncomputable def Dn' (lt:Nat->Nat->Bool)(p:Array Nat)(m:Nat):Prop:=∀ a b,a≤b->b<m->lt (gi p a) (gi p b)=false
theorem Pre.irr (O:Pre n ask lt){i:Nat}(h:i<n):lt i i=false:=by
 cases e:lt i i with
 | false=>rfl
 | true=>rw [← e];exact O.asym i i h h e
theorem Up'.more (O:Pre n ask lt){p:Array Nat}{m:Nat}(I:Ix' n p)(h:Up' lt p m)(hm:m<n)(h1:m=0∨lt (gi p m) (gi p (m-1))=false):Up' lt p (m+1):=λa b hab hb=>by
 by_cases e:b<m
 ·exact h a b hab e
 ·have:b=m:=by omega
  subst this
  by_cases ea:a=b
  ·subst ea;exact O.irr (I.lt hm)
  ·rcases h1 with h1|h1
   ·omega
   ·exact O.trans (gi p a) (gi p (b-1)) (gi p b) (I.lt (by omega)) (I.lt (by omega)) (I.lt hm) (h a (b-1) (by omega) (by omega)) h1
theorem Om (O:Pre n ask lt){p:Array Nat}(I:Ix' n p):∀ (f m:Nat),1≤m->m+f≤n->Up' lt p m->∃ k,DE ask (PySem.W.kas_asc p f m)=some k∧m≤k∧k≤m+f∧Up' lt p k∧(k<m+f->lt (gi p k) (gi p (k-1))=true)
 | 0,m,_,_,h=>⟨m,rfl,Ai _,Ai _,h,λz=>by omega⟩
 | f+1,m,h1,hm,h=>by
  have e:ask (p.getD m 0) (p.getD (m-1) 0)=some (lt (gi p m) (gi p (m-1))):=O.tot _ _ (I.lt (by omega)) (I.lt (by omega))
  unfold PySem.W.kas_asc DE
  rw [e]
  dsimp only
  cases c:lt (gi p m) (gi p (m-1)) with
  | true =>
   rw [if_pos rfl]
   exact ⟨m,rfl,Ai _,by omega,h,λ_=>c⟩
  | false =>
   rw [if_neg AG]
   obtain ⟨k,a1,a2,a3,a4,a5⟩:=Om O I f (m+1) (by omega) (by omega) (h.more O I (by omega) (.inr c))
   exact ⟨k,a1,by omega,by omega,a4,λz=>a5 (by omega)⟩
noncomputable def Yk (lt:Nat->Nat->Bool)(n:Nat)(p q:Array Nat):Prop:=∀ k,k<n->lt (gi p k) (gi q k)=false∧lt (gi q k) (gi p k)=false
theorem Dn'.more (O:Pre n ask lt){p:Array Nat}{m:Nat}(I:Ix' n p)(h:Dn' lt p m)(hm:m<n)(h0:0<m)(h1:lt (gi p (m-1)) (gi p m)=false):Dn' lt p (m+1):=λa b hab hb=>by
 by_cases e:b<m
 ·exact h a b hab e
 ·have:b=m:=by omega
  subst this
  by_cases ea:a=b
  ·subst ea;exact O.irr (I.lt hm)
  ·exact O.trans (gi p b) (gi p (b-1)) (gi p a) (I.lt hm) (I.lt (by omega)) (I.lt (by omega)) h1 (h a (b-1) (by omega) (by omega))
theorem Dn'.like (O:Pre n ask lt){p q:Array Nat}{m:Nat}(I:Ix' n p)(J:Ix' n q)(hm:m≤n)(h:Dn' lt p m)(l:Yk lt n p q):Dn' lt q m:=λa b hab hb =>
 O.trans (gi q b) (gi p a) (gi q a) (J.lt (by omega)) (I.lt (by omega)) (J.lt (by omega)) (O.trans (gi q b) (gi p b) (gi p a) (J.lt (by omega)) (I.lt (by omega)) (I.lt (by omega)) (l b (by omega)).1 (h a b hab hb)) (l a (by omega)).2
theorem Nv (O:Pre n ask lt){p:Array Nat}(I:Ix' n p){i j:Nat}(hj:j≤n)(eq:∀ a b,i≤a->a<j->i≤b->b<j->lt (gi p a) (gi p b)=false):Yk lt n p (PySem.W.kas_rev p i j):=λk hk=>by
 rw [HU (by rw [I.size];exact hj)]
 by_cases c:i≤k∧k<j
 ·rw [if_pos c]
  exact ⟨eq _ _ (by omega) (by omega) (by omega) (by omega),eq _ _ (by omega) (by omega) (by omega) (by omega)⟩
 ·rw [if_neg c]
  exact ⟨O.irr (I.lt hk),O.irr (I.lt hk)⟩
theorem JN (O:Pre n ask lt):∀ (f:Nat) (p:Array Nat) (m q:Nat),Ix' n p->1≤m->m+f≤n->q+1≤m->Dn' lt p m->(∀ a b,m-(q+1)≤a->a<m->m-(q+1)≤b->b<m->lt (gi p a) (gi p b)=false) ->
  ∃ r,DE ask (PySem.W.kas_desc f p m q)=some r∧Ix' n r.1∧m≤r.2.1∧r.2.1≤m+f∧r.2.2+1≤r.2.1∧Dn' lt r.1 r.2.1∧∀ a b,r.2.1-(r.2.2+1)≤a->a<r.2.1->r.2.1-(r.2.2+1)≤b->b<r.2.1->lt (gi r.1 a) (gi r.1 b)=false
 | 0,p,m,q,I,h1,hm,hq,hd,he=>⟨(p,m,q),rfl,I,Ai _,Ai _,hq,hd,he⟩
 | f+1,p,m,q,I,h1,hm,hq,hd,he=>by
  have e:ask (p.getD m 0) (p.getD (m-1) 0)=some (lt (gi p m) (gi p (m-1))):=O.tot _ _ (I.lt (by omega)) (I.lt (by omega))
  have e':ask (p.getD (m-1) 0) (p.getD m 0)=some (lt (gi p (m-1)) (gi p m)):=O.tot _ _ (I.lt (by omega)) (I.lt (by omega))
  unfold PySem.W.kas_desc DE
  rw [e]
  dsimp only
  have one:∀ p':Array Nat,Ix' n p'->∀ a b,m+1-(0+1)≤a->a<m+1->m+1-(0+1)≤b->b<m+1->lt (gi p' a) (gi p' b)=false:=λp' J a b a1 a2 b1 b2=>by
   have:a=b:=by omega
   subst this
   exact O.irr (J.lt (by omega))
  cases c:lt (gi p m) (gi p (m-1)) with
  | true =>
   rw [if_pos rfl]
   have hd1:=hd.more O I (by omega) (by omega) (O.asym _ _ (I.lt (by omega)) (I.lt (by omega)) c)
   by_cases hq0:q > 0
   ·rw [if_pos hq0]
    have J:=I.rev (m-(q+1)) m
    have lk:=Nv O I (i:=m-(q+1)) (j:=m) (by omega) he
    obtain ⟨r,a1,a2,a3,a4,a5⟩:=JN O f (PySem.W.kas_rev p (m-(q+1)) m) (m+1) 0 J (by omega) (by omega) (by omega) (hd1.like O I J (by omega) lk) (one _ J)
    exact ⟨r,a1,a2,by omega,by omega,a5⟩
   ·rw [if_neg hq0]
    obtain ⟨r,a1,a2,a3,a4,a5⟩:=JN O f p (m+1) 0 I (by omega) (by omega) (by omega) hd1 (one _ I)
    exact ⟨r,a1,a2,by omega,by omega,a5⟩
  | false =>
   rw [if_neg AG]
   unfold DE
   rw [e']
   dsimp only
   cases c2:lt (gi p (m-1)) (gi p m) with
   | true =>
    rw [if_pos rfl]
    exact ⟨(p,m,q),rfl,I,Ai _,by show m≤_;omega,hq,hd,he⟩
   | false =>
    rw [if_neg AG]
    have hd1:=hd.more O I (by omega) (by omega) c2
    obtain ⟨r,a1,a2,a3,a4,a5⟩:=JN O f p (m+1) (q+1) I (by omega) (by omega) (by omega) hd1 λa b z1 z2 z3 z4=>by
     have key:∀ x,m+1-(q+1+1)≤x->x<m+1->lt (gi p x) (gi p (m-1))=false∧lt (gi p (m-1)) (gi p x)=false:=λx x1 x2=>by
      by_cases hx:x=m
      ·subst hx;exact ⟨c,c2⟩
      ·exact ⟨he _ _ (by omega) (by omega) (by omega) (by omega),he _ _ (by omega) (by omega) (by omega) (by omega)⟩
     exact O.trans (gi p b) (gi p (m-1)) (gi p a) (I.lt (by omega)) (I.lt (by omega)) (I.lt (by omega)) (key b z3 z4).2 (key a z1 z2).1
    exact ⟨r,a1,a2,by omega,by omega,a5⟩
theorem Pw (O:Pre n ask lt){p:Array Nat}(I:Ix' n p){m:Nat}(h1:1≤m)(hm:m≤n)(hd:Dn' lt p m):∃ r,DE ask (PySem.W.kas_tail3 m n p)=some r∧Ix' n r.2∧1≤r.1∧r.1≤n∧Up' lt r.2 r.1:=by
 have J:=I.rev 0 m
 have up:Up' lt (PySem.W.kas_rev p 0 m) m:=λa b hab hb=>by
  rw [HU (by rw [I.size];exact hm),HU (by rw [I.size];exact hm),if_pos (by omega),if_pos (by omega)]
  exact hd _ _ (by omega) (by omega)
 obtain ⟨k,a1,a2,a3,a4,_⟩:=Om O J (n-m) m h1 (by omega) up
 refine ⟨(k,PySem.W.kas_rev p 0 m),?_,J,by show 1≤k;omega,by show k≤n;omega,a4⟩
 unfold PySem.W.kas_tail3
 rw [EL,a1]
 rfl
theorem Jx (O:Pre n ask lt){p:Array Nat}(I:Ix' n p){m:Nat}(h1:1≤m)(hm:m<n)(eq:∀ a b,a<m->b<m->lt (gi p a) (gi p b)=false)(hl:lt (gi p m) (gi p (m-1))=true) :
  ∃ r,DE ask (PySem.W.kas_descPart m n p)=some r∧Ix' n r.2∧1≤r.1∧r.1≤n∧Up' lt r.2 r.1:=by
 have hd:Dn' lt p m:=λa b _ hb=>eq a b (by omega) hb
 have hd1:=hd.more O I hm (by omega) (O.asym _ _ (I.lt hm) (I.lt (by omega)) hl)
 obtain ⟨r,a1,a2,a3,a4,a5,a6,a7⟩:=JN O (n-(m+1)) p (m+1) 0 I (by omega) (by omega) (by omega) hd1 λa b z1 z2 z3 z4=>by
  have:a=b:=by omega
  subst this
  exact O.irr (I.lt (by omega))
 unfold PySem.W.kas_descPart
 rw [EL,a1]
 show ∃ r',DE ask (if r.2.2 > 0 then _ else _)=some r'∧_
 by_cases hq:r.2.2 > 0
 ·rw [if_pos hq]
  have J:=a2.rev (r.2.1-(r.2.2+1)) r.2.1
  exact Pw O J (by omega) (by omega) (a6.like O a2 J (by omega) (Nv O a2 (by omega) a7))
 ·rw [if_neg hq]
  exact Pw O a2 (by omega) (by omega) a6
theorem Ss (O:Pre n ask lt){p:Array Nat}(I:Ix' n p)(hn:1≤n):∃ r,DE ask (PySem.W.kas_count n p)=some r∧Ix' n r.2∧1≤r.1∧r.1≤n∧Up' lt r.2 r.1:=by
 obtain ⟨k,a1,a2,a3,a4,a5⟩:=Om O I (n-1) 1 (Ai _) (by omega) (λa b _ hb=>by
  have:a=0:=by omega
  have:b=0:=by omega
  subst a b
  exact O.irr (I.lt (by omega)))
 unfold PySem.W.kas_count
 rw [EL,a1]
 show ∃ r',DE ask (if (k==n)=true then _ else _)=some r'∧_
 by_cases hk:k=n
 ·rw [if_pos (by simpa using hk)]
  exact ⟨(k,p),rfl,I,a2,by show k≤n;omega,a4⟩
 ·rw [if_neg (by simpa using hk)]
  have lk:=a5 (by omega)
  by_cases h1:k > 1
  ·rw [if_pos h1]
   have e:ask (p.getD 0 0) (p.getD (k-1) 0)=some (lt (gi p 0) (gi p (k-1))):=O.tot _ _ (I.lt (by omega)) (I.lt (by omega))
   unfold DE
   rw [e]
   dsimp only
   cases c:lt (gi p 0) (gi p (k-1)) with
   | true =>
    rw [if_pos rfl]
    exact ⟨(k,p),rfl,I,a2,by show k≤n;omega,a4⟩
   | false =>
    rw [if_neg AG]
    have J:=I.rev 0 k
    have eqp:∀ a b,a<k->b<k->lt (gi p a) (gi p b)=false:=λa b ha hb=>by
     exact O.trans (gi p b) (gi p 0) (gi p a) (I.lt (by omega)) (I.lt (by omega)) (I.lt (by omega)) (O.trans (gi p b) (gi p (k-1)) (gi p 0) (I.lt (by omega)) (I.lt (by omega)) (I.lt (by omega)) (a4 b (k-1) (by omega) (by omega)) c) (a4 0 a (by omega) ha)
    refine Jx O J (by omega) (by omega) (λa b ha hb=>?_) ?_
    ·rw [HU (by rw [I.size];omega),HU (by rw [I.size];omega),if_pos (by omega),if_pos (by omega)]
     exact eqp _ _ (by omega) (by omega)
    ·rw [HU (by rw [I.size];omega),HU (by rw [I.size];omega),if_neg (by omega),if_pos (by omega)]
     cases z:lt (gi p k) (gi p (0+k-1-(k-1))) with
     | true=>rfl
     | false =>
      have:=O.trans (gi p (k-1)) (gi p (0+k-1-(k-1))) (gi p k) (I.lt (by omega)) (I.lt (by omega)) (I.lt (by omega)) (eqp _ _ (by omega) (by omega)) z
      rw [lk] at this
      cases this
  ·rw [if_neg h1]
   exact Jx O I a2 (by omega) (λa b ha hb=>by
    have:a=0:=by omega
    have:b=0:=by omega
    subst a b
    exact O.irr (I.lt (by omega))) lk
theorem Kk (O:Pre n ask lt){p:Array Nat}(I:Ix' n p){k:Nat}(hk:k<n)(up:Up' lt p k):∀ (f l r:Nat),l≤r->r≤k->r-l≤f->(∀ j,j<l->lt (gi p k) (gi p j)=false)->(∀ j,r≤j->j<k->lt (gi p k) (gi p j)=true) ->
  ∃ m,DE ask (PySem.W.kas_place p k f l r)=some m∧m≤k∧(∀ j,j<m->lt (gi p k) (gi p j)=false)∧∀ j,m≤j->j<k->lt (gi p k) (gi p j)=true
 | 0,l,r,h1,h2,h3,hl,hr=>⟨l,rfl,by omega,hl,λj a b=>hr j (by omega) b⟩
 | f+1,l,r,h1,h2,h3,hl,hr=>by
  unfold PySem.W.kas_place
  by_cases c:l ≥ r
  ·rw [if_pos c]
   exact ⟨l,rfl,by omega,hl,λj a b=>hr j (by omega) b⟩
  ·rw [if_neg c]
   have e:ask (p.getD k 0) (p.getD ((l+r) / 2) 0)=some (lt (gi p k) (gi p ((l+r) / 2))):=O.tot _ _ (I.lt hk) (I.lt (by omega))
   unfold DE
   rw [e]
   dsimp only
   cases c2:lt (gi p k) (gi p ((l+r) / 2)) with
   | true =>
    rw [if_pos rfl]
    refine Kk O I hk up f l ((l+r) / 2) (by omega) (by omega) (by omega) hl λj a b=>?_
    cases z:lt (gi p k) (gi p j) with
    | true=>rfl
    | false =>
     have:=O.trans (gi p ((l+r) / 2)) (gi p j) (gi p k) (I.lt (by omega)) (I.lt (by omega)) (I.lt hk) (up _ _ a b) z
     rw [c2] at this
     cases this
   | false =>
    rw [if_neg AG]
    refine Kk O I hk up f ((l+r) / 2+1) r (by omega) (by omega) (by omega) (λj a=>?_) hr
    exact O.trans (gi p j) (gi p ((l+r) / 2)) (gi p k) (I.lt (by omega)) (I.lt (by omega)) (I.lt hk) (up _ _ (by omega) (by omega)) c2
theorem S8 (O:Pre n ask lt):∀ (f:Nat) (p:Array Nat) (k:Nat),Ix' n p->1≤k->k+f=n->Up' lt p k->∃ r,DE ask (PySem.W.kas_bin f p k)=some r∧Ix' n r∧Up' lt r n
 | 0,p,k,I,_,h,up=>⟨p,rfl,I,by have:k=n:=(by omega);subst this;exact up⟩
 | f+1,p,k,I,h1,h,up=>by
  obtain ⟨m,a1,a2,a3,a4⟩:=Kk O I (k:=k) (by omega) up k 0 k (by omega) (by omega) (by omega) (λj hj=>by omega) (λj a b=>by omega)
  unfold PySem.W.kas_bin
  rw [EL,a1]
  show ∃ r,DE ask (PySem.W.kas_bin f (bubble p k (k-m)) (k+1))=some r∧_
  have hs:k<p.size:=by rw [I.size];omega
  have J:=I.bub k (k-m)
  have g:∀ j,gi (bubble p k (k-m)) j=if j=m then gi p k else if m<j∧j≤k then gi p (j-1) else gi p j:=λj=>by
   have:=XQ hs (d:=k-m) (by omega) j
   rw [show k-(k-m)=m by omega] at this
   exact this
  refine S8 O f _ (k+1) J (by omega) (by omega) λa b hab hb=>?_
  rw [g a,g b]
  by_cases ea:a=m
  ·rw [if_pos ea]
   by_cases eb:b=m
   ·rw [if_pos eb];exact O.irr (I.lt (by omega))
   ·rw [if_neg eb,if_pos (by omega)]
    exact O.asym _ _ (I.lt (by omega)) (I.lt (by omega)) (a4 (b-1) (by omega) (by omega))
  ·rw [if_neg ea]
   by_cases eb:b=m
   ·rw [if_pos eb,if_neg (by omega)]
    exact a3 a (by omega)
   ·rw [if_neg eb]
    by_cases ca:m<a∧a≤k
    ·rw [if_pos ca,if_pos (by omega)];exact up _ _ (by omega) (by omega)
    ·rw [if_neg ca]
     by_cases cb:m<b∧b≤k
     ·rw [if_pos cb];exact up _ _ (by omega) (by omega)
     ·rw [if_neg cb];exact up _ _ (by omega) (by omega)
theorem UX (O:Pre n ask lt)(hn:1≤n):∃ p,DE ask (PySem.W.kas_sort n)=some p∧p.toList.Perm (List.range n)∧Up' lt p n:=by
 have I:Ix' n (List.toArray (List.range n)):=⟨by simp⟩
 obtain ⟨r,a1,a2,a3,a4,a5⟩:=Ss O I hn
 unfold PySem.W.kas_sort
 rw [EL,a1]
 show ∃ p,DE ask (if r.1<n then _ else _)=some p∧_
 by_cases c:r.1<n
 ·rw [if_pos c]
  obtain ⟨q,b1,b2,b3⟩:=S8 O (n-max r.1 1) r.2 (max r.1 1) a2 (by omega) (by omega) (by rw [show max r.1 1=r.1 by omega];exact a5)
  exact ⟨q,b1,b2.pm,b3⟩
 ·rw [if_neg c]
  exact ⟨r.2,rfl,a2.pm,by rw [show n=r.1 by omega];exact a5⟩
end
end PV
namespace PV
open PySem L2 PySem.Spec PyProof.Rows
section
variable {X:Cx} {K:Zc} {th:List Addr} {mu:Sto} {H:Hp}
theorem Vals.pick {zs:List V}{us:List Value}(q:Vals zs us)(f:Nat->V)(g:Nat->Value):∀ (p:List Nat),(∀ i∈p,RelV (f i) (g i))->Vals (p.map f) (p.map g)
 | [],_=>.nil
 | i::p,h=>.cons (h i (.head _)) (Vals.pick q f g p λj hj=>h j (.tail _ hj))
theorem RepL.pick {ds:List D}{vs:List V}(f:Nat->D)(g:Nat->V):∀ (p:List Nat),(∀ i∈p,Rep K th H (f i) (g i))->RepL K th H (p.map f) (p.map g)
 | [],_=>.nil
 | i::p,h=>.cons (h i (.head _)) (RepL.pick (ds:=ds) (vs:=vs) f g p λj hj=>h j (.tail _ hj))
theorem CallV.or {f:Value}{g g':Fn}(h:CallV X f g)(h':CallV X f g'):CallV X f λds mu=>match g ds mu with|some r=>some r|none=>g' ds mu:=by
 intro pins s st H xs us Q I r q
 obtain ⟨th,mu,ds,so,rd,t⟩:=q
 cases e:g ds mu with
 | some p =>
  refine h pins s st H xs us Q I r ⟨th,mu,ds,so,rd,?_⟩
  rw [e];simpa only [e] using t
 | none =>
  refine h' pins s st H xs us Q I r ⟨th,mu,ds,so,rd,?_⟩
  simpa only [e] using t
end
mutual
theorem Gk:∀ {d:D},hsh d=true->CS d=true
 | .non,_=>rfl
 | .int _,_=>rfl
 | .str _,_=>rfl
 | .tup ds,h=>by unfold hsh at h;unfold CS;exact Lg h
 | .bl _,h=>nomatch h
 | .lst _,h=>nomatch h
 | .dct _ _,h=>nomatch h
 | .set _,h=>nomatch h
 | .ref _,h=>nomatch h
theorem Lg:∀ {ds:List D},F1 ds=true->D6 ds=true
 | [],_=>rfl
 | d::ds,h=>by
  unfold F1 at h
  rw [Ab] at h
  unfold D6
  rw [Gk h.1,Lg h.2]
  rfl
end
mutual
theorem HM:∀ {d:D},hsh d=true->(toPy d).depth=dpt d
 | .non,_=>rfl
 | .int _,_=>rfl
 | .str _,_=>rfl
 | .tup ds,h=>by unfold hsh at h;unfold toPy PyData.depth dpt;rw [Mg h]
 | .bl _,h=>nomatch h
 | .lst _,h=>nomatch h
 | .dct _ _,h=>nomatch h
 | .set _,h=>nomatch h
 | .ref _,h=>nomatch h
theorem Mg:∀ {ds:List D},F1 ds=true->PyData.depthAll (CJ ds)=IB ds
 | [],_=>rfl
 | d::ds,h=>by
  unfold F1 at h
  rw [Ab] at h
  unfold CJ PyData.depthAll IB
  rw [HM h.1,Mg h.2]
end
mutual
theorem GX:∀ {d e:D},hsh d=true->hsh e=true->PyData.eqv (toPy d) (toPy e)=decide (d=e)
 | .tup ds,.tup es,h,g=>by
  unfold hsh at h g
  unfold toPy PyData.eqv
  rw [MM h g]
  simp
 | .non,e,_,g=>by cases e<;>first|rfl|(simp [toPy,PyData.eqv];done)|cases g
 | .int i,.int j,_,_=>by by_cases c:i=j<;>simp [toPy,PyData.eqv,c]
 | .str i,.str j,_,_=>by by_cases c:i=j<;>simp [toPy,PyData.eqv,c]
 | .int _,.non,_,g=>by simp [toPy,PyData.eqv]
 | .int _,.str _,_,g=>by simp [toPy,PyData.eqv]
 | .int _,.tup _,_,g=>by simp [toPy,PyData.eqv]
 | .str _,.non,_,g=>by simp [toPy,PyData.eqv]
 | .str _,.int _,_,g=>by simp [toPy,PyData.eqv]
 | .str _,.tup _,_,g=>by simp [toPy,PyData.eqv]
 | .int _,.bl _,_,g=>nomatch g
 | .int _,.lst _,_,g=>nomatch g
 | .int _,.dct _ _,_,g=>nomatch g
 | .int _,.set _,_,g=>nomatch g
 | .int _,.ref _,_,g=>nomatch g
 | .str _,.bl _,_,g=>nomatch g
 | .str _,.lst _,_,g=>nomatch g
 | .str _,.dct _ _,_,g=>nomatch g
 | .str _,.set _,_,g=>nomatch g
 | .str _,.ref _,_,g=>nomatch g
 | .tup _,.non,_,_=>by simp [toPy,PyData.eqv]
 | .tup _,.int _,_,_=>by simp [toPy,PyData.eqv]
 | .tup _,.str _,_,_=>by simp [toPy,PyData.eqv]
 | .tup _,.bl _,_,g=>nomatch g
 | .tup _,.lst _,_,g=>nomatch g
 | .tup _,.dct _ _,_,g=>nomatch g
 | .tup _,.set _,_,g=>nomatch g
 | .tup _,.ref _,_,g=>nomatch g
 | .bl _,_,h,_=>nomatch h
 | .lst _,_,h,_=>nomatch h
 | .dct _ _,_,h,_=>nomatch h
 | .set _,_,h,_=>nomatch h
 | .ref _,_,h,_=>nomatch h
theorem MM:∀ {ds es:List D},F1 ds=true->F1 es=true->PyData.eqvAll (CJ ds) (CJ es)=decide (ds=es)
 | [],[],_,_=>by simp [CJ,PyData.eqvAll]
 | [],_::_,_,_=>by simp [CJ,PyData.eqvAll]
 | _::_,[],_,_=>by simp [CJ,PyData.eqvAll]
 | d::ds,e::es,h,g=>by
  unfold F1 at h g
  rw [Ab] at h g
  unfold CJ PyData.eqvAll
  rw [GX h.1 g.1,MM h.2 g.2]
  by_cases c:d=e<;>by_cases c':ds=es<;>simp [c,c']
end
theorem Ec {d:D}(h:EZ d=true):hsh d=true∧dpt d≤8:=by
 unfold EZ at h
 rw [Ab,Af] at h
 exact h
structure Hd (h:Heap) (d:D) (u:Value):Prop where
 k:EZ d=true
 ok:(toPy d).canLay0=true
 rd:∃ as,Reads h u (toPy d) as
theorem Lm {X:Cx}{th:List Addr}{H:Hp}{pins:List (Addr×Obj)}{st:L2.St}{s:Shared}(I:L2.Inv X pins st H s){d:D}{v:V}{u:Value}(k:EZ d=true)(r:Rep X.z th H d v)(q:RelV v u):Hd s.heap d u:=by
 obtain ⟨as,h1,h2⟩:=EW I d v u (Gk (Ec k).1) r q
 exact ⟨k,h2,as,h1⟩
section
variable {prog:Program} {w:World} {E:Value->Shared->Prop}
mutual
theorem Sr:∀ (d:D) (u:Value) (as:List Addr) (A:Around) (s:Shared) (Q:Int->Shared->Prop),hsh d=true->Reads s.heap u (toPy d) as->A.units+dpt d<cLine->(∀ tk,Q (CH w d) { s with toks:=tk })->wpAny (model prog w) A (pyHash u) Q E s
 | .non,_,as,A,s,Q,_,x,hu,h=>by
  cases x
  exact PySem.W.pyHash_slot (T:="NoneType") rfl F.slot_NoneType_hash F.entry_NoneType_hash (F.args_NoneType_hash_1 _) (beq_builtin_none _) (.inr (by unfold dpt at hu;omega)) (Aa (Ac (Aa (wpAny_mkInt (Ac ⟨_,_,rfl,h _⟩)))))
 | .int i,_,as,A,s,Q,_,x,_,h=>by cases x;exact wpAny_pyHash_int (h _)
 | .str y,_,as,A,s,Q,_,x,_,h=>by cases x;exact wpAny_pyHash_str (h _)
 | .tup ds,_,as,A,s,Q,hk,x,hu,h=>by
  unfold toPy at x
  cases x with
  | @tuple a o vs n _ _ g1 g2 g3 hw =>
   unfold dpt at hu
   refine PySem.W.pyHash_slot (T:="tuple") ⟨_,g1,g2⟩ F.slot_tuple_hash F.entry_tuple_hash (F.args_tuple_hash_1 _) (beq_builtin_none _) (.inr (by omega)) ?_
   refine (?_:wpAny _ _ (Builtin.Tuple.tupleItemsOf (.ref a) >>= _) _ _ s)
   refine Aa (wpAny_tupleItemsOf g1 g3 (Aa ?_))
   rw [← Array.forIn_toList]
   refine Pu ds vs.toList as A.in1 s #[] _ (by unfold hsh at hk;exact hk) hw (by rw [Around.in1_units];omega) λtk b hb=>?_
   refine (?_:wpAny _ _ (retInt (Builtin.Tuple.tupleHashOf b.toList)) _ _ _)
   rw [hb]
   exact Aa (wpAny_mkInt (Ac ⟨_,_,rfl,h _⟩))
 | .bl _,_,_,_,_,_,h,_,_,_=>nomatch h
 | .lst _,_,_,_,_,_,h,_,_,_=>nomatch h
 | .dct _ _,_,_,_,_,_,h,_,_,_=>nomatch h
 | .set _,_,_,_,_,_,h,_,_,_=>nomatch h
 | .ref _,_,_,_,_,_,h,_,_,_=>nomatch h
theorem Pu:∀ (ds:List D) (vs:List Value) (as:List Addr) (A:Around) (s:Shared) (b:Array Int) (Q:Array Int->Shared->Prop),F1 ds=true->ReadsAll s.heap vs (CJ ds) as->A.units+IB ds<cLine ->
  (∀ tk b',b'.toList=b.toList++FZ w ds->Q b' { s with toks:=tk }) ->
  wpAny (model prog w) A (forIn vs b λx r=>do let h←pyHash x;pure PUnit.unit;pure (ForInStep.yield (r.push h))) Q E s
 | [],_,as,A,s,b,Q,_,x,_,h=>by unfold CJ at x;cases x;exact Ac (h s.toks b (by simp [FZ]))
 | d::ds,_,as,A,s,b,Q,hk,x,hu,h=>by
  unfold CJ at x
  cases x with
  | cons x1 x2 =>
   unfold F1 at hk
   rw [Ab] at hk
   unfold IB at hu
   rw [Cd]
   refine Aa (Aa (Sr d _ _ A s _ hk.1 x1 (by omega) λtk=>Aa (Ac (Ac ?_))))
   exact Pu ds _ _ A { s with toks:=tk } _ Q hk.2 x2 (by omega) λtk' b' hb=>h tk' b' (by simp [hb,FZ])
end
theorem Hd.hash {A:Around}{s:Shared}{d:D}{u:Value}{Q:Int->Shared->Prop}(x:Hd s.heap d u)(hu:A.units+8<cLine)(h:∀ tk,Q (CH w d) { s with toks:=tk }):wpAny (model prog w) A (pyHash u) Q E s:=by
 obtain ⟨as,r⟩:=x.rd
 have:=Ec x.k
 exact Sr d u as A s Q this.1 r (by omega) h
theorem Hd.eq {A:Around}{s:Shared}{d e:D}{u v:Value}{Q:Bool->Shared->Prop}(x:Hd s.heap d u)(y:Hd s.heap e v)(hu:A.units+8<cLine)(h:Q (decide (d=e)) s):wpAny (model prog w) A (eqBool u v) Q E s:=by
 obtain ⟨as,r⟩:=x.rd
 obtain ⟨bs,r'⟩:=y.rd
 have k1:=Ec x.k
 have k2:=Ec y.k
 refine SeqAt.eqAt_reads _ _ A s u v as bs r r' x.ok y.ok (by rw [HM k1.1,HM k2.1];omega) prog w E Q ?_
 rw [GX k1.1 k2.1]
 exact h
mutual
theorem PC:∀ (n:Nat) (d:D) (u:Value) (as:List Addr) (A:Around) (s:Shared) (Q:Bool->Shared->Prop),hsh d=true->dpt d≤n->Reads s.heap u (toPy d) as->Q true s->wpAny (model prog w) A (eqIsQuiet n u) Q E s
 | n,.non,_,as,A,s,Q,_,_,x,h=>by cases x;rw [eqIsQuiet_byValue n rfl];exact Ac h
 | n,.int _,_,as,A,s,Q,_,_,x,h=>by cases x;rw [eqIsQuiet_byValue n rfl];exact Ac h
 | n,.str _,_,as,A,s,Q,_,_,x,h=>by cases x;rw [eqIsQuiet_byValue n rfl];exact Ac h
 | n,.tup ds,_,as,A,s,Q,hk,hn,x,h=>by
  unfold toPy at x
  cases x with
  | @tuple a o vs k _ _ g1 g2 g3 hw =>
   unfold dpt at hn
   obtain ⟨m,rfl⟩:∃ m,n=m+1:=⟨n-1,by omega⟩
   have hT:s.TypeIs (.ref a) "tuple":=⟨o,g1,g2⟩
   unfold eqIsQuiet
   refine Aa (wpAny_specialOf hT F.slot_tuple_eq.lookup ?_)
   refine (?_:wpAny _ _ (isInstance (.ref a) (.type "tuple") >>= _) _ _ s)
   refine Aa (B7 hT isSubtype_tuple_tuple ?_)
   simp only [Bool.not_true,Av,A0]
   refine Aa (Bz g1 g3 (Aa ?_))
   refine (?_:wpAny _ _ (forIn vs _ _) _ _ s)
   rw [← Array.forIn_toList]
   exact MH m ds vs.toList as A s _ (by unfold hsh at hk;exact hk) (by omega) hw (Ac h)
 | _,.bl _,_,_,_,_,_,h,_,_,_=>nomatch h
 | _,.lst _,_,_,_,_,_,h,_,_,_=>nomatch h
 | _,.dct _ _,_,_,_,_,_,h,_,_,_=>nomatch h
 | _,.set _,_,_,_,_,_,h,_,_,_=>nomatch h
 | _,.ref _,_,_,_,_,_,h,_,_,_=>nomatch h
theorem MH:∀ (m:Nat) (ds:List D) (vs:List Value) (as:List Addr) (A:Around) (s:Shared) (Q:Option Bool×PUnit->Shared->Prop),F1 ds=true->IB ds≤m->ReadsAll s.heap vs (CJ ds) as->Q (none,PUnit.unit) s ->
  wpAny (model prog w) A (forIn vs ((none,PUnit.unit):Option Bool×PUnit) λy r=>do
    let q←eqIsQuiet m y
    if (!q)=true then pure (ForInStep.done (some false,PUnit.unit)) else pure (ForInStep.yield (none,PUnit.unit))) Q E s
 | m,[],_,as,A,s,Q,_,_,x,h=>by unfold CJ at x;cases x;exact Ac h
 | m,d::ds,_,as,A,s,Q,hk,hn,x,h=>by
  unfold CJ at x
  cases x with
  | cons x1 x2 =>
   unfold F1 at hk
   rw [Ab] at hk
   unfold IB at hn
   rw [Cd]
   refine Aa (Aa (PC m d _ _ A s _ hk.1 (by omega) x1 ?_))
   simp only [Bool.not_true,Av,A0]
   exact Ac (MH m ds _ _ A s Q hk.2 (by omega) x2 h)
end
theorem Hd.quiet {A:Around}{s:Shared}{d:D}{u:Value}{Q:Bool->Shared->Prop}(x:Hd s.heap d u)(h:Q true s):wpAny (model prog w) A (eqIsQuiet 8 u) Q E s:=by
 obtain ⟨as,r⟩:=x.rd
 have k:=Ec x.k
 exact PC 8 d u as A s Q k.1 k.2 r h
end
noncomputable def EnK (w:World)(h:Heap)(k:D)(e:DictEntry):Prop:=e.hash=CH w k∧Hd h k e.key
theorem DK {α β:Type}{F:α->β->Prop}:∀ {xs:List α} {ys:List β},Paired F xs ys->∀ j:Nat,(∀ x,xs[j]? = some x->∃ y,ys[j]? = some y∧F x y)∧(∀ y,ys[j]? = some y->∃ x,xs[j]? = some x∧F x y)
 | _,_,.nil,j=>⟨λx e=>by simp at e,λy e=>by simp at e⟩
 | _,_,.cons r t,0=>⟨λx e=>by simp at e;subst e;exact ⟨_,rfl,r⟩,λy e=>by simp at e;subst e;exact ⟨_,rfl,r⟩⟩
 | _,_,.cons r t,j+1=>by simpa using DK t j
theorem DP {α β:Type}{F:α->β->Prop}:∀ {xs:List α} {ys:List β},Paired F xs ys->xs.length=ys.length
 | _,_,.nil=>rfl
 | _,_,.cons _ t=>by simp [DP t]
theorem RU {h:Heap}{k:D}{y:Str}{t:Tok}(x:Hd h k (.str y t)):k=.str y:=by
 obtain ⟨as,r⟩:=x.rd
 have hk:=(Ec x.k).1
 cases k<;>first|(cases hk;done)|(unfold toPy at r;cases r;done)|(unfold toPy at r;cases r;rfl)
theorem XA {h:Heap}{k k':D}{u:Value}(x:Hd h k u)(y:Hd h k' u):k=k':=by
 obtain ⟨as,r⟩:=x.rd
 obtain ⟨bs,r'⟩:=y.rd
 have hk:=(Ec x.k).1
 have hk':=(Ec y.k).1
 have e:toPy k=toPy k':=SeqAt.Reads.unique _ _ _ _ _ x.ok r r'
 have:=GX hk hk'
 rw [← e,GX hk hk] at this
 simpa using this
theorem VQ {ks:List D}(hn:ks.Nodup){i j:Nat}{k:D}(a:ks[i]? = some k)(b:ks[j]? = some k):i=j:=by
 obtain ⟨hi,ei⟩:=Ae.mp a
 exact (List.getElem?_inj hi hn).mp (a.trans b.symm)
section
variable {prog:Program} {w:World} {A:Around} {E:Value->Shared->Prop} {s:Shared}
theorem GY {α:Type}{M:Model}{c:Prop} [Decidable c]{x y:Sem α}{Q:α->Shared->Prop}(h1:c->wpAny M A x Q E s)(h2:¬ c->wpAny M A y Q E s):wpAny M A (if c then x else y) Q E s:=by
 by_cases h:c
 ·rw [if_pos h];exact h1 h
 ·rw [if_neg h];exact h2 h
theorem UG {k:D}{u:Value}{stored:List Value}{Q:Bool->Shared->Prop}(hk:Hd s.heap k u)(hst:∀ v∈stored,∃ k',Hd s.heap k' v)(h:Q false s):wpAny (model prog w) A (tableMayTell u stored) Q E s:=by
 unfold tableMayTell
 split
 ·exact Ac h
 ·refine Aa (hk.quiet ?_)
  simp only [Bool.not_true,Av,A0]
  refine Aa (wpAny_forIn_list _ (λrest r s'=>s'=s∧r=(none,PUnit.unit)∧∀ v∈rest,∃ k',Hd s.heap k' v) _ ?_ ?_ _ _ ⟨rfl,rfl,hst⟩)
  ·rintro x rest r s' ⟨rfl,rfl,hr⟩
   obtain ⟨k',hb⟩:=hr x List.mem_cons_self
   refine Aa (hb.quiet ?_)
   simp only [Bool.not_true,Av,A0]
   exact Ac ⟨rfl,rfl,λv hv=>hr v (BZ _ hv)⟩
  ·rintro r s' ⟨rfl,rfl,_⟩;exact Ac h
theorem Uw {h:Heap}{p:PyData}{u:Value}{as:List Addr}(r:Reads h u p as):u=.none∨(∃ i t,u=.int i t)∨(∃ x t,u=.str x t)∨(∃ b,u=.ref b)∨∃ b,p=.bool b:=by
 cases r
 all_goals first|exact .inl rfl|exact .inr (.inl ⟨_,_,rfl⟩)|exact .inr (.inr (.inl ⟨_,_,rfl⟩))|exact .inr (.inr (.inr (.inl ⟨_,rfl⟩)))|exact .inr (.inr (.inr (.inr ⟨_,rfl⟩)))
theorem VA {h:Heap}{k:D}{u:Value}(hk:Hd h k u):u=.none∨(∃ i t,u=.int i t)∨(∃ x t,u=.str x t)∨∃ b,u=.ref b:=by
 obtain ⟨as,r⟩:=hk.rd
 have hh:=(Ec hk.k).1
 rcases Uw r with h|h|h|h|⟨b,h⟩
 ·exact .inl h
 ·exact .inr (.inl h)
 ·exact .inr (.inr (.inl h))
 ·exact .inr (.inr (.inr h))
 ·cases k<;>first|(cases hh;done)|(unfold toPy at h;cases h;done)
theorem NS {a:Addr}{o:Obj}{es:Array DictEntry}{ep:Nat}{ks:List D}{k:D}{u:Value}{Q:Option Nat->Shared->Prop}(hu:A.units+8<cLine)(hk:Hd s.heap k u)(ho:s.heap.get? a=some o)(hd:o.data=.dict es ep)
  (he:Paired (EnK w s.heap) ks es.toList) (hn:ks.Nodup) (h0:k∉ks->Q none s) (h1:∀ j,ks[j]? = some k->Q (some j) s):wpAny (model prog w) A (dictFind a u (CH w k)) Q E s:=by
 have hat:∀ j e,es[j]? = some e->∃ k',ks[j]? = some k'∧EnK w s.heap k' e:=λj e q=>(DK he j).2 e (by rw [Ax];exact q)
 have hto:∀ j k',ks[j]? = some k'->∃ e,es[j]? = some e∧EnK w s.heap k' e:=λj k' q=>by
  obtain ⟨e,e1,e2⟩:=(DK he j).1 k' q
  exact ⟨e,by rw [← Ax];exact e1,e2⟩
 have hsz:es.size=ks.length:=by rw [DP he,Array.length_toList]
 have hno:(∀ j,ks[j]?≠some k)->k∉ks:=λq z=>by obtain ⟨j,e⟩:=AK.mp z;exact q j e
 unfold dictFind
 try with_reducible refine AI ?_
 refine Aa (BI ho hd ?_)
 have hp:∀ j,ks[j]? = some k->(es[j]?.map (λe:DictEntry=>e.hash)==some (CH w k))=true:=λj q=>by
  obtain ⟨e,e1,e2,_⟩:=hto j k q
  rw [e1];simp [e2]
 have walk:wpAny (model prog w) A (dictWalkPlain a u (CH w k) es (placesWithHash es.size (λi=>es[i]?.map (λe:DictEntry=>e.hash)) (CH w k))) Q E s:=by
  unfold dictWalkPlain
  refine Aa (wpAny_forIn_list _ (λrest b s'=>s'=s∧b=(none,PUnit.unit)∧∃ i,rest=(List.range' i (es.size-i)).filter (λi=>es[i]?.map (λe:DictEntry=>e.hash)==some (CH w k))∧i≤es.size∧∀ j,j<i->ks[j]?≠some k) _ ?_ ?_ _ _
   ⟨rfl,rfl,0,by rw [placesWithHash,List.range_eq_range',Nat.sub_zero],AZ _,λj z=>absurd z (Nat.not_lt_zero _)⟩)
  ·rintro x rest b s' ⟨rfl,rfl,i,hr,hi,hH⟩
   obtain ⟨hix,hxn,hpx,hskip,hrest⟩:=filter_range'_cons _ _ _ _ _ hr.symm
   have hlt:x<es.size:=by omega
   have ex:es[x]? = some es[x]:=Aq hlt
   obtain ⟨k',e1,e2,e3⟩:=hat x _ ex
   rw [ex] at hpx ⊢
   have hh:es[x].hash=CH w k:=by simpa using hpx
   have hh':(es[x].hash==CH w k)=true:=by simpa using hh
   have nx:∀ j,j<x->ks[j]?≠some k:=λj hj q=>by
    rcases BH j i with z|z
    ·exact hH j z q
    ·have:=hskip j z hj;rw [hp j q] at this;cases this
   dsimp only
   rw [if_pos hh']
   refine Aa (BA ho hd (Aa (e3.eq hk hu (Aa (BA ho hd ?_)))))
   rw [if_neg (by simp)]
   by_cases c:k'=k
   ·rw [Bv c]
    subst c
    exact Aa (BS (Ac (Ac (h1 x e1))))
   ·rw [A3 c]
    refine Aa (BS (Ac ⟨rfl,rfl,x+1,by rw [hrest];congr 2;omega,hlt,λj hj q=>?_⟩))
    rcases BH j x with z|z
    ·exact nx j z q
    ·have:j=x:=by omega
     subst this
     rw [e1] at q
     exact c (AB q)
  ·rintro b s' ⟨rfl,rfl,i,hr,hi,hH⟩
   refine Ac (h0 (hno λj q=>?_))
   rcases BH j i with z|z
   ·exact hH j z q
   ·have hj:j<es.size:=by rw [hsz];exact (Ae.mp q).1
    have:=List.filter_eq_nil_iff.mp hr.symm j (List.mem_range'_1.mpr ⟨z,by omega⟩)
    exact this (hp j q)
 have hst:∀ v∈(placesWithHash es.size (λi=>es[i]?.map (λe:DictEntry=>e.hash)) (CH w k)).filterMap (λi=>es[i]?.map (λe:DictEntry=>e.key)),∃ k',Hd s.heap k' v:=λv hv=>by
  obtain ⟨i,_,hi⟩:=List.mem_filterMap.mp hv
  cases ei:es[i]? with
  | none=>rw [ei] at hi;cases hi
  | some e =>
   rw [ei] at hi
   obtain rfl:e.key=v:=by simpa using hi
   obtain ⟨k',_,_,q⟩:=hat i e ei
   exact ⟨k',q⟩
 have hany:∀ b,u=.ref b->¬ (es.any λe=>e.key==u&&e.hash != CH w k)=true:=λb hb=>by
  rw [← Array.any_toList,List.any_eq_true]
  rintro ⟨e,hin,hc⟩
  obtain ⟨j,ej⟩:=AK.mp hin
  obtain ⟨k',_,q1,q2⟩:=hat j e (by rw [← Ax];exact ej)
  rw [Ab,bne_iff_ne] at hc
  have ek:e.key=u:=eq_of_beq hc.1
  rw [ek] at q2
  exact hc.2 (by rw [q1,XA q2 hk])
 have c4:=VA hk
 have str:∀ x t,u=.str x t->(es.all λe=>isExactStrKey e.key)=true->wpAny (model prog w) A (foundByValue a u es x) Q E s:=λx t hux hall=>by
  subst hux
  have kx:=RU hk
  subst kx
  have hiff:∀ e∈es.toList,∀ k',Hd s.heap k' e.key->(e.key.isStr x=true ↔ k'=.str x):=λe hm k' q=>by
   rw [← Array.all_toList,Au] at hall
   have:=hall e hm
   cases ek:e.key<;>rw [ek] at this q<;>first|(cases this;done)|skip
   rename_i y ty
   rw [RU q]
   show (y==x)=true ↔ _
   simp
  have hidx:es.findIdx? (λe=>e.key.isStr x)=es.toList.findIdx? (λe=>e.key.isStr x):=by cases es;simp
  unfold foundByValue
  rw [hidx]
  cases hr:es.toList.findIdx? (λe=>e.key.isStr x) with
  | none =>
   refine Ac (h0 (hno λj q=>?_))
   obtain ⟨e,e1,e2,e3⟩:=hto j _ q
   have hm:e∈es.toList:=Ak (by rw [Ax];exact e1)
   have:=List.findIdx?_eq_none_iff.mp hr e hm
   rw [(hiff e hm _ e3).mpr rfl] at this
   cases this
  | some j =>
   obtain ⟨hj,hpj,_⟩:=List.findIdx?_eq_some_iff_getElem.mp hr
   have he':es[j]? = some es.toList[j]:=by rw [← Ax];exact Ah hj
   obtain ⟨k',e1,e2,e3⟩:=hat j _ he'
   have kk:=(hiff _ (BD hj) _ e3).mp hpj
   subst kk
   dsimp only
   rw [he']
   dsimp only
   refine Aa (BA ho hd (Aa (e3.eq hk hu (Aa (BA ho hd ?_)))))
   rw [if_neg (by simp),Bv rfl]
   exact Aa (BS (Ac (h1 j e1)))
 obtain ⟨u',hu'⟩:∃ u',u'=u:=⟨u,rfl⟩
 have hA:∀ v,eqBool v u=eqBool v u':=λv=>by rw [hu']
 have hB:keyPart u=keyPart u':=by rw [hu']
 have hk':Hd s.heap k u':=by rw [hu'];exact hk
 simp only [hA,hB]
 clear hA hB hu'
 refine (λtail=>?main) (?tail:wpAny (model prog w) A ?T Q E s)
 case main =>
  rcases c4 with rfl|⟨i,t,rfl⟩|⟨x,t,rfl⟩|⟨b,rfl⟩
  case' inl=>refine GY (λ_=>walk) λ_=>?_
  case' inr.inl=>refine GY (λ_=>walk) λ_=>?_
  case' inr.inr.inl=>refine GY (λhall=>str x t rfl hall) λ_=>GY (λ_=>walk) λ_=>?_
  case' inr.inr.inr=>refine GY (λ_=>walk) λ_=>?_
  case' inr.inr.inr=>refine GY (λz=>absurd z (hany b rfl)) λ_=>?_
  all_goals
   refine GY (λ_=>Aa (Ac ?_)) (λ_=>Aa (UG hk hst ?_))<;>(
    refine GY (λz=>absurd z (by simp)) λ_=>?_
    exact tail)
 case tail =>
  refine Aa (wpAny_forIn_list _ (λrest b s'=>s'=s∧∃ i hit,b=(none,hit)∧rest=(List.range' i (es.size-i)).filter (λi=>es[i]?.map (λe:DictEntry=>e.hash)==some (CH w k))∧i≤es.size ∧
    ((hit=none∧∀ j,j<i->ks[j]?≠some k)∨∃ j,hit=some j∧j<i∧ks[j]? = some k)) _ ?_ ?_ _ _
   ⟨rfl,0,none,rfl,by rw [placesWithHash,List.range_eq_range',Nat.sub_zero],AZ _,.inl ⟨rfl,λj z=>absurd z (Nat.not_lt_zero _)⟩⟩)
  ·rintro x rest b s' ⟨rfl,i,hit,rfl,hr,hi,hH⟩
   obtain ⟨hix,hxn,hpx,hskip,hrest⟩:=filter_range'_cons _ _ _ _ _ hr.symm
   have hlt:x<es.size:=by omega
   have hrest':rest=(List.range' (x+1) (es.size-(x+1))).filter (λi=>es[i]?.map (λe:DictEntry=>e.hash)==some (CH w k)):=by rw [hrest];congr 2;omega
   have ex:es[x]? = some es[x]:=Aq hlt
   obtain ⟨k',e1,e2,e3⟩:=hat x _ ex
   rw [ex] at hpx ⊢
   have hh:es[x].hash=CH w k:=by simpa using hpx
   have hh':(es[x].hash==CH w k)=true:=by simpa using hh
   have hx:(hit=none∧∀ j,j<x->ks[j]?≠some k)∨∃ j,hit=some j∧j<x∧ks[j]? = some k:=by
    rcases hH with ⟨z0,hno'⟩|⟨j,z1,hji,hj⟩
    ·refine .inl ⟨z0,λj hj q=>?_⟩
     rcases BH j i with z|z
     ·exact hno' j z q
     ·have:=hskip j z hj;rw [hp j q] at this;cases this
    ·exact .inr ⟨j,z1,by omega,hj⟩
   dsimp only
   rw [if_pos hh']
   refine Aa (BA ho hd (Aa (e3.eq hk' hu (Aa (BA ho hd ?_)))))
   rw [if_neg (by simp)]
   by_cases c:k'=k
   ·rw [Bv c]
    subst c
    rcases hx with ⟨rfl,_⟩|⟨j,_,hjx,hj⟩
    ·simp only [Option.isSome_none,Av,A0,if_true]
     refine Aa (BS ?_)
     split
     ·exact Ac (Ac (h1 x e1))
     ·exact Ac ⟨rfl,x+1,some x,rfl,hrest',hlt,.inr ⟨x,rfl,A1 x,e1⟩⟩
    ·exact absurd (VQ hn hj e1) (by omega)
   ·rw [A3 c]
    simp only [Av,A0,Bool.false_and]
    refine Aa (BS (Ac ⟨rfl,x+1,hit,rfl,hrest',hlt,?_⟩))
    rcases hx with ⟨z0,hno'⟩|⟨j,z1,hji,hj⟩
    ·refine .inl ⟨z0,λj hj q=>?_⟩
     rcases BH j x with z|z
     ·exact hno' j z q
     ·have:j=x:=by omega
      subst this
      rw [e1] at q
      exact c (AB q)
    ·exact .inr ⟨j,z1,by omega,hj⟩
  ·rintro b s' ⟨rfl,i,hit,rfl,hr,hi,hH⟩
   rcases hH with ⟨rfl,hno'⟩|⟨j,rfl,_,hj⟩
   ·refine Ac (h0 (hno λj q=>?_))
    rcases BH j i with z|z
    ·exact hno' j z q
    ·have hj:j<es.size:=by rw [hsz];exact (Ae.mp q).1
     exact List.filter_eq_nil_iff.mp hr.symm j (List.mem_range'_1.mpr ⟨z,by omega⟩) (hp j q)
   ·exact Ac (h1 j hj)
end
noncomputable def Et (k:D):List D->List D->Option D
 | k'::ks,d::ds=>if k'=k then some d else Et k ks ds
 | _,_=>none
noncomputable def HX (k v:D):List D->List D->List D
 | k'::ks,d::ds=>(if k'=k then v else d)::HX k v ks ds
 | _,ds=>ds
noncomputable def F0 (k v:D)(ks ds:List D):List D×List D:=if k∈ks then (ks,HX k v ks ds) else (ks++[k],ds++[v])
theorem Hq {k:D}:∀ {ks ds:List D},k∉ks->Et k ks ds=none
 | [],_,_=>rfl
 | _::_,[],_=>rfl
 | k'::ks,d::ds,h=>by
  rw [Am,not_or] at h
  rw [Et,if_neg (λe=>h.1 e.symm),Hq h.2]
theorem JO {k:D}:∀ {ks ds:List D} {j:Nat},ks.Nodup->ks[j]? = some k->Et k ks ds=ds[j]?
 | [],_,_,_,e=>by simp at e
 | _::_,[],_,_,_=>by simp [Et]
 | k'::ks,d::ds,0,n,e=>by simp at e;subst e;simp [Et]
 | k'::ks,d::ds,j+1,n,e=>by
  rw [Br] at n
  simp at e
  have:k'≠k:=λz=>n.1 (by rw [z];exact Ak e)
  rw [Et,if_neg this,JO n.2 e]
  rfl
theorem NB {k v:D}:∀ {ks ds:List D},k∉ks->HX k v ks ds=ds
 | [],_,_=>rfl
 | _::_,[],_=>rfl
 | k'::ks,d::ds,h=>by
  rw [Am,not_or] at h
  rw [HX,if_neg (λe=>h.1 e.symm),NB h.2]
theorem OM {k v:D}:∀ {ks ds:List D} {j:Nat},ks.Nodup->ks[j]? = some k->HX k v ks ds=ds.set j v
 | [],_,_,_,e=>by simp at e
 | _::_,[],_,_,_=>by simp [HX]
 | k'::ks,d::ds,0,n,e=>by
  simp at e
  subst e
  rw [Br] at n
  rw [HX,if_pos rfl,NB n.1]
  rfl
 | k'::ks,d::ds,j+1,n,e=>by
  rw [Br] at n
  simp at e
  have:k'≠k:=λz=>n.1 (by rw [z];exact Ak e)
  rw [HX,if_neg this,OM n.2 e]
  rfl
noncomputable def DcAt (K:Zc)(th:List Addr)(H:Hp)(a:Addr)(ks ds:List D):Prop:=∃ xs,H a=some (Ge a xs)∧xs.map (·.1)=FZ K.w ks∧RepL K th H ks (xs.map (·.2.1))∧RepL K th H ds (xs.map (·.2.2))∧KeysOk ks
noncomputable def Fx (mu:Sto):D->Option (List D×List D)
 | .dct ks ds=>some (ks,ds)
 | .ref k=>match mu[k]? with
  | some (.dct ks ds)=>some (ks,ds)
  | _=>none
 | _=>none
section
variable {X:Cx} {K:Zc} {th:List Addr} {mu:Sto} {H:Hp} {pins:List (Addr×Obj)} {st:L2.St} {s:Shared} {A:Around} {E:Value->Shared->Prop}
theorem EN (so:StoOk K th mu H){d:D}{p:List D×List D}{v:V}(h:Fx mu d=some p)(r:Rep K th H d v):∃ a,v=.ref a∧DcAt K th H a p.1 p.2:=by
 unfold Fx at h
 split at h
 ·cases h;unfold Rep at r;obtain ⟨a,xs,rfl,_,h1⟩:=r;exact ⟨a,rfl,xs,h1⟩
 ·split at h
  ·rename_i k _ ks ds e
   cases h
   unfold Rep at r
   obtain ⟨a,rfl,ha⟩:=r
   exact ⟨a,rfl,so.at' k a _ ha e⟩
  ·cases h
 ·cases h
structure DcO (X:Cx) (th:List Addr) (H:Hp) (s:Shared) (a:Addr) (ks ds:List D) (xs:List (Int×V×V)) (o:Obj) (es:Array DictEntry) (ep:Nat):Prop where
 ns:(a==sysModules)=false
 at':s.heap.get? a=some o
 ex:o.ExactDict
 dt:o.data=.dict es ep
 pr:Paired (λ(x:Int×V×V) (e:DictEntry)=>e.hash=x.1∧RelV x.2.1 e.key∧RelV x.2.2 e.val) xs es.toList
 en:Paired (EnK X.w s.heap) ks es.toList
 xl:xs.length=ks.length
 dl:ds.length=ks.length
theorem JK {α β:Type}{F:α->β->Prop}:∀ {xs:List α} {ys:List β},xs.length=ys.length->(∀ (j:Nat) x y,xs[j]? = some x->ys[j]? = some y->F x y)->Paired F xs ys
 | [],[],_,_=>.nil
 | [],_::_,h,_=>by simp at h
 | _::_,[],h,_=>by simp at h
 | x::xs,y::ys,h,f=>.cons (f 0 x y rfl rfl) (JK (by simpa using h) λj a b e1 e2=>f (j+1) a b (by simpa using e1) (by simpa using e2))
theorem Gd (I:L2.Inv X pins st H s){a:Addr}{ks ds:List D}(h:DcAt X.z th H a ks ds):∃ xs o es ep,H a=some (Ge a xs)∧DcO X th H s a ks ds xs o es ep:=by
 obtain ⟨xs,h1,h2,h3,h4,h5⟩:=h
 obtain ⟨⟨z,o,es,ep,g1,g2,g3,g4⟩,_⟩:=(show ObjOk X.prog X.w H s.heap a (Ge a xs) from I.hok a _ h1)
 have xl:xs.length=ks.length:=by have:=h3.len;simpa using this
 refine ⟨xs,o,es,ep,h1,z,g1,g2,g3,g4,?_,xl,by have:=h4.len;rw [Ag] at this;omega⟩
 refine JK (by rw [← DP g4,xl]) λj k e e1 e2=>?_
 obtain ⟨x,q1,q2,q3,q4⟩:=(DK g4 j).2 e e2
 have hh:(xs.map (·.1))[j]? = (FZ X.w ks)[j]?:=by rw [h2]
 rw [HN,Al,Al,q1,e1] at hh
 obtain ⟨v,v1,v2⟩:=h3.get e1
 rw [Al,q1] at v1
 have v1':x.2.1=v:=by simpa using v1
 refine ⟨by rw [q2];simpa using hh,Lm I (h5.ok k (Ak e1)) v2 (by rw [← v1'];exact q3)⟩
theorem X8 (I:L2.Inv X pins st H s){a:Addr}{ks ds:List D}(h:DcAt X.z th H a ks ds){k:D}{u:Value}(hk:Hd s.heap k u)(hu:A.units+8<cLine){Q:Option Value->Shared->Prop}
  (q0:Et k ks ds=none->∀ tk,Q none { s with toks:=tk }) (q1:∀ d v r,Et k ks ds=some d->Rep X.z th H d v->RelV v r->∀ tk,Q (some r) { s with toks:=tk }):wpAny (model X.prog X.w) A (dictGet a u) Q E s:=by
 obtain ⟨xs,o,es,ep,h1,g⟩:=Gd I h
 obtain ⟨xs',h1',h2,h3,h4,h5⟩:=id h
 unfold dictGet
 refine AI (Aa (hk.hash hu λtk=>Aa (NS (s:={ s with toks:=tk }) hu hk g.at' g.dt g.en h5.nd (λz=>Ac (q0 (Hq z) tk)) λj ej=>?_)))
 refine Aa (BI (s:={ s with toks:=tk }) g.at' g.dt ?_)
 obtain ⟨e,e1,e2⟩:=(DK g.en j).1 k ej
 rw [Ax] at e1
 rw [e1]
 obtain ⟨⟨z',o',es',ep',g1,g2,g3,g4⟩,_⟩:=(show ObjOk X.prog X.w H s.heap a (Ge a xs') from I.hok a _ h1')
 have g1':=g.at'
 rw [g1] at g1'
 cases g1'
 have g3':=g.dt
 rw [g3] at g3'
 cases g3'
 obtain ⟨x,x1,x2,x3,x4⟩:=(DK g4 j).2 e (by rw [Ax];exact e1)
 have vj:(xs'.map (·.2.2))[j]? = some x.2.2:=by rw [Al,x1];rfl
 obtain ⟨d,d1,d2⟩:=h4.getV vj
 exact Ac (q1 d _ _ (by rw [JO h5.nd ej];exact d1) d2 x4 tk)
theorem Nc {α β:Type}{F:α->β->Prop}:∀ {xs:List α} {ys:List β} (j:Nat) {x:α} {y:β},Paired F xs ys->F x y->Paired F (xs.set j x) (ys.set j y)
 | _,_,_,_,_,.nil,_=>.nil
 | _,_,0,_,_,.cons _ t,f=>.cons f t
 | _,_,j+1,_,_,.cons r t,f=>.cons r (Nc j t f)
theorem IF {α β:Type}{F:α->β->Prop}:∀ {xs xs':List α} {ys ys':List β},Paired F xs ys->Paired F xs' ys'->Paired F (xs++xs') (ys++ys')
 | _,_,_,_,.nil,t=>t
 | _,_,_,_,.cons r t,t'=>.cons r (IF t t')
theorem WM (I:L2.Inv X pins st H s){a:Addr}{ks ds:List D}(h:DcAt X.z th H a ks ds)(ext:∀ xs,Ext th H th (upd H a (Ge a xs)))(so:StoOk X.z th mu H){k v:D}{kv vv:V}{u r:Value}(hk:EZ k=true)(rk:Rep X.z th H k kv)(ru:RelV kv u)(rv:Rep X.z th H v vv)(rr:RelV vv r)(lt:ks.length<sizeLine)(hu:A.units+8<cLine)
  {Q:Unit->Shared->Prop} (q:∀ s' xs',L2.Inv X pins st (upd H a (Ge a xs')) s'->DcAt X.z th (upd H a (Ge a xs')) a (F0 k v ks ds).1 (F0 k v ks ds).2->Q () s'):wpAny (model X.prog X.w) A (dictSet a u r) Q E s:=by
 have hd:=Lm I hk rk ru
 obtain ⟨xs',h1',h2,h3,h4,h5⟩:=id h
 obtain ⟨⟨z',o,es,ep,g1,g2,g3,g4⟩,_⟩:=(show ObjOk X.prog X.w H s.heap a (Ge a xs') from I.hok a _ h1')
 obtain ⟨xs,o',es',ep',h1,g⟩:=Gd I h
 have g1':=g.at'
 rw [g1] at g1'
 cases g1'
 have g3':=g.dt
 rw [g3] at g3'
 cases g3'
 have mu1:Mut (H a):=by rw [h1'];exact True.intro
 unfold dictSet
 refine AI (Aa (hd.hash hu λtk=>?_))
 unfold dictSetHashed
 refine AI (Aa (NS (s:={ s with toks:=tk }) hu hd g1 g3 g.en h5.nd (λz=>?_) λj ej=>?_))
 ·have hz0:es.size≤sizeLine:=by rw [← Array.length_toList,← DP g.en];omega
  refine Aa (BS (wpAny_updateDictKeys (s:={ s with toks:=tk }) g1 g3 (hz:=hz0) ?_))
  have e1:(F0 k v ks ds).1=ks++[k]:=by unfold F0;rw [if_neg z]
  have e2:(F0 k v ks ds).2=ds++[v]:=by unfold F0;rw [if_neg z]
  have so1:=AS (Obj.mapDictKeys (·.push ⟨CH X.w k,u,r⟩)) g1 (Obj.isFreed_of_dict (Obj.data_mapDictKeys g3 _))
  refine q _ (xs'++[(CH X.w k,kv,vv)]) (I.write (x:=a) (e:=a) (t':=tk) mu1 (.inl rfl) (λb ob hb e=>((AA ..).2 b hb).trans e) ⟨_,so1⟩ (Mh ⟨z',_,_,ep+1,so1,g2.mapDictKeys _,Obj.data_mapDictKeys g3 _,?_⟩)) ?_
  ·rw [Array.toList_push]
   exact IF g4 (.cons ⟨rfl,ru,rr⟩ .nil)
  ·rw [e1,e2]
   have ex:=ext (xs'++[(CH X.w k,kv,vv)])
   refine ⟨_,DR,?_,?_,?_,?_⟩
   ·rw [Bs,h2,HN,HN,Bs];rfl
   ·rw [Bs];exact (h3.ext ex so.out).app (.cons (rk.ext ex so.out) .nil)
   ·rw [Bs];exact (h4.ext ex so.out).app (.cons (rv.ext ex so.out) .nil)
   ·refine ⟨by rw [Ar];exact lt,?_,λk' hk'=>?_⟩
    ·refine List.nodup_append.mpr ⟨h5.nd,by simp,λx hx y hy=>?_⟩
     rw [Aw.mp hy]
     exact λe=>z (e▸hx)
    ·rcases AL.mp hk' with w'|w'
     ·exact h5.ok k' w'
     ·rw [Aw.mp w'];exact hk
 ·have mem:k∈ks:=Ak ej
  have e1:(F0 k v ks ds).1=ks:=by unfold F0;rw [if_pos mem]
  have e2:(F0 k v ks ds).2=ds.set j v:=by unfold F0;rw [if_pos mem];exact OM h5.nd ej
  have hj:j<xs'.length:=by
   have:=(Ae.mp ej).1
   have l2:=h3.len
   rw [Ag] at l2
   omega
  have hje:j<es.size:=by rw [← Array.length_toList,← DP g4];exact hj
  obtain ⟨y,y1,y2,y3,y4⟩:=(DK g4 j).1 xs'[j] (Ah hj)
  rw [Ax] at y1
  have ye:es[j]=y:=by rw [Aq hje] at y1;exact AB y1
  refine Aa (BS (Aa (wpAny_updateDict (s:={ s with toks:=tk }) g1 g3 (wpAny_point ?_))))
  have so1:=AS (Obj.mapDict (·.modify j λe=>{ e with val:=r })) g1 (Obj.isFreed_of_dict (Obj.data_mapDict g3 _))
  refine q _ (xs'.set j (xs'[j].1,xs'[j].2.1,vv)) (I.write (x:=a) (e:=a) (t':=tk) mu1 (.inl rfl) (λb ob hb e=>((AA ..).2 b hb).trans e) ⟨_,so1⟩ (Mh ⟨z',_,_,ep,so1,g2.mapDict _,Obj.data_mapDict g3 _,?_⟩)) ?_
  ·have em:(es.modify j λe=>{ e with val:=r }).toList=es.toList.set j { y with val:=r }:=by
    have yl:es.toList[j]? = some y:=by rw [Ax];exact y1
    rw [Array.toList_modify]
    refine BV λi=>?_
    rw [List.getElem?_modify]
    by_cases c:j=i
    ·subst c
     rw [yl,List.getElem?_set_self (by simpa using hje)]
     simp
    ·rw [AV c]
     simp [c]
   rw [em]
   exact Nc j g4 ⟨y2,y3,rr⟩
  ·rw [e1,e2]
   have ex:=ext (xs'.set j (xs'[j].1,xs'[j].2.1,vv))
   refine ⟨_,DR,?_,?_,?_,h5⟩
   ·rw [← h2,List.map_set]
    refine BV λi=>?_
    by_cases c:i=j
    ·subst c;simp [hj]
    ·rw [AV (Ne.symm c)]
   ·have:(xs'.set j (xs'[j].1,xs'[j].2.1,vv)).map (·.2.1)=xs'.map (·.2.1):=by
     rw [List.map_set]
     refine BV λi=>?_
     by_cases c:i=j
     ·subst c;simp [hj]
     ·rw [AV (Ne.symm c)]
    rw [this]
    exact h3.ext ex so.out
   ·rw [List.map_set]
    exact (h4.ext ex so.out).setAt j (rv.ext ex so.out)
theorem SA (I:L2.Inv X pins st H s){a:Addr}{ks ds:List D}(h:DcAt X.z th H a ks ds){k d:D}{u:Value}(hk:Hd s.heap k u)(e:Et k ks ds=some d):∃ v r,Rep X.z th H d v∧RelV v r ∧
  ∀ {A:Around} {E:Value->Shared->Prop} {Q:Option Value->Shared->Prop},A.units+8<cLine->(∀ tk,Q (some r) { s with toks:=tk })->wpAny (model X.prog X.w) A (dictGet a u) Q E s:=by
 obtain ⟨xs',h1',h2,h3,h4,h5⟩:=id h
 obtain ⟨xs,o,es,ep,h1,g⟩:=Gd I h
 obtain ⟨⟨z',o',es',ep',g1,g2,g3,g4⟩,_⟩:=(show ObjOk X.prog X.w H s.heap a (Ge a xs') from I.hok a _ h1')
 have g1':=g.at'
 rw [g1] at g1'
 cases g1'
 have g3':=g.dt
 rw [g3] at g3'
 cases g3'
 have mem:k∈ks:=by
  refine BQ λz=>?_
  rw [Hq z] at e
  cases e
 obtain ⟨j,ej⟩:=AK.mp mem
 rw [JO h5.nd ej] at e
 obtain ⟨v,v1,v2⟩:=h4.get e
 obtain ⟨en,e1,e2⟩:=(DK g.en j).1 k ej
 obtain ⟨x,x1,x2,x3,x4⟩:=(DK g4 j).2 en e1
 rw [Al,x1] at v1
 have v1':x.2.2=v:=by simpa using v1
 rw [Ax] at e1
 refine ⟨v,en.val,v2,v1'▸x4,λhu q=>?_⟩
 unfold dictGet
 refine AI (Aa (hk.hash hu λtk=>Aa (NS (s:={ s with toks:=tk }) hu hk g1 g3 g.en h5.nd (λz=>absurd mem z) λj' ej'=>?_)))
 cases VQ h5.nd ej ej'
 refine Aa (BI (s:={ s with toks:=tk }) g1 g3 ?_)
 rw [e1]
 exact Ac (q tk)
theorem VC (I:L2.Inv X pins st H s){a:Addr}{ks ds:List D}(h:DcAt X.z th H a ks ds){k:D}{u:Value}(hk:Hd s.heap k u)(e:Et k ks ds=none){Q:Option Value->Shared->Prop}(hu:A.units+8<cLine)(q:∀ tk,Q none { s with toks:=tk }):wpAny (model X.prog X.w) A (dictGet a u) Q E s:=
 X8 I h hk hu (λ_=>q) λd v r e'=>by rw [e] at e';cases e'
theorem RZ (I:L2.Inv X pins st H s){a:Addr}{ks ds:List D}(h:DcAt X.z th H a ks ds):s.TypeIs (.ref a) "dict"∧(a==sysModules)=false∧∃ o,s.heap.get? a=some o∧o.dict=none:=by
 obtain ⟨xs,o,es,ep,h1,g⟩:=Gd I h
 exact ⟨⟨o,g.at',g.ex.1⟩,g.ns,o,g.at',g.ex.2.1⟩
theorem Kz {k:D}{ks ds:List D}(n:ks.Nodup)(l:ds.length=ks.length):(Et k ks ds).isSome=decide (k∈ks):=by
 by_cases c:k∈ks
 ·obtain ⟨j,ej⟩:=AK.mp c
  rw [JO n ej,Bv c]
  have:=(Ae.mp ej).1
  rw [Ah (by omega)]
  rfl
 ·rw [Hq c,A3 c];rfl
theorem Su {a:Addr}{ks ds:List D}(h:DcAt K th H a ks ds):ds.length=ks.length∧KeysOk ks:=by
 obtain ⟨xs,_,_,h3,h4,h5⟩:=h
 have a:=h3.len
 have b:=h4.len
 rw [Ag] at a b
 exact ⟨by omega,h5⟩
noncomputable def ixC (d e:D)(mu:Sto):Rs D:=match Fx mu d with
 | some p=>if EZ e=true then (Et e p.1 p.2).map λv=>(v,mu) else none
 | none=>none
theorem U2 {d e:D}{r:D×Sto}(h:ixC d e mu=some r):∃ p,Fx mu d=some p∧EZ e=true∧∃ v,Et e p.1 p.2=some v∧r=(v,mu):=by
 unfold ixC at h
 split at h
 ·rename_i p e1
  split at h
  ·rename_i c
   cases q:Et e p.1 p.2 with
   | none=>rw [q] at h;cases h
   | some v=>rw [q] at h;cases h;exact ⟨p,e1,c,v,q,rfl⟩
  ·cases h
 ·cases h
theorem Aah (hu:X.A.units+64<cLine):IxR X (r2 X.z ixC):=by
 intro value slice pins s st H x y v u Q I rx ry h hs
 obtain ⟨th,mu,d,e,so,r1,r2,t⟩:=h
 obtain ⟨a0,mu0,e0,_⟩:=id t
 obtain ⟨p,e1,hk,w',e2,er⟩:=U2 e0
 rw [e0] at t
 cases er
 obtain ⟨a,rfl,dc⟩:=EN so e1 r1
 cases rx
 obtain ⟨v',r',q1,q2,q3⟩:=SA I dc (Lm I hk r2 ry) e2
 obtain ⟨ty,_⟩:=RZ I dc
 refine subscriptTail_builtinR (x:=r') ty slot_dict_getitem.lookup ?_ hs
 unfold getItem
 refine AI (Aa (wpAny_sequenceKey ty (by decide) (Aa (AM (name:=Str.ofString "__getitem__") ty slot_dict_getitem (AO slot_dict_getitem ty entry_dict_getitem ?_ (args_dict_getitem _ _))))))
 refine (?_:wpAny _ _ (dictGet a u >>= _) _ _ s)
 exact Aa (q3 (by rw [Around.in1_units];omega) λtk=>Ac ⟨r',rfl,Ac ⟨rfl,v',H,I.tok _,q2,t.ret so _ q1⟩⟩)
theorem IxR.or {g g':D->D->Sto->Rs D}(h:IxR X (r2 X.z g))(h':IxR X (r2 X.z g')):IxR X (r2 X.z λd e mu=>match g d e mu with|some r=>some r|none=>g' d e mu):=by
 intro value slice pins s st H x y v u Q I rx ry q hs
 obtain ⟨th,mu,d,e,so,r1,r2,t⟩:=q
 dsimp only at t
 cases c:g d e mu with
 | some r=>rw [c] at t;exact h value slice pins s st H x y v u Q I rx ry ⟨th,mu,d,e,so,r1,r2,by rw [c];exact t⟩ hs
 | none=>rw [c] at t;exact h' value slice pins s st H x y v u Q I rx ry ⟨th,mu,d,e,so,r1,r2,t⟩ hs
noncomputable def ixG (d e:D)(mu:Sto):Rs D:=match ixD d e mu with
 | some r=>some r
 | none=>ixC d e mu
theorem Dw (hu:X.A.units+64<cLine):IxR X (r2 X.z ixG):=IxR.or AaR (Aah hu)
noncomputable def inC (neg:Bool)(d c:D)(mu:Sto):Rs D:=match Fx mu c with
 | some p=>if EZ d=true then some (.bl (decide (d∈p.1) != neg),mu) else none
 | none=>none
theorem OT {neg:Bool}{d e:D}{r:D×Sto}(h:inC neg d e mu=some r):∃ p,Fx mu e=some p∧EZ d=true∧r=(.bl (decide (d∈p.1) != neg),mu):=by
 unfold inC at h
 split at h
 ·rename_i p e1
  split at h
  ·rename_i c;cases h;exact ⟨p,e1,c,rfl⟩
  ·cases h
 ·cases h
theorem VS (hu:X.A.units+64<cLine)(I:L2.Inv X pins st H s){a:Addr}{ks ds:List D}(dc:DcAt X.z th H a ks ds){d:D}{u:Value}(hk:Hd s.heap d u){Q:Bool->Shared->Prop}(q:∀ tk,Q (decide (d∈ks)) { s with toks:=tk }):wpAny (model X.prog X.w) X.A (contains (.ref a) u) Q E s:=by
 obtain ⟨ty,ns,_⟩:=RZ I dc
 obtain ⟨l,ko⟩:=Su dc
 have gm:=Kz (k:=d) ko.nd l
 unfold contains
 refine AI (Aa (wpAny_specialOf ty slot_dict_contains.lookup ?_))
 refine (?_:wpAny _ _ (if (some (Value.builtin "dict.__contains__")==some Value.none)=true then _ else _) _ E s)
 rw [if_neg (by rw [beq_builtin_none];exact AG)]
 refine Aa (wpAny_callSpecialUnlessNone?_slot (name:=Str.ofString "__contains__") ty slot_dict_contains (AO slot_dict_contains ty entry_dict_contains ?_ (args_dict_contains _ _)))
 refine (?_:wpAny _ _ (dictGet a u >>= _) _ _ s)
 refine Aa ?_
 have hu':X.A.in1.units+8<cLine:=by rw [Around.in1_units];omega
 cases c:Et d ks ds with
 | some v =>
  rw [c] at gm
  obtain ⟨v',r',q1,q2,q3⟩:=SA I dc hk c
  refine q3 hu' λtk=>?_
  refine (?_:wpAny _ _ (ret (.bool true)) _ _ _)
  exact Ac ⟨_,rfl,Bi (by rw [← gm] at q;exact q tk)⟩
 | none =>
  rw [c] at gm
  refine VC I dc hk c hu' λtk=>?_
  refine (?_:wpAny _ _ (Builtin.Dict.pendingKey? a u >>= _) _ _ _)
  exact Aa (wpAny_pendingKey_other ns (Ac ⟨_,rfl,Bi (by rw [← gm] at q;exact q tk)⟩))
theorem XX (hu:X.A.units+64<cLine):OpV X (compareOp .In) (inC false):=by
 intro pins s st H x y v u Q I rx ry h
 obtain ⟨th,mu,d,e,so,r1,r2,t⟩:=h
 obtain ⟨a0,mu0,e0,_⟩:=id t
 obtain ⟨p,e1,hk,er⟩:=OT e0
 rw [e0] at t
 cases er
 obtain ⟨a,rfl,dc⟩:=EN so e1 r2
 cases ry
 refine (?_:wpAny _ _ (do return Value.bool (← contains (.ref a) v)) _ _ s)
 exact Aa (VS hu I dc (Lm I hk r1 rx) λtk=>Ac ⟨.bl _,H,I.tok _,rfl,by have:=t.ret so _ rfl;simpa using this⟩)
theorem Vl (hu:X.A.units+64<cLine):OpV X (compareOp .NotIn) (inC true):=by
 intro pins s st H x y v u Q I rx ry h
 obtain ⟨th,mu,d,e,so,r1,r2,t⟩:=h
 obtain ⟨a0,mu0,e0,_⟩:=id t
 obtain ⟨p,e1,hk,er⟩:=OT e0
 rw [e0] at t
 cases er
 obtain ⟨a,rfl,dc⟩:=EN so e1 r2
 cases ry
 refine (?_:wpAny _ _ (do return Value.bool (!(← contains (.ref a) v))) _ _ s)
 exact Aa (VS hu I dc (Lm I hk r1 rx) λtk=>Ac ⟨.bl _,H,I.tok _,rfl,by have:=t.ret so _ rfl;simpa using this⟩)
theorem OpV.or {f:Value->Value->Sem Value}{g g':D->D->Sto->Rs D}(h:OpV X f g)(h':OpV X f g'):OpV X f λd e mu=>match g d e mu with|some r=>some r|none=>g' d e mu:=by
 intro pins s st H x y v u Q I rx ry q
 obtain ⟨th,mu,d,e,so,r1,r2,t⟩:=q
 dsimp only at t
 cases c:g d e mu with
 | some r=>rw [c] at t;exact h pins s st H x y v u Q I rx ry ⟨th,mu,d,e,so,r1,r2,by rw [c];exact t⟩
 | none=>rw [c] at t;exact h' pins s st H x y v u Q I rx ry ⟨th,mu,d,e,so,r1,r2,t⟩
noncomputable def inG (d e:D)(mu:Sto):Rs D:=match inD d e mu with
 | some r=>some r
 | none=>inC false d e mu
noncomputable def Us (d e:D)(mu:Sto):Rs D:=match Ut d e mu with
 | some r=>some r
 | none=>inC true d e mu
theorem OB (hu:X.A.units+64<cLine):OpV X (compareOp .In) inG:=OpV.or (WK hu) (XX hu)
theorem UK (hu:X.A.units+64<cLine):OpV X (compareOp .NotIn) Us:=OpV.or (Uc hu) (Vl hu)
noncomputable def putG (d e v:D)(mu:Sto):Rs Unit:=match d with
 | .ref k=>match mu[k]? with
  | some (.dct ks ds)=>if EZ e=true∧ks.length<sizeLine then some ((),mu.set k (.dct (F0 e v ks ds).1 (F0 e v ks ds).2)) else none
  | _=>UE d e v mu
 | _=>none
noncomputable def Y9 (K:Zc):Q6:=λo i v H Q=>∃ th mu d e w,StoOk K th mu H∧Rep K th H d o∧Rep K th H e i∧Rep K th H w v∧Tr K th H (putG d e w mu) λ_ _ _ H'=>Q H'
theorem Zr (hu:X.A.units+64<cLine):UH X (Y9 X.z):=by
 intro pins s st H o i v ov iv u Q I ro ri rv h
 obtain ⟨th,mu,d,e,w,so,r1,r2,r3,t⟩:=h
 unfold putG at t
 split at t
 ·rename_i k
  split at t
  ·rename_i ks ds em
   split at t
   ·rename_i c
    unfold Rep at r1
    obtain ⟨a,rfl,ha⟩:=r1
    have dc:DcAt X.z th H a ks ds:=so.at' k a _ ha em
    obtain ⟨ty,ns,_⟩:=RZ I dc
    cases ro
    unfold setItem
    refine AI (Aa (wpAny_sequenceKey ty (by decide) (Aa (AM (name:=Str.ofString "__setitem__") ty slot_dict_setitem (AO slot_dict_setitem ty entry_dict_setitem ?_ (args_dict_setitem _ _ _))))))
    refine (?_:wpAny _ _ (Builtin.Dict.notOrdered "__setitem__" ⟨[.ref a,iv,u],[]⟩ >>= _) _ _ s)
    refine Aa (wpAny_notOrdered_dict ty (?_:wpAny _ _ (dictSet a iv u >>= _) _ _ s))
    refine Aa (WM I dc (λxs=>.mut (Ak ha) _) so c.1 r2 ri r3 rv c.2 (by rw [Around.in1_units];omega) λs' xs' I' dc'=>Ac ⟨.none,rfl,Ac ⟨_,I',?_⟩⟩)
    exact t.retX (.mut (Ak ha) _) (so.putG ha _ _ dc')
   ·exact t.no.elim
  ·exact Yq pins s st H o i v ov iv u Q I ro ri rv ⟨th,mu,.ref k,e,w,so,r1,r2,r3,t⟩
 ·exact t.no.elim
noncomputable def gIx (o i:Ex):Gx:=λv ro mu=>bM (o ro mu) λd m1=>bM (i ro m1) λe m2=>bM (putG d e v m2) λ_ m3=>some (ro,m3)
theorem L9 (hu:X.A.units+64<cLine){o i:Expr}{mo mi:Ex}{pos:Pos}(ho:SV X o mo)(hi:SV X i mi)
  (ha:∀ v,assign (.Subscript o i pos) X.env v=(do
   let ov←holding [v] (eval o X.env)
   let iv←holding [v,ov] (eval i X.env)
   standAt pos
   holding [v,ov,iv] (setItem ov iv v)
   release [v,ov,iv] []):=by intro _;rfl):SVG X (.Subscript o i pos) (gIx mo mi):=⟨PG.weak (XN ho.r hi.r (Zr hu) ha) λv st H Q h=>by
 obtain ⟨th,mu,ro,d,so,en,r,t⟩:=h
 refine ⟨th,mu,ro,so,en,t.bind.mono λx th1 mu1 H1 e1 s1 t1 xv rx=>?_⟩
 refine ⟨th1,mu1,ro,s1,en.ext e1 so.out,t1.bind.mono λy th2 mu2 H2 e2 s2 t2 yv ry=>?_⟩
 refine ⟨th2,mu2,x,y,d,s2,rx.ext e2 s1.out,ry,(r.ext e1 so.out).ext e2 s1.out,t2.bind.mono λ_ th3 mu3 H3 e3 s3 t3=>?_⟩
 exact t3.ret s3 _ (((en.ext e1 so.out).ext e2 s1.out).ext e3 s2.out)⟩
end
section
variable {prog:Program} {w:World} {A:Around} {E:Value->Shared->Prop} {s:Shared}
theorem wp_choose {M:Model}{src:Source}{n:Nat}{Q:Nat->Shared->Prop}(hn:n≠0)(h:∀ i d',i<n->Q i { s with drawn:=d' }):wpAny M A (choose src n) Q E s:=
 λ_ _ _=>⟨hn,h _ _ (Nat.mod_lt _ (Nat.pos_of_ne_zero hn))⟩
theorem HP {α:Type}:∀ (xs:List α) (i:Nat) (hi:i<xs.length),(xs[i]::xs.eraseIdx i).Perm xs
 | [],i,hi=>by simp at hi
 | x::xs,0,_=>BW _
 | x::xs,i+1,hi=>by
  have hi':i<xs.length:=by simpa using hi
  exact (List.Perm.swap x xs[i] _).trans (List.Perm.cons x (HP xs i hi'))
theorem MY {M:Model}{α:Type}:∀ (n:Nat) (xs:List α) {s:Shared} {Q:List α->Shared->Prop},n=xs.length->(∀ ys d',ys.Perm xs->Q ys { s with drawn:=d' })->wpAny M A (drawOrder n xs) Q E s
 | 0,[],s,Q,_,h=>Ac (h [] s.drawn (BW _))
 | 0,_::_,_,_,e,_=>by simp at e
 | n+1,[],_,_,e,_=>by simp at e
 | n+1,x::xs,s,Q,e,h=>by
  refine Aa (wp_choose (by simp) λi d' hi=>?_)
  rw [Ah hi]
  refine Aa (MY n ((x::xs).eraseIdx i) (by rw [List.length_eraseIdx_of_lt hi,← e];rfl) λys d2 p=>Ac (h _ d2 ?_))
  exact (List.Perm.cons _ p).trans (HP _ _ hi)
theorem LC {α:Type}(next:Nat->Nat):∀ (f k:Nat) (left:List α) (out:Array α),f=left.length->(pickOrder.go next f k left out).toList.Perm (out.toList++left)
 | 0,k,[],out,_=>by unfold pickOrder.go;simp
 | 0,_,_::_,_,e=>by simp at e
 | f+1,k,[],out,e=>by simp at e
 | f+1,k,x::xs,out,e=>by
  unfold pickOrder.go
  have hi:next k % (x::xs).length<(x::xs).length:=Nat.mod_lt _ (by simp)
  rw [Ah hi]
  refine (LC next f (k+1) _ _ (by rw [List.length_eraseIdx_of_lt hi,← e];rfl)).trans ?_
  rw [Array.toList_push,List.append_assoc]
  exact List.Perm.append_left _ (HP _ _ hi)
theorem FV {α:Type}(next:Nat->Nat)(xs:Array α):(pickOrder next xs).toList.Perm xs.toList:=by
 have:=LC next xs.size 0 xs.toList #[] (by simp)
 simpa [pickOrder] using this
noncomputable def Dm (w:World):Bool:=w.params.followText "set-order"
theorem Fj {Q:Bool->Shared->Prop}(h:Q (Dm w) s):wpAny (model prog w) A setsByText Q E s:=Aa (wpAny_askSetting (Ac h))
theorem D1:Slot "set_iterator" "__next__" "set_iterator.__next__":=
 .of (owner:="set_iterator") (n:="__next__") (by rw [typeLookup_type,builtinLookup_eq_fast];kernel_rfl) (by decide +kernel) (by decide +kernel) (by decide +kernel) (by first|exact .inl (by decide +kernel)|exact .inr (by decide +kernel)) (by rw [isSubtype_type];kernel_rfl)
theorem G0:entryFor table "set_iterator.__next__"=some Builtin.«set_iterator.__next__»:=entryFor_of_tree (by kernel_rfl)
theorem Ke:Manifest.owners.lookup (String.ofList ['r','o','t','a','r','e','t','i','_','t','e','s'].reverse)=some Manifest.sig_set_iterator:=by kernel_rfl
theorem Hf (a:Value):argsOk "set_iterator.__next__" ⟨[a],[]⟩:=by
 unfold argsOk;rw [signature?_of (id:="set_iterator.__next__") (n:=['_','_','t','x','e','n','_','_']) (o:=['r','o','t','a','r','e','t','i','_','t','e','s']) (by kernel_rfl) Ke];kernel_rfl
theorem G7:Slot "set_iterator" "__iter__" "set_iterator.__iter__":=
 .of (owner:="set_iterator") (n:="__iter__") (by rw [typeLookup_type,builtinLookup_eq_fast];kernel_rfl) (by decide +kernel) (by decide +kernel) (by decide +kernel) (by first|exact .inl (by decide +kernel)|exact .inr (by decide +kernel)) (by rw [isSubtype_type];kernel_rfl)
inductive Md where
 | txt|drw (TI:Addr) (pl:List Nat)|one
noncomputable def SetAt (h:Heap)(S:Addr)(es:Array (Int×Value))(ep:Nat)(t:SetTable):Prop:=∃ o,h.get? S=some o∧o.data=.set es ep t
noncomputable def Fst (w:World)(es:Array (Int×Value))(t:SetTable)(h:Heap)(i:Nat)(v:Value):Md->Prop
 | .txt=>Dm w=true∧∃ c:Nat,v=rawInt c
 | .drw TI pl=>v=.ref TI∧h.IsTuple TI (pl.map λp:Nat=>rawInt p).toArray∧pl.length=es.size∧(∀ p∈pl,p<es.size)
 | .one=>Dm w=false∧(t.plain=false∨es.size≤1)∧es.size≤1∧t.led=true∧v=rawInt ((if i=0 then 0 else t.place.getD 0 0+1:Nat):Int)
noncomputable def K0 (w:World)(S:Addr)(es:Array (Int×Value))(ep:Nat):Md->List Value
 | .txt=>(pickOrder (w.params.setOrder S ep) es).toList.map (·.2)
 | .drw _ pl=>pl.map λp=>(es.getD p (0,.none)).2
 | .one=>es.toList.map (·.2)
noncomputable def SIt (w:World)(S I:Addr)(es:Array (Int×Value))(ep:Nat)(t:SetTable)(md:Md)(i:Nat)(h:Heap):Prop:=
 SetAt h S es ep t∧∃ o v,h.get? I=some o∧o.cls=.type "set_iterator"∧o.data=.fields #[v,rawInt i,.ref S,rawInt es.size,rawInt ep]∧Fst w es t h i v md
theorem FK {M:Model}{I:Addr}{Q:PySem.Fin->Shared->Prop}(hh:A.handled=none)(q:∀ h' e,(∀ c o,s.heap.get? c=some o->h'.get? c=some o)->(∃ o,h'.get? e=some o∧o.cls=.type "StopIteration")->E (.ref e) { s with heap:=h' }) :
  wpAny M A (newExc (.type "StopIteration") [] >>= λe=>(raiseNew e:Sem PySem.Fin)) Q E s:=by
 refine Aa ?_
 simp only [newExc,newTuple]
 refine Aa (AU (Aa (m:=firstArgMember _ _) (wpAny_of_eq (a:=Value.none) (by first|rfl|(simp only [firstArgMember];rfl)) (AU ?_ (by size_fits)))) (by size_fits))
 simp only [raiseNew]
 refine Aa (wpAny_handled ?_)
 rw [hh]
 exact Aa (Ac (wpAny_throw (q _ _ (λc o e=>Ad _ (Ad _ e)) ⟨_,Aj _ rfl,rfl⟩)))
theorem J8 {xs:Array Nat}(h:xs.size≤1):SetTable.below xs 0=0:=by
 unfold SetTable.below
 rcases BH 0 xs.size with c|c
 ·have:xs.size=1:=by omega
  rw [this]
  simp [SetTable.below.go]
 ·have:xs.size=0:=by omega
  rw [this]
  simp [SetTable.below.go]
theorem Oa {xs:Array Nat}(h:xs.size=1):SetTable.below xs (xs.getD 0 0+1)=1:=by
 unfold SetTable.below
 have e0:xs[0]? = some xs[0]:=Aq (by omega)
 rw [h]
 simp [SetTable.below.go,e0]
theorem Fb {a:Addr}{o:Obj}{vs:Array Value}{i:Nat}{x:Value}{h:Heap}(ho:h.get? a=some o)(hd:o.data=.fields vs):∃ o',(h.update a (Obj.mapFields (·.setIfInBounds i x))).get? a=some o'∧o'.cls=o.cls∧o'.data=.fields (vs.setIfInBounds i x):=
 ⟨_,AS _ ho (Obj.isFreed_of_fields (Obj.data_mapFields hd _)),Obj.cls_mapFields ..,Obj.data_mapFields hd _⟩
theorem SetAt.keep {h h':Heap}{S I:Addr}{es:Array (Int×Value)}{ep:Nat}{t:SetTable}(x:SetAt h S es ep t)(ne:S≠I)(sb:Heap.SameBut I h h'):SetAt h' S es ep t:=
 let ⟨o,a,b⟩:=x;⟨o,(sb.2 S ne).trans a,b⟩
noncomputable def Md.apart (I:Addr):Md->Prop
 | .drw TI _=>TI≠I
 | _=>True
theorem Qv {S I:Addr}{es:Array (Int×Value)}{ep:Nat}{t:SetTable}{md:Md}{i:Nat}{Q:Value->Shared->Prop}(hf:t.fits es.size=true)(ne:S≠I)(ap:md.apart I)(g:SIt w S I es ep t md i s.heap)(hi:i<es.size)
  (q:∀ v h',(K0 w S es ep md)[i]? = some v->SIt w S I es ep t md (i+1) h'->Heap.SameBut I s.heap h'->Q v { s with heap:=h' }) :
  wpAny (model prog w) A (Builtin.«set_iterator.__next__» ⟨[.ref I],[]⟩) (λfin s'=>∃ v,fin=.done (.ret v)∧Q v s') E s:=by
 obtain ⟨⟨ob,g1,g2⟩,o,v,k1,k2,k3,k4⟩:=id g
 refine (?_:wpAny _ _ (fieldsOf (.ref I) >>= _) _ _ _)
 refine Aa (wpAny_fieldsOf k1 k3 (?_:wpAny _ _ (setEntries S >>= _) _ _ _))
 refine Aa (wpAny_setEntries_of g1 g2 hf ?_)
 rw [if_neg (by simp)]
 cases md with
 | drw TI pl =>
  obtain ⟨rfl,⟨tb,b1,b2,n,b3⟩,c1,c2⟩:=k4
  refine (?_:wpAny _ _ (seqItems? (.ref TI) >>= _) _ _ _)
  refine Aa (Bz b1 b3 ?_)
  have hp:i<pl.length:=by omega
  have ei:(pl.map λp:Nat=>rawInt p).toArray[(i:Int).toNat]? = some (rawInt pl[i]):=by simp [hp]
  dsimp only
  rw [ei]
  have hpl:=c2 pl[i] (BD hp)
  refine (?_:wpAny _ _ (setNextDrawn S ((pl[i]:Nat):Int).toNat ((ep:Nat):Int).toNat >>= _) _ _ _)
  refine Aa ?_
  unfold setNextDrawn
  refine Aa (A6 g1 g2 hf ?_)
  rw [Int.toNat_natCast,Int.toNat_natCast]
  dsimp only
  rw [if_neg (by simp),Aq hpl]
  refine Ac (Aa (Bj k1 k3 (by simp) (Ac ⟨_,rfl,q _ _ ?_ ?_ (AA ..)⟩)))
  ·unfold K0
   rw [Al,Ah hp]
   simp [Array.getD,hpl]
  ·obtain ⟨o',e1,e2,e3⟩:=Fb (i:=1) (x:=rawInt ((i:Int)+1)) k1 k3
   exact ⟨SetAt.keep ⟨ob,g1,g2⟩ ne (AA ..),o',.ref TI,e1,e2.trans k2,e3,rfl,⟨tb,((AA ..).2 TI ap).trans b1,b2,n,b3⟩,c1,c2⟩
 | txt =>
  obtain ⟨bt,c,rfl⟩:=k4
  refine (?_:wpAny _ _ (setNext S ((c:Nat):Int).toNat ((i:Nat):Int).toNat ((ep:Nat):Int).toNat >>= _) _ _ _)
  refine Aa ?_
  unfold setNext
  refine Aa (A6 g1 g2 hf (Aa (Fj ?_)))
  rw [if_pos bt]
  rw [Int.toNat_natCast,Int.toNat_natCast,Int.toNat_natCast]
  dsimp only
  rw [if_neg (by simp)]
  refine Aa ?_
  unfold setWalk
  refine Aa (A6 g1 g2 hf (Aa (Fj ?_)))
  rw [if_pos bt]
  refine Aa (wpAny_askSetting (Ac ?_))
  have hl:i<(pickOrder (w.params.setOrder S ep) es).size:=by
   have:=(FV (w.params.setOrder S ep) es).length_eq
   simp at this
   omega
  have ex:(pickOrder ((⟨prog,w.params⟩:Setting).params.setOrder S ep) es)[i]? = some (pickOrder (w.params.setOrder S ep) es)[i]:=Aq hl
  refine Ac ?_
  have ex':Option.map (λe:Int×Value=>(e.2,c)) (pickOrder ((⟨prog,w.params⟩:Setting).params.setOrder S ep) es)[i]? = some ((pickOrder (w.params.setOrder S ep) es)[i].2,c):=by rw [ex];rfl
  refine (?_:wpAny _ _ (match Option.map (λe:Int×Value=>(e.2,c)) (pickOrder ((⟨prog,w.params⟩:Setting).params.setOrder S ep) es)[i]? with|some (x,next)=>_|none=>_) _ _ _)
  rw [ex']
  obtain ⟨o',e1,e2,e3⟩:=Fb (i:=0) (x:=rawInt (c:Int)) k1 k3
  refine Aa (Bj k1 k3 (by simp) ?_)
  obtain ⟨o2,f1,f2,f3⟩:=Fb (i:=1) (x:=rawInt ((i:Int)+1)) e1 e3
  refine Aa (Bj e1 e3 (by simp) (Ac ⟨_,rfl,q _ _ ?_ ?_ ((AA ..).trans (AA ..))⟩))
  ·unfold K0
   rw [Al,Ax,Aq hl]
   rfl
  ·exact ⟨(SetAt.keep ⟨ob,g1,g2⟩ ne (AA ..)).keep ne (AA ..),o2,rawInt c,f1,(f2.trans e2).trans k2,f3,bt,c,rfl⟩
 | one =>
  obtain ⟨bt,pl,sz,led,rfl⟩:=k4
  have i0:i=0:=by omega
  subst i0
  have s1:es.size=1:=by omega
  have ps:t.place.size=1:=by
   simp only [SetTable.fits,Ab,beq_iff_eq,Af] at hf
   omega
  refine (?_:wpAny _ _ (setNext S ((0:Nat):Int).toNat ((0:Nat):Int).toNat ((ep:Nat):Int).toNat >>= _) _ _ _)
  refine Aa ?_
  unfold setNext
  refine Aa (A6 g1 g2 hf (Aa (Fj ?_)))
  rw [if_neg (by rw [bt];exact AG)]
  refine GY (λz=>?_) λ_=>?_
  ·exfalso
   have z':(!t.plain&&decide (es.size > 1))=true:=z
   rw [s1] at z'
   simp at z'
  refine Aa (GY (λz=>?_) λ_=>?_)
  ·exfalso
   have z':(!t.led&&!es.isEmpty)=true:=z
   rw [led] at z'
   simp at z'
  refine Ac ?_
  have b0:=J8 (xs:=t.place) (by omega)
  have ee:es[0]? = some es[0]:=Aq (by omega)
  have pe:t.place[0]? = some t.place[0]:=Aq (by omega)
  have hm:(match es[SetTable.below t.place ((0:Nat):Int).toNat]?,t.place[SetTable.below t.place ((0:Nat):Int).toNat]? with|some (_,x),some j=>some (x,j+1)|_,_=>none)=some (es[0].2,t.place[0]+1):=by
   rw [show ((0:Nat):Int).toNat=0 from rfl,b0,ee,pe]
  refine (?_:wpAny _ _ (pure (match es[SetTable.below t.place ((0:Nat):Int).toNat]?,t.place[SetTable.below t.place ((0:Nat):Int).toNat]? with|some (_,x),some j=>some (x,j+1)|_,_=>none)) _ _ _)
  rw [hm]
  refine Ac ?_
  obtain ⟨o',e1,e2,e3⟩:=Fb (i:=0) (x:=rawInt ((t.place[0]+1:Nat):Int)) k1 k3
  refine Aa (Bj k1 k3 (by simp) ?_)
  obtain ⟨o2,f1,f2,f3⟩:=Fb (i:=1) (x:=rawInt (((0:Nat):Int)+1)) e1 e3
  refine Aa (Bj e1 e3 (by simp) (Ac ⟨_,rfl,q _ _ ?_ ?_ ((AA ..).trans (AA ..))⟩))
  ·unfold K0
   rw [Al,Ax,ee]
   rfl
  ·refine ⟨(SetAt.keep ⟨ob,g1,g2⟩ ne (AA ..)).keep ne (AA ..),o2,rawInt ((t.place[0]+1:Nat):Int),f1,(f2.trans e2).trans k2,f3,bt,pl,sz,led,?_⟩
   have:t.place.getD 0 0=t.place[0]:=by simp [Array.getD,ps]
   rw [this]
   rfl
end
noncomputable def rk:D->Nat
 | .int _=>0|.str _=>1|.tup _=>2|_=>3
noncomputable def Hm (i j:Nat):Ordering:=if i<j then .lt else if j<i then .gt else .eq
noncomputable def JE (i j:Int):Ordering:=if i<j then .lt else if j<i then .gt else .eq
noncomputable def G4 (x y:Str):Ordering:=if x.cps.toList<y.cps.toList then .lt else if y.cps.toList<x.cps.toList then .gt else .eq
noncomputable def oTh:Ordering->Ordering->Ordering
 | .eq,t=>t
 | .lt,_=>.lt
 | .gt,_=>.gt
mutual
noncomputable def Dn:D->D->Ordering
 | .int i,.int j=>JE i j
 | .str x,.str y=>G4 x y
 | .tup xs,.tup ys=>Gn xs ys
 | a,b=>Hm (rk a) (rk b)
noncomputable def Gn:List D->List D->Ordering
 | [],[]=>.eq
 | [],_::_=>.lt
 | _::_,[]=>.gt
 | x::xs,y::ys=>oTh (Dn x y) (Gn xs ys)
end
noncomputable def ltT (a b:D):Bool:=Dn a b==.lt
structure T3 (a b c:Ordering):Prop where
 e1:a=.eq->b=c
 e2:b=.eq->a=c
 e3:a=b->c=a
theorem Du (i j:Nat):Hm j i=(Hm i j).swap:=by
 unfold Hm
 rcases B1 i j with h|h|h
 ·rw [if_pos h,if_neg (by omega),if_pos h];rfl
 ·subst h;simp
 ·rw [if_pos h,if_neg (by omega),if_pos h];rfl
theorem Qs (i j:Int):JE j i=(JE i j).swap:=by
 unfold JE
 rcases Int.lt_trichotomy i j with h|h|h
 ·rw [if_pos h,if_neg (by omega),if_pos h];rfl
 ·subst h;simp
 ·rw [if_pos h,if_neg (by omega),if_pos h];rfl
theorem WB {x y:Str}:(x.cps.toList<y.cps.toList)->¬ (y.cps.toList<x.cps.toList):=λa b=>List.lt_asymm a b
theorem IX (i j:Str):G4 j i=(G4 i j).swap:=by
 unfold G4
 by_cases h:i.cps.toList<j.cps.toList
 ·rw [if_pos h,if_neg (WB h),if_pos h];rfl
 ·rw [if_neg h]
  by_cases h2:j.cps.toList<i.cps.toList
  ·rw [if_pos h2,if_neg h,if_pos h2];rfl
  ·rw [if_neg h2,if_neg h,if_neg h2];rfl
theorem VX {α:Type}(f:α->α->Ordering)(lt:α->α->Prop)(h1:∀ x y,lt x y->f x y=.lt∧f y x=.gt)(h0:∀ x,f x x=.eq)(tr:∀ x y z,lt x y->lt y z->lt x z)(tri:∀ x y,lt x y∨x=y∨lt y x)(a b c:α):T3 (f a b) (f b c) (f a c):=by
 rcases tri a b with h|rfl|h
 ·rcases tri b c with g|rfl|g
  ·rw [(h1 _ _ h).1,(h1 _ _ g).1,(h1 _ _ (tr _ _ _ h g)).1];exact ⟨λz=>(nomatch z),λ_=>rfl,λ_=>rfl⟩
  ·rw [(h1 _ _ h).1,h0];exact ⟨λz=>(nomatch z),λ_=>rfl,λ_=>rfl⟩
  ·rw [(h1 _ _ h).1,(h1 _ _ g).2];exact ⟨λz=>(nomatch z),λz=>(nomatch z),λz=>(nomatch z)⟩
 ·rw [h0];exact ⟨λ_=>rfl,λz=>z.symm,λz=>z.symm⟩
 ·rcases tri b c with g|rfl|g
  ·rw [(h1 _ _ h).2,(h1 _ _ g).1];exact ⟨λz=>(nomatch z),λz=>(nomatch z),λz=>(nomatch z)⟩
  ·rw [(h1 _ _ h).2,h0];exact ⟨λz=>(nomatch z),λ_=>rfl,λ_=>rfl⟩
  ·rw [(h1 _ _ h).2,(h1 _ _ g).2,(h1 _ _ (tr _ _ _ g h)).2];exact ⟨λz=>(nomatch z),λ_=>rfl,λ_=>rfl⟩
theorem Xj:∀ i j k:Nat,T3 (Hm i j) (Hm j k) (Hm i k):=
 VX Hm (·<·) (λx y h=>⟨if_pos h,by rw [Hm,if_neg (Nat.lt_asymm h),if_pos h]⟩) (λx=>by rw [Hm,if_neg (Be x),if_neg (Be x)]) (λ_ _ _=>Nat.lt_trans) B1
theorem WX:∀ i j k:Int,T3 (JE i j) (JE j k) (JE i k):=
 VX JE (·<·) (λx y h=>⟨if_pos h,by rw [JE,if_neg (Int.lt_asymm h),if_pos h]⟩) (λx=>by rw [JE,if_neg (Int.lt_irrefl x),if_neg (Int.lt_irrefl x)]) (λ_ _ _=>Int.lt_trans) Int.lt_trichotomy
theorem Il {i j:Str}:G4 i j=.eq ↔ i=j:=by
 unfold G4
 constructor
 ·intro h
  by_cases h1:i.cps.toList<j.cps.toList
  ·rw [if_pos h1] at h;cases h
  ·rw [if_neg h1] at h
   by_cases h2:j.cps.toList<i.cps.toList
   ·rw [if_pos h2] at h;cases h
   ·exact Vw (List.le_antisymm (Std.not_lt.mp h2) (Std.not_lt.mp h1))
 ·rintro rfl
  rw [if_neg (List.lt_irrefl _),if_neg (List.lt_irrefl _)]
theorem Ga {i j:Str}:G4 i j=.lt ↔ i.cps.toList<j.cps.toList:=by
 unfold G4
 by_cases h1:i.cps.toList<j.cps.toList
 ·simp [h1]
 ·rw [if_neg h1]
  by_cases h2:j.cps.toList<i.cps.toList
  ·simp [h2,h1]
  ·simp [h2,h1]
theorem JY {i j:Str}:G4 i j=.gt ↔ j.cps.toList<i.cps.toList:=by
 rw [← Ga,IX i j]
 cases G4 i j<;>simp
theorem Wo (i j k:Str):T3 (G4 i j) (G4 j k) (G4 i k):=by
 refine ⟨λh=>?_,λh=>?_,λh=>?_⟩
 ·rw [Il.mp h]
 ·rw [Il.mp h]
 ·cases c:G4 i j with
  | eq=>rw [Il.mp c];rw [c] at h;exact h.symm
  | lt=>rw [c] at h;exact Ga.mpr (List.lt_trans (Ga.mp c) (Ga.mp h.symm))
  | gt=>rw [c] at h;exact JY.mpr (List.lt_trans (JY.mp h.symm) (JY.mp c))
mutual
theorem cmp_swap:∀ (a b:D),Dn b a=(Dn a b).swap
 | .tup xs,.tup ys=>by unfold Dn;exact K7 xs ys
 | .int i,b=>by cases b<;>first|(unfold Dn;exact Qs _ _)|(simp only [Dn];exact Du _ _)
 | .str i,b=>by cases b<;>first|(unfold Dn;exact IX _ _)|(simp only [Dn];exact Du _ _)
 | .tup xs,.int _=>by simp only [Dn];exact Du _ _
 | .tup xs,.str _=>by simp only [Dn];exact Du _ _
 | .tup xs,.non=>by simp only [Dn];exact Du _ _
 | .tup xs,.bl _=>by simp only [Dn];exact Du _ _
 | .tup xs,.lst _=>by simp only [Dn];exact Du _ _
 | .tup xs,.dct _ _=>by simp only [Dn];exact Du _ _
 | .tup xs,.set _=>by simp only [Dn];exact Du _ _
 | .tup xs,.ref _=>by simp only [Dn];exact Du _ _
 | .non,b=>by cases b<;>(simp only [Dn];exact Du _ _)
 | .bl _,b=>by cases b<;>(simp only [Dn];exact Du _ _)
 | .lst _,b=>by cases b<;>(simp only [Dn];exact Du _ _)
 | .dct _ _,b=>by cases b<;>(simp only [Dn];exact Du _ _)
 | .set _,b=>by cases b<;>(simp only [Dn];exact Du _ _)
 | .ref _,b=>by cases b<;>(simp only [Dn];exact Du _ _)
theorem K7:∀ (xs ys:List D),Gn ys xs=(Gn xs ys).swap
 | [],[]=>rfl
 | [],_::_=>rfl
 | _::_,[]=>rfl
 | x::xs,y::ys=>by
  unfold Gn
  rw [cmp_swap x y]
  cases Dn x y with
  | eq=>exact K7 xs ys
  | lt=>rfl
  | gt=>rfl
end
theorem NL {a b:D}(h:rk a≠rk b):Dn a b=Hm (rk a) (rk b):=by
 cases a<;>cases b<;>first|(simp only [Dn];done)|(exact absurd rfl h)
theorem Wd {a b:D}(h:Dn a b=.eq):rk a=rk b:=by
 refine BQ λz=>?_
 rw [NL z] at h
 unfold Hm at h
 repeat' split at h
 all_goals first|(cases h;done)|omega
theorem T3.then' {h1 h2 h3 t1 t2 t3:Ordering}(h:T3 h1 h2 h3)(t:T3 t1 t2 t3):T3 (oTh h1 t1) (oTh h2 t2) (oTh h3 t3):=by
 obtain ⟨a,b,c⟩:=h
 cases h1 with
 | eq =>
  cases a rfl
  cases h2 with
  | eq=>exact t
  | lt=>exact (show T3 t1 .lt .lt from ⟨λ_=>rfl,λz=>(nomatch z),λz=>z.symm⟩)
  | gt=>exact (show T3 t1 .gt .gt from ⟨λ_=>rfl,λz=>(nomatch z),λz=>z.symm⟩)
 | lt =>
  cases h2 with
  | eq=>cases b rfl;exact (show T3 .lt t2 .lt from ⟨λz=>(nomatch z),λ_=>rfl,λ_=>rfl⟩)
  | lt=>cases c rfl;exact (show T3 .lt .lt .lt from ⟨λz=>(nomatch z),λ_=>rfl,λ_=>rfl⟩)
  | gt=>exact (show T3 .lt .gt _ from ⟨λz=>(nomatch z),λz=>(nomatch z),λz=>(nomatch z)⟩)
 | gt =>
  cases h2 with
  | eq=>cases b rfl;exact (show T3 .gt t2 .gt from ⟨λz=>(nomatch z),λ_=>rfl,λ_=>rfl⟩)
  | gt=>cases c rfl;exact (show T3 .gt .gt .gt from ⟨λz=>(nomatch z),λ_=>rfl,λ_=>rfl⟩)
  | lt=>exact (show T3 .gt .lt _ from ⟨λz=>(nomatch z),λz=>(nomatch z),λz=>(nomatch z)⟩)
theorem T3.of_rk {a b c:D}(h:¬ (rk a=rk b∧rk b=rk c)):T3 (Dn a b) (Dn b c) (Dn a c):=by
 have n3:=Xj (rk a) (rk b) (rk c)
 have sg:∀ x y:D,rk x≠rk y->Dn x y≠.eq:=λx y z e=>z (Wd e)
 have lt:∀ x y:D,rk x<rk y->Dn x y=.lt:=λx y z=>by rw [NL (by omega)];unfold Hm;rw [if_pos z]
 have gt:∀ x y:D,rk y<rk x->Dn x y=.gt:=λx y z=>by rw [NL (by omega)];unfold Hm;rw [if_neg (by omega),if_pos z]
 rcases B1 (rk a) (rk b) with h1|h1|h1<;>rcases B1 (rk b) (rk c) with h2|h2|h2
 ·rw [lt a b h1,lt b c h2,lt a c (by omega)];exact ⟨λz=>(nomatch z),λ_=>rfl,λ_=>rfl⟩
 ·rw [lt a b h1,lt a c (by omega)];exact ⟨λz=>(nomatch z),λ_=>rfl,λ_=>rfl⟩
 ·rw [lt a b h1,gt b c h2];exact ⟨λz=>(nomatch z),λz=>(nomatch z),λz=>(nomatch z)⟩
 ·rw [lt b c h2,lt a c (by omega)];exact ⟨λ_=>rfl,λz=>(nomatch z),λz=>z.symm⟩
 ·exact absurd ⟨h1,h2⟩ h
 ·rw [gt b c h2,gt a c (by omega)];exact ⟨λ_=>rfl,λz=>(nomatch z),λz=>z.symm⟩
 ·rw [gt a b h1,lt b c h2];exact ⟨λz=>(nomatch z),λz=>(nomatch z),λz=>(nomatch z)⟩
 ·rw [gt a b h1,gt a c (by omega)];exact ⟨λz=>(nomatch z),λ_=>rfl,λ_=>rfl⟩
 ·rw [gt a b h1,gt b c h2,gt a c (by omega)];exact ⟨λz=>(nomatch z),λ_=>rfl,λ_=>rfl⟩
theorem Ra {b:D}(h:0=rk b):∃ j,b=.int j:=by cases b<;>first|exact ⟨_,rfl⟩|cases h
theorem QU {b:D}(h:1=rk b):∃ j,b=.str j:=by cases b<;>first|exact ⟨_,rfl⟩|cases h
theorem Q4 {b:D}(h:2=rk b):∃ j,b=.tup j:=by cases b<;>first|exact ⟨_,rfl⟩|cases h
theorem Wf {a b:D}(ha:3=rk a)(hb:3=rk b):Dn a b=.eq:=by
 cases a<;>first|(cases ha;done)|(cases b<;>first|(cases hb;done)|rfl)
theorem T3.of_o {a b c:D}(h:3=rk a):T3 (Dn a b) (Dn b c) (Dn a c):=by
 by_cases e:rk a=rk b∧rk b=rk c
 ·have h2:=h.trans e.1
  rw [Wf h h2,Wf h2 (h2.trans e.2),Wf h (h2.trans e.2)]
  exact ⟨λ_=>rfl,λ_=>rfl,λ_=>rfl⟩
 ·exact .of_rk e
mutual
theorem VI:∀ (a b c:D),T3 (Dn a b) (Dn b c) (Dn a c)
 | .tup xs,b,c=>by
  by_cases e:rk (.tup xs)=rk b∧rk b=rk c
  ·obtain ⟨ys,rfl⟩:=Q4 e.1
   obtain ⟨zs,rfl⟩:=Q4 e.2
   unfold Dn
   exact Q2 xs ys zs
  ·exact .of_rk e
 | .int i,b,c=>by
  by_cases e:rk (.int i)=rk b∧rk b=rk c
  ·obtain ⟨j,rfl⟩:=Ra e.1
   obtain ⟨k,rfl⟩:=Ra e.2
   unfold Dn
   exact WX _ _ _
  ·exact .of_rk e
 | .str i,b,c=>by
  by_cases e:rk (.str i)=rk b∧rk b=rk c
  ·obtain ⟨j,rfl⟩:=QU e.1
   obtain ⟨k,rfl⟩:=QU e.2
   unfold Dn
   exact Wo _ _ _
  ·exact .of_rk e
 | .non,_,_=>.of_o rfl
 | .bl _,_,_=>.of_o rfl
 | .lst _,_,_=>.of_o rfl
 | .dct _ _,_,_=>.of_o rfl
 | .set _,_,_=>.of_o rfl
 | .ref _,_,_=>.of_o rfl
theorem Q2:∀ (xs ys zs:List D),T3 (Gn xs ys) (Gn ys zs) (Gn xs zs)
 | [],[],[]=>⟨λ_=>rfl,λ_=>rfl,λ_=>rfl⟩
 | [],[],_::_=>⟨λ_=>rfl,λz=>(nomatch z),λz=>(nomatch z)⟩
 | [],_::_,[]=>⟨λz=>(nomatch z),λz=>(nomatch z),λz=>(nomatch z)⟩
 | [],y::ys,z::zs=>⟨λz=>(nomatch z),λ_=>rfl,λ_=>rfl⟩
 | x::xs,[],[]=>⟨λz=>(nomatch z),λ_=>rfl,λz=>(nomatch z)⟩
 | x::xs,[],_::_=>⟨λz=>(nomatch z),λz=>(nomatch z),λz=>(nomatch z)⟩
 | x::xs,y::ys,[]=>⟨λ_=>rfl,λz=>(nomatch z),λz=>z.symm⟩
 | x::xs,y::ys,z::zs=>by
  unfold Gn
  exact (VI x y z).then' (Q2 xs ys zs)
end
theorem Ir (a b:D)(h:ltT a b=true):ltT b a=false:=by
 unfold ltT at *
 rw [cmp_swap a b]
 cases c:Dn a b<;>rw [c] at h<;>first|rfl|cases h
theorem N9 (a b c:D)(h1:ltT b a=false)(h2:ltT c b=false):ltT c a=false:=by
 unfold ltT at *
 have t:=VI c b a
 cases q:Dn c b with
 | eq=>rw [← t.e1 q];exact h1
 | lt=>rw [q] at h2;cases h2
 | gt =>
  cases q2:Dn b a with
  | eq=>rw [← t.e2 q2,q];rfl
  | lt=>rw [q2] at h1;cases h1
  | gt=>rw [t.e3 (q.trans q2.symm),q];rfl
mutual
noncomputable def FX:D->Bool
 | .int _=>true
 | .str _=>true
 | .tup ds=>Gp ds
 | _=>false
noncomputable def Gp:List D->Bool
 | []=>true
 | d::ds=>FX d&&Gp ds
end
mutual
theorem LU:∀ {d:D},FX d=true->hsh d=true
 | .int _,_=>rfl
 | .str _,_=>rfl
 | .tup ds,h=>by unfold FX at h;unfold hsh;exact M8 h
 | .non,h=>nomatch h
 | .bl _,h=>nomatch h
 | .lst _,h=>nomatch h
 | .dct _ _,h=>nomatch h
 | .set _,h=>nomatch h
 | .ref _,h=>nomatch h
theorem M8:∀ {ds:List D},Gp ds=true->F1 ds=true
 | [],_=>rfl
 | d::ds,h=>by
  unfold Gp at h
  rw [Ab] at h
  unfold F1
  rw [LU h.1,M8 h.2]
  rfl
end
mutual
theorem Oj:∀ (a b:D),FX a=true->FX b=true->Dn a b=.eq->a=b
 | .int i,b,_,hb,h=>by
  cases b<;>first|(cases hb;done)|(simp [Dn,Hm,rk] at h;done)|skip
  rename_i j
  unfold Dn JE at h
  repeat' split at h
  all_goals first|(cases h;done)|(congr 1;omega)
 | .str i,b,_,hb,h=>by
  cases b<;>first|(cases hb;done)|(simp [Dn,Hm,rk] at h;done)|skip
  unfold Dn at h
  rw [Il.mp h]
 | .tup xs,b,ha,hb,h=>by
  cases b<;>first|(cases hb;done)|(simp [Dn,Hm,rk] at h;done)|skip
  unfold Dn at h
  unfold FX at ha hb
  congr 1
  exact OK xs _ ha hb h
 | .non,_,h,_,_=>nomatch h
 | .bl _,_,h,_,_=>nomatch h
 | .lst _,_,h,_,_=>nomatch h
 | .dct _ _,_,h,_,_=>nomatch h
 | .set _,_,h,_,_=>nomatch h
 | .ref _,_,h,_,_=>nomatch h
theorem OK:∀ (xs ys:List D),Gp xs=true->Gp ys=true->Gn xs ys=.eq->xs=ys
 | [],[],_,_,_=>rfl
 | [],_::_,_,_,h=>by cases h
 | _::_,[],_,_,h=>by cases h
 | x::xs,y::ys,ha,hb,h=>by
  unfold Gp at ha hb
  rw [Ab] at ha hb
  unfold Gn at h
  cases c:Dn x y<;>rw [c] at h<;>first|(cases h;done)|skip
  rw [Oj x y ha.1 hb.1 c,OK xs ys ha.2 hb.2 h]
end
theorem lt_eq (a b:D)(ha:FX a=true)(hb:FX b=true)(h1:ltT a b=false)(h2:ltT b a=false):a=b:=by
 refine Oj a b ha hb ?_
 unfold ltT at h1 h2
 rw [cmp_swap a b] at h2
 cases c:Dn a b with
 | eq=>rfl
 | lt=>rw [c] at h1;cases h1
 | gt=>rw [c] at h2;cases h2
theorem RP (a:D):Dn a a=.eq:=by
 have:=cmp_swap a a
 cases c:Dn a a<;>rw [c] at this<;>first|rfl|cases this
mutual
theorem Rz:∀ (a b:D) (r:Bool),FX a=true->FX b=true->ltB a b=some r->r=(Dn a b==.lt)
 | .int i,b,r,_,hb,h=>by
  cases b<;>first|(cases hb;done)|(unfold ltB at h;cases h;done)|skip
  rename_i j
  unfold ltB at h
  cases h
  unfold Dn JE
  by_cases c:i<j
  ·simp [c]
  ·rw [A3 c,if_neg c];split<;>rfl
 | .str i,b,r,_,hb,h=>by
  cases b<;>first|(cases hb;done)|(unfold ltB at h;cases h;done)|skip
  rename_i j
  unfold ltB at h
  cases h
  unfold Dn
  by_cases c:i.cps.toList<j.cps.toList
  ·rw [Bv c,Ga.mpr c];rfl
  ·rw [A3 c]
   have:G4 i j≠.lt:=λz=>c (Ga.mp z)
   cases e:G4 i j<;>first|rfl|exact absurd e this
 | .tup xs,b,r,ha,hb,h=>by
  cases b<;>first|(cases hb;done)|(unfold ltB at h;cases h;done)|skip
  unfold ltB at h
  unfold Dn
  unfold FX at ha hb
  exact To xs _ r ha hb h
 | .non,_,_,h,_,_=>nomatch h
 | .bl _,_,_,h,_,_=>nomatch h
 | .lst _,_,_,h,_,_=>nomatch h
 | .dct _ _,_,_,h,_,_=>nomatch h
 | .set _,_,_,h,_,_=>nomatch h
 | .ref _,_,_,h,_,_=>nomatch h
theorem To:∀ (xs ys:List D) (r:Bool),Gp xs=true->Gp ys=true->Gr xs ys=some r->r=(Gn xs ys==.lt)
 | [],[],r,_,_,h=>by unfold Gr at h;cases h;rfl
 | [],_::_,r,_,_,h=>by unfold Gr at h;cases h;rfl
 | _::_,[],r,_,_,h=>by unfold Gr at h;cases h;rfl
 | x::xs,y::ys,r,ha,hb,h=>by
  unfold Gp at ha hb
  rw [Ab] at ha hb
  unfold Gr at h
  split at h
  ·rw [GX (LU ha.1) (LU hb.1)] at h
   unfold Gn
   by_cases c:x=y
   ·rw [Bv c] at h
    subst c
    rw [RP]
    exact To xs ys r ha.2 hb.2 (by simpa using h)
   ·rw [A3 c] at h
    have e:=Rz x y r ha.1 hb.1 (by simpa using h)
    rw [e]
    cases q:Dn x y with
    | eq=>exact absurd (Oj x y ha.1 hb.1 q) c
    | lt=>rfl
    | gt=>rfl
  ·cases h
end
noncomputable def leT (a b:D):Bool:=!ltT b a
noncomputable def Ep (es:List D):List D:=es.mergeSort leT
theorem Qf (a b c:D)(h1:leT a b=true)(h2:leT b c=true):leT a c=true:=by
 unfold leT at *
 simp at h1 h2 ⊢
 exact N9 a b c h1 h2
theorem PX (a b:D):(leT a b||leT b a)=true:=by
 unfold leT
 cases c:ltT b a with
 | false=>rfl
 | true=>simp [Ir b a c]
theorem Dv (es:List D):(Ep es).Perm es:=List.mergeSort_perm es leT
theorem IC (es:List D):(Ep es).Pairwise λa b=>leT a b=true:=List.pairwise_mergeSort Qf PX es
theorem HV {es rs:List D}(ho:∀ d∈es,FX d=true)(hp:rs.Perm es)(hs:rs.Pairwise λa b=>leT a b=true):rs=Ep es:=by
 have hp2:=hp.trans (Dv es).symm
 refine List.Perm.eq_of_pairwise (λa b ha hb h1 h2=>?_) hs (IC es) hp2
 unfold leT at h1 h2
 simp at h1 h2
 exact lt_eq a b (ho a (hp.mem_iff.mp ha)) (ho b ((Dv es).mem_iff.mp hb)) h2 h1
theorem Lh {es fs:List D}(ho:∀ d∈es,FX d=true)(hp:fs.Perm es):Ep fs=Ep es:=HV ho ((Dv fs).trans hp) (IC fs)
section
variable {prog:Program} {w:World} {A:Around} {E:Value->Shared->Prop} {s:Shared}
theorem Qt {S I:Addr}{es:Array (Int×Value)}{ep:Nat}{t:SetTable}{md:Md}{Q:PySem.Fin->Shared->Prop}(hh:A.handled=none)(hf:t.fits es.size=true)(g:SIt w S I es ep t md es.size s.heap)
  (q:∀ h' e,(∀ c o,c≠I->s.heap.get? c=some o->h'.get? c=some o)->(∃ o,h'.get? e=some o∧o.cls=.type "StopIteration")->E (.ref e) { s with heap:=h' }) :
  wpAny (model prog w) A (Builtin.«set_iterator.__next__» ⟨[.ref I],[]⟩) Q E s:=by
 obtain ⟨⟨ob,g1,g2⟩,o,v,k1,k2,k3,k4⟩:=id g
 have upd:∀ (h:Heap) f c o',c≠I->h.get? c=some o'->(h.update I f).get? c=some o':=λh f c o' hc e=>((AA ..).2 c hc).trans e
 refine (?_:wpAny _ _ (fieldsOf (.ref I) >>= _) _ _ _)
 refine Aa (wpAny_fieldsOf k1 k3 (?_:wpAny _ _ (setEntries S >>= _) _ _ _))
 refine Aa (wpAny_setEntries_of g1 g2 hf ?_)
 rw [if_neg (by simp)]
 cases md with
 | drw TI pl =>
  obtain ⟨rfl,⟨tb,b1,b2,n,b3⟩,c1,c2⟩:=k4
  refine (?_:wpAny _ _ (seqItems? (.ref TI) >>= _) _ _ _)
  refine Aa (Bz b1 b3 ?_)
  have ei:(pl.map λp:Nat=>rawInt p).toArray[((es.size:Nat):Int).toNat]? = none:=by simp [c1]
  dsimp only
  rw [ei]
  obtain ⟨o',e1,e2,e3⟩:=Fb (i:=0) (x:=rawInt 0) k1 k3
  refine Aa (Bj k1 k3 (by simp) (Aa (Bj e1 e3 (by simp) ?_)))
  exact FK (I:=I) hh λh' e a b=>q h' e (λc o hc z=>a c o (upd _ _ c o hc (upd _ _ c o hc z))) b
 | txt =>
  obtain ⟨bt,c,rfl⟩:=k4
  refine (?_:wpAny _ _ (setNext S ((c:Nat):Int).toNat ((es.size:Nat):Int).toNat ((ep:Nat):Int).toNat >>= _) _ _ _)
  refine Aa ?_
  unfold setNext
  refine Aa (A6 g1 g2 hf (Aa (Fj ?_)))
  rw [if_pos bt]
  rw [Int.toNat_natCast,Int.toNat_natCast,Int.toNat_natCast]
  dsimp only
  rw [if_neg (by simp)]
  refine Aa ?_
  unfold setWalk
  refine Aa (A6 g1 g2 hf (Aa (Fj ?_)))
  rw [if_pos bt]
  refine Aa (wpAny_askSetting (Ac (Ac ?_)))
  have hl:(pickOrder (w.params.setOrder S ep) es).size=es.size:=by
   have:=(FV (w.params.setOrder S ep) es).length_eq
   simpa using this
  have ex':Option.map (λe:Int×Value=>(e.2,c)) (pickOrder ((⟨prog,w.params⟩:Setting).params.setOrder S ep) es)[es.size]? = none:=by
   rw [Bk (by rw [show (⟨prog,w.params⟩:Setting).params.setOrder S ep=w.params.setOrder S ep from rfl,hl];exact Ai _)];rfl
  refine (?_:wpAny _ _ (match Option.map (λe:Int×Value=>(e.2,c)) (pickOrder ((⟨prog,w.params⟩:Setting).params.setOrder S ep) es)[es.size]? with|some (x,next)=>_|none=>_) _ _ _)
  rw [ex']
  refine Aa (Bj k1 k3 (by simp) ?_)
  exact FK (I:=I) hh λh' e a b=>q h' e (λc o hc z=>a c o (upd _ _ c o hc z)) b
 | one =>
  obtain ⟨bt,pl,sz,led,rfl⟩:=k4
  refine (?_:wpAny _ _ (setNext S ((if es.size=0 then 0 else (t.place.getD 0 0+1):Nat):Int).toNat ((es.size:Nat):Int).toNat ((ep:Nat):Int).toNat >>= _) _ _ _)
  refine Aa ?_
  unfold setNext
  refine Aa (A6 g1 g2 hf (Aa (Fj ?_)))
  rw [if_neg (by rw [bt];exact AG)]
  refine GY (λz=>?_) λ_=>?_
  ·exfalso
   have z':(!t.plain&&decide (es.size > 1))=true:=z
   simp at z'
   omega
  refine Aa (GY (λz=>?_) λ_=>?_)
  ·exfalso
   have z':(!t.led&&!es.isEmpty)=true:=z
   rw [led] at z'
   simp at z'
  refine Ac ?_
  have ps:t.place.size=es.size:=by
   simp only [SetTable.fits,Ab,beq_iff_eq,Af] at hf
   exact hf.1
  have bl:SetTable.below t.place (if es.size=0 then 0 else (t.place.getD 0 0+1))=es.size:=by
   by_cases c:es.size=0
   ·rw [if_pos c,J8 (by omega),c]
   ·rw [if_neg c,Oa (by omega)];omega
  have en:es[es.size]? = none:=Bk (Ai _)
  have hm:(match es[SetTable.below t.place ((if es.size=0 then 0 else (t.place.getD 0 0+1):Nat):Int).toNat]?,t.place[SetTable.below t.place ((if es.size=0 then 0 else (t.place.getD 0 0+1):Nat):Int).toNat]? with|some (_,x),some j=>some (x,j+1)|_,_=>none)=none:=by
   rw [Int.toNat_natCast,bl,en]
  refine (?_:wpAny _ _ (pure (match es[SetTable.below t.place ((if es.size=0 then 0 else (t.place.getD 0 0+1):Nat):Int).toNat]?,t.place[SetTable.below t.place ((if es.size=0 then 0 else (t.place.getD 0 0+1):Nat):Int).toNat]? with|some (_,x),some j=>some (x,j+1)|_,_=>none)) _ _ _)
  rw [hm]
  refine Ac (Aa (Bj k1 k3 (by simp) ?_))
  exact FK (I:=I) hh λh' e a b=>q h' e (λc o hc z=>a c o (upd _ _ c o hc z)) b
theorem SIt.ty {S I:Addr}{es:Array (Int×Value)}{ep:Nat}{t:SetTable}{md:Md}{i:Nat}(g:SIt w S I es ep t md i s.heap):s.TypeIs (.ref I) "set_iterator":=let ⟨_,o,v,k1,k2,_⟩:=g;⟨o,k1,k2⟩
noncomputable def Md.fp (S I:Addr):Md->List Addr
 | .drw TI _=>[I,S,TI]
 | _=>[I,S]
theorem JC:entryFor table "set_iterator.__iter__"=some Builtin.«dict_keyiterator.__iter__»:=
 entryFor_alias (id':="dict_keyiterator.__iter__") (by kernel_rfl) rfl (by decide +kernel) (by kernel_rfl)
theorem Kp (a:Value):argsOk "set_iterator.__iter__" ⟨[a],[]⟩:=by
 unfold argsOk;rw [signature?_of (id:="set_iterator.__iter__") (n:=['_','_','r','e','t','i','_','_']) (o:=['r','o','t','a','r','e','t','i','_','t','e','s']) (by kernel_rfl) Ke];kernel_rfl
theorem K8 (hh:A.handled=none){S I:Addr}{es:Array (Int×Value)}{ep:Nat}{t:SetTable}{md:Md}(hf:t.fits es.size=true)(ne:S≠I)(ap:md.apart I) :
  Walks prog w A I (md.fp S I) [I] es.size (λi v=>(K0 w S es ep md)[i]? = some v) (λi h=>SIt w S I es ep t md i h) where
 sub:=λb hb=>by rw [Aw.mp hb];cases md<;>simp [Md.fp]
 frame:=λ_ h h' st hk=>by
  obtain ⟨⟨ob,g1,g2⟩,o,v,k1,k2,k3,k4⟩:=st
  refine ⟨⟨ob,hk S (by cases md<;>simp [Md.fp]) _ g1,g2⟩,o,v,hk I (by cases md<;>simp [Md.fp]) _ k1,k2,k3,?_⟩
  cases md with
  | drw TI pl=>obtain ⟨a,⟨tb,b1,b2⟩,c⟩:=k4;exact ⟨a,⟨tb,hk TI (by simp [Md.fp]) _ b1,b2⟩,c⟩
  | txt=>exact k4
  | one=>exact k4
 item:=λ_ s Q E hi st hQ=>by
  unfold pyNext
  exact Aa (wpAny_attempt (AM (name:=Str.ofString "__next__") st.ty D1 (AO D1 st.ty G0 (Qv hf ne ap st hi λv h' e g' sb=>Ac (hQ v h' s.toks e g' λb o hb z=>(sb.2 b (by simpa using hb)).trans z)) (Hf _))))
 done:=λs Q E st hQ=>by
  unfold pyNext
  refine Aa (wpAny_attempt (AM (name:=Str.ofString "__next__") st.ty D1 (AO D1 st.ty G0 (Qt hh hf st λh' e a b=>?_) (Hf _))))
  obtain ⟨o,ho,hc⟩:=b
  exact Aa (B7 (T:="StopIteration") (b:=true) ⟨o,ho,hc⟩ isSubtype_stop (Ac (hQ h' s.toks λb o hb z=>a b o (by simpa using hb) z)))
 self:=λi s Q E st hQ=>by
  refine wpAny_pyIter_slot st.ty G7 (AO G7 st.ty JC ?_ (Kp _))
  refine (?_:wpAny _ _ (ret (.ref I)) _ _ s)
  exact Ac ⟨_,rfl,"set_iterator",_,st.ty,D1.lookup,hQ⟩
theorem Kv:entryFor table "set.__iter__"=some Builtin.«frozenset.__iter__»:=
 entryFor_alias (id':="frozenset.__iter__") (by kernel_rfl) (by decide +kernel) (by decide +kernel) (by kernel_rfl)
theorem Ot {S:Addr}{ob:Obj}{es:Array (Int×Value)}{ep:Nat}{t:SetTable}{Q:Value->Shared->Prop}(hz:es.size≤sizeLine)(g1:s.heap.get? S=some ob)(gc:ob.cls=.type "set")(g2:ob.data=.set es ep t)(hf:t.fits es.size=true)(hw:Dm w=true∨t.led=true∧(t.plain=false∨es.size≤1))
  (q:∀ I h' d' md,s.heap.objs.size≤I->SIt w S I es ep t md 0 h'->md.apart I->(∀ b o,s.heap.get? b=some o->h'.get? b=some o)->(K0 w S es ep md).Perm (es.toList.map (·.2))->(∀ b∈md.fp S I,b<h'.objs.size)->Q (.ref I) { s with heap:=h',drawn:=d' }):wpAny (model prog w) A (pyIter (.ref S)) Q E s:=by
 have ty:s.TypeIs (.ref S) "set":=⟨ob,g1,gc⟩
 refine wpAny_pyIter_slot ty F.slot_set_iter (AO F.slot_set_iter ty Kv ?_ (F.args_set_iter_1 _))
 refine (?_:wpAny _ _ (Builtin.Frozenset.sizeOf S >>= _) _ _ s)
 refine Aa (Aa (wpAny_setEntries_of g1 g2 hf (Ac ?_)))
 have lt:S<s.heap.objs.size:=Ao g1
 have fin:∀ (h1:Heap) d1 (md:Md) (v:Value),(∀ b o,s.heap.get? b=some o->h1.get? b=some o)->s.heap.objs.size≤h1.objs.size->Fst w es t h1 0 v md->(∀ TI pl,md=.drw TI pl->TI<h1.objs.size)->(K0 w S es ep md).Perm (es.toList.map (·.2)) ->
   wpAny (model prog w) A.in1 (setEpoch S >>= λe=>newFields "set_iterator" [v,rawInt 0,.ref S,rawInt es.size,rawInt e] >>= λr=>ret r) (λfin s'=>∃ v,fin=.done (.ret v)∧∃ T' r,s'.TypeIs v T'∧typeLookup (.type T') "__next__"=pure (some r)∧Q v s') E { s with heap:=h1,drawn:=d1 }:=λh1 d1 md v hk hsz hF hTI hp=>by
  refine Aa (wpAny_setEpoch_of (s:={ s with heap:=h1,drawn:=d1 }) (hk _ _ g1) g2 hf (Aa ?_))
  unfold newFields
  refine AU (Ac ⟨_,rfl,"set_iterator",_,⟨_,Aj _ rfl,rfl⟩,D1.lookup,?_⟩) (by size_fits)
  refine q h1.objs.size _ d1 md hsz ⟨⟨ob,Ad _ (hk _ _ g1),g2⟩,_,v,Aj _ rfl,rfl,rfl,?_⟩ ?_ (λb o e=>Ad _ (hk b o e)) hp ?_
  ·cases md with
   | drw TI pl=>obtain ⟨a,⟨tb,b1,b2⟩,c⟩:=hF;exact ⟨a,⟨tb,Ad _ b1,b2⟩,c⟩
   | txt=>exact hF
   | one=>exact hF
  ·cases md with
   | drw TI pl=>exact Ay (hTI TI pl rfl)
   | txt=>exact True.intro
   | one=>exact True.intro
  ·intro b hb
   rw [A9]
   have lS:=A5 (AF lt hsz)
   cases md with
   | drw TI pl =>
    have:=hTI TI pl rfl
    simp only [Md.fp,Am,AJ,BG] at hb
    rcases hb with rfl|rfl|rfl
    ·exact A1 _
    ·exact lS
    ·exact A5 this
   | txt =>
    simp only [Md.fp,Am,AJ,BG] at hb
    rcases hb with rfl|rfl
    ·exact A1 _
    ·exact lS
   | one =>
    simp only [Md.fp,Am,AJ,BG] at hb
    rcases hb with rfl|rfl
    ·exact A1 _
    ·exact lS
 refine (?_:wpAny _ _ (setDrawn S >>= _) _ _ s)
 refine Aa ?_
 unfold setDrawn
 refine Aa (A6 g1 g2 hf (Aa (Fj (Ac ?_))))
 refine GY (λc=>?_) λc=>?_
 ·have c':(!Dm w&&(!t.plain&&decide (es.size > 1)))=true:=c
  refine Aa (MY es.size (List.range es.size) (by simp) λys d' p=>?_)
  unfold newTuple
  refine Aa (AU ?_ (by
   show ((ys.map λi:Nat=>rawInt i).toArray).size≤sizeLine
   rw [An,Ag,p.length_eq,Bx];exact hz))
  have sz:(s.heap.push { cls:=.type "tuple",data:=.seq (ys.map λi:Nat=>rawInt i).toArray }).objs.size=s.heap.objs.size+1:=A9 ..
  refine fin _ d' (.drw s.heap.objs.size ys) _ (λb o e=>Ad _ e) (by rw [sz];omega) ⟨rfl,⟨_,Aj _ rfl,rfl,_,rfl⟩,by rw [p.length_eq,Bx],λx hx=>AX.mp (p.mem_iff.mp hx)⟩ (λTI pl e=>by cases e;rw [sz];exact A1 _) ?_
  unfold K0
  have e1:(List.range es.size).map (λp=>(es.getD p (0,.none)).2)=es.toList.map (·.2):=by
   refine BV λi=>?_
   rw [Al,Al,Ax]
   by_cases hi:i<es.size
   ·simp [hi,Array.getD]
   ·simp [hi]
  rw [← e1]
  exact p.map _
 ·have c':¬ (!Dm w&&(!t.plain&&decide (es.size > 1)))=true:=c
  by_cases bt:Dm w=true
  ·refine fin s.heap s.drawn .txt (rawInt 0) (λ_ _ e=>e) (Ai _) ⟨bt,0,rfl⟩ (λTI pl e=>nomatch e) ?_
   exact (FV _ es).map _
  ·have bf:Dm w=false:=by simpa using bt
   have hw':=hw.resolve_left bt
   have sz:es.size≤1:=by
    rw [bf] at c'
    rcases hw'.2 with z|z
    ·rw [z] at c';simp at c';omega
    ·exact z
   exact fin s.heap s.drawn .one (rawInt 0) (λ_ _ e=>e) (Ai _) ⟨bf,hw'.2,sz,hw'.1,rfl⟩ (λTI pl e=>nomatch e) (BW _)
theorem N2 {S:Addr}{ob:Obj}{es:Array (Int×Value)}{ep:Nat}{t:SetTable}{Q:List Value->Shared->Prop}(hh:A.handled=none)(hz:es.size≤sizeLine)(g1:s.heap.get? S=some ob)(gc:ob.cls=.type "set")(g2:ob.data=.set es ep t)(hf:t.fits es.size=true)(hw:Dm w=true∨t.led=true∧(t.plain=false∨es.size≤1))
  (q:∀ zs h' tk d',zs.Perm (es.toList.map (·.2))->(∀ b o,s.heap.get? b=some o->h'.get? b=some o)->Q zs { s with heap:=h',toks:=tk,drawn:=d' }):wpAny (model prog w) A (collect (.ref S)) Q E s:=by
 have lt:S<s.heap.objs.size:=Ao g1
 have nS:s.heap.objs.size≠S:=Nat.ne_of_gt lt
 unfold collect
 refine Aa (wpAny_runValue (Bg F.entry_proto_collect ?_))
 rw [Bc F.plain_proto_collect _]
 refine (?_:wpAny _ A.in1 (newList [] >>= λl=>again (.builtin "list.__iadd__" ⟨[l,.ref S],[]⟩)) _ _ s)
 refine Aa (AU (Ac ⟨plainId_quiet F.plain_list_iadd _,Bg F.entry_list_iadd ?_⟩))
 rw [Bc F.plain_list_iadd _]
 refine (?_:wpAny _ A.in1 (Builtin.List.listExtendWith (.ref s.heap.objs.size) (.ref S) (.ref s.heap.objs.size)) _ _ _)
 (unfold Builtin.List.listExtendWith)
 have gS:(s.heap.push { cls:=.type "list",data:=.seq ([]:List Value).toArray }).get? S=some ob:=Ad _ g1
 have gL:(s.heap.push { cls:=.type "list",data:=.seq ([]:List Value).toArray }).get? s.heap.objs.size=some { cls:=.type "list",data:=.seq ([]:List Value).toArray }:=Aj _ rfl
 generalize hP:s.heap.push { cls:=.type "list",data:=.seq ([]:List Value).toArray }=h1 at gS gL ⊢
 have k1:∀ b o,s.heap.get? b=some o->h1.get? b=some o:=λb o e=>by rw [← hP];exact Ad _ e
 have sz1:h1.objs.size=s.heap.objs.size+1:=by rw [← hP];exact A9 ..
 have ty:Shared.TypeIs { s with heap:=h1 } (.ref S) "set":=⟨ob,gS,gc⟩
 refine Aa (BY ty ?_)
 have e1:Builtin.List.listSameRef (.ref s.heap.objs.size) (.ref S)=false:=by simp [Builtin.List.listSameRef,nS]
 have e2:(Value.type "set"==Value.type "list")=false:=by decide
 have e3:(Value.type "set"==Value.type "tuple")=false:=by decide
 simp only [e1,e2,e3,Bool.or_false,Av,A0]
 refine Aa (Ot (s:={ s with heap:=h1 }) hz gS gc g2 hf hw λI h2 d2 md hI st ap k2 pm fpl=>?_)
 refine Aa (AI ?_)
 have ty2:Shared.TypeIs { s with heap:=h2,drawn:=d2 } (.ref S) "set":=⟨ob,k2 _ _ gS,gc⟩
 (unfold Builtin.List.listLengthHint)
 refine Aa (wpAny_specialOf ty2 F.slot_set_len.lookup ?_)
 refine (?_:wpAny _ A.in1 (isInstance (Value.ref S) (.type "set") >>= _) _ _ _)
 refine Aa (B7 ty2 sub_set_self ?_)
 refine (?_:wpAny _ A.in1 (typeOf (Value.ref S) >>= _) _ _ _)
 refine Aa (BY ty2 (Ac ?_))
 refine (?_:wpAny _ A.in1 (rule "list.extend.makes-room" >>= λ_=>Builtin.List.listTouch (.ref s.heap.objs.size) >>= λ_=>again (.builtin "list.extend.loop" ⟨[.ref s.heap.objs.size,.ref I,.ref s.heap.objs.size],[]⟩)) _ _ _)
 refine Aa (BS (Aa ?_))
 refine (?_:wpAny _ A.in1 (updateSeq s.heap.objs.size (·.push .none) >>= λ_=>updateSeq s.heap.objs.size (·.pop)) _ _ _)
 have gL2:=k2 _ _ gL
 refine Aa (Ce gL2 rfl ?_)
 have gL3:=AS (Obj.mapSeq (·.push Value.none)) gL2 rfl
 refine Ce gL3 rfl ?_
 have gL4:=AS (Obj.mapSeq (·.pop)) gL3 rfl
 have nL:s.heap.objs.size∉md.fp S I:=by
  have nI:s.heap.objs.size≠I:=λe=>by
   have:s.heap.objs.size+1≤I:=by rw [← sz1];exact hI
   rw [← e] at this
   exact absurd this (Nat.not_succ_le_self _)
  cases md with
  | drw TI pl =>
   obtain ⟨_,o,v,_,_,_,_,⟨tb,b1,b2,_⟩,_⟩:=st
   have nT:s.heap.objs.size≠TI:=λe=>by
    rw [← e,gL2] at b1
    cases b1
    exact absurd b2 (by decide)
   simp only [Md.fp,Am,AJ,BG,not_or]
   exact ⟨nI,nS,nT⟩
  | txt=>simp only [Md.fp,Am,AJ,BG,not_or];exact ⟨nI,nS⟩
  | one=>simp only [Md.fp,Am,AJ,BG,not_or];exact ⟨nI,nS⟩
 have oth:∀ b o,b≠s.heap.objs.size->h2.get? b=some o->((h2.update s.heap.objs.size (Obj.mapSeq (·.push Value.none))).update s.heap.objs.size (Obj.mapSeq (·.pop))).get? b=some o:=
  λb o hb e=>(By _ _ (Ne.symm hb)).trans ((By _ _ (Ne.symm hb)).trans e)
 have nSI:S≠I:=λe=>by
  have a:s.heap.objs.size+1≤I:=by rw [← sz1];exact hI
  rw [← e] at a
  exact absurd (AF lt (AQ (Nat.le_succ _) a)) (Be _)
 have W:=(K8 (prog:=prog) (A:=A.in1) (w:=w) (ep:=ep) hh hf nSI ap).toS
 refine Ac ⟨plainId_quiet F.plain_extend_loop _,codeAny_extend_loopS (A:=A) W hz _ nL _ es.size 0 _ _ _ rfl (AZ _) ?_ gL4 (ItemsOf.nil _) λs' acc' c' hm hS' hacc=>?_⟩
 ·exact (K8 (prog:=prog) (A:=A.in1) (w:=w) (ep:=ep) hh hf nSI ap).frame 0 _ _ st λb hb o e=>oth b o (λz=>nL (z▸hb)) e
 refine (?_:wpAny _ A (load s.heap.objs.size >>= _) _ _ s')
 refine Aa (wpAny_load hS' ?_)
 obtain ⟨zh,zg,zd,zt,zo⟩:=s'
 have e4:zg=s.gens:=hm.gens
 have e5:zd=d2:=hm.drawn
 have e6:zo=s.os:=hm.os
 subst e4 e5 e6
 refine Ac (q acc'.toList zh zt zd ?_ λb o e=>?_)
 ·have ln:(K0 w S es ep md).length=es.size:=by rw [pm.length_eq];simp
  have:acc'.toList=K0 w S es ep md:=by
   refine BV λi=>?_
   by_cases hi:i<es.size
   ·have hi':i<acc'.size:=by rw [hacc.1];exact hi
    rw [Ax,Aq hi']
    exact (hacc.2 i _ (Aq hi')).symm
   ·rw [Ax,Bk (by rw [hacc.1];omega),A7 (by rw [ln];omega)]
  rw [this]
  exact pm
 ·have bl:=Ao e
  refine hm.heap b o ?_ (oth b o (Ay bl) (k2 _ _ (k1 _ _ e)))
  simp only [Am,AJ,BG,not_or]
  refine ⟨Ay bl,λz=>?_⟩
  have a:s.heap.objs.size+1≤I:=by rw [← sz1];exact hI
  rw [← z] at a
  exact absurd (AF bl (AQ (Nat.le_succ _) a)) (Be _)
noncomputable def Ig (prog:Program)(w:World)(A:Around)(zs out:List Value)(s:Shared):Prop:=∀ (h1:Heap) (a:Addr) (P:PySem.Fin->Shared->Prop) (E':Value->Shared->Prop),(∀ b o,s.heap.get? b=some o->h1.get? b=some o)->s.heap.get? a=none->h1.get? a=some (seqObj "list" zs.toArray 0) ->
 P (.done (.ret .none)) { s with heap:=sortedHeap h1 a zs out.toArray }->wpAny (model prog w) A (Builtin.«list.sort» ⟨[.ref a],[]⟩) P E' { s with heap:=h1 }
theorem Lw {x:Value}{Q:Value->Shared->Prop}(hcol:wpAny (model prog w) A.in1 (collect x) (λzs s1=>zs.length≤sizeLine∧∃ out,Ig prog w A.in1.in1 zs out s1∧∀ h' e a,(∀ b o,s1.heap.get? b=some o->h'.get? b=some o)->s1.heap.objs.size≤a->h'.get? a=some (seqObj "list" out.toArray e)->Q (.ref a) { s1 with heap:=h' }) E s) :
  wpAny (model prog w) A (call (.builtin "sorted") [x]) Q E s:=by
 (refine Calls.call_function_entry kind_sorted plain_sorted entry_sorted (args_sorted1 _) ?_)
 unfold Builtin.«sorted»
 refine Aa (m:=checkCount "sorted" 1 1 _) (Ac (Aa (wpAny_mono hcol (λzs s1 hq=>?_) λ_ _ z=>z)))
 obtain ⟨hz,out,hs,q⟩:=hq
 refine Aa (wpAny_newList ?_ hz)
 have g1:(s1.heap.push (seqObj "list" zs.toArray 0)).get? s1.heap.objs.size=some (seqObj "list" zs.toArray 0):=Aj _ rfl
 have fr:s1.heap.get? s1.heap.objs.size=none:=Heap.get?_none_of_le (Ai _)
 refine Aa (AI (AO slot_list_sort ⟨_,g1,rfl⟩ entry_list_sort (hs (s1.heap.push (seqObj "list" zs.toArray 0)) _ _ _ (λb o e=>Ad _ e) fr g1 ⟨_,rfl,Ac ⟨_,rfl,?_⟩⟩) (args_list_sort _)))
 obtain ⟨e,he⟩:=sortedHeap_at (out:=out.toArray) g1
 refine q _ e _ (λb o z=>?_) (Ai _) he
 have lb:=Ao z
 rw [sortedHeap_old (Ay lb) (by rw [size_push'];exact A5 lb)]
 exact Ad _ z
end
noncomputable def W8:D->Bool
 | .str _=>true
 | _=>false
noncomputable def Jy (es:List D):Bool:=es.all λa=>es.all λb=>(ltB a b).isSome
noncomputable def DW (es:List D):Bool:=decide (es.length<64)&&es.all FX&&Jy es&&(es.all W8||es.all tupS)
section
variable {X:Cx} {K:Zc} {th:List Addr} {mu:Sto} {H:Hp} {pins:List (Addr×Obj)} {st:L2.St} {s:Shared}
theorem T9 {es:List D}(ho:es.all FX=true)(hc:Jy es=true):Pre es.length (Qj es) λi j=>ltT (es.getD i .non) (es.getD j .non):=by
 have gd:∀ i,i<es.length->es.getD i .non=es[i]?.getD .non∧∃ d,es[i]? = some d∧es.getD i .non=d∧d∈es:=λi hi=>by
  rw [AN]
  exact ⟨rfl,es[i],Ah hi,by rw [Ah hi];rfl,BD hi⟩
 rw [Au] at ho
 unfold Jy at hc
 rw [Au] at hc
 refine ⟨λi j hi hj=>?_,λi j hi hj h=>Ir _ _ h,λi j k hi hj hk h1 h2=>N9 _ _ _ h1 h2⟩
 obtain ⟨_,d,e1,e2,e3⟩:=gd i hi
 obtain ⟨_,d',f1,f2,f3⟩:=gd j hj
 unfold Qj
 rw [e1,f1,e2,f2]
 have:=hc d e3
 rw [Au] at this
 obtain ⟨r,hr⟩:=Bm.mp (this d' f3)
 dsimp only
 rw [hr,Rz d d' r (ho d e3) (ho d' f3) hr]
 rfl
theorem Vr (I:L2.Inv X pins st H s){es:List D}{vs:List V}{us:List Value}(hd:es.all W8=true)(r:RepL X.z th H es vs)(q:Vals vs us){A:Around} :
  ∀ i j b C,Qj es i j=some b->C b s->PySem.W.kas_ask X.prog X.w A oneType' us i j C s:=λi j b C e hC=>by
 rw [Au] at hd
 unfold Qj at e
 cases e1:es[i]? with
 | none=>rw [e1] at e;cases e
 | some d =>
  cases e2:es[j]? with
  | none=>rw [e1,e2] at e;cases e
  | some d' =>
   rw [e1,e2] at e
   have s1:=hd d (Ak e1)
   have s2:=hd d' (Ak e2)
   cases d<;>first|(cases s1;done)|skip
   cases d'<;>first|(cases s2;done)|skip
   rename_i x y
   unfold ltB at e
   cases e
   obtain ⟨v,v1,v2⟩:=r.get e1
   obtain ⟨v',v1',v2'⟩:=r.get e2
   obtain ⟨u,u1,u2⟩:=q.get v1
   obtain ⟨u',u1',u2'⟩:=q.get v1'
   obtain ⟨rfl,_⟩:=(show _∧_ from v2)
   obtain ⟨rfl,_⟩:=(show _∧_ from v2')
   obtain ⟨t,rfl⟩:=u2
   obtain ⟨t',rfl⟩:=u2'
   unfold PySem.W.kas_ask
   rw [AN,AN,u1,u1']
   exact PySem.W.kas_lt_str hC
theorem R0 {es:List D}{vs:List V}{us:List Value}(hd:es.all W8=true)(r:RepL X.z th H es vs)(q:Vals vs us):∃ ss,StrsAre us ss:=by
 refine ⟨_,strsAre_map us λu hu=>?_⟩
 obtain ⟨i,ei⟩:=AK.mp hu
 have hi:i<es.length:=by
  have:=(Ae.mp ei).1
  rw [← q.length,r.len] at this
  exact this
 rw [Au] at hd
 obtain ⟨v,v1,v2⟩:=r.get (Ah hi)
 have hs:=hd _ (BD hi)
 obtain ⟨u',u1,u2⟩:=q.get v1
 rw [ei] at u1
 cases u1
 cases e:es[i]<;>rw [e] at hs v2<;>first|(cases hs;done)|skip
 obtain ⟨rfl,_⟩:=(show _∧_ from v2)
 obtain ⟨t,rfl⟩:=u2
 exact ⟨_,t,rfl⟩
theorem sorts (hu:X.A.units+64<cLine)(I:L2.Inv X pins st H s){es:List D}{vs:List V}{zs:List Value}(h2:RepL X.z th H es vs)(rv:Vals vs zs)(ok:DW es=true) :
  ∃ ws out,RepL X.z th H (Ep es) ws∧Vals ws out∧Ig X.prog X.w X.A.in1.in1 zs out s:=by
 unfold DW at ok
 rw [Ab,Ab,Ab,Af,Bt] at ok
 obtain ⟨⟨⟨c64,ho⟩,hc⟩,hk⟩:=ok
 have ho':∀ d∈es,FX d=true:=by rw [Au] at ho;exact ho
 have lz:zs.length=es.length:=by rw [← rv.length,h2.len]
 by_cases c2:es.length<2
 ·have:Ep es=es:=by
   refine (HV ho' (BW _) ?_).symm
   match es,c2 with
   | [],_=>exact .nil
   | [_],_=>exact List.pairwise_singleton _ _
   | _::_::_,c2=>exact absurd c2 (by simp only [List.length_cons];omega)
  rw [this]
  exact ⟨vs,zs,h2,rv,λh1 a P E' hk fr hl hP=>Tw hl (by rw [lz];exact c2) hP⟩
 ·obtain ⟨p,p1,pm,up⟩:=UX (T9 ho hc) (by omega)
  have pl:p.size=es.length:=by rw [← Array.length_toList,pm.length_eq,Bx]
  have inn:∀ i∈p.toList,i<es.length:=λi hi=>AX.mp (pm.mem_iff.mp hi)
  have es_eq:p.toList.map (λi=>es.getD i .non)=Ep es:=by
   refine HV ho' ?_ ?_
   ·refine (pm.map _).trans ?_
    have:(List.range es.length).map (λi=>es.getD i .non)=es:=by
     refine BV λi=>?_
     rw [Al]
     by_cases hi:i<es.length
     ·simp [hi]
     ·simp [hi]
    rw [this]
   ·rw [BP]
    intro i j hi hj hij
    rw [Ag,Array.length_toList,pl] at hi hj
    have:=up i j (Nat.le_of_lt hij) hj
    rw [Sl (by omega),Sl (by omega)] at this
    dsimp only at this
    unfold leT
    simp only [List.getElem_map,Array.getElem_toList]
    rw [this]
    rfl
  refine ⟨p.toList.map λi=>vs.getD i .non,p.toList.map λi=>zs.getD i Value.none,?_,?_,λh1 a P E' hk1 fr hl hP=>?_⟩
  ·rw [← es_eq]
   exact RepL.pick (ds:=es) (vs:=vs) _ _ _ λi hi=>by
    have hi':=inn i hi
    obtain ⟨v,ev,rv'⟩:=h2.get (show es[i]? = some es[i] by simp [hi'])
    rw [AN,AN,ev,show es[i]? = some es[i] by simp [hi']]
    exact rv'
  ·exact Vals.pick rv _ _ _ λi hi=>by
    have hi':=inn i hi
    obtain ⟨v,ev,_⟩:=h2.get (show es[i]? = some es[i] by simp [hi'])
    obtain ⟨u,eu,ru⟩:=rv.get ev
    rw [AN,AN,ev,eu]
    exact ru
  ·have I6:L2.Inv X pins st H { s with heap:=((h1.update a (Obj.mapSeq λ_=>#[])).push (seqObj "tuple" zs.toArray 0)).push (seqObj "list" #[] 0) }:=I.kept (t':=s.toks) λb o q=>by
    refine Ad _ (Ad _ ?_)
    rw [Heap.get?_update_ne _ _ _ _ (λz=>by rw [z,fr] at q;cases q)]
    exact hk1 b o q
   rcases hk with hk|hk
   ·obtain ⟨ss,hS⟩:=R0 hk h2 rv
    refine Pg (kd:=oneType') p (by rw [lz];exact pl) hl (by rw [lz];omega) (by rw [lz];exact c64) (λQ' E2 hq=>?_) (λG hG=>?_) hP
    ·match zs,hS,lz with
     | [],_,lz=>simp at lz;omega
     | [_],_,lz=>simp at lz;omega
     | v1::v2::r,hS,_=>rw [keyKind_strs hS];exact Ac hq
    ·rw [lz]
     exact IT (λi j b C ea hC=>Vr I6 hk h2 rv i j b C ea hC) _ p G p1 hG
   ·obtain ⟨fs,f1,f2,f3⟩:=Kj I6 hk h2 rv
    refine Pg (kd:=tuples' true) p (by rw [lz];exact pl) hl (by rw [lz];omega) (by rw [lz];exact c64) (λQ' E2 hq=>PySem.W.kat_kind f1 (by rw [f2];omega) (T:=.type "str") (λv hv=>?_) rfl hq) (λG hG=>?_) hP
    ·obtain ⟨x,tk,rfl⟩:=f3 v hv
     exact λA Q E s _ hq=>BY (typeIs_str s x tk) hq
    ·rw [lz]
     exact IT (λi j b C ea hC=>Wb I6 hk h2 rv (A:=X.A.in1.in1) (by show X.A.units+1+1+60<cLine;omega) i j b C ea hC) _ p G p1 hG
end
theorem Uo (t:SetTable)(es:Array (Int×Value))(h:Int)(x:Value):(layNew t es h x).2.1.led=t.led∧((layNew t es h x).2.1.plain=t.plain∨(layNew t es h x).2.1.plain=false):=by
 unfold layNew
 split
 ·dsimp only
  unfold SetTable.orStandIn
  split
  ·exact ⟨rfl,.inl rfl⟩
  ·exact ⟨rfl,.inr rfl⟩
 ·exact ⟨rfl,.inr rfl⟩
theorem SD {mask finger moves:Nat}{led plain:Bool}{hs:Array Int}{r:SetTable×Array Nat}(h:SetTable.laid mask finger moves led plain hs=some r):r.1.led=led∧r.1.plain=plain:=by
 unfold SetTable.laid at h
 cases e:SetTable.layClean mask hs with
 | none=>rw [e] at h;cases h
 | some o=>rw [e] at h;cases h;exact ⟨rfl,rfl⟩
theorem Qa (t:SetTable)(es:Array (Int×Value))(n:Nat):(relayAll t es n).2.1.led=t.led∧((relayAll t es n).2.1.plain=t.plain∨(relayAll t es n).2.1.plain=false):=by
 unfold relayAll
 split
 ·rename_i t' order e
  have:=SD e
  dsimp only at this ⊢
  split
  ·exact ⟨this.1,.inl this.2⟩
  ·exact ⟨rfl,.inr rfl⟩
 ·exact ⟨rfl,.inr rfl⟩
noncomputable def EnS (w:World)(e:Int×Value)(x:Str):Prop:=e.1=hashStr w x∧∃ t,e.2=.str x t
noncomputable def LP (w:World)(S:Addr)(ls:List Str)(led:Bool)(h:Heap):Prop:=∃ o es ep t,h.get? S=some o∧o.ExactSet∧o.data=.set es ep t∧t.fits es.size=true∧t.led=led∧(t.plain=false∨es.size=0)∧∃ ss:List Str,ss.Perm ls∧Paired (EnS w) es.toList ss
theorem Hu {α β:Type}{F:α->β->Prop}:∀ {xs xs':List α},xs.Perm xs'->∀ {ys:List β},Paired F xs' ys->∃ ys',ys'.Perm ys∧Paired F xs ys':=by
 intro xs xs' p
 induction p with
 | nil=>intro ys h;cases h;exact ⟨[],.nil,.nil⟩
 | cons x p ih =>
  intro ys h
  cases h with
  | cons r t =>
   obtain ⟨ys',a,b⟩:=ih t
   exact ⟨_,a.cons _,.cons r b⟩
 | swap x y l =>
  intro ys h
  cases h with
  | cons r t =>
   cases t with
   | cons r' t=>exact ⟨_,List.Perm.swap _ _ _,.cons r' (.cons r t)⟩
 | trans p q ih1 ih2 =>
  intro ys h
  obtain ⟨ys',a,b⟩:=ih2 h
  obtain ⟨ys2,c,d⟩:=ih1 b
  exact ⟨ys2,c.trans a,d⟩
section
variable {prog:Program} {w:World} {A:Around} {E:Value->Shared->Prop} {s:Shared}
theorem XI {es:List (Int×Value)}{ss:List Str}(h:Paired (EnS w) es ss):ElemsOf (PySem.strKind prog w) es:=by
 induction h with
 | nil=>intro e he;cases he
 | cons r t ih =>
  obtain ⟨r1,tk,r2⟩:=r
  intro e he
  rcases Am.mp he with rfl|he
  ·refine ⟨⟨_,?_,r1⟩,by rw [r2];rfl⟩
   rw [r2]
   simp [PySem.strKind,Value.isStrOf]
  ·exact ih e he
noncomputable def HE (r:List Str)(v:Str):List Str:=if v∈r then r else r++[v]
theorem TU {S:Addr}{ls:List Str}{led:Bool}{x:Str}{t:Tok}{Q:Bool->Shared->Prop}(hS:LP w S ls led s.heap)(hz:ls.length+1<scanBound)
  (q:∀ h' b tk,Heap.SameBut S s.heap h'->LP w S (HE ls x) led h'->s.toks≤tk->Q b { s with heap:=h',toks:=tk }):wpAny (model prog w) A (setAdd S (.str x t)) Q E s:=by
 obtain ⟨o,es,ep,tb,ho,hex,hd,hf,hl,hp,ss,pm,pr⟩:=hS
 have sz:es.size=ls.length:=by rw [← pm.length_eq,← DP pr,Array.length_toList]
 have hb:es.size+1<scanBound:=by omega
 have key:(PySem.strKind prog w).is x (.str x t)=true:=by simp [PySem.strKind,Value.isStrOf]
 have hel:ElemsOf (PySem.strKind prog w) es.toList:=XI pr
 have his:∀ (j:Nat) e,es.toList[j]? = some e->((PySem.strKind prog w).is x e.2=true ↔ ss[j]? = some x):=λj e ej=>by
  obtain ⟨y,y1,y2,tk,y3⟩:=(DK pr j).1 e ej
  rw [y1,y3]
  simp only [PySem.strKind,Value.isStrOf,Option.some.injEq]
  constructor
  ·intro z;simpa using z
  ·intro z;simpa using z
 unfold setAdd
 refine AI (Aa ((PySem.strKind prog w).pyHash (k:=x) key ?_))
 (unfold setAddHashed setAddHashedIn)
 refine AI (Aa (A6 (s:={ s with toks:=s.toks+1 }) ho hd hf ?_))
 dsimp only
 rw [byScan_of (knd:=PySem.strKind prog w) (by rfl) (by omega) hel]
 simp only [↓reduceIte]
 unfold setAddByScan
 refine Aa (Aa (BS (Aa (wpAny_setScan_of (knd:=PySem.strKind prog w) (s:={ s with toks:=s.toks+1 }) key ho hd hf hel ?_))))
 cases hr:es.toList.findIdx? (λe=>(PySem.strKind prog w).is x e.2) with
 | some j =>
  obtain ⟨hj,hpj,_⟩:=List.findIdx?_eq_some_iff_getElem.mp hr
  have mem:x∈ls:=pm.mem_iff.mp (Ak ((his j _ (Ah hj)).mp hpj))
  refine Ac (Ac (q s.heap _ _ (Heap.SameBut.refl _ _) ?_ (Nat.le_succ _)))
  unfold HE
  rw [if_pos mem]
  exact ⟨o,es,ep,tb,ho,hex,hd,hf,hl,hp,ss,pm,pr⟩
 | none =>
  have nmem:x∉ls:=λz=>by
   obtain ⟨j,ej⟩:=AK.mp (pm.mem_iff.mpr z)
   obtain ⟨e,e1,_⟩:=(DK pr j).2 x ej
   have:=List.findIdx?_eq_none_iff.mp hr e (Ak e1)
   rw [(his j e e1).mpr ej] at this
   cases this
  dsimp only
  have L1:=layNew_perm tb es ((PySem.strKind prog w).hash x) (.str x t)
  have L2':=layNew_fits tb es ((PySem.strKind prog w).hash x) (.str x t)
  have L3:=Uo tb es ((PySem.strKind prog w).hash x) (.str x t)
  generalize layNew tb es ((PySem.strKind prog w).hash x) (.str x t)=L at L1 L2' L3 ⊢
  obtain ⟨es1,t1,wasDummy,gave⟩:=L
  dsimp only at L1 L2' L3 ⊢
  rw [Array.toList_push] at L1
  obtain ⟨ss1,pm1,pr1⟩:=Hu L1 (IF pr (.cons (show EnS w ((PySem.strKind prog w).hash x,Value.str x t) x from ⟨rfl,t,rfl⟩) .nil))
  have al:HE ls x=ls++[x]:=by unfold HE;rw [if_neg nmem]
  have pm2:ss1.Perm (HE ls x):=by rw [al];exact pm1.trans (pm.append (BW _))
  have sz1:es1.size=ls.length+1:=by rw [← Array.length_toList,DP pr1,pm2.length_eq,al];simp
  have hz1:es1.size≤sizeLine:=fits_of_scanBound (by omega)
  have gw:∀ (b:Bool) {s1:Shared} {Q':Unit->Shared->Prop},Q' () s1->wpAny (model prog w) A (match b with|true=>rule "set.scan.the-table-gave-way"|false=>pure ()) Q' E s1:=λb s1 Q' hq=>by
   cases b
   ·exact Ac hq
   ·exact BS hq
  refine Aa (gw gave ?_)
  have go:∀ t2:SetTable,t2.fits es1.size=true->t2.led=led->t2.plain=false->wpAny (model prog w) A (do
    storeSet S es1 t2
    if (!wasDummy&&t2.tooFull)=true then do
      (match (relayAll t2 es1 (SetTable.grown es1.size)).2.2 with|true=>rule "set.scan.the-table-gave-way"|false=>pure ())
      storeSet S (relayAll t2 es1 (SetTable.grown es1.size)).1 (relayAll t2 es1 (SetTable.grown es1.size)).2.1
      pure (some true)
     else pure (some true)) (λr s'=>wpAny (model prog w) A (match r with|some added=>pure added|none=>setAddHashedIn S (.str x t) ((PySem.strKind prog w).hash x) 99999) Q E s') E { s with toks:=s.toks+1 }:=λt2 f2 l2 p2=>by
   refine Aa (wpAny_storeSet_of (s:={ s with toks:=s.toks+1 }) ho hd ?_ hz1)
   have ho1:(s.heap.update S (Obj.putSet es1 t2)).get? S=some { o with data:=.set es1 (ep+1) t2 }:=by
    have:=AS (Obj.putSet es1 t2) ho (by rw [putSet_of es1 t2 hd];rfl)
    rw [putSet_of es1 t2 hd] at this
    exact this
   refine GY (λ_=>?_) λ_=>?_
   ·have R1:=relayAll_perm t2 es1 (SetTable.grown es1.size)
    have R2:=relayAll_fits t2 es1 (SetTable.grown es1.size)
    have R3:=Qa t2 es1 (SetTable.grown es1.size)
    generalize relayAll t2 es1 (SetTable.grown es1.size)=R at R1 R2 R3 ⊢
    obtain ⟨es2,t3,g2⟩:=R
    dsimp only at R1 R2 R3 ⊢
    obtain ⟨ss2,pm3,pr3⟩:=Hu R1 pr1
    have sz2:es2.size=es1.size:=by rw [← Array.length_toList,R1.length_eq,Array.length_toList]
    refine Aa (gw g2 (Aa (wpAny_storeSet_of ho1 rfl (Ac ?_) (by rw [sz2];exact hz1))))
    refine Ac (q _ _ _ ((AA ..).trans (AA ..)) ?_ (Nat.le_succ _))
    have ho2:=AS (Obj.putSet es2 t3) ho1 (by rw [putSet_of es2 t3 rfl];rfl)
    rw [putSet_of es2 t3 rfl] at ho2
    exact ⟨_,es2,_,t3,ho2,hex,rfl,R2,R3.1.trans l2,.inl (R3.2.elim (λz=>z.trans p2) id),ss2,pm3.trans pm2,pr3⟩
   ·refine Ac (Ac (q _ _ _ (AA ..) ?_ (Nat.le_succ _)))
    exact ⟨_,es1,_,t2,ho1,hex,rfl,f2,l2,.inl p2,ss1,pm2,pr1⟩
  refine GY (λc=>?_) λc=>?_
  ·refine Aa ?_
   rw [hashByValue_scannable 8 (by rfl)]
   refine Ac ?_
   refine go { t1 with plain:=false } (SetTable.fits_plain_off L2') (L3.1.trans hl) rfl
  ·refine Aa (Ac ?_)
   have c':t1.plain=false:=by simpa using c
   exact go t1 L2' (L3.1.trans hl) c'
theorem M7 (a:Value){Q1:Value->Shared->Prop}(h:Q1 (.ref s.heap.objs.size) { s with heap:=s.heap.push { cls:=.type "set",dict:=none,data:=.set #[] 0 (.fresh 0 0 (!Dm w)) } }) :
  codeAny (model prog w) A (.call (.builtin "set.__new__") ⟨[.type "set",a],[]⟩) (wants Q1 E) s:=by
 refine codeAny_of_tree (?_:wpAny _ A.in1 (do checkBuiltinCall "set.__new__" ⟨[.type "set",a],[]⟩;again (.builtin "set.__new__" ⟨[.type "set",a],[]⟩)) _ _ s)
 refine Aa (wpAny_of_eq (F.newCall_set_1 a) (Ac ⟨plainId_quiet F.plain_set_new _,Bg F.entry_set_new ?_⟩))
 rw [Bc F.plain_set_new _]
 (unfold Builtin.«set.__new__» Builtin.Frozenset.newClass)
 have hsub:=sub_set_self
 obtain ⟨hp,g,d,tk,os⟩:=s
 dsimp only
 wp_walk
 refine wpAny_askSetting (Ac ?_)
 dsimp only
 simp only [newObj]
 exact Aa (wpAny_alloc (Ac (Ac h)))
noncomputable def JT (prog:Program)(w:World)(A:Around)(E:Value->Shared->Prop)(h:Heap)(l:Addr)(us:List Value):Prop:=
 ∀ (s1:Shared) (A':Around) (R:Value->Shared->Prop),A'.handled=A.handled->(∀ b o,h.get? b=some o->s1.heap.get? b=some o) ->
  (∀ (I:Addr) (fp:List Addr) (h2:Heap) (d2:Drawn) (P:Nat->Value->Prop) (St:Nat->Heap->Prop),s1.heap.objs.size≤I->(∀ b∈fp,b<h2.objs.size)->(∀ b∈fp,s1.heap.objs.size≤b∨∃ o,h.get? b=some o)->(∀ A2:Around,A2.handled=A.handled->Walks prog w A2 I fp [I] us.length P St)->St 0 h2 ->
   (∀ b o,s1.heap.get? b=some o->h2.get? b=some o)->(∀ i v,P i v->us[i]? = some v)->R (.ref I) { s1 with heap:=h2,drawn:=d2 })->wpAny (model prog w) A' (pyIter (.ref l)) R E s1
theorem QB {I:Addr}{fp:List Addr}{n:Nat}{P:Nat->Value->Prop}{St:Nat->Heap->Prop}{R:Result->Shared->Prop}(W:Walks prog w A.in1 I fp [I] n P St)(S:Addr)(hSf:S∉fp){led:Bool}{ss:List Str}(hl:ss.length=n)(hval:∀ i v,P i v->∃ x t,ss[i]? = some x∧v=.str x t)(hb:n+1<scanBound)(k:Nat) :
  ∀ (i:Nat) (s:Shared) (ls:List Str),i+k=n->ls.length≤i->St i s.heap->LP w S ls led s.heap->(∀ h' tk,(∀ b o,b≠S->b≠I->s.heap.get? b=some o->h'.get? b=some o)->LP w S ((ss.drop i).foldl HE ls) led h'->R (.ok (.ret .none)) { s with heap:=h',toks:=tk }) ->
   codeAny (model prog w) A (Code.builtin "set.update.loop" ⟨[.ref S,.ref I],[]⟩) R s:=by
 have nI:I∈fp:=W.sub _ (by simp)
 have nS:S≠I:=λz=>hSf (z▸nI)
 have keepS:∀ {h h':Heap} {ls:List Str},(∀ b o,b∉[I]->h.get? b=some o->h'.get? b=some o)->LP w S ls led h->LP w S ls led h':=λk ⟨o,es,ep,t,ho,r⟩=>⟨o,es,ep,t,k S o (by simpa using nS) ho,r⟩
 induction k with
 | zero =>
  intro i s ls e lsl st hS hR
  obtain rfl:i=n:=by omega
  refine Bg BU ?_
  rw [Bc Ba _]
  refine Aa (m:=pyNext (.ref I)) (W.done s _ _ st λh1 tk1 k1=>Ac (a:=Fin.done (.ret Value.none)) (hR h1 tk1 (λb o _ hb z=>k1 b o (by simpa using hb) z) ?_))
  rw [List.drop_eq_nil_of_le (by omega)]
  exact keepS k1 hS
 | succ k ih =>
  intro i s ls e lsl st hS hR
  have lt:i<n:=by omega
  refine Bg BU ?_
  rw [Bc Ba _]
  refine Aa (m:=pyNext (.ref I)) (W.item i s _ _ lt st λv h1 tk1 hP st1 k1=>?_)
  obtain ⟨x,t,ex,ev⟩:=hval i v hP
  subst ev
  refine Aa (m:=holding [Value.str x t] (setAdd S (.str x t))) (AI (TU (s:={ s with heap:=h1,toks:=tk1 }) (keepS k1 hS) (by omega) λh2 _ tk2 sb hS2 _=>?_))
  have dr:ss.drop i=x::ss.drop (i+1):=by
   have hi:i<ss.length:=by omega
   rw [List.drop_eq_getElem_cons hi]
   rw [Ah hi] at ex
   rw [AB ex]
  have al:(HE ls x).length≤i+1:=by
   unfold HE
   split
   ·omega
   ·rw [Ar,List.length_singleton];omega
  refine Ac (And.intro (plainId_quiet Ba _) (ih (i+1) _ (HE ls x) (by omega) al (W.frame _ h1 _ st1 λb hb o z=>?_) hS2 λh3 tk3 k3 hS3=>hR h3 tk3 (λb o b1 b2 z=>?_) ?_))
  ·exact (sb.2 b λq:b=S=>hSf (q▸hb)).trans z
  ·exact k3 b o b1 b2 ((sb.2 b b1).trans (k1 b o (by simpa using b2) z))
  ·rw [dr]
   exact hS3
set_option maxHeartbeats 4000000 in
theorem Pp {l:Addr}{ol:Obj}{T:String}{us:List Value}{ss:List Str}{Q:Value->Shared->Prop}
  (hol:s.heap.get? l=some ol) (hcl:ol.cls=.type T) (t1:isSubtype (.type T) (.type "set")=pure false) (t2:isSubtype (.type T) (.type "frozenset")=pure false) (t3:(Value.type T==Value.type "dict")=false)
  (hb:us.length+1<scanBound) (hss:Paired (λ(u:Value) (x:Str)=>∃ t,u=.str x t) us ss) (hit:JT prog w A E s.heap l us)
  (h:∀ (h':Heap) (tk:Nat) d',LP w s.heap.objs.size (ss.foldl HE []) (!Dm w) h'->(∀ b o,s.heap.get? b=some o->h'.get? b=some o)->Q (.ref s.heap.objs.size) { s with heap:=h',toks:=tk,drawn:=d' }) :
  wpAny (model prog w) A (PySem.call (.type "set") [.ref l]) Q E s:=by
 refine call_cls (Q1:=λobj z=>obj=.ref s.heap.objs.size∧z={ s with heap:=s.heap.push (E9 (!Dm w)) }) PySem.F.called_set (PySem.F.typeCall_set_1 _) (M7 (.ref l) ⟨rfl,rfl⟩) λobj z hz=>?_
 obtain ⟨e1,e2⟩:=hz
 subst e1 e2
 have gS:(s.heap.push (E9 (!Dm w))).get? s.heap.objs.size=some (E9 (!Dm w)):=Aj _ rfl
 refine ⟨⟨_,gS,rfl⟩,codeAny_call_builtin PySem.F.called_set.init.plain PySem.F.entry_set_init (check_set_init_1 ⟨_,gS,rfl⟩ ?_)⟩
 obtain ⟨oc,od,oda,osl⟩:=ol
 simp only at hcl
 subst hcl
 have gl:(s.heap.push (E9 (!Dm w))).get? l=some { cls:=.type T,dict:=od,data:=oda,slots:=osl }:=Ad _ hol
 unfold Builtin.«set.__init__»
 unfold noKeywords
 unfold Builtin.Frozenset.updateFrom
 generalize hPI:pyIter=PI
 wp_walk
 subst hPI
 have sz:(s.heap.push (E9 (!Dm w))).objs.size=s.heap.objs.size+1:=A9 ..
 refine hit _ _ _ rfl (λb o e=>Ad _ e) λI fp h2 d2 P St hI fpl fpn W st0 k2 hval=>Aa (wpAny_runValue ?_)
 have nf:s.heap.objs.size∉fp:=λz=>by
  rcases fpn _ z with q|⟨o,q⟩
  ·have q':(s.heap.push (E9 (!Dm w))).objs.size≤s.heap.objs.size:=q
   rw [sz] at q'
   exact absurd q' (Nat.not_succ_le_self _)
  ·exact absurd (Ao q) (Be _)
 have h0:LP w s.heap.objs.size [] (!Dm w) h2:=⟨_,#[],0,_,k2 _ _ gS,⟨rfl,rfl,rfl⟩,rfl,by rfl,rfl,.inr rfl,[],.nil,.nil⟩
 have ssl:ss.length=us.length:=(DP hss).symm
 refine QB (W A.in1.in1.in1 rfl) s.heap.objs.size nf (ss:=ss) ssl (λi v hP=>?_) hb us.length 0 { s with heap:=h2,drawn:=d2 } [] (Bq _) (Ai _) st0 h0 λh3 tk3 k3 hS=>?_
 ·obtain ⟨x,x1,t,x2⟩:=(DK hss i).1 v (hval i v hP)
  exact ⟨x,t,x1,x2⟩
 ·refine Ac (Ac (a:=Fin.done (.ret Value.none)) (And.intro rfl (h h3 tk3 d2 hS λb o e=>?_)))
  have blt:=Ao e
  refine k3 b o (Ay blt) (λz=>?_) (k2 _ _ (Ad _ e))
  have hI':(s.heap.push (E9 (!Dm w))).objs.size≤I:=hI
  rw [sz,← z] at hI'
  exact absurd (AF blt (AQ (Nat.le_succ _) hI')) (Be _)
end
noncomputable def DQ (r:List D)(v:D):List D:=if v∈r then r else r++[v]
noncomputable def DV (es:List D):List D:=es.foldl DQ []
theorem LA (ss:List Str):∀ r:List Str,(ss.foldl HE r).map D.str=(ss.map D.str).foldl DQ (r.map D.str):=by
 induction ss with
 | nil=>intro r;rfl
 | cons x ss ih =>
  intro r
  rw [List.foldl_cons,ih,Bf,List.foldl_cons]
  congr 1
  unfold HE DQ
  have:D.str x∈r.map D.str ↔ x∈r:=by
   rw [Ap]
   exact ⟨λ⟨y,hy,e⟩=>by cases e;exact hy,λh=>⟨x,h,rfl⟩⟩
  by_cases c:x∈r
  ·rw [if_pos c,if_pos (this.mpr c)]
  ·rw [if_neg c,if_neg (λz=>c (this.mp z)),Bs];rfl
theorem Nl (es:List D):∀ r:List D,r.Nodup->(es.foldl DQ r).Nodup:=by
 induction es with
 | nil=>intro r h;exact h
 | cons x es ih =>
  intro r h
  rw [List.foldl_cons]
  refine ih _ ?_
  unfold DQ
  split
  ·exact h
  ·rename_i c
   refine List.nodup_append.mpr ⟨h,by simp,λa ha b hb=>?_⟩
   rw [Aw.mp hb]
   exact λe=>c (e▸ha)
theorem LG (es:List D):∀ (r:List D) (d:D),d∈es.foldl DQ r ↔ d∈r∨d∈es:=by
 induction es with
 | nil=>intro r d;simp
 | cons x es ih =>
  intro r d
  rw [List.foldl_cons,ih,Am]
  unfold DQ
  split
  ·rename_i c
   constructor
   ·rintro (h|h)
    ·exact .inl h
    ·exact .inr (.inr h)
   ·rintro (h|rfl|h)
    ·exact .inl h
    ·exact .inl c
    ·exact .inr h
  ·rw [AL,Aw]
   constructor
   ·rintro ((h|h)|h)
    ·exact .inl h
    ·exact .inr (.inl h)
    ·exact .inr (.inr h)
   ·rintro (h|h|h)
    ·exact .inl (.inl h)
    ·exact .inl (.inr h)
    ·exact .inr h
theorem IQ (es:List D):∀ r:List D,(es.foldl DQ r).length≤r.length+es.length:=by
 induction es with
 | nil=>intro r;simp
 | cons x es ih =>
  intro r
  rw [List.foldl_cons,List.length_cons]
  refine AQ (ih _) ?_
  unfold DQ
  split
  ·omega
  ·rw [Ar,List.length_singleton];omega
noncomputable def TQ:Fn:=λds mu=>match sq1 ds mu with
 | some es=>match strsOf es with
  | some _=>if es.length<4000 then some (.set (DV es),mu) else none
  | none=>none
 | none=>none
theorem Nj {ds:List D}{mu:Sto}{r:D×Sto}(h:TQ ds mu=some r):∃ d es ss,ds=[d]∧HF mu d=some es∧strsOf es=some ss∧es.length<4000∧r=(.set (DV es),mu):=by
 unfold TQ at h
 split at h
 ·rename_i es e
  split at h
  ·rename_i ss e2
   split at h
   ·rename_i c
    cases h
    obtain ⟨d,rfl,e3⟩:=JM e
    exact ⟨d,es,ss,rfl,e3,e2,c,rfl⟩
   ·cases h
  ·cases h
 ·cases h
section
variable {X:Cx} {K:Zc} {th:List Addr} {mu:Sto} {H:Hp} {pins:List (Addr×Obj)} {st:L2.St} {s:Shared}
theorem Jv (I:L2.Inv X pins st H s)(hc:X.calm=true){a:Addr}{vs:List V}{E:Value->Shared->Prop}(h:SqL X.K H a vs):∃ us,Vals vs us∧JT X.prog X.w X.A E s.heap a us∧∃ o,s.heap.get? a=some o∧o.cls=.type "list":=by
 obtain ⟨its,rv,pl,hz⟩:=I.list h
 obtain ⟨o,n,ho,hcl,hdd,hdt⟩:=id pl
 refine ⟨its,rv,λs1 A' R hA hk hR=>?_,o,ho,hcl⟩
 have pl':s1.heap.IsList a its.toArray:=pl.isList.at λo e=>hk a o e
 have lt:a<s1.heap.objs.size:=Ao (hk a o ho)
 have hh:=I.ok.hd hc
 refine wpAny_pyIter_list pl' (hR s1.heap.objs.size [s1.heap.objs.size,a] _ s1.drawn (λi v=>its.toArray[i]? = some v) (λi h=>h.IsListIter s1.heap.objs.size a i∧h.IsList a its.toArray) (Ai _) (λb hb=>?_) (λb hb=>?_) (λA2 hA2=>?_) ?_ (λb o e=>Ad _ e) λi v hP=>?_)
 ·rw [A9]
  rcases Am.mp hb with rfl|hb
  ·exact A1 _
  ·rw [Aw.mp hb];exact A5 lt
 ·rcases Am.mp hb with rfl|hb
  ·exact .inl (Ai _)
  ·rw [Aw.mp hb];exact .inr ⟨o,ho⟩
 ·have:=Walks.list (prog:=X.prog) (w:=X.w) (hA2.trans hh) s1.heap.objs.size a (Ay lt) its.toArray
  rw [An] at this
  exact this
 ·exact ⟨⟨_,Aj _ rfl,rfl,rfl⟩,pl'.push _⟩
 ·have hP':its.toArray[i]? = some v:=hP
  simpa using hP'
theorem Ip (I:L2.Inv X pins st H s)(hc:X.calm=true){a:Addr}{vs:List V}{E:Value->Shared->Prop}(h:SqT X.K H a vs):∃ us,Vals vs us∧JT X.prog X.w X.A E s.heap a us∧∃ o,s.heap.get? a=some o∧o.cls=.type "tuple":=by
 obtain ⟨its,rv,pl,hz⟩:=I.tuple h
 obtain ⟨o,ho,hcl,n,hdt⟩:=id pl
 refine ⟨its,rv,λs1 A' R hA hk hR=>?_,o,ho,hcl⟩
 have pl':s1.heap.IsTuple a its.toArray:=⟨o,hk a o ho,hcl,n,hdt⟩
 have lt:a<s1.heap.objs.size:=Ao (hk a o ho)
 have hh:=I.ok.hd hc
 refine wpAny_pyIter_tuple pl' (hR s1.heap.objs.size [s1.heap.objs.size,a] _ s1.drawn (λi v=>its.toArray[i]? = some v) (λi h=>h.IsTupleIter s1.heap.objs.size a i∧h.IsTuple a its.toArray) (Ai _) (λb hb=>?_) (λb hb=>?_) (λA2 hA2=>?_) ?_ (λb o e=>Ad _ e) λi v hP=>?_)
 ·rw [A9]
  rcases Am.mp hb with rfl|hb
  ·exact A1 _
  ·rw [Aw.mp hb];exact A5 lt
 ·rcases Am.mp hb with rfl|hb
  ·exact .inl (Ai _)
  ·rw [Aw.mp hb];exact .inr ⟨o,ho⟩
 ·have:=Walks.tuple (prog:=X.prog) (w:=X.w) (hA2.trans hh) s1.heap.objs.size a (Ay lt) its.toArray
  rw [An] at this
  exact this
 ·exact ⟨⟨_,Aj _ rfl,rfl,rfl⟩,⟨o,Ad _ (hk a o ho),hcl,n,hdt⟩⟩
 ·have hP':its.toArray[i]? = some v:=hP
  simpa using hP'
theorem Se {P:Program}{w:World}{h:Heap}{a:Addr}{us:List V}(x:Ua w a us h):ObjOk P w H h a (Nn w a us):=by
 refine ⟨x,?_,λh1 h2 ⟨o,es,ep,t,ho,r⟩ k=>⟨o,es,ep,t,k o ho,r⟩⟩
 obtain ⟨o,es,ep,t,ho,r⟩:=x
 exact ⟨o,ho⟩
theorem PL (hc:X.calm=true):CallV X (.type "set") TQ:=by
 intro pins s st H xs us Q I r h
 obtain ⟨th,mu,ds,so,rd,t⟩:=h
 obtain ⟨a0,mu0,e0,_⟩:=id t
 obtain ⟨d,es,ss,rfl,e2,e3,hl,er⟩:=Nj e0
 rw [e0] at t
 cases er
 obtain ⟨x,rfl,rx⟩:=DY rd
 obtain ⟨a,vs,rfl,h1,h2,h3⟩:=FI so e2 rx
 obtain ⟨u,rfl,ru⟩:=vals1 r
 cases ru
 have em:=FO e3
 rw [em] at h2
 obtain ⟨ev,hok⟩:=Lp h2
 subst ev
 have fin:∀ (h':Heap) (tk:Nat) d',LP X.w s.heap.objs.size (ss.foldl HE []) (!Dm X.w) h'->(∀ b o,s.heap.get? b=some o->h'.get? b=some o)->EP X pins st Q (.ref s.heap.objs.size) { s with heap:=h',toks:=tk,drawn:=d' }:=λh' tk d' hS hk=>by
  obtain ⟨o,tes,ep,tb,ho,hex,hd,hf,hled,hpl,ss',pm,pr⟩:=hS
  have hp:H s.heap.objs.size=none:=I.hok.fresh (Ai _)
  have ol:(ss.foldl HE []).length=(DV es).length:=by
   have:=congrArg List.length (LA ss [])
   rw [Ag] at this
   rw [this]
   unfold DV
   rw [em]
   rfl
  have ole:(DV es).length≤es.length:=by have:=IQ es [];simpa [DV] using this
  have tl:tes.size=ss'.length:=by rw [← DP pr,Array.length_toList]
  have sb:tes.size<scanBound:=by
   rw [tl,pm.length_eq,ol]
   unfold scanBound
   omega
  have sp:Ua X.w s.heap.objs.size (ss'.map V.str) h':=by
   refine ⟨o,tes,ep,tb,ho,hex,hd,sb,hf,?_,?_⟩
   ·refine JK (by simp [tl]) λj a b ea eb=>?_
    rw [Al] at ea eb
    cases ej:ss'[j]? with
    | none=>rw [ej] at ea;cases ea
    | some y =>
     obtain ⟨e',e1,_,tk',e2'⟩:=(DK pr j).2 y ej
     rw [ej] at ea
     rw [e1] at eb
     cases ea
     cases eb
     exact ⟨tk',e2'⟩
   ·cases c:Dm X.w with
    | true=>exact .inl c
    | false =>
     rw [c] at hled
     exact .inr ⟨hled,hpl.elim .inl λz=>.inr (by omega)⟩
  have I0:L2.Inv X pins st H { s with drawn:=d' }:=⟨I.ok,I.os,I.bare,I.base,I.loc,I.cell,I.free,I.freeC,I.pin,I.hok,I.len⟩
  refine ⟨.ref s.heap.objs.size,_,I0.laid (h':=h') (t':=tk) (o:=Nn X.w s.heap.objs.size (ss'.map V.str)) hk (Ai _) (Se sp),rfl,?_⟩
  refine t.retX (.new hp _) (so.new hp _) _ ?_
  unfold Rep
  refine ⟨_,ss'.map V.str,(ss.foldl HE []).map V.str,rfl,so.notin hp,DR,pm.map _,?_,Nl es [] List.nodup_nil⟩
  have eo:DV es=(ss.foldl HE []).map D.str:=by
   rw [LA,em]
   rfl
  rw [eo]
  refine Lf λx hx=>hok x ?_
  have:D.str x∈DV es:=by rw [eo];exact Ap.mpr ⟨x,hx,rfl⟩
  rcases (LG es [] _).mp this with z|z
  ·cases z
  ·rw [em] at z
   obtain ⟨y,hy,e⟩:=Ap.mp z
   cases e
   exact hy
 have pairs:∀ us:List Value,Vals (ss.map V.str) us->Paired (λ(u:Value) (x:Str)=>∃ t,u=.str x t) us ss:=λus q=>by
  refine JK (by have:=q.length;rw [Ag] at this;exact this.symm) λj u x e1 e2=>?_
  obtain ⟨u',u1,u2⟩:=q.get (show (ss.map V.str)[j]? = some (V.str x) by rw [Al,e2];rfl)
  rw [e1] at u1
  cases u1
  exact u2
 have ul:∀ us:List Value,Vals (ss.map V.str) us->us.length+1<scanBound:=λus q=>by
  have a:=q.length
  rw [Ag] at a
  have b:es.length=ss.length:=by rw [em,Ag]
  unfold scanBound
  omega
 rcases h1 with h1|⟨h1,_⟩
 ·obtain ⟨us,q,y,o,ho,hcl⟩:=Jv (E:=X.xe) I hc h1
  exact Pp ho hcl PySem.F.sub_list_set PySem.F.sub_list_frozenset (by decide) (ul us q) (pairs us q) y fin
 ·obtain ⟨us,q,y,o,ho,hcl⟩:=Ip (E:=X.xe) I hc h1
  exact Pp ho hcl OR Kf (by decide) (ul us q) (pairs us q) y fin
noncomputable def VB:Fn:=λds mu=>match ds with
 | [.set es]=>some (.int es.length,mu)
 | [d]=>(Fx mu d).map λp=>(.int p.1.length,mu)
 | _=>none
theorem RO {ds:List D}{r:D×Sto}(h:VB ds mu=some r):(∃ es,ds=[.set es]∧r=(.int es.length,mu))∨∃ d p,ds=[d]∧Fx mu d=some p∧r=(.int p.1.length,mu):=by
 unfold VB at h
 split at h
 ·cases h;exact .inl ⟨_,rfl,rfl⟩
 ·rename_i d _
  cases e:Fx mu d with
  | none=>rw [e] at h;cases h
  | some p=>rw [e] at h;cases h;exact .inr ⟨d,p,rfl,e,rfl⟩
 ·cases h
theorem Qh:CallV X (.builtin "len") VB:=by
 intro pins s st H xs us Q I r h
 obtain ⟨th,mu,ds,so,rd,t⟩:=h
 obtain ⟨a0,mu0,e0,_⟩:=id t
 rcases RO e0 with ⟨es,rfl,er⟩|⟨d,p,rfl,ed,er⟩
 ·rw [e0] at t
  cases er
  obtain ⟨x,rfl,rx⟩:=DY rd
  unfold Rep at rx
  obtain ⟨a,us',vs,rfl,_,h1,h2,h3,_⟩:=rx
  obtain ⟨u,rfl,ru⟩:=vals1 r
  cases ru
  obtain ⟨⟨o,tes,ep,tb,ho,hex,hd,sb,hf,hv,_⟩,_⟩:=(show ObjOk X.prog X.w H s.heap a (Nn X.w a us') from I.hok a _ h1)
  have ln:tes.size=es.length:=by
   have e1:us'.length=tes.size:=by have:=hv.length;simpa using this
   rw [← e1,h2.length_eq,h3.len]
  refine PySem.call_len_set ho hex hd hf (by unfold scanBound at sb;omega) ⟨.int es.length,H,I.tok _,⟨_,by rw [ln]⟩,t.ret so _ rfl⟩
 ·rw [e0] at t
  cases er
  obtain ⟨x,rfl,rx⟩:=DY rd
  obtain ⟨a,rfl,dc⟩:=EN so ed rx
  obtain ⟨u,rfl,ru⟩:=vals1 r
  cases ru
  obtain ⟨xs',o,es,ep,h1,g⟩:=Gd I dc
  have ty:s.TypeIs (.ref a) "dict":=⟨o,g.at',g.ex.1⟩
  have ln:es.size=p.1.length:=by rw [DP g.en,Array.length_toList]
  have fit:((p.1.length:Nat):Int)<2 ^ 63:=by
   have:=(Su dc).2.len
   rw [AH] at this
   omega
  have hM:MeetsIn X.prog X.w (Builtin.«dict.__len__» ⟨[.ref a],[]⟩) (λ_ R s=>s.heap.get? a=some o∧R (.ok (.ret (.int p.1.length s.toks))) { s with toks:=s.toks+1 }):=.of_wp λA R s ⟨g0,h⟩=>by
   refine (?_:wpAny _ _ (dictSize a >>= _) _ _ s)
   unfold dictSize
   refine Aa (Aa (BI g0 g.dt (Ac (?_:wpAny _ _ (Builtin.Dict.pendingCount a >>= _) _ _ s))))
   refine Aa (wpAny_pendingCount_other g.ns (wpAny_ret_mkInt ?_))
   rw [Nat.add_zero,ln]
   exact h
  (refine Calls.call_function_entry kind_len plain_len entry_len (args_len1 _) ?_)
  unfold Builtin.«len»
  refine Aa (m:=oneArg "len" _) (Ac (Aa (m:=callSpecial? (.ref a) (Str.ofString "__len__")) (AM (name:=Str.ofString "__len__") ty F.slot_dict_len (call_meetsIn F.slot_dict_len ty F.entry_dict_len (F.args_dict_len_1 _) hM ⟨g.at',?_⟩))))
  refine (?_:wpAny _ _ _ _ _ { s with toks:=s.toks+1 })
  refine Aa (AI (Ac (Aa (wpAny_letGo (?_:wpAny _ _ (if ((p.1.length:Nat):Int)<0 then _ else _) _ _ _)))))
  rw [if_neg (by omega)]
  refine (?_:wpAny _ _ (if ((p.1.length:Nat):Int) ≥ 2 ^ 63 then _ else _) _ _ _)
  rw [if_neg (by omega)]
  exact Aa (wpAny_mkInt (Ac ⟨_,rfl,⟨.int p.1.length,H,I.tok _,⟨_,rfl⟩,t.ret so _ rfl⟩⟩))
noncomputable def EU:Fn:=λds mu=>match VY ds mu with|some r=>some r|none=>VB ds mu
theorem Dq:CallV X (.builtin "len") EU:=CallV.or PM Qh
noncomputable def PU (mu:Sto):D->Option (List D)
 | .set es=>some es
 | d=>HF mu d
noncomputable def K6:Fn:=λds mu=>match HL ds with
 | some d=>match PU mu d with
  | some es=>if DW es=true then some (.lst (Ep es),mu) else none
  | none=>none
 | none=>none
theorem S4 {ds:List D}{r:D×Sto}(h:K6 ds mu=some r):∃ d es,ds=[d]∧PU mu d=some es∧DW es=true∧r=(.lst (Ep es),mu):=by
 unfold K6 at h
 split at h
 ·rename_i d e
  split at h
  ·rename_i es e2
   split at h
   ·rename_i c;cases h;exact ⟨d,es,Hl e,e2,c,rfl⟩
   ·cases h
  ·cases h
 ·cases h
theorem NZ {es fs:List D}(p:fs.Perm es)(h:DW es=true):DW fs=true:=by
 unfold DW Jy at *
 rw [Ab,Ab,Ab,Af,Bt] at *
 simp only [Au] at *
 obtain ⟨⟨⟨a,b⟩,c⟩,d⟩:=h
 exact ⟨⟨⟨by rw [p.length_eq];exact a,λx hx=>b x (p.mem_iff.mp hx)⟩,λx hx y hy=>c x (p.mem_iff.mp hx) y (p.mem_iff.mp hy)⟩,d.imp (λz x hx=>z x (p.mem_iff.mp hx)) λz x hx=>z x (p.mem_iff.mp hx)⟩
theorem HA {es:List D}(h:DW es=true):∀ d∈es,FX d=true:=by
 unfold DW at h
 rw [Ab,Ab,Ab] at h
 exact Au.mp h.1.1.2
theorem RepL.perm {ds:List D}{vs us:List V}(p:us.Perm vs)(r:RepL K th H ds vs):∃ ds',ds'.Perm ds∧RepL K th H ds' us:=by
 induction p generalizing ds with
 | nil=>exact ⟨ds,BW _,r⟩
 | cons x p ih =>
  cases ds with
  | nil=>cases r.inv0
  | cons d ds =>
   obtain ⟨v,r',e,a,b⟩:=r.inv
   cases e
   obtain ⟨ds',q1,q2⟩:=ih b
   exact ⟨d::ds',q1.cons d,.cons a q2⟩
 | swap x y l =>
  cases ds with
  | nil=>cases r.inv0
  | cons d ds =>
   obtain ⟨v,r',e,a,b⟩:=r.inv
   cases e
   cases ds with
   | nil=>cases b.inv0
   | cons d' ds =>
    obtain ⟨v',r2,e',a',b'⟩:=b.inv
    cases e'
    exact ⟨d'::d::ds,List.Perm.swap _ _ _,.cons a' (.cons a b')⟩
 | trans p q ih1 ih2 =>
  obtain ⟨ds1,a1,b1⟩:=ih2 r
  obtain ⟨ds2,a2,b2⟩:=ih1 b1
  exact ⟨ds2,a2.trans a1,b2⟩
theorem Vals.perm {vs:List V}{us us':List Value}(p:us'.Perm us)(r:Vals vs us):∃ vs',vs'.Perm vs∧Vals vs' us':=by
 induction p generalizing vs with
 | nil=>cases r;exact ⟨[],.nil,.nil⟩
 | cons x p ih =>
  cases r with
  | cons a b=>obtain ⟨vs',q1,q2⟩:=ih b;exact ⟨_,q1.cons _,.cons a q2⟩
 | swap x y l =>
  cases r with
  | cons a b =>
   cases b with
   | cons a' b'=>exact ⟨_,List.Perm.swap _ _ _,.cons a' (.cons a b')⟩
 | trans p q ih1 ih2 =>
  obtain ⟨v1,a1,b1⟩:=ih2 r
  obtain ⟨v2,a2,b2⟩:=ih1 b1
  exact ⟨v2,a2.trans a1,b2⟩
theorem Qb (hu:X.A.units+64<cLine)(hc:X.calm=true):CallV X (.builtin "sorted") K6:=by
 intro pins s st H xs us Q I r h
 obtain ⟨th,mu,ds,so,rd,t⟩:=h
 obtain ⟨a0,mu0,e0,_⟩:=id t
 obtain ⟨d,es,rfl,eg,ok,er⟩:=S4 e0
 rw [e0] at t
 cases er
 obtain ⟨x,rfl,rx⟩:=DY rd
 obtain ⟨u,rfl,ru⟩:=vals1 r
 have fin:∀ (fs:List D) (vs:List V) (zs:List Value) (h1:Heap) (tk:Nat) d',fs.Perm es->RepL X.z th H fs vs->Vals vs zs->(∀ b o,s.heap.get? b=some o->h1.get? b=some o)->zs.length≤sizeLine∧∃ out,Ig X.prog X.w X.A.in1.in1 zs out { s with heap:=h1,toks:=tk,drawn:=d' } ∧
   ∀ h' e a,(∀ b o,h1.get? b=some o->h'.get? b=some o)->h1.objs.size≤a->h'.get? a=some (seqObj "list" out.toArray e)->EP X pins st Q (.ref a) { s with heap:=h',toks:=tk,drawn:=d' }:=λfs vs zs h1 tk d' p h2 rv hk=>by
  have I0:L2.Inv X pins st H { s with drawn:=d' }:=⟨I.ok,I.os,I.bare,I.base,I.loc,I.cell,I.free,I.freeC,I.pin,I.hok,I.len⟩
  have I1:L2.Inv X pins st H { s with heap:=h1,toks:=tk,drawn:=d' }:=I0.kept (t':=tk) hk
  have okf:=NZ p ok
  have l64:fs.length<64:=by
   unfold DW at okf
   rw [Ab,Ab,Ab,Af] at okf
   exact okf.1.1.1
  have lz:zs.length=fs.length:=by rw [← rv.length,h2.len]
  obtain ⟨ws,out,w1,w2,w3⟩:=sorts hu I1 h2 rv okf
  rw [Lh (HA ok) p] at w1
  have z64:64≤sizeLine:=by rw [AH];decide
  have wl:(Ep es).length≤sizeLine:=by rw [(Dv es).length_eq,← p.length_eq];omega
  refine ⟨by omega,out,w3,λh' e a hk' ha he=>?_⟩
  have hp:H a=none:=I1.hok.fresh ha
  refine ⟨.ref a,_,I1.laid (t':=tk) (o:=.lst ws) hk' ha ⟨by rw [w1.len];exact wl,out,e,w2,he⟩,rfl,?_⟩
  exact t.retX (.new hp _) (so.new hp _) _ (Rep.newLst so hp w1 wl)
 refine Lw ?_
 have seqc:∀ (T:String) (a:Addr) (ob:Obj) (vs:List V) (zs:List Value) (n:Nat),(T="list"∨T="tuple")->s.heap.get? a=some ob->ob.cls=.type T->ob.data=.seq zs.toArray n->Vals vs zs->RepL X.z th H es vs->es.length≤sizeLine->wpAny (model X.prog X.w) X.A.in1 (collect (.ref a)) (λzs s1=>zs.length≤sizeLine∧∃ out,Ig X.prog X.w X.A.in1.in1 zs out s1∧∀ h' e a,(∀ b o,s1.heap.get? b=some o->h'.get? b=some o)->s1.heap.objs.size≤a->h'.get? a=some (seqObj "list" out.toArray e)->EP X pins st Q (.ref a) { s1 with heap:=h' }) X.xe s:=λT a ob vs zs n hT g1 g2 g3 rv h2 hz=>by
  refine NV hT g1 g2 g3 ?_ (by rw [← rv.length,h2.len];exact hz)
  refine fin es vs zs _ s.toks s.drawn (BW _) h2 rv λb o e=>?_
  have lt:=Ao e
  rw [Heap.get?_update_ne _ _ _ _ (Ay lt),Heap.get?_push_ne _ _ _ (Ay lt)]
  exact e
 have sq:HF mu d=some es->wpAny (model X.prog X.w) X.A.in1 (collect u) (λzs s1=>zs.length≤sizeLine∧∃ out,Ig X.prog X.w X.A.in1.in1 zs out s1∧∀ h' e a,(∀ b o,s1.heap.get? b=some o->h'.get? b=some o)->s1.heap.objs.size≤a->h'.get? a=some (seqObj "list" out.toArray e)->EP X pins st Q (.ref a) { s1 with heap:=h' }) X.xe s:=λe2=>by
  obtain ⟨a,vs,rfl,h1,h2,h3⟩:=FI so e2 rx
  cases ru
  rcases h1 with h1|⟨h1,_⟩
  ·obtain ⟨its,rv,⟨o,n,g1,g2,_,g3⟩,_⟩:=I.list h1
   exact seqc "list" a o vs its n (.inl rfl) g1 g2 g3 rv h2 h3
  ·obtain ⟨its,rv,⟨o,g1,g2,n,g3⟩,_⟩:=I.tuple h1
   exact seqc "tuple" a o vs its n (.inr rfl) g1 g2 g3 rv h2 h3
 unfold PU at eg
 split at eg
 ·cases eg
  unfold Rep at rx
  obtain ⟨a,us',vs,rfl,_,h1,h2,h3,_⟩:=rx
  cases ru
  obtain ⟨⟨o,tes,ep,tb,ho,hex,hd,sb,hf,hv,hw⟩,_⟩:=(show ObjOk X.prog X.w H s.heap a (Nn X.w a us') from I.hok a _ h1)
  refine N2 (I.ok.hd hc) (fits_of_scanBound sb) ho hex.1 hd hf hw λzs h' tk d' pm hk=>?_
  obtain ⟨ws,p1,r1⟩:=Vals.perm pm hv
  obtain ⟨fs,p2,r2⟩:=RepL.perm (p1.trans h2) h3
  exact fin fs ws zs h' tk d' p2 r2 r1 hk
 ·exact sq eg
end
theorem Kc (xs:Array Nat)(j:Nat)(hs:xs.toList.Pairwise (·<·)):∀ (f lo hi:Nat),hi-lo≤f->lo≤hi->hi≤xs.size->(∀ (i v:Nat),i<lo->xs.toList[i]? = some v->v<j)->(∀ (i v:Nat),hi≤i->xs.toList[i]? = some v->j≤v) ->
  SetTable.below.go xs j f lo hi≤xs.size∧(∀ (i v:Nat),i<SetTable.below.go xs j f lo hi->xs.toList[i]? = some v->v<j)∧(∀ (i v:Nat),SetTable.below.go xs j f lo hi≤i->xs.toList[i]? = some v->j≤v)
 | 0,lo,hi,h,h1,h2,h3,h4=>by
  have:lo=hi:=by omega
  subst this
  exact ⟨h2,h3,h4⟩
 | f+1,lo,hi,h,h1,h2,h3,h4=>by
  have mono:∀ (i k v u:Nat),i≤k->xs.toList[i]? = some v->xs.toList[k]? = some u->v≤u:=λi k v u hik a b=>by
   rcases BH i k with c|c
   ·obtain ⟨ha,rfl⟩:=Ae.mp a
    obtain ⟨hb,rfl⟩:=Ae.mp b
    exact Nat.le_of_lt (BP.mp hs i k ha hb c)
   ·obtain rfl:i=k:=by omega
    rw [a] at b
    cases b
    exact Ai _
  unfold SetTable.below.go
  by_cases c:lo<hi
  ·rw [if_pos c]
   dsimp only
   have hm:(lo+hi) / 2<xs.toList.length:=by rw [Array.length_toList];omega
   have em:=Ah hm
   generalize xs.toList[(lo+hi) / 2]=v at em
   have eg:xs.getD ((lo+hi) / 2) j=v:=by
    rw [Bb,← Ax,em]
    rfl
   rw [eg]
   by_cases c2:v<j
   ·rw [if_pos c2]
    exact Kc xs j hs f _ _ (by omega) (by omega) h2 (λi u hi hu=>Nat.lt_of_le_of_lt (mono i _ u v (by omega) hu em) c2) h4
   ·rw [if_neg c2]
    exact Kc xs j hs f _ _ (by omega) (by omega) (by omega) h3 (λi u hi hu=>AQ (Nat.le_of_not_lt c2) (mono _ i v u hi em hu))
  ·rw [if_neg c]
   have:lo=hi:=by omega
   subst this
   exact ⟨h2,h3,h4⟩
theorem KN {xs:Array Nat}(hs:xs.toList.Pairwise (·<·))(j:Nat):SetTable.below xs j≤xs.size∧(∀ (i v:Nat),i<SetTable.below xs j->xs.toList[i]? = some v->v<j)∧(∀ (i v:Nat),SetTable.below xs j≤i->xs.toList[i]? = some v->j≤v):=
 Kc xs j hs xs.size 0 xs.size (by omega) (AZ _) (Ai _) (λi v h=>absurd h (Nat.not_lt_zero _)) (λi v h e=>by
  have:=(Ae.mp e).1
  rw [Array.length_toList] at this
  omega)
theorem has_none (j:Nat):SetTable.has #[] j=false:=rfl
theorem O9 {t:SetTable}(hd:t.dummies=#[])(hs:t.place.toList.Pairwise (·<·))(j:Nat):(∃ i,t.slot j=.live i∧t.place.toList[i]? = some j)∨(t.slot j=.empty∧j∉t.place.toList):=by
 obtain ⟨_,b1,b2⟩:=KN hs j
 unfold SetTable.slot
 dsimp only
 by_cases c:t.place[SetTable.below t.place j]? = some j
 ·refine .inl ⟨SetTable.below t.place j,?_,by rw [Ax];exact c⟩
  rw [c]
  simp
 ·refine .inr ⟨?_,λhm=>?_⟩
  ·rw [hd,has_none]
   have:(t.place[SetTable.below t.place j]?==some j)=false:=by simpa using c
   rw [this]
   rfl
  ·obtain ⟨i,ei⟩:=AK.mp hm
   rcases B1 i (SetTable.below t.place j) with h|h|h
   ·exact absurd (b1 i j h ei) (Be _)
   ·rw [h,Ax] at ei
    exact c ei
   ·obtain ⟨hi,ei'⟩:=Ae.mp ei
    have hb:SetTable.below t.place j<t.place.toList.length:=by omega
    have x:=BP.mp hs _ i hb hi h
    have y:=b2 _ _ (Ai _) (Ah hb)
    rw [ei'] at x
    omega
theorem Jb {t:SetTable}(hd:t.dummies=#[])(hs:t.place.toList.Pairwise (·<·)){i j:Nat}(h:t.place.toList[i]? = some j):t.slot j=.live i:=by
 rcases O9 hd hs j with ⟨i',e,h'⟩|⟨_,n⟩
 ·rw [e]
  obtain ⟨a,a'⟩:=Ae.mp h
  obtain ⟨b,b'⟩:=Ae.mp h'
  rcases B1 i i' with c|c|c
  ·have:=BP.mp hs i i' a b c;omega
  ·rw [c]
  ·have:=BP.mp hs i' i b a c;omega
 ·exact absurd (Ak h) n
theorem NU {xs:Array Nat}(hs:xs.toList.Pairwise (·<·)){j:Nat}(hj:j∉xs.toList):(SetTable.insertAt xs (SetTable.below xs j) j).toList.Pairwise (·<·):=by
 obtain ⟨b0,b1,b2⟩:=KN hs j
 rw [SetTable.toList_insertAt,List.pairwise_append]
 have hdr:∀ v∈xs.toList.drop (SetTable.below xs j),j<v:=λv hv=>by
  obtain ⟨i,ei⟩:=AK.mp hv
  rw [List.getElem?_drop] at ei
  have:=b2 _ v (by omega) ei
  rcases B8 this with h|h
  ·exact h
  ·exact absurd (h▸BJ hv) hj
 have htk:∀ v∈xs.toList.take (SetTable.below xs j),v<j:=λv hv=>by
  obtain ⟨i,ei⟩:=AK.mp hv
  have hi:i<SetTable.below xs j:=by
   have:=(Ae.mp ei).1
   rw [Az] at this
   omega
  rw [AR hi] at ei
  exact b1 i v hi ei
 refine ⟨hs.sublist (List.take_sublist _ _),BK.mpr ⟨hdr,hs.sublist (List.drop_sublist _ _)⟩,λa ha b hb=>?_⟩
 rcases Am.mp hb with rfl|hb
 ·exact htk a ha
 ·exact Nat.lt_trans (htk a ha) (hdr b hb)
noncomputable def adv (mask:Nat)(p:SetTable.Probe):SetTable.Probe:=
 if p.more > 0 then { p with j:=p.j+1,more:=p.more-1 } else
 { p with j:=(SetTable.leap mask p.i p.perturb).1,more:=SetTable.runEnd mask (SetTable.leap mask p.i p.perturb).1-(SetTable.leap mask p.i p.perturb).1,i:=(SetTable.leap mask p.i p.perturb).1,perturb:=(SetTable.leap mask p.i p.perturb).2 }
theorem WI (t:SetTable)(p:SetTable.Probe):t.advance p=adv t.mask p:=rfl
noncomputable def rn (mask:Nat)(q:Nat×Nat):SetTable.Probe:={ j:=q.1,more:=SetTable.runEnd mask q.1-q.1,i:=q.1,perturb:=q.2,dummy:=none }
noncomputable def lp (mask:Nat)(h:Int):Nat->Nat×Nat
 | 0=>(SetTable.bits h % (mask+1),SetTable.bits h)
 | k+1=>SetTable.leap mask (lp mask h k).1 (lp mask h k).2
noncomputable def pth (mask:Nat)(h:Int):Nat->SetTable.Probe
 | 0=>rn mask (lp mask h 0)
 | n+1=>adv mask (pth mask h n)
theorem MD {mask:Nat}{h:Int}{n:Nat}{q:Nat×Nat}(e:pth mask h n=rn mask q):∀ m,m≤SetTable.runEnd mask q.1-q.1->pth mask h (n+m)={ rn mask q with j:=q.1+m,more:=SetTable.runEnd mask q.1-q.1-m }
 | 0,_=>by rw [Nat.add_zero,e];rfl
 | m+1,hm=>by
  have ih:=MD e m (by omega)
  rw [← Nat.add_assoc,pth,ih]
  unfold adv
  dsimp only
  rw [if_pos (by omega)]
  show SetTable.Probe.mk _ _ _ _ _=SetTable.Probe.mk _ _ _ _ _
  congr 1<;>omega
theorem OS {mask i:Nat}:SetTable.runEnd mask i-i≤9:=by unfold SetTable.runEnd;split<;>omega
theorem Ob {mask i:Nat}(h:i≤mask):SetTable.runEnd mask i≤mask:=by unfold SetTable.runEnd;split<;>omega
theorem OQ (mask:Nat)(h:Int):∀ k,(lp mask h k).1≤mask
 | 0=>Nat.le_of_lt_succ (Nat.mod_lt _ (Nat.succ_pos _))
 | k+1=>Nat.le_of_lt_succ (Nat.mod_lt _ (Nat.succ_pos _))
theorem SX (mask:Nat)(h:Int):∀ k,∃ n,n≤10*k∧pth mask h n=rn mask (lp mask h k)
 | 0=>⟨0,Ai _,rfl⟩
 | k+1=>by
  obtain ⟨n,hn,e⟩:=SX mask h k
  have r9:=OS (mask:=mask) (i:=(lp mask h k).1)
  refine ⟨n+(SetTable.runEnd mask (lp mask h k).1-(lp mask h k).1)+1,by omega,?_⟩
  rw [pth,MD e _ (Ai _)]
  unfold adv
  dsimp only
  rw [if_neg (by omega)]
  rfl
noncomputable def orb (mask:Nat):Nat->Nat->Nat
 | i,0=>i
 | i,m+1=>orb mask ((i*5+1) % (mask+1)) m
noncomputable def WG (mask:Nat):Nat->Nat->List Nat
 | 0,_=>[]
 | n+1,i=>i::WG mask n ((i*5+1) % (mask+1))
theorem JQ (mask:Nat):∀ (a i b:Nat),orb mask i (a+b)=orb mask (orb mask i a) b
 | 0,i,b=>by rw [Bq];rfl
 | a+1,i,b=>by rw [Nat.succ_add,orb,JQ mask a,orb]
theorem Nx {mask:Nat}{j:Nat}:∀ (n i:Nat),j∈WG mask n i->∃ m,m<n∧orb mask i m=j
 | 0,i,h=>by cases h
 | n+1,i,h=>by
  rcases Am.mp h with rfl|h
  ·exact ⟨0,Nat.succ_pos _,rfl⟩
  ·obtain ⟨m,hm,e⟩:=Nx n _ h
   exact ⟨m+1,by omega,e⟩
noncomputable def GJ (mask:Nat):Prop:=mask=7∨mask=31∨mask=127
theorem PH {mask:Nat}(hm:GJ mask){j:Nat}(hj:j≤mask):∃ m,m≤mask∧orb mask 0 m=j:=by
 have key:(List.range (mask+1)).all (λj=>(WG mask (mask+1) 0).contains j)=true:=by
  rcases hm with rfl|rfl|rfl<;>decide +kernel
 have:=Au.mp key j (AX.mpr (by omega))
 obtain ⟨m,h1,h2⟩:=Nx (mask+1) 0 (List.contains_iff_mem.mp this)
 exact ⟨m,by omega,h2⟩
theorem SF {mask:Nat}(hm:GJ mask):orb mask 0 (mask+1)=0:=by
 rcases hm with rfl|rfl|rfl<;>decide +kernel
theorem Pr {mask:Nat}(hm:GJ mask){i j:Nat}(hi:i≤mask)(hj:j≤mask):∃ m,m≤mask∧orb mask i m=j:=by
 obtain ⟨a,ha,ea⟩:=PH hm hi
 obtain ⟨b,hb,eb⟩:=PH hm hj
 rcases Nat.le_total a b with c|c
 ·refine ⟨b-a,by omega,?_⟩
  rw [← ea,← JQ,show a+(b-a)=b by omega,eb]
 ·by_cases c2:a=b
  ·exact ⟨0,AZ _,by rw [← ea,← eb,c2];rfl⟩
  ·refine ⟨(mask+1-a)+b,by omega,?_⟩
   rw [← ea,← JQ,show a+((mask+1-a)+b)=(mask+1)+b by omega,JQ,SF hm,eb]
theorem ZH (mask:Nat)(h:Int):∀ k,(lp mask h k).2=SetTable.bits h / 32 ^ k
 | 0=>by rw [Nat.pow_zero,Nat.div_one];rfl
 | k+1=>by
  show (lp mask h k).2 / 32=_
  rw [ZH mask h k,Nat.div_div_eq_div_mul,Nat.pow_succ]
theorem US (h:Int):SetTable.bits h<32 ^ 13:=by
 unfold SetTable.bits
 have a:=BB h (show (2 ^ 64:Int)≠0 by decide)
 have b:=Bn h (show (0:Int)<2 ^ 64 by decide)
 have c:(2 ^ 64:Int)=18446744073709551616:=by decide
 have d:(32 ^ 13:Nat)=36893488147419103232:=by decide
 rw [d]
 omega
theorem Q7 (mask:Nat)(h:Int):∀ m,(lp mask h (13+m)).1=orb mask (lp mask h 13).1 m:=by
 have q0:∀ k,13≤k->(lp mask h k).2=0:=λk hk=>by
  rw [ZH]
  exact Nat.div_eq_of_lt (AF (US h) (Nat.pow_le_pow_right (by decide) hk))
 have st:∀ k,13≤k->(lp mask h (k+1)).1=((lp mask h k).1*5+1) % (mask+1):=λk hk=>by
  show ((lp mask h k).1*5+1+(lp mask h k).2 / 32) % (mask+1)=_
  rw [q0 k hk]
 have gen:∀ m k,13≤k->(lp mask h (k+m)).1=orb mask (lp mask h k).1 m:=by
  intro m
  induction m with
  | zero=>intro k _;rfl
  | succ m ih =>
   intro k hk
   rw [show k+(m+1)=(k+1)+m by omega,ih (k+1) (by omega),st k hk]
   rfl
 exact λm=>gen m 13 (Ai _)
theorem U3 {mask:Nat}(hm:GJ mask)(h:Int){j:Nat}(hj:j≤mask):∃ n,n<10*SetTable.turns mask∧(pth mask h n).j=j:=by
 obtain ⟨m,h1,h2⟩:=Pr hm (OQ mask h 13) hj
 obtain ⟨n,hn,e⟩:=SX mask h (13+m)
 refine ⟨n,?_,?_⟩
 ·unfold SetTable.turns;omega
 ·rw [e]
  show (lp mask h (13+m)).1=j
  rw [Q7,h2]
theorem Ja (mask:Nat)(h:Int):∀ n,(pth mask h n).dummy=none
 | 0=>rfl
 | n+1=>by
  rw [pth]
  unfold adv
  split
  ·exact Ja mask h n
  ·exact Ja mask h n
theorem MR {α:Type} [DecidableEq α]:∀ {a b:List α},a.Nodup->(∀ x∈a,x∈b)->a.length≤b.length
 | [],_,_,_=>AZ _
 | x::a,b,nd,h=>by
  rw [Br] at nd
  have hx:=h x (.head _)
  have:=MR (a:=a) (b:=b.erase x) nd.2 λy hy=>(List.mem_erase_of_ne (λe:y=x=>nd.1 (e▸hy))).mpr (h y (.tail _ hy))
  rw [List.length_erase_of_mem hx] at this
  have:=List.length_pos_of_mem hx
  rw [List.length_cons]
  omega
theorem least {P:Nat->Prop}:∀ n,P n->∃ k,k≤n∧P k∧∀ m,m<k->¬ P m:=by
 intro n
 induction n using Nat.strongRecOn with
 | ind n ih =>
  intro h
  by_cases c:∃ m,m<n∧P m
  ·obtain ⟨m,hm,pm⟩:=c
   obtain ⟨k,a,b,d⟩:=ih m hm pm
   exact ⟨k,by omega,b,d⟩
  ·exact ⟨n,Ai _,h,λm hm pm=>c ⟨m,hm,pm⟩⟩
structure TW (mask:Nat) (pl:List Nat) (es:List (Int×Value)):Prop where
 so:pl.Pairwise (·<·)
 ln:pl.length=es.length
 mo:GJ mask
 lt:es.length≤mask
 bd:∀ j∈pl,j≤mask
 rc:∀ (i j:Nat) (e:Int×Value),pl[i]? = some j->es[i]? = some e->∃ n,n<10*SetTable.turns mask∧(pth mask e.1 n).j=j∧∀ m,m≤n->(pth mask e.1 m).j∈pl
theorem TW.first {mask:Nat}{pl:List Nat}{es:List (Int×Value)}(T:TW mask pl es)(h:Int):∃ k,k<10*SetTable.turns mask∧(pth mask h k).j∉pl∧(∀ m,m<k->(pth mask h m).j∈pl)∧(pth mask h k).j≤mask:=by
 obtain ⟨j,hj,hn⟩:∃ j,j≤mask∧j∉pl:=by
  apply BQ
  intro hc
  have:∀ x∈List.range (mask+1),x∈pl:=λx hx=>BQ λhx'=>hc ⟨x,by have:=AX.mp hx;omega,hx'⟩
  have:=MR Ci this
  rw [Bx,T.ln] at this
  have:=T.lt
  omega
 obtain ⟨n,hn1,hn2⟩:=U3 T.mo h hj
 obtain ⟨k,k1,k2,k3⟩:=least (P:=λn=>(pth mask h n).j∉pl∧(pth mask h n).j≤mask) n ⟨hn2▸hn,by omega⟩
 refine ⟨k,by omega,k2.1,λm hm=>?_,k2.2⟩
 have le:∀ n,(pth mask h n).j+(pth mask h n).more≤mask∧(pth mask h n).i≤mask:=by
  intro n
  induction n with
  | zero =>
   have:=OQ mask h 0
   have r:=Ob this
   constructor
   ·show (lp mask h 0).1+(SetTable.runEnd mask (lp mask h 0).1-(lp mask h 0).1)≤mask
    omega
   ·exact this
  | succ n ih =>
   rw [pth]
   unfold adv
   split
   ·dsimp only;exact ⟨by omega,ih.2⟩
   ·have:(SetTable.leap mask (pth mask h n).i (pth mask h n).perturb).1≤mask:=Nat.le_of_lt_succ (Nat.mod_lt _ (Nat.succ_pos _))
    have r:=Ob this
    dsimp only
    exact ⟨by omega,this⟩
 exact BQ λhc=>k3 m hm ⟨hc,by have:=(le m).1;omega⟩
theorem VO {t:SetTable}(hd:t.dummies=#[])(hs:t.place.toList.Pairwise (·<·))(h:Int)(hashAt:Nat->Int){k:Nat}(hk:(pth t.mask h k).j∉t.place.toList)(hb:∀ m,m<k->(pth t.mask h m).j∈t.place.toList) :
  ∀ (f n:Nat),n≤k->k<n+f->∃ c,n≤c∧c≤k∧(∀ m i,n≤m->m<c->t.place.toList[i]? = some (pth t.mask h m).j->hashAt i≠h) ∧
   ((c=k∧SetTable.probe.go t hashAt h f (pth t.mask h n)=some (.empty (pth t.mask h k).j none))∨(c<k∧∃ i,t.place.toList[i]? = some (pth t.mask h c).j∧hashAt i=h∧SetTable.probe.go t hashAt h f (pth t.mask h n)=some (.candidate (pth t.mask h c).j i (pth t.mask h (c+1)))))
 | 0,n,h1,h2=>by omega
 | f+1,n,h1,h2=>by
  unfold SetTable.probe.go
  rcases O9 hd hs (pth t.mask h n).j with ⟨i,e,hi⟩|⟨e,hn⟩
  ·rw [e]
   dsimp only
   have nk:n<k:=by
    rcases B8 h1 with c|c
    ·exact c
    ·subst c
     exact absurd (Ak hi) hk
   have un:∀ i',t.place.toList[i']? = some (pth t.mask h n).j->i'=i:=λi' h'=>by
    have a:=Jb hd hs h'
    rw [e] at a
    cases a
    rfl
   by_cases c:hashAt i=h
   ·refine ⟨n,Ai _,h1,λm i a b=>by omega,.inr ⟨nk,i,hi,c,?_⟩⟩
    rw [if_pos (by simpa using c)]
    rfl
   ·obtain ⟨c',a1,a2,a3,a4⟩:=VO hd hs h hashAt hk hb f (n+1) nk (by omega)
    refine ⟨c',by omega,a2,λm i' b1 b2 b3=>?_,?_⟩
    ·rcases B8 b1 with b1|b1
     ·exact a3 m i' b1 b2 b3
     ·subst b1
      rw [un i' b3]
      exact c
    ·rw [if_neg (by simpa using c),WI]
     exact a4
  ·rw [e]
   dsimp only
   have:n=k:=by
    rcases B8 h1 with c|c
    ·exact absurd (hb n c) hn
    ·exact c
   subst this
   exact ⟨n,Ai _,Ai _,λm i a b=>by omega,.inl ⟨rfl,by rw [Ja]⟩⟩
theorem WS {α β:Type}{l1:List α}{l2:List β}{p:Nat}{a x:α}{b y:β}(hp:p≤l1.length)(hl:l1.length=l2.length){i:Nat}(h1:(l1.take p++a::l1.drop p)[i]? = some x)(h2:(l2.take p++b::l2.drop p)[i]? = some y):(x=a∧y=b)∨∃ i0:Nat,l1[i0]? = some x∧l2[i0]? = some y:=by
 rcases B1 i p with c|c|c
 ·rw [As (by rw [Az];omega),AR c] at h1 h2
  exact .inr ⟨i,h1,h2⟩
 ·subst c
  rw [AW (by rw [Az];omega),Az,Nat.min_eq_left hp,Nat.sub_self] at h1
  rw [AW (by rw [Az];omega),Az,Nat.min_eq_left (by omega),Nat.sub_self] at h2
  cases h1
  cases h2
  exact .inl ⟨rfl,rfl⟩
 ·rw [AW (by rw [Az];omega),Az,Nat.min_eq_left hp] at h1
  rw [AW (by rw [Az];omega),Az,Nat.min_eq_left (by omega)] at h2
  obtain ⟨q,hq⟩:∃ q,i-p=q+1:=⟨i-p-1,by omega⟩
  rw [hq,List.getElem?_cons_succ,List.getElem?_drop] at h1 h2
  exact .inr ⟨p+q,h1,h2⟩
theorem TW.put {mask:Nat}{pl:List Nat}{es:List (Int×Value)}(T:TW mask pl es){h:Int}{v:Value}{k p:Nat}(hk:k<10*SetTable.turns mask)(hn:(pth mask h k).j∉pl)(hb:∀ m,m<k->(pth mask h m).j∈pl)(hj:(pth mask h k).j≤mask)(hp:p≤pl.length)(hl:es.length<mask)
  (hs:(pl.take p++(pth mask h k).j::pl.drop p).Pairwise (·<·)):TW mask (pl.take p++(pth mask h k).j::pl.drop p) (es.take p++(h,v)::es.drop p):=by
 have mem:∀ x,x∈pl.take p++(pth mask h k).j::pl.drop p ↔ x=(pth mask h k).j∨x∈pl:=λx=>by
  have e:x∈pl ↔ x∈pl.take p∨x∈pl.drop p:=by rw [← AL,List.take_append_drop]
  rw [AL,Am,e]
  constructor
  ·rintro (a|a|a)
   ·exact .inr (.inl a)
   ·exact .inl a
   ·exact .inr (.inr a)
  ·rintro (a|a|a)
   ·exact .inr (.inl a)
   ·exact .inl a
   ·exact .inr (.inr a)
 have ll:=T.ln
 refine ⟨hs,?_,T.mo,?_,λj hj'=>?_,λi j e h1 h2=>?_⟩
 ·simp only [Ar,Az,List.length_cons,Bu]
  omega
 ·simp only [Ar,Az,List.length_cons,Bu]
  omega
 ·rcases (mem j).mp hj' with rfl|q
  ·exact hj
  ·exact T.bd j q
 ·rcases WS hp T.ln h1 h2 with ⟨rfl,rfl⟩|⟨i0,a,b⟩
  ·refine ⟨k,hk,rfl,λm hm=>(mem _).mpr ?_⟩
   rcases B8 hm with c|c
   ·exact .inr (hb m c)
   ·subst c
    exact .inl rfl
  ·obtain ⟨n,n1,n2,n3⟩:=T.rc i0 j e a b
   exact ⟨n,n1,n2,λm hm=>(mem _).mpr (.inr (n3 m hm))⟩
noncomputable def Occ (ow:Array (Option Nat))(j:Nat):Prop:=∃ c,ow[j]? = some (some c)
theorem OY {mask:Nat}{ow:Array (Option Nat)}(hz:ow.size=mask+1){h:Int}{r0:Nat}(hr:ow[(lp mask h r0).1]? = some none):∀ (f r n:Nat),pth mask h n=rn mask (lp mask h r)->n≤10*r->(∀ m,m<n->Occ ow (pth mask h m).j)->r≤r0->r0<r+f ->
  ∃ k,k≤10*r0+9∧SetTable.layClean.free mask ow f (lp mask h r).1 (lp mask h r).2=some (pth mask h k).j∧ow[(pth mask h k).j]? = some none∧(∀ m,m<k->Occ ow (pth mask h m).j)∧(pth mask h k).j≤mask
 | 0,r,n,_,_,_,h1,h2=>by omega
 | f+1,r,n,e,hn,ho,h1,h2=>by
  have le:=OQ mask h r
  have rl:=Ob le
  have re:(lp mask h r).1≤SetTable.runEnd mask (lp mask h r).1:=by unfold SetTable.runEnd;split<;>omega
  have r9:=OS (mask:=mask) (i:=(lp mask h r).1)
  have at_:∀ q,q<SetTable.runEnd mask (lp mask h r).1+1-(lp mask h r).1->(pth mask h (n+q)).j=(lp mask h r).1+q:=λq hq=>by
   rw [MD e q (by omega)]
  have val:∀ q,q<SetTable.runEnd mask (lp mask h r).1+1-(lp mask h r).1->∃ o,ow[(lp mask h r).1+q]? = some o∧ow.getD ((lp mask h r).1+q) (some 0)=o:=λq hq=>by
   have hl:(lp mask h r).1+q<ow.size:=by omega
   refine ⟨_,Aq hl,?_⟩
   rw [Bb,Aq hl]
   rfl
  unfold SetTable.layClean.free
  cases c:(List.range (SetTable.runEnd mask (lp mask h r).1+1-(lp mask h r).1)).find? (λk=>(ow.getD ((lp mask h r).1+k) (some 0)).isNone) with
  | some q =>
   obtain ⟨a,b,d⟩:=List.find?_range_eq_some.mp c
   have hq:=AX.mp b
   obtain ⟨o,o1,o2⟩:=val q hq
   rw [o2] at a
   have oN:o=none:=by simpa using a
   subst oN
   dsimp only
   refine ⟨n+q,by omega,by rw [at_ q hq],by rw [at_ q hq];exact o1,λm hm=>?_,by rw [at_ q hq];omega⟩
   rcases BH m n with c2|c2
   ·exact ho m c2
   ·obtain ⟨x,rfl⟩:∃ x,m=n+x:=⟨m-n,by omega⟩
    have hx:x<q:=by omega
    obtain ⟨o,u1,u2⟩:=val x (by omega)
    have:=d x hx
    rw [u2] at this
    cases o with
    | none=>simp at this
    | some c=>exact ⟨c,by rw [at_ x (by omega)];exact u1⟩
  | none =>
   have d:=List.find?_range_eq_none.mp c
   dsimp only
   have ne:r≠r0:=λz=>by
    subst z
    have:=d 0 (by omega)
    obtain ⟨o,u1,u2⟩:=val 0 (by omega)
    rw [u2] at this
    rw [Nat.add_zero,hr] at u1
    cases u1
    simp at this
   refine OY hz hr f (r+1) (n+(SetTable.runEnd mask (lp mask h r).1-(lp mask h r).1)+1) ?_ (by omega) (λm hm=>?_) (by omega) (by omega)
   ·rw [pth,MD e _ (Ai _)]
    unfold adv
    dsimp only
    rw [if_neg (by omega)]
    rfl
   ·rcases BH m n with c2|c2
    ·exact ho m c2
    ·obtain ⟨x,rfl⟩:∃ x,m=n+x:=⟨m-n,by omega⟩
     obtain ⟨o,u1,u2⟩:=val x (by omega)
     have:=d x (by omega)
     rw [u2] at this
     cases o with
     | none=>simp at this
     | some c=>exact ⟨c,by rw [at_ x (by omega)];exact u1⟩
structure OI (mask:Nat) (hs:List Int) (ow:Array (Option Nat)) (k:Nat):Prop where
 sz:ow.size=mask+1
 rc:∀ (j c:Nat),ow[j]? = some (some c)->c<k∧∃ hc,hs[c]? = some hc∧∃ n,n<10*SetTable.turns mask∧(pth mask hc n).j=j∧∀ m,m≤n->Occ ow (pth mask hc m).j
 on:∀ c,c<k->∃ j:Nat,ow[j]? = some (some c)
 inj:∀ (j j' c:Nat),ow[j]? = some (some c)->ow[j']? = some (some c)->j=j'
theorem OI.room {mask:Nat}{hs:List Int}{ow:Array (Option Nat)}{k:Nat}(O:OI mask hs ow k)(hk:k≤mask):∃ j,j≤mask∧ow[j]? = some none:=by
 apply BQ
 intro hc
 have all:∀ j,j≤mask->∃ c,ow[j]? = some (some c):=λj hj=>by
  have hl:j<ow.size:=by rw [O.sz];omega
  cases e:ow[j] with
  | none=>exact absurd ⟨j,hj,by rw [Aq hl,e]⟩ hc
  | some c=>exact ⟨c,by rw [Aq hl,e]⟩
 have f:∀ j,∃ c,j≤mask->ow[j]? = some (some c):=λj=>by
  by_cases hj:j≤mask
  ·obtain ⟨c,e⟩:=all j hj
   exact ⟨c,λ_=>e⟩
  ·exact ⟨0,λh=>absurd h hj⟩
 have g:∃ g:Nat->Nat,∀ j,j≤mask->ow[j]? = some (some (g j)):=⟨λj=>(f j).choose,λj=>(f j).choose_spec⟩
 obtain ⟨g,hg⟩:=g
 have nd:((List.range (mask+1)).map g).Nodup:=by
  rw [AE,Bl]
  refine BE (λ{a b} ha hb hne e=>hne ?_) (AE.mp Ci)
  have ha':=hg a (by have:=AX.mp ha;omega)
  have hb':=hg b (by have:=AX.mp hb;omega)
  rw [e] at ha'
  exact O.inj a b _ ha' hb'
 have:=MR (b:=List.range k) nd λx hx=>by
  obtain ⟨j,hj,rfl⟩:=Ap.mp hx
  exact AX.mpr (O.rc j _ (hg j (by have:=AX.mp hj;omega))).1
 rw [Ag,Bx,Bx] at this
 omega
theorem OI.step {mask:Nat}(hm:GJ mask){hs:List Int}{ow:Array (Option Nat)}{k:Nat}(O:OI mask hs ow k)(hk:k≤mask){h:Int}(hh:hs[k]? = some h):∃ j,SetTable.layClean.free mask ow (SetTable.turns mask) (SetTable.bits h % (mask+1)) (SetTable.bits h)=some j∧OI mask hs (ow.setIfInBounds j (some k)) (k+1):=by
 obtain ⟨e,he,hn⟩:=O.room hk
 obtain ⟨m,h1,h2⟩:=Pr hm (OQ mask h 13) he
 have hr:ow[(lp mask h (13+m)).1]? = some none:=by rw [Q7,h2];exact hn
 obtain ⟨q,q1,q2,q3,q4,q5⟩:=OY O.sz hr (SetTable.turns mask) 0 0 rfl (Ai _) (λm h=>absurd h (Nat.not_lt_zero _)) (AZ _) (by unfold SetTable.turns;omega)
 refine ⟨(pth mask h q).j,q2,?_⟩
 have hl:(pth mask h q).j<ow.size:=by rw [O.sz];omega
 have get:∀ j',(ow.setIfInBounds (pth mask h q).j (some k))[j']? = if (pth mask h q).j=j' then some (some k) else ow[j']?:=λj'=>by
  (rw [Array.getElem?_setIfInBounds])
  by_cases c:(pth mask h q).j=j'
  ·rw [if_pos c,if_pos c,if_pos hl]
  ·rw [if_neg c,if_neg c]
 have up:∀ j',Occ ow j'->Occ (ow.setIfInBounds (pth mask h q).j (some k)) j':=λj' ⟨c,hc⟩=>by
  refine ⟨c,?_⟩
  rw [get,if_neg,hc]
  rintro rfl
  rw [q3] at hc
  cases hc
 have own:Occ (ow.setIfInBounds (pth mask h q).j (some k)) (pth mask h q).j:=⟨k,by rw [get,if_pos rfl]⟩
 refine ⟨by rw [Array.size_setIfInBounds];exact O.sz,λj' c hc=>?_,λc hc=>?_,λa b c ha hb=>?_⟩
 ·rw [get] at hc
  by_cases x:(pth mask h q).j=j'
  ·rw [if_pos x] at hc
   cases hc
   refine ⟨A1 _,h,hh,q,by unfold SetTable.turns;omega,x,λm hm=>?_⟩
   rcases B8 hm with c|c
   ·exact up _ (q4 m c)
   ·subst c;exact own
  ·rw [if_neg x] at hc
   obtain ⟨a,hc',b,n,n1,n2,n3⟩:=O.rc j' c hc
   exact ⟨by omega,hc',b,n,n1,n2,λm hm=>up _ (n3 m hm)⟩
 ·rcases B8 (Nat.le_of_lt_succ hc) with x|x
  ·obtain ⟨j',hj'⟩:=O.on c x
   refine ⟨j',?_⟩
   rw [get,if_neg,hj']
   rintro rfl
   rw [q3] at hj'
   cases hj'
  ·subst x
   exact ⟨_,by rw [get,if_pos rfl]⟩
 ·rw [get] at ha hb
  by_cases x:(pth mask h q).j=a
  ·by_cases y:(pth mask h q).j=b
   ·omega
   ·rw [if_pos x] at ha
    rw [if_neg y] at hb
    cases ha
    have:=(O.rc b k hb).1
    omega
  ·rw [if_neg x] at ha
   by_cases y:(pth mask h q).j=b
   ·rw [if_pos y] at hb
    cases hb
    have:=(O.rc a k ha).1
    omega
   ·rw [if_neg y] at hb
    exact O.inj a b c ha hb
theorem OI.start (mask:Nat)(hs:List Int):OI mask hs (Array.replicate (mask+1) none) 0:=by
 have no:∀ j c:Nat,(Array.replicate (mask+1) (none:Option Nat))[j]?≠some (some c):=λj c h=>by
  rw [Array.getElem?_replicate] at h
  split at h<;>cases h
 exact ⟨by simp,λj c h=>absurd h (no j c),λc h=>absurd h (Nat.not_lt_zero _),λa b c h=>absurd h (no a c)⟩
theorem XO {mask:Nat}(hm:GJ mask)(hs:Array Int)(hl:hs.size≤mask):∃ ow,SetTable.layClean mask hs=some ow∧OI mask hs.toList ow hs.size:=by
 have key:∀ (l2 l1:List Int) (ow:Array (Option Nat)),l1++l2=hs.toList->OI mask hs.toList ow l1.length->∃ ow',(l2.foldl (λ(acc:Option (Array (Option Nat)×Nat)) h=>(do
   let (owner,k)←acc
   let j←SetTable.layClean.free mask owner (SetTable.turns mask) (SetTable.bits h % (mask+1)) (SetTable.bits h)
   pure (owner.setIfInBounds j (some k),k+1):Option (Array (Option Nat)×Nat))) (some (ow,l1.length)))=some (ow',hs.size)∧OI mask hs.toList ow' hs.size:=by
  intro l2
  induction l2 with
  | nil =>
   intro l1 ow e O
   have:l1.length=hs.size:=by rw [← Array.length_toList,← e,List.append_nil]
   rw [this] at O ⊢
   exact ⟨ow,rfl,O⟩
  | cons h l2 ih =>
   intro l1 ow e O
   have hlen:l1.length+(l2.length+1)=hs.size:=by rw [← Array.length_toList,← e,Ar,List.length_cons]
   have hh:hs.toList[l1.length]? = some h:=by rw [← e,AW (Ai _),Nat.sub_self];rfl
   obtain ⟨j,j1,j2⟩:=O.step hm (by omega) hh
   obtain ⟨ow',a,b⟩:=ih (l1++[h]) (ow.setIfInBounds j (some l1.length)) (by rw [← e,List.append_assoc];rfl) (by rw [Ar,List.length_singleton];exact j2)
   refine ⟨ow',?_,b⟩
   rw [List.foldl_cons]
   rw [Ar,List.length_singleton] at a
   have st:(do
    let (owner,k)←(some (ow,l1.length):Option (Array (Option Nat)×Nat))
    let j←SetTable.layClean.free mask owner (SetTable.turns mask) (SetTable.bits h % (mask+1)) (SetTable.bits h)
    pure (owner.setIfInBounds j (some k),k+1):Option (Array (Option Nat)×Nat))=some (ow.setIfInBounds j (some l1.length),l1.length+1):=by
    show (SetTable.layClean.free mask ow (SetTable.turns mask) (SetTable.bits h % (mask+1)) (SetTable.bits h)).bind _=_
    rw [j1]
    rfl
   rw [st]
   exact a
 obtain ⟨ow,a,b⟩:=key hs.toList [] _ rfl (OI.start mask hs.toList)
 refine ⟨ow,?_,b⟩
 unfold SetTable.layClean
 rw [← Array.foldl_toList]
 have a':=congrArg (Option.map Prod.fst) a
 exact a'
theorem Rm {α β:Type}{f:α->Option β}{g:α->β}:∀ {l:List α},(∀ x∈l,f x=some (g x))->l.filterMap f=l.map g
 | [],_=>rfl
 | x::l,h=>by
  rw [List.filterMap_cons,h x (.head _)]
  dsimp only
  rw [Rm λx hx=>h x (.tail _ hx),Bf]
theorem O7 {α:Type} [DecidableEq α]:∀ {a b:List α},a.Nodup->b.Nodup->(∀ x,x∈a ↔ x∈b)->a.Perm b
 | [],b,_,_,h=>by
  cases b with
  | nil=>exact .nil
  | cons y b=>exact absurd ((h y).mpr (.head _)) (by simp)
 | x::a,b,na,nb,h=>by
  have hx:x∈b:=(h x).mp (.head _)
  rw [Br] at na
  have:=O7 (a:=a) (b:=b.erase x) na.2 (nb.erase x) λy=>by
   constructor
   ·intro hy
    have ne:y≠x:=λe=>na.1 (e▸hy)
    exact (List.mem_erase_of_ne ne).mpr ((h y).mp (.tail _ hy))
   ·intro hy
    have ne:y≠x:=λe=>by
     subst e
     exact (List.Nodup.mem_erase_iff nb).mp hy |>.1 rfl
    rcases Am.mp ((h y).mpr (List.mem_of_mem_erase hy)) with e|e
    ·exact absurd e ne
    ·exact e
  exact (this.cons x).trans (List.perm_cons_erase hx).symm
theorem Up {mask:Nat}(hm:GJ mask)(finger moves:Nat)(led plain:Bool)(es:Array (Int×Value))(hl:es.size≤mask) :
  ∃ t order,SetTable.laid mask finger moves led plain (es.map (·.1))=some (t,order)∧t.mask=mask∧t.dummies=#[]∧t.led=led∧t.plain=plain∧(order.filterMap (es[·]?)).toList.Perm es.toList∧TW mask t.place.toList (order.filterMap (es[·]?)).toList:=by
 obtain ⟨ow,e,O⟩:=XO hm (es.map (·.1)) (by rw [Array.size_map];exact hl)
 rw [Array.size_map] at O
 have hsz:=O.sz
 generalize hL:(List.range (mask+1)).filterMap (λj=>(ow.getD j none).map (λc=>(j,c)))=L
 have mem:∀ (j c:Nat),(j,c)∈L ↔ ow[j]? = some (some c):=λj c=>by
  rw [← hL,List.mem_filterMap]
  constructor
  ·rintro ⟨a,ha,hb⟩
   have la:a<ow.size:=by have:=AX.mp ha;omega
   rw [Bb,Aq la] at hb
   cases q:ow[a] with
   | none=>rw [q] at hb;cases hb
   | some d =>
    rw [q] at hb
    cases hb
    rw [Aq la,q]
  ·intro h
   have la:=(Array.getElem?_eq_some_iff.mp h).1
   refine ⟨j,AX.mpr (by omega),?_⟩
   rw [Bb,h]
   rfl
 have srt:(L.map (·.1)).Pairwise (·<·):=by
  rw [← hL,Bl]
  refine List.Pairwise.filterMap _ (λa a' hlt b hb b' hb'=>?_) List.pairwise_lt_range
  cases q:ow.getD a none with
  | none=>rw [q] at hb;cases hb
  | some d =>
   cases q':ow.getD a' none with
   | none=>rw [q'] at hb';cases hb'
   | some d' =>
    rw [q] at hb
    rw [q'] at hb'
    cases hb
    cases hb'
    exact hlt
 have snd:∀ p∈L,es[p.2]? = some (es.getD p.2 default):=λp hp=>by
  have:=(O.rc p.1 p.2 ((mem p.1 p.2).mp hp)).1
  rw [Bb,Aq this]
  rfl
 have ee:((L.map (·.2)).toArray.filterMap (es[·]?)).toList=L.map (λp=>es.getD p.2 default):=by
  rw [Array.toList_filterMap,List.filterMap_map]
  exact Rm snd
 refine ⟨{ mask,place:=(L.map (·.1)).toArray,dummies:=#[],finger,led,moves,plain },(L.map (·.2)).toArray,?_,rfl,rfl,rfl,rfl,?_,?_⟩
 ·unfold SetTable.laid
  rw [e]
  show some (_,_)=some (_,_)
  rw [hL]
 ·rw [ee]
  have p1:(L.map (·.2)).Perm (List.range es.size):=by
   refine O7 ?_ Ci λc=>?_
   ·rw [AE,Bl]
    have:=Bl.mp srt
    refine BE (λ{a b} ha hb hlt e=>?_) this
    have h1:=(mem a.1 a.2).mp ha
    have h2:=(mem b.1 b.2).mp hb
    rw [e] at h1
    have:=O.inj _ _ _ h1 h2
    omega
   ·rw [AX,Ap]
    constructor
    ·rintro ⟨p,hp,rfl⟩
     exact (O.rc p.1 p.2 ((mem p.1 p.2).mp hp)).1
    ·intro hc
     obtain ⟨j,hj⟩:=O.on c hc
     exact ⟨(j,c),(mem j c).mpr hj,rfl⟩
  have p2:=p1.map (λc=>es.getD c default)
  rw [BN] at p2
  refine p2.trans ?_
  have:(List.range es.size).map (λc=>es.getD c default)=es.toList:=by
   apply List.ext_getElem
   ·rw [Ag,Bx,Array.length_toList]
   ·intro i h1 h2
    rw [List.getElem_map,List.getElem_range,Bb]
    rw [Array.length_toList] at h2
    rw [Aq h2]
    rfl
  rw [this]
 ·rw [ee]
  have ll:(L.map (λp=>es.getD p.2 default)).length=es.size:=by
   have:L.length=es.size:=by
    have nd:(L.map (·.2)).Nodup:=by
     rw [AE,Bl]
     have:=Bl.mp srt
     refine BE (λ{a b} ha hb hlt e=>?_) this
     have h1:=(mem a.1 a.2).mp ha
     have h2:=(mem b.1 b.2).mp hb
     rw [e] at h1
     have:=O.inj _ _ _ h1 h2
     omega
    have a:=MR (b:=List.range es.size) nd λc hc=>by
     obtain ⟨p,hp,rfl⟩:=Ap.mp hc
     exact AX.mpr (O.rc p.1 p.2 ((mem p.1 p.2).mp hp)).1
    have b:=MR (a:=List.range es.size) (b:=L.map (·.2)) Ci λc hc=>by
     obtain ⟨j,hj⟩:=O.on c (AX.mp hc)
     exact Ap.mpr ⟨(j,c),(mem j c).mpr hj,rfl⟩
    rw [Ag,Bx] at a b
    omega
   rw [Ag,this]
  have occ:∀ j,Occ ow j ↔ j∈L.map (·.1):=λj=>by
   rw [Ap]
   constructor
   ·rintro ⟨c,hc⟩
    exact ⟨(j,c),(mem j c).mpr hc,rfl⟩
   ·rintro ⟨p,hp,rfl⟩
    exact ⟨p.2,(mem p.1 p.2).mp hp⟩
  refine ⟨srt,by rw [Ag,Ag],hm,by rw [ll];exact hl,λj hj=>?_,λi j e' h1 h2=>?_⟩
  ·obtain ⟨c,hc⟩:=(occ j).mpr hj
   have:=(Array.getElem?_eq_some_iff.mp hc).1
   omega
  ·have h1':(L.map (·.1))[i]? = some j:=h1
   rw [Al] at h1' h2
   cases q:L[i]? with
   | none=>rw [q] at h1';cases h1'
   | some p =>
    rw [q] at h1' h2
    have e1:p.1=j:=AB h1'
    have e2:es.getD p.2 default=e':=AB h2
    have hp:=Ak q
    obtain ⟨a,hc,b,n,n1,n2,n3⟩:=O.rc p.1 p.2 ((mem p.1 p.2).mp hp)
    have:hc=e'.1:=by
     rw [Array.toList_map,Al,Ax,snd p hp,e2] at b
     exact (AB b).symm
    subst this
    exact ⟨n,n1,by rw [n2,e1],λm hm=>(occ _).mp (n3 m hm)⟩
section
variable {prog:Program} {w:World} {A:Around} {E:Value->Shared->Prop} {s:Shared}
theorem NY {i t:Addr}{k:Nat}{its:Array Value}{x:Value}{Q:Value->Shared->Prop}(g:s.heap.IsTupleIter i t k)(p:s.heap.IsTuple t its)(e:its[k]? = some x)
  (q:∀ h',h'.IsTupleIter i t (k+1)->Heap.SameBut i s.heap h'->Q x { s with heap:=h' }):wpAny (model prog w) A (Builtin.SmallTypes.nextOf (.ref i)) Q E s:=by
 obtain ⟨ob,g1,g2,g3⟩:=id g
 obtain ⟨tb,p1,p2,n,p3⟩:=p
 (unfold Builtin.SmallTypes.nextOf)
 refine Aa (AM (name:=Str.ofString "__next__") g.typeIs Cj (AO Cj g.typeIs F.entry_tuple_iterator_next (?_:wpAny _ _ (field (.ref i) 0 >>= _) _ _ _) (F.args_tuple_iterator_next_1 _)))
 refine Aa (Bp g1 g3 (x:=.ref t) rfl (?_:wpAny _ _ (if (Value.ref t==Value.none)=true then _ else _) _ _ _))
 have nn:¬ ((Value.ref t==Value.none)=true):=AG
 rw [if_neg nn]
 refine Aa (m:=field (.ref i) 1) (Bp g1 g3 (x:=.int k 0) rfl (?_:wpAny _ _ (seqItems? (.ref t) >>= _) _ _ _))
 refine Aa (Bz p1 p3 ?_)
 simp only [Int.toNat_natCast,e]
 refine Aa (Bj g1 g3 (by simp) (Ac ⟨x,rfl,Ac (q _ ⟨_,AS _ g1 (Obj.isFreed_of_fields (Obj.data_mapFields g3 _)),(Obj.cls_mapFields ..).trans g2,?_⟩ (AA ..))⟩))
 rw [Obj.data_mapFields g3]
 simp [rawInt]
theorem RT {i t:Addr}{k:Nat}{its:Array Value}{Q:Value->Shared->Prop}(hh:A.handled=none)(g:s.heap.IsTupleIter i t k)(p:s.heap.IsTuple t its)(e:its[k]? = none)
  (q:∀ h' b,Heap.ExtBut i s.heap h'->(∃ o,h'.get? b=some o∧o.cls=.type "StopIteration")->E (.ref b) { s with heap:=h' }):wpAny (model prog w) A (Builtin.SmallTypes.nextOf (.ref i)) Q E s:=by
 obtain ⟨ob,g1,g2,g3⟩:=id g
 obtain ⟨tb,p1,p2,n,p3⟩:=p
 (unfold Builtin.SmallTypes.nextOf)
 refine Aa (AM (name:=Str.ofString "__next__") g.typeIs Cj (AO Cj g.typeIs F.entry_tuple_iterator_next (?_:wpAny _ _ (field (.ref i) 0 >>= _) _ _ _) (F.args_tuple_iterator_next_1 _)))
 refine Aa (Bp g1 g3 (x:=.ref t) rfl (?_:wpAny _ _ (if (Value.ref t==Value.none)=true then _ else _) _ _ _))
 have nn:¬ ((Value.ref t==Value.none)=true):=AG
 rw [if_neg nn]
 refine Aa (m:=field (.ref i) 1) (Bp g1 g3 (x:=.int k 0) rfl (?_:wpAny _ _ (seqItems? (.ref t) >>= _) _ _ _))
 refine Aa (Bz p1 p3 ?_)
 simp only [Int.toNat_natCast,e]
 refine Aa (BS (Aa (Bj g1 g3 (by simp) (?_:wpAny _ _ (newExc (.type "StopIteration") [] >>= _) _ _ _))))
 refine Aa ?_
 simp only [newExc,newTuple]
 refine Aa (AU (Aa (m:=firstArgMember _ _) (wpAny_of_eq (a:=Value.none) (by first|rfl|(simp only [firstArgMember];rfl)) (AU ?_ (by size_fits)))) (by size_fits))
 simp only [raiseNew]
 refine Aa (wpAny_handled ?_)
 first|rw [show A.in1.handled=none from hh]|rw [hh]
 exact Aa (Ac (wpAny_throw (q _ _ (((AA ..).extBut.push _).push _) ⟨_,Aj _ rfl,rfl⟩)))
noncomputable def zTu (z TI TO i1 i2 l1 l2:Addr)(k:Nat)(h:Heap):Prop:=
 IsZip h z TI TO .none∧IsPair h TI (.ref i1) (.ref i2)∧(∃ a b,IsPair h TO a b)∧h.IsTupleIter i1 l1 k∧h.IsTupleIter i2 l2 k
theorem Sd {z TI TO i1 i2 l1 l2:Addr}{k:Nat}{xs ys:Array Value}{x y:Value}{Q:Value->Shared->Prop}(D:ZipApart z TI TO i1 i2 l1 l2)(g:zTu z TI TO i1 i2 l1 l2 k s.heap)
  (p1:s.heap.IsTuple l1 xs) (p2:s.heap.IsTuple l2 ys) (ex:xs[k]? = some x) (ey:ys[k]? = some y)
  (q:∀ h',IsZip h' z TI TO (rawInt s.heap.objs.size)->IsPair h' TO x y->h'.IsTupleIter i1 l1 (k+1)->h'.IsTupleIter i2 l2 (k+1)->IsPair h' s.heap.objs.size x y ->
   (∀ c o,c≠z->c≠TO->c≠i1->c≠i2->s.heap.get? c=some o->h'.get? c=some o)->Q (.ref s.heap.objs.size) { s with heap:=h' }) :
  wpAny (model prog w) A (Builtin.«zip.__next__» ⟨[.ref z],[]⟩) (λfin s'=>∃ v,fin=.done (.ret v)∧Q v s') E s:=by
 obtain ⟨g1,g2,⟨a,b,g3⟩,g4,g5⟩:=g
 refine (?_:wpAny _ _ (field (.ref z) 2 >>= _) _ _ _)
 refine Aa (Bp g1 rfl (x:=.bool false) rfl (?_:wpAny _ _ (field (.ref z) 3 >>= _) _ _ _))
 refine Aa (Bp g1 rfl (x:=.ref TI) rfl (Aa (Bz g2 rfl (?_:wpAny _ _ (Builtin.SmallTypes.ownedTupleIsFree (.ref z) >>= _) _ _ _))))
 refine Aa ?_
 (unfold Builtin.SmallTypes.ownedTupleIsFree)
 refine Aa (Bp g1 rfl (x:=.none) rfl (Ac ?_))
 simp only [if_true]
 refine Aa (BS (Aa (Bp g1 rfl (x:=.ref TO) rfl (Aa (wpAny_setField_rec g1 (by simp) λq1 z1 b1=>?_)))))
 replace z1:IsZip q1 z TI TO .ellipsis:=z1
 refine Aa ?_
 simp only [List.zipIdx_cons,List.zipIdx_nil,Cd,List.forIn_nil]
 refine Aa (Aa (wpAny_onRaise (?_:wpAny _ _ (Builtin.SmallTypes.nextOf (.ref i1) >>= _) _ _ _)))
 refine Aa (NY (g4.extBut b1.extBut D.i1z) (p1.extBut b1.extBut D.l1z) ex λq2 n1 b2=>Ac ?_)
 have o2:IsPair q2 TO a b:=b2.extBut _ _ D.TOi1 (b1.extBut _ _ D.TOz g3)
 refine Aa (Bz o2 rfl (Aa (wpAny_updateSeq_pair o2 λq3 o3 b3=>Aa (wpAny_letGo (Ac ?_)))))
 replace o3:IsPair q3 TO x b:=o3
 refine Aa (Aa (wpAny_onRaise (?_:wpAny _ _ (Builtin.SmallTypes.nextOf (.ref i2) >>= _) _ _ _)))
 refine Aa (NY (((g5.extBut b1.extBut D.i2z).extBut b2.extBut D.i12.symm).extBut b3.extBut D.TOi2.symm) (((p2.extBut b1.extBut D.l2z).extBut b2.extBut D.l2i1).extBut b3.extBut D.l2TO) ey λq4 n2 b4=>Ac ?_)
 have o4:IsPair q4 TO x b:=b4.extBut _ _ D.TOi2 o3
 refine Aa (Bz o4 rfl (Aa (wpAny_updateSeq_pair o4 λq5 o5 b5=>Aa (wpAny_letGo (Ac (Ac ?_))))))
 replace o5:IsPair q5 TO x y:=o5
 refine Aa (Bz o5 rfl (Aa (wpAny_newTuple ?_)))
 have sz:q5.objs.size=s.heap.objs.size:=by rw [b5.1,b4.1,b3.1,b2.1,b1.1]
 have z5:IsZip q5 z TI TO .ellipsis:=b5.extBut _ _ D.TOz.symm (b4.extBut _ _ D.i2z.symm (b3.extBut _ _ D.TOz.symm (b2.extBut _ _ D.i1z.symm z1)))
 have k5:∀ c o,c≠z->c≠TO->c≠i1->c≠i2->s.heap.get? c=some o->q5.get? c=some o:=λc o d1 d2 d3 d4 e=>b5.extBut _ _ d2 (b4.extBut _ _ d4 (b3.extBut _ _ d2 (b2.extBut _ _ d3 (b1.extBut _ _ d1 e))))
 have m1:q5.IsTupleIter i1 l1 (k+1):=((n1.extBut b3.extBut D.TOi1.symm).extBut b4.extBut D.i12).extBut b5.extBut D.TOi1.symm
 have m2:q5.IsTupleIter i2 l2 (k+1):=n2.extBut b5.extBut D.TOi2.symm
 have zl:q5.objs.size≠z:=Nat.ne_of_gt (Ao z5)
 refine (?_:wpAny _ _ (Builtin.SmallTypes.ownedTupleHandOut (.ref z) (.ref q5.objs.size) >>= _) _ _ _)
 refine Aa ?_
 (unfold Builtin.SmallTypes.ownedTupleHandOut)
 have z6:IsZip (q5.push { cls:=.type "tuple",data:=.seq #[x,y] }) z TI TO .ellipsis:=Ad _ z5
 refine Aa (wpAny_setField_rec z6 (by simp) λq7 z7 b7=>?_)
 replace z7:IsZip q7 z TI TO (rawInt q5.objs.size):=z7
 refine wpAny_setField_rec z7 (by simp) λq8 z8 b8=>?_
 replace z8:IsZip q8 z TI TO (rawInt q5.objs.size):=z8
 have up:∀ c o,c≠z->q5.get? c=some o->q8.get? c=some o:=λc o d e=>b8.extBut _ _ d (b7.extBut _ _ d (Ad _ e))
 have nw:IsPair q8 q5.objs.size x y:=b8.extBut _ _ zl (b7.extBut _ _ zl (Aj _ rfl))
 rw [sz] at z8 nw
 refine Ac ⟨_,rfl,?_⟩
 rw [sz]
 exact q q8 z8 (up _ _ D.TOz o5) (m1.at λo e=>up _ o D.i1z e) (m2.at λo e=>up _ o D.i2z e) nw λc o d1 d2 d3 d4 e=>up c o d1 (k5 c o d1 d2 d3 d4 e)
theorem Tq {z TI TO i1 i2 l1 l2:Addr}{k:Nat}{xs ys:Array Value}{Q:PySem.Fin->Shared->Prop}(hh:A.handled=none)(D:ZipApart z TI TO i1 i2 l1 l2)(g:zTu z TI TO i1 i2 l1 l2 k s.heap)
  (p1:s.heap.IsTuple l1 xs) (p2:s.heap.IsTuple l2 ys) (en:xs[k]? = none∨ys[k]? = none)
  (q:∀ h' e,(∀ c o,c≠z->c≠TO->c≠i1->c≠i2->s.heap.get? c=some o->h'.get? c=some o)->(∃ o,h'.get? e=some o∧o.cls=.type "StopIteration")->E (.ref e) { s with heap:=h' }) :
  wpAny (model prog w) A (Builtin.«zip.__next__» ⟨[.ref z],[]⟩) Q E s:=by
 obtain ⟨g1,g2,⟨a,b,g3⟩,g4,g5⟩:=g
 refine (?_:wpAny _ _ (field (.ref z) 2 >>= _) _ _ _)
 refine Aa (Bp g1 rfl (x:=.bool false) rfl (?_:wpAny _ _ (field (.ref z) 3 >>= _) _ _ _))
 refine Aa (Bp g1 rfl (x:=.ref TI) rfl (Aa (Bz g2 rfl (?_:wpAny _ _ (Builtin.SmallTypes.ownedTupleIsFree (.ref z) >>= _) _ _ _))))
 refine Aa ?_
 (unfold Builtin.SmallTypes.ownedTupleIsFree)
 refine Aa (Bp g1 rfl (x:=.none) rfl (Ac ?_))
 simp only [if_true]
 refine Aa (BS (Aa (Bp g1 rfl (x:=.ref TO) rfl (Aa (wpAny_setField_rec g1 (by simp) λq1 z1 b1=>?_)))))
 replace z1:IsZip q1 z TI TO .ellipsis:=z1
 refine Aa ?_
 simp only [List.zipIdx_cons,List.zipIdx_nil,Cd,List.forIn_nil]
 refine Aa (Aa (wpAny_onRaise (?_:wpAny _ _ (Builtin.SmallTypes.nextOf (.ref i1) >>= _) _ _ _)))
 cases ex:xs[k]? with
 | none =>
  refine Aa (RT hh (g4.extBut b1.extBut D.i1z) (p1.extBut b1.extBut D.l1z) ex λq2 e b2 he=>?_)
  obtain ⟨oe,he1,he2⟩:=he
  have z2:IsZip q2 z TI TO .ellipsis:=b2 _ _ D.i1z.symm z1
  have ne:e≠z:=λu=>by subst u;rw [z2] at he1;cases he1;simp at he2
  exact wpAny_setField_rec z2 (by simp) λq3 _ b3=>q q3 e (λc o d1 _ d3 _ u=>b3.extBut _ _ d1 (b2 _ _ d3 (b1.extBut _ _ d1 u))) ⟨oe,b3.extBut _ _ ne he1,he2⟩
 | some x =>
  have ey:ys[k]? = none:=en.resolve_left λu=>by rw [ex] at u;cases u
  refine Aa (NY (g4.extBut b1.extBut D.i1z) (p1.extBut b1.extBut D.l1z) ex λq2 n1 b2=>Ac ?_)
  have o2:IsPair q2 TO a b:=b2.extBut _ _ D.TOi1 (b1.extBut _ _ D.TOz g3)
  refine Aa (Bz o2 rfl (Aa (wpAny_updateSeq_pair o2 λq3 o3 b3=>Aa (wpAny_letGo (Ac ?_)))))
  refine Aa (Aa (wpAny_onRaise (?_:wpAny _ _ (Builtin.SmallTypes.nextOf (.ref i2) >>= _) _ _ _)))
  refine Aa (RT hh (((g5.extBut b1.extBut D.i2z).extBut b2.extBut D.i12.symm).extBut b3.extBut D.TOi2.symm) (((p2.extBut b1.extBut D.l2z).extBut b2.extBut D.l2i1).extBut b3.extBut D.l2TO) ey λq4 e b4 he=>?_)
  obtain ⟨oe,he1,he2⟩:=he
  have z4:IsZip q4 z TI TO .ellipsis:=b4 _ _ D.i2z.symm (b3.extBut _ _ D.TOz.symm (b2.extBut _ _ D.i1z.symm z1))
  have ne:e≠z:=λu=>by subst u;rw [z4] at he1;cases he1;simp at he2
  exact wpAny_setField_rec z4 (by simp) λq5 _ b5=>q q5 e (λc o d1 d2 d3 d4 u=>b5.extBut _ _ d1 (b4 _ _ d4 (b3.extBut _ _ d2 (b2.extBut _ _ d3 (b1.extBut _ _ d1 u))))) ⟨oe,b5.extBut _ _ ne he1,he2⟩
theorem N0 {z TI TO i1 i2 l1 l2:Addr}{k:Nat}{xs ys:Array Value}{x y:Value}{Q:Option Value->Shared->Prop}(D:ZipApart z TI TO i1 i2 l1 l2)(g:zTu z TI TO i1 i2 l1 l2 k s.heap)
  (p1:s.heap.IsTuple l1 xs) (p2:s.heap.IsTuple l2 ys) (ex:xs[k]? = some x) (ey:ys[k]? = some y)
  (q:∀ h',IsZip h' z TI TO (rawInt s.heap.objs.size)->IsPair h' TO x y->h'.IsTupleIter i1 l1 (k+1)->h'.IsTupleIter i2 l2 (k+1)->IsPair h' s.heap.objs.size x y ->
   (∀ c o,c≠z->c≠TO->c≠i1->c≠i2->s.heap.get? c=some o->h'.get? c=some o)->Q (some (.ref s.heap.objs.size)) { s with heap:=h' }) :
  wpAny (model prog w) A (pyNext (.ref z)) Q E s:=by
 have ty:s.TypeIs (.ref z) "zip":=⟨_,g.1,rfl⟩
 unfold pyNext
 exact Aa (wpAny_attempt (AM (name:=Str.ofString "__next__") ty F.slot_zip_next (AO F.slot_zip_next ty F.entry_zip_next (Sd D g p1 p2 ex ey λh' a1 a2 a3 a4 a5 a6=>Ac (q h' a1 a2 a3 a4 a5 a6)) (F.args_zip_next_1 _))))
theorem NO {z TI TO i1 i2 l1 l2:Addr}{k:Nat}{xs ys:Array Value}{Q:Option Value->Shared->Prop}(hh:A.handled=none)(D:ZipApart z TI TO i1 i2 l1 l2)(g:zTu z TI TO i1 i2 l1 l2 k s.heap)
  (p1:s.heap.IsTuple l1 xs) (p2:s.heap.IsTuple l2 ys) (en:xs[k]? = none∨ys[k]? = none)
  (q:∀ h',(∀ c o,c≠z->c≠TO->c≠i1->c≠i2->s.heap.get? c=some o->h'.get? c=some o)->Q none { s with heap:=h' }):wpAny (model prog w) A (pyNext (.ref z)) Q E s:=by
 have ty:s.TypeIs (.ref z) "zip":=⟨_,g.1,rfl⟩
 unfold pyNext
 refine Aa (wpAny_attempt (AM (name:=Str.ofString "__next__") ty F.slot_zip_next (AO F.slot_zip_next ty F.entry_zip_next (Tq hh D g p1 p2 en λh' e hk he=>?_) (F.args_zip_next_1 _))))
 obtain ⟨o,ho,hc⟩:=he
 exact Aa (B7 (T:="StopIteration") (b:=true) ⟨o,ho,hc⟩ isSubtype_stop (Ac (q _ hk)))
end
noncomputable abbrev zu1 (h:Heap) (l1:Addr):Heap:=h.push { cls:=.type "tuple_iterator",data:=.fields #[.ref l1,.int 0 0] }
noncomputable abbrev zu2 (h:Heap) (l1 l2:Addr):Heap:=(zu1 h l1).push { cls:=.type "tuple_iterator",data:=.fields #[.ref l2,.int 0 0] }
noncomputable abbrev zu3 (h:Heap) (l1 l2:Addr):Heap:=(zu2 h l1 l2).push { cls:=.type "tuple",data:=.seq #[.ref h.objs.size,.ref (zu1 h l1).objs.size] }
noncomputable abbrev zu4 (h:Heap) (l1 l2:Addr):Heap:=(zu3 h l1 l2).push { cls:=.type "tuple",data:=.seq #[.none,.none] }
noncomputable abbrev zu5 (h:Heap) (l1 l2:Addr):Heap:=(zu4 h l1 l2).push { cls:=.type "zip",data:=.fields #[.none,.bool false,.bool false,.ref (zu2 h l1 l2).objs.size,.ref (zu3 h l1 l2).objs.size] }
theorem V1 (l1 l2:Addr)(xs ys:Array Value):Meets (Builtin.«zip.__new__» ⟨[.type "zip",.ref l1,.ref l2],[]⟩) (λ_ R s=>s.heap.IsTuple l1 xs∧s.heap.IsTuple l2 ys∧R (.ok (.ret (.ref (zu4 s.heap l1 l2).objs.size))) { s with heap:=zu5 s.heap l1 l2 }):=
 .of_wp λprog w A R s h=>by
  obtain ⟨hp,gn,dr,tk,os⟩:=s
  obtain ⟨t1,t2,h⟩:=h
  have hsub:=sub_zip
  have u1:Heap.IsTuple (Shared.heap ⟨hp,gn,dr,tk,os⟩) l1 xs:=t1
  have u2:Heap.IsTuple (Shared.heap ⟨hp.push { cls:=.type "tuple_iterator",data:=.fields #[.ref l1,.int 0 0] },gn,dr,tk,os⟩) l2 ys:=Heap.IsTuple.push t2 _
  wp_walk using wpAny_pyIter_tuple u1,wpAny_pyIter_tuple u2
  exact ⟨_,rfl,h⟩
theorem Uv {prog:Program}{w:World}{A:Around}{E:Value->Shared->Prop}{s:Shared}{l1 l2:Addr}{xs ys:Array Value}{Q:Value->Shared->Prop}(p1:s.heap.IsTuple l1 xs)(p2:s.heap.IsTuple l2 ys)
  (q:∀ h',zTu (s.heap.objs.size+4) (s.heap.objs.size+2) (s.heap.objs.size+3) s.heap.objs.size (s.heap.objs.size+1) l1 l2 0 h'->(∀ c o,s.heap.get? c=some o->h'.get? c=some o)->Q (.ref (s.heap.objs.size+4)) { s with heap:=h' }) :
  wpAny (model prog w) A (call (.type "zip") [.ref l1,.ref l2]) Q E s:=by
 refine callType_new F.called_zip (by decide) (F.typeCall_zip_2 _ _) (F.newCall_zip_2 _ _) (λobj=>F.args_object_init_3 obj _ _) F.entry_zip_new (V1 l1 l2 xs ys) ⟨p1,p2,?_⟩
 have n1:(zu1 s.heap l1).objs.size=s.heap.objs.size+1:=A9 ..
 have n2:(zu2 s.heap l1 l2).objs.size=s.heap.objs.size+2:=by rw [A9,n1]
 have n3:(zu3 s.heap l1 l2).objs.size=s.heap.objs.size+3:=by rw [A9,n2]
 have n4:(zu4 s.heap l1 l2).objs.size=s.heap.objs.size+4:=by rw [A9,n3]
 have e5:(zu5 s.heap l1 l2).get? (zu4 s.heap l1 l2).objs.size=some _:=Aj _ rfl
 have e4:(zu4 s.heap l1 l2).get? (zu3 s.heap l1 l2).objs.size=some _:=Aj _ rfl
 have e3:(zu3 s.heap l1 l2).get? (zu2 s.heap l1 l2).objs.size=some _:=Aj _ rfl
 have e2:(zu2 s.heap l1 l2).get? (zu1 s.heap l1).objs.size=some _:=Aj _ rfl
 have e1:(zu1 s.heap l1).get? s.heap.objs.size=some _:=Aj _ rfl
 have w5:∀ c o,(zu4 s.heap l1 l2).get? c=some o->(zu5 s.heap l1 l2).get? c=some o:=λc o e=>Ad _ e
 have w4:∀ c o,(zu3 s.heap l1 l2).get? c=some o->(zu5 s.heap l1 l2).get? c=some o:=λc o e=>w5 c o (Ad _ e)
 have w3:∀ c o,(zu2 s.heap l1 l2).get? c=some o->(zu5 s.heap l1 l2).get? c=some o:=λc o e=>w4 c o (Ad _ e)
 have w2:∀ c o,(zu1 s.heap l1).get? c=some o->(zu5 s.heap l1 l2).get? c=some o:=λc o e=>w3 c o (Ad _ e)
 have w1:∀ c o,s.heap.get? c=some o->(zu5 s.heap l1 l2).get? c=some o:=λc o e=>w2 c o (Ad _ e)
 have f4:=w5 _ _ e4
 have f3:=w4 _ _ e3
 have f2:=w3 _ _ e2
 have f1:=w2 _ _ e1
 refine (?_:_∧_)
 rw [n2,n3,n4] at e5
 rw [n1,n2] at f3
 rw [n3] at f4
 rw [n1] at f2
 rw [n4]
 exact ⟨⟨_,e5,rfl⟩,q _ ⟨e5,f3,⟨_,_,f4⟩,⟨_,f1,rfl,rfl⟩,⟨_,f2,rfl,rfl⟩⟩ w1⟩
noncomputable def Yl (K:PySem.W.Frag)(a b:Addr):It:=
 ⟨λi H=>∃ xs ys x y,SqT K H a xs∧SqT K H b ys∧xs[i]? = some x∧ys[i]? = some y,
  λi H v H'=>∃ T x y,v=.ref T∧H T=none∧H'=upd H T (.tup [x,y])∧(∀ xs,SqT K H a xs->xs[i]? = some x)∧∀ ys,SqT K H b ys->ys[i]? = some y,
  λi H=>∃ xs ys,SqT K H a xs∧SqT K H b ys∧(xs.length≤i∨ys.length≤i)⟩
theorem P2 {P:Program}{w:World}{K:PySem.W.Frag}{elts:List Expr}{k:Nat}{pos:Pos}(z TI TO i1 i2 l1 l2:Addr)(D:ZipApart z TI TO i1 i2 l1 l2) :
  Turn P w K (.Tuple elts k pos) (Yl K l1 l2) [z,TI,TO,i1,i2] z (zTu z TI TO i1 i2 l1 l2) where
 mem:=by simp
 obj:=λi h st b hb=>by
  obtain ⟨h1,h2,⟨_,_,h3⟩,⟨o4,h4,_,d4⟩,⟨o5,h5,_,d5⟩⟩:=st
  have hb':b=z∨b=TI∨b=TO∨b=i1∨b=i2:=by simpa using hb
  rcases hb' with e|e|e|e|e<;>subst e
  ·exact ⟨_,h1,λv e=>by cases e⟩
  ·exact ⟨_,h2,λv e=>by cases e⟩
  ·exact ⟨_,h3,λv e=>by cases e⟩
  ·exact ⟨_,h4,λv e=>by rw [d4] at e;cases e⟩
  ·exact ⟨_,h5,λv e=>by rw [d5] at e;cases e⟩
 keep:=λi h h' st kk=>by
  obtain ⟨h1,h2,⟨a,b,h3⟩,h4,h5⟩:=st
  exact ⟨kk z (by simp) _ h1,kk TI (by simp) _ h2,⟨a,b,kk TO (by simp) _ h3⟩,h4.at λo e=>kk i1 (by simp) o e,h5.at λo e=>kk i2 (by simp) o e⟩
 item:=by
  intro X hP hw hK hc i pins s σ H E I hf st hg
  subst hP hw hK
  obtain ⟨xs,ys,x,y,hq1,hq2,hx,hy⟩:=hg
  obtain ⟨its1,rv1,p1,hz1⟩:=I.tuple hq1
  obtain ⟨its2,rv2,p2,hz2⟩:=I.tuple hq2
  obtain ⟨u1,hu1,ru1⟩:=rv1.get hx
  obtain ⟨u2,hu2,ru2⟩:=rv2.get hy
  obtain ⟨h1,h2,⟨a,b,h3⟩,h4,h5⟩:=st
  have D':=D
  refine N0 D ⟨h1,h2,⟨a,b,h3⟩,h4,h5⟩ (show s.heap.IsTuple l1 its1.toArray from p1) (show s.heap.IsTuple l2 its2.toArray from p2) (x:=u1) (y:=u2) (by simpa using hu1) (by simpa using hu2) λh' a1 a2 a3 a4 a5 hk=>?_
  have lt:∀ {c:Addr} {o:Obj},s.heap.get? c=some o->c≠s.heap.objs.size:=λe=>Ay (Ao e)
  refine ⟨_,rfl,wpAny_letOwnedTupleGo_zip a1 λh'' b1 sb=>?_⟩
  have nT:s.heap.objs.size≠z:=Ne.symm (lt h1)
  have kk:∀ b o,b∉[z,TI,TO,i1,i2]->s.heap.get? b=some o->h''.get? b=some o:=λb o hb e=>by
   simp only [Am,AJ,BG,not_or] at hb
   exact (sb.2 b hb.1).trans (hk b o hb.1 hb.2.2.1 hb.2.2.2.1 hb.2.2.2.2 e)
  have I1:Inv X pins σ H { s with heap:=h'',toks:=s.toks }:=I.turnedL kk hf
  have hn:H s.heap.objs.size=none:=I.hok.fresh (Ai _)
  have fT:Iq X pins H s.heap.objs.size:=I.fpOk (Ai _) hn
  have I2:Inv X pins σ (upd H s.heap.objs.size (.tup [x,y])) { s with heap:=h'',toks:=s.toks }:=I1.lay fT I.sz
   ⟨⟨by show 2≤sizeLine;decide,_,(sb.2 _ nT).trans a5,rfl⟩,[u1,u2],.cons ru1 (.cons ru2 .nil),⟨_,(sb.2 _ nT).trans a5,rfl,_,rfl⟩⟩
  refine ⟨.ref s.heap.objs.size,_,I2,rfl,⟨_,x,y,rfl,hn,rfl,λxs' hx'=>by rw [I.tuple_inj hx' hq1];exact hx,λys' hy'=>by rw [I.tuple_inj hy' hq2];exact hy⟩,?_,λb hb=>?_⟩
  ·exact ⟨b1,(sb.2 _ D.TIz).trans (hk _ _ D.TIz D.TITO D.TIi1 D.TIi2 h2),⟨_,_,(sb.2 _ D.TOz).trans a2⟩,a3.at λo e=>(sb.2 _ D.i1z).trans e,a4.at λo e=>(sb.2 _ D.i2z).trans e⟩
  ·have hb':b=z∨b=TI∨b=TO∨b=i1∨b=i2:=by simpa using hb
   have ne:b≠s.heap.objs.size:=by
    obtain ⟨o4,e4,_⟩:=h4
    obtain ⟨o5,e5,_⟩:=h5
    rcases hb' with e|e|e|e|e<;>subst e
    ·exact lt h1
    ·exact lt h2
    ·exact lt h3
    ·exact lt e4
    ·exact lt e5
   rw [Dg ne]
   exact (hf b hb).1
 done:=by
  intro X hP hw hK hc i pins s σ H E I hf st hg
  subst hP hw hK
  obtain ⟨xs,ys,hq1,hq2,hend⟩:=hg
  obtain ⟨its1,rv1,p1,hz1⟩:=I.tuple hq1
  obtain ⟨its2,rv2,p2,hz2⟩:=I.tuple hq2
  obtain ⟨h1,h2,⟨a,b,h3⟩,h4,h5⟩:=st
  have n1:=rv1.length
  have n2:=rv2.length
  refine NO (I.ok.hd hc) D ⟨h1,h2,⟨a,b,h3⟩,h4,h5⟩ (show s.heap.IsTuple l1 its1.toArray from p1) (show s.heap.IsTuple l2 its2.toArray from p2) (by
   rcases hend with e|e
   ·exact .inl (by simp;omega)
   ·exact .inr (by simp;omega)) λh' hk=>⟨rfl,I.turnedL (t':=s.toks) (λb o hb e=>?_) hf⟩
  simp only [Am,AJ,BG,not_or] at hb
  exact hk b o hb.1 hb.2.2.1 hb.2.2.2.1 hb.2.2.2.2 e
 self:=λA i s Q E st h=>wpAny_pyIter_zip st.1 h
noncomputable def YT (K:PySem.W.Frag)(ta:TA):TI:=fun σ H R=>ta σ H λvs H1=>∃ a b,vs=[.ref a,.ref b]∧(∃ xs,SqT K H1 a xs)∧(∃ ys,SqT K H1 b ys)∧R (Yl K a b) H1
theorem Vs {X:Cx}{a b:Expr}{ta:TA}{p pos:Pos}{elts:List Expr}{k:Nat}{tp:Pos}(hg:Gl X "zip")(hm:X.mg "zip"=none)(hz:bootBuiltins "zip"=some (.type "zip"))(ha:PA X [a,b] ta)(hs:starEach [a,b] X.env=[(false,eval a X.env),(false,eval b X.env)]:=by rfl)(hs2:starEach [b] X.env=[(false,eval b X.env)]:=by rfl) :
  PI X (.Tuple elts k tp) (.Call (.Name "zip" p) [a,b] [] pos) (YT X.K ta):=by
 intro pins s σ H R I h
 refine Call_ (IG I hg hm hz (Cg (thn (ha pos pins s σ H _ I h) λus s1 ⟨vs,H1,I1,r1,q1⟩=>?_) (by rw [hs,hs2]) (by rw [hs2];rfl)))
 obtain ⟨a1,a2,e,⟨xs,hx⟩,⟨ys,hy⟩,q⟩:=q1
 subst e
 obtain ⟨u1,u2,rfl,ra,rb⟩:=vals2 r1
 cases ra
 cases rb
 obtain ⟨its1,rv1,p1,_⟩:=I1.tuple hx
 obtain ⟨its2,rv2,p2,_⟩:=I1.tuple hy
 have lt1:a1<s1.heap.objs.size:=by obtain ⟨o,e,_⟩:=p1;exact Ao e
 have lt2:a2<s1.heap.objs.size:=by obtain ⟨o,e,_⟩:=p2;exact Ao e
 refine Uv (show s1.heap.IsTuple a1 its1.toArray from p1) (show s1.heap.IsTuple a2 its2.toArray from p2) λh' zt hk=>?_
 refine wpAny_pyIter_zip zt.1 ?_
 refine ⟨s1.heap.objs.size+4,[s1.heap.objs.size+4,s1.heap.objs.size+2,s1.heap.objs.size+3,s1.heap.objs.size,s1.heap.objs.size+1],_,_,H1,rfl,I1.kept (t':=s1.toks) λb o e=>hk b o e,
  P2 _ _ _ _ _ a1 a2 ?_,zt,λb hb=>?_,q⟩
 ·exact MP _ _ _ lt1 lt2
 ·have hle:s1.heap.objs.size≤b:=by
   have hb':b=s1.heap.objs.size+4∨b=s1.heap.objs.size+2∨b=s1.heap.objs.size+3∨b=s1.heap.objs.size∨b=s1.heap.objs.size+1:=by simpa using hb
   rcases hb' with rfl|rfl|rfl|rfl|rfl<;>simp
  exact I1.fpOk hle (I1.hok.fresh hle)
section
variable {X:Cx} {K:Zc} {th:List Addr} {mu:Sto} {H:Hp}
noncomputable def Ql (ds:List D):Option (List D×List D):=match ds with
 | [.tup xs,.tup ys]=>some (xs,ys)
 | _=>none
theorem Ti {ds:List D}{p:List D×List D}(h:Ql ds=some p):ds=[.tup p.1,.tup p.2]:=by
 unfold Ql at h
 split at h
 ·cases h;rfl
 ·cases h
noncomputable def V5 (a:Exs):Ix:=λro mu=>bM (a ro mu) λds m1=>(Ql ds).map λp=>((EA p.1 p.2,none),m1)
theorem S7 {a b:Expr}{m:Exs}{p pos:Pos}{elts:List Expr}{k:Nat}{tp:Pos}(hm:X.mg "zip"=none)(ha:SVA X [a,b] m)(hg:Gl X "zip":=by rfl)(hs:starEach [a,b] X.env=[(false,eval a X.env),(false,eval b X.env)]:=by rfl)(hs2:starEach [b] X.env=[(false,eval b X.env)]:=by rfl) :
  SVI X (.Tuple elts k tp) (.Call (.Name "zip" p) [a,b] [] pos) (V5 m):=⟨PI.weak (Vs hg hm PyProof.Rows.boot_zip ha.1 hs hs2) λst H R h=>by
 obtain ⟨th,mu,ro,so,en,t⟩:=h
 refine ⟨th,mu,ro,so,en,t.bind.mono λds th1 mu1 H1 e1 s1 t1 vs rvs=>?_⟩
 cases q:Ql ds with
 | none=>rw [q] at t1;exact t1.no.elim
 | some pr =>
  rw [q] at t1
  rw [Ti q] at rvs
  obtain ⟨xs,ys⟩:=pr
  obtain ⟨x,y,rfl,rx,ry⟩:=HZ rvs
  unfold Rep at rx ry
  obtain ⟨a1,us,rfl,h1,l1,z1⟩:=rx
  obtain ⟨a2,ws,rfl,h2,l2,z2⟩:=ry
  refine ⟨a1,a2,rfl,⟨us,h1⟩,⟨ws,h2⟩,t1.ret s1 _ ⟨?_,λth' mu' H' e s' go i d ed=>?_,λth' mu' H' e s' go=>?_⟩⟩
  ·show (EA xs ys).length≤sizeLine
   unfold EA
   rw [Ag,List.length_zip]
   exact AQ (Nat.min_le_left _ _) z1
  ·have g1:=e.sqT s1.out h1
   have g2:=e.sqT s1.out h2
   have ed':(EA xs ys)[i]? = some d:=ed
   unfold EA at ed'
   rw [Al] at ed'
   cases q3:(xs.zip ys)[i]? with
   | none=>rw [q3] at ed';cases ed'
   | some pq =>
    rw [q3] at ed'
    have hd:D.tup [pq.1,pq.2]=d:=by simpa using ed'
    subst hd
    obtain ⟨hx,hy⟩:=List.getElem?_zip_eq_some.mp q3
    obtain ⟨v1,ev1,rv1⟩:=(l1.ext e s1.out).get hx
    obtain ⟨v2,ev2,rv2⟩:=(l2.ext e s1.out).get hy
    refine ⟨⟨us,ws,v1,v2,g1,g2,ev1,ev2⟩,λv H2 y=>?_⟩
    obtain ⟨T,x',y',rfl,hT,rfl,f1,f2⟩:=y
    have ex:=f1 us g1
    have ey:=f2 ws g2
    rw [ev1] at ex
    rw [ev2] at ey
    cases ex
    cases ey
    exact ⟨.new hT _,s'.new hT _,Rep.newTup s' hT (.cons rv1 (.cons rv2 .nil)) (by show 2≤sizeLine;decide)⟩
  ·have g1:=e.sqT s1.out h1
   have g2:=e.sqT s1.out h2
   refine ⟨us,ws,g1,g2,?_⟩
   show us.length≤(EA xs ys).length∨ws.length≤(EA xs ys).length
   unfold EA
   rw [Ag,List.length_zip,l1.len,l2.len]
   dsimp only
   omega⟩
noncomputable def orI (m m':Ix):Ix:=λro mu=>match m ro mu with|some r=>some r|none=>m' ro mu
theorem SVI.or {tg e:Expr}{m m':Ix}(h:SVI X tg e m)(h':SVI X tg e m'):SVI X tg e (orI m m'):=⟨λpins s st H R I q=>by
 obtain ⟨th,mu,ro,so,en,t⟩:=q
 unfold orI at t
 cases c:m ro mu with
 | some p =>
  refine h.r pins s st H R I ⟨th,mu,ro,so,en,?_⟩
  rw [c];simpa only [c] using t
 | none =>
  refine h'.r pins s st H R I ⟨th,mu,ro,so,en,?_⟩
  simpa only [c] using t⟩
noncomputable def Mp (a:Exs):Ix:=orI (iZp a) (V5 a)
theorem IA {a b:Expr}{m:Exs}{p pos:Pos}{elts:List Expr}{k:Nat}{tp:Pos}(hm:X.mg "zip"=none)(ha:SVA X [a,b] m)(hg:Gl X "zip":=by rfl)(hs:starEach [a,b] X.env=[(false,eval a X.env),(false,eval b X.env)]:=by rfl)(hs2:starEach [b] X.env=[(false,eval b X.env)]:=by rfl) :
  SVI X (.Tuple elts k tp) (.Call (.Name "zip" p) [a,b] [] pos) (Mp m):=SVI.or (Vm hm ha hg hs hs2) (S7 hm ha hg hs hs2)
end
mutual
noncomputable def Dy (n:Nat):D->Bool
 | .ref k=>decide (k<n)
 | .tup ds=>E7 n ds
 | .lst ds=>E7 n ds
 | .dct ks ds=>E7 n ks&&E7 n ds
 | .set ds=>E7 n ds
 | _=>true
noncomputable def E7 (n:Nat):List D->Bool
 | []=>true
 | d::ds=>Dy n d&&E7 n ds
end
noncomputable def ND (n:Nat):MO->Bool
 | .lst ds=>E7 n ds
 | .dct ks ds=>E7 n ks&&E7 n ds
noncomputable def Km (g:D->Option D):List D->Option (List D)
 | []=>some []
 | d::ds=>match g d,Km g ds with
  | some d',some ds'=>some (d'::ds')
  | _,_=>none
noncomputable def frz (n:Nat)(mu:Sto):Nat->D->Option D
 | 0,d=>if Dy n d=true then some d else none
 | f+1,d=>if Dy n d=true then some d else match d with
  | .ref k=>match mu[k]? with
   | some (.lst ds)=>(Km (frz n mu f) ds).map .lst
   | some (.dct ks ds)=>if E7 n ks=true then (Km (frz n mu f) ds).map (.dct ks) else none
   | none=>none
  | .tup ds=>(Km (frz n mu f) ds).map .tup
  | .lst ds=>(Km (frz n mu f) ds).map .lst
  | _=>none
noncomputable def Mt (mu m1:Sto)(d:D):Rs D:=match frz mu.length m1 3 d with
 | some d'=>if (m1.take mu.length).all (ND mu.length)=true then some (d',m1.take mu.length) else none
 | none=>none
noncomputable def fnG (n:Nat)(m:Sx):Fn:=λds mu=>bM (m (ds.map some++List.replicate (n-ds.length) none) mu) λp m1=>match p.1 with
 | .rt d=>Mt mu m1 d
 | .nx=>Mt mu m1 .non
 | _=>none
section
variable {K:Zc} {th th1 more:List Addr} {H:Hp} {mu:Sto}
mutual
theorem L8 (pre:th1=th++more):∀ {d:D} {v:V},Dy th.length d=true->Rep K th1 H d v->Rep K th H d v
 | .non,_,_,h=>h
 | .bl _,_,_,h=>h
 | .int _,_,_,h=>h
 | .str _,_,_,h=>h
 | .tup ds,_,l,h=>by
  unfold Dy at l
  unfold Rep at h ⊢
  obtain ⟨a,vs,q,h1,h2,z⟩:=h
  exact ⟨a,vs,q,h1,ED pre l h2,z⟩
 | .lst ds,_,l,h=>by
  unfold Dy at l
  unfold Rep at h ⊢
  obtain ⟨a,vs,q,h1,h2,z⟩:=h
  exact ⟨a,vs,q,h1.imp (λw=>⟨λz=>w.1 (by rw [pre];exact Bh _ z),w.2⟩) id,ED pre l h2,z⟩
 | .dct ks ds,_,l,h=>by
  unfold Dy at l
  rw [Ab] at l
  unfold Rep at h ⊢
  obtain ⟨a,xs,q,n,h1,h2,h3,h4,h5⟩:=h
  exact ⟨a,xs,q,λz=>n (by rw [pre];exact Bh _ z),h1,h2,ED pre l.1 h3,ED pre l.2 h4,h5⟩
 | .set ds,_,l,h=>by
  unfold Dy at l
  unfold Rep at h ⊢
  obtain ⟨a,us,vs,q,n,h1,h2,h3,h4⟩:=h
  exact ⟨a,us,vs,q,λz=>n (by rw [pre];exact Bh _ z),h1,h2,ED pre l h3,h4⟩
 | .ref k,_,l,h=>by
  unfold Dy at l
  rw [Af] at l
  unfold Rep at h ⊢
  obtain ⟨a,q,h1⟩:=h
  rw [pre,As l] at h1
  exact ⟨a,q,h1⟩
theorem ED (pre:th1=th++more):∀ {ds:List D} {vs:List V},E7 th.length ds=true->RepL K th1 H ds vs->RepL K th H ds vs
 | [],_,_,h=>by rw [h.inv0];exact .nil
 | d::ds,_,l,h=>by
  unfold E7 at l
  rw [Ab] at l
  obtain ⟨v,r,rfl,h1,h2⟩:=h.inv
  exact .cons (L8 pre l.1 h1) (ED pre l.2 h2)
end
theorem Hg {g:D->Option D}(hg:∀ d d' v,g d=some d'->Rep K th1 H d v->Rep K th H d' v):∀ {ds ds':List D} {vs:List V},Km g ds=some ds'->RepL K th1 H ds vs->RepL K th H ds' vs∧ds'.length=ds.length
 | [],ds',vs,e,h=>by cases e;rw [h.inv0];exact ⟨.nil,rfl⟩
 | d::ds,ds',vs,e,h=>by
  obtain ⟨v,r,rfl,h1,h2⟩:=h.inv
  unfold Km at e
  split at e
  ·rename_i d2 ds2 e1 e2
   cases e
   obtain ⟨a,b⟩:=Hg hg e2 h2
   exact ⟨.cons (hg _ _ _ e1 h1) a,by simp [b]⟩
  ·cases e
theorem O5 (so:StoOk K th1 mu H)(pre:th1=th++more):∀ (f:Nat) (d d':D) (v:V),frz th.length mu f d=some d'->Rep K th1 H d v->Rep K th H d' v
 | 0,d,d',v,e,h=>by
  unfold frz at e
  split at e
  ·rename_i c;cases e;exact L8 pre c h
  ·cases e
 | f+1,d,d',v,e,h=>by
  have ih:=O5 so pre f
  unfold frz at e
  split at e
  ·rename_i c;cases e;exact L8 pre c h
  ·rename_i c
   have kp:∀ {k:Nat} {a:Addr},¬ k<th.length->th1[k]? = some a->a∉th:=λ{k a} hk ha z=>by
    obtain ⟨i,hi,ei⟩:=List.mem_iff_getElem.mp z
    have:th1[i]? = some a:=by rw [pre,As hi,Ah hi,ei]
    have:=VL so.nd this ha
    omega
   split at e
   ·rename_i k
    have hk:¬ k<th.length:=by unfold Dy at c;simpa using c
    unfold Rep at h
    obtain ⟨a,rfl,ha⟩:=h
    split at e
    ·rename_i ds em
     cases q:Km (frz th.length mu f) ds with
     | none=>rw [q] at e;cases e
     | some ds' =>
      rw [q] at e
      cases e
      obtain ⟨vs,h1,h2,h3⟩:=so.at' k a _ ha em
      obtain ⟨r1,r2⟩:=Hg ih q h2
      unfold Rep
      exact ⟨a,vs,rfl,.inl ⟨kp hk ha,.inl h1⟩,r1,by rw [r2];exact h3⟩
    ·rename_i ks ds em
     split at e
     ·rename_i lk
      cases q:Km (frz th.length mu f) ds with
      | none=>rw [q] at e;cases e
      | some ds' =>
       rw [q] at e
       cases e
       obtain ⟨xs,h1,h2,h3,h4,h5⟩:=so.at' k a _ ha em
       obtain ⟨r1,r2⟩:=Hg ih q h4
       unfold Rep
       exact ⟨a,xs,rfl,kp hk ha,h1,h2,ED pre lk h3,r1,h5⟩
     ·cases e
    ·cases e
   ·rename_i ds
    cases q:Km (frz th.length mu f) ds with
    | none=>rw [q] at e;cases e
    | some ds' =>
     rw [q] at e
     cases e
     unfold Rep at h ⊢
     obtain ⟨a,vs,rfl,h1,h2,h3⟩:=h
     obtain ⟨r1,r2⟩:=Hg ih q h2
     exact ⟨a,vs,rfl,h1,r1,by rw [r2];exact h3⟩
   ·rename_i ds
    cases q:Km (frz th.length mu f) ds with
    | none=>rw [q] at e;cases e
    | some ds' =>
     rw [q] at e
     cases e
     unfold Rep at h ⊢
     obtain ⟨a,vs,rfl,h1,h2,h3⟩:=h
     obtain ⟨r1,r2⟩:=Hg ih q h2
     exact ⟨a,vs,rfl,h1.imp (λw=>⟨λz=>w.1 (by rw [pre];exact Bh _ z),w.2⟩) id,r1,by rw [r2];exact h3⟩
   ·cases e
theorem UL (so:StoOk K th1 mu H)(pre:th1=th++more)(hl:(mu.take th.length).all (ND th.length)=true):StoOk K th (mu.take th.length) H:=by
 have len:th.length≤mu.length:=by rw [← so.len,pre,Ar];omega
 refine ⟨by rw [Az];omega,?_,λk a o e1 e2=>?_⟩
 ·have:=so.nd
  rw [pre] at this
  exact (List.nodup_append.mp this).1
 ·have hk:=(Ae.mp e1).1
  rw [AR hk] at e2
  have q:=so.at' k a o (by rw [pre,As hk];exact e1) e2
  have lo:=Au.mp hl o (Ak (by rw [AR hk];exact e2))
  cases o with
  | lst ds=>obtain ⟨vs,q1,q2,z⟩:=q;exact ⟨vs,q1,ED pre lo q2,z⟩
  | dct ks ds =>
   unfold ND at lo
   rw [Ab] at lo
   obtain ⟨xs,q1,q2,q3,q4,z⟩:=q
   exact ⟨xs,q1,q2,ED pre lo.1 q3,ED pre lo.2 q4,z⟩
end
theorem My {P:Program}{w:World}{K:PySem.W.Frag}{mg:Str->Option Value}{base:Heap}{x qual:Str}{st:Stmt}{f:Addr}{fd:FuncData}{N ps:List Str}{k:Nat}{m:Sx}(n j:Nat)(F:Fun K x qual st f fd)(S:CU N ps (Cv st))(hn:N.length=n)(hj:ps.length=j)
  (hbody:∀ (cdv:Value) (A:Around) (outer:List Env) (s:Shared) (H:Hp) (E:XK),Room k (A.deeper (envOfC qual (Cv st) s.heap.objs.size f cdv)) ->
   SVB (KW CX0 P w K mg base N qual (Cv st) f cdv A outer s H E).nox (EF st) m):Ee P w K mg base CX0 (k+1) f fd ps (spF ⟨K,P,w⟩ (fnG n m) j):=by
 subst hn hj
 refine F.ok S (λvs H Q E h=>?_) (λcdv A outer s H vs Q E hr h=>?_)
 ·obtain ⟨th,mu,ds,_,r,hl,_⟩:=h
  rw [r.len]
  exact hl
 ·obtain ⟨th,mu,ds,so,r,hl,t⟩:=h
  refine ⟨_,(hbody cdv A outer s H E hr).r,?_⟩
  obtain ⟨d0,mu0,e0,q0⟩:=id t
  obtain ⟨p,m1,e1,e2⟩:=GP e0
  refine ⟨th,mu,_,so,Js r,p,m1,e1,λth1 H1 x1 s1 st' en'=>?_⟩
  obtain ⟨fl,ro'⟩:=p
  obtain ⟨more,pre⟩:=x1.pre
  have done:∀ (d:D) (v:V),Mt mu m1 d=some (d0,mu0)->Rep ⟨K,P,w⟩ th1 H1 d v->Q v H1:=λd v ec rv=>by
   unfold Mt at ec
   split at ec
   ·rename_i d' ef
    split at ec
    ·rename_i hl
     cases ec
     rw [← so.len] at ef hl q0
     exact q0 th H1 ⟨⟨[],by simp⟩,λ_ _ n _=>n,x1.keep⟩ (UL s1 pre hl) v (O5 s1 pre 3 d d0 v ef rv)
    ·cases ec
   ·cases ec
  cases fl with
  | rt d=>exact λv rv=>done d v e2 rv
  | nx=>exact done .non .non e2 (by unfold Rep;rfl)
  | bk=>cases e2
  | ct=>cases e2
noncomputable def DAt (h:Heap)(d:Addr)(es:Array DictEntry)(ep:Nat):Prop:=∃ o,h.get? d=some o∧o.data=.dict es ep
noncomputable def DIt (T:String)(d I:Addr)(es:Array DictEntry)(ep i:Nat)(h:Heap):Prop:=DAt h d es ep∧∃ o,h.get? I=some o∧o.cls=.type T∧o.data=.fields #[.ref d,.int i 0,.int es.size 0,.int ep 0]
section
variable {prog:Program} {w:World} {A:Around} {E:Value->Shared->Prop} {s:Shared}
theorem DIt.ty {T:String}{d I:Addr}{es:Array DictEntry}{ep i:Nat}(g:DIt T d I es ep i s.heap):s.TypeIs (.ref I) T:=let ⟨_,o,a,b,_⟩:=g;⟨o,a,b⟩
theorem DIt.step {T:String}{d I:Addr}{es:Array DictEntry}{ep i:Nat}{h:Heap}(ne:d≠I)(g:DIt T d I es ep i h):DIt T d I es ep (i+1) (h.update I (Obj.mapFields (·.setIfInBounds 1 (rawInt ((i:Int)+1))))):=by
 obtain ⟨⟨od,d1,d2⟩,o,a,b,c⟩:=g
 exact ⟨⟨od,((AA ..).2 d ne).trans d1,d2⟩,_,AS _ a (Obj.isFreed_of_fields (Obj.data_mapFields c _)),(Obj.cls_mapFields ..).trans b,by rw [Obj.data_mapFields c];simp [rawInt]⟩
theorem Q8 {d I:Addr}{es:Array DictEntry}{ep i:Nat}{Q:Option Value->Shared->Prop}(ne:d≠I)(g:DIt "dict_keyiterator" d I es ep i s.heap)(hi:i<es.size)
  (q:∀ h',DIt "dict_keyiterator" d I es ep (i+1) h'->Heap.SameBut I s.heap h'->Q (some es[i].key) { s with heap:=h' }):wpAny (model prog w) A (pyNext (.ref I)) Q E s:=by
 obtain ⟨⟨od,d1,d2⟩,o,a,b,c⟩:=id g
 unfold pyNext
 refine Aa (wpAny_attempt (AM (name:=Str.ofString "__next__") g.ty BC (AO BC g.ty F.entry_dict_keyiterator_next ?_ (F.args_dict_keyiterator_next_1 _))))
 refine Aa (Ac (Aa (Aa ?_)))
 refine Aa (B9 g.ty (Ac (Aa (wpAny_fieldsOf a c ?_))))
 simp only [show Builtin.Dict_items.ownsTuple "dict_keyiterator"=false by decide,Av,A0]
 refine (?_:wpAny _ _ (if (Value.ref d==Value.none)=true then _ else _) _ _ s)
 rw [if_neg (show ¬ ((Value.ref d==Value.none)=true) from AG)]
 refine Aa (Ac (Aa (BI d1 d2 ?_)))
 rw [if_neg (by simp)]
 refine Aa (Ac (Aa (BA d1 d2 ?_)))
 rw [if_neg (by simp)]
 refine Ac ?_
 simp only [show ¬ ((i:Int)<0) by omega,A0,Int.toNat_natCast,Aq hi]
 refine Aa (Aa (B9 g.ty (Ac ?_)))
 refine Aa (wpAny_isOneOf_keyiter g.ty ?_)
 refine (?_:wpAny _ _ (setField (.ref I) 1 (rawInt ((i:Int)+1)) >>= _) _ _ s)
 have g':=g.step ne
 refine Aa (Bj a c (by simp) (Aa (AI ?_)))
 generalize hu:s.heap.update I (Obj.mapFields (·.setIfInBounds 1 (rawInt ((i:Int)+1))))=h2 at g' ⊢
 have sb:Heap.SameBut I s.heap h2:=by rw [← hu];exact AA ..
 have t2:=DIt.ty (s:={ s with heap:=h2 }) g'
 refine Aa (wpAny_isOneOf_keyiter (s:={ s with heap:=h2 }) t2 ?_)
 refine (?_:wpAny _ _ (pure es[i].key) _ _ _)
 exact Ac (Ac ⟨_,rfl,Ac (q _ g' sb)⟩)
theorem Sq {d I:Addr}{es:Array DictEntry}{ep:Nat}{Q:Option Value->Shared->Prop}(hh:A.handled=none)(g:DIt "dict_keyiterator" d I es ep es.size s.heap)
  (q:∀ h',(∀ c o,c≠I->s.heap.get? c=some o->h'.get? c=some o)->Q none { s with heap:=h' }):wpAny (model prog w) A (pyNext (.ref I)) Q E s:=by
 obtain ⟨⟨od,d1,d2⟩,o,a,b,c⟩:=id g
 unfold pyNext
 refine Aa (wpAny_attempt (AM (name:=Str.ofString "__next__") g.ty BC (AO BC g.ty F.entry_dict_keyiterator_next ?_ (F.args_dict_keyiterator_next_1 _))))
 refine Aa (Ac (Aa (Aa ?_)))
 refine Aa (B9 g.ty (Ac (Aa (wpAny_fieldsOf a c ?_))))
 simp only [show Builtin.Dict_items.ownsTuple "dict_keyiterator"=false by decide,Av,A0]
 refine (?_:wpAny _ _ (if (Value.ref d==Value.none)=true then _ else _) _ _ s)
 rw [if_neg (show ¬ ((Value.ref d==Value.none)=true) from AG)]
 refine Aa (Ac (Aa (BI d1 d2 ?_)))
 rw [if_neg (by simp)]
 refine Aa (Ac (Aa (BA d1 d2 ?_)))
 rw [if_neg (by simp)]
 refine Ac ?_
 simp only [show ¬ ((es.size:Int)<0) by omega,A0,Int.toNat_natCast,Bk (Ai es.size)]
 refine Aa (Aa (B9 g.ty (Ac ?_)))
 refine (?_:wpAny _ _ (setField (.ref I) 0 .none >>= _) _ _ s)
 refine Aa (Bj a c (by simp) ?_)
 refine FK (I:=I) hh λh' e z1 z2=>?_
 obtain ⟨oe,he,hc⟩:=z2
 exact Aa (B7 (T:="StopIteration") (b:=true) ⟨oe,he,hc⟩ isSubtype_stop (Ac (q h' λc o hc z=>z1 c o (((AA ..).2 c hc).trans z))))
theorem Lo (hh:A.handled=none){d I:Addr}{es:Array DictEntry}{ep:Nat}(ne:d≠I):Walks prog w A I [I,d] [I] es.size (λi v=>∃ e,es[i]? = some e∧e.key=v) (λi h=>DIt "dict_keyiterator" d I es ep i h) where
 sub:=λb hb=>by rw [Aw.mp hb];simp
 frame:=λ_ h1 h2 st hk=>let ⟨⟨od,d1,d2⟩,o,a,b⟩:=st;⟨⟨od,hk d (by simp) _ d1,d2⟩,o,hk I (by simp) _ a,b⟩
 item:=λk s R E hi st hQ=>Q8 ne st hi λh' g' sb=>hQ _ h' s.toks ⟨_,Aq hi,rfl⟩ g' λb o hb z=>(sb.2 b (by simpa using hb)).trans z
 done:=λs R E st hQ=>Sq hh st λh' k=>hQ h' s.toks λb o hb z=>k b o (by simpa using hb) z
 self:=λ_ s R E st hQ=>by
  refine wpAny_pyIter_slot st.ty F.slot_dict_keyiterator_iter (AO F.slot_dict_keyiterator_iter st.ty F.entry_dict_keyiterator_iter ?_ (F.args_dict_keyiterator_iter_1 _))
  refine (?_:wpAny _ _ (ret (.ref I)) _ _ s)
  exact Ac ⟨_,rfl,"dict_keyiterator",_,st.ty,BC.lookup,hQ⟩
theorem SO {d I:Addr}{es:Array DictEntry}{ep i:Nat}{Q:Option Value->Shared->Prop}(ne:d≠I)(g:DIt "dict_valueiterator" d I es ep i s.heap)(hi:i<es.size)
  (q:∀ h',DIt "dict_valueiterator" d I es ep (i+1) h'->Heap.SameBut I s.heap h'->Q (some es[i].val) { s with heap:=h' }):wpAny (model prog w) A (pyNext (.ref I)) Q E s:=by
 obtain ⟨⟨od,d1,d2⟩,o,a,b,c⟩:=id g
 unfold pyNext
 refine Aa (wpAny_attempt (AM (name:=Str.ofString "__next__") g.ty Bw (AO Bw g.ty F.entry_dict_valueiterator_next ?_ (F.args_dict_valueiterator_next_1 _))))
 refine Aa (Ac (Aa (Aa ?_)))
 refine Aa (Ca g.ty (Ac (Aa (wpAny_fieldsOf a c ?_))))
 simp only [show Builtin.Dict_items.ownsTuple "dict_valueiterator"=false by decide,Av,A0]
 refine (?_:wpAny _ _ (if (Value.ref d==Value.none)=true then _ else _) _ _ s)
 rw [if_neg (show ¬ ((Value.ref d==Value.none)=true) from AG)]
 refine Aa (Ac (Aa (BI d1 d2 ?_)))
 rw [if_neg (by simp)]
 refine Aa (Ac (Aa (BA d1 d2 ?_)))
 rw [if_neg (by simp)]
 refine Ac ?_
 simp only [show ¬ ((i:Int)<0) by omega,A0,Int.toNat_natCast,Aq hi]
 refine Aa (Aa (Ca g.ty (Ac ?_)))
 refine Aa (wpAny_isOneOf_valiter g.ty ?_)
 refine (?_:wpAny _ _ (setField (.ref I) 1 (rawInt ((i:Int)+1)) >>= _) _ _ s)
 have g':=g.step ne
 refine Aa (Bj a c (by simp) (Aa (AI ?_)))
 generalize hu:s.heap.update I (Obj.mapFields (·.setIfInBounds 1 (rawInt ((i:Int)+1))))=h2 at g' ⊢
 have sb:Heap.SameBut I s.heap h2:=by rw [← hu];exact AA ..
 have t2:=DIt.ty (s:={ s with heap:=h2 }) g'
 refine Aa (wpAny_isOneOf_valiter (s:={ s with heap:=h2 }) t2 ?_)
 refine Aa (wpAny_isOneOf_valiter (s:={ s with heap:=h2 }) t2 ?_)
 refine (?_:wpAny _ _ (pure es[i].val) _ _ _)
 exact Ac (Ac ⟨_,rfl,Ac (q _ g' sb)⟩)
theorem RC {d I:Addr}{es:Array DictEntry}{ep:Nat}{Q:Option Value->Shared->Prop}(hh:A.handled=none)(g:DIt "dict_valueiterator" d I es ep es.size s.heap)
  (q:∀ h',(∀ c o,c≠I->s.heap.get? c=some o->h'.get? c=some o)->Q none { s with heap:=h' }):wpAny (model prog w) A (pyNext (.ref I)) Q E s:=by
 obtain ⟨⟨od,d1,d2⟩,o,a,b,c⟩:=id g
 unfold pyNext
 refine Aa (wpAny_attempt (AM (name:=Str.ofString "__next__") g.ty Bw (AO Bw g.ty F.entry_dict_valueiterator_next ?_ (F.args_dict_valueiterator_next_1 _))))
 refine Aa (Ac (Aa (Aa ?_)))
 refine Aa (Ca g.ty (Ac (Aa (wpAny_fieldsOf a c ?_))))
 simp only [show Builtin.Dict_items.ownsTuple "dict_valueiterator"=false by decide,Av,A0]
 refine (?_:wpAny _ _ (if (Value.ref d==Value.none)=true then _ else _) _ _ s)
 rw [if_neg (show ¬ ((Value.ref d==Value.none)=true) from AG)]
 refine Aa (Ac (Aa (BI d1 d2 ?_)))
 rw [if_neg (by simp)]
 refine Aa (Ac (Aa (BA d1 d2 ?_)))
 rw [if_neg (by simp)]
 refine Ac ?_
 simp only [show ¬ ((es.size:Int)<0) by omega,A0,Int.toNat_natCast,Bk (Ai es.size)]
 refine Aa (Aa (Ca g.ty (Ac ?_)))
 refine (?_:wpAny _ _ (setField (.ref I) 0 .none >>= _) _ _ s)
 refine Aa (Bj a c (by simp) ?_)
 refine FK (I:=I) hh λh' e z1 z2=>?_
 obtain ⟨oe,he,hc⟩:=z2
 exact Aa (B7 (T:="StopIteration") (b:=true) ⟨oe,he,hc⟩ isSubtype_stop (Ac (q h' λc o hc z=>z1 c o (((AA ..).2 c hc).trans z))))
theorem Ld (hh:A.handled=none){d I:Addr}{es:Array DictEntry}{ep:Nat}(ne:d≠I):Walks prog w A I [I,d] [I] es.size (λi v=>∃ e,es[i]? = some e∧e.val=v) (λi h=>DIt "dict_valueiterator" d I es ep i h) where
 sub:=λb hb=>by rw [Aw.mp hb];simp
 frame:=λ_ h1 h2 st hk=>let ⟨⟨od,d1,d2⟩,o,a,b⟩:=st;⟨⟨od,hk d (by simp) _ d1,d2⟩,o,hk I (by simp) _ a,b⟩
 item:=λk s R E hi st hQ=>SO ne st hi λh' g' sb=>hQ _ h' s.toks ⟨_,Aq hi,rfl⟩ g' λb o hb z=>(sb.2 b (by simpa using hb)).trans z
 done:=λs R E st hQ=>RC hh st λh' k=>hQ h' s.toks λb o hb z=>k b o (by simpa using hb) z
 self:=λ_ s R E st hQ=>by
  refine wpAny_pyIter_slot st.ty F.slot_dict_valueiterator_iter (AO F.slot_dict_valueiterator_iter st.ty entry_dict_valueiterator_iter ?_ (F.args_dict_valueiterator_iter_1 _))
  refine (?_:wpAny _ _ (ret (.ref I)) _ _ s)
  exact Ac ⟨_,rfl,"dict_valueiterator",_,st.ty,Bw.lookup,hQ⟩
theorem N6 {d:Addr}{o:Obj}{es:Array DictEntry}{ep:Nat}{Q:Value->Shared->Prop}(ns:(d==sysModules)=false)(d1:s.heap.get? d=some o)(dc:o.cls=.type "dict")(d2:o.data=.dict es ep)
  (q:∀ h',h'.objs.size=s.heap.objs.size+1->(∀ b o,s.heap.get? b=some o->h'.get? b=some o)->DIt "dict_keyiterator" d s.heap.objs.size es ep 0 h'->Q (.ref s.heap.objs.size) { s with heap:=h' }):wpAny (model prog w) A (pyIter (.ref d)) Q E s:=by
 have hT:s.TypeIs (.ref d) "dict":=⟨o,d1,dc⟩
 refine wpAny_pyIter_slot hT F.slot_dict_iter (AO F.slot_dict_iter hT F.entry_dict_iter ?_ (F.args_dict_iter_1 _))
 unfold Builtin.«dict.__iter__» Builtin.Dict.dictSlotNone
 refine Aa (Aa (wpAny_notOrdered_dict hT ?_))
 refine (?_:wpAny _ _ (pure (Value.ref d)) _ _ s)
 refine Ac (?_:wpAny _ _ (Builtin.Dict.showsAll d >>= _) _ _ s)
 unfold Builtin.Dict.showsAll
 rw [if_neg (by rw [ns];exact AG)]
 refine Aa (Ac (Aa (BI d1 d2 (Aa (BA d1 d2 ?_)))))
 refine Aa (AU (Ac ⟨_,rfl,"dict_keyiterator",_,⟨_,Aj _ rfl,rfl⟩,BC.lookup,?_⟩))
 exact q _ (A9 ..) (λb o e=>Ad _ e) ⟨⟨o,Ad _ d1,d2⟩,_,Aj _ rfl,rfl,rfl⟩
theorem Oc {v d:Addr}{ov o:Obj}{es:Array DictEntry}{ep:Nat}{Q:Value->Shared->Prop}(v1:s.heap.get? v=some ov)(vc:ov.cls=.type "dict_values")(v2:ov.data=.fields #[.ref d])(d1:s.heap.get? d=some o)(d2:o.data=.dict es ep)
  (q:∀ h',h'.objs.size=s.heap.objs.size+1->(∀ b o,s.heap.get? b=some o->h'.get? b=some o)->DIt "dict_valueiterator" d s.heap.objs.size es ep 0 h'->Q (.ref s.heap.objs.size) { s with heap:=h' }):wpAny (model prog w) A (pyIter (.ref v)) Q E s:=by
 have hT:s.TypeIs (.ref v) "dict_values":=⟨ov,v1,vc⟩
 refine wpAny_pyIter_slot hT F.slot_dict_values_iter (AO F.slot_dict_values_iter hT F.entry_dict_values_iter ?_ (F.args_dict_values_iter_1 _))
 unfold Builtin.«dict_values.__iter__» Builtin.Dict_items.dictOf
 refine Aa (Ac (Aa (Aa (Bp v1 v2 (x:=.ref d) rfl (Ac ?_)))))
 (unfold Builtin.Dict_items.newIterator)
 refine Aa (Aa (BI d1 d2 (Aa (BA d1 d2 ?_))))
 simp only [show Builtin.Dict_items.ownsTuple "dict_valueiterator"=false by decide,Av,A0]
 refine AU (Ac ⟨_,rfl,"dict_valueiterator",_,⟨_,Aj _ rfl,rfl⟩,Bw.lookup,?_⟩)
 exact q _ (A9 ..) (λb o e=>Ad _ e) ⟨⟨o,Ad _ d1,d2⟩,_,Aj _ rfl,rfl,rfl⟩
theorem Ol {S:Addr}{ob:Obj}{es:Array DictEntry}{ep:Nat}{Q:List Value->Shared->Prop}(hh:A.handled=none)(hz:es.size≤sizeLine)(g1:s.heap.get? S=some ob)(gc:ob.cls=.type "dict")(ns:(S==sysModules)=false)(g2:DAt s.heap S es ep)
  (q:∀ h' tk,(∀ b o,s.heap.get? b=some o->h'.get? b=some o)->Q (es.toList.map (·.key)) { s with heap:=h',toks:=tk }):wpAny (model prog w) A (collect (.ref S)) Q E s:=by
 obtain ⟨od,d1,d2⟩:=g2
 have lS:S<s.heap.objs.size:=Ao g1
 have ld:S<s.heap.objs.size:=Ao d1
 have nS:s.heap.objs.size≠S:=Nat.ne_of_gt lS
 have nd:s.heap.objs.size≠S:=Nat.ne_of_gt ld
 unfold collect
 refine Aa (wpAny_runValue (Bg F.entry_proto_collect ?_))
 rw [Bc F.plain_proto_collect _]
 refine (?_:wpAny _ A.in1 (newList [] >>= λl=>again (.builtin "list.__iadd__" ⟨[l,.ref S],[]⟩)) _ _ s)
 refine Aa (AU (Ac ⟨plainId_quiet F.plain_list_iadd _,Bg F.entry_list_iadd ?_⟩))
 rw [Bc F.plain_list_iadd _]
 refine (?_:wpAny _ A.in1 (Builtin.List.listExtendWith (.ref s.heap.objs.size) (.ref S) (.ref s.heap.objs.size)) _ _ _)
 (unfold Builtin.List.listExtendWith)
 have gS:(s.heap.push { cls:=.type "list",data:=.seq ([]:List Value).toArray }).get? S=some ob:=Ad _ g1
 have gd:(s.heap.push { cls:=.type "list",data:=.seq ([]:List Value).toArray }).get? S=some od:=Ad _ d1
 have gL:(s.heap.push { cls:=.type "list",data:=.seq ([]:List Value).toArray }).get? s.heap.objs.size=some { cls:=.type "list",data:=.seq ([]:List Value).toArray }:=Aj _ rfl
 generalize hP:s.heap.push { cls:=.type "list",data:=.seq ([]:List Value).toArray }=h1 at gS gL gd ⊢
 have k1:∀ b o,s.heap.get? b=some o->h1.get? b=some o:=λb o e=>by rw [← hP];exact Ad _ e
 have sz1:h1.objs.size=s.heap.objs.size+1:=by rw [← hP];exact A9 ..
 have ty:Shared.TypeIs { s with heap:=h1 } (.ref S) "dict":=⟨ob,gS,gc⟩
 refine Aa (BY ty ?_)
 have e1:Builtin.List.listSameRef (.ref s.heap.objs.size) (.ref S)=false:=by simp [Builtin.List.listSameRef,nS]
 simp only [e1,show (Value.type "dict"==Value.type "list")=false by decide,show (Value.type "dict"==Value.type "tuple")=false by decide,Bool.or_false,Av,A0]
 have lt1:S<h1.objs.size:=by rw [sz1];exact A5 ld
 refine Aa (N6 (s:={ s with heap:=h1 }) ns gd (by rw [g1] at d1;cases d1;exact gc) d2 λh2 e2 k2 st=>?_)
 have ty2:Shared.TypeIs { s with heap:=h2 } (.ref S) "dict":=⟨ob,k2 _ _ gS,gc⟩
 have nLI:s.heap.objs.size≠h1.objs.size:=by rw [sz1];exact Ay (A1 _)
 have ndI:S≠h1.objs.size:=Ay lt1
 refine Aa (AI ?_)
 (unfold Builtin.List.listLengthHint)
 refine Aa (wpAny_specialOf ty2 F.slot_dict_len.lookup ?_)
 refine (?_:wpAny _ A.in1 (isInstance (Value.ref S) (.type "dict") >>= _) _ _ _)
 refine Aa (B7 (b:=true) ty2 (by rw [isSubtype_type];kernel_rfl) ?_)
 refine (?_:wpAny _ A.in1 (typeOf (Value.ref S) >>= _) _ _ _)
 refine Aa (BY ty2 (Ac ?_))
 have gL2:=k2 _ _ gL
 refine (?_:wpAny _ A.in1 (rule "list.extend.makes-room" >>= λ_=>Builtin.List.listTouch (.ref s.heap.objs.size) >>= λ_=>again (.builtin "list.extend.loop" ⟨[.ref s.heap.objs.size,.ref h1.objs.size,.ref s.heap.objs.size],[]⟩)) _ _ _)
 refine Aa (BS (Aa ?_))
 refine (?_:wpAny _ A.in1 (updateSeq s.heap.objs.size (·.push .none) >>= λ_=>updateSeq s.heap.objs.size (·.pop)) _ _ _)
 refine Aa (Ce gL2 rfl ?_)
 have gL3:=AS (Obj.mapSeq (·.push Value.none)) gL2 rfl
 refine Ce gL3 rfl ?_
 have gL4:=AS (Obj.mapSeq (·.pop)) gL3 rfl
 have nL:s.heap.objs.size∉[h1.objs.size,S]:=by
  simp only [Am,AJ,BG,not_or]
  exact ⟨nLI,nd⟩
 have oth:∀ b o,b≠s.heap.objs.size->h2.get? b=some o->((h2.update s.heap.objs.size (Obj.mapSeq (·.push Value.none))).update s.heap.objs.size (Obj.mapSeq (·.pop))).get? b=some o:=
  λb o hb e=>(By _ _ hb.symm).trans ((By _ _ hb.symm).trans e)
 have W:=(Lo (prog:=prog) (A:=A.in1) (w:=w) (es:=es) (ep:=ep) hh ndI).toS
 refine Ac ⟨plainId_quiet F.plain_extend_loop _,codeAny_extend_loopS (A:=A) W hz _ nL _ es.size 0 _ _ _ rfl (AZ _) ?_ gL4 (ItemsOf.nil _) λs' acc' c' hm hS' hacc=>?_⟩
 ·exact (Lo (prog:=prog) (A:=A.in1) (w:=w) (es:=es) (ep:=ep) hh ndI).frame 0 _ _ st λb hb o e=>oth b o (λz=>nL (z▸hb)) e
 refine (?_:wpAny _ A (load s.heap.objs.size >>= _) _ _ s')
 refine Aa (wpAny_load hS' ?_)
 obtain ⟨zh,zg,zd,zt,zo⟩:=s'
 have e4:zg=s.gens:=hm.gens
 have e5:zd=s.drawn:=hm.drawn
 have e6:zo=s.os:=hm.os
 subst e4 e5 e6
 have ac:acc'.toList=es.toList.map (·.key):=by
  refine BV λi=>?_
  rw [Al,Ax,Ax]
  by_cases hi:i<es.size
  ·have hi':i<acc'.size:=by rw [hacc.1];exact hi
   obtain ⟨e,x1,x2⟩:=hacc.2 i _ (Aq hi')
   rw [Aq hi',x1,← x2]
   rfl
  ·rw [Bk (by rw [hacc.1];omega),Bk (by omega)]
   rfl
 refine Ac ?_
 refine (?_:Q acc'.toList _)
 rw [ac]
 refine q zh zt λb o e=>?_
 have bl:=Ao e
 refine hm.heap b o ?_ (oth b o (Ay bl) (k2 _ _ (k1 _ _ e)))
 simp only [Am,AJ,BG,not_or]
 exact ⟨Ay bl,Ay (show b<h1.objs.size by rw [sz1];exact A5 bl)⟩
theorem NK {S:Addr}{ob:Obj}{d:Addr}{es:Array DictEntry}{ep:Nat}{Q:List Value->Shared->Prop}(hh:A.handled=none)(hz:es.size≤sizeLine)(g1:s.heap.get? S=some ob)(gc:ob.cls=.type "dict_values")(gf:ob.data=.fields #[.ref d])(g2:DAt s.heap d es ep)
  (q:∀ h' tk,(∀ b o,s.heap.get? b=some o->h'.get? b=some o)->Q (es.toList.map (·.val)) { s with heap:=h',toks:=tk }):wpAny (model prog w) A (collect (.ref S)) Q E s:=by
 obtain ⟨od,d1,d2⟩:=g2
 have lS:S<s.heap.objs.size:=Ao g1
 have ld:d<s.heap.objs.size:=Ao d1
 have nS:s.heap.objs.size≠S:=Nat.ne_of_gt lS
 have nd:s.heap.objs.size≠d:=Nat.ne_of_gt ld
 unfold collect
 refine Aa (wpAny_runValue (Bg F.entry_proto_collect ?_))
 rw [Bc F.plain_proto_collect _]
 refine (?_:wpAny _ A.in1 (newList [] >>= λl=>again (.builtin "list.__iadd__" ⟨[l,.ref S],[]⟩)) _ _ s)
 refine Aa (AU (Ac ⟨plainId_quiet F.plain_list_iadd _,Bg F.entry_list_iadd ?_⟩))
 rw [Bc F.plain_list_iadd _]
 refine (?_:wpAny _ A.in1 (Builtin.List.listExtendWith (.ref s.heap.objs.size) (.ref S) (.ref s.heap.objs.size)) _ _ _)
 (unfold Builtin.List.listExtendWith)
 have gS:(s.heap.push { cls:=.type "list",data:=.seq ([]:List Value).toArray }).get? S=some ob:=Ad _ g1
 have gd:(s.heap.push { cls:=.type "list",data:=.seq ([]:List Value).toArray }).get? d=some od:=Ad _ d1
 have gL:(s.heap.push { cls:=.type "list",data:=.seq ([]:List Value).toArray }).get? s.heap.objs.size=some { cls:=.type "list",data:=.seq ([]:List Value).toArray }:=Aj _ rfl
 generalize hP:s.heap.push { cls:=.type "list",data:=.seq ([]:List Value).toArray }=h1 at gS gL gd ⊢
 have k1:∀ b o,s.heap.get? b=some o->h1.get? b=some o:=λb o e=>by rw [← hP];exact Ad _ e
 have sz1:h1.objs.size=s.heap.objs.size+1:=by rw [← hP];exact A9 ..
 have ty:Shared.TypeIs { s with heap:=h1 } (.ref S) "dict_values":=⟨ob,gS,gc⟩
 refine Aa (BY ty ?_)
 have e1:Builtin.List.listSameRef (.ref s.heap.objs.size) (.ref S)=false:=by simp [Builtin.List.listSameRef,nS]
 simp only [e1,show (Value.type "dict_values"==Value.type "list")=false by decide,show (Value.type "dict_values"==Value.type "tuple")=false by decide,Bool.or_false,Av,A0]
 have lt1:d<h1.objs.size:=by rw [sz1];exact A5 ld
 refine Aa (Oc (s:={ s with heap:=h1 }) gS gc gf gd d2 λh2 e2 k2 st=>?_)
 have ty2:Shared.TypeIs { s with heap:=h2 } (.ref S) "dict_values":=⟨ob,k2 _ _ gS,gc⟩
 have nLI:s.heap.objs.size≠h1.objs.size:=by rw [sz1];exact Ay (A1 _)
 have ndI:d≠h1.objs.size:=Ay lt1
 refine Aa (AI ?_)
 (unfold Builtin.List.listLengthHint)
 refine Aa (wpAny_specialOf ty2 F.slot_dict_values_len.lookup ?_)
 refine (?_:wpAny _ A.in1 (isInstance (Value.ref S) (.type "dict_values") >>= _) _ _ _)
 refine Aa (B7 (b:=true) ty2 (by rw [isSubtype_type];kernel_rfl) ?_)
 refine (?_:wpAny _ A.in1 (typeOf (Value.ref S) >>= _) _ _ _)
 refine Aa (BY ty2 (Ac ?_))
 have gL2:=k2 _ _ gL
 refine (?_:wpAny _ A.in1 (rule "list.extend.makes-room" >>= λ_=>Builtin.List.listTouch (.ref s.heap.objs.size) >>= λ_=>again (.builtin "list.extend.loop" ⟨[.ref s.heap.objs.size,.ref h1.objs.size,.ref s.heap.objs.size],[]⟩)) _ _ _)
 refine Aa (BS (Aa ?_))
 refine (?_:wpAny _ A.in1 (updateSeq s.heap.objs.size (·.push .none) >>= λ_=>updateSeq s.heap.objs.size (·.pop)) _ _ _)
 refine Aa (Ce gL2 rfl ?_)
 have gL3:=AS (Obj.mapSeq (·.push Value.none)) gL2 rfl
 refine Ce gL3 rfl ?_
 have gL4:=AS (Obj.mapSeq (·.pop)) gL3 rfl
 have nL:s.heap.objs.size∉[h1.objs.size,d]:=by
  simp only [Am,AJ,BG,not_or]
  exact ⟨nLI,nd⟩
 have oth:∀ b o,b≠s.heap.objs.size->h2.get? b=some o->((h2.update s.heap.objs.size (Obj.mapSeq (·.push Value.none))).update s.heap.objs.size (Obj.mapSeq (·.pop))).get? b=some o:=
  λb o hb e=>(By _ _ hb.symm).trans ((By _ _ hb.symm).trans e)
 have W:=(Ld (prog:=prog) (A:=A.in1) (w:=w) (es:=es) (ep:=ep) hh ndI).toS
 refine Ac ⟨plainId_quiet F.plain_extend_loop _,codeAny_extend_loopS (A:=A) W hz _ nL _ es.size 0 _ _ _ rfl (AZ _) ?_ gL4 (ItemsOf.nil _) λs' acc' c' hm hS' hacc=>?_⟩
 ·exact (Ld (prog:=prog) (A:=A.in1) (w:=w) (es:=es) (ep:=ep) hh ndI).frame 0 _ _ st λb hb o e=>oth b o (λz=>nL (z▸hb)) e
 refine (?_:wpAny _ A (load s.heap.objs.size >>= _) _ _ s')
 refine Aa (wpAny_load hS' ?_)
 obtain ⟨zh,zg,zd,zt,zo⟩:=s'
 have e4:zg=s.gens:=hm.gens
 have e5:zd=s.drawn:=hm.drawn
 have e6:zo=s.os:=hm.os
 subst e4 e5 e6
 have ac:acc'.toList=es.toList.map (·.val):=by
  refine BV λi=>?_
  rw [Al,Ax,Ax]
  by_cases hi:i<es.size
  ·have hi':i<acc'.size:=by rw [hacc.1];exact hi
   obtain ⟨e,x1,x2⟩:=hacc.2 i _ (Aq hi')
   rw [Aq hi',x1,← x2]
   rfl
  ·rw [Bk (by rw [hacc.1];omega),Bk (by omega)]
   rfl
 refine Ac ?_
 refine (?_:Q acc'.toList _)
 rw [ac]
 refine q zh zt λb o e=>?_
 have bl:=Ao e
 refine hm.heap b o ?_ (oth b o (Ay bl) (k2 _ _ (k1 _ _ e)))
 simp only [Am,AJ,BG,not_or]
 exact ⟨Ay bl,Ay (show b<h1.objs.size by rw [sz1];exact A5 bl)⟩
end
section
variable {X:Cx} {K:Zc} {th:List Addr} {mu:Sto} {H:Hp} {pins:List (Addr×Obj)} {st:L2.St} {s:Shared}
theorem Ka (hu:X.A.units+64<cLine)(I:L2.Inv X pins st H s)(so:StoOk X.z th mu H){es:List D}(ok:DW es=true){u:Value}{Q:VK}(t:Tr X.z th H (some (D.lst (Ep es),mu)) (KV' X.z Q))
  (col:∀ Q':List Value->Shared->Prop,(∀ vs zs h' tk,RepL X.z th H es vs->Vals vs zs->(∀ b o,s.heap.get? b=some o->h'.get? b=some o)->Q' zs { s with heap:=h',toks:=tk })->wpAny (model X.prog X.w) X.A.in1 (collect u) Q' X.xe s) :
  wpAny (model X.prog X.w) X.A (call (.builtin "sorted") [u]) (EP X pins st Q) X.xe s:=by
 refine Lw (col _ λvs zs h1 tk h2 rv hk=>?_)
 have I1:L2.Inv X pins st H { s with heap:=h1,toks:=tk }:=I.kept (t':=tk) hk
 have l64:es.length<64:=by
  have:=ok
  unfold DW at this
  rw [Ab,Ab,Ab,Af] at this
  exact this.1.1.1
 have lz:zs.length=es.length:=by rw [← rv.length,h2.len]
 obtain ⟨ws,out,w1,w2,w3⟩:=sorts hu I1 h2 rv ok
 have z64:64≤sizeLine:=by rw [AH];decide
 have wl:(Ep es).length≤sizeLine:=by rw [(Dv es).length_eq];omega
 refine ⟨by omega,out,w3,λh' e a hk' ha he=>?_⟩
 have hp:H a=none:=I1.hok.fresh ha
 refine ⟨.ref a,_,I1.laid (t':=tk) (o:=.lst ws) hk' ha ⟨by rw [w1.len];exact wl,out,e,w2,he⟩,rfl,?_⟩
 exact t.retX (.new hp _) (so.new hp _) _ (Rep.newLst so hp w1 wl)
theorem O8 (I:L2.Inv X pins st H s){a:Addr}{ks ds:List D}(h:DcAt X.z th H a ks ds):∃ o es ep,(a==sysModules)=false∧s.heap.get? a=some o∧o.ExactDict∧o.data=.dict es ep∧es.size≤sizeLine∧(∃ vs,RepL X.z th H ks vs∧Vals vs (es.toList.map (·.key)))∧∃ vs,RepL X.z th H ds vs∧Vals vs (es.toList.map (·.val)):=by
 obtain ⟨xs0,h1',h2,h3,h4,h5⟩:=id h
 obtain ⟨xs,o,es,ep,h1,g⟩:=Gd I h
 obtain ⟨⟨z',o',es',ep',g1,g2,g3,g4⟩,_⟩:=(show ObjOk X.prog X.w H s.heap a (Ge a xs0) from I.hok a _ h1')
 have e1:=g.at'
 rw [g1] at e1
 cases e1
 have e2:=g.dt
 rw [g3] at e2
 cases e2
 have kv:∀ {ys:List (Int×V×V)} {zs:List DictEntry},Paired (λ(x:Int×V×V) (e:DictEntry)=>e.hash=x.1∧RelV x.2.1 e.key∧RelV x.2.2 e.val) ys zs->Vals (ys.map (·.2.1)) (zs.map (·.key))∧Vals (ys.map (·.2.2)) (zs.map (·.val)):=λ{ys zs} p=>by
  induction p with
  | nil=>exact ⟨.nil,.nil⟩
  | cons a b ih=>exact ⟨.cons a.2.1 ih.1,.cons a.2.2 ih.2⟩
 have sz:es.size≤sizeLine:=by
  have e:=DP g.en
  have e':es.size=ks.length:=by
   rw [← Array.length_toList]
   exact e.symm
  rw [e']
  exact h5.len
 exact ⟨o,es,ep,z',g1,g2,g3,sz,⟨_,h3,(kv g4).1⟩,⟨_,h4,(kv g4).2⟩⟩
noncomputable def Rl:Fn:=λds mu=>match HL ds with
 | some d=>match Fx mu d with
  | some p=>if DW p.1=true then some (.lst (Ep p.1),mu) else none
  | none=>none
 | none=>none
theorem RG {ds:List D}{r:D×Sto}(h:Rl ds mu=some r):∃ d p,ds=[d]∧Fx mu d=some p∧DW p.1=true∧r=(.lst (Ep p.1),mu):=by
 unfold Rl at h
 split at h
 ·rename_i d e
  split at h
  ·rename_i p e2
   split at h
   ·rename_i c;cases h;exact ⟨d,p,Hl e,e2,c,rfl⟩
   ·cases h
  ·cases h
 ·cases h
theorem Qd (hu:X.A.units+64<cLine)(hc:X.calm=true):CallV X (.builtin "sorted") Rl:=by
 intro pins s st H xs us Q I r h
 obtain ⟨th,mu,ds,so,rd,t⟩:=h
 obtain ⟨a0,mu0,e0,_⟩:=id t
 obtain ⟨d,p,rfl,eg,ok,er⟩:=RG e0
 rw [e0] at t
 cases er
 obtain ⟨x,rfl,rx⟩:=DY rd
 obtain ⟨u,rfl,ru⟩:=vals1 r
 obtain ⟨a,rfl,dc⟩:=EN so eg rx
 cases ru
 obtain ⟨o,es,ep,ns,g1,g2,g3,sz,⟨vs,k1,k2⟩,_⟩:=O8 I dc
 exact Ka hu I so ok t λQ' q=>Ol (I.ok.hd hc) sz g1 g2.1 ns ⟨o,g1,g3⟩ λh' tk hk=>q _ _ h' tk k1 k2 hk
noncomputable def KS:Fn:=λds mu=>match K6 ds mu with|some r=>some r|none=>Rl ds mu
theorem IU (hu:X.A.units+64<cLine)(hc:X.calm=true):CallV X (.builtin "sorted") KS:=CallV.or (Qb hu hc) (Qd hu hc)
noncomputable def Zp (a d:Addr)(h:Heap):Prop:=∃ o,h.get? a=some o∧o.cls=.type "dict_values"∧o.data=.fields #[.ref d]
noncomputable def Pl (a d:Addr):HO:=.ext (Zp a d)
noncomputable def Aaw (r:V->List V->Hp->VK->Prop)(to:TE):TE:=fun σ H Q=>to σ H λx H1=>(∃ a xs,x=.ref a∧H1 a=some (Ge a xs))∧r x [] H1 Q
theorem Wl {o:Expr}{to:TE}{name:Str}{apos cpos:Pos}{id:String}{r:V->List V->Hp->VK->Prop}(slot:Slot "dict" name id)(hty:typeOf (.builtin id)=pure (.type "method_descriptor"))(hm:MtR X id r)(ho:PE X o to)
  (hbase:attributeBase o name X.env (eval o X.env)=eval o X.env) (hline:(apos.endLine==cpos.line)=true):PE X (.Call (.Attribute o name apos) [] [] cpos) (Aaw r to):=by
 intro pins s st H Q I h
 refine wpAny_Call_method0_late hbase hline (thn (ho pins s st H _ I h) λv s1 ⟨x,H1,I1,r1,⟨a,xs,e,hd⟩,q1⟩=>?_)
 subst e
 cases r1
 obtain ⟨⟨z,ob,es,ep,g1,g2,g3,g4⟩,_⟩:=(show ObjOk X.prog X.w H1 s1.heap a (Ge a xs) from I1.hok a _ hd)
 exact ⟨"dict",id,PySem.F.plainAttrs_dict,slot,hty,⟨ob,g1,g2.1⟩,λb e=>by cases e;exact ⟨ob,g1,g2.2.1⟩,Calls.callWith_builtin rfl (PySem.evalArgs_none (hm pins s1 st H1 (.ref a) [] _ [] Q I1 rfl .nil q1))⟩
theorem Qz:MtR X "dict.values" (λx vs H Q=>vs=[]∧∃ a xs,x=.ref a∧H a=some (Ge a xs)∧∀ b,H b=none->Q (.ref b) (upd H b (Pl b a))):=by
 intro pins s st H x ys v us Q I rx rys ⟨e0,a,xs,e,hd,q⟩
 subst e e0
 cases rx
 cases rys
 obtain ⟨⟨z,ob,es,ep,g1,g2,g3,g4⟩,_⟩:=(show ObjOk X.prog X.w H s.heap a (Ge a xs) from I.hok a _ hd)
 have ty:s.TypeIs (.ref a) "dict":=⟨ob,g1,g2.1⟩
 have hM:MeetsIn X.prog X.w (Builtin.«dict.values» ⟨[.ref a],[]⟩) (λ_ R s=>s.heap.get? a=some ob∧R (.ok (.ret (.ref s.heap.objs.size))) { s with heap:=s.heap.push { cls:=.type "dict_values",data:=.fields #[.ref a] } }):=.of_wp λA R s ⟨g0,h⟩=>by
  refine Aa ?_
  unfold Builtin.Dict.noArgs
  refine Aa (wpAny_notOrdered_dict ⟨ob,g0,g2.1⟩ ?_)
  refine (?_:wpAny _ _ (pure a) _ _ s)
  refine Ac (?_:wpAny _ _ (Builtin.Dict.showsAll a >>= _) _ _ s)
  unfold Builtin.Dict.showsAll
  rw [if_neg (by rw [z];exact AG)]
  exact Aa (Ac (Aa (AU (Ac ⟨_,rfl,h⟩))))
 refine call_meetsIn PySem.F.slot_dict_values ty PySem.F.entry_dict_values (PySem.F.args_dict_values_1 _) hM ⟨g1,?_⟩
 have hp:H s.heap.objs.size=none:=I.hok.fresh (Ai _)
 refine ⟨.ref s.heap.objs.size,_,I.laid (t':=s.toks) (o:=Pl s.heap.objs.size a) (λb o e=>Ad _ e) (Ai _) ⟨⟨_,Aj _ rfl,rfl,rfl⟩,⟨_,Aj _ rfl⟩,λh1 h2 ⟨o,x1,x2⟩ k=>⟨o,k o x1,x2⟩⟩,rfl,q _ hp⟩
theorem PQ (hu:X.A.units+64<cLine)(hc:X.calm=true):F9 X (.builtin "sorted") (λvs H Q=>∃ th mu a d ks ds,vs=[.ref a]∧H a=some (Pl a d)∧StoOk X.z th mu H∧DcAt X.z th H d ks ds∧DW ds=true∧Tr X.z th H (some (D.lst (Ep ds),mu)) (KV' X.z Q)):=by
 intro pins s st H xs us Q I r ⟨th,mu,a,d,ks,ds,e,hv,so,dc,ok,t⟩
 subst e
 obtain ⟨u,rfl,ru⟩:=vals1 r
 cases ru
 obtain ⟨⟨ov,v1,v2,v3⟩,_⟩:=(show ObjOk X.prog X.w H s.heap a (Pl a d) from I.hok a _ hv)
 obtain ⟨o,es,ep,ns,g1,g2,g3,sz,_,⟨vs,k1,k2⟩⟩:=O8 I dc
 exact Ka hu I so ok t λQ' q=>NK (I.ok.hd hc) sz v1 v2 v3 ⟨o,g1,g3⟩ λh' tk hk=>q _ _ h' tk k1 k2 hk
noncomputable def Lz (a:Ex):Ex:=λro mu=>bM (a ro mu) λd m1=>match Fx m1 d with
 | some p=>if DW p.2=true then some (.lst (Ep p.2),m1) else none
 | none=>none
theorem DcAt.new {a p:Addr}{ks ds:List D}(h:DcAt K th H a ks ds)(so:StoOk K th mu H)(hp:H p=none)(o:HO):DcAt K th (upd H p o) a ks ds:=by
 obtain ⟨xs,h1,h2,h3,h4,h5⟩:=h
 exact ⟨xs,by rw [Dg (CW h1 hp)];exact h1,h2,h3.ext (.new hp o) so.out,h4.ext (.new hp o) so.out,h5⟩
theorem UC (hu:X.A.units+64<cLine)(hc:X.calm=true){o:Expr}{m:Ex}{apos cpos p pos:Pos}(hm:X.mg "sorted"=none)(ho:SV X o m)(hg:Gl X "sorted":=by rfl)(hbase:attributeBase o "values" X.env (eval o X.env)=eval o X.env:=by rfl)(hline:(apos.endLine==cpos.line)=true:=by rfl)
  (hs1:starEach [.Call (.Attribute o "values" apos) [] [] cpos] X.env=(false,eval (.Call (.Attribute o "values" apos) [] [] cpos) X.env)::starEach [] X.env:=by rfl) (hs2:(backTo pos (starEach [] X.env)).any (·.1)=false:=by rfl) :
  SV X (.Call (.Name "sorted" p) [.Call (.Attribute o "values" apos) [] [] cpos] [] pos) (Lz m):=
 ⟨PE.weak (Kt (PQ hu hc) hg hm PyProof.Rows.boot_sorted (JZ (Wl PySem.F.slot_dict_values PySem.F.type_dict_values Qz ho.r hbase hline) OE hs1) (by decide) (by decide) hs1 hs2) λst H Q h=>by
  obtain ⟨th,mu,ro,so,en,t⟩:=h
  refine ⟨th,mu,ro,so,en,t.bind.mono λd th1 mu1 H1 e1 s1 t1 v rv=>?_⟩
  cases q:Fx mu1 d with
  | none=>rw [q] at t1;exact t1.no.elim
  | some pr =>
   rw [q] at t1
   dsimp only at t1
   by_cases c:DW pr.2=true
   ·rw [if_pos c] at t1
    obtain ⟨a,rfl,dc⟩:=EN s1 q rv
    obtain ⟨xs,hx,_⟩:=id dc
    exact ⟨⟨a,xs,rfl,hx⟩,rfl,a,xs,rfl,hx,λb hb=>⟨th1,mu1,b,a,pr.1,pr.2,rfl,DR,s1.new hb _,dc.new s1 hb _,c,t1.ahead (.new hb _)⟩⟩
   ·rw [if_neg c] at t1;exact t1.no.elim⟩
end
theorem Uz (T:String)(hT:T="list"∨T="tuple")(l:Addr)(items:Array Value)(n:Nat)(b:Addr)(dd:Option Addr)(sl:Array (Option Value))(items2:Array Value)(n2:Nat)(hc0:¬(!items.isEmpty&&Builtin.List.listTooLong (items.size+items2.size))=true)(hc1:items.size≤sizeLine)(hs2:items.size+items2.size≤sizeLine+1) :
  Meets (Builtin.«list.extend» ⟨[.ref l,.ref b],[]⟩) (λ_ R s=>s.heap.get? l=some { cls:=.type "list",data:=.seq items n }∧s.heap.get? b=some { cls:=.type T,dict:=dd,data:=.seq items2 n2,slots:=sl }∧R (.ok (.ret Value.none)) { s with heap:=s.heap.update l (Obj.mapSeq λx=>x++items2) }):=
 .of_wp λprog w A R s h=>by
  obtain ⟨hp,g,d,tk,os⟩:=s
  obtain ⟨hl,hb,h⟩:=h
  have f2:=sub_tuple_tuple
  have f3:=sub_list_list
  have f4:=sub_tuple_list
  have f5:=sub_list_tuple
  have hz':(items++items2).size≤sizeLine+1:=by rw [Array.size_append];exact hs2
  rcases hT with rfl|rfl
  ·wp_walk using (Ce hl rfl (hz:=hc1) (_hz':=hz')),A8 hl,A8 hb
   exact ⟨_,rfl,h⟩
  ·wp_walk using (Ce hl rfl (hz:=hc1) (_hz':=hz')),A8 hl,A8 hb
   exact ⟨_,rfl,h⟩
section
variable {X:Cx} {K:Zc} {th:List Addr} {mu:Sto} {H:Hp} {pins:List (Addr×Obj)} {st:L2.St} {s:Shared}
theorem Wy:MtR X "list.extend" (λx vs H Q=>∃ l b xs zs,x=.ref l∧vs=[.ref b]∧H l=some (.lst xs)∧(SqL X.K H b zs∨SqT X.K H b zs)∧xs.length+zs.length≤sizeLine∧Q .non (upd H l (.lst (xs++zs)))):=by
 intro pins s σ H x vs v us Q I rx rv h
 obtain ⟨l,b,xs,zs,rfl,rfl,hH,hB,hz,q⟩:=h
 cases rx
 obtain ⟨u,rfl,ru⟩:=rv.one
 cases ru
 obtain ⟨z,its,n,r,hl,e⟩:=I.lstM hH
 have fin:∀ (T:String) (ob:Obj) (its2:List Value) (n2:Nat),(T="list"∨T="tuple")->Vals zs its2->s.heap.get? b=some ob->ob.cls=.type T->ob.data=.seq its2.toArray n2->wpAny (model X.prog X.w) X.A (call (.builtin "list.extend") [.ref l,.ref b]) (EP X pins σ Q) X.xe s:=λT ob its2 n2 hT r2 g1 g2 g3=>by
  have l1:=r.length
  have l2:=r2.length
  have hsz:its.toArray.size+its2.toArray.size≤sizeLine:=by rw [An,An];omega
  have hlong:¬ (!its.toArray.isEmpty&&Builtin.List.listTooLong (its.toArray.size+its2.toArray.size))=true:=by
   rw [TJ hsz,Bool.and_false]
   exact AG
  obtain ⟨cls,dd,data,sl⟩:=ob
  simp only at g2 g3
  subst g2 g3
  refine call_meets F.slot_list_extend ⟨_,e,rfl⟩ F.entry_list_extend (F.args_list_extend_2 _ _) (Uz T hT l its.toArray n b dd sl its2.toArray n2 hlong (by rw [An];omega) (by omega)) ⟨e,g1,?_⟩
  refine ⟨.non,_,I.lset (its':=its++its2) hH e (by simp) (r.append r2) ?_,rfl,q⟩
  rw [Ar]
  omega
 rcases hB with hB|hB
 ·obtain ⟨its2,r2,⟨ob,n2,g1,g2,_,g3⟩,_⟩:=I.list hB
  exact fin "list" ob its2 n2 (.inl rfl) r2 g1 g2 g3
 ·obtain ⟨its2,r2,⟨ob,g1,g2,n2,g3⟩,_⟩:=I.tuple hB
  exact fin "tuple" ob its2 n2 (.inr rfl) r2 g1 g2 g3
noncomputable def So (o:Ex)(a:Exs):Ex:=λro mu=>bM (o ro mu) λd m1=>match d with
 | .ref k=>if Ek m1 (.ref k)=true then bM (a ro m1) λxs m2=>match sq1 xs m2,m2[k]? with
  | some ys,some (.lst ds)=>if ds.length+ys.length≤sizeLine then some (.non,m2.set k (.lst (ds++ys))) else none
  | _,_=>none
  else none
 | _=>none
theorem QM {o e:Expr}{m:Ex}{n:Exs}{apos cpos:Pos}(ho:SV X o m)(ha:SVA X [e] n)(hbase:attributeBase o "extend" X.env (eval o X.env)=eval o X.env:=by rfl)
  (hfew:((backTo cpos (starEach [e] X.env)).all (λx=>!x.1)&&(backToKw cpos (keywordEach [] X.env)).all (λx=>x.1.isSome)
   && decide ([e].length+([]:List Keyword).length+(if ([]:List Keyword).isEmpty then 0 else 1)<30))=true:=by rfl)
  (hline:(apos.endLine==cpos.line)=true:=by rfl) (hs:starEach [e] X.env=(false,eval e X.env)::starEach [] X.env:=by rfl) (hplain:(backTo cpos (starEach [] X.env)).any (·.1)=false:=by rfl) :
  SV X (.Call (.Attribute o "extend" apos) [e] [] cpos) (So m n):=
 ⟨PE.weak (VT PySem.F.plainAttrs_list PySem.F.slot_list_extend PySem.F.type_list_extend Wy ho.r ha.1 hbase hfew hline hs hplain) λst H Q h=>by
  obtain ⟨th,mu,ro,so,en,t⟩:=h
  refine ⟨th,mu,ro,so,en,t.bind.mono λd th1 mu1 H1 e1 s1 t1 v rv=>?_⟩
  cases d with
  | ref k =>
   unfold Rep at rv
   obtain ⟨a,rfl,ha'⟩:=rv
   by_cases cr:Ek mu1 (.ref k)=true
   case neg=>dsimp only at t1;rw [if_neg cr] at t1;exact t1.no.elim
   dsimp only at t1
   rw [if_pos cr] at t1
   obtain ⟨ds0,em⟩:=IM cr
   obtain ⟨vs,h2,_⟩:=s1.at' k a _ ha' em
   refine ⟨.inl ⟨rfl,vs,SqL.of h2⟩,th1,mu1,ro,s1,en.ext e1 so.out,?_⟩
   refine Tr.mono (Tr.bind t1) λxs th2 mu2 H2 e2 s2 t2 ws rws=>?_
   cases q1:sq1 xs mu2 with
   | none=>rw [q1] at t2;exact t2.no.elim
   | some ys =>
    cases q2:mu2[k]? with
    | none=>rw [q1,q2] at t2;exact t2.no.elim
    | some o =>
     cases o with
     | dct _ _=>rw [q1,q2] at t2;exact t2.no.elim
     | lst ds =>
      rw [q1,q2] at t2
      dsimp only at t2
      by_cases c:ds.length+ys.length≤sizeLine
      ·rw [if_pos c] at t2
       have hk:=e2.at ha'
       obtain ⟨us,g1,g2,g3⟩:=s2.at' k a _ hk q2
       unfold sq1 at q1
       cases q3:HL xs with
       | none=>rw [q3] at q1;cases q1
       | some y =>
        rw [q3] at q1
        rw [Hl q3] at rws
        obtain ⟨y',rfl,ry⟩:=DY rws
        obtain ⟨b,zs,rfl,z1,z2,_⟩:=FI s2 q1 ry
        exact ⟨a,b,us,zs,rfl,rfl,g1,z1.imp id (·.1),by rw [g2.len,z2.len];exact c,t2.retX (.mut (Ak hk) _) (s2.put hk (g2.app z2) (by rw [Ar];exact c)) _ rfl⟩
      ·rw [if_neg c] at t2;exact t2.no.elim
  | _=>exact t1.no.elim⟩
end
end PV
namespace L2
open PySem PySem.Spec PyProof.Rows
noncomputable def deeper (e iter:Expr)(acc:Value)(env:Env):Sem Unit:=do
 let x←eval iter env
 standAt iter.pos
 let x←foldedSetIterable iter env x
 let _←runOwn (.compStart e 1 (← holding [x] (pyIter x)) acc env) env
noncomputable abbrev TM (α:Type):=α->St->Hp->(α->St->Hp->Prop)->Prop
structure Acc (α:Type) where
 ao:α->Obj->Prop
 nc:∀ a o,ao a o->∀ v,o.data≠.cell v
section
variable {X:Cx} {α:Type} {scope:Scope} {fv:List (Nat×Str)}
structure Aa0 (α:Type) extends Acc α where
 cls:String
 d0:Data
 a0:α
 ao0:ao a0 { cls:=.type cls,dict:=none,data:=d0 }
 fin:α->Prop
 ho:Addr->α->HO
 sz:sizeOk d0
 fr:({ cls:=.type cls,dict:=none,data:=d0 }:Obj).isFreed=false
 lay:∀ (P:Program) (w:World) (H:Hp) (h:Heap) (D:Addr) (a:α) (o:Obj),ao a o->fin a->h.get? D=some o->sysModules<D->ObjOk P w (upd H D (ho D a)) h D (ho D a)
end
end L2
namespace PV
open PySem L2 PySem.Spec PyProof.Rows
noncomputable abbrev Mx (β:Type):=β->Ro->Sto->Rs β
theorem Lu {α β:Type}{F G:α->β->Prop}:∀ {xs:List α} {ys:List β},Paired F xs ys->(∀ x y,F x y->G x y)->Paired G xs ys
 | _,_,.nil,_=>.nil
 | _,_,.cons r t,f=>.cons (f _ _ r) (Lu t f)
theorem Hd.keep {h h':Heap}{d:D}{u:Value}(x:Hd h d u)(k:∀ b o,h.get? b=some o->h'.get? b=some o):Hd h' d u:=by
 obtain ⟨a,b,as,c⟩:=x
 exact ⟨a,b,as,Reads.keeps k c⟩
theorem J3 (b:Str)(u:Tok)(l:Addr)(es:Array DictEntry)(n:Nat)(dd:Option Addr)(sl:Array (Option Value)) :
  Meets (Builtin.«str.__eq__» ⟨[.str b u,.ref l],[]⟩) (λ_ R s=>s.heap.get? l=some { cls:=.type "dict",dict:=dd,data:=.dict es n,slots:=sl }∧R (.ok (.ret .notImplemented)) s):=
 .of_wp λprog w A R s h=>by obtain ⟨hp,g,d,tk,os⟩:=s;obtain ⟨hl,h⟩:=h;wp_walk using A8 hl,wpAny_load hl;exact ⟨_,rfl,h⟩
theorem Ky (l:Addr)(es:Array DictEntry)(n:Nat)(dd:Option Addr)(sl:Array (Option Value))(b:Str)(u:Tok) :
  Meets (Builtin.«dict.__eq__» ⟨[.ref l,.str b u],[]⟩) (λ_ R s=>s.heap.get? l=some { cls:=.type "dict",dict:=dd,data:=.dict es n,slots:=sl }∧R (.ok (.ret .notImplemented)) s):=
 .of_wp λprog w A R s h=>by
  obtain ⟨hp,g,d,tk,os⟩:=s;obtain ⟨hl,h⟩:=h
  have f1:=PySem.F.sub_str_dict
  have hT:(⟨hp,g,d,tk,os⟩:Shared).TypeIs (.ref l) "dict":=⟨_,hl,rfl⟩
  unfold Builtin.«dict.__eq__»
  wp_walk using A8 hl,wpAny_load hl
  exact ⟨_,rfl,h⟩
theorem VN {A:Around}{s:Shared}{l:Addr}{es:Array DictEntry}{n:Nat}{dd:Option Addr}{sl:Array (Option Value)}(b:Str)(u:Tok)(ho:s.heap.get? l=some { cls:=.type "dict",dict:=dd,data:=.dict es n,slots:=sl })(hu:A.units<cLine):SeqAt.RcAt A s (.str b u) (.ref l) false:=λprog w E Q h=>by
 exact B2 (k:=false) (typeIs_str s b u) ⟨_,ho,rfl⟩ (by decide) PySem.F.sub_dict_str PySem.F.slot_str_eq BR
  (λ_ hq=>call_meets PySem.F.slot_str_eq (typeIs_str s b u) PySem.F.entry_str_eq (PySem.F.args_str_eq_2 _ _) (J3 b u l es n dd sl) ⟨ho,hq⟩)
  (λ_ hq=>call_meets BR ⟨_,ho,rfl⟩ B6 (B3 _ _) (Ky l es n dd sl b u) ⟨ho,hq⟩)
  (λ_ hq=>wpAny_of_eq (rfl:isSame (.str b u) (.ref l)=pure false) hq) (.inr hu) h
section
variable {X:Cx} {K:Zc} {th:List Addr} {mu:Sto} {H:Hp}
noncomputable def eqX (d e:D)(mu:Sto):Rs D:=match d,e with
 | .str _,.tup _=>some (.bl false,mu)
 | .str _,.lst _=>some (.bl false,mu)
 | .str _,.dct _ _=>some (.bl false,mu)
 | .tup xs,.tup []=>some (.bl (xs.length==0),mu)
 | _,_=>none
theorem V8 (hu:X.A.units+64<cLine):OpV X (compareOp .Eq) eqX:=by
 intro pins s st H x y v u Q I rx ry h
 obtain ⟨th,mu,d,e,so,r1,r2,t⟩:=h
 have hu':X.A.units<cLine:=by omega
 unfold eqX at t
 split at t
 ·rename_i x0 ds
  unfold Rep at r1 r2
  obtain ⟨rfl,_⟩:=r1
  obtain ⟨a,vs,rfl,h1,_⟩:=r2
  obtain ⟨tk,rfl⟩:=rx
  cases ry
  obtain ⟨its,rv,pl,_⟩:=I.tuple h1
  exact SeqAt.RcAt.str_tuple x0 tk pl hu' _ _ _ _ ⟨.bl false,H,I,rfl,t.ret so _ rfl⟩
 ·rename_i x0 ds
  unfold Rep at r1 r2
  obtain ⟨rfl,_⟩:=r1
  obtain ⟨a,vs,rfl,h1,_⟩:=r2
  obtain ⟨tk,rfl⟩:=rx
  cases ry
  obtain ⟨its,rv,pl,_⟩:=I.list h1.sq
  exact SeqAt.RcAt.str_list x0 tk pl.isList hu' _ _ _ _ ⟨.bl false,H,I,rfl,t.ret so _ rfl⟩
 ·rename_i x0 ks ds
  obtain ⟨a,e2,dc⟩:=EN so (d:=.dct ks ds) rfl r2
  subst e2
  unfold Rep at r1
  obtain ⟨rfl,_⟩:=r1
  obtain ⟨tk,rfl⟩:=rx
  cases ry
  obtain ⟨xs,o,es,ep,_,g⟩:=Gd I dc
  obtain ⟨⟨cls,dd,data,sl⟩,ho,hex,hdt⟩:∃ o:Obj,s.heap.get? a=some o∧o.cls=.type "dict"∧o.data=.dict es ep:=⟨o,g.at',g.ex.1,g.dt⟩
  simp only at hex hdt
  subst hex hdt
  exact VN x0 tk ho hu' _ _ _ _ ⟨.bl false,H,I,rfl,t.ret so _ rfl⟩
 ·rename_i xs
  unfold Rep at r1 r2
  obtain ⟨a,vs,rfl,h1,h2,_⟩:=r1
  obtain ⟨b,us,rfl,k1,k2,_⟩:=r2
  cases rx
  cases ry
  obtain ⟨its,rv,pl,_⟩:=I.tuple h1
  obtain ⟨its2,rv2,pl2,_⟩:=I.tuple k1
  have e2:us=[]:=k2.inv0
  subst e2
  have e3:its2=[]:=by cases rv2;rfl
  subst e3
  have il:its.length=xs.length:=by rw [← rv.length,h2.len]
  have:=SeqAt.RcAt.tuples (e:=λ_=>true) pl pl2 hu' (λj h1 h2=>absurd h2 (by simp)) X.prog X.w X.xe (EP X pins st Q) (s:=s) ⟨.bl (xs.length==0),H,I,?_,t.ret so _ rfl⟩
  ·exact this
  ·show Value.bool _=Value.bool _
   congr 1
   simp [il]
 ·exact t.no.elim
noncomputable def eqG (d e:D)(mu:Sto):Rs D:=match eqD d e mu with
 | some r=>some r
 | none=>eqX d e mu
theorem RH (hu:X.A.units+64<cLine):OpV X (compareOp .Eq) eqG:=OpV.or (E3 hu) (V8 hu)
end
section
variable {prog:Program} {w:World} {A:Around} {E:Value->Shared->Prop} {s:Shared}
mutual
theorem OJ:∀ (n:Nat) (d:D) (u:Value) (as:List Addr) (A:Around) (s:Shared) (Q:Bool->Shared->Prop),hsh d=true->dpt d≤n->Reads s.heap u (toPy d) as->Q false s->wpAny (model prog w) A (ofAClassStatement n u) Q E s
 | n,.non,_,as,A,s,Q,_,_,x,h=>by cases x;unfold ofAClassStatement;exact Ac h
 | n,.int _,_,as,A,s,Q,_,_,x,h=>by cases x;unfold ofAClassStatement;exact Ac h
 | n,.str _,_,as,A,s,Q,_,_,x,h=>by cases x;unfold ofAClassStatement;exact Ac h
 | n,.tup ds,_,as,A,s,Q,hk,hn,x,h=>by
  unfold toPy at x
  cases x with
  | @tuple a o vs k _ _ g1 g2 g3 hw =>
   unfold dpt at hn
   obtain ⟨m,rfl⟩:∃ m,n=m+1:=⟨n-1,by omega⟩
   have hT:s.TypeIs (.ref a) "tuple":=⟨o,g1,g2⟩
   unfold ofAClassStatement
   refine Aa (BY hT ?_)
   refine (?_:wpAny _ _ ((if (("tuple":String)=="tuple")=true then pure true else isSubtype (.type "tuple") (.type "tuple")) >>= _) _ _ s)
   refine Aa (Ac ?_)
   simp only [Bool.not_true,Av,A0]
   refine Aa (Bz g1 g3 (?_:wpAny _ _ (_ >>= _) _ _ s))
   refine Aa ?_
   refine (?_:wpAny _ _ (forIn vs _ _) _ _ s)
   rw [← Array.forIn_toList]
   exact Nr m ds vs.toList as A s _ (by unfold hsh at hk;exact hk) (by omega) hw (Ac h)
 | _,.bl _,_,_,_,_,_,h,_,_,_=>nomatch h
 | _,.lst _,_,_,_,_,_,h,_,_,_=>nomatch h
 | _,.dct _ _,_,_,_,_,_,h,_,_,_=>nomatch h
 | _,.set _,_,_,_,_,_,h,_,_,_=>nomatch h
 | _,.ref _,_,_,_,_,_,h,_,_,_=>nomatch h
theorem Nr:∀ (m:Nat) (ds:List D) (vs:List Value) (as:List Addr) (A:Around) (s:Shared) (Q:Option Bool×PUnit->Shared->Prop),F1 ds=true->IB ds≤m->ReadsAll s.heap vs (CJ ds) as->Q (none,PUnit.unit) s ->
  wpAny (model prog w) A (forIn vs ((none,PUnit.unit):Option Bool×PUnit) λy r=>do
    let q←ofAClassStatement m y
    if q=true then pure (ForInStep.done (some true,PUnit.unit)) else pure (ForInStep.yield (none,PUnit.unit))) Q E s
 | m,[],_,as,A,s,Q,_,_,x,h=>by unfold CJ at x;cases x;exact Ac h
 | m,d::ds,_,as,A,s,Q,hk,hn,x,h=>by
  unfold CJ at x
  cases x with
  | cons x1 x2 =>
   unfold F1 at hk
   rw [Ab] at hk
   unfold IB at hn
   rw [Cd]
   refine Aa (Aa (OJ m d _ _ A s _ hk.1 (by omega) x1 ?_))
   simp only [Av,A0]
   exact Ac (Nr m ds _ _ A s Q hk.2 (by omega) x2 h)
end
theorem Hd.class {d:D}{u:Value}{Q:Bool->Shared->Prop}(x:Hd s.heap d u)(h:Q false s):wpAny (model prog w) A (ofAClassStatement 8 u) Q E s:=by
 obtain ⟨as,r⟩:=x.rd
 have k:=Ec x.k
 exact OJ 8 d u as A s Q k.1 k.2 r h
theorem X2 {k:D}{u:Value}{stored:List Value}{Q:Bool->Shared->Prop}(hk:Hd s.heap k u)(hst:∀ v∈stored,∃ k',Hd s.heap k' v)(h:Q false s):wpAny (model prog w) A (searchCouldBeSeen u stored) Q E s:=by
 unfold searchCouldBeSeen
 refine Aa (wpAny_forIn_list _ (λrest b s'=>s'=s∧b=(none,PUnit.unit)∧∀ v∈rest,v∈stored) _ ?_ ?_ _ _ ⟨rfl,rfl,λv hv=>hv⟩)
 ·rintro x rest b s' ⟨rfl,rfl,hr⟩
  obtain ⟨k',hk'⟩:=hst x (hr x (.head _))
  dsimp only
  refine GY (λ_=>Ac ⟨rfl,rfl,λv hv=>hr v (.tail _ hv)⟩) λ_=>?_
  refine Aa (hk.quiet ?_)
  simp only [Bool.not_true,Av,A0]
  refine Aa (hk'.quiet ?_)
  simp only [Bool.not_true,Av,A0]
  refine Aa (hk.class ?_)
  simp only [Av,A0]
  refine Aa (hk'.class ?_)
  simp only [Av,A0]
  exact Ac ⟨rfl,rfl,λv hv=>hr v (.tail _ hv)⟩
 ·rintro b s' ⟨rfl,rfl,_⟩
  exact Ac h
end
section
variable {prog:Program} {w:World} {A:Around} {E:Value->Shared->Prop} {s:Shared}
noncomputable def EnE (w:World)(h:Heap)(e:Int×Value)(k:D):Prop:=e.1=CH w k∧Hd h k e.2∧∃ a,e.2=.ref a
theorem Rf {a:Addr}{o:Obj}{es:Array (Int×Value)}{ep:Nat}{t:SetTable}{ks:List D}{k:D}{u:Value}{Q:SetFound->Shared->Prop}(hu:A.units+8<cLine)(hk:Hd s.heap k u)(ho:s.heap.get? a=some o)(hd:o.data=.set es ep t)(hf:t.fits es.size=true)
  (T:TW t.mask t.place.toList es.toList) (hdm:t.dummies=#[]) (he:Paired (EnE w s.heap) es.toList ks) (h0:k∈ks->Q (.there none) s)
  (h1:k∉ks->∀ p,p<10*SetTable.turns t.mask->(pth t.mask (CH w k) p).j∉t.place.toList->(∀ m,m<p->(pth t.mask (CH w k) m).j∈t.place.toList)->(pth t.mask (CH w k) p).j≤t.mask->Q (.free (pth t.mask (CH w k) p).j false) s) :
  wpAny (model prog w) A (setSearch a u (CH w k) true) Q E s:=by
 obtain ⟨k0,z1,z2,z3,z4⟩:=T.first (CH w k)
 have gw:t.gaveWay=false:=by
  unfold SetTable.gaveWay
  rcases T.mo with q|q|q<;>rw [q]<;>rfl
 have key:∀ (f n:Nat) (stand:Option SetTable.Probe),stand.getD (t.probeStart (CH w k))=pth t.mask (CH w k) n->n≤k0->k0-n<f->(∀ (m i:Nat),m<n->t.place.toList[i]? = some (pth t.mask (CH w k) m).j->ks[i]?≠some k)->wpAny (model prog w) A (setSearchFrom a u (CH w k) true f stand) Q E s:=by
  intro f
  induction f with
  | zero=>intro n stand _ _ h;omega
  | succ f ih =>
   intro n stand hs hn hf' hno
   unfold setSearchFrom
   refine Aa (A6 ho hd hf ?_)
   dsimp only
   rw [gw]
   simp only [Av,A0]
   rw [hs]
   obtain ⟨c,c1,c2,c3,c4⟩:=VO hdm T.so (CH w k) (λi=>(es[i]?.map (·.1)).getD 0) z2 z3 (10*SetTable.turns t.mask) n hn (by omega)
   have pc:(t.probe (λi=>(es[i]?.map (·.1)).getD 0) (CH w k) (pth t.mask (CH w k) n))=SetTable.probe.go t (λi=>(es[i]?.map (·.1)).getD 0) (CH w k) (10*SetTable.turns t.mask) (pth t.mask (CH w k) n):=rfl
   split
   ·rename_i met hm
    have hm':t.probe (λi=>(es[i]?.map (·.1)).getD 0) (CH w k) (pth t.mask (CH w k) n)=some met:=hm
    rw [pc] at hm'
    rcases c4 with ⟨rfl,c5⟩|⟨ck,i,i1,i2,c5⟩
    ·rw [c5] at hm'
     cases hm'
     dsimp only
     refine Ac (h1 (λhin=>?_) c z1 z2 z3 z4)
     obtain ⟨i,ei⟩:=AK.mp hin
     obtain ⟨e,e1,e2,_⟩:=(DK he i).2 k ei
     have hi:i<t.place.toList.length:=by rw [T.ln];exact (Ae.mp e1).1
     obtain ⟨m,_,m2,m3⟩:=T.rc i _ e (Ah hi) e1
     rw [e2] at m2 m3
     have mc:m<c:=by
      rcases BH m c with q|q
      ·exact q
      ·exact absurd (m3 c q) z2
     rcases BH m n with q|q
     ·exact hno m i q (by rw [m2];exact Ah hi) ei
     ·refine c3 m i q mc (by rw [m2];exact Ah hi) ?_
      rw [← Ax,e1]
      exact e2
    ·rw [c5] at hm'
     cases hm'
     dsimp only
     have hi:i<es.toList.length:=by rw [← T.ln];exact (Ae.mp i1).1
     obtain ⟨k',k1,e2,e3,ra,e4⟩:=(DK he i).1 _ (Ah hi)
     have ee:es[i]? = some es.toList[i]:=by rw [← Ax];exact Ah hi
     generalize es.toList[i]=e at e2 e3 e4 ee
     obtain ⟨eh,ev⟩:=e
     dsimp only at e2 e3 e4
     subst e4
     have hst:∀ v∈(List.map (λx=>x.snd) (Array.filter (λx=>x.fst==CH w k) es).toList),∃ k',Hd s.heap k' v:=λv hv=>by
      obtain ⟨x,hx,rfl⟩:=Ap.mp hv
      rw [Array.toList_filter] at hx
      obtain ⟨j,ej⟩:=AK.mp (List.mem_filter.mp hx).1
      obtain ⟨k2,_,_,q,_⟩:=(DK he j).1 x ej
      exact ⟨k2,q⟩
     rw [ee]
     dsimp only
     have sl:=Jb hdm T.so i1
     have sm:t.sameMemory t.moves t.mask=some true:=by unfold SetTable.sameMemory;simp
     have rest:wpAny (model prog w) A (do
       let equal←holding [.ref ra] (eqBool (.ref ra) u)
       let __x←setState a
       if (true&&equal)=true then pure (SetFound.there none)
        else
         match __x.2.snd.sameMemory t.moves t.mask with
         | some same =>
          match if same=true then __x.2.snd.slot (pth t.mask (CH w k) c).j else SetTable.Slot.empty with
          | SetTable.Slot.live i' =>
           match __x.fst[i']? with
           | some (fst,y')=>do
            let __do_lift←isSame y' (.ref ra)
            let still←pure (if __do_lift=true then some i' else none)
            match still with
             | none=>do
              rule "set.search.anew"
              setSearchFrom a u (CH w k) true f none
             | some i' =>
              if equal=true then pure (SetFound.there (some i'))
              else setSearchFrom a u (CH w k) true f (some (pth t.mask (CH w k) (c+1)))
           | none=>do
            let still←pure none
            match still with
             | none=>do
              rule "set.search.anew"
              setSearchFrom a u (CH w k) true f none
             | some i' =>
              if equal=true then pure (SetFound.there (some i'))
              else setSearchFrom a u (CH w k) true f (some (pth t.mask (CH w k) (c+1)))
          | x=>do
           let still←pure none
           match still with
            | none=>do
             rule "set.search.anew"
             setSearchFrom a u (CH w k) true f none
            | some i' =>
             if equal=true then pure (SetFound.there (some i'))
             else setSearchFrom a u (CH w k) true f (some (pth t.mask (CH w k) (c+1)))
         | _=>unsupported "set.changed-during-lookup:is-the-new-block-at-the-old-address") Q E s:=by
      refine Aa (AI (e3.eq hk hu ?_))
      refine Aa (A6 ho hd hf ?_)
      dsimp only
      by_cases ck':k'=k
      ·rw [Bv ck']
       simp only [BX,if_true]
       exact Ac (h0 (ck'▸Ak k1))
      ·rw [A3 ck']
       simp only [Bool.and_false,Av,A0]
       rw [sm]
       dsimp only
       rw [if_pos rfl,sl]
       dsimp only
       rw [ee]
       dsimp only
       refine Aa (wpAny_isSame_ref_self (Aa (Ac ?_)))
       simp only [if_true]
       refine ih (c+1) _ rfl ck (by omega) λm i' hm hp=>?_
       rcases BH m n with q|q
       ·exact hno m i' q hp
       ·rcases BH m c with q2|q2
        ·intro hki
         refine c3 m i' q q2 hp ?_
         obtain ⟨e',x1,x2,_⟩:=(DK he i').2 k hki
         rw [← Ax,x1]
         exact x2
        ·obtain rfl:m=c:=by omega
         have a1:=Jb hdm T.so hp
         rw [sl] at a1
         cases a1
         intro hki
         rw [k1] at hki
         exact ck' (AB hki)
     refine GY (λ_=>?_) λ_=>?_
     ·refine Aa (X2 hk hst ?_)
      simp only [Av,A0]
      exact rest
     ·exact rest
   ·rename_i hm
    exfalso
    rcases c4 with ⟨_,c5⟩|⟨ck,i,i1,i2,c5⟩
    ·exact hm _ c5
    ·exact hm _ c5
 exact key 100000 0 none rfl (AZ _) (by have:=T.mo;unfold SetTable.turns at z1;rcases this with q|q|q<;>rw [q] at z1<;>omega) (λm i h=>absurd h (Nat.not_lt_zero _))
noncomputable def hd1:D->Bool
 | .tup (.str _::_)=>true
 | _=>false
theorem Yy {k:D}{u:Value}{Q:Bool->Shared->Prop}(x:Hd s.heap k u)(h1:hd1 k=true)(h:Q false s):wpAny (model prog w) A (hashByValue 8 u) Q E s:=by
 obtain ⟨as,r⟩:=x.rd
 unfold hd1 at h1
 split at h1
 ·rename_i y ds
  unfold toPy at r
  cases r with
  | @tuple a o vs k _ _ g1 g2 g3 hw =>
   have hT:s.TypeIs (.ref a) "tuple":=⟨o,g1,g2⟩
   unfold hashByValue
   refine Aa (wpAny_specialOf hT F.slot_tuple_hash.lookup ?_)
   refine (?_:wpAny _ _ (seqItems? (.ref a) >>= _) _ _ s)
   refine Aa (Bz g1 g3 (Aa ?_))
   refine (?_:wpAny _ _ (forIn vs _ _) _ _ s)
   rw [← Array.forIn_toList]
   unfold CJ toPy at hw
   generalize vs.toList=vl at hw
   cases hw with
   | cons x1 x2 =>
    cases x1
    rw [Cd]
    refine Aa (Aa (m:=hashByValue 7 _) ?_)
    unfold hashByValue
    refine Ac ?_
    simp only [Bool.not_false,if_true]
    exact Ac (Ac (Ac h))
 ·cases h1
noncomputable def LN (w:World)(h0:Heap)(P:D->Value->Prop)(S:Addr)(ls:List D)(led:Bool)(h:Heap):Prop:=∃ o es ep t,h.get? S=some o∧o.ExactSet∧o.data=.set es ep t∧t.dummies=#[]∧TW t.mask t.place.toList es.toList∧es.size*5<t.mask*3∧t.led=led∧(t.plain=false∨es.size=0)∧∃ ks:List D,ks.Perm ls∧Paired (λe k=>EnE w h0 e k∧P k e.2) es.toList ks
theorem L7 {t:SetTable}{es:Array (Int×Value)}(hd:t.dummies=#[])(T:TW t.mask t.place.toList es.toList):t.fits es.size=true:=by
 unfold SetTable.fits SetTable.fill
 have a:=T.ln
 have b:=T.lt
 rw [Array.length_toList,Array.length_toList] at a
 rw [Array.length_toList] at b
 rw [hd]
 simp
 omega
theorem S0 {h0:Heap}{P:D->Value->Prop}{S:Addr}{ls:List D}{led:Bool}{k:D}{u:Value}{Q:Bool->Shared->Prop}(hu:A.units+8<cLine)(hS:LN w h0 P S ls led s.heap)(hz:ls.length<64)(kp:∀ b o,h0.get? b=some o->s.heap.get? b=some o)(hk:Hd h0 k u)(hr:∃ a,u=.ref a)(h1:hd1 k=true)(hP:P k u)
  (q:∀ h' b tk,Heap.SameBut S s.heap h'->LN w h0 P S (DQ ls k) led h'->Q b { s with heap:=h',toks:=tk }):wpAny (model prog w) A (setAdd S u) Q E s:=by
 obtain ⟨o,es,ep,t,ho,hex,hd,hdm,T,fl,hl,hp,ks,pm,pr⟩:=hS
 obtain ⟨ra,rfl⟩:=hr
 have hk':=hk.keep kp
 have pr':Paired (EnE w s.heap) es.toList ks:=Lu pr λe k ⟨⟨a,b,c⟩,_⟩=>⟨a,b.keep kp,c⟩
 have hf:=L7 hdm T
 have sz:es.size=ls.length:=by rw [← pm.length_eq,← DP pr,Array.length_toList]
 unfold setAdd
 refine AI (Aa (hk'.hash hu λtk=>?_))
 (unfold setAddHashed setAddHashedIn)
 refine AI (Aa (A6 (s:={ s with toks:=tk }) ho hd hf ?_))
 dsimp only
 have bs:byScan (.ref ra) es=false:=by unfold byScan;rfl
 rw [bs]
 simp only [Av,A0]
 refine Aa (Rf (s:={ s with toks:=tk }) hu hk' ho hd hf T hdm pr' (λhin=>?_) λhnin p p1 p2 p3 p4=>?_)
 ·dsimp only
  refine Ac (q s.heap _ _ (Heap.SameBut.refl _ _) ?_)
  unfold DQ
  rw [if_pos (pm.mem_iff.mp hin)]
  exact ⟨o,es,ep,t,ho,hex,hd,hdm,T,fl,hl,hp,ks,pm,pr⟩
 ·dsimp only
  refine Aa (A6 (s:={ s with toks:=tk }) ho hd hf ?_)
  dsimp only
  have al:DQ ls k=ls++[k]:=by unfold DQ;rw [if_neg λz=>hnin (pm.mem_iff.mpr z)]
  have b0:=(KN T.so (pth t.mask (CH w k) p).j).1
  have ps:=NU T.so p2
  rw [SetTable.toList_insertAt] at ps
  have lt:es.size<t.mask:=by rcases T.mo with z|z|z<;>rw [z] at fl<;>omega
  have T1:=T.put (v:=Value.ref ra) p1 p2 p3 p4 (by rw [Array.length_toList];exact b0) (by rw [Array.length_toList];exact lt) ps
  have e1:(SetTable.insertAt es (SetTable.below t.place (pth t.mask (CH w k) p).j) (CH w k,Value.ref ra)).toList=es.toList.take (SetTable.below t.place (pth t.mask (CH w k) p).j)++(CH w k,Value.ref ra)::es.toList.drop (SetTable.below t.place (pth t.mask (CH w k) p).j):=SetTable.toList_insertAt _ _ _
  have e2:(t.put (pth t.mask (CH w k) p).j).1={ t with place:=SetTable.insertAt t.place (SetTable.below t.place (pth t.mask (CH w k) p).j) (pth t.mask (CH w k) p).j,dummies:=#[] }:=by
   unfold SetTable.put
   dsimp only
   rw [hdm,has_none]
   rfl
  have e3:(t.put (pth t.mask (CH w k) p).j).2=SetTable.below t.place (pth t.mask (CH w k) p).j:=rfl
  rw [e2,e3]
  dsimp only
  rw [← SetTable.toList_insertAt,← e1] at T1
  have L1:=SetTable.insertAt_perm es (SetTable.below t.place (pth t.mask (CH w k) p).j) (CH w k,Value.ref ra)
  generalize SetTable.insertAt es (SetTable.below t.place (pth t.mask (CH w k) p).j) (CH w k,Value.ref ra)=es1 at T1 L1 ⊢
  generalize SetTable.insertAt t.place (SetTable.below t.place (pth t.mask (CH w k) p).j) (pth t.mask (CH w k) p).j=pl1 at T1 ⊢
  rw [Array.toList_push] at L1
  obtain ⟨ks1,pm1,pr1⟩:=Hu L1 (IF pr (.cons (show EnE w h0 (CH w k,Value.ref ra) k∧P k (Value.ref ra) from ⟨⟨rfl,hk,ra,rfl⟩,hP⟩) .nil))
  have pm2:ks1.Perm (DQ ls k):=by rw [al];exact pm1.trans (pm.append (BW _))
  have sz1:es1.size=es.size+1:=by rw [← Array.length_toList,L1.length_eq,Ar,Array.length_toList];rfl
  have hz1:es1.size≤sizeLine:=by rw [AH];omega
  have go:∀ t2:SetTable,t2={ t with place:=pl1,dummies:=#[],plain:=false }->wpAny (model prog w) A (do
    storeSet S es1 t2
    if (!false&&t2.tooFull)=true then do
      setRelay S (SetTable.grown (es.size+1))
      pure true
     else pure true) Q E { s with toks:=tk }:=λt2 ht2=>by
   have T2:TW t2.mask t2.place.toList es1.toList:=by rw [ht2];exact T1
   have d2:t2.dummies=#[]:=by rw [ht2]
   have l2:t2.led=led:=by rw [ht2];exact hl
   have p2':t2.plain=false:=by rw [ht2]
   have m2:t2.mask=t.mask:=by rw [ht2]
   refine Aa (wpAny_storeSet_of (s:={ s with toks:=tk }) ho hd ?_ hz1)
   have ho1:(s.heap.update S (Obj.putSet es1 t2)).get? S=some { o with data:=.set es1 (ep+1) t2 }:=by
    have:=AS (Obj.putSet es1 t2) ho (by rw [putSet_of es1 t2 hd];rfl)
    rw [putSet_of es1 t2 hd] at this
    exact this
   have tf:t2.tooFull=decide ((es.size+1)*5 ≥ t.mask*3):=by
    unfold SetTable.tooFull SetTable.fill
    have:=T2.ln
    rw [Array.length_toList,Array.length_toList] at this
    rw [d2,this,sz1,m2]
    rfl
   refine GY (λc=>?_) λc=>?_
   ·have c':(es.size+1)*5 ≥ t.mask*3:=by simpa [tf] using c
    refine Aa ?_
    have nm:∃ mk,GJ mk∧SetTable.sizeAbove (SetTable.grown (es.size+1))-1=mk∧es1.size≤mk∧es1.size*5<mk*3∧¬ SetTable.sizeAbove (SetTable.grown (es.size+1)) > sizeLine:=by
     rcases T.mo with z|z|z
     ·have:es.size=4:=by rw [z] at c' fl;omega
      rw [sz1,this,AH]
      exact ⟨31,.inr (.inl rfl),by decide +kernel,by decide,by decide,by decide +kernel⟩
     ·have:es.size=18:=by rw [z] at c' fl;omega
      rw [sz1,this,AH]
      exact ⟨127,.inr (.inr rfl),by decide +kernel,by decide,by decide,by decide +kernel⟩
     ·rw [z] at c';omega
    obtain ⟨mk,n1,n2,n3,n4,n5⟩:=nm
    unfold setRelay
    refine Aa (A6 ho1 rfl (L7 d2 T2) ?_)
    dsimp only
    rw [if_neg n5]
    obtain ⟨t3,order,r1,r2,r3,r4,r5,r6,r7⟩:=Up n1 t2.finger (t2.movedTo mk) t2.led t2.plain es1 n3
    have rl:t2.relaid (es1.map (·.1)) (SetTable.grown (es.size+1))=some (t3,order):=by
     unfold SetTable.relaid
     rw [n2]
     exact r1
    rw [rl]
    have rsz:(order.filterMap (es1[·]?)).size=es1.size:=by rw [← Array.length_toList,r6.length_eq,Array.length_toList]
    refine Aa (?_:wpAny _ _ (if ((order.filterMap (es1[·]?)).size != es1.size)=true then _ else pure (order.filterMap (es1[·]?),t3)) _ _ _)
    rw [rsz,bne_self_eq_false]
    simp only [Av,A0]
    refine Ac ?_
    dsimp only
    generalize order.filterMap (es1[·]?)=es2 at r6 r7 rsz ⊢
    refine wpAny_storeSet_of ho1 rfl (Ac ?_) (by rw [rsz];exact hz1)
    obtain ⟨ks2,pm3,pr3⟩:=Hu r6 pr1
    have ho2:=AS (Obj.putSet es2 t3) ho1 (by rw [putSet_of es2 t3 rfl];rfl)
    rw [putSet_of es2 t3 rfl] at ho2
    refine q _ _ _ ((AA ..).trans (AA ..)) ?_
    exact ⟨_,es2,_,t3,ho2,hex,rfl,r3,by rw [r2];exact r7,by rw [r2,rsz];exact n4,r4.trans l2,.inl (r5.trans p2'),ks2,pm3.trans pm2,pr3⟩
   ·have c':¬ (es.size+1)*5 ≥ t.mask*3:=by simpa [tf] using c
    refine Ac (q _ _ _ (AA ..) ?_)
    exact ⟨_,es1,_,t2,ho1,hex,rfl,d2,T2,by rw [sz1,m2];omega,l2,.inl p2',ks1,pm2,pr1⟩
  refine GY (λc=>?_) λc=>?_
  ·refine Aa (Yy (s:={ s with toks:=tk }) hk' h1 ?_)
   simp only [Av,A0]
   exact go _ rfl
  ·refine Aa (Ac ?_)
   have c':t.plain=false:=by simpa using c
   simp only [if_true]
   refine go _ ?_
   rw [← c']
theorem Qq {h0:Heap}{Pv:D->Value->Prop}{I:Addr}{fp:List Addr}{n:Nat}{P:Nat->Value->Prop}{St:Nat->Heap->Prop}{R:Result->Shared->Prop}(hu:A.in1.units+8<cLine)(W:Walks prog w A.in1 I fp [I] n P St)(S:Addr)(hSf:S∉fp)(hS0:h0.get? S=none)(hI0:h0.get? I=none){led:Bool}{ds:List D}(hl:ds.length=n)
  (hval:∀ i v,P i v->∃ k,ds[i]? = some k∧Hd h0 k v∧(∃ a,v=.ref a)∧hd1 k=true∧Pv k v) (hb:n<64) (k:Nat) :
  ∀ (i:Nat) (s:Shared) (ls:List D),i+k=n->ls.length≤i->St i s.heap->LN w h0 Pv S ls led s.heap->(∀ b o,h0.get? b=some o->s.heap.get? b=some o)->(∀ h' tk,(∀ b o,b≠S->b≠I->s.heap.get? b=some o->h'.get? b=some o)->LN w h0 Pv S ((ds.drop i).foldl DQ ls) led h'->R (.ok (.ret .none)) { s with heap:=h',toks:=tk }) ->
   codeAny (model prog w) A (Code.builtin "set.update.loop" ⟨[.ref S,.ref I],[]⟩) R s:=by
 have nI:I∈fp:=W.sub _ (by simp)
 have nS:S≠I:=λz=>hSf (z▸nI)
 have keepS:∀ {h h':Heap} {ls:List D},(∀ b o,b∉[I]->h.get? b=some o->h'.get? b=some o)->LN w h0 Pv S ls led h->LN w h0 Pv S ls led h':=λk ⟨o,es,ep,t,ho,r⟩=>⟨o,es,ep,t,k S o (by simpa using nS) ho,r⟩
 have nb:∀ b o,h0.get? b=some o->b≠S∧b≠I:=λb o e=>⟨λz=>(by rw [z,hS0] at e;cases e),λz=>(by rw [z,hI0] at e;cases e)⟩
 induction k with
 | zero =>
  intro i s ls e lsl st hS kp hR
  obtain rfl:i=n:=by omega
  refine Bg BU ?_
  rw [Bc Ba _]
  refine Aa (m:=pyNext (.ref I)) (W.done s _ _ st λh1 tk1 k1=>Ac (a:=Fin.done (.ret Value.none)) (hR h1 tk1 (λb o _ hb z=>k1 b o (by simpa using hb) z) ?_))
  rw [List.drop_eq_nil_of_le (by omega)]
  exact keepS k1 hS
 | succ k ih =>
  intro i s ls e lsl st hS kp hR
  have lt:i<n:=by omega
  refine Bg BU ?_
  rw [Bc Ba _]
  refine Aa (m:=pyNext (.ref I)) (W.item i s _ _ lt st λv h1 tk1 hP st1 k1=>?_)
  obtain ⟨x,ex,hx,hr,h1',hpv⟩:=hval i v hP
  have kp1:∀ b o,h0.get? b=some o->h1.get? b=some o:=λb o e=>k1 b o (by simpa using (nb b o e).2) (kp b o e)
  refine Aa (m:=holding [v] (setAdd S v)) (AI (S0 (s:={ s with heap:=h1,toks:=tk1 }) hu (keepS k1 hS) (by omega) kp1 hx hr h1' hpv λh2 _ tk2 sb hS2=>?_))
  have dr:ds.drop i=x::ds.drop (i+1):=by
   have hi:i<ds.length:=by omega
   rw [List.drop_eq_getElem_cons hi]
   rw [Ah hi] at ex
   rw [AB ex]
  have al:(DQ ls x).length≤i+1:=by
   unfold DQ
   split
   ·omega
   ·rw [Ar,List.length_singleton];omega
  refine Ac (And.intro (plainId_quiet Ba _) (ih (i+1) _ (DQ ls x) (by omega) al (W.frame _ h1 _ st1 λb hb o z=>?_) hS2 (λb o e=>(sb.2 b (nb b o e).1).trans (kp1 b o e)) λh3 tk3 k3 hS3=>hR h3 tk3 (λb o b1 b2 z=>?_) ?_))
  ·exact (sb.2 b λq:b=S=>hSf (q▸hb)).trans z
  ·exact k3 b o b1 b2 ((sb.2 b b1).trans (k1 b o (by simpa using b2) z))
  ·rw [dr]
   exact hS3
set_option maxHeartbeats 4000000 in
theorem PB {Pv:D->Value->Prop}{l:Addr}{ol:Obj}{T:String}{us:List Value}{ds:List D}{Q:Value->Shared->Prop}(hu:A.units+16<cLine)
  (hol:s.heap.get? l=some ol) (hcl:ol.cls=.type T) (t1:isSubtype (.type T) (.type "set")=pure false) (t2:isSubtype (.type T) (.type "frozenset")=pure false) (t3:(Value.type T==Value.type "dict")=false)
  (hb:us.length<64) (hss:Paired (λ(u:Value) (k:D)=>Hd s.heap k u∧(∃ a,u=.ref a)∧hd1 k=true∧Pv k u) us ds) (hit:JT prog w A E s.heap l us)
  (h:∀ (h':Heap) (tk:Nat) d',LN w s.heap Pv s.heap.objs.size (ds.foldl DQ []) (!Dm w) h'->(∀ b o,s.heap.get? b=some o->h'.get? b=some o)->Q (.ref s.heap.objs.size) { s with heap:=h',toks:=tk,drawn:=d' }) :
  wpAny (model prog w) A (PySem.call (.type "set") [.ref l]) Q E s:=by
 refine call_cls (Q1:=λobj z=>obj=.ref s.heap.objs.size∧z={ s with heap:=s.heap.push (E9 (!Dm w)) }) PySem.F.called_set (PySem.F.typeCall_set_1 _) (M7 (.ref l) ⟨rfl,rfl⟩) λobj z hz=>?_
 obtain ⟨e1,e2⟩:=hz
 subst e1 e2
 have gS:(s.heap.push (E9 (!Dm w))).get? s.heap.objs.size=some (E9 (!Dm w)):=Aj _ rfl
 refine ⟨⟨_,gS,rfl⟩,codeAny_call_builtin PySem.F.called_set.init.plain PySem.F.entry_set_init (check_set_init_1 ⟨_,gS,rfl⟩ ?_)⟩
 obtain ⟨oc,od,oda,osl⟩:=ol
 simp only at hcl
 subst hcl
 have gl:(s.heap.push (E9 (!Dm w))).get? l=some { cls:=.type T,dict:=od,data:=oda,slots:=osl }:=Ad _ hol
 unfold Builtin.«set.__init__»
 unfold noKeywords
 unfold Builtin.Frozenset.updateFrom
 generalize hPI:pyIter=PI
 wp_walk
 subst hPI
 have sz:(s.heap.push (E9 (!Dm w))).objs.size=s.heap.objs.size+1:=A9 ..
 refine hit _ _ _ rfl (λb o e=>Ad _ e) λI fp h2 d2 P St hI fpl fpn W st0 k2 hval=>Aa (wpAny_runValue ?_)
 have hI':s.heap.objs.size+1≤I:=by rw [← sz];exact hI
 have nf:s.heap.objs.size∉fp:=λz=>by
  rcases fpn _ z with q|⟨o,q⟩
  ·have q':(s.heap.push (E9 (!Dm w))).objs.size≤s.heap.objs.size:=q
   rw [sz] at q'
   exact absurd q' (Nat.not_succ_le_self _)
  ·exact absurd (Ao q) (Be _)
 have h0:LN w s.heap Pv s.heap.objs.size [] (!Dm w) h2:=⟨_,#[],0,_,k2 _ _ gS,⟨rfl,rfl,rfl⟩,rfl,rfl,⟨.nil,rfl,.inl rfl,AZ _,(λ_ h=>nomatch h),λi j e h=>by simp [SetTable.fresh] at h⟩,(show 0*5<7*3 by decide),rfl,.inr rfl,[],.nil,.nil⟩
 have ssl:ds.length=us.length:=(DP hss).symm
 refine Qq (A:=A.in1.in1) (h0:=s.heap) (by show A.units+1+1+1+8<cLine;omega) (W A.in1.in1.in1 rfl) s.heap.objs.size nf (Heap.get?_none_of_le (Ai _)) (Heap.get?_none_of_le (by omega)) (ds:=ds) ssl (λi v hP=>?_) hb us.length 0 { s with heap:=h2,drawn:=d2 } [] (Bq _) (Ai _) st0 h0 (λb o e=>k2 b o (Ad _ e)) λh3 tk3 k3 hS=>?_
 ·obtain ⟨x,x1,x2,x3,x4⟩:=(DK hss i).1 v (hval i v hP)
  exact ⟨x,x1,x2,x3,x4⟩
 ·refine Ac (Ac (a:=Fin.done (.ret Value.none)) (And.intro rfl (h h3 tk3 d2 hS λb o e=>?_)))
  have blt:=Ao e
  exact k3 b o (Ay blt) (λz=>absurd (show I<s.heap.objs.size from z▸blt) (Nat.not_lt.mpr (Nat.le_of_succ_le hI'))) (k2 _ _ (Ad _ e))
end
noncomputable def okE (d:D):Bool:=hd1 d&&EZ d
noncomputable def Tg:Fn:=λds mu=>match sq1 ds mu with
 | some es=>if (es.all okE&&decide (es.length<64))=true then some (.set (DV es),mu) else none
 | none=>none
theorem Sw {ds:List D}{mu:Sto}{r:D×Sto}(h:Tg ds mu=some r):∃ d es,ds=[d]∧HF mu d=some es∧(∀ e∈es,hd1 e=true∧EZ e=true)∧es.length<64∧r=(.set (DV es),mu):=by
 unfold Tg at h
 split at h
 ·rename_i es e
  split at h
  ·rename_i c
   cases h
   obtain ⟨d,rfl,e3⟩:=JM e
   rw [Ab,Af,Au] at c
   exact ⟨d,es,rfl,e3,λe he=>by have:=c.1 e he;unfold okE at this;rw [Ab] at this;exact this,c.2,rfl⟩
  ·cases h
 ·cases h
section
variable {X:Cx} {K:Zc} {th:List Addr} {mu:Sto} {H:Hp} {pins:List (Addr×Obj)} {st:L2.St} {s:Shared}
theorem RepL.permD {ds ds':List D}(p:ds'.Perm ds):∀ {vs:List V},RepL K th H ds vs->∃ vs',vs.Perm vs'∧RepL K th H ds' vs':=by
 induction p with
 | nil=>exact λr=>⟨_,BW _,r⟩
 | cons x p ih =>
  intro vs r
  obtain ⟨v,r',e,a,b⟩:=r.inv
  subst e
  obtain ⟨vs',q1,q2⟩:=ih b
  exact ⟨v::vs',q1.cons v,.cons a q2⟩
 | swap x y l =>
  intro vs r
  obtain ⟨v,r',e,a,b⟩:=r.inv
  subst e
  obtain ⟨v',r2,e',a',b'⟩:=b.inv
  subst e'
  exact ⟨v'::v::r2,List.Perm.swap _ _ _,.cons a' (.cons a b')⟩
 | trans p q ih1 ih2 =>
  intro vs r
  obtain ⟨vs1,a1,b1⟩:=ih2 r
  obtain ⟨vs2,a2,b2⟩:=ih1 b1
  exact ⟨vs2,a1.trans a2,b2⟩
theorem Va {k:D}{v:V}{u:Value}(hk:hd1 k=true)(rp:Rep K th H k v)(rl:RelV v u):∃ b,v=.ref b∧u=.ref b:=by
 unfold hd1 at hk
 split at hk
 ·unfold Rep at rp
  obtain ⟨b,_,rfl,_⟩:=rp
  cases rl
  exact ⟨b,rfl,rfl⟩
 ·cases hk
theorem MT (I:L2.Inv X pins st H s):∀ {es:List D} {vs:List V} {us:List Value},(∀ e∈es,hd1 e=true∧EZ e=true)->RepL X.z th H es vs->Vals vs us->Paired (λ(u:Value) (k:D)=>Hd s.heap k u∧(∃ a,u=.ref a)∧hd1 k=true∧∃ b,u=.ref b∧Rep X.z th H k (.ref b)) us es
 | [],vs,us,_,h2,q=>by
  rw [h2.inv0] at q
  cases q
  exact .nil
 | k::es,vs,us,e3,h2,q=>by
  obtain ⟨v,r',e,ra,rb⟩:=h2.inv
  subst e
  cases q with
  | cons q1 q2 =>
   obtain ⟨k1,k2⟩:=e3 k (.head _)
   obtain ⟨b,e1,e4⟩:=Va k1 ra q1
   subst e1
   exact .cons ⟨Lm I k2 ra q1,⟨b,e4⟩,k1,b,e4,ra⟩ (MT I (λe he=>e3 e (.tail _ he)) rb q2)
theorem QO (hu:X.A.units+64<cLine)(hc:X.calm=true):CallV X (.type "set") Tg:=by
 intro pins s st H xs us Q I r h
 obtain ⟨th,mu,ds,so,rd,t⟩:=h
 obtain ⟨a0,mu0,e0,_⟩:=id t
 obtain ⟨d,es,rfl,e2,e3,hl,er⟩:=Sw e0
 rw [e0] at t
 cases er
 obtain ⟨x,rfl,rx⟩:=DY rd
 obtain ⟨a,vs,rfl,h1,h2,h3⟩:=FI so e2 rx
 obtain ⟨u,rfl,ru⟩:=vals1 r
 cases ru
 have fin:∀ (h':Heap) (tk:Nat) d',LN X.w s.heap (λk u=>∃ b,u=.ref b∧Rep X.z th H k (.ref b)) s.heap.objs.size (es.foldl DQ []) (!Dm X.w) h'->(∀ b o,s.heap.get? b=some o->h'.get? b=some o)->EP X pins st Q (.ref s.heap.objs.size) { s with heap:=h',toks:=tk,drawn:=d' }:=λh' tk d' hS hk=>by
  obtain ⟨o,tes,ep,tb,ho,hex,hd,hdm,T,fl,hled,hpl,ks,pm,pr⟩:=hS
  have hp:H s.heap.objs.size=none:=I.hok.fresh (Ai _)
  have ole:(DV es).length≤es.length:=by have:=IQ es [];simpa [DV] using this
  have tl:tes.size=ks.length:=by rw [← DP pr,Array.length_toList]
  have kl:ks.length=(DV es).length:=pm.length_eq
  have sb:tes.size<scanBound:=by
   rw [tl,kl]
   unfold scanBound
   omega
  obtain ⟨zs,z1,z2⟩:∃ zs:List V,Vals zs (tes.toList.map (·.2))∧RepL X.z th H ks zs:=by
   clear fl T sb tl kl hd
   generalize tes.toList=tl at pr
   clear pm
   induction pr with
   | nil=>exact ⟨[],.nil,.nil⟩
   | cons hx tx ih =>
    obtain ⟨zs,a1,a2⟩:=ih
    obtain ⟨_,b,eb,rb⟩:=hx
    rw [Bf,eb]
    exact ⟨.ref b::zs,.cons rfl a1,.cons rb a2⟩
  have sp:Ua X.w s.heap.objs.size zs h':=by
   refine ⟨o,tes,ep,tb,ho,hex,hd,sb,L7 hdm T,z1,?_⟩
   cases c:Dm X.w with
   | true=>exact .inl c
   | false =>
    rw [c] at hled
    exact .inr ⟨hled,hpl.elim .inl λz=>.inr (by omega)⟩
  have I0:L2.Inv X pins st H { s with drawn:=d' }:=⟨I.ok,I.os,I.bare,I.base,I.loc,I.cell,I.free,I.freeC,I.pin,I.hok,I.len⟩
  refine ⟨.ref s.heap.objs.size,_,I0.laid (h':=h') (t':=tk) (o:=Nn X.w s.heap.objs.size zs) hk (Ai _) (Se sp),rfl,?_⟩
  refine t.retX (.new hp _) (so.new hp _) _ ?_
  unfold Rep
  obtain ⟨ws,q1,q2⟩:=RepL.permD (show (DV es).Perm ks from pm.symm) z2
  have ex:Ext th H th (upd H s.heap.objs.size (Nn X.w s.heap.objs.size zs)):=.new hp _
  exact ⟨_,zs,ws,rfl,so.notin hp,DR,q1,q2.ext ex so.out,Nl es [] List.nodup_nil⟩
 have pairs:=λus q=>MT I e3 h2 (us:=us) q
 have ul:∀ us:List Value,Vals vs us->us.length<64:=λus q=>by rw [← q.length,h2.len];exact hl
 rcases h1 with h1|⟨h1,_⟩
 ·obtain ⟨us,q,y,o,ho,hcl⟩:=Jv (E:=X.xe) I hc h1
  exact PB (by omega) ho hcl PySem.F.sub_list_set PySem.F.sub_list_frozenset (by decide) (ul us q) (pairs us q) y fin
 ·obtain ⟨us,q,y,o,ho,hcl⟩:=Ip (E:=X.xe) I hc h1
  exact PB (by omega) ho hcl OR Kf (by decide) (ul us q) (pairs us q) y fin
noncomputable def setG:Fn:=λds mu=>match TQ ds mu with|some r=>some r|none=>Tg ds mu
theorem Qm (hu:X.A.units+64<cLine)(hc:X.calm=true):CallV X (.type "set") setG:=CallV.or (PL hc) (QO hu hc)
end open AutoSeq1 (wpAny_loadPart')
theorem SJ {A:Around}{s:Shared}{a:Addr}{x:Str}{t:Tok}{k:Bool}(h:SeqAt.RcAt A s (.ref a) (.str x t) k):SeqAt.EqAt A s (.ref a) (.str x t) k:=λprog w E Q hq=>by
 unfold eqBool
 refine AI ?_
 refine wpAny_ite_split (λhab=>absurd (eq_of_beq hab) nofun) (λ_=>?_)
 exact Aa (h prog w E _ (Bi hq))
theorem Sh {A:Around}{s:Shared}{a:Addr}{x:Str}{t:Tok}{k:Bool}(h:SeqAt.RcAt A s (.str x t) (.ref a) k):SeqAt.EqAt A s (.str x t) (.ref a) k:=λprog w E Q hq=>by
 unfold eqBool
 refine AI ?_
 refine wpAny_ite_split (λhab=>absurd (eq_of_beq hab) nofun) (λ_=>?_)
 exact Aa (h prog w E _ (Bi hq))
theorem JA (l:Addr)(es:Array DictEntry)(n:Nat)(dd:Option Addr)(sl:Array (Option Value)) :
  Meets (Builtin.«dict.__eq__» ⟨[.ref l,.none],[]⟩) (λ_ R s=>s.heap.get? l=some { cls:=.type "dict",dict:=dd,data:=.dict es n,slots:=sl }∧R (.ok (.ret .notImplemented)) s):=
 .of_wp λprog w A R s h=>by
  obtain ⟨hp,g,d,tk,os⟩:=s;obtain ⟨hl,h⟩:=h
  have f1:=PySem.F.sub_NoneType_dict
  have hT:(⟨hp,g,d,tk,os⟩:Shared).TypeIs (.ref l) "dict":=⟨_,hl,rfl⟩
  unfold Builtin.«dict.__eq__»
  wp_walk using A8 hl,wpAny_load hl
  exact ⟨_,rfl,h⟩
theorem Ki (l b:Addr)(es:Array DictEntry)(n:Nat)(dd:Option Addr)(sl:Array (Option Value))(items2:Array Value)(n2:Nat)(dd2:Option Addr)(sl2:Array (Option Value)) :
  Meets (Builtin.«dict.__eq__» ⟨[.ref l,.ref b],[]⟩) (λ_ R s=>s.heap.get? l=some { cls:=.type "dict",dict:=dd,data:=.dict es n,slots:=sl }∧s.heap.get? b=some { cls:=.type "tuple",dict:=dd2,data:=.seq items2 n2,slots:=sl2 }∧R (.ok (.ret .notImplemented)) s):=
 .of_wp λprog w A R s h=>by
  obtain ⟨hp,g,d,tk,os⟩:=s;obtain ⟨hl,hb,h⟩:=h
  have f1:=PySem.F.sub_tuple_dict
  have hT:(⟨hp,g,d,tk,os⟩:Shared).TypeIs (.ref l) "dict":=⟨_,hl,rfl⟩
  have hT2:(⟨hp,g,d,tk,os⟩:Shared).TypeIs (.ref b) "tuple":=⟨_,hb,rfl⟩
  unfold Builtin.«dict.__eq__»
  wp_walk using A8 hl,wpAny_load hl,A8 hb
  exact ⟨_,rfl,h⟩
theorem Kx (l b:Addr)(es:Array DictEntry)(n:Nat)(dd:Option Addr)(sl:Array (Option Value))(items2:Array Value)(n2:Nat)(dd2:Option Addr)(sl2:Array (Option Value)) :
  Meets (Builtin.«tuple.__eq__» ⟨[.ref b,.ref l],[]⟩) (λ_ R s=>s.heap.get? l=some { cls:=.type "dict",dict:=dd,data:=.dict es n,slots:=sl }∧s.heap.get? b=some { cls:=.type "tuple",dict:=dd2,data:=.seq items2 n2,slots:=sl2 }∧R (.ok (.ret .notImplemented)) s):=
 .of_wp λprog w A R s h=>by obtain ⟨hp,g,d,tk,os⟩:=s;obtain ⟨hl,hb,h⟩:=h;have f1:=PySem.F.sub_dict_tuple;wp_walk using A8 hl,A8 hb;exact ⟨_,rfl,h⟩
section
variable {A:Around} {s:Shared} {l b:Addr} {es:Array DictEntry} {n:Nat} {dd:Option Addr} {sl:Array (Option Value)}
theorem ZO (x:Str)(u:Tok)(ho:s.heap.get? l=some { cls:=.type "dict",dict:=dd,data:=.dict es n,slots:=sl })(hu:A.units<cLine):SeqAt.RcAt A s (.ref l) (.str x u) false:=λprog w E Q h =>
 B2 (k:=false) ⟨_,ho,rfl⟩ (typeIs_str s x u) (by decide) PySem.F.sub_str_dict Cb PySem.F.slot_str_eq_refl
  (λ_ hq=>call_meets Cb ⟨_,ho,rfl⟩ B6 (B3 _ _) (Ky l es n dd sl x u) ⟨ho,hq⟩)
  (λ_ hq=>call_meets PySem.F.slot_str_eq_refl (typeIs_str s x u) PySem.F.entry_str_eq (PySem.F.args_str_eq_2 _ _) (J3 x u l es n dd sl) ⟨ho,hq⟩)
  (λ_ hq=>wpAny_of_eq (rfl:isSame (.ref l) (.str x u)=pure false) hq) (.inr hu) h
theorem Y5 (ho:s.heap.get? l=some { cls:=.type "dict",dict:=dd,data:=.dict es n,slots:=sl })(hu:A.units<cLine):SeqAt.RcAt A s (.ref l) .none false:=λprog w E Q h =>
 B2 (k:=false) ⟨_,ho,rfl⟩ rfl (by decide) PySem.F.sub_NoneType_dict Cb PySem.F.slot_NoneType_eq_refl
  (λ_ hq=>call_meets Cb ⟨_,ho,rfl⟩ B6 (B3 _ _) (JA l es n dd sl) ⟨ho,hq⟩)
  (λ_ hq=>call_gives PySem.F.slot_NoneType_eq_refl rfl PySem.F.entry_NoneType_eq (PySem.F.args_NoneType_eq_2 _ _) (SeqAt.NoneType___eq___none_ref_0 l) hq)
  (λ_ hq=>wpAny_of_eq (rfl:isSame (.ref l) .none=pure false) hq) (.inr hu) h
theorem YO (ho:s.heap.get? l=some { cls:=.type "dict",dict:=dd,data:=.dict es n,slots:=sl })(hu:A.units<cLine):SeqAt.RcAt A s .none (.ref l) false:=λprog w E Q h =>
 B2 (k:=false) rfl ⟨_,ho,rfl⟩ (by decide) PySem.F.sub_dict_NoneType PySem.F.slot_NoneType_eq BR
  (λ_ hq=>call_gives PySem.F.slot_NoneType_eq rfl PySem.F.entry_NoneType_eq (PySem.F.args_NoneType_eq_2 _ _) (SeqAt.NoneType___eq___none_ref_0 l) hq)
  (λ_ hq=>call_meets BR ⟨_,ho,rfl⟩ B6 (B3 _ _) (JA l es n dd sl) ⟨ho,hq⟩)
  (λ_ hq=>wpAny_of_eq (rfl:isSame .none (.ref l)=pure false) hq) (.inr hu) h
theorem Ye {items:Array Value}(ho:s.heap.get? l=some { cls:=.type "dict",dict:=dd,data:=.dict es n,slots:=sl })(hb:s.heap.IsTuple b items)(hu:A.units<cLine):SeqAt.RcAt A s (.ref l) (.ref b) false:=λprog w E Q h=>by
 obtain ⟨⟨cls2,dd2,data2,sl2⟩,ho2,hc2,n2,hd2⟩:=id hb
 simp only at hc2 hd2
 subst hc2 hd2
 have ne:l≠b:=λe=>by subst e;rw [ho] at ho2;simp at ho2
 exact B2 (k:=false) ⟨_,ho,rfl⟩ ⟨_,ho2,rfl⟩ (by decide) PySem.F.sub_tuple_dict Cb PySem.F.slot_tuple_eq_refl
  (λ_ hq=>call_meets Cb ⟨_,ho,rfl⟩ B6 (B3 _ _) (Ki l b es n dd sl items n2 dd2 sl2) ⟨ho,ho2,hq⟩)
  (λ_ hq=>call_meets PySem.F.slot_tuple_eq_refl ⟨_,ho2,rfl⟩ PySem.F.entry_tuple_eq (PySem.F.args_tuple_eq_2 _ _) (Kx l b es n dd sl items n2 dd2 sl2) ⟨ho,ho2,hq⟩)
  (λ_ hq=>wpAny_isSame_ref_other ne ho ho2 (show Value.type "dict"≠Value.type "tuple" by decide) hq) (.inr hu) h
theorem YS {items:Array Value}(ho:s.heap.get? l=some { cls:=.type "dict",dict:=dd,data:=.dict es n,slots:=sl })(hb:s.heap.IsTuple b items)(hu:A.units<cLine):SeqAt.RcAt A s (.ref b) (.ref l) false:=λprog w E Q h=>by
 obtain ⟨⟨cls2,dd2,data2,sl2⟩,ho2,hc2,n2,hd2⟩:=id hb
 simp only at hc2 hd2
 subst hc2 hd2
 have ne:b≠l:=λe=>by subst e;rw [ho] at ho2;simp at ho2
 exact B2 (k:=false) ⟨_,ho2,rfl⟩ ⟨_,ho,rfl⟩ (by decide) PySem.F.sub_dict_tuple PySem.F.slot_tuple_eq BR
  (λ_ hq=>call_meets PySem.F.slot_tuple_eq ⟨_,ho2,rfl⟩ PySem.F.entry_tuple_eq (PySem.F.args_tuple_eq_2 _ _) (Kx l b es n dd sl items n2 dd2 sl2) ⟨ho,ho2,hq⟩)
  (λ_ hq=>call_meets BR ⟨_,ho,rfl⟩ B6 (B3 _ _) (Ki l b es n dd sl items n2 dd2 sl2) ⟨ho,ho2,hq⟩)
  (λ_ hq=>SeqAt.wpAny_isSame_ref_other' ne ho2 ho (show Value.type "dict"≠Value.type "tuple" by decide) hq) (.inr hu) h
end
noncomputable def PZ:D->Bool
 | .ref _=>false
 | .set _=>false
 | _=>true
section
variable {X:Cx} {K:Zc} {th:List Addr} {mu:Sto} {H:Hp} {pins:List (Addr×Obj)} {st:L2.St} {s:Shared}
theorem MB (I:L2.Inv X pins st H s)(so:StoOk X.z th mu H){ks ds:List D}{v:V}{u:Value}(r:Rep X.z th H (.dct ks ds) v)(q:RelV v u):∃ a es n dd sl,u=.ref a∧s.heap.get? a=some { cls:=.type "dict",dict:=dd,data:=.dict es n,slots:=sl }:=by
 obtain ⟨a,e2,dc⟩:=EN so (d:=.dct ks ds) rfl r
 subst e2
 cases q
 obtain ⟨xs,o,es,ep,_,g⟩:=Gd I dc
 obtain ⟨⟨cls,dd,data,sl⟩,ho,hex,hdt⟩:∃ o:Obj,s.heap.get? a=some o∧o.cls=.type "dict"∧o.data=.dict es ep:=⟨o,g.at',g.ex.1,g.dt⟩
 simp only at hex hdt
 subst hex hdt
 exact ⟨a,es,ep,dd,sl,rfl,ho⟩
theorem Y3 (I:L2.Inv X pins st H s)(so:StoOk X.z th mu H){A:Around}(hu:A.units<cLine){x:D}{v:V}{u:Value}(hx:PZ x=true)(r:Rep X.z th H x v)(q:RelV v u)(y:Str)(t:Tok):SeqAt.EqAt A s u (.str y t) (decide (x=.str y))∧SeqAt.EqAt A s (.str y t) u (decide (.str y=x)):=by
 cases x with
 | non =>
  rw [show decide (D.non=.str y)=false by simp,show decide (D.str y=.non)=false by simp]
  unfold Rep at r;subst r;cases q
  exact ⟨SeqAt.EqAt.none_str y t,SeqAt.EqAt.str_none y t⟩
 | bl b =>
  rw [show decide (D.bl b=.str y)=false by simp,show decide (D.str y=.bl b)=false by simp]
  unfold Rep at r;subst r;cases q
  exact ⟨SeqAt.EqAt.bool_str b y t,SeqAt.EqAt.str_bool y t b⟩
 | int i =>
  rw [show decide (D.int i=.str y)=false by simp,show decide (D.str y=.int i)=false by simp]
  unfold Rep at r;subst r;obtain ⟨k,rfl⟩:=q
  exact ⟨SeqAt.EqAt.int_str i k y t,SeqAt.EqAt.str_int y t i k⟩
 | str z =>
  unfold Rep at r
  obtain ⟨rfl,_⟩:=r
  obtain ⟨k,rfl⟩:=q
  have a:=SeqAt.EqAt.str_str (A:=A) (s:=s) z k y t
  have b:=SeqAt.EqAt.str_str (A:=A) (s:=s) y t z k
  have e1:(z==y)=decide (D.str z=.str y):=by
   by_cases c:z=y
   ·subst c;simp
   ·simp [c]
  have e2:(y==z)=decide (D.str y=.str z):=by
   by_cases c:y=z
   ·subst c;simp
   ·simp [c]
  rw [← e1,← e2]
  exact ⟨a,b⟩
 | tup ds =>
  rw [show decide (D.tup ds=.str y)=false by simp,show decide (D.str y=.tup ds)=false by simp]
  unfold Rep at r
  obtain ⟨a,vs,rfl,h1,_⟩:=r
  cases q
  obtain ⟨its,rv,pl,_⟩:=I.tuple h1
  exact ⟨SJ (SeqAt.RcAt.tuple_str y t pl hu),Sh (SeqAt.RcAt.str_tuple y t pl hu)⟩
 | lst ds =>
  rw [show decide (D.lst ds=.str y)=false by simp,show decide (D.str y=.lst ds)=false by simp]
  unfold Rep at r
  obtain ⟨a,vs,rfl,h1,_⟩:=r
  cases q
  obtain ⟨its,rv,pl,_⟩:=I.list h1.sq
  exact ⟨SJ (SeqAt.RcAt.list_str y t pl.isList hu),Sh (SeqAt.RcAt.str_list y t pl.isList hu)⟩
 | dct ks ds =>
  rw [show decide (D.dct ks ds=.str y)=false by simp,show decide (D.str y=.dct ks ds)=false by simp]
  obtain ⟨a,es,n,dd,sl,rfl,ho⟩:=MB I so r q
  exact ⟨SJ (ZO y t ho hu),Sh (VN y t ho hu)⟩
 | set _=>cases hx
 | ref _=>cases hx
end
end PV
namespace PV
open PySem L2 PySem.Spec PyProof.Rows
theorem all_eq {ds es:List D}{m n:Nat}(hm:m=ds.length)(hn:n=es.length):((List.range (min m n)).all (λj=>decide (ds[j]? = es[j]?))&&m==n)=decide (D.tup ds=.tup es):=by
 subst hm hn
 by_cases c:ds=es
 ·subst c
  simp
 ·rw [show decide (D.tup ds=.tup es)=false by simp [c]]
  rw [Bool.and_eq_false_iff]
  by_cases l:ds.length=es.length
  ·left
   rw [Bool.eq_false_iff]
   intro h
   refine c (BV λj=>?_)
   rw [Au] at h
   by_cases hj:j<ds.length
   ·simpa using h j (AX.mpr (by omega))
   ·rw [A7 (by omega),A7 (by omega)]
  ·right
   simp [l]
section
variable {X:Cx} {K:Zc} {th:List Addr} {mu:Sto} {H:Hp} {pins:List (Addr×Obj)} {st:L2.St} {s:Shared}
theorem Vu (I:L2.Inv X pins st H s)(so:StoOk X.z th mu H){A:Around}(hu:A.units<cLine){ds:List D}{ss:List Str}{vs vs':List V}{its its':List Value}(hx:∀ d∈ds,PZ d=true)(r1:RepL X.z th H ds vs)(q1:Vals vs its)(r2:RepL X.z th H (ss.map D.str) vs')(q2:Vals vs' its') :
  (∀ j (h1:j<its.toArray.size) (h2:j<its'.toArray.size),SeqAt.EqAt A s its.toArray[j] its'.toArray[j] (decide (ds[j]? = (ss.map D.str)[j]?)))∧∀ j (h1:j<its'.toArray.size) (h2:j<its.toArray.size),SeqAt.EqAt A s its'.toArray[j] its.toArray[j] (decide ((ss.map D.str)[j]? = ds[j]?)):=by
 have key:∀ j (h1:j<its.length) (h2:j<its'.length),SeqAt.EqAt A s its[j] its'[j] (decide (ds[j]? = (ss.map D.str)[j]?))∧SeqAt.EqAt A s its'[j] its[j] (decide ((ss.map D.str)[j]? = ds[j]?)):=λj h1 h2=>by
  have l1:its.length=ds.length:=by rw [← q1.length,r1.len]
  have l2:its'.length=(ss.map D.str).length:=by rw [← q2.length,r2.len]
  have d1:j<ds.length:=by omega
  have d2:j<ss.length:=by rw [l2,Ag] at h2;exact h2
  obtain ⟨v,v1,v2⟩:=r1.get (Ah d1)
  obtain ⟨u,u1,u2⟩:=q1.get v1
  rw [Ah h1] at u1
  have e2:(ss.map D.str)[j]? = some (D.str ss[j]):=by rw [Al,Ah d2];rfl
  obtain ⟨v',w1,w2⟩:=r2.get e2
  obtain ⟨u',x1,x2⟩:=q2.get w1
  rw [Ah h2] at x1
  rw [AB u1,AB x1,e2,Ah d1]
  unfold Rep at w2
  obtain ⟨rfl,_⟩:=w2
  obtain ⟨t,rfl⟩:=x2
  obtain ⟨a,b⟩:=Y3 I so hu (hx _ (BD d1)) v2 u2 ss[j] t
  simp only [Option.some.injEq]
  exact ⟨a,b⟩
 exact ⟨λj h1 h2=>(key j h1 h2).1,λj h1 h2=>(key j h2 h1).2⟩
noncomputable def F5:D->Bool
 | .non=>true
 | .tup ds=>(strsOf ds).isSome
 | _=>false
noncomputable def JI:D->Bool
 | .tup ds=>ds.all PZ
 | d=>PZ d
noncomputable def VE (A:Around)(s:Shared)(u u':Value)(d e:D):Prop:=match d,e with
 | .tup _,.tup _=>SeqAt.RcNeAt A s u u' (!decide (d=e))
 | _,_=>True
theorem LJ (I:L2.Inv X pins st H s)(so:StoOk X.z th mu H){A:Around}(hu:A.units+1<cLine){d e:D}{v v':V}{u u':Value}(hd:JI d=true)(he:F5 e=true)(r1:Rep X.z th H d v)(q1:RelV v u)(r2:Rep X.z th H e v')(q2:RelV v' u') :
  SeqAt.RcAt A s u u' (decide (d=e))∧SeqAt.RcAt A s u' u (decide (e=d))∧VE A s u u' d e∧VE A s u' u e d:=by
 have hu0:A.units<cLine:=by omega
 cases e with
 | non =>
  unfold Rep at r2;subst r2;cases q2
  cases d with
  | non =>
   unfold Rep at r1;subst r1;cases q1
   simp only [decide_true]
   exact ⟨SeqAt.RcAt.none_none,SeqAt.RcAt.none_none,trivial,trivial⟩
  | bl b =>
   unfold Rep at r1;subst r1;cases q1
   rw [show decide (D.bl b=.non)=false by simp,show decide (D.non=.bl b)=false by simp]
   exact ⟨SeqAt.RcAt.bool_none b,SeqAt.RcAt.none_bool b,trivial,trivial⟩
  | int i =>
   unfold Rep at r1;subst r1;obtain ⟨k,rfl⟩:=q1
   rw [show decide (D.int i=.non)=false by simp,show decide (D.non=.int i)=false by simp]
   exact ⟨SeqAt.RcAt.int_none i k,SeqAt.RcAt.none_int i k,trivial,trivial⟩
  | str z =>
   unfold Rep at r1
   obtain ⟨rfl,_⟩:=r1
   obtain ⟨k,rfl⟩:=q1
   rw [show decide (D.str z=.non)=false by simp,show decide (D.non=.str z)=false by simp]
   exact ⟨SeqAt.RcAt.str_none z k,SeqAt.RcAt.none_str z k,trivial,trivial⟩
  | tup ds =>
   unfold Rep at r1
   obtain ⟨a,vs,rfl,h1,_⟩:=r1
   cases q1
   obtain ⟨its,rv,pl,_⟩:=I.tuple h1
   rw [show decide (D.tup ds=.non)=false by simp,show decide (D.non=.tup ds)=false by simp]
   exact ⟨SeqAt.RcAt.tuple_none pl hu0,SeqAt.RcAt.none_tuple pl hu0,trivial,trivial⟩
  | lst ds =>
   unfold Rep at r1
   obtain ⟨a,vs,rfl,h1,_⟩:=r1
   cases q1
   obtain ⟨its,rv,pl,_⟩:=I.list h1.sq
   rw [show decide (D.lst ds=.non)=false by simp,show decide (D.non=.lst ds)=false by simp]
   exact ⟨SeqAt.RcAt.list_none pl.isList hu0,SeqAt.RcAt.none_list pl.isList hu0,trivial,trivial⟩
  | dct ks ds =>
   obtain ⟨a,es,n,dd,sl,rfl,ho⟩:=MB I so r1 q1
   rw [show decide (D.dct ks ds=.non)=false by simp,show decide (D.non=.dct ks ds)=false by simp]
   exact ⟨Y5 ho hu0,YO ho hu0,trivial,trivial⟩
  | set _=>cases hd
  | ref _=>cases hd
 | tup es =>
  obtain ⟨ss,hs⟩:=Bm.mp he
  have:=FO hs
  subst this
  unfold Rep at r2
  obtain ⟨b,vs',rfl,k1,k2,_⟩:=r2
  cases q2
  obtain ⟨its',rv',pl',_⟩:=I.tuple k1
  cases d with
  | non =>
   unfold Rep at r1;subst r1;cases q1
   rw [show decide (D.non=.tup (ss.map D.str))=false by simp,show decide (D.tup (ss.map D.str)=.non)=false by simp]
   exact ⟨SeqAt.RcAt.none_tuple pl' hu0,SeqAt.RcAt.tuple_none pl' hu0,trivial,trivial⟩
  | bl c =>
   unfold Rep at r1;subst r1;cases q1
   rw [show decide (D.bl c=.tup (ss.map D.str))=false by simp,show decide (D.tup (ss.map D.str)=.bl c)=false by simp]
   exact ⟨SeqAt.RcAt.bool_tuple c pl' hu0,SeqAt.RcAt.tuple_bool c pl' hu0,trivial,trivial⟩
  | int i =>
   unfold Rep at r1;subst r1;obtain ⟨k,rfl⟩:=q1
   rw [show decide (D.int i=.tup (ss.map D.str))=false by simp,show decide (D.tup (ss.map D.str)=.int i)=false by simp]
   exact ⟨SeqAt.RcAt.int_tuple i k pl' hu0,SeqAt.RcAt.tuple_int i k pl' hu0,trivial,trivial⟩
  | str z =>
   unfold Rep at r1
   obtain ⟨rfl,_⟩:=r1
   obtain ⟨k,rfl⟩:=q1
   rw [show decide (D.str z=.tup (ss.map D.str))=false by simp,show decide (D.tup (ss.map D.str)=.str z)=false by simp]
   exact ⟨SeqAt.RcAt.str_tuple z k pl' hu0,SeqAt.RcAt.tuple_str z k pl' hu0,trivial,trivial⟩
  | tup ds =>
   unfold Rep at r1
   obtain ⟨a,vs,rfl,h1,h2,_⟩:=r1
   cases q1
   obtain ⟨its,rv,pl,_⟩:=I.tuple h1
   obtain ⟨t1,t2⟩:=Vu I so (A:=A.in1) (show A.units+1<cLine from hu) (Au.mp hd) h2 rv k2 rv'
   have l1:its.toArray.size=ds.length:=by rw [An,← rv.length,h2.len]
   have l2:its'.toArray.size=(ss.map D.str).length:=by rw [An,← rv'.length,k2.len]
   have e1:=all_eq l1 l2
   have e2:=all_eq l2 l1
   refine ⟨?_,?_,?_,?_⟩
   ·rw [← e1];exact SeqAt.RcAt.tuples pl pl' hu0 t1
   ·rw [← e2];exact SeqAt.RcAt.tuples pl' pl hu0 t2
   ·show SeqAt.RcNeAt A s _ _ (!decide (D.tup ds=.tup (ss.map D.str)))
    rw [← e1];exact SeqAt.RcNeAt.tuples pl pl' hu0 t1
   ·show SeqAt.RcNeAt A s _ _ (!decide (D.tup (ss.map D.str)=.tup ds))
    rw [← e2];exact SeqAt.RcNeAt.tuples pl' pl hu0 t2
  | lst ds =>
   unfold Rep at r1
   obtain ⟨a,vs,rfl,h1,_⟩:=r1
   cases q1
   obtain ⟨its,rv,pl,_⟩:=I.list h1.sq
   rw [show decide (D.lst ds=.tup (ss.map D.str))=false by simp,show decide (D.tup (ss.map D.str)=.lst ds)=false by simp]
   exact ⟨SeqAt.RcAt.list_tuple pl.isList pl' hu0,SeqAt.RcAt.tuple_list pl' pl.isList hu0,trivial,trivial⟩
  | dct ks ds =>
   obtain ⟨a,es,n,dd,sl,rfl,ho⟩:=MB I so r1 q1
   rw [show decide (D.dct ks ds=.tup (ss.map D.str))=false by simp,show decide (D.tup (ss.map D.str)=.dct ks ds)=false by simp]
   exact ⟨Ye ho pl' hu0,YS ho pl' hu0,trivial,trivial⟩
  | set _=>cases hd
  | ref _=>cases hd
 | bl _=>cases he
 | int _=>cases he
 | str _=>cases he
 | lst _=>cases he
 | dct _ _=>cases he
 | set _=>cases he
 | ref _=>cases he
noncomputable def eqY (d e:D)(mu:Sto):Rs D:=if ((JI d&&F5 e)||(F5 d&&JI e))=true then some (.bl (decide (d=e)),mu) else none
theorem WU (hu:X.A.units+64<cLine):OpV X (compareOp .Eq) eqY:=by
 intro pins s st H x y v u Q I rx ry h
 obtain ⟨th,mu,d,e,so,r1,r2,t⟩:=h
 unfold eqY at t
 split at t
 ·rename_i c
  rw [Bt,Ab,Ab] at c
  rcases c with ⟨c1,c2⟩|⟨c1,c2⟩
  ·exact (LJ I so (A:=X.A) (by omega) c1 c2 r1 rx r2 ry).1 _ _ _ _ ⟨.bl (decide (d=e)),H,I,rfl,t.ret so _ rfl⟩
  ·exact (LJ I so (A:=X.A) (by omega) c2 c1 r2 ry r1 rx).2.1 _ _ _ _ ⟨.bl (decide (d=e)),H,I,rfl,t.ret so _ rfl⟩
 ·exact t.no.elim
noncomputable def isT:D->Bool
 | .tup _=>true
 | _=>false
noncomputable def neY (d e:D)(mu:Sto):Rs D:=if (isT d&&isT e&&((JI d&&F5 e)||(F5 d&&JI e)))=true then some (.bl (!decide (d=e)),mu) else none
theorem V2 (hu:X.A.units+64<cLine):OpV X (compareOp .NotEq) neY:=by
 intro pins s st H x y v u Q I rx ry h
 obtain ⟨th,mu,d,e,so,r1,r2,t⟩:=h
 unfold neY at t
 split at t
 ·rename_i c
  rw [Ab,Ab,Bt,Ab,Ab] at c
  obtain ⟨⟨i1,i2⟩,c⟩:=c
  obtain ⟨ds,rfl⟩:∃ ds,d=.tup ds:=by cases d<;>first|(cases i1;done)|exact ⟨_,rfl⟩
  obtain ⟨es,rfl⟩:∃ es,e=.tup es:=by cases e<;>first|(cases i2;done)|exact ⟨_,rfl⟩
  rcases c with ⟨c1,c2⟩|⟨c1,c2⟩
  ·have n:SeqAt.RcNeAt X.A s v u (!decide (D.tup ds=.tup es)):=(LJ I so (A:=X.A) (by omega) c1 c2 r1 rx r2 ry).2.2.1
   exact n _ _ _ _ ⟨.bl (!decide (D.tup ds=.tup es)),H,I,rfl,t.ret so _ rfl⟩
  ·have n:SeqAt.RcNeAt X.A s v u (!decide (D.tup ds=.tup es)):=(LJ I so (A:=X.A) (by omega) c2 c1 r2 ry r1 rx).2.2.2
   exact n _ _ _ _ ⟨.bl (!decide (D.tup ds=.tup es)),H,I,rfl,t.ret so _ rfl⟩
 ·exact t.no.elim
noncomputable def eqH (d e:D)(mu:Sto):Rs D:=match eqG d e mu with
 | some r=>some r
 | none=>eqY d e mu
theorem Ha (hu:X.A.units+64<cLine):OpV X (compareOp .Eq) eqH:=OpV.or (RH hu) (WU hu)
noncomputable def neH (d e:D)(mu:Sto):Rs D:=match neD d e mu with
 | some r=>some r
 | none=>neY d e mu
theorem S3 (hu:X.A.units+64<cLine):OpV X (compareOp .NotEq) neH:=OpV.or (Jd hu) (V2 hu)
end
end PV
namespace PG
open PySem L2 PV PyProof.Rows
noncomputable def Hw:Sx:=
  CI (sIf (tO (tNt (tV (HD "str" (Co 0)))) (tNt (tV (Jn leD leD (eC (.int 1)) (Ct EU (Cn (Co 0) Cr)) (eC (.int 8)))))) (sRt (eC (.bl false))) (sNx)) (sRt (Ct HK (Cn (eLC (Fv (Co 0)) 1 [] (gNm 0) (tY) (Cs inG (Co 0) (eC (.str "abcdefghijklmnopqrstuvwxyz0123456789")))) Cr)))
noncomputable def FJ:Fn:=fnB 1 Hw
noncomputable def HI:Sx:=
  sRt (eAn (HD "tuple" (Co 0)) (Jn leD leD (Co 1) (Ct EU (Cn (Co 0) Cr)) (Co 2)))
noncomputable def EI:Fn:=fnB 3 HI
noncomputable def F7:Sx:=
  sRt (Ct HK (Cn (eLC (Mp (Cn (Co 0) (Cn (eSl (Co 0) (Dh (eC (.int 1))) (pNo)) Cr))) 2 [] (gTp 2 (CB (gNm 0) (CB (gNm 1) DC))) (tY) (Cs ltG (Co 0) (Co 1))) Cr))
noncomputable def Ej:Fn:=fnB 1 F7
noncomputable def Hh:Sx:=
  CI (sIf (tNt (tV (Ct EI (Cn (Co 1) (Cn (Ct EU (Cn (Co 0) Cr)) (Cn (Ct EU (Cn (Co 0) Cr)) Cr)))))) (sRt (eC (.bl false))) (sNx)) (sRt (Ct HK (Cn (eLC (Mp (Cn (Co 1) (Cn (Co 0) Cr))) 3 [] (gTp 2 (CB (gNm 0) (CB (gTp 2 (CB (gNm 1) (CB (gNm 2) DC))) DC))) (tY) (eAn (HD "str" (Co 0)) (Cs inG (Co 0) (Co 2)))) Cr)))
noncomputable def EY:Fn:=fnB 2 Hh
noncomputable def E1:Sx:=
  CI (HC (Fv (Co 0)) (gNm 3) (sIf (tV (Cs eqD (eSl (Co 3) (pNo) (Dh (Co 1))) (Co 2))) (sRt (Co 3)) (sNx))) (sRt (eC .non))
noncomputable def DI:Fn:=fnB 4 E1
noncomputable def KI:Sx:=
  CI (HC (Mp (Cn (Co 0) (Cn (Co 1) Cr))) (gTp 2 (CB (gNm 4) (CB (gNm 5) DC))) (sIf (tV (Cs eqD (Cs ixG (Co 4) (eC (.int 0))) (Co 2))) (sRt (Ct DI (Cn (Co 5) (Cn (Cs ixG (Co 4) (eC (.int 2))) (Cn (Co 3) Cr))))) (sNx))) (sRt (eC .non))
noncomputable def G5:Fn:=fnB 6 KI
noncomputable def HH:Sx:=
  sRt (Cs ixG (eLC (Fv (Co 0)) 1 [1] (gNm 0) (tV (Cs eqD (Cs ixG (Co 0) (eC (.int 0))) (Co 1))) (Co 0)) (eC (.int 0)))
noncomputable def FP:Fn:=fnB 2 HH
noncomputable def D3:Sx:=
  CI (sIf (tO (tNt (tV (Ct FJ (Cn (Co 1) Cr)))) (tV (Cs Us (Co 1) (eLC (Fv (Co 0)) 1 [] (gNm 0) (tY) (Cs ixG (Co 0) (eC (.int 0))))))) (sRt (eC .non)) (sNx)) (sRt (Ct FP (Cn (Co 0) (Cn (Co 1) Cr))))
noncomputable def Dx:Fn:=fnB 2 D3
noncomputable def D0:Sx:=
  sRt (eO (Cs isD (Co 2) (eC .non)) (eAn (Ct EY (Cn (Cs ixG (Co 0) (eC (.int 1))) (Cn (Co 2) Cr))) (Cs eqD (eSl (Co 2) (pNo) (Dh (Cs ixG (Co 0) (eC (.int 2))))) (Co 1))))
noncomputable def Dp:Fn:=fnB 3 D0
noncomputable def Ew:Sx:=
  CI (Dc (eIf (tV (Ct EI (Cn (Co 2) (Cn (eC (.int 4)) (Cn (eC (.int 4)) Cr))))) (Ct Dx (Cn (Co 0) (Cn (Cs ixG (Co 2) (eC (.int 0))) Cr))) (eC .non)) (gNm 3)) (CI (sIf (tO (tV (Cs isD (Co 3) (eC .non))) (tNt (tV (Ct EY (Cn (eSl (Cs ixG (Co 3) (eC (.int 1))) (pNo) (Dh (Cs ixG (Co 3) (eC (.int 2))))) (Cn (Cs ixG (Co 2) (eC (.int 1))) Cr)))))) (sRt (eC (.bl false))) (sNx)) (CI (Dc (Co 2) (gTp 4 (CB (gNm 4) (CB (gNm 5) (CB (gNm 6) (CB (gNm 7) DC)))))) (CI (sIf (tO (tNt (tV (Ct Dp (Cn (Co 3) (Cn (Co 5) (Cn (Co 6) Cr)))))) (tNt (tV (Ct Dp (Cn (Co 3) (Cn (Co 5) (Cn (Co 7) Cr))))))) (sRt (eC (.bl false))) (sNx)) (sRt (eAn (Cs eqD (Co 6) (Ct G5 (Cn (Co 0) (Cn (Co 1) (Cn (Co 4) (Cn (Co 5) Cr)))))) (Cs neD (Co 7) (Co 6)))))))
noncomputable def DH:Fn:=fnB 8 Ew
noncomputable def Ft:Sx:=
  CI (sIf (tO (tNt (tV (HD "tuple" (Co 2)))) (tNt (tV (Ct HK (Cn (eLC (Fv (Co 2)) 1 [0,1] (gNm 0) (tY) (Ct DH (Cn (Co 1) (Cn (Co 2) (Cn (Co 0) Cr))))) Cr))))) (sRt (eC (.bl false))) (sNx)) (sRt (Ct Ej (Cn (eLC (Fv (Co 2)) 1 [] (gNm 0) (tY) (eSl (Co 0) (pNo) (Dh (eC (.int 2))))) Cr)))
noncomputable def CV:Fn:=fnB 3 Ft
noncomputable def GO:Sx:=
  CI (Dc (eC (.int 0)) (gNm 2)) (CI (sIf (tV (Cs ltG (Co 1) (Ct EU (Cn (Co 0) Cr)))) (Dc (Cs ixG (Co 0) (Co 1)) (gNm 2)) (sNx)) (sRt (G2 (Cn (Cs Gg (Co 2) (Ct RV (Cn (Cs geD (Co 2) (Cs RY (eC (.int 10)) (eC (.int 18)))) Cr))) (Cn (Cs Df (Cs Df (Cs Gm (Co 2) (eC (.int 2305843009213693951))) (Cs Gg (eC (.int 7919)) (Co 1))) (eC (.int 3))) (Cn (eC (.int 0)) Cr))))))
noncomputable def EH:Fn:=fnB 3 GO
noncomputable def GQ:Sx:=
  CI (sIf (tV (Cs gtD (Cs ixG (Co 0) (eC (.int 0))) (eC (.int 0)))) (CI (Dc (Cs Gm (Cs ixG (Co 0) (eC (.int 0))) (Co 1)) (gNm 2)) (CI (Dc (Cs KG (Cs ixG (Co 0) (eC (.int 0))) (Co 1)) (gIx (Co 0) (eC (.int 0)))) (sRt (Co 2)))) (sNx)) (CI (Dc (Cs Df (Cs ixG (Co 0) (eC (.int 2))) (eC (.int 1))) (gIx (Co 0) (eC (.int 2)))) (CI (Dc (Cs ixG (Co 0) (eC (.int 2))) (gNm 3)) (CI (Dc (Cs Gm (Cs Gg (Cs ixG (Co 0) (eC (.int 1))) (Cs Df (Cs Df (eC (.int 48271)) (Cs Gg (Cs Gg (eC (.int 2)) (Co 3)) (Co 3))) (Cs Gg (eC (.int 65537)) (Co 3)))) (eC (.int 2305843009213693921))) (gNm 4)) (CI (Dc (Cs Df (Cs Df (Cs Gm (Co 4) (eC (.int 1000003))) (Cs Gg (Co 3) (eC (.int 99991)))) (eC (.int 11))) (gNm 5)) (CI (Dc (Cs Gm (Cs Gg (Co 4) (Co 5)) (eC (.int 2305843009213693907))) (gNm 4)) (sRt (Cs Gm (Cs Df (Cs KG (Co 4) (eC (.int 97))) (Cs KG (Co 4) (eC (.int 1000033)))) (Co 1))))))))
noncomputable def Cw:Fn:=fnB 6 GQ
noncomputable def GB:Sx:=
  sRt (Cs ixG (Co 1) (Ct Cw (Cn (Co 0) (Cn (Ct EU (Cn (Co 1) Cr)) Cr))))
noncomputable def CT:Fn:=fnB 2 GB
noncomputable def He:Sx:=
  CI (Dc (eC (.str "abcdefghijklmnopqrstuvwxyz0123456789")) (gNm 3)) (CI (Dc (EB (Cn (Ct Cw (Cn (Co 0) (Cn (eC (.int 36)) Cr))) (Cn (Ct CT (Cn (Co 0) (Cn (GK (Cn (eC (.int 1)) (Cn (eC (.int 5)) (Cn (eC (.int 7)) (Cn (eC (.int 11)) (Cn (eC (.int 13)) (Cn (eC (.int 17)) Cr))))))) Cr))) Cr))) (gTp 2 (CB (gNm 4) (CB (gNm 5) DC)))) (CI (Dc (Cs Gg (Cs ixG (Co 3) (Ct Cw (Cn (Co 0) (Cn (eC (.int 36)) Cr)))) (Ct ME (Cn (Cs Vb (Co 2) (eC (.int 1))) (Cn (Ct CT (Cn (Co 0) (Cn (GK (Cn (eC (.int 0)) (Cn (eC (.int 1)) (Cn (eC (.int 0)) (Cn (eC (.int 2)) (Cn (eC (.int 7)) Cr)))))) Cr))) Cr)))) (gNm 6)) (CI (Dc (Ct Cw (Cn (Co 0) (Cn (Cs Df (Ct EU (Cn (Co 6) Cr)) (eC (.int 1))) Cr))) (gNm 7)) (sRt (eLC (iRg (Cn (Co 1) Cr)) 1 [6,7,3,4,5] (gNm 0) (tY) (Cs Df (Cs Df (eSl (Co 1) (pNo) (Dh (Co 2))) (Cs ixG (Co 3) (Cs Gm (Cs Df (Co 4) (Cs Gg (Co 5) (Co 0))) (eC (.int 36))))) (eSl (Co 1) (Dh (Co 2)) (pNo))))))))
noncomputable def En:Fn:=fnB 8 He
noncomputable def GR:Sx:=
  CI (Dc (Ct KS (Cn (Ct En (Cn (Co 0) (Cn (Cs Df (eC (.int 1)) (Ct Cw (Cn (Co 0) (Cn (Co 1) Cr)))) (Cn (eC (.int 8)) Cr)))) Cr)) (gNm 4)) (CI (Dc (EB (Cn (Ct En (Cn (Co 0) (Cn (Cs Df (Co 2) (eC (.int 2))) (Cn (eC (.int 8)) Cr)))) (Cn (Ct En (Cn (Co 0) (Cn (Cs Df (Co 3) (eC (.int 1))) (Cn (eC (.int 8)) Cr)))) Cr))) (gTp 2 (CB (gNm 5) (CB (gNm 6) DC)))) (CI (Dc (G2 Cr) (gNm 7)) (CI (HC (Fv (Co 4)) (gNm 8) (CI (PJ 9 10 11 (Cn (Cs Df (eC (.int 1)) (Ct Cw (Cn (Co 0) (Cn (Co 2) Cr)))) (Cn (Ct Cw (Cn (Co 0) (Cn (eC (.int 3)) Cr))) (Cn (G2 Cr) Cr)))) (CI (HC (iRg (Cn (Co 9) Cr)) (gNm 12) (CI (Dc (EB (Cn (Cs Df (eC (.int 1)) (Ct Cw (Cn (Co 0) (Cn (Co 3) Cr)))) (Cn (Ct Cw (Cn (Co 0) (Cn (eC (.int 2)) Cr))) Cr))) (gTp 2 (CB (gNm 13) (CB (gNm 14) DC)))) (CI (Dc (Ct Gf (Cn (eLC (iRg (Cn (Co 13) Cr)) 1 [6,14] (gNm 0) (tY) (Cs ixG (Co 1) (Cs Gm (Cs Df (Co 0) (Co 2)) (Ct EU (Cn (Co 1) Cr))))) Cr)) (gNm 15)) (sEx (KY (Co 11) (Cn (EB (Cn (Cs ixG (Co 5) (Cs Gm (Cs Df (Co 12) (Co 10)) (Ct EU (Cn (Co 5) Cr)))) (Cn (Co 15) Cr))) Cr)))))) (sEx (KY (Co 7) (Cn (EB (Cn (Co 8) (Cn (Ct Gf (Cn (Co 11) Cr)) (Cn (Cs Df (eC (.int 1)) (Ct Cw (Cn (Co 0) (Cn (Co 9) Cr)))) Cr)))) Cr)))))) (sRt (Ct Gf (Cn (Co 7) Cr))))))
noncomputable def D9:Fn:=fnG 16 GR
noncomputable def Gh:Sx:=
  CI (Dc (G2 Cr) (gNm 3)) (CI (HC (Fv (Co 1)) (gTp 3 (CB (gNm 4) (CB (gNm 5) (CB (gNm 6) DC)))) (CI (Dc Nq (gNm 7)) (CI (HC (iRg (Cn (Ct Cw (Cn (Co 0) (Cn (Cs Df (Co 2) (eC (.int 1))) Cr))) Cr)) (gNm 8) (CI (Dc (Ct Gf (Cn (eLC (Fv (Co 5)) 2 [0] (gTp 2 (CB (gNm 0) (CB (gNm 1) DC))) (tY) (Ct CT (Cn (Co 2) (Cn (Co 1) Cr)))) Cr)) (gNm 9)) (Dc (Co 9) (gIx (Co 7) (eSl (Co 9) (pNo) (Dh (Co 6))))))) (sEx (KY (Co 3) (Cn (Ct Gf (Cn (Lz (Co 7)) Cr)) Cr)))))) (sRt (Ct Gf (Cn (Co 3) Cr))))
noncomputable def Ed:Fn:=fnG 10 Gh
noncomputable def GU:Sx:=
  CI (Dc Nq (gNm 4)) (CI (HC (iRg (Cn (Ct Cw (Cn (Co 0) (Cn (Cs Df (Co 3) (eC (.int 1))) Cr))) Cr)) (gNm 5) (CI (Dc (Ct Cw (Cn (Co 0) (Cn (Ct EU (Cn (Co 1) Cr)) Cr))) (gNm 6)) (CI (Dc (Cs ixG (Co 1) (Co 6)) (gTp 3 (CB (gNm 7) (CB (gNm 8) (CB (gNm 9) DC))))) (CI (Dc (Ct Gf (Cn (eLC (Fv (Co 8)) 2 [0] (gTp 2 (CB (gNm 0) (CB (gNm 1) DC))) (tY) (Ct CT (Cn (Co 2) (Cn (Co 1) Cr)))) Cr)) (gNm 10)) (CI (sIf (tAn (tV (Cs neD (Cs ixG (Co 2) (Co 6)) (EB Cr))) (tV (Cs eqD (Ct Cw (Cn (Co 0) (Cn (eC (.int 2)) Cr))) (eC (.int 0))))) (Dc (Cs Df (eSl (Ct CT (Cn (Co 0) (Cn (Cs ixG (Co 2) (Co 6)) Cr))) (pNo) (Dh (Co 9))) (eSl (Co 10) (Dh (Co 9)) (pNo))) (gNm 10)) (sNx)) (CI (Dc (Cs ixG (Cs Df (eLC (Fv (Cs ixG (Co 2) (Co 6))) 1 [9,10] (gNm 0) (tV (Cs eqD (eSl (Co 0) (pNo) (Dh (Co 1))) (eSl (Co 2) (pNo) (Dh (Co 1))))) (Co 0)) (GK (Cn (eC .non) Cr))) (eC (.int 0))) (gNm 11)) (CI (Dc (Cs ixG (GK (Cn (Co 10) (Cn (Co 10) (Cn (eC .non) Cr)))) (Ct Cw (Cn (Co 0) (Cn (eC (.int 3)) Cr)))) (gNm 12)) (sIf (tV (Cs neD (Co 12) (Co 11))) (Dc (EB (Cn (Co 7) (Cn (eSl (Co 10) (pNo) (Dh (Co 9))) (Cn (Co 11) (Cn (Co 12) Cr))))) (gIx (Co 4) (EB (Cn (Co 7) (Cn (eSl (Co 10) (pNo) (Dh (Co 9))) Cr))))) (sNx))))))))) (sRt (Ct Gf (Cn (eLC (Fv (Ct KS (Cn (Co 4) Cr))) 1 [4] (gNm 0) (tY) (Cs ixG (Co 1) (Co 0))) Cr))))
noncomputable def Er:Fn:=fnG 13 GU
noncomputable def Eh:Sx:=
  CI (sIf (tO (tNt (tV (HD "tuple" (Co 1)))) (tV (Cs neD (Ct EU (Cn (Co 1) Cr)) (Ct EU (Cn (Cs ixG (Co 0) (eC (.int 1))) Cr))))) (sRt (eC (.bl false))) (sNx)) (sRt (Ct HK (Cn (eLC (Mp (Cn (Co 1) (Cn (Cs ixG (Co 0) (eC (.int 1))) Cr))) 3 [] (gTp 2 (CB (gNm 0) (CB (gTp 2 (CB (gNm 1) (CB (gNm 2) DC))) DC))) (tY) (eAn (HD "str" (Co 0)) (Cs inG (Co 0) (Co 2)))) Cr)))
noncomputable def DA:Fn:=fnB 2 Eh
noncomputable def De:Sx:=
  CI (sIf (tO (tNt (tV (HD "tuple" (Co 2)))) (tO (tV (Cs neH (Ct EU (Cn (Co 2) Cr)) (eC (.int 4)))) (tNt (tV (HD "tuple" (Cs ixG (Co 2) (eC (.int 1)))))))) (sRt (eC (.bl false))) (sNx)) (CI (Dc (eLC (iRg (Cn (Ct EU (Cn (Co 0) Cr)) Cr)) 1 [0,2] (gNm 0) (tV (Cs eqH (Cs ixG (Cs ixG (Co 1) (Co 0)) (eC (.int 0))) (Cs ixG (Co 2) (eC (.int 0))))) (Co 0)) (gNm 3)) (CI (sIf (tO (tV (Cs eqH (Co 3) (GK Cr))) (tV (Cs eqH (Cs ixG (Co 2) (eC (.int 2))) (Cs ixG (Co 2) (eC (.int 3)))))) (sRt (eC (.bl false))) (sNx)) (CI (Dc (EB (Cn (Cs ixG (Co 0) (Cs ixG (Co 3) (eC (.int 0)))) (Cn (Cs ixG (Co 1) (Cs ixG (Co 3) (eC (.int 0)))) Cr))) (gTp 2 (CB (gNm 4) (CB (gNm 5) DC)))) (CI (HC (Fv (eSl (Co 2) (Dh (eC (.int 2))) (pNo))) (gNm 6) (sIf (tAn (tV (Cs JJ (Co 6) (eC .non))) (tO (tNt (tV (Ct DA (Cn (Co 4) (Cn (Co 6) Cr))))) (tV (Cs neH (eSl (Co 6) (pNo) (Dh (Cs ixG (Co 4) (eC (.int 2))))) (Cs ixG (Co 2) (eC (.int 1))))))) (sRt (eC (.bl false))) (sNx))) (CI (Dc (eLC (Fv (Co 5)) 1 [4,2] (gNm 0) (tV (Cs eqH (eSl (Co 0) (pNo) (Dh (Cs ixG (Co 1) (eC (.int 2))))) (Cs ixG (Co 2) (eC (.int 1))))) (Co 0)) (gNm 7)) (sRt (eAn (Cs eqH (Cs isD (Cs ixG (Co 2) (eC (.int 2))) (eC .non)) (Cs eqH (Co 7) (GK Cr))) (eO (Cs eqH (Co 7) (GK Cr)) (Cs eqH (Cs ixG (Co 2) (eC (.int 2))) (Cs ixG (Co 7) (eC (.int 0))))))))))))
noncomputable def CK:Fn:=fnB 8 De
noncomputable def FR:Sx:=
  CI (sIf (tO (tNt (tV (HD "tuple" (Co 2)))) (tNt (tV (Ct HK (Cn (eLC (Fv (Co 2)) 1 [0,1] (gNm 0) (tY) (Ct CK (Cn (Co 1) (Cn (Co 2) (Cn (Co 0) Cr))))) Cr))))) (sRt (eC (.bl false))) (sNx)) (CI (Dc (eLC (Fv (Co 2)) 1 [] (gNm 0) (tY) (eSl (Co 0) (pNo) (Dh (eC (.int 2))))) (gNm 3)) (sRt (Cs eqG (Co 3) (Ct KS (Cn (Ct setG (Cn (Co 3) Cr)) Cr)))))
noncomputable def Ei:Fn:=fnB 4 FR
noncomputable def IH:Sx:=
  CI (Dc (G2 Cr) (gNm 3)) (CI (HC (Fv (Co 2)) (gNm 4) (sEx (So (Co 3) (Cn (Ct LK (Cn (Co 4) Cr)) Cr)))) (CI (sEx (KY (Co 3) (Cn (EB (Cn (eC (.str "a")) Cr)) Cr))) (CI (Dc (GK (Cn (eC .non) (Cn (eC (.bl true)) (Cn (eC (.int 0)) (Cn (eC (.str "")) (Cn (eC (.str "zz9")) (Cn (EB Cr) (Cn (GK Cr) (Cn MI (Cn (Cs ixG (Cs ixG (Co 1) (eC (.int 0))) (eC (.int 0))) (Cn (Cs ixG (Cs ixG (Co 1) (e1 UZ (eC (.int 1)))) (eC (.int 0))) (Cn (Cs ixG (Co 3) (eC (.int 0))) (Cn (Cs ixG (Co 3) (e1 UZ (eC (.int 1)))) Cr))))))))))))) (gNm 4)) (sRt (Ct CT (Cn (Co 0) (Cn (Cs Df (Co 4) (GK (Cn (Ct LK (Cn (Cs ixG (Co 3) (eC (.int 0))) Cr)) Cr))) Cr)))))))
noncomputable def FG:Fn:=fnG 5 IH
noncomputable def Dr (f:Fn):Sx:=
  CI (sIf (tO (tNt (tV (HD "tuple" (Co 3)))) (tO (tV (Cs eqD (Ct EU (Cn (Co 3) Cr)) (eC (.int 0)))) (tO (tV (Cs eqD (Co 4) (eC (.int 0)))) (tV (Cs eqD (Ct Cw (Cn (Co 0) (Cn (eC (.int 7)) Cr))) (eC (.int 0))))))) (sRt (Ct FG (Cn (Co 0) (Cn (Co 1) (Cn (Co 2) Cr))))) (sNx)) (CI (Dc (Ct Cw (Cn (Co 0) (Cn (Ct EU (Cn (Co 3) Cr)) Cr))) (gNm 5)) (CI (Dc (Ct Cw (Cn (Co 0) (Cn (eC (.int 8)) Cr))) (gNm 6)) (CI (sIf (tV (Cs eqD (Co 6) (eC (.int 0)))) (sRt (Cs Df (eSl (Co 3) (pNo) (Dh (Co 5))) (eSl (Co 3) (Dh (Cs Df (Co 5) (eC (.int 1)))) (pNo)))) (sNx)) (CI (sIf (tV (Cs eqD (Co 6) (eC (.int 1)))) (sRt (Cs Df (eSl (Co 3) (pNo) (Dh (Cs Df (Co 5) (eC (.int 1))))) (eSl (Co 3) (Dh (Co 5)) (pNo)))) (sNx)) (CI (sIf (tV (Cs eqD (Co 6) (eC (.int 2)))) (sRt (Cs ixG (GK (Cn (Ct LK (Cn (Co 3) Cr)) (Cn (e1 Vg (Co 3)) (Cn (Cs Df (Co 3) (EB (Cn (Ct FG (Cn (Co 0) (Cn (Co 1) (Cn (Co 2) Cr)))) Cr))) Cr)))) (Ct Cw (Cn (Co 0) (Cn (eC (.int 3)) Cr))))) (sNx)) (CI (Dc (Ct f (Cn (Co 0) (Cn (Co 1) (Cn (Co 2) (Cn (Cs ixG (Co 3) (Co 5)) (Cn (Cs Vb (Co 4) (eC (.int 1))) Cr)))))) (gNm 7)) (sRt (Cs Df (Cs Df (eSl (Co 3) (pNo) (Dh (Co 5))) (EB (Cn (Co 7) Cr))) (eSl (Co 3) (Dh (Cs Df (Co 5) (eC (.int 1)))) (pNo))))))))))
noncomputable def CN:Nat->Fn
 | 0=>λ_ _=>none
 | n+1=>fnB 8 (Dr (CN n))
noncomputable def Te:Sx:=
  CI (HC (iRg (Cn (Ct SQ (Cn (eC (.int 2)) (Cn (Ct ME (Cn (eC (.int 5)) (Cn (Ct EU (Cn (Co 0) Cr)) Cr))) Cr))) Cr)) (gNm 1) (CI (Dc (Ct EH (Cn (Co 0) (Cn (Co 1) Cr))) (gNm 2)) (CI (Dc (Ct D9 (Cn (Co 2) (Cn (eC (.int 4)) (Cn (eC (.int 4)) (Cn (eC (.int 3)) Cr))))) (gNm 3)) (CI (Dc (Ct Ed (Cn (Co 2) (Cn (Co 3) (Cn (eC (.int 6)) Cr)))) (gNm 4)) (CI (HC (iRg (Cn (eC (.int 8)) Cr)) (gNm 5) (CI (Dc (Ct Er (Cn (Co 2) (Cn (Co 3) (Cn (Co 4) (Cn (eC (.int 8)) Cr))))) (gNm 6)) (CI (Dc (Ct (CN 14) (Cn (Co 2) (Cn (Co 3) (Cn (Co 4) (Cn (Co 6) (Cn (eC (.int 4)) Cr)))))) (gNm 7)) (CI (Dc (Ct CV (Cn (Co 3) (Cn (Co 4) (Cn (Co 7) Cr)))) (gNm 8)) (CI (sIf (tO (tNt (tV (HD "bool" (Co 8)))) (tV (Cs neD (Co 8) (Ct Ei (Cn (Co 3) (Cn (Co 4) (Cn (Co 7) Cr))))))) (sRt (eC (.bl false))) (sNx)) (sIf (tV (Cs JJ (Ct CV (Cn (Co 3) (Cn (Co 4) (Cn (Co 6) Cr)))) (eC (.bl true)))) (sRt (eC (.bl false))) (sNx))))))) (CI (Dc (GK (Cn (eC .non) (Cn (eC (.bl true)) (Cn (eC (.int 0)) (Cn (eC (.str "")) (Cn (GK Cr) (Cn MI (Cn (EB (Cn (EB Cr) Cr)) (Cn (EB (Cn (eC .non) Cr)) Cr))))))))) (gNm 9)) (CI (sIf (tNt (tV (Ct HK (Cn (eLC (Fv (Co 9)) 1 [3,4] (gNm 0) (tY) (Cs isD (Ct CV (Cn (Co 1) (Cn (Co 2) (Cn (Co 0) Cr)))) (eC (.bl false)))) Cr)))) (sRt (eC (.bl false))) (sNx)) (sIf (tV (Cs JJ (Ct CV (Cn (Co 3) (Cn (Co 4) (Cn (EB Cr) Cr)))) (eC (.bl true)))) (sRt (eC (.bl false))) (sNx))))))))) (sRt (eC (.bl true)))
noncomputable def K9:Fn:=fnB 10 Te
noncomputable def top (i:Nat):Stmt:=PySem.Challenge.pw_lookback_k09_changes_or_not.main.body.getD i (.Pass ⟨0,0,0,0⟩)
noncomputable abbrev Gj:Stmt:=top 3
noncomputable abbrev GC:Stmt:=top 4
noncomputable abbrev Fs:Stmt:=top 5
noncomputable abbrev G9:Stmt:=top 7
noncomputable abbrev E5:Stmt:=top 9
noncomputable abbrev HY:Stmt:=top 8
noncomputable abbrev FN:Stmt:=top 11
noncomputable abbrev D2:Stmt:=top 12
noncomputable abbrev Eu:Stmt:=top 16
noncomputable abbrev Hr:Stmt:=top 15
noncomputable abbrev ER:Stmt:=top 14
noncomputable abbrev GS:Stmt:=top 18
noncomputable abbrev GD:Stmt:=top 19
noncomputable abbrev GF:Stmt:=top 20
noncomputable abbrev Fu:Stmt:=top 21
noncomputable abbrev EX:Stmt:=top 22
noncomputable abbrev EC:Stmt:=top 23
noncomputable abbrev Eb:Stmt:=top 24
noncomputable abbrev Em:Stmt:=top 25
noncomputable abbrev DO:Stmt:=top 26
noncomputable abbrev Fi:Stmt:=top 27
noncomputable abbrev Hz:Stmt:=top 28
noncomputable abbrev FA:Stmt:=top 29
noncomputable abbrev Ju:Stmt:=top 30
structure Tx (K:PySem.W.Frag) (mg:Str->Option Value):Prop where
 b_all:mg "all"=none
 b_bool:mg "bool"=none
 b_int:mg "int"=none
 b_isinstance:mg "isinstance"=none
 b_len:mg "len"=none
 b_list:mg "list"=none
 b_max:mg "max"=none
 b_min:mg "min"=none
 b_range:mg "range"=none
 b_set:mg "set"=none
 b_sorted:mg "sorted"=none
 b_str:mg "str"=none
 b_tuple:mg "tuple"=none
 b_zip:mg "zip"=none
 g_LONGEST:∃ t,mg "LONGEST"=some (.int 8 t)
 g_SIGNS:∃ t,mg "SIGNS"=some (.str "abcdefghijklmnopqrstuvwxyz0123456789" t)
noncomputable def BO (P:Program)(w:World)(K:PySem.W.Frag)(mg:Str->Option Value)(base:Heap)(r:Nat)(x:Str)(st:Stmt)(f:Addr)(N:List Str)(m:Sx):Prop:=∀ (cdv:Value) (A:Around) (outer:List Env) (s:Shared) (H:Hp) (E:XK),Room r (A.deeper (envOfC x (Cv st) s.heap.objs.size f cdv))->SVB (KW CX0 P w K mg base N x (Cv st) f cdv A outer s H E).nox (EF st) m
section
variable {P:Program} {w:World} {K:PySem.W.Frag} {mg:Str->Option Value} {base:Heap}
theorem NM:CU ["thing"] ["thing"] (Cv Gj):=⟨rfl,rfl,rfl,by decide +kernel,rfl,by decide +kernel,by decide +kernel⟩
theorem NR {f:Addr}{fd:FuncData}(F:Fun K "is_word" "is_word" Gj f fd)(T:Tx K mg) :Ee P w K mg base CX0 1 f fd ["thing"] (spF ⟨K,P,w⟩ FJ 1):=by
 have b:BO P w K mg base 0 "is_word" Gj f ["thing"] Hw:=λcdv A outer s H E hr=>by
  exact Cu (DB (SVW.t (EG (DL (DM (FT "str" (Cm 0) T.b_isinstance T.b_str boot_str))) (EE (DL (P0 L6 L6 Cq (CM Dq T.b_len boot_len (Ck (Cm 0) Cp)) (Vh T.g_LONGEST)))))) (Cz (CF EO)) Dl) (Cz (CF (CM (E8 rfl) T.b_all boot_all (Ck (Fy ["sign"] [] (by exact GN (Cv Gj) rfl rfl ⟨rfl,by decide +kernel,by decide +kernel,by decide +kernel⟩ True.intro) (DN (Cm 0)) CL (λ_ _ _ _ _=>Cy 0 (show (["sign"]:List Str).Nodup by decide +kernel)) (λ_ _ _ _ _=>Ea) (λ_ _ _ _ _=>Ez (OB hr.units) (Cm 0) (UY T.g_SIGNS))) Cp))))
 have c:=DZ 1 1 F NM rfl rfl b
 exact c
theorem Nh:CU ["thing","least","most"] ["thing","least","most"] (Cv GC):=⟨rfl,rfl,rfl,by decide +kernel,rfl,by decide +kernel,by decide +kernel⟩
theorem MX {f:Addr}{fd:FuncData}(F:Fun K "is_tuple" "is_tuple" GC f fd)(T:Tx K mg) :Ee P w K mg base CX0 1 f fd ["thing","least","most"] (spF ⟨K,P,w⟩ EI 3):=by
 have b:BO P w K mg base 0 "is_tuple" GC f ["thing","least","most"] HI:=λcdv A outer s H E hr=>by
  exact Cz (CF (Jh (FT "tuple" (Cm 0) T.b_isinstance T.b_tuple B4) (Hi (R5 L6 L6 (Cm 1) (CM Dq T.b_len boot_len (Ck (Cm 0) Cp)) (Cm 2)))))
 have c:=DZ 3 3 F Nh rfl rfl b
 exact c
theorem L0:CU ["things"] ["things"] (Cv Fs):=⟨rfl,rfl,rfl,by decide +kernel,rfl,by decide +kernel,by decide +kernel⟩
theorem Mn {f:Addr}{fd:FuncData}(F:Fun K "is_rising" "is_rising" Fs f fd)(T:Tx K mg) :Ee P w K mg base CX0 1 f fd ["things"] (spF ⟨K,P,w⟩ Ej 1):=by
 have b:BO P w K mg base 0 "is_rising" Fs f ["things"] F7:=λcdv A outer s H E hr=>by
  exact Cz (CF (CM (E8 rfl) T.b_all boot_all (Ck (Fy ["one","other"] [] (by exact GN (Cv Fs) rfl rfl ⟨rfl,by decide +kernel,by decide +kernel,by decide +kernel⟩ True.intro) (IA T.b_zip (Ck (Cm 0) (Ck (CY (Cm 0) (C0 Cq) CZ) Cp))) (FQ (Ds CL (Ds CL Fc))) (λ_ _ _ _ _=>D8 rfl (CC (Cy 0 (show (["one","other"]:List Str).Nodup by decide +kernel)) (CC (Cy 1 (show (["one","other"]:List Str).Nodup by decide +kernel)) DJ))) (λ_ _ _ _ _=>Ea) (λ_ _ _ _ _=>Ez (S9 hr.units) (Cm 0) (Cm 1))) Cp)))
 have c:=DZ 1 1 F L0 rfl rfl b
 exact c
theorem QI:CU ["columns","thing"] ["columns","thing"] (Cv G9):=⟨rfl,rfl,rfl,by decide +kernel,rfl,by decide +kernel,by decide +kernel⟩
theorem QA {f:Addr}{fd:FuncData}(F:Fun K "is_row" "is_row" G9 f fd)(T:Tx K mg)(HR:Cal P w K mg base 1 "is_tuple" EI 3):Ee P w K mg base CX0 2 f fd ["columns","thing"] (spF ⟨K,P,w⟩ EY 2):=by
 have b:BO P w K mg base 1 "is_row" G9 f ["columns","thing"] Hh:=λcdv A outer s H E hr=>by
  have hr_is_tuple:Room 1 _:=hr.mono (by decide)
  exact Cu (DB (DL (DM (CA HR hr_is_tuple (Ck (Cm 1) (Ck (CM Dq T.b_len boot_len (Ck (Cm 0) Cp)) (Ck (CM Dq T.b_len boot_len (Ck (Cm 0) Cp)) Cp)))))) (Cz (CF EO)) Dl) (Cz (CF (CM (E8 rfl) T.b_all boot_all (Ck (Fy ["cell","column","values"] [] (by exact GN (Cv G9) rfl rfl ⟨rfl,by decide +kernel,by decide +kernel,by decide +kernel⟩ True.intro) (IA T.b_zip (Ck (Cm 1) (Ck (Cm 0) Cp))) (FQ (Ds CL (Ds (FQ (Ds CL (Ds CL Fc))) Fc))) (λ_ _ _ _ _=>D8 rfl (CC (Cy 0 (show (["cell","column","values"]:List Str).Nodup by decide +kernel)) (CC (D8 rfl (CC (Cy 1 (show (["cell","column","values"]:List Str).Nodup by decide +kernel)) (CC (Cy 2 (show (["cell","column","values"]:List Str).Nodup by decide +kernel)) DJ))) DJ))) (λ_ _ _ _ _=>Ea) (λ_ _ _ _ _=>Jh (FT "str" (Cm 0) T.b_isinstance T.b_str boot_str) (Hi (Ez (OB hr.units) (Cm 0) (Cm 2))))) Cp))))
 have c:=DZ 2 2 F QI rfl rfl b
 exact c
theorem G1:CU ["rows","keys","key","row"] ["rows","keys","key"] (Cv E5):=⟨rfl,rfl,rfl,by decide +kernel,rfl,by decide +kernel,by decide +kernel⟩
theorem JD {f:Addr}{fd:FuncData}(F:Fun K "row_with_key" "row_with_key" E5 f fd)(T:Tx K mg) :Ee P w K mg base CX0 1 f fd ["rows","keys","key"] (spF ⟨K,P,w⟩ DI 3):=by
 have b:BO P w K mg base 0 "row_with_key" E5 f ["rows","keys","key","row"] E1:=λcdv A outer s H E hr=>by
  exact Cu (E4 BM rfl (DN (Cm 0)) (Cy 3 G1.nd) (Cz (DB (Dd (E3 hr.units) (CY (Cm 3) CZ (C0 (Cm 1))) (Cm 2)) (Cz (CF (Cm 3))) Dl))) (Cz (CF Fm))
 have c:=DZ 4 3 F G1 rfl rfl b
 exact c
theorem Jj:CU ["schema","filling","name","key","table","rows"] ["schema","filling","name","key"] (Cv HY):=⟨rfl,rfl,rfl,by decide +kernel,rfl,by decide +kernel,by decide +kernel⟩
theorem P9 {f:Addr}{fd:FuncData}(F:Fun K "row_at" "row_at" HY f fd)(T:Tx K mg)(KD:Cal P w K mg base 1 "row_with_key" DI 3):Ee P w K mg base CX0 2 f fd ["schema","filling","name","key"] (spF ⟨K,P,w⟩ G5 4):=by
 have b:BO P w K mg base 1 "row_at" HY f ["schema","filling","name","key","table","rows"] KI:=λcdv A outer s H E hr=>by
  have hr_row_with_key:Room 1 _:=hr.mono (by decide)
  exact Cu (E4 BM rfl (IA T.b_zip (Ck (Cm 0) (Ck (Cm 1) Cp))) (D8 rfl (CC (Cy 4 Jj.nd) (CC (Cy 5 Jj.nd) DJ))) (Cz (DB (Dd (E3 hr.units) (CP (Dw hr.units) (Cm 4) Cq) (Cm 2)) (Cz (CF (CA KD hr_row_with_key (Ck (Cm 5) (Ck (CP (Dw hr.units) (Cm 4) Cq) (Ck (Cm 3) Cp)))))) Dl))) (Cz (CF Fm))
 have c:=DZ 6 4 F Jj rfl rfl b
 exact c
theorem Nu:CU ["schema","name"] ["schema","name"] (Cv FN):=⟨rfl,rfl,rfl,by decide +kernel,rfl,by decide +kernel,by decide +kernel⟩
theorem Na {f:Addr}{fd:FuncData}(F:Fun K "table_of" "table_of" FN f fd)(T:Tx K mg) :Ee P w K mg base CX0 1 f fd ["schema","name"] (spF ⟨K,P,w⟩ FP 2):=by
 have b:BO P w K mg base 0 "table_of" FN f ["schema","name"] HH:=λcdv A outer s H E hr=>by
  exact Cz (CF (CP (Dw hr.units) (Fy ["table"] [(1,"name")] (by exact GN (Cv FN) rfl rfl ⟨rfl,by decide +kernel,by decide +kernel,by decide +kernel⟩ ⟨⟨rfl,.inl rfl,.inl rfl⟩,True.intro⟩) (DN (Cm 0)) CL (λ_ _ _ _ _=>Cy 0 (show (["table","name"]:List Str).Nodup by decide +kernel)) (λ_ _ _ _ _=>JS (Dd (E3 hr.units) (CP (Dw hr.units) (Cm 0) Cq) (Cm 1))) (λ_ _ _ _ _=>Cm 0)) Cq))
 have c:=DZ 2 2 F Nu rfl rfl b
 exact c
theorem Im:CU ["schema","thing"] ["schema","thing"] (Cv D2):=⟨rfl,rfl,rfl,by decide +kernel,rfl,by decide +kernel,by decide +kernel⟩
theorem Iv {f:Addr}{fd:FuncData}(F:Fun K "table_if_named" "table_if_named" D2 f fd)(T:Tx K mg)(Qp:Cal P w K mg base 1 "is_word" FJ 1)(Of:Cal P w K mg base 1 "table_of" FP 2):Ee P w K mg base CX0 2 f fd ["schema","thing"] (spF ⟨K,P,w⟩ Dx 2):=by
 have b:BO P w K mg base 1 "table_if_named" D2 f ["schema","thing"] D3:=λcdv A outer s H E hr=>by
  have hr_is_word:Room 1 _:=hr.mono (by decide)
  have hr_table_of:Room 1 _:=hr.mono (by decide)
  exact Cu (DB (SVW.t (EG (DL (DM (CA Qp hr_is_word (Ck (Cm 1) Cp)))) (EE (Dd (UK hr.units) (Cm 1) (Fy ["table"] [] (by exact GN (Cv D2) rfl rfl ⟨rfl,by decide +kernel,by decide +kernel,by decide +kernel⟩ True.intro) (DN (Cm 0)) CL (λ_ _ _ _ _=>Cy 0 (show (["table"]:List Str).Nodup by decide +kernel)) (λ_ _ _ _ _=>Ea) (λ_ _ _ _ _=>CP (Dw hr.units) (Cm 0) Cq)))))) (Cz (CF Fm)) Dl) (Cz (CF (CA Of hr_table_of (Ck (Cm 0) (Ck (Cm 1) Cp)))))
 have c:=DZ 2 2 F Im rfl rfl b
 exact c
theorem Iy:CU ["table","key","thing"] ["table","key","thing"] (Cv Eu):=⟨rfl,rfl,rfl,by decide +kernel,rfl,by decide +kernel,by decide +kernel⟩
theorem Iw {f:Addr}{fd:FuncData}(F:Fun K "is_row_or_none" "is_row_or_none" Eu f fd)(T:Tx K mg)(KC:Cal P w K mg base 2 "is_row" EY 2):Ee P w K mg base CX0 3 f fd ["table","key","thing"] (spF ⟨K,P,w⟩ Dp 3):=by
 have b:BO P w K mg base 2 "is_row_or_none" Eu f ["table","key","thing"] D0:=λcdv A outer s H E hr=>by
  have hr_is_row:Room 2 _:=hr.mono (by decide)
  exact Cz (CF (VU (Ez LI (Cm 2) Fm) (Hi (Jh (CA KC hr_is_row (Ck (CP (Dw hr.units) (Cm 0) Cq) (Ck (Cm 2) Cp))) (Hi (Ez (E3 hr.units) (CY (Cm 2) CZ (C0 (CP (Dw hr.units) (Cm 0) Cq))) (Cm 1)))))))
 have c:=DZ 3 3 F Iy rfl rfl b
 exact c
theorem Fd:CU ["schema","filling","thing","table","name","key","before","after"] ["schema","filling","thing"] (Cv Hr):=⟨rfl,rfl,rfl,by decide +kernel,rfl,by decide +kernel,by decide +kernel⟩
theorem Oy {f:Addr}{fd:FuncData}(F:Fun K "is_part" "is_part" Hr f fd)(T:Tx K mg)(HR:Cal P w K mg base 1 "is_tuple" EI 3)(IP:Cal P w K mg base 2 "table_if_named" Dx 2)(KC:Cal P w K mg base 2 "is_row" EY 2)(Gw:Cal P w K mg base 3 "is_row_or_none" Dp 3)(Tc:Cal P w K mg base 2 "row_at" G5 4):Ee P w K mg base CX0 4 f fd ["schema","filling","thing"] (spF ⟨K,P,w⟩ DH 3):=by
 have b:BO P w K mg base 3 "is_part" Hr f ["schema","filling","thing","table","name","key","before","after"] Ew:=λcdv A outer s H E hr=>by
  have hr_is_tuple:Room 1 _:=hr.mono (by decide)
  have hr_table_if_named:Room 2 _:=hr.mono (by decide)
  have hr_is_row:Room 2 _:=hr.mono (by decide)
  have hr_is_row_or_none:Room 3 _:=hr.mono (by decide)
  have hr_row_at:Room 2 _:=hr.mono (by decide)
  exact Cu (CO 3 Fd.nd (Rk (DM (CA HR hr_is_tuple (Ck (Cm 2) (Ck Cq (Ck Cq Cp))))) (CA IP hr_table_if_named (Ck (Cm 0) (Ck (CP (Dw hr.units) (Cm 2) Cq) Cp))) Fm)) (Cu (DB (SVW.t (EG (Dd LI (Cm 3) Fm) (EE (DL (DM (CA KC hr_is_row (Ck (CY (CP (Dw hr.units) (Cm 3) Cq) CZ (C0 (CP (Dw hr.units) (Cm 3) Cq))) (Ck (CP (Dw hr.units) (Cm 2) Cq) Cp)))))))) (Cz (CF EO)) Dl) (Cu (Fo (Cm 2) (D8 rfl (CC (Cy 4 Fd.nd) (CC (Cy 5 Fd.nd) (CC (Cy 6 Fd.nd) (CC (Cy 7 Fd.nd) DJ)))))) (Cu (DB (SVW.t (EG (DL (DM (CA Gw hr_is_row_or_none (Ck (Cm 3) (Ck (Cm 5) (Ck (Cm 6) Cp)))))) (EE (DL (DM (CA Gw hr_is_row_or_none (Ck (Cm 3) (Ck (Cm 5) (Ck (Cm 7) Cp))))))))) (Cz (CF EO)) Dl) (Cz (CF (Jh (Ez (E3 hr.units) (Cm 6) (CA Tc hr_row_at (Ck (Cm 0) (Ck (Cm 1) (Ck (Cm 4) (Ck (Cm 5) Cp)))))) (Hi (Ez (Jd hr.units) (Cm 7) (Cm 6)))))))))
 have c:=DZ 8 3 F Fd rfl rfl b
 exact c
theorem Mu:CU ["schema","filling","thing"] ["schema","filling","thing"] (Cv ER):=⟨rfl,rfl,rfl,by decide +kernel,rfl,by decide +kernel,by decide +kernel⟩
theorem MA {f:Addr}{fd:FuncData}(F:Fun K "is_change" "is_change" ER f fd)(T:Tx K mg)(QK:Cal P w K mg base 4 "is_part" DH 3)(MJ:Cal P w K mg base 1 "is_rising" Ej 1):Ee P w K mg base CX0 5 f fd ["schema","filling","thing"] (spF ⟨K,P,w⟩ CV 3):=by
 have b:BO P w K mg base 4 "is_change" ER f ["schema","filling","thing"] Ft:=λcdv A outer s H E hr=>by
  have hr_is_part:Room 4 _:=hr.mono (by decide)
  have hr_is_rising:Room 1 _:=hr.mono (by decide)
  exact Cu (DB (SVW.t (EG (DL (DM (FT "tuple" (Cm 2) T.b_isinstance T.b_tuple B4))) (EE (DL (DM (CM (E8 rfl) T.b_all boot_all (Ck (Fy ["part"] [(0,"schema"),(1,"filling")] (by exact GN (Cv ER) rfl rfl ⟨rfl,by decide +kernel,by decide +kernel,by decide +kernel⟩ ⟨⟨rfl,.inl rfl,.inl rfl⟩,⟨rfl,.inl rfl,.inl rfl⟩,True.intro⟩) (DN (Cm 2)) CL (λ_ _ _ _ _=>Cy 0 (show (["part","schema","filling"]:List Str).Nodup by decide +kernel)) (λ_ _ _ _ _=>Ea) (λ_ _ _ _ _=>CA QK hr_is_part (Ck (Cm 1) (Ck (Cm 2) (Ck (Cm 0) Cp))))) Cp))))))) (Cz (CF EO)) Dl) (Cz (CF (CA MJ hr_is_rising (Ck (Fy ["part"] [] (by exact GN (Cv ER) rfl rfl ⟨rfl,by decide +kernel,by decide +kernel,by decide +kernel⟩ True.intro) (DN (Cm 2)) CL (λ_ _ _ _ _=>Cy 0 (show (["part"]:List Str).Nodup by decide +kernel)) (λ_ _ _ _ _=>Ea) (λ_ _ _ _ _=>CY (Cm 0) CZ (C0 Cq))) Cp))))
 have c:=DZ 3 3 F Mu rfl rfl b
 exact c
theorem Hj:CU ["_law_script","_law_k","_law_cell"] ["_law_script","_law_k"] (Cv GS):=⟨rfl,rfl,rfl,by decide +kernel,rfl,by decide +kernel,by decide +kernel⟩
theorem NH {f:Addr}{fd:FuncData}(F:Fun K "_law_hand" "_law_hand" GS f fd)(T:Tx K mg) :Ee P w K mg base CX0 1 f fd ["_law_script","_law_k"] (spF ⟨K,P,w⟩ EH 2):=by
 have b:BO P w K mg base 0 "_law_hand" GS f ["_law_script","_law_k","_law_cell"] GO:=λcdv A outer s H E hr=>by
  exact Cu (CO 2 Hj.nd Cq) (Cu (DB (Dd (S9 hr.units) (Cm 1) (CM Dq T.b_len boot_len (Ck (Cm 0) Cp))) (Cz (CO 2 Hj.nd (CP (Dw hr.units) (Cm 0) (Cm 1)))) Dl) (Cz (CF (Ih (Ck (CD Fp (Cm 2) (DG QD T.b_int boot_int (Ck (Ez WC (Cm 2) (CD Ub Cq Cq)) Cp))) (Ck (CD CQ (CD CQ (CD Fz (Cm 2) Cq) (CD Fp Cq (Cm 1))) Cq) (Ck Cq Cp)))))))
 have c:=DZ 3 2 F Hj rfl rfl b
 exact c
theorem ET:CU ["_law_hand_here","_law_many","_law_digit","_law_turn","_law_mixed","_law_other"] ["_law_hand_here","_law_many"] (Cv GD):=⟨rfl,rfl,rfl,by decide +kernel,rfl,by decide +kernel,by decide +kernel⟩
theorem Nz {f:Addr}{fd:FuncData}(F:Fun K "_law_take" "_law_take" GD f fd)(T:Tx K mg) :Ee P w K mg base CX0 1 f fd ["_law_hand_here","_law_many"] (spF ⟨K,P,w⟩ Cw 2):=by
 have b:BO P w K mg base 0 "_law_take" GD f ["_law_hand_here","_law_many","_law_digit","_law_turn","_law_mixed","_law_other"] GQ:=λcdv A outer s H E hr=>by
  exact Cu (DB (Dd Xh (CP (Dw hr.units) (Cm 0) Cq) Cq) (Cu (CO 2 ET.nd (CD Fz (CP (Dw hr.units) (Cm 0) Cq) (Cm 1))) (Cu (Fo (CD KP (CP (Dw hr.units) (Cm 0) Cq) (Cm 1)) (L9 hr.units (Cm 0) Cq)) (Cz (CF (Cm 2))))) Dl) (Cu (Fo (CD CQ (CP (Dw hr.units) (Cm 0) Cq) Cq) (L9 hr.units (Cm 0) Cq)) (Cu (CO 3 ET.nd (CP (Dw hr.units) (Cm 0) Cq)) (Cu (CO 4 ET.nd (CD Fz (CD Fp (CP (Dw hr.units) (Cm 0) Cq) (CD CQ (CD CQ Cq (CD Fp (CD Fp Cq (Cm 3)) (Cm 3))) (CD Fp Cq (Cm 3)))) Cq)) (Cu (CO 5 ET.nd (CD CQ (CD CQ (CD Fz (Cm 4) Cq) (CD Fp (Cm 3) Cq)) Cq)) (Cu (CO 4 ET.nd (CD Fz (CD Fp (Cm 4) (Cm 5)) Cq)) (Cz (CF (CD Fz (CD CQ (CD KP (Cm 4) Cq) (CD KP (Cm 4) Cq)) (Cm 1)))))))))
 have c:=DZ 6 2 F ET rfl rfl b
 exact c
theorem NA:CU ["_law_hand_here","_law_some"] ["_law_hand_here","_law_some"] (Cv GF):=⟨rfl,rfl,rfl,by decide +kernel,rfl,by decide +kernel,by decide +kernel⟩
theorem Ny {f:Addr}{fd:FuncData}(F:Fun K "_law_pick" "_law_pick" GF f fd)(T:Tx K mg)(CG:Cal P w K mg base 1 "_law_take" Cw 2):Ee P w K mg base CX0 2 f fd ["_law_hand_here","_law_some"] (spF ⟨K,P,w⟩ CT 2):=by
 have b:BO P w K mg base 1 "_law_pick" GF f ["_law_hand_here","_law_some"] GB:=λcdv A outer s H E hr=>by
  have hr_law_take:Room 1 _:=hr.mono (by decide)
  exact Cz (CF (CP (Dw hr.units) (Cm 1) (CA CG hr_law_take (Ck (Cm 0) (Ck (CM Dq T.b_len boot_len (Ck (Cm 1) Cp)) Cp)))))
 have c:=DZ 2 2 F NA rfl rfl b
 exact c
theorem Es:CU ["_law_hand_here","_law_many","_law_most","_law_signs","_law_first","_law_step","_law_stem","_law_at"] ["_law_hand_here","_law_many","_law_most"] (Cv Fu):=⟨rfl,rfl,rfl,by decide +kernel,rfl,by decide +kernel,by decide +kernel⟩
theorem Mj {f:Addr}{fd:FuncData}(F:Fun K "_law_words" "_law_words" Fu f fd)(T:Tx K mg)(CG:Cal P w K mg base 1 "_law_take" Cw 2)(D7:Cal P w K mg base 2 "_law_pick" CT 2):Ee P w K mg base CX0 3 f fd ["_law_hand_here","_law_many","_law_most"] (spF ⟨K,P,w⟩ En 3):=by
 have b:BO P w K mg base 2 "_law_words" Fu f ["_law_hand_here","_law_many","_law_most","_law_signs","_law_first","_law_step","_law_stem","_law_at"] He:=λcdv A outer s H E hr=>by
  have hr_law_take:Room 1 _:=hr.mono (by decide)
  have hr_law_pick:Room 2 _:=hr.mono (by decide)
  exact Cu (CO 3 Es.nd J0) (Cu (Fo (El (Ck (CA CG hr_law_take (Ck (Cm 0) (Ck Cq Cp))) (Ck (CA D7 hr_law_pick (Ck (Cm 0) (Ck (Fg (Ck Cq (Ck Cq (Ck Cq (Ck Cq (Ck Cq (Ck Cq Cp))))))) Cp))) Cp))) (D8 rfl (CC (Cy 4 Es.nd) (CC (Cy 5 Es.nd) DJ)))) (Cu (CO 6 Es.nd (CD Fp (CP (Dw hr.units) (Cm 3) (CA CG hr_law_take (Ck (Cm 0) (Ck Cq Cp)))) (CM (Lx rfl) T.b_min boot_min (Ck (CD O6 (Cm 2) Cq) (Ck (CA D7 hr_law_pick (Ck (Cm 0) (Ck (Fg (Ck Cq (Ck Cq (Ck Cq (Ck Cq (Ck Cq Cp)))))) Cp))) Cp))))) (Cu (CO 7 Es.nd (CA CG hr_law_take (Ck (Cm 0) (Ck (CD CQ (CM Dq T.b_len boot_len (Ck (Cm 6) Cp)) Cq) Cp)))) (Cz (CF (Fy ["_law_k"] [(6,"_law_stem"),(7,"_law_at"),(3,"_law_signs"),(4,"_law_first"),(5,"_law_step")] (by exact GN (Cv Fu) rfl rfl ⟨rfl,by decide +kernel,by decide +kernel,by decide +kernel⟩ ⟨⟨rfl,.inl rfl,.inl rfl⟩,⟨rfl,.inl rfl,.inl rfl⟩,⟨rfl,.inl rfl,.inl rfl⟩,⟨rfl,.inl rfl,.inl rfl⟩,⟨rfl,.inl rfl,.inl rfl⟩,True.intro⟩) (EK T.b_range (Ck (Cm 1) Cp)) CL (λ_ _ _ _ _=>Cy 0 (show (["_law_k","_law_stem","_law_at","_law_signs","_law_first","_law_step"]:List Str).Nodup by decide +kernel)) (λ_ _ _ _ _=>Ea) (λ_ _ _ _ _=>CD CQ (CD CQ (CY (Cm 1) CZ (C0 (Cm 2))) (CP (Dw hr.units) (Cm 3) (CD Fz (CD CQ (Cm 4) (CD Fp (Cm 5) (Cm 0))) Cq))) (CY (Cm 1) (C0 (Cm 2)) CZ))))))))
 have c:=DZ 8 3 F Es rfl rfl b
 exact c
theorem Di:CU ["_law_hand_here","_law_tables","_law_columns","_law_values","_law_names","_law_words_here","_law_stock","_law_found","_law_name","_law_many","_law_shift","_law_row","_law_k","_law_some","_law_turn","_law_mine"] ["_law_hand_here","_law_tables","_law_columns","_law_values"] (Cv EX):=⟨rfl,rfl,rfl,by decide +kernel,rfl,by decide +kernel,by decide +kernel⟩
theorem KQ {f:Addr}{fd:FuncData}(F:Fun K "_law_schema" "_law_schema" EX f fd)(T:Tx K mg)(G6:Cal P w K mg base 3 "_law_words" En 3)(CG:Cal P w K mg base 1 "_law_take" Cw 2):Ee P w K mg base CX0 4 f fd ["_law_hand_here","_law_tables","_law_columns","_law_values"] (spF ⟨K,P,w⟩ D9 4):=by
 have b:BO P w K mg base 3 "_law_schema" EX f ["_law_hand_here","_law_tables","_law_columns","_law_values","_law_names","_law_words_here","_law_stock","_law_found","_law_name","_law_many","_law_shift","_law_row","_law_k","_law_some","_law_turn","_law_mine"] GR:=λcdv A outer s H E hr=>by
  have hr_law_words:Room 3 _:=hr.mono (by decide)
  have hr_law_take:Room 1 _:=hr.mono (by decide)
  exact Cu (CO 4 Di.nd (CM (IU hr.units rfl) T.b_sorted boot_sorted (Ck (CA G6 hr_law_words (Ck (Cm 0) (Ck (CD CQ Cq (CA CG hr_law_take (Ck (Cm 0) (Ck (Cm 1) Cp)))) (Ck Cq Cp)))) Cp))) (Cu (Fo (El (Ck (CA G6 hr_law_words (Ck (Cm 0) (Ck (CD CQ (Cm 2) Cq) (Ck Cq Cp)))) (Ck (CA G6 hr_law_words (Ck (Cm 0) (Ck (CD CQ (Cm 3) Cq) (Ck Cq Cp)))) Cp))) (D8 rfl (CC (Cy 5 Di.nd) (CC (Cy 6 Di.nd) DJ)))) (Cu (CO 7 Di.nd (Ih Cp)) (Cu (E4 BM rfl (DN (Cm 4)) (Cy 8 Di.nd) (Cu (Sk 9 10 11 rfl Di.nd (Ck (CD CQ Cq (CA CG hr_law_take (Ck (Cm 0) (Ck (Cm 2) Cp)))) (Ck (CA CG hr_law_take (Ck (Cm 0) (Ck Cq Cp))) (Ck (Ih Cp) Cp))) (by rfl)) (Cu (E4 BM rfl (EK T.b_range (Ck (Cm 9) Cp)) (Cy 12 Di.nd) (Cu (Fo (El (Ck (CD CQ Cq (CA CG hr_law_take (Ck (Cm 0) (Ck (Cm 3) Cp)))) (Ck (CA CG hr_law_take (Ck (Cm 0) (Ck Cq Cp))) Cp))) (D8 rfl (CC (Cy 13 Di.nd) (CC (Cy 14 Di.nd) DJ)))) (Cu (CO 15 Di.nd (DG ES T.b_tuple B4 (Ck (Fy ["_law_j"] [(6,"_law_stock"),(14,"_law_turn")] (by exact GN (Cv EX) rfl rfl ⟨rfl,by decide +kernel,by decide +kernel,by decide +kernel⟩ ⟨⟨rfl,.inl rfl,.inl rfl⟩,⟨rfl,.inl rfl,.inl rfl⟩,True.intro⟩) (EK T.b_range (Ck (Cm 13) Cp)) CL (λ_ _ _ _ _=>Cy 0 (show (["_law_j","_law_stock","_law_turn"]:List Str).Nodup by decide +kernel)) (λ_ _ _ _ _=>Ea) (λ_ _ _ _ _=>CP (Dw hr.units) (Cm 1) (CD Fz (CD CQ (Cm 0) (Cm 2)) (CM Dq T.b_len boot_len (Ck (Cm 1) Cp))))) Cp))) (Cz (G8 (Hx (Cm 11) (Ck (El (Ck (CP (Dw hr.units) (Cm 5) (CD Fz (CD CQ (Cm 12) (Cm 10)) (CM Dq T.b_len boot_len (Ck (Cm 5) Cp)))) (Ck (Cm 15) Cp))) Cp))))))) (Cz (G8 (Hx (Cm 7) (Ck (El (Ck (Cm 8) (Ck (DG ES T.b_tuple B4 (Ck (Cm 11) Cp)) (Ck (CD CQ Cq (CA CG hr_law_take (Ck (Cm 0) (Ck (Cm 9) Cp)))) Cp)))) Cp))))))) (Cz (CF (DG ES T.b_tuple B4 (Ck (Cm 7) Cp)))))))
 have c:=My 16 4 F Di rfl rfl b
 exact c
theorem Dz:CU ["_law_hand_here","_law_schema_here","_law_most","_law_found","_law_name","_law_columns","_law_keys","_law_rows","_law_k","_law_row"] ["_law_hand_here","_law_schema_here","_law_most"] (Cv EC):=⟨rfl,rfl,rfl,by decide +kernel,rfl,by decide +kernel,by decide +kernel⟩
theorem Ks {f:Addr}{fd:FuncData}(F:Fun K "_law_filling" "_law_filling" EC f fd)(T:Tx K mg)(CG:Cal P w K mg base 1 "_law_take" Cw 2)(D7:Cal P w K mg base 2 "_law_pick" CT 2):Ee P w K mg base CX0 3 f fd ["_law_hand_here","_law_schema_here","_law_most"] (spF ⟨K,P,w⟩ Ed 3):=by
 have b:BO P w K mg base 2 "_law_filling" EC f ["_law_hand_here","_law_schema_here","_law_most","_law_found","_law_name","_law_columns","_law_keys","_law_rows","_law_k","_law_row"] Gh:=λcdv A outer s H E hr=>by
  have hr_law_take:Room 1 _:=hr.mono (by decide)
  have hr_law_pick:Room 2 _:=hr.mono (by decide)
  exact Cu (CO 3 Dz.nd (Ih Cp)) (Cu (E4 BM rfl (DN (Cm 1)) (D8 rfl (CC (Cy 4 Dz.nd) (CC (Cy 5 Dz.nd) (CC (Cy 6 Dz.nd) DJ)))) (Cu (CO 7 Dz.nd Pb) (Cu (E4 BM rfl (EK T.b_range (Ck (CA CG hr_law_take (Ck (Cm 0) (Ck (CD CQ (Cm 2) Cq) Cp))) Cp)) (Cy 8 Dz.nd) (Cu (CO 9 Dz.nd (DG ES T.b_tuple B4 (Ck (Fy ["_law_column","_law_values"] [(0,"_law_hand_here")] (by exact GN (Cv EC) rfl rfl ⟨rfl,by decide +kernel,by decide +kernel,by decide +kernel⟩ ⟨⟨rfl,.inl rfl,.inl rfl⟩,True.intro⟩) (DN (Cm 5)) (FQ (Ds CL (Ds CL Fc))) (λ_ _ _ _ _=>D8 rfl (CC (Cy 0 (show (["_law_column","_law_values","_law_hand_here"]:List Str).Nodup by decide +kernel)) (CC (Cy 1 (show (["_law_column","_law_values","_law_hand_here"]:List Str).Nodup by decide +kernel)) DJ))) (λ_ _ _ _ _=>Ea) (λ_ _ _ _ _=>CA D7 hr_law_pick (Ck (Cm 2) (Ck (Cm 1) Cp)))) Cp))) (Cz (Fo (Cm 9) (L9 hr.units (Cm 7) (CY (Cm 9) CZ (C0 (Cm 6)))))))) (Cz (G8 (Hx (Cm 3) (Ck (DG ES T.b_tuple B4 (Ck (UC hr.units rfl T.b_sorted (Cm 7)) Cp)) Cp))))))) (Cz (CF (DG ES T.b_tuple B4 (Ck (Cm 3) Cp)))))
 have c:=My 10 3 F Dz rfl rfl b
 exact c
theorem Dj:CU ["_law_hand_here","_law_schema_here","_law_filling_here","_law_most","_law_found","_law_k","_law_place","_law_name","_law_columns","_law_keys","_law_row","_law_before","_law_after"] ["_law_hand_here","_law_schema_here","_law_filling_here","_law_most"] (Cv Eb):=⟨rfl,rfl,rfl,by decide +kernel,rfl,by decide +kernel,by decide +kernel⟩
theorem K4 {f:Addr}{fd:FuncData}(F:Fun K "_law_change" "_law_change" Eb f fd)(T:Tx K mg)(CG:Cal P w K mg base 1 "_law_take" Cw 2)(D7:Cal P w K mg base 2 "_law_pick" CT 2):Ee P w K mg base CX0 3 f fd ["_law_hand_here","_law_schema_here","_law_filling_here","_law_most"] (spF ⟨K,P,w⟩ Er 4):=by
 have b:BO P w K mg base 2 "_law_change" Eb f ["_law_hand_here","_law_schema_here","_law_filling_here","_law_most","_law_found","_law_k","_law_place","_law_name","_law_columns","_law_keys","_law_row","_law_before","_law_after"] GU:=λcdv A outer s H E hr=>by
  have hr_law_take:Room 1 _:=hr.mono (by decide)
  have hr_law_pick:Room 2 _:=hr.mono (by decide)
  exact Cu (CO 4 Dj.nd Pb) (Cu (E4 BM rfl (EK T.b_range (Ck (CA CG hr_law_take (Ck (Cm 0) (Ck (CD CQ (Cm 3) Cq) Cp))) Cp)) (Cy 5 Dj.nd) (Cu (CO 6 Dj.nd (CA CG hr_law_take (Ck (Cm 0) (Ck (CM Dq T.b_len boot_len (Ck (Cm 1) Cp)) Cp)))) (Cu (Fo (CP (Dw hr.units) (Cm 1) (Cm 6)) (D8 rfl (CC (Cy 7 Dj.nd) (CC (Cy 8 Dj.nd) (CC (Cy 9 Dj.nd) DJ))))) (Cu (CO 10 Dj.nd (DG ES T.b_tuple B4 (Ck (Fy ["_law_column","_law_values"] [(0,"_law_hand_here")] (by exact GN (Cv Eb) rfl rfl ⟨rfl,by decide +kernel,by decide +kernel,by decide +kernel⟩ ⟨⟨rfl,.inl rfl,.inl rfl⟩,True.intro⟩) (DN (Cm 8)) (FQ (Ds CL (Ds CL Fc))) (λ_ _ _ _ _=>D8 rfl (CC (Cy 0 (show (["_law_column","_law_values","_law_hand_here"]:List Str).Nodup by decide +kernel)) (CC (Cy 1 (show (["_law_column","_law_values","_law_hand_here"]:List Str).Nodup by decide +kernel)) DJ))) (λ_ _ _ _ _=>Ea) (λ_ _ _ _ _=>CA D7 hr_law_pick (Ck (Cm 2) (Ck (Cm 1) Cp)))) Cp))) (Cu (DB (SVW.t (O3 (Dd (Jd hr.units) (CP (Dw hr.units) (Cm 2) (Cm 6)) (El Cp)) (MK (Dd (E3 hr.units) (CA CG hr_law_take (Ck (Cm 0) (Ck Cq Cp))) Cq)))) (Cz (CO 10 Dj.nd (CD CQ (CY (CA D7 hr_law_pick (Ck (Cm 0) (Ck (CP (Dw hr.units) (Cm 2) (Cm 6)) Cp))) CZ (C0 (Cm 9))) (CY (Cm 10) (C0 (Cm 9)) CZ)))) Dl) (Cu (CO 11 Dj.nd (CP (Dw hr.units) (CD CQ (Fy ["_law_one"] [(9,"_law_keys"),(10,"_law_row")] (by exact GN (Cv Eb) rfl rfl ⟨rfl,by decide +kernel,by decide +kernel,by decide +kernel⟩ ⟨⟨rfl,.inl rfl,.inl rfl⟩,⟨rfl,.inl rfl,.inl rfl⟩,True.intro⟩) (DN (CP (Dw hr.units) (Cm 2) (Cm 6))) CL (λ_ _ _ _ _=>Cy 0 (show (["_law_one","_law_keys","_law_row"]:List Str).Nodup by decide +kernel)) (λ_ _ _ _ _=>JS (Dd (E3 hr.units) (CY (Cm 0) CZ (C0 (Cm 1))) (CY (Cm 2) CZ (C0 (Cm 1))))) (λ_ _ _ _ _=>Cm 0)) (Fg (Ck Fm Cp))) Cq)) (Cu (CO 12 Dj.nd (CP (Dw hr.units) (Fg (Ck (Cm 10) (Ck (Cm 10) (Ck Fm Cp)))) (CA CG hr_law_take (Ck (Cm 0) (Ck Cq Cp))))) (Cz (DB (Dd (Jd hr.units) (Cm 12) (Cm 11)) (Cz (Fo (El (Ck (Cm 7) (Ck (CY (Cm 10) CZ (C0 (Cm 9))) (Ck (Cm 11) (Ck (Cm 12) Cp))))) (L9 hr.units (Cm 4) (El (Ck (Cm 7) (Ck (CY (Cm 10) CZ (C0 (Cm 9))) Cp)))))) Dl))))))))) (Cz (CF (DG ES T.b_tuple B4 (Ck (Fy ["_law_one"] [(4,"_law_found")] (by exact GN (Cv Eb) rfl rfl ⟨rfl,by decide +kernel,by decide +kernel,by decide +kernel⟩ ⟨⟨rfl,.inl rfl,.inl rfl⟩,True.intro⟩) (DN (CM (IU hr.units rfl) T.b_sorted boot_sorted (Ck (Cm 4) Cp))) CL (λ_ _ _ _ _=>Cy 0 (show (["_law_one","_law_found"]:List Str).Nodup by decide +kernel)) (λ_ _ _ _ _=>Ea) (λ_ _ _ _ _=>CP (Dw hr.units) (Cm 1) (Cm 0))) Cp)))))
 have c:=My 13 4 F Dj rfl rfl b
 exact c
theorem JH:CU ["_law_table","_law_thing"] ["_law_table","_law_thing"] (Cv Em):=⟨rfl,rfl,rfl,by decide +kernel,rfl,by decide +kernel,by decide +kernel⟩
theorem JF {f:Addr}{fd:FuncData}(F:Fun K "_law_row_fits" "_law_row_fits" Em f fd)(T:Tx K mg) :Ee P w K mg base CX0 1 f fd ["_law_table","_law_thing"] (spF ⟨K,P,w⟩ DA 2):=by
 have b:BO P w K mg base 0 "_law_row_fits" Em f ["_law_table","_law_thing"] Eh:=λcdv A outer s H E hr=>by
  exact Cu (DB (SVW.t (EG (DL (DM (FT "tuple" (Cm 1) T.b_isinstance T.b_tuple B4))) (EE (Dd (Jd hr.units) (CM Dq T.b_len boot_len (Ck (Cm 1) Cp)) (CM Dq T.b_len boot_len (Ck (CP (Dw hr.units) (Cm 0) Cq) Cp)))))) (Cz (CF EO)) Dl) (Cz (CF (CM (E8 rfl) T.b_all boot_all (Ck (Fy ["_law_one","_law_column","_law_values"] [] (by exact GN (Cv Em) rfl rfl ⟨rfl,by decide +kernel,by decide +kernel,by decide +kernel⟩ True.intro) (IA T.b_zip (Ck (Cm 1) (Ck (CP (Dw hr.units) (Cm 0) Cq) Cp))) (FQ (Ds CL (Ds (FQ (Ds CL (Ds CL Fc))) Fc))) (λ_ _ _ _ _=>D8 rfl (CC (Cy 0 (show (["_law_one","_law_column","_law_values"]:List Str).Nodup by decide +kernel)) (CC (D8 rfl (CC (Cy 1 (show (["_law_one","_law_column","_law_values"]:List Str).Nodup by decide +kernel)) (CC (Cy 2 (show (["_law_one","_law_column","_law_values"]:List Str).Nodup by decide +kernel)) DJ))) DJ))) (λ_ _ _ _ _=>Ea) (λ_ _ _ _ _=>Jh (FT "str" (Cm 0) T.b_isinstance T.b_str boot_str) (Hi (Ez (OB hr.units) (Cm 0) (Cm 2))))) Cp))))
 have c:=DZ 2 2 F JH rfl rfl b
 exact c
theorem DF:CU ["_law_schema_here","_law_filling_here","_law_thing","_law_found","_law_table","_law_rows","_law_row","_law_here"] ["_law_schema_here","_law_filling_here","_law_thing"] (Cv DO):=⟨rfl,rfl,rfl,by decide +kernel,rfl,by decide +kernel,by decide +kernel⟩
theorem IJ {f:Addr}{fd:FuncData}(F:Fun K "_law_part_fits" "_law_part_fits" DO f fd)(T:Tx K mg)(KO:Cal P w K mg base 1 "_law_row_fits" DA 2):Ee P w K mg base CX0 2 f fd ["_law_schema_here","_law_filling_here","_law_thing"] (spF ⟨K,P,w⟩ CK 3):=by
 have b:BO P w K mg base 1 "_law_part_fits" DO f ["_law_schema_here","_law_filling_here","_law_thing","_law_found","_law_table","_law_rows","_law_row","_law_here"] De:=λcdv A outer s H E hr=>by
  have hr_law_row_fits:Room 1 _:=hr.mono (by decide)
  exact Cu (DB (SVW.t (EG (DL (DM (FT "tuple" (Cm 2) T.b_isinstance T.b_tuple B4))) (EG (Dd (S3 hr.units) (CM Dq T.b_len boot_len (Ck (Cm 2) Cp)) Cq) (EE (DL (DM (FT "tuple" (CP (Dw hr.units) (Cm 2) Cq) T.b_isinstance T.b_tuple B4))))))) (Cz (CF EO)) Dl) (Cu (IS 3 ["_law_k"] [(0,"_law_schema_here"),(2,"_law_thing")] (by exact GN (Cv DO) rfl rfl ⟨rfl,by decide +kernel,by decide +kernel,by decide +kernel⟩ ⟨⟨rfl,.inl rfl,.inl rfl⟩,⟨rfl,.inl rfl,.inl rfl⟩,True.intro⟩) (EK T.b_range (Ck (CM Dq T.b_len boot_len (Ck (Cm 0) Cp)) Cp)) CL (λ_ _ _ _ _=>Cy 0 (show (["_law_k","_law_schema_here","_law_thing"]:List Str).Nodup by decide +kernel)) (λ_ _ _ _ _=>JS (Dd (Ha hr.units) (CP (Dw hr.units) (CP (Dw hr.units) (Cm 1) (Cm 0)) Cq) (CP (Dw hr.units) (Cm 2) Cq))) (λ_ _ _ _ _=>Cm 0) DF.nd) (Cu (DB (SVW.t (EG (Dd (Ha hr.units) (Cm 3) (Fg Cp)) (EE (Dd (Ha hr.units) (CP (Dw hr.units) (Cm 2) Cq) (CP (Dw hr.units) (Cm 2) Cq))))) (Cz (CF EO)) Dl) (Cu (Fo (El (Ck (CP (Dw hr.units) (Cm 0) (CP (Dw hr.units) (Cm 3) Cq)) (Ck (CP (Dw hr.units) (Cm 1) (CP (Dw hr.units) (Cm 3) Cq)) Cp))) (D8 rfl (CC (Cy 4 DF.nd) (CC (Cy 5 DF.nd) DJ)))) (Cu (E4 BM rfl (DN (CY (Cm 2) (C0 Cq) CZ)) (Cy 6 DF.nd) (Cz (DB (SVW.t (O3 (Dd LZ (Cm 6) Fm) (MK (SVW.t (EG (DL (DM (CA KO hr_law_row_fits (Ck (Cm 4) (Ck (Cm 6) Cp))))) (EE (Dd (S3 hr.units) (CY (Cm 6) CZ (C0 (CP (Dw hr.units) (Cm 4) Cq))) (CP (Dw hr.units) (Cm 2) Cq)))))))) (Cz (CF EO)) Dl))) (Cu (IS 7 ["_law_row"] [(4,"_law_table"),(2,"_law_thing")] (by exact GN (Cv DO) rfl rfl ⟨rfl,by decide +kernel,by decide +kernel,by decide +kernel⟩ ⟨⟨rfl,.inl rfl,.inl rfl⟩,⟨rfl,.inl rfl,.inl rfl⟩,True.intro⟩) (DN (Cm 5)) CL (λ_ _ _ _ _=>Cy 0 (show (["_law_row","_law_table","_law_thing"]:List Str).Nodup by decide +kernel)) (λ_ _ _ _ _=>JS (Dd (Ha hr.units) (CY (Cm 0) CZ (C0 (CP (Dw hr.units) (Cm 1) Cq))) (CP (Dw hr.units) (Cm 2) Cq))) (λ_ _ _ _ _=>Cm 0) DF.nd) (Cz (CF (Jh (Ez (Ha hr.units) (Ez LI (CP (Dw hr.units) (Cm 2) Cq) Fm) (Ez (Ha hr.units) (Cm 7) (Fg Cp))) (Hi (VU (Ez (Ha hr.units) (Cm 7) (Fg Cp)) (Hi (Ez (Ha hr.units) (CP (Dw hr.units) (Cm 2) Cq) (CP (Dw hr.units) (Cm 7) Cq)))))))))))))
 have c:=DZ 8 3 F DF rfl rfl b
 exact c
theorem Jr:CU ["_law_schema_here","_law_filling_here","_law_thing","_law_spots"] ["_law_schema_here","_law_filling_here","_law_thing"] (Cv Fi):=⟨rfl,rfl,rfl,by decide +kernel,rfl,by decide +kernel,by decide +kernel⟩
theorem M4 {f:Addr}{fd:FuncData}(F:Fun K "_law_fits" "_law_fits" Fi f fd)(T:Tx K mg)(JB:Cal P w K mg base 2 "_law_part_fits" CK 3):Ee P w K mg base CX0 3 f fd ["_law_schema_here","_law_filling_here","_law_thing"] (spF ⟨K,P,w⟩ Ei 3):=by
 have b:BO P w K mg base 2 "_law_fits" Fi f ["_law_schema_here","_law_filling_here","_law_thing","_law_spots"] FR:=λcdv A outer s H E hr=>by
  have hr_law_part_fits:Room 2 _:=hr.mono (by decide)
  exact Cu (DB (SVW.t (EG (DL (DM (FT "tuple" (Cm 2) T.b_isinstance T.b_tuple B4))) (EE (DL (DM (CM (E8 rfl) T.b_all boot_all (Ck (Fy ["_law_part"] [(0,"_law_schema_here"),(1,"_law_filling_here")] (by exact GN (Cv Fi) rfl rfl ⟨rfl,by decide +kernel,by decide +kernel,by decide +kernel⟩ ⟨⟨rfl,.inl rfl,.inl rfl⟩,⟨rfl,.inl rfl,.inl rfl⟩,True.intro⟩) (DN (Cm 2)) CL (λ_ _ _ _ _=>Cy 0 (show (["_law_part","_law_schema_here","_law_filling_here"]:List Str).Nodup by decide +kernel)) (λ_ _ _ _ _=>Ea) (λ_ _ _ _ _=>CA JB hr_law_part_fits (Ck (Cm 1) (Ck (Cm 2) (Ck (Cm 0) Cp))))) Cp))))))) (Cz (CF EO)) Dl) (Cu (IS 3 ["_law_part"] [] (by exact GN (Cv Fi) rfl rfl ⟨rfl,by decide +kernel,by decide +kernel,by decide +kernel⟩ True.intro) (DN (Cm 2)) CL (λ_ _ _ _ _=>Cy 0 (show (["_law_part"]:List Str).Nodup by decide +kernel)) (λ_ _ _ _ _=>Ea) (λ_ _ _ _ _=>CY (Cm 0) CZ (C0 Cq)) Jr.nd) (Cz (CF (Ez (RH hr.units) (Cm 3) (CM (IU hr.units rfl) T.b_sorted boot_sorted (Ck (DG (Qm hr.units rfl) T.b_set boot_set (Ck (Cm 3) Cp)) Cp))))))
 have c:=DZ 4 3 F Jr rfl rfl b
 exact c
theorem GW:CU ["_law_hand_here","_law_schema_here","_law_filling_here","_law_rows","_law_some"] ["_law_hand_here","_law_schema_here","_law_filling_here"] (Cv Hz):=⟨rfl,rfl,rfl,by decide +kernel,rfl,by decide +kernel,by decide +kernel⟩
theorem Oi {f:Addr}{fd:FuncData}(F:Fun K "_law_odd" "_law_odd" Hz f fd)(T:Tx K mg)(D7:Cal P w K mg base 2 "_law_pick" CT 2):Ee P w K mg base CX0 3 f fd ["_law_hand_here","_law_schema_here","_law_filling_here"] (spF ⟨K,P,w⟩ FG 3):=by
 have b:BO P w K mg base 2 "_law_odd" Hz f ["_law_hand_here","_law_schema_here","_law_filling_here","_law_rows","_law_some"] IH:=λcdv A outer s H E hr=>by
  have hr_law_pick:Room 2 _:=hr.mono (by decide)
  exact Cu (CO 3 GW.nd (Ih Cp)) (Cu (E4 BM rfl (DN (Cm 2)) (Cy 4 GW.nd) (Cz (G8 (QM (Cm 3) (Ck (DG Jf T.b_list boot_list (Ck (Cm 4) Cp)) Cp))))) (Cu (G8 (Hx (Cm 3) (Ck (El (Ck J0 Cp)) Cp))) (Cu (CO 4 GW.nd (Fg (Ck Fm (Ck EO (Ck Cq (Ck J0 (Ck J0 (Ck (El Cp) (Ck (Fg Cp) (Ck OX (Ck (CP (Dw hr.units) (CP (Dw hr.units) (Cm 1) Cq) Cq) (Ck (CP (Dw hr.units) (CP (Dw hr.units) (Cm 1) (Rw Cq)) Cq) (Ck (CP (Dw hr.units) (Cm 3) Cq) (Ck (CP (Dw hr.units) (Cm 3) (Rw Cq)) Cp)))))))))))))) (Cz (CF (CA D7 hr_law_pick (Ck (Cm 0) (Ck (CD CQ (Cm 4) (Fg (Ck (DG Jf T.b_list boot_list (Ck (CP (Dw hr.units) (Cm 3) Cq) Cp)) Cp))) Cp))))))))
 have c:=My 5 3 F GW rfl rfl b
 exact c
theorem Fq:CU ["_law_hand_here","_law_schema_here","_law_filling_here","_law_thing","_law_deep","_law_at","_law_way","_law_other"] ["_law_hand_here","_law_schema_here","_law_filling_here","_law_thing","_law_deep"] (Cv FA):=⟨rfl,rfl,rfl,by decide +kernel,rfl,by decide +kernel,by decide +kernel⟩
theorem HG {f:Addr}{fd:FuncData}(F:Fun K "_law_put_in" "_law_put_in" FA f fd)(hm:mg "_law_put_in"=some (.ref f))(hb:Binds K fd ["_law_hand_here","_law_schema_here","_law_filling_here","_law_thing","_law_deep"] [])(T:Tx K mg)(CG:Cal P w K mg base 1 "_law_take" Cw 2)(Jm:Cal P w K mg base 3 "_law_odd" FG 3):∀ n,Ee P w K mg base CX0 (n+4) f fd ["_law_hand_here","_law_schema_here","_law_filling_here","_law_thing","_law_deep"] (spF ⟨K,P,w⟩ (CN n) 5)
 | 0=>⟨λvs H Q E h=>by obtain ⟨th,mu,ds,_,r,hl,_⟩:=h;rw [r.len];exact hl,λA outer s H args us vs Q E hr he hb hv h=>by obtain ⟨th,mu,ds,_,r,hl,t⟩:=h;exact t.no.elim⟩
 | n+1=>by
  have GA:Cal P w K mg base (n+4) "_law_put_in" (CN n) 5:=DD F hm (HG F hm hb T CG Jm n) hb
  have b:BO P w K mg base (n+4) "_law_put_in" FA f ["_law_hand_here","_law_schema_here","_law_filling_here","_law_thing","_law_deep","_law_at","_law_way","_law_other"] (Dr (CN n)):=λcdv A outer s H E hr=>by
   have hr_law_take:Room 1 _:=hr.mono (by omega)
   have hr_law_odd:Room 3 _:=hr.mono (by omega)
   have hr_law_put_in:Room (n+4) _:=hr
   exact Cu (DB (SVW.t (EG (DL (DM (FT "tuple" (Cm 3) T.b_isinstance T.b_tuple B4))) (EG (Dd (E3 hr.units) (CM Dq T.b_len boot_len (Ck (Cm 3) Cp)) Cq) (EG (Dd (E3 hr.units) (Cm 4) Cq) (EE (Dd (E3 hr.units) (CA CG hr_law_take (Ck (Cm 0) (Ck Cq Cp))) Cq)))))) (Cz (CF (CA Jm hr_law_odd (Ck (Cm 0) (Ck (Cm 1) (Ck (Cm 2) Cp)))))) Dl) (Cu (CO 5 Fq.nd (CA CG hr_law_take (Ck (Cm 0) (Ck (CM Dq T.b_len boot_len (Ck (Cm 3) Cp)) Cp)))) (Cu (CO 6 Fq.nd (CA CG hr_law_take (Ck (Cm 0) (Ck Cq Cp)))) (Cu (DB (Dd (E3 hr.units) (Cm 6) Cq) (Cz (CF (CD CQ (CY (Cm 3) CZ (C0 (Cm 5))) (CY (Cm 3) (C0 (CD CQ (Cm 5) Cq)) CZ)))) Dl) (Cu (DB (Dd (E3 hr.units) (Cm 6) Cq) (Cz (CF (CD CQ (CY (Cm 3) CZ (C0 (CD CQ (Cm 5) Cq))) (CY (Cm 3) (C0 (Cm 5)) CZ)))) Dl) (Cu (DB (Dd (E3 hr.units) (Cm 6) Cq) (Cz (CF (CP (Dw hr.units) (Fg (Ck (DG Jf T.b_list boot_list (Ck (Cm 3) Cp)) (Ck (W6 (Cm 3)) (Ck (CD CQ (Cm 3) (El (Ck (CA Jm hr_law_odd (Ck (Cm 0) (Ck (Cm 1) (Ck (Cm 2) Cp)))) Cp))) Cp)))) (CA CG hr_law_take (Ck (Cm 0) (Ck Cq Cp)))))) Dl) (Cu (CO 7 Fq.nd (CA GA hr_law_put_in (Ck (Cm 0) (Ck (Cm 1) (Ck (Cm 2) (Ck (CP (Dw hr.units) (Cm 3) (Cm 5)) (Ck (CD O6 (Cm 4) Cq) Cp))))))) (Cz (CF (CD CQ (CD CQ (CY (Cm 3) CZ (C0 (Cm 5))) (El (Ck (Cm 7) Cp))) (CY (Cm 3) (C0 (CD CQ (Cm 5) Cq)) CZ))))))))))
  have c:=DZ 8 5 F Fq rfl rfl b
  exact c
theorem Gi:CU ["_law_script","_law_k","_law_hand_here","_law_schema_here","_law_filling_here","_law_turn","_law_change_here","_law_thing","_law_found","_law_none"] ["_law_script"] (Cv Ju):=⟨rfl,rfl,rfl,by decide +kernel,rfl,by decide +kernel,by decide +kernel⟩
theorem Xp {f:Addr}{fd:FuncData}(F:Fun K "law" "law" Ju f fd)(T:Tx K mg)(Ou:Cal P w K mg base 1 "_law_hand" EH 2)(Mc:Cal P w K mg base 4 "_law_schema" D9 4)(KZ:Cal P w K mg base 3 "_law_filling" Ed 3)(LS:Cal P w K mg base 3 "_law_change" Er 4)(GA:Cal P w K mg base 18 "_law_put_in" (CN 14) 5)(Gb:Cal P w K mg base 5 "is_change" CV 3)(NQ:Cal P w K mg base 3 "_law_fits" Ei 3):Ee P w K mg base CX0 19 f fd ["_law_script"] (spF ⟨K,P,w⟩ K9 1):=by
 have b:BO P w K mg base 18 "law" Ju f ["_law_script","_law_k","_law_hand_here","_law_schema_here","_law_filling_here","_law_turn","_law_change_here","_law_thing","_law_found","_law_none"] Te:=λcdv A outer s H E hr=>by
  have hr_law_hand:Room 1 _:=hr.mono (by decide)
  have hr_law_schema:Room 4 _:=hr.mono (by decide)
  have hr_law_filling:Room 3 _:=hr.mono (by decide)
  have hr_law_change:Room 3 _:=hr.mono (by decide)
  have hr_law_put_in:Room 18 _:=hr.mono (by decide)
  have hr_is_change:Room 5 _:=hr.mono (by decide)
  have hr_law_fits:Room 3 _:=hr.mono (by decide)
  exact Cu (E4 BM rfl (EK T.b_range (Ck (CM (Qn rfl) T.b_max boot_max (Ck Cq (Ck (CM (Lx rfl) T.b_min boot_min (Ck Cq (Ck (CM Dq T.b_len boot_len (Ck (Cm 0) Cp)) Cp))) Cp))) Cp)) (Cy 1 Gi.nd) (Cu (CO 2 Gi.nd (CA Ou hr_law_hand (Ck (Cm 0) (Ck (Cm 1) Cp)))) (Cu (CO 3 Gi.nd (CA Mc hr_law_schema (Ck (Cm 2) (Ck Cq (Ck Cq (Ck Cq Cp)))))) (Cu (CO 4 Gi.nd (CA KZ hr_law_filling (Ck (Cm 2) (Ck (Cm 3) (Ck Cq Cp))))) (Cu (E4 BM rfl (EK T.b_range (Ck Cq Cp)) (Cy 5 Gi.nd) (Cu (CO 6 Gi.nd (CA LS hr_law_change (Ck (Cm 2) (Ck (Cm 3) (Ck (Cm 4) (Ck Cq Cp)))))) (Cu (CO 7 Gi.nd (CA GA hr_law_put_in (Ck (Cm 2) (Ck (Cm 3) (Ck (Cm 4) (Ck (Cm 6) (Ck Cq Cp))))))) (Cu (CO 8 Gi.nd (CA Gb hr_is_change (Ck (Cm 3) (Ck (Cm 4) (Ck (Cm 7) Cp))))) (Cu (DB (SVW.t (EG (DL (DM (FT "bool" (Cm 8) T.b_isinstance T.b_bool (by decide +kernel)))) (EE (Dd (Jd hr.units) (Cm 8) (CA NQ hr_law_fits (Ck (Cm 3) (Ck (Cm 4) (Ck (Cm 7) Cp)))))))) (Cz (CF EO)) Dl) (Cz (DB (Dd LZ (CA Gb hr_is_change (Ck (Cm 3) (Ck (Cm 4) (Ck (Cm 6) Cp)))) EO) (Cz (CF EO)) Dl))))))) (Cu (CO 9 Gi.nd (Fg (Ck Fm (Ck EO (Ck Cq (Ck J0 (Ck (Fg Cp) (Ck OX (Ck (El (Ck (El Cp) Cp)) (Ck (El (Ck Fm Cp)) Cp)))))))))) (Cu (DB (DL (DM (CM (E8 rfl) T.b_all boot_all (Ck (Fy ["_law_thing"] [(3,"_law_schema_here"),(4,"_law_filling_here")] (by exact GN (Cv Ju) rfl rfl ⟨rfl,by decide +kernel,by decide +kernel,by decide +kernel⟩ ⟨⟨rfl,.inl rfl,.inl rfl⟩,⟨rfl,.inl rfl,.inl rfl⟩,True.intro⟩) (DN (Cm 9)) CL (λ_ _ _ _ _=>Cy 0 (show (["_law_thing","_law_schema_here","_law_filling_here"]:List Str).Nodup by decide +kernel)) (λ_ _ _ _ _=>Ea) (λ_ _ _ _ _=>Ez LI (CA Gb hr_is_change (Ck (Cm 1) (Ck (Cm 2) (Ck (Cm 0) Cp)))) EO)) Cp)))) (Cz (CF EO)) Dl) (Cz (DB (Dd LZ (CA Gb hr_is_change (Ck (Cm 3) (Ck (Cm 4) (Ck (El Cp) Cp)))) EO) (Cz (CF EO)) Dl))))))))) (Cz (CF EO))
 have c:=DZ 10 1 F Gi rfl rfl b
 exact c
end
end PG
namespace PV
open PySem L2 PyProof.Rows
section
variable {α β:Type} {ro:Ro} {mu:Sto} {d e:D} {a b c:Ex} {i:Nat} {o:Option D}
@[simp] theorem QE {x:α}{m:Sto}{f:α->Sto->Rs β}:bM (some (x,m)) f=f x m:=rfl
@[simp] theorem AaJ:Co 0 (some d::ro) mu=some (d,mu):=rfl
@[simp] theorem Z0 {x1}:Co 1 (x1::some d::ro) mu=some (d,mu):=rfl
@[simp] theorem AaG {x1 x2}:Co 2 (x1::x2::some d::ro) mu=some (d,mu):=rfl
@[simp] theorem Z8 {x1 x2 x3}:Co 3 (x1::x2::x3::some d::ro) mu=some (d,mu):=rfl
@[simp] theorem Aas {x1 x2 x3 x4}:Co 4 (x1::x2::x3::x4::some d::ro) mu=some (d,mu):=rfl
@[simp] theorem Aao {x1 x2 x3 x4 x5}:Co 5 (x1::x2::x3::x4::x5::some d::ro) mu=some (d,mu):=rfl
@[simp] theorem AaV {x1 x2 x3 x4 x5 x6}:Co 6 (x1::x2::x3::x4::x5::x6::some d::ro) mu=some (d,mu):=rfl
@[simp] theorem AaP {x1 x2 x3 x4 x5 x6 x7}:Co 7 (x1::x2::x3::x4::x5::x6::x7::some d::ro) mu=some (d,mu):=rfl
@[simp] theorem Aar {x1 x2 x3 x4 x5 x6 x7 x8}:Co 8 (x1::x2::x3::x4::x5::x6::x7::x8::some d::ro) mu=some (d,mu):=rfl
@[simp] theorem AaW {x1 x2 x3 x4 x5 x6 x7 x8 x9}:Co 9 (x1::x2::x3::x4::x5::x6::x7::x8::x9::some d::ro) mu=some (d,mu):=rfl
@[simp] theorem Yw {x1 x2 x3 x4 x5 x6 x7 x8 x9 x10}:Co 10 (x1::x2::x3::x4::x5::x6::x7::x8::x9::x10::some d::ro) mu=some (d,mu):=rfl
@[simp] theorem Y2 {x1 x2 x3 x4 x5 x6 x7 x8 x9 x10 x11}:Co 11 (x1::x2::x3::x4::x5::x6::x7::x8::x9::x10::x11::some d::ro) mu=some (d,mu):=rfl
@[simp] theorem Y6 {x1 x2 x3 x4 x5 x6 x7 x8 x9 x10 x11 x12}:Co 12 (x1::x2::x3::x4::x5::x6::x7::x8::x9::x10::x11::x12::some d::ro) mu=some (d,mu):=rfl
@[simp] theorem Y0 {x1 x2 x3 x4 x5 x6 x7 x8 x9 x10 x11 x12 x13}:Co 13 (x1::x2::x3::x4::x5::x6::x7::x8::x9::x10::x11::x12::x13::some d::ro) mu=some (d,mu):=rfl
@[simp] theorem Yo {x1 x2 x3 x4 x5 x6 x7 x8 x9 x10 x11 x12 x13 x14}:Co 14 (x1::x2::x3::x4::x5::x6::x7::x8::x9::x10::x11::x12::x13::x14::some d::ro) mu=some (d,mu):=rfl
@[simp] theorem Yj {x1 x2 x3 x4 x5 x6 x7 x8 x9 x10 x11 x12 x13 x14 x15}:Co 15 (x1::x2::x3::x4::x5::x6::x7::x8::x9::x10::x11::x12::x13::x14::x15::some d::ro) mu=some (d,mu):=rfl
@[simp] theorem z_C:eC d ro mu=some (d,mu):=rfl
@[simp] theorem Zz {g:D->D->Sto->Rs D}:Cs g a b ro mu=bM (a ro mu) λx m1=>bM (b ro m1) λy m2=>g x y m2:=rfl
@[simp] theorem AaF {g:D->Sto->Rs D}:e1 g a ro mu=bM (a ro mu) λx m1=>g x m1:=rfl
@[simp] theorem Aam:tV a ro mu=bM (a ro mu) λx m1=>(asB x).map λb=>(b,m1):=rfl
@[simp] theorem Zd {x:Bool}:asB (.bl x)=some x:=rfl
@[simp] theorem Zu {t:Tx}:tNt t ro mu=bM (t ro mu) λb m1=>some (!b,m1):=rfl
@[simp] theorem ZI {t u:Tx}:tAn t u ro mu=bM (t ro mu) λx m1=>if x=true then u ro m1 else some (false,m1):=rfl
@[simp] theorem Aav {t u:Tx}:tO t u ro mu=bM (t ro mu) λx m1=>if x=true then some (true,m1) else u ro m1:=rfl
@[simp] theorem ZG:tY ro mu=some (true,mu):=rfl
noncomputable def anB (b:Ex)(ro:Ro):D->Sto->Rs D
 | .bl c,m1=>if c=true then b ro m1 else some (.bl false,m1)
 | _,_=>none
noncomputable def oB (b:Ex)(ro:Ro):D->Sto->Rs D
 | .bl c,m1=>if c=true then some (.bl true,m1) else b ro m1
 | _,_=>none
theorem Z5:eAn a b ro mu=bM (a ro mu) (anB b ro):=by
 unfold eAn
 congr 1
 funext x m
 cases x<;>rfl
theorem z_o:eO a b ro mu=bM (a ro mu) (oB b ro):=by
 unfold eO
 congr 1
 funext x m
 cases x<;>rfl
@[simp] theorem Zq:eAn a b ro mu=bM (a ro mu) (anB b ro):=Z5
@[simp] theorem Aaj:eO a b ro mu=bM (a ro mu) (oB b ro):=z_o
@[simp] theorem Y7 {x:Bool}:anB b ro (.bl x) mu=if x=true then b ro mu else some (.bl false,mu):=rfl
@[simp] theorem Aag {x:Bool}:oB b ro (.bl x) mu=if x=true then some (.bl true,mu) else b ro mu:=rfl
noncomputable def ntB:D->Sto->Rs D
 | .bl c,m1=>some (.bl (!c),m1)
 | _,_=>none
@[simp] theorem Aaf:eNt a ro mu=bM (a ro mu) ntB:=by
 unfold eNt
 congr 1
 funext x m
 cases x<;>rfl
@[simp] theorem Y4 {x:Bool}:ntB (.bl x) mu=some (.bl (!x),mu):=rfl
@[simp] theorem Z7 {t:Tx}:eIf t a b ro mu=bM (t ro mu) λx m1=>if x=true then a ro m1 else b ro m1:=rfl
@[simp] theorem WH:Cr ro mu=some ([],mu):=rfl
@[simp] theorem WJ {r:Exs}:Cn a r ro mu=bM (a ro mu) λx m1=>bM (r ro m1) λxs m2=>some (x::xs,m2):=rfl
@[simp] theorem Yi {r:Exs}:EB r ro mu=bM (r ro mu) λxs m1=>some (.tup xs,m1):=rfl
@[simp] theorem Y8 {r:Exs}:GK r ro mu=bM (r ro mu) λxs m1=>some (.lst xs,m1):=rfl
@[simp] theorem XS {r:Exs}:G2 r ro mu=bM (r ro mu) λxs m1=>some (.ref m1.length,m1++[.lst xs]):=rfl
@[simp] theorem Xy:MI ro mu=some (.dct [] [],mu):=rfl
@[simp] theorem W5:Nq ro mu=some (.ref mu.length,mu++[.dct [] []]):=rfl
@[simp] theorem XM {f:Fn}{r:Exs}:Ct f r ro mu=bM (r ro mu) λxs m1=>f xs m1:=rfl
@[simp] theorem Yu:sNx ro mu=some ((.nx,ro),mu):=rfl
noncomputable def Wz (b:Sx):Fl×Ro->Sto->Rs (Fl×Ro)
 | (.nx,ro),m1=>b ro m1
 | p,m1=>some (p,m1)
@[simp] theorem Za {s t:Sx}:CI s t ro mu=bM (s ro mu) (Wz t):=by
 unfold CI
 congr 1
 funext p m
 obtain ⟨f,r⟩:=p
 cases f<;>rfl
@[simp] theorem X9 {t:Sx}:Wz t (.nx,ro) mu=t ro mu:=rfl
@[simp] theorem Wu {t:Sx}:Wz t (.rt d,ro) mu=some ((.rt d,ro),mu):=rfl
@[simp] theorem Aab:sRt a ro mu=bM (a ro mu) λd m1=>some ((.rt d,ro),m1):=rfl
@[simp] theorem Aad:sEx a ro mu=bM (a ro mu) λ_ m1=>some ((.nx,ro),m1):=rfl
@[simp] theorem ZX {t:Tx}{s u:Sx}:sIf t s u ro mu=bM (t ro mu) λx m1=>if x=true then s ro m1 else u ro m1:=rfl
@[simp] theorem Yf {i:Nat}:gNm i d ro mu=some (ro.set i (some d),mu):=rfl
@[simp] theorem Yv:DC [] ro mu=some (ro,mu):=rfl
@[simp] theorem Zg {g:Gx}{r:Gxs}{ds:List D}:CB g r (d::ds) ro mu=bM (g d ro mu) λro' m1=>r ds ro' m1:=rfl
@[simp] theorem XY {r:Gxs}{x y:D}:gTp 2 r (.tup [x,y]) ro mu=r [x,y] ro mu:=rfl
@[simp] theorem WW {r:Gxs}{x y z:D}:gTp 3 r (.tup [x,y,z]) ro mu=r [x,y,z] ro mu:=rfl
@[simp] theorem X0 {r:Gxs}{x y z u:D}:gTp 4 r (.tup [x,y,z,u]) ro mu=r [x,y,z,u] ro mu:=rfl
@[simp] theorem ZU {g:Gx}:Dc a g ro mu=bM (a ro mu) λd m1=>bM (g d ro m1) λro' m2=>some ((.nx,ro'),m2):=rfl
@[simp] theorem Xt {i j:Nat}{r:Exs}:Aaa i j r ro mu=bM (r ro mu) λds m1=>match ds with|[x,y]=>some ((.nx,(ro.set i (some x)).set j (some y)),m1)|_=>none:=rfl
@[simp] theorem Wm {i j k:Nat}{r:Exs}:PJ i j k r ro mu=bM (r ro mu) λds m1=>match ds with|[x,y,z]=>some ((.nx,((ro.set i (some x)).set j (some y)).set k (some z)),m1)|_=>none:=rfl
noncomputable def Xe:Fl×Ro->Sto->Rs D
 | (.rt d,_),m1=>some (d,m1)
 | (.nx,_),m1=>some (.non,m1)
 | _,_=>none
theorem ZK {n:Nat}{m:Sx}{ds:List D}:fnB n m ds mu=bM (m (ds.map some++List.replicate (n-ds.length) none) mu) Xe:=by
 unfold fnB
 congr 1
 funext p q
 obtain ⟨f,r⟩:=p
 cases f<;>rfl
@[simp] theorem Xo:Xe (.rt d,ro) mu=some (d,mu):=rfl
@[simp] theorem W7:Xe (.nx,ro) mu=some (.non,mu):=rfl
noncomputable def ZC (m0:Sto):Fl×Ro->Sto->Rs D
 | (.rt d,_),m1=>Mt m0 m1 d
 | (.nx,_),m1=>Mt m0 m1 .non
 | _,_=>none
theorem Zk {n:Nat}{m:Sx}{ds:List D}:fnG n m ds mu=bM (m (ds.map some++List.replicate (n-ds.length) none) mu) (ZC mu):=by
 unfold fnG
 congr 1
 funext p q
 obtain ⟨f,r⟩:=p
 cases f<;>rfl
@[simp] theorem T4 {m0:Sto}:ZC m0 (.rt d,ro) mu=Mt m0 mu d:=rfl
@[simp] theorem Zt {x:Ix}{g:Gx}{s:Sx}:HC x g s ro mu=bM (x ro mu) λp m1=>Ey p.2 m1 g s p.1 ro m1:=rfl
noncomputable def Lj (m1:Sto):D->Rs (List D×Option Nat)
 | .tup ds=>some ((ds,none),m1)
 | .lst ds=>some ((ds,none),m1)
 | .str x=>some ((chars x,none),m1)
 | .ref k=>match m1[k]? with
  | some (.lst ds)=>some ((ds,some k),m1)
  | _=>none
 | _=>none
@[simp] theorem AaK:Fv a ro mu=bM (a ro mu) λd m1=>Lj m1 d:=by
 unfold Fv
 congr 1
@[simp] theorem AaL {ds:List D}:Lj mu (.tup ds)=some ((ds,none),mu):=rfl
@[simp] theorem Aax {ds:List D}:Lj mu (.lst ds)=some ((ds,none),mu):=rfl
@[simp] theorem AaA {x:Str}:Lj mu (.str x)=some ((chars x,none),mu):=rfl
theorem Ng {r:Exs}{n:Int}{m:Sto}(h:r ro mu=some ([.int n],m))(h0:-(2 ^ 62)≤n)(h1:n≤(sizeLine:Int)):iRg r ro mu=some ((Eg 0 n.toNat,none),m):=by
 unfold iRg
 rw [h]
 simp only [bM,Rq]
 rw [if_pos ⟨h0,h1⟩]
@[simp] theorem AaZ {x:Ix}{nc:Nat}{fv:List Nat}{g:Gx}{t:Tx}:eLC x nc fv g t a ro mu=bM (x ro mu) λp m1=>bM (G3 p.2 m1 g t a (r0 nc fv ro) p.1 m1) λys m2=>some (.lst ys,m2):=rfl
@[simp] theorem AaM {nc:Nat}{fv:List Nat}:r0 nc fv ro=List.replicate nc none++fv.map λk=>ro.getD k none:=rfl
noncomputable def nR:D->Bool
 | .ref _=>false
 | _=>true
@[simp] theorem Ux {g g':D->D->Sto->Rs D}{c:Ex}:Jn g g' a b c ro mu=bM (a ro mu) λx m1=>bM (b ro m1) λy m2=>bM (g x y m2) λz m3=>match asB z with|none=>none|some k=>if k=true then bM (c ro m3) λw' m4=>g' y w' m4 else some (.bl false,m3):=rfl
@[simp] theorem YU {i j:Int}:leD (.int i) (.int j) mu=some (.bl (decide (i≤j)),mu):=rfl
@[simp] theorem Yn {i j:Str}:leD (.str i) (.str j) mu=some (.bl (!decide (j.cps.toList<i.cps.toList)),mu):=rfl
@[simp] theorem Zj {i j:Int}:geD (.int i) (.int j) mu=some (.bl (decide (j≤i)),mu):=rfl
@[simp] theorem YR {i j:Int}:gtD (.int i) (.int j) mu=some (.bl (decide (j<i)),mu):=rfl
@[simp] theorem YW {i j:Int}:ltG (.int i) (.int j) mu=some (.bl (decide (i<j)),mu):=by
 unfold ltG
 rw [if_pos (by simp [toPy,PyData.depth])]
 rfl
@[simp] theorem YQ {i j:Str}:ltG (.str i) (.str j) mu=some (.bl (decide (i.cps.toList<j.cps.toList)),mu):=by
 unfold ltG
 rw [if_pos (by simp [toPy,PyData.depth])]
 rfl
@[simp] theorem Wt {i j:Int}:Df (.int i) (.int j) mu=some (.int (i+j),mu):=rfl
@[simp] theorem XZ {i j:Int}:Vb (.int i) (.int j) mu=some (.int (i-j),mu):=rfl
theorem Je {i j:Int}(h:0<j):Gm (.int i) (.int j) mu=some (.int (i % j),mu):=by unfold Gm;dsimp only;rw [if_pos h]
@[simp] theorem Wv {ds:List D}:EU [.tup ds] mu=some (.int ds.length,mu):=rfl
@[simp] theorem X7 {ds:List D}:EU [.lst ds] mu=some (.int ds.length,mu):=rfl
@[simp] theorem XG {x:Str}:EU [.str x] mu=some (.int x.length,mu):=rfl
@[simp] theorem XJ {ds:List D}:EU [.set ds] mu=some (.int ds.length,mu):=rfl
@[simp] theorem W2 {ds:List D}:Gf [.lst ds] mu=some (.tup ds,mu):=rfl
@[simp] theorem WV {ds:List D}:Gf [.tup ds] mu=some (.tup ds,mu):=rfl
@[simp] theorem Xn {ds:List D}:LK [.tup ds] mu=some (.lst ds,mu):=rfl
theorem VJ (h:eqB mu d e=some r):eqD d e mu=some (.bl r,mu):=by unfold eqD;rw [h];rfl
@[simp] theorem VR {i j:Int}:eqD (.int i) (.int j) mu=some (.bl (decide (i=j)),mu):=by
 refine VJ ?_
 unfold eqB
 rw [if_pos (by simp [seen,CS,toPy,PyData.depth])]
 simp only [seen,toPy,PyData.eqv]
 rfl
@[simp] theorem VW {i j:Int}:neD (.int i) (.int j) mu=some (.bl (!decide (i=j)),mu):=by
 have:=@VR mu i j
 unfold eqD at this
 unfold neD
 cases e:eqB mu (.int i) (.int j) with
 | none=>rw [e] at this;cases this
 | some r=>rw [e] at this;cases this;rfl
@[simp] theorem YF {i j:Bool}:neD (.bl i) (.bl j) mu=some (.bl (i != j),mu):=by
 unfold neD eqB
 rw [if_pos (by simp [seen,CS,toPy,PyData.depth])]
 simp only [seen,toPy,PyData.eqv]
 cases i<;>cases j<;>rfl
@[simp] theorem YX {i j:Str}:eqD (.str i) (.str j) mu=some (.bl (decide (i=j)),mu):=by
 refine VJ ?_
 unfold eqB
 rw [if_pos (by simp [seen,CS,toPy,PyData.depth])]
 simp only [seen,toPy,PyData.eqv]
 rfl
@[simp] theorem KA {ds:List D}:ixG (.tup (d::ds)) (.int 0) mu=some (d,mu):=by
 have:ixD (.tup (d::ds)) (.int 0) mu=some (d,mu):=by simp [ixD,atI,ixN]
 unfold ixG
 rw [this]
@[simp] theorem LY {ds:List D}{x:D}:ixG (.tup (x::d::ds)) (.int 1) mu=some (d,mu):=by
 have:ixD (.tup (x::d::ds)) (.int 1) mu=some (d,mu):=by
  have h:(1:Int)<((x::d::ds).length:Int):=by simp;omega
  simp only [ixD,atI,ixN,h,if_true]
  rfl
 unfold ixG
 rw [this]
@[simp] theorem IY {ds:List D}{x y:D}:ixG (.tup (x::y::d::ds)) (.int 2) mu=some (d,mu):=by
 have:ixD (.tup (x::y::d::ds)) (.int 2) mu=some (d,mu):=by
  have h:(2:Int)<((x::y::d::ds).length:Int):=by simp;omega
  simp only [ixD,atI,ixN,h,if_true]
  rfl
 unfold ixG
 rw [this]
@[simp] theorem Ow {ds:List D}:ixG (.lst (d::ds)) (.int 0) mu=some (d,mu):=by
 have:ixD (.lst (d::ds)) (.int 0) mu=some (d,mu):=by simp [ixD,atI,ixN,DS]
 unfold ixG
 rw [this]
theorem LO {ds:List D}{j:Nat}(s:D)(hs:s=.lst ds∨s=.tup ds)(h:ds[j]? = some d):ixG s (.int j) mu=some (d,mu):=by
 obtain ⟨hl,e⟩:=Ae.mp h
 have a:atI ds (j:Int)=some d:=by
  unfold atI ixN
  rw [if_pos (by omega),if_pos (by omega)]
  simpa using h
 unfold ixG
 rcases hs with rfl|rfl<;>simp [ixD,DS,a]
theorem Ta {bs:List Bool}:HK [.lst (bs.map D.bl)] mu=some (.bl (bs.all id),mu):=by
 have:Jo (bs.map D.bl)=some bs:=by
  induction bs with
  | nil=>rfl
  | cons b bs ih=>simp [Jo,ih]
 simp [HK,quF,DS,this]
end
theorem Hs {m0:Sto}{tg:Gx}{tt:Tx}{el:Ex}{ro:Ro}{mu:Sto}(p:D->Bool)(g:D->D):∀ ds:List D,(∀ d∈ds,∃ ro1,tg d ro mu=some (ro1,mu)∧tt ro1 mu=some (p d,mu)∧(p d=true->el ro1 mu=some (g d,mu)))->G3 none m0 tg tt el ro ds mu=some ((ds.filter p).map g,mu)
 | [],_=>rfl
 | d::ds,h=>by
  obtain ⟨ro1,e1,e2,e3⟩:=h d (.head _)
  have ih:=Hs (m0:=m0) p g ds λd' hd=>h d' (.tail _ hd)
  unfold G3
  rw [e1,Ef,e2,Ef]
  cases c:p d with
  | true=>rw [if_pos rfl,e3 c,Ef,Ff,if_pos (show gOk none m0 mu from True.intro),ih,Ef,List.filter_cons_of_pos c,Bf]
  | false=>rw [if_neg AG,Ff,if_pos (show gOk none m0 mu from True.intro),ih,List.filter_cons_of_neg (by simp [c])]
theorem HJ {m0:Sto}{tg:Gx}{el:Ex}{ro:Ro}{mu:Sto}(g:D->D)(ds:List D)(h:∀ d∈ds,∃ ro1,tg d ro mu=some (ro1,mu)∧el ro1 mu=some (g d,mu)):G3 none m0 tg tY el ro ds mu=some (ds.map g,mu):=by
 have:=Hs (m0:=m0) (tg:=tg) (tt:=tY) (el:=el) (ro:=ro) (mu:=mu) (λ_=>true) g ds λd hd=>by
  obtain ⟨ro1,e1,e2⟩:=h d hd
  exact ⟨ro1,e1,rfl,λ_=>e2⟩
 rw [this,List.filter_eq_self.mpr (λ_ _=>rfl)]
theorem Kq {m0:Sto}{tg:Gx}{el:Ex}{ro:Ro}{mu:Sto}(g:D->Bool)(ds:List D)(h:∀ d∈ds,∃ ro1,tg d ro mu=some (ro1,mu)∧el ro1 mu=some (.bl (g d),mu)):G3 none m0 tg tY el ro ds mu=some ((ds.map g).map D.bl,mu):=by
 rw [HJ (λd=>.bl (g d)) ds h,BN]
 rfl
@[simp] theorem Xu {mu:Sto}{ds:List D}{g:D->Bool}:HK [.lst ((ds.map g).map D.bl)] mu=some (.bl (ds.all g),mu):=by
 rw [Ta,List.all_map]
 rfl
end PV
namespace K1
open PySem L2 PyProof.Rows
noncomputable abbrev DX:Str:="abcdefghijklmnopqrstuvwxyz0123456789"
structure IsW (x:Str):Prop where
 lo:1≤x.length
 hi:x.length≤8
 al:∀ c∈x.cps.toList,c∈DX.cps.toList
theorem Gs:DX.cps.toList.length=36:=by decide +kernel
theorem R6:DX.cps.toList.Nodup:=by decide +kernel
theorem ZD (c:Nat)(n:Int)(h0:0≤n)(h7:n≤7):MulOk ⟨#[c]⟩ n:=by
 have e:n=0∨n=1∨n=2∨n=3∨n=4∨n=5∨n=6∨n=7:=by omega
 have l:(⟨#[c]⟩:Str).length=1:=rfl
 unfold MulOk
 rw [l]
 rcases e with rfl|rfl|rfl|rfl|rfl|rfl|rfl|rfl<;>decide
theorem mul_list (c:Nat)(n:Int)(h0:0≤n)(h7:n≤7):(Txt.mul ⟨#[c]⟩ n).cps.toList=List.replicate n.toNat c:=by
 have e:n=0∨n=1∨n=2∨n=3∨n=4∨n=5∨n=6∨n=7:=by omega
 rcases e with rfl|rfl|rfl|rfl|rfl|rfl|rfl|rfl<;>rfl
theorem RS {x:Str}{j:Int}(h0:0≤j)(h1:j≤x.length):(Txt.slice x none (some j)).cps.toList=x.cps.toList.take j.toNat:=by
 have h:=slice_closes_to (x:=x) (j:=j) ⟨h0,by simpa [Str.length] using h1⟩
 rw [eq_of_beq h]
 simp
theorem Oe {x:Str}{j:Int}(h0:0≤j)(h1:j≤x.length):(Txt.slice x (some j) none).cps.toList=x.cps.toList.drop j.toNat:=by
 rw [slice_from_eq h0 h1 rfl]
 apply List.take_of_length_le
 simp [Str.length]
 omega
noncomputable def wrd (A B:Str)(fi st:Int)(k:Nat):Str:=A++⟨#[DX.cps.toList.getD ((fi+st*k) % 36).toNat 0]⟩++B
theorem Nt (A B:Str)(fi st:Int)(k:Nat):(wrd A B fi st k).cps.toList=A.cps.toList++[DX.cps.toList.getD ((fi+st*k) % 36).toNat 0]++B.cps.toList:=by
 unfold wrd
 rw [Str.cps_append,Str.cps_append,Array.toList_append,Array.toList_append]
theorem Hc {j:Int}(h0:0≤j)(h1:j<36):DX.cps.toList[j.toNat]? = some (DX.cps.toList.getD j.toNat 0):=by
 have h:j.toNat<DX.cps.toList.length:=by rw [Gs];omega
 rw [AN,Ah h]
 rfl
noncomputable def Ko (st:Int):Prop:=st=1∨st=5∨st=7∨st=11∨st=13∨st=17
theorem Tz {fi st:Int}{j k:Nat}(hs:Ko st)(hj:j<6)(hk:k<6)(e:(fi+st*j) % 36=(fi+st*k) % 36):j=k:=by
 rcases hs with rfl|rfl|rfl|rfl|rfl|rfl<;>omega
theorem Uq {A B:Str}{fi st:Int}{j k:Nat}(hs:Ko st)(hj:j<6)(hk:k<6)(e:wrd A B fi st j=wrd A B fi st k):j=k:=by
 have h:=congrArg (λs:Str=>s.cps.toList) e
 simp only [Nt,List.append_cancel_right_eq,List.append_cancel_left_eq,List.cons.injEq,and_true] at h
 refine Tz (fi:=fi) hs hj hk ?_
 have a0:=BB (fi+st*j) (show (36:Int)≠0 by decide)
 have a1:=Bn (fi+st*j) (show (0:Int)<36 by decide)
 have b0:=BB (fi+st*k) (show (36:Int)≠0 by decide)
 have b1:=Bn (fi+st*k) (show (0:Int)<36 by decide)
 have e1:=Hc a0 a1
 have e2:=Hc b0 b1
 rw [h,← e2] at e1
 have l1:((fi+st*j) % 36).toNat<DX.cps.toList.length:=by rw [Gs];omega
 have l2:((fi+st*k) % 36).toNat<DX.cps.toList.length:=by rw [Gs];omega
 rw [Ah l1,Ah l2] at e1
 have:=(List.getElem_inj R6).mp (AB e1)
 omega
theorem Ve {A B:Str}{fi st:Int}{k:Nat}{c:Nat}(hc:c∈DX.cps.toList)(hA:∀ x∈A.cps.toList,x=c)(hB:∀ x∈B.cps.toList,x=c)(hl:A.length+B.length≤7):IsW (wrd A B fi st k):=by
 have h:=Nt A B fi st k
 have hl':(wrd A B fi st k).length=A.length+1+B.length:=by
  unfold wrd
  rw [PySem.Str.length_append,PySem.Str.length_append]
  rfl
 refine ⟨by omega,by omega,λx hx=>?_⟩
 rw [h] at hx
 rcases AL.mp hx with hy|hy
 ·rcases AL.mp hy with hz|hz
  ·rw [hA x hz];exact hc
  ·rw [Aw.mp hz]
   exact Ak (Hc (BB (fi+st*k) (show (36:Int)≠0 by decide)) (Bn (fi+st*k) (show (0:Int)<36 by decide)))
 ·rw [hB x hy];exact hc
noncomputable def NC (A B:Str)(fi st:Int)(n:Nat):List Str:=(List.range n).map (wrd A B fi st)
theorem Ul {A B:Str}{fi st:Int}{n:Nat}(hs:Ko st)(hn:n≤6):(NC A B fi st n).Nodup:=by
 unfold NC
 rw [AE,Bl]
 refine BE (λ{a b} ha hb hne e=>hne ?_) (AE.mp Ci)
 exact Uq hs (AF (AX.mp ha) hn) (AF (AX.mp hb) hn) e
end K1
namespace PV
open PySem L2 PyProof.Rows K1
theorem Sn {j:Int}{mu:Sto}(h0:0≤j)(h1:j<36):ixD (.str DX) (.int j) mu=some (.str ⟨#[DX.cps.toList.getD j.toNat 0]⟩,mu):=by
 unfold ixD
 dsimp only
 have h:j.toNat<DX.cps.toList.length:=by rw [Gs];omega
 have e:ixN DX.cps.toList.length j=some j.toNat:=by unfold ixN;rw [if_pos h0,if_pos (by rw [Gs];exact h1)]
 unfold atI
 rw [e,Option.bind_some,Hc h0 h1]
 rfl
theorem MZ {j:Int}{mu:Sto}(h0:0≤j)(h1:j<36):ixG (.str DX) (.int j) mu=some (.str ⟨#[DX.cps.toList.getD j.toNat 0]⟩,mu):=by
 unfold ixG
 rw [Sn h0 h1]
section
variable {ro:Ro} {mu:Sto} {d e:D} {a b c:Ex}
noncomputable def GG (T:String)(d:D)(m1:Sto):Rs D:=if Ek m1 d=true then some (.bl (isi T d),m1) else none
@[simp] theorem ZM {T:String}:HD T a ro mu=bM (a ro mu) (GG T):=rfl
@[simp] theorem ZN {T:String}:GG T .non mu=some (.bl ("NoneType"==T),mu):=by simp [GG,Ek,isi,tyN]
@[simp] theorem YM {T:String}{x:Bool}:GG T (.bl x) mu=some (.bl ("bool"==T||T=="int"),mu):=by simp [GG,Ek,isi,tyN]
@[simp] theorem YJ {T:String}{x:Int}:GG T (.int x) mu=some (.bl ("int"==T),mu):=by simp [GG,Ek,isi,tyN]
@[simp] theorem ZF {T:String}{x:Str}:GG T (.str x) mu=some (.bl ("str"==T),mu):=by simp [GG,Ek,isi,tyN]
@[simp] theorem YC {T:String}{x:List D}:GG T (.tup x) mu=some (.bl ("tuple"==T),mu):=by simp [GG,Ek,isi,tyN]
@[simp] theorem Yp {T:String}{x:List D}:GG T (.lst x) mu=some (.bl ("list"==T),mu):=by simp [GG,Ek,isi,tyN]
@[simp] theorem Yh {T:String}{x y:List D}:GG T (.dct x y) mu=some (.bl ("dict"==T),mu):=by simp [GG,Ek,isi,tyN]
@[simp] theorem ZV {T:String}{x:List D}:GG T (.set x) mu=some (.bl ("set"==T),mu):=by simp [GG,Ek,isi,tyN]
@[simp] theorem Zb {x y:Bool}:isD (.bl x) (.bl y) mu=some (.bl (decide (x=y)),mu):=by cases x<;>cases y<;>rfl
@[simp] theorem X6 {x y:Bool}:JJ (.bl x) (.bl y) mu=some (.bl (!decide (x=y)),mu):=by cases x<;>cases y<;>rfl
@[simp] theorem Aap {P:Prop} [Decidable P]{q:Bool}:(if P then some (D.bl q,mu) else some (D.bl false,mu))=some (D.bl (decide P&&q),mu):=by
 by_cases c:P<;>simp [c]
@[simp] theorem AaS {P:Prop} [Decidable P]{q:Bool}:(if P then some (D.bl true,mu) else some (D.bl q,mu))=some (D.bl (decide P||q),mu):=by
 by_cases c:P<;>simp [c]
@[simp] theorem YZ {P:Prop} [Decidable P]{q:Bool}:(if P then some (q,mu) else some (false,mu))=some (decide P&&q,mu):=by
 by_cases c:P<;>simp [c]
@[simp] theorem Zs {P:Prop} [Decidable P]{q:Bool}:(if P then some (true,mu) else some (q,mu))=some (decide P||q,mu):=by
 by_cases c:P<;>simp [c]
@[simp] theorem Aan {p q:Px}:eSl a p q ro mu=bM (a ro mu) λd m1=>bM (p ro m1) λlo m2=>bM (q ro m2) λhi m3=>slD d lo hi m3:=rfl
@[simp] theorem YB:pNo ro mu=some (none,mu):=rfl
noncomputable def pB:D->Sto->Rs (Option Int)
 | .int i,m1=>some (some i,m1)
 | _,_=>none
@[simp] theorem Aac:Dh a ro mu=bM (a ro mu) pB:=by
 unfold Dh
 congr 1
 funext x m
 cases x<;>rfl
@[simp] theorem AaX {i:Int}:pB (.int i) mu=some (some i,mu):=rfl
@[simp] theorem VF {ds:List D}{lo hi:Option Int}:slD (.tup ds) lo hi mu=some (.tup (cutD ds lo hi),mu):=rfl
@[simp] theorem Zi {ds:List D}{lo hi:Option Int}:slD (.lst ds) lo hi mu=some (.lst (cutD ds lo hi),mu):=rfl
@[simp] theorem V7 {α:Type}{xs:List α}:cutD xs (some 1) none=xs.drop 1:=by
 unfold cutD
 have:=HT.LV xs.length 0 1
 rw [show (some (1:Int))=some ((1:Nat):Int) from rfl,this,HT.J9]
 cases xs with
 | nil=>rfl
 | cons a r=>simp
theorem ZR {m:Exs}{xs ys:List D}{m1:Sto}(h:m ro mu=some ([.lst xs,.lst ys],m1)):Mp m ro mu=some ((EA xs ys,none),m1):=by
 unfold Mp orI iZp
 rw [h]
 rfl
theorem ZY {x:Str}{n:Nat}:inG (.str ⟨#[n]⟩) (.str x) mu=some (.bl (decide (n∈x.cps.toList)),mu):=by
 have:inD (.str ⟨#[n]⟩) (.str x) mu=some (.bl (decide (n∈x.cps.toList)),mu):=by
  unfold inD inB
  simp only [seen,Option.map_some]
  rw [PySem.StrLaws.found_one]
 unfold inG
 rw [this]
theorem F8 {n:Nat}{ds:List D}:E7 n ds=true ↔ ∀ d∈ds,Dy n d=true:=by
 induction ds with
 | nil=>simp [E7]
 | cons d ds ih=>simp [E7,ih]
mutual
theorem RW {n m:Nat}(h:n≤m):∀ {d:D},Dy n d=true->Dy m d=true
 | .non,_=>rfl
 | .bl _,_=>rfl
 | .int _,_=>rfl
 | .str _,_=>rfl
 | .ref k,e=>by
  simp only [Dy,Af] at e ⊢
  omega
 | .tup ds,e=>by
  simp only [Dy] at e ⊢
  exact FC h e
 | .lst ds,e=>by
  simp only [Dy] at e ⊢
  exact FC h e
 | .set ds,e=>by
  simp only [Dy] at e ⊢
  exact FC h e
 | .dct ks ds,e=>by
  simp only [Dy,Ab] at e ⊢
  exact ⟨FC h e.1,FC h e.2⟩
theorem FC {n m:Nat}(h:n≤m):∀ {ds:List D},E7 n ds=true->E7 m ds=true
 | [],_=>rfl
 | d::ds,e=>by
  simp only [E7,Ab] at e ⊢
  exact ⟨RW h e.1,FC h e.2⟩
end
theorem EJ (h:Dy 0 d=true):nR d=true:=by
 cases d<;>first|rfl|(simp [Dy] at h)
end
end PV
namespace PV
open PySem L2 PyProof.Rows K1
variable {mu:Sto}
theorem strs_map (ss:List Str):strsOf (ss.map D.str)=some ss:=by
 induction ss with
 | nil=>rfl
 | cons x xs ih=>simp [strsOf,ih]
noncomputable def ndB (ds:List D):Bool:=decide (ds.Nodup)
theorem Ri (ds:List D):∀ r:List D,(ds.foldl DQ r).length≤r.length+ds.length∧((ds.foldl DQ r).length=r.length+ds.length->(∀ d∈ds,d∉r)∧ds.Nodup):=by
 induction ds with
 | nil=>intro r;simp
 | cons d ds ih =>
  intro r
  rw [List.foldl_cons]
  by_cases c:d∈r
  ·rw [show DQ r d=r by unfold DQ;rw [if_pos c]]
   have:=(ih r).1
   refine ⟨by simp;omega,λh=>?_⟩
   simp at h
   omega
  ·rw [show DQ r d=r++[d] by unfold DQ;rw [if_neg c]]
   obtain ⟨h1,h2⟩:=ih (r++[d])
   simp only [Ar,List.length_cons,List.length_nil] at h1 h2 ⊢
   refine ⟨by omega,λh=>?_⟩
   obtain ⟨h3,h4⟩:=h2 (by omega)
   refine ⟨λe he=>?_,Br.mpr ⟨λhd=>h3 d hd (by simp),h4⟩⟩
   rcases Am.mp he with rfl|he
   ·exact c
   ·exact λhr=>h3 e he (by simp [hr])
theorem Qw (ds:List D):∀ r:List D,(∀ d∈ds,d∉r)->ds.Nodup->ds.foldl DQ r=r++ds:=by
 induction ds with
 | nil=>intro r _ _;simp
 | cons d ds ih =>
  intro r h1 h2
  rw [List.foldl_cons,show DQ r d=r++[d] by unfold DQ;rw [if_neg (h1 d (.head _))]]
  rw [Br] at h2
  rw [ih (r++[d]) (λe he hr=>?_) h2.2]
  ·simp
  ·rcases AL.mp hr with hr|hr
   ·exact h1 e (.tail _ he) hr
   ·rw [Aw.mp hr] at he
    exact h2.1 he
theorem JP {ds:List D}(h:ds.Nodup):DV ds=ds:=by
 unfold DV
 rw [Qw ds [] (λ_ _ h=>nomatch h) h]
 rfl
theorem MF {ds:List D}:(DV ds).length=ds.length ↔ ds.Nodup:=by
 constructor
 ·intro h
  refine ((Ri ds []).2 ?_).2
  rw [List.length_nil,Bq]
  exact h
 ·intro h
  rw [JP h]
end PV
local macro_rules|`(tactic| simp_arith only [$ls,*])=>`(tactic| simp only [PV.QE,PV.AaJ,PV.Z0,PV.AaG,PV.Z8,PV.Aas,PV.Aao,PV.AaV,PV.AaP,PV.Aar,PV.AaW,PV.Yw,PV.Y2,PV.Y6,PV.Y0,PV.Yo,PV.Yj,PV.z_C,PV.Zz,PV.AaF,PV.Aam,PV.Zd,PV.Zu,PV.ZI,PV.Aav,PV.ZG,PV.Zq,PV.Aaj,PV.Y7,PV.Aag,PV.Aaf,PV.Y4,PV.Z7,PV.WH,PV.WJ,PV.Yi,PV.Y8,PV.XS,PV.Xy,PV.W5,PV.XM,PV.Yu,PV.Za,PV.X9,PV.Wu,PV.Aab,PV.Aad,PV.ZX,PV.Yf,PV.Yv,PV.Zg,PV.XY,PV.WW,PV.X0,PV.ZU,PV.Xt,PV.Wm,PV.Xo,PV.W7,PV.T4,PV.Zt,PV.AaK,PV.AaL,PV.Aax,PV.AaA,PV.AaZ,PV.AaM,PV.Ux,PV.YU,PV.Yn,PV.Zj,PV.YR,PV.YW,PV.YQ,PV.Wt,PV.XZ,PV.Wv,PV.X7,PV.XG,PV.XJ,PV.W2,PV.WV,PV.Xn,PV.VR,PV.VW,PV.YF,PV.YX,PV.KA,PV.LY,PV.IY,PV.Ow,PV.Xu,PV.ZM,PV.ZN,PV.YM,PV.YJ,PV.ZF,PV.YC,PV.Yp,PV.Yh,PV.ZV,PV.Zb,PV.X6,PV.Aap,PV.AaS,PV.YZ,PV.Zs,PV.Aan,PV.YB,PV.Aac,PV.AaX,PV.VF,PV.Zi,PV.V7,if_true,A0,reduceIte,Av,Bool.true_eq_false,↓reduceIte,List.set_cons_zero,List.set_cons_succ,Bf,List.map_nil,List.length_cons,List.length_nil,Nat.reduceAdd,Nat.reduceSub,List.replicate_succ,List.replicate_zero,List.reduceReplicate,List.cons_append,List.nil_append,Option.map_some,Bool.not_true,Bool.not_false,PV.ZK,PV.Zk,List.getD_cons_zero,List.getD_cons_succ,Bq,decide_true,decide_false,Bool.decide_eq_true,BF,Bool.false_and,Bool.true_or,Bool.false_or,Bool.or_false,B0,String.reduceBEq,$ls,*])
namespace PG
open PySem L2 PV PyProof.Rows K1
variable {mu:Sto}
noncomputable def sgB (c:Nat):Bool:=decide (c∈DX.cps.toList)
noncomputable def sgs (x:Str):Bool:=x.cps.toList.all sgB
noncomputable def wB (x:Str):Bool:=(decide (1≤(x.length:Int))&&decide ((x.length:Int)≤8))&&sgs x
noncomputable def FU:D->Bool
 | .str x=>wB x
 | _=>false
theorem II {x:Str}:wB x=true ↔ IsW x:=by
 unfold wB sgs
 simp only [Ab,Af,Au,sgB]
 constructor
 ·exact λ⟨⟨h1,h2⟩,h3⟩=>⟨by omega,by omega,h3⟩
 ·exact λh=>⟨⟨by have:=h.lo;omega,by have:=h.hi;omega⟩,h.al⟩
theorem R9 {f:D->Bool}{x:Str}(h:∀ c,f (.str ⟨#[c]⟩)=sgB c):(chars x).all f=sgs x:=by
 unfold chars sgs
 rw [List.all_map]
 congr 1
 funext c
 exact h c
theorem T6 (d:D)(h:nR d=true):FJ [d] mu=some (.bl (FU d),mu):=by
 cases d with
 | ref k=>cases h
 | str x =>
  have al:=Kq (m0:=mu) (tg:=gNm 0) (el:=Cs inG (Co 0) (eC (.str "abcdefghijklmnopqrstuvwxyz0123456789"))) (ro:=[none]) (mu:=mu) (λd=>match d with|.str y=>sgs y|_=>false) (chars x) (λd hd=>by
   unfold chars at hd
   obtain ⟨c,_,rfl⟩:=Ap.mp hd
   refine ⟨_,rfl,?_⟩
   have:=ZY (mu:=mu) (x:=DX) (n:=c)
   simp [sgB,sgs] at this ⊢
   exact this)
  have sg:=R9 (x:=x) (f:=(λd=>match d with|.str y=>sgs y|_=>false)) (λc=>by simp [sgs])
  have W:FU (.str x)=((decide (1≤(x.length:Int))&&decide ((x.length:Int)≤8))&&sgs x):=rfl
  rw [W]
  simp_arith only [FJ,Hw]
  cases h1:(decide (1≤(x.length:Int))&&decide ((x.length:Int)≤8))
  ·simp_arith only []
  ·simp_arith only [al,sg]
 | _=>simp_arith only [FJ,Hw,FU]
noncomputable def EV (lo hi:Int):D->Bool
 | .tup ds=>decide (lo≤(ds.length:Int))&&decide ((ds.length:Int)≤hi)
 | _=>false
theorem NI (d:D)(lo hi:Int)(h:nR d=true):EI [d,.int lo,.int hi] mu=some (.bl (EV lo hi d),mu):=by
 cases d with
 | ref k=>cases h
 | _=>simp_arith only [EI,HI,EV]
noncomputable def Aai:D->Bool
 | .tup ds=>ds.all FU
 | _=>false
theorem lows {n:Nat}{ds:List D}(h:Dy n (.tup ds)=true):∀ d∈ds,Dy n d=true:=F8.mp (by simpa [Dy] using h)
theorem nRs {ds:List D}(h:Dy 0 (.tup ds)=true):∀ d∈ds,nR d=true:=λd hd=>EJ (lows h d hd)
theorem QC {ds:List D}(h:ds.all FU=true):∃ ss:List Str,ds=ss.map D.str∧∀ x∈ss,IsW x:=by
 induction ds with
 | nil=>exact ⟨[],rfl,λ_ h=>nomatch h⟩
 | cons d ds ih =>
  rw [List.all_cons,Ab] at h
  obtain ⟨ss,rfl,hs⟩:=ih h.2
  cases d with
  | str x =>
   refine ⟨x::ss,rfl,λy hy=>?_⟩
   rcases Am.mp hy with rfl|hy
   ·exact II.mp h.1
   ·exact hs y hy
  | _=>simp [FU] at h
noncomputable def HQ (d:D):Bool:=EV 1 4 d&&(Aai d&&match d with|.tup ds=>ndB ds|_=>false)
noncomputable def L4:D->Bool
 | .tup [a,b]=>FU a&&HQ b
 | _=>false
theorem Ql {d:D}(h:EV 2 2 d=true):∃ a b,d=.tup [a,b]:=by
 cases d with
 | tup ds =>
  simp only [EV,Ab,Af] at h
  match ds,h with
  | [a,b],_=>exact ⟨a,b,rfl⟩
  | [],h=>simp at h
  | [a],h=>simp at h
  | a::b::c::ds,h=>simp at h;omega
 | _=>simp [EV] at h
noncomputable def Jl:D->D
 | .tup (a::_)=>a
 | _=>.non
noncomputable def VP:D->Bool
 | .tup ds=>(EV 1 4 (.tup ds)&&ds.all L4)&&ndB (ds.map Jl)
 | _=>false
noncomputable def ZL:D->Int
 | .tup ds=>ds.length
 | _=>0
noncomputable def Xi (k c:D):Bool:=match k with
 | .int i=>decide (1≤i)&&decide (i≤ZL c)
 | _=>false
noncomputable def Kb:D->Bool
 | .tup [n,c,k]=>(FU n&&VP c)&&Xi k c
 | _=>false
noncomputable def ltS:D->D->Bool
 | .str x,.str y=>decide (x.cps.toList<y.cps.toList)
 | _,_=>false
noncomputable def Iu (ds:List D):Bool:=(ds.zip ds.tail).all λp=>ltS p.1 p.2
noncomputable def TN:D->Bool
 | .tup ds=>(EV 1 4 (.tup ds)&&ds.all Kb)&&Iu (ds.map Jl)
 | _=>false
end PG
namespace PV
open PySem L2 PyProof.Rows K1
theorem Ph {m0:Sto}{tg:Gx}{body:Sx}{mu:Sto}(Inv:Ro->Prop)(g:D->Bool)(v:D):∀ (ds:List D) (ro:Ro),Inv ro->(∀ d∈ds,∀ ro,Inv ro->∃ ro1 ro2,tg d ro mu=some (ro1,mu)∧Inv ro2∧body ro1 mu=some ((if g d=true then .nx else .rt v,ro2),mu)) ->
  ∃ ro',Inv ro'∧Ey none m0 tg body ds ro mu=some ((if ds.all g=true then .nx else .rt v,ro'),mu)
 | [],ro,h,_=>⟨ro,h,rfl⟩
 | d::ds,ro,h,st=>by
  obtain ⟨ro1,ro2,e1,h2,e2⟩:=st d (.head _) ro h
  unfold Ey
  rw [e1,Ef,e2,Ef]
  cases c:g d with
  | false =>
   refine ⟨ro2,h2,?_⟩
   rw [List.all_cons,c]
   rfl
  | true =>
   obtain ⟨ro',h',e'⟩:=Ph (m0:=m0) (tg:=tg) (body:=body) (mu:=mu) Inv g v ds ro2 h2 λd' hd=>st d' (.tail _ hd)
   refine ⟨ro',h',?_⟩
   rw [List.all_cons,c,BF,← e']
   dsimp only [if_true]
   rw [Ff,if_pos (show gOk none m0 mu from True.intro)]
   rfl
end PV
namespace PG
open PySem L2 PV PyProof.Rows K1
variable {mu:Sto}
theorem Yd (ss:List Str):Ej [.lst (ss.map D.str)] mu=some (.bl (Iu (ss.map D.str)),mu):=by
 have z:=ZR (mu:=mu) (ro:=[some (.lst (ss.map D.str))]) (m:=Cn (Co 0) (Cn (eSl (Co 0) (Dh (eC (.int 1))) (pNo)) Cr)) (xs:=ss.map D.str) (ys:=(ss.map D.str).drop 1) (m1:=mu) (by simp_arith only [])
 have al:=Kq (m0:=mu) (tg:=gTp 2 (CB (gNm 0) (CB (gNm 1) DC))) (el:=Cs ltG (Co 0) (Co 1)) (ro:=[none,none]) (mu:=mu) (λd=>match d with|.tup [a,b]=>ltS a b|_=>false) (EA (ss.map D.str) ((ss.map D.str).drop 1)) (λd hd=>by
  unfold EA at hd
  obtain ⟨p,hp,rfl⟩:=Ap.mp hd
  have h1:=(B5 hp).1
  have h2:=BJ (B5 hp).2
  obtain ⟨x,_,e1⟩:=Ap.mp h1
  obtain ⟨y,_,e2⟩:=Ap.mp h2
  refine ⟨_,rfl,?_⟩
  rw [← e1,← e2]
  simp_arith only [ltS])
 have e:((EA (ss.map D.str) ((ss.map D.str).drop 1)).all λd=>match d with|.tup [a,b]=>ltS a b|_=>false)=Iu (ss.map D.str):=by
  unfold EA Iu
  rw [List.all_map,List.drop_one]
  rfl
 simp_arith only [Ej,F7,z,al,e]
end PG
namespace PV
open PySem L2 PyProof.Rows K1
theorem FF (ss:List Str):D6 (ss.map D.str)=true:=by
 induction ss with
 | nil=>rfl
 | cons x xs ih=>simp [D6,CS,ih]
theorem IE {ss:List Str}:(ss.map D.str).Nodup ↔ ss.Nodup:=by
 rw [AE,AE,Bl]
 constructor
 ·exact λh=>h.imp λn e=>n (by rw [e])
 ·exact λh=>h.imp λn e=>n (by injection e)
end PV
namespace PG
open PySem L2 PV PyProof.Rows K1
variable {mu:Sto}
end PG
namespace PV
open PySem L2 PyProof.Rows K1
theorem M1 (ss:List Str):F1 (ss.map D.str)=true:=by
 induction ss with
 | nil=>rfl
 | cons x xs ih=>simp [F1,hsh,ih]
theorem Gz (ss:List Str):PyData.depthAll (CJ (ss.map D.str))≤1:=by
 induction ss with
 | nil=>simp [CJ,PyData.depthAll]
 | cons x xs ih=>simp [CJ,toPy,PyData.depthAll,PyData.depth];omega
theorem Pa (x y:Str):ltT (.str x) (.str y)=decide (x.cps.toList<y.cps.toList):=by
 unfold ltT
 rw [show Dn (.str x) (.str y)=G4 x y from rfl,BL,beq_iff_eq,Ga,Af]
theorem UO {ss:List Str}(h:ss.length<64):DW (ss.map D.str)=true:=by
 unfold DW
 simp only [Ab,Af,Ag,Au,Bt,Jy]
 refine ⟨⟨⟨h,λd hd=>?_⟩,λd hd e he=>?_⟩,.inl λd hd=>?_⟩
 ·obtain ⟨x,_,rfl⟩:=Ap.mp hd
  rfl
 ·obtain ⟨x,_,rfl⟩:=Ap.mp hd
  obtain ⟨y,_,rfl⟩:=Ap.mp he
  rfl
 ·obtain ⟨x,_,rfl⟩:=Ap.mp hd
  rfl
theorem XB {ss:List Str}{mu:Sto}(h:ss.length<64):K6 [.lst (ss.map D.str)] mu=some (.lst (Ep (ss.map D.str)),mu):=by
 simp only [K6,HL,PU,HF,DS,UO h,if_true]
theorem UT {ss:List Str}{mu:Sto}(h:ss.length<64):KS [.lst (ss.map D.str)] mu=some (.lst (Ep (ss.map D.str)),mu):=by
 unfold KS
 rw [XB h]
theorem QF {es:List D}{ss:List Str}(h:es.Perm (ss.map D.str)):∃ ts:List Str,es=ts.map D.str∧ts.Perm ss:=by
 have al:∀ d∈es,∃ x,d=D.str x:=λd hd=>by
  obtain ⟨x,_,e⟩:=Ap.mp (h.mem_iff.mp hd)
  exact ⟨x,e.symm⟩
 have:∃ ts:List Str,es=ts.map D.str:=by
  clear h
  induction es with
  | nil=>exact ⟨[],rfl⟩
  | cons d es ih =>
   obtain ⟨x,rfl⟩:=al d (.head _)
   obtain ⟨ts,rfl⟩:=ih λd hd=>al d (.tail _ hd)
   exact ⟨x::ts,rfl⟩
 obtain ⟨ts,rfl⟩:=this
 refine ⟨ts,rfl,?_⟩
 have:=h.map (λd=>match d with|.str x=>x|_=>(⟨#[]⟩:Str))
 simpa [BN,Function.comp_def] using this
end PV
namespace PG
open PySem L2 PV PyProof.Rows K1
variable {mu:Sto}
theorem N5:∀ (ss:List Str),Iu (ss.map D.str)=true ↔ ss.Pairwise λx y=>x.cps.toList<y.cps.toList
 | []=>by simp [Iu]
 | [x]=>by simp [Iu]
 | x::y::ss=>by
  have ih:=N5 (y::ss)
  have e:Iu ((x::y::ss).map D.str)=(decide (x.cps.toList<y.cps.toList)&&Iu ((y::ss).map D.str)):=rfl
  rw [e,Ab,ih,Af]
  constructor
  ·intro ⟨h1,h2⟩
   refine BK.mpr ⟨λz hz=>?_,h2⟩
   rcases Am.mp hz with rfl|hz
   ·exact h1
   ·exact List.lt_trans h1 ((BK.mp h2).1 z hz)
  ·exact λh=>⟨(BK.mp h).1 y (by simp),(BK.mp h).2⟩
theorem TL {ss:List Str}(h:ss.Pairwise λx y=>x.cps.toList<y.cps.toList):ss.Nodup:=by
 rw [AE]
 exact h.imp λl e=>by subst e;exact List.lt_irrefl _ l
theorem TZ (ss:List Str):decide (ss.map D.str=Ep (DV (ss.map D.str)))=Iu (ss.map D.str):=by
 have ord:∀ (ts:List Str),∀ d∈ts.map D.str,FX d=true:=λts d hd=>by
  obtain ⟨x,_,rfl⟩:=Ap.mp hd
  rfl
 rw [BL,Af,N5]
 constructor
 ·intro h
  have p:=Dv (DV (ss.map D.str))
  rw [← h] at p
  have nd:=MF.mp p.length_eq.symm
  have up:=IC (DV (ss.map D.str))
  rw [← h,Bl] at up
  have ne:=AE.mp (IE.mp nd)
  refine (up.and ne).imp λ{x y} ⟨l,n⟩=>?_
  have l':¬ y.cps.toList<x.cps.toList:=by
   unfold leT at l
   rw [Pa] at l
   simpa using l
  have c:=IX x y
  cases q:G4 x y with
  | lt=>exact Ga.mp q
  | eq=>exact (n (Il.mp q)).elim
  | gt=>exact (l' (JY.mp q)).elim
 ·intro h
  rw [JP (IE.mpr (TL h))]
  refine HV (ord ss) (BW _) ?_
  rw [Bl]
  refine h.imp λ{x y} l=>?_
  unfold leT
  rw [Pa]
  have:=List.lt_asymm l
  simp [this]
end PG
namespace PV
open PySem L2 PyProof.Rows K1
variable {mu:Sto}
theorem Ry {i j:Int}(h:CMul i j):Gg (.int i) (.int j) mu=some (.int (i*j),mu):=by
 unfold Gg
 dsimp only
 rw [if_pos h]
theorem R4 {i j:Int}(h:Ma i j):KG (.int i) (.int j) mu=some (.int (i / j),mu):=by
 unfold KG
 dsimp only
 rw [if_pos h]
theorem OL {o i:Ex}{d:D}{ro:Ro}:gIx o i d ro mu=bM (o ro mu) λx m1=>bM (i ro m1) λe m2=>bM (putG x e d m2) λ_ m3=>some (ro,m3):=rfl
theorem VM {k:Nat}{ds:List D}{v:D}{j:Nat}(h:mu[k]? = some (.lst ds))(hj:j<ds.length):putG (.ref k) (.int j) v mu=some ((),mu.set k (.lst (ds.set j v))):=by
 have e:ixN ds.length (j:Int)=some j:=by
  unfold ixN
  rw [if_pos (by omega),if_pos (by omega),Int.toNat_natCast]
 simp only [putG,h,UE,e]
theorem MS {k:Nat}{ds:List D}{d:D}{j:Nat}(h:mu[k]? = some (.lst ds))(hd:ds[j]? = some d):ixG (.ref k) (.int j) mu=some (d,mu):=by
 have:=(Ae.mp hd).1
 have e:ixN ds.length (j:Int)=some j:=by
  unfold ixN
  rw [if_pos (by omega),if_pos (by omega),Int.toNat_natCast]
 have:ixD (.ref k) (.int j) mu=some (d,mu):=by
  simp only [ixD,DS,h,atI,e,Option.bind_some,hd,Option.map_some]
 unfold ixG
 rw [this]
theorem FY {k:Nat}{o o':MO}(h:mu[k]? = some o):(mu.set k o')[k]? = some o':=by
 have:=(Ae.mp h).1
 simp [this]
noncomputable def HandOk (mu:Sto)(k n:Nat):Prop:=∃ a b c:Int,mu[k]? = some (.lst [.int a,.int b,.int c])∧(-(2 ^ 63)<b∧b<2 ^ 63)∧0≤c∧c+n<2 ^ 40
theorem HandOk.mono {mu:Sto}{k n n':Nat}(h:HandOk mu k n)(l:n'≤n):HandOk mu k n':=by
 obtain ⟨a,b,c,h1,h2,h3,h4⟩:=h
 exact ⟨a,b,c,h1,h2,h3,by omega⟩
theorem HandOk.lt {k n:Nat}(h:HandOk mu k n):k<mu.length:=by
 obtain ⟨a,b,c,h1,_⟩:=h
 exact (Ae.mp h1).1
noncomputable def Flat (mu:Sto):Prop:=∀ (j:Nat) (o:MO),mu[j]? = some o->ND 0 o=true
structure Fr (k n:Nat) (mu mu':Sto):Prop where
 hand:HandOk mu' k n
 keep:∀ j,j≠k->mu'[j]? = mu[j]?
 len:mu'.length=mu.length
theorem Fr.refl {k n:Nat}{mu:Sto}(h:HandOk mu k n):Fr k n mu mu:=⟨h,λ_ _=>rfl,rfl⟩
theorem Fr.trans {k n n':Nat}{a b c:Sto}(x:Fr k n a b)(y:Fr k n' b c):Fr k n' a c:=⟨y.hand,λj hk=>(y.keep j hk).trans (x.keep j hk),y.len.trans x.len⟩
theorem Fr.mono {k n n':Nat}{a b:Sto}(x:Fr k n a b)(l:n'≤n):Fr k n' a b:=⟨x.hand.mono l,x.keep,x.len⟩
theorem Fr.flat {k n:Nat}{a b:Sto}(x:Fr k n a b)(h:Flat a):Flat b:=by
 intro j o e
 by_cases c:j=k
 ·subst c
  obtain ⟨_,_,_,h1,_⟩:=x.hand
  rw [h1] at e
  cases e
  rfl
 ·rw [x.keep j c] at e
  exact h j o e
noncomputable def Run (r:Rs D)(k n:Nat)(mu:Sto)(P:D->Prop):Prop:=∃ d mu',r=some (d,mu')∧Fr k n mu mu'∧P d
theorem Ox {ds:List D}{t:Int}(h0:0≤t)(h1:t<ds.length):∃ d,d∈ds∧ds[t.toNat]? = some d:=by
 have h:t.toNat<ds.length:=by omega
 exact ⟨ds[t.toNat],BD h,Ah h⟩
theorem Nd {ds:List D}{d:D}{t:Int}(s:D)(hs:s=.lst ds∨s=.tup ds)(h0:0≤t)(h:ds[t.toNat]? = some d):ixG s (.int t) mu=some (d,mu):=by
 have:=LO (mu:=mu) s hs h
 rwa [Int.toNat_of_nonneg h0] at this
end PV
namespace PG
open PySem L2 PV PyProof.Rows K1
variable {mu:Sto}
theorem Dt {k n:Nat}{m:Int}(h:HandOk mu k (n+1))(m0:0<m)(m1:m<1073741824):Run (Cw [.ref k,.int m] mu) k n mu λd=>∃ t:Int,d=.int t∧0≤t∧t<m:=by
 obtain ⟨a,b,c,h1,h2,h3,h4⟩:=h
 have hk:k<mu.length:=(Ae.mp h1).1
 have fr:∀ a' c':Int,0≤c'->c'≤c+1->Fr k n mu (mu.set k (.lst [.int a',.int b,.int c'])):=λa' c' z1 z2=>⟨⟨a',b,c',FY h1,h2,z1,by omega⟩,λj hj=>by rw [AV (Ne.symm hj)],by simp⟩
 have i0:ixG (.ref k) (.int 0) mu=some (.int a,mu):=MS (j:=0) h1 rfl
 by_cases ha:0<a
 ·refine ⟨.int (a % m),_,?_,fr (a / m) c h3 (by omega),a % m,rfl,BB _ (by omega),Bn _ m0⟩
  have cd:Ma a m:=⟨m0,m1⟩
  have p0:∀ v,putG (.ref k) (.int 0) v mu=some ((),mu.set k (.lst [v,.int b,.int c])):=λv=>VM (j:=0) h1 (by simp)
  have ha':decide (0<a)=true:=by simp [ha]
  simp_arith only [Cw,GQ,i0,ha',Je m0,R4 cd,OL,p0]
 ·refine ⟨.int (((b*(48271+2*(c+1)*(c+1)+65537*(c+1)) % 2305843009213693921*(b*(48271+2*(c+1)*(c+1)+65537*(c+1)) % 2305843009213693921 % 1000003+(c+1)*99991+11) % 2305843009213693907) / 97+(b*(48271+2*(c+1)*(c+1)+65537*(c+1)) % 2305843009213693921*(b*(48271+2*(c+1)*(c+1)+65537*(c+1)) % 2305843009213693921 % 1000003+(c+1)*99991+11) % 2305843009213693907) / 1000033) % m),_,?_,fr a (c+1) (by omega) (by omega),_,rfl,BB _ (by omega),Bn _ m0⟩
  have hs:∀ o,(mu.set k o)[k]? = some o:=λo=>FY h1
  have c1:CMul 2 (c+1):=.inl ⟨by decide,by decide⟩
  have c2:CMul (2*(c+1)) (c+1):=.inl ⟨by omega,by omega⟩
  have c3:CMul 65537 (c+1):=.inl ⟨by decide,by decide⟩
  have c4:∀ z,CMul b z:=λz=>.inl ⟨by omega,by omega⟩
  have c5:CMul (c+1) 99991:=.inr ⟨by decide,by decide⟩
  have c6:∀ y z:Int,CMul (y % 2305843009213693921) z:=λy z=>.inl ⟨by omega,by omega⟩
  have c7:∀ y:Int,Ma y 97:=λy=>⟨by decide,by decide⟩
  have c8:∀ y:Int,Ma y 1000033:=λy=>⟨by decide,by decide⟩
  have i2:ixG (.ref k) (.int 2) mu=some (.int c,mu):=MS (j:=2) h1 rfl
  have p2:∀ v,putG (.ref k) (.int 2) v mu=some ((),mu.set k (.lst [.int a,.int b,v])):=λv=>VM (j:=2) h1 (by simp)
  have j1:∀ v,ixG (.ref k) (.int 1) (mu.set k (.lst [.int a,.int b,v]))=some (.int b,mu.set k (.lst [.int a,.int b,v])):=λv=>MS (j:=1) (hs _) rfl
  have j2:∀ v,ixG (.ref k) (.int 2) (mu.set k (.lst [.int a,.int b,v]))=some (v,mu.set k (.lst [.int a,.int b,v])):=λv=>MS (j:=2) (hs _) rfl
  have ha':decide (0<a)=false:=by simp [ha]
  simp_arith only [Cw,GQ,i0,ha',Je,Je m0,R4,Ry,OL,i2,p2,j1,j2,c1,c2,c3,c4,c5,c6,c7,c8,Int.reduceLT]
theorem pick_run {k n:Nat}{s:D}{ds:List D}(hs:s=.lst ds∨s=.tup ds)(hn:ds≠[])(hl:ds.length<1073741824)(h:HandOk mu k (n+1)):Run (CT [.ref k,s] mu) k n mu λd=>d∈ds:=by
 have pos:0<ds.length:=List.length_pos_iff.mpr hn
 obtain ⟨_,mu',e,fr,t,rfl,t0,t1⟩:=Dt (m:=ds.length) h (by omega) (by omega)
 obtain ⟨d,hd,ed⟩:=Ox t0 t1
 refine ⟨d,mu',?_,fr,hd⟩
 have ix:=Nd (mu:=mu') s hs t0 ed
 rcases hs with rfl|rfl
 ·simp_arith only [CT,GB,e,ix]
 ·simp_arith only [CT,GB,e,ix]
theorem Rn:∀ c∈DX.cps.toList,decide (c<0x110000)=true:=by decide +kernel
theorem Kd {x:Str}(h:∀ c∈x.cps.toList,c∈DX.cps.toList):PyData.strOk x=true:=by
 unfold PyData.strOk
 rw [← Array.all_toList,Au]
 exact λc hc=>Rn c (h c hc)
theorem Rx {x y:Str}(h:x.length+y.length≤sizeLine):Df (.str x) (.str y) mu=some (.str (x++y),mu):=by
 simp only [Df,h,if_true]
theorem VG {x:Str}{lo hi:Option Int}(h:PyData.strOk (Txt.slice x lo hi)=true):slD (.str x) lo hi mu=some (.str (Txt.slice x lo hi),mu):=by
 simp only [slD,h,if_true]
theorem IK {k n:Nat}{many:Int}(m0:0≤many)(m6:many≤6)(h:HandOk mu k (n+5)):Run (En [.ref k,.int many,.int 8] mu) k n mu λd=>∃ ws:List Str,d=.lst (ws.map D.str)∧(ws.length:Int)=many∧ws.Nodup∧∀ x∈ws,IsW x:=by
 obtain ⟨_,mu1,e1,f1,fi,rfl,a0,a1⟩:=Dt (m:=36) (n:=n+4) h (by decide) (by decide)
 obtain ⟨st,mu2,e2,f2,hst⟩:=pick_run (s:=.lst [.int 1,.int 5,.int 7,.int 11,.int 13,.int 17]) (n:=n+3) (.inl rfl) (by simp) (by decide) f1.hand
 obtain ⟨_,mu3,e3,f3,si,rfl,b0,b1⟩:=Dt (m:=36) (n:=n+2) f2.hand (by decide) (by decide)
 obtain ⟨mv,mu4,e4,f4,hmv⟩:=pick_run (s:=.lst [.int 0,.int 1,.int 0,.int 2,.int 7]) (n:=n+1) (.inl rfl) (by simp) (by decide) f3.hand
 obtain ⟨s',rfl,hs⟩:∃ s':Int,st=.int s'∧Ko s':=by
  simp only [Am,AJ,BG] at hst
  unfold Ko
  rcases hst with rfl|rfl|rfl|rfl|rfl|rfl<;>exact ⟨_,rfl,by decide⟩
 obtain ⟨v,rfl,v0,v7⟩:∃ v:Int,mv=.int v∧0≤v∧v≤7:=by
  simp only [Am,AJ,BG] at hmv
  rcases hmv with rfl|rfl|rfl|rfl|rfl<;>exact ⟨_,rfl,by decide,by decide⟩
 have hmin:ME [.int 7,.int v] mu4=some (.int v,mu4):=by
  have:(if v<7 then v else 7)=v:=by split<;>omega
  simp only [ME,PV.ints2,Option.map_some,this]
 obtain ⟨ch,hc,ix3⟩:∃ ch,ch∈DX.cps.toList∧ixG (.str (Str.ofString "abcdefghijklmnopqrstuvwxyz0123456789")) (.int si) mu3=some (.str ⟨#[ch]⟩,mu3):=⟨_,Ak (Hc b0 b1),MZ b0 b1⟩
 have len:(Txt.mul ⟨#[ch]⟩ v).length=v.toNat:=by
  have:=congrArg List.length (mul_list (ch) v v0 v7)
  simpa [Str.length] using this
 generalize hst:Txt.mul ⟨#[ch]⟩ v=stem at len
 have stl:stem.cps.toList=List.replicate v.toNat (ch):=by rw [← hst];exact mul_list _ v v0 v7
 have stAll:∀ x∈stem.cps.toList,x=ch:=λx hx=>by rw [stl] at hx;exact (List.mem_replicate.mp hx).2
 obtain ⟨_,mu5,e5,f5,at',rfl,c0,c1⟩:=Dt (m:=(stem.length:Int)+1) (n:=n) f4.hand (by omega) (by omega)
 have at2:at'≤stem.length:=by omega
 have sl1:=RS (x:=stem) c0 at2
 have sl2:=Oe (x:=stem) c0 at2
 have allA:∀ x∈(Txt.slice stem none (some at')).cps.toList,x=ch:=λx hx=>stAll x (by rw [sl1] at hx;exact List.mem_of_mem_take hx)
 have allB:∀ x∈(Txt.slice stem (some at') none).cps.toList,x=ch:=λx hx=>stAll x (by rw [sl2] at hx;exact BJ hx)
 have lens:(Txt.slice stem none (some at')).length+(Txt.slice stem (some at') none).length≤7:=by
  have l1:=congrArg List.length sl1
  have l2:=congrArg List.length sl2
  simp only [Array.length_toList,Az,Bu] at l1 l2
  have ls:stem.cps.size=v.toNat:=len
  unfold Str.length
  omega
 refine ⟨.lst ((NC (Txt.slice stem none (some at')) (Txt.slice stem (some at') none) fi s' many.toNat).map D.str),mu5,?_,(((f1.trans f2).trans f3).trans f4).trans f5,_,rfl,by simp [NC];omega,Ul hs (by omega),λx hx=>?_⟩
 ·have mo:MulOk ⟨#[ch]⟩ v:=ZD _ v v0 v7
  have okm:PyData.strOk stem=true:=Kd λc h=>by rw [stAll c h];exact hc
  have okA:PyData.strOk (Txt.slice stem none (some at'))=true:=Kd λc h=>by rw [allA c h];exact hc
  have okB:PyData.strOk (Txt.slice stem (some at') none)=true:=Kd λc h=>by rw [allB c h];exact hc
  have zl:stem.length≤sizeLine:=by rw [AH];omega
  have lc:G3 none mu5 (gNm 0) tY (Cs Df (Cs Df (eSl (Co 1) pNo (Dh (Co 2))) (Cs ixG (Co 3) (Cs Gm (Cs Df (Co 4) (Cs Gg (Co 5) (Co 0))) (eC (.int 36))))) (eSl (Co 1) (Dh (Co 2)) pNo)) [none,some (.str stem),some (.int at'),some (.str DX),some (.int fi),some (.int s')] (Eg 0 many.toNat) mu5=some ((NC (Txt.slice stem none (some at')) (Txt.slice stem (some at') none) fi s' many.toNat).map D.str,mu5):=by
   have ew:(NC (Txt.slice stem none (some at')) (Txt.slice stem (some at') none) fi s' many.toNat).map D.str=(Eg 0 many.toNat).map λd=>match d with|.int i=>.str (wrd (Txt.slice stem none (some at')) (Txt.slice stem (some at') none) fi s' i.toNat)|_=>.non:=by
    unfold NC Eg
    rw [BN,BN]
    refine List.map_congr_left λj _=>?_
    simp
   rw [ew]
   refine HJ _ _ λd hd=>⟨_,rfl,?_⟩
   unfold Eg at hd
   obtain ⟨j,hj,rfl⟩:=Ap.mp hd
   have i0:=BB (fi+s'*(j:Int)) (show (36:Int)≠0 by decide)
   have i1:=Bn (fi+s'*(j:Int)) (show (0:Int)<36 by decide)
   have ix:=MZ (mu:=mu5) i0 i1
   have cm:CMul s' (j:Int):=.inl (by rcases hs with rfl|rfl|rfl|rfl|rfl|rfl<;>exact ⟨by decide,by decide⟩)
   have z1:(Txt.slice stem none (some at')).length+(⟨#[DX.cps.toList.getD ((fi+s'*(j:Int)) % 36).toNat 0]⟩:Str).length≤sizeLine:=by
    rw [AH,show (⟨#[DX.cps.toList.getD ((fi+s'*(j:Int)) % 36).toNat 0]⟩:Str).length=1 from rfl]
    omega
   have z2:(Txt.slice stem none (some at')++(⟨#[DX.cps.toList.getD ((fi+s'*(j:Int)) % 36).toNat 0]⟩:Str)).length+(Txt.slice stem (some at') none).length≤sizeLine:=by
    rw [AH,PySem.Str.length_append,show (⟨#[DX.cps.toList.getD ((fi+s'*(j:Int)) % 36).toNat 0]⟩:Str).length=1 from rfl]
    omega
   simp_arith only [VG okA,VG okB,Ry cm,Je,Int.reduceLT,Int.zero_add,ix,Rx z1,Rx z2,Int.toNat_natCast]
   rfl
  have mm:Gg (.str ⟨#[ch]⟩) (.int v) mu4=some (.str stem,mu4):=by
   unfold Gg
   dsimp only
   rw [hst,if_pos ⟨mo,zl,okm⟩]
  have rg:=Ng (mu:=mu5) (ro:=[some (.ref k),some (.int many),some (.int 8),some (.str DX),some (.int fi),some (.int s'),some (.str stem),some (.int at')]) (r:=Cn (Co 1) Cr) (n:=many) (m:=mu5) rfl (by omega) (by rw [AH];omega)
  have rg':iRg (Cn (Co 1) Cr) [some (.ref k),some (.int many),some (.int 8),some (.str (Str.ofString "abcdefghijklmnopqrstuvwxyz0123456789")),some (.int fi),some (.int s'),some (.str stem),some (.int at')] mu5=some ((Eg 0 many.toNat,none),mu5):=rg
  simp_arith only [En,He,e1,e2,e3,ix3,Int.reduceSub,e4,hmin,mm,e5,rg',lc]
 ·unfold NC at hx
  obtain ⟨j,_,rfl⟩:=Ap.mp hx
  exact Ve hc allA allB lens
theorem Sv {k n:Nat}{ns:List Int}(hk:k<64)(hn:n<2 ^ 39):∃ o,EH [.lst (ns.map D.int),.int k] mu=some (.ref mu.length,mu++[o])∧HandOk (mu++[o]) mu.length n:=by
 have fin:∀ c:Int,∃ a b:Int,sRt (G2 (Cn (Cs Gg (Co 2) (Ct RV (Cn (Cs geD (Co 2) (Cs RY (eC (.int 10)) (eC (.int 18)))) Cr))) (Cn (Cs Df (Cs Df (Cs Gm (Co 2) (eC (.int 2305843009213693951))) (Cs Gg (eC (.int 7919)) (Co 1))) (eC (.int 3))) (Cn (eC (.int 0)) Cr)))) [some (.lst (ns.map D.int)),some (.int k),some (.int c)] mu=some ((.rt (.ref mu.length),[some (.lst (ns.map D.int)),some (.int k),some (.int c)]),mu++[.lst [.int a,.int b,.int 0]])∧(-(2 ^ 63)<b∧b<2 ^ 63):=by
  intro c
  refine ⟨c*(if (1000000000000000000:Int)≤c then 1 else 0),c % 2305843009213693951+7919*(k:Int)+3,?_,?_⟩
  ·have p1:P4 10 18:=⟨by decide,by decide,by decide⟩
   have p3:CMul 7919 (k:Int):=.inl ⟨by decide,by decide⟩
   have p4:CMul c (if (1000000000000000000:Int)≤c then 1 else 0):=.inr (by split<;>exact ⟨by decide,by decide⟩)
   simp [sRt,G2,Cn,Cr,Cs,Co,Ct,eC,bM,geD,Tp,RY,p1,RV,intOf,Gg,p3,Df,Gm,p4]
  ·have:=BB c (show (2305843009213693951:Int)≠0 by decide)
   have:=Bn c (show (0:Int)<2305843009213693951 by decide)
   omega
 have done:∀ (a b:Int),(-(2 ^ 63)<b∧b<2 ^ 63)->HandOk (mu++[.lst [.int a,.int b,.int 0]]) mu.length n:=λa b hb=>⟨a,b,0,by simp,hb,Int.le_refl _,by omega⟩
 by_cases c:k<ns.length
 ·have e:ixG (.lst (ns.map D.int)) (.int k) mu=some (.int ns[k],mu):=LO _ (.inl rfl) (by simp [c])
  obtain ⟨a,b,e2,hb⟩:=fin ns[k]
  refine ⟨_,?_,done a b hb⟩
  have c':decide ((k:Int)<((ns.map D.int).length:Int))=true:=by simp [c]
  generalize hR:sRt (G2 _)=R at e2
  simp only [EH,GO,hR]
  simp_arith only [c',e,e2]
 ·obtain ⟨a,b,e2,hb⟩:=fin 0
  refine ⟨_,?_,done a b hb⟩
  have c':decide ((k:Int)<((ns.map D.int).length:Int))=false:=by simp [c]
  generalize hR:sRt (G2 _)=R at e2
  simp only [EH,GO,hR]
  simp_arith only [c',e2]
end PG
namespace PV
open PySem L2 PyProof.Rows K1
variable {mu:Sto}
theorem FE {m0:Sto}{tg:Gx}{body:Sx}(Inv:Nat->Ro->Sto->Prop):∀ (ds:List D) (i:Nat) (ro:Ro) (mu:Sto),Inv i ro mu->(∀ j d ro mu,ds[j]? = some d->Inv (i+j) ro mu->∃ ro1 m1 ro2 m2,tg d ro mu=some (ro1,m1)∧body ro1 m1=some ((.nx,ro2),m2)∧Inv (i+j+1) ro2 m2) ->
  ∃ ro' mu',Ey none m0 tg body ds ro mu=some ((.nx,ro'),mu')∧Inv (i+ds.length) ro' mu'
 | [],i,ro,mu,h,_=>⟨ro,mu,rfl,h⟩
 | d::ds,i,ro,mu,h,st=>by
  obtain ⟨ro1,m1,ro2,m2,e1,e2,h2⟩:=st 0 d ro mu rfl h
  obtain ⟨ro',mu',e3,h3⟩:=FE (m0:=m0) (tg:=tg) (body:=body) Inv ds (i+1) ro2 m2 h2 λj d' ro mu ed hi=>by
   have:=st (j+1) d' ro mu (by simpa using ed) (by rw [show i+(j+1)=i+1+j by omega];exact hi)
   rw [show i+(j+1)+1=i+1+j+1 by omega] at this
   exact this
  refine ⟨ro',mu',?_,by rw [List.length_cons,show i+(ds.length+1)=i+1+ds.length by omega];exact h3⟩
  unfold Ey
  rw [e1,Ef,e2,Ef]
  dsimp only
  rw [Ff,if_pos (show gOk none m0 m2 from True.intro),e3]
theorem GH {n j:Nat}{d:D}(h:(Eg 0 n)[j]? = some d):d=.int j∧j<n:=by
 unfold Eg at h
 rw [Al] at h
 cases q:(List.range n)[j]? with
 | none=>rw [q] at h;cases h
 | some k =>
  rw [q] at h
  obtain ⟨hj,e⟩:=Ae.mp q
  rw [Bx] at hj
  rw [List.getElem_range] at e
  subst e
  exact ⟨by simpa using h.symm,hj⟩
theorem ID (n:Nat):(Eg 0 n).length=n:=by simp [Eg]
theorem append_at {mu':Sto}{r:Nat}{ds ds0:List D}{y:D}(h0:mu[r]? = some (.lst ds0))(h:mu'[r]? = some (.lst ds))(hl:ds.length<sizeLine){ro:Ro}{i:Nat}{e:Ex}(h1:Co i ro mu=some (.ref r,mu))(h2:e ro mu=some (y,mu')):KY (Co i) (Cn e Cr) ro mu=some (.non,mu'.set r (.lst (ds++[y]))):=by
 have ok:Ek mu (.ref r)=true:=by simp [Ek,h0]
 have a1:HL [y]=some y:=rfl
 simp only [KY,h1,QE,ok,if_true,WJ,WH,h2,a1,h,hl]
theorem TY {n x y:Int}(hn:0<n)(h:x % n=y % n)(h1:x-y<n)(h2:y-x<n):x=y:=by
 have e1:=Int.mul_ediv_add_emod x n
 have e2:=Int.mul_ediv_add_emod y n
 have e:n*(x / n-y / n)=x-y:=by rw [Int.mul_sub];omega
 rcases Int.lt_trichotomy (x / n-y / n) 0 with c|c|c
 ·have:n*(x / n-y / n)≤n*(-1):=Int.mul_le_mul_of_nonneg_left (by omega) (by omega)
  omega
 ·rw [c] at e
  omega
 ·have:n*1≤n*(x / n-y / n):=Int.mul_le_mul_of_nonneg_left (by omega) (by omega)
  omega
noncomputable def rot (ws:List Str)(t:Int)(s:Nat):List Str:=(List.range s).map λj:Nat=>ws.getD (((j:Int)+t) % (ws.length:Int)).toNat ⟨#[]⟩
theorem KL {ws:List Str}(hw:0<ws.length)(x:Int):ws[(x % (ws.length:Int)).toNat]? = some (ws.getD (x % (ws.length:Int)).toNat ⟨#[]⟩):=by
 have h0:=BB x (show (ws.length:Int)≠0 by omega)
 have h1:=Bn x (show (0:Int)<ws.length by omega)
 have h:(x % (ws.length:Int)).toNat<ws.length:=by omega
 rw [AN,Ah h]
 rfl
theorem Uj {ws:List Str}{t:Int}{s:Nat}(hw:0<ws.length):∀ x∈rot ws t s,x∈ws:=by
 intro x hx
 unfold rot at hx
 obtain ⟨j,_,rfl⟩:=Ap.mp hx
 exact Ak (KL hw _)
theorem SG {ws:List Str}{t:Int}{s:Nat}(hw:0<ws.length)(hd:ws.Nodup)(hs:s≤ws.length):(rot ws t s).Nodup:=by
 unfold rot
 rw [AE,Bl]
 refine BE (λ{a b} ha hb hne e=>hne ?_) (AE.mp Ci)
 rw [AX] at ha hb
 have a0:=BB ((a:Int)+t) (show (ws.length:Int)≠0 by omega)
 have a1:=Bn ((a:Int)+t) (show (0:Int)<ws.length by omega)
 have b0:=BB ((b:Int)+t) (show (ws.length:Int)≠0 by omega)
 have b1:=Bn ((b:Int)+t) (show (0:Int)<ws.length by omega)
 have e1:=KL hw ((a:Int)+t)
 have e2:=KL hw ((b:Int)+t)
 rw [e,← e2] at e1
 have l1:(((a:Int)+t) % (ws.length:Int)).toNat<ws.length:=by omega
 have l2:(((b:Int)+t) % (ws.length:Int)).toNat<ws.length:=by omega
 rw [Ah l1,Ah l2] at e1
 have h:=(List.getElem_inj hd).mp (AB e1)
 have:=TY (n:=ws.length) (x:=(a:Int)+t) (y:=(b:Int)+t) (by omega) (by omega) (by omega) (by omega)
 omega
theorem Mb (ws:List Str)(t:Int)(s:Nat):(rot ws t s).length=s:=by simp [rot]
theorem TH {ws:List Str}(hw:0<ws.length)(x:Int):ixG (.lst (ws.map D.str)) (.int (x % (ws.length:Int))) mu=some (.str (ws.getD (x % (ws.length:Int)).toNat ⟨#[]⟩),mu):=by
 have h0:=BB x (show (ws.length:Int)≠0 by omega)
 refine Nd (ds:=ws.map D.str) _ (.inl rfl) h0 ?_
 rw [Al,KL hw]
 rfl
mutual
noncomputable def okD:D->Bool
 | .ref _=>false
 | .tup ds=>decide (ds.length≤1000)&&okL ds
 | .lst ds=>okL ds
 | .dct ks ds=>okL ks&&okL ds
 | .set ds=>okL ds
 | _=>true
noncomputable def okL:List D->Bool
 | []=>true
 | d::ds=>okD d&&okL ds
end
mutual
theorem Ru:∀ {d:D},okD d=true->Dy 0 d=true
 | .non,_=>rfl
 | .bl _,_=>rfl
 | .int _,_=>rfl
 | .str _,_=>rfl
 | .ref k,e=>by simp [okD] at e
 | .tup ds,e=>by
  simp only [okD,Ab] at e
  simp only [Dy]
  exact Hv e.2
 | .lst ds,e=>by
  simp only [okD] at e
  simp only [Dy]
  exact Hv e
 | .set ds,e=>by
  simp only [okD] at e
  simp only [Dy]
  exact Hv e
 | .dct ks ds,e=>by
  simp only [okD,Ab] at e
  simp only [Dy,Ab]
  exact ⟨Hv e.1,Hv e.2⟩
theorem Hv:∀ {ds:List D},okL ds=true->E7 0 ds=true
 | [],_=>rfl
 | d::ds,e=>by
  simp only [okL,Ab] at e
  simp only [E7,Ab]
  exact ⟨Ru e.1,Hv e.2⟩
end
theorem Mv {ds:List D}:okL ds=true ↔ ∀ d∈ds,okD d=true:=by
 induction ds with
 | nil=>simp [okL]
 | cons d ds ih=>simp [okL,ih]
theorem UA (ss:List Str):okL (ss.map D.str)=true:=by
 rw [Mv]
 intro d hd
 obtain ⟨x,_,rfl⟩:=Ap.mp hd
 rfl
end PV
namespace PG
open PySem L2 PV PyProof.Rows K1
variable {mu:Sto}
theorem Qe {ss:List Str}(h0:0<ss.length)(h4:ss.length≤4)(hd:ss.Nodup)(hw:∀ x∈ss,IsW x):HQ (.tup (ss.map D.str))=true:=by
 have W:HQ (.tup (ss.map D.str))=(EV 1 4 (.tup (ss.map D.str))&&((ss.map D.str).all FU&&ndB (ss.map D.str))):=rfl
 rw [W]
 simp only [Ab,EV,Ag,Af,Au,ndB]
 refine ⟨⟨by omega,by omega⟩,λd hd=>?_,IE.mpr hd⟩
 obtain ⟨x,hx,rfl⟩:=Ap.mp hd
 exact II.mpr (hw x hx)
noncomputable def Ll:Sx:=(CI (Dc (EB (Cn (Cs Df (eC (.int 1)) (Ct Cw (Cn (Co 0) (Cn (Co 3) Cr)))) (Cn (Ct Cw (Cn (Co 0) (Cn (eC (.int 2)) Cr))) Cr))) (gTp 2 (CB (gNm 13) (CB (gNm 14) DC)))) (CI (Dc (Ct Gf (Cn (eLC (iRg (Cn (Co 13) Cr)) 1 [6,14] (gNm 0) (tY) (Cs ixG (Co 1) (Cs Gm (Cs Df (Co 0) (Co 2)) (Ct EU (Cn (Co 1) Cr))))) Cr)) (gNm 15)) (sEx (KY (Co 11) (Cn (EB (Cn (Cs ixG (Co 5) (Cs Gm (Cs Df (Co 12) (Co 10)) (Ct EU (Cn (Co 5) Cr)))) (Cn (Co 15) Cr))) Cr)))))
theorem Tt {k n R b c j:Nat}{sh:Int}{a nms fnd nm1 x9:D}{ws st:List Str}{cs:List D}{x13 x14 x15:Option D}(hc:1≤c)(hc4:c≤4)(hw:0<ws.length)(hs:st.length=c+1)(sd:st.Nodup)(sW:∀ x∈st,IsW x)(hR:mu[R]? = some (.lst cs))(hcs:cs.length<100)(hkR:R≠k)(h:HandOk mu k (n+2)) :
  ∃ y13 y14 y15 m' vs,Ll [some (.ref k),some a,some (.int b),some (.int c),some nms,some (.lst (ws.map D.str)),some (.lst (st.map D.str)),some fnd,some nm1,some x9,some (.int sh),some (.ref R),some (.int j),x13,x14,x15] mu=some ((.nx,[some (.ref k),some a,some (.int b),some (.int c),some nms,some (.lst (ws.map D.str)),some (.lst (st.map D.str)),some fnd,some nm1,some x9,some (.int sh),some (.ref R),some (.int j),y13,y14,y15]),m') ∧
   m'[R]? = some (.lst (cs++[.tup [.str (ws.getD (((j:Int)+sh) % (ws.length:Int)).toNat ⟨#[]⟩),.tup vs]]))∧HQ (.tup vs)=true∧okD (.tup vs)=true∧HandOk m' k n∧(∀ i,i≠k->i≠R->m'[i]? = mu[i]?)∧m'.length=mu.length:=by
 obtain ⟨_,m1,e1,f1,t1,rfl,a0,a1⟩:=Dt (m:=c) (n:=n+1) h (by omega) (by omega)
 obtain ⟨_,m2,e2,f2,t2,rfl,b0,b1⟩:=Dt (m:=2) (n:=n) f1.hand (by decide) (by decide)
 have fr:=f1.trans f2
 have hR2:m2[R]? = some (.lst cs):=(fr.keep R hkR).trans hR
 have st0:0<st.length:=by omega
 obtain ⟨s,hs1⟩:∃ s:Nat,1+t1=(s:Int):=⟨(1+t1).toNat,by omega⟩
 have lc:G3 none m2 (gNm 0) tY (Cs ixG (Co 1) (Cs Gm (Cs Df (Co 0) (Co 2)) (Ct EU (Cn (Co 1) Cr)))) [none,some (.lst (st.map D.str)),some (.int t2)] (Eg 0 s) m2=some ((rot st t2 s).map D.str,m2):=by
  have e:(rot st t2 s).map D.str=(Eg 0 s).map λd=>match d with|.int i=>.str (st.getD ((i+t2) % (st.length:Int)).toNat ⟨#[]⟩)|_=>.non:=by
   unfold rot Eg
   rw [BN,BN]
   refine List.map_congr_left λj _=>?_
   simp
  rw [e]
  refine HJ _ _ λd hd=>⟨_,rfl,?_⟩
  unfold Eg at hd
  obtain ⟨i,_,rfl⟩:=Ap.mp hd
  have l0:(0:Int)<(st.length:Int):=by omega
  simp_arith only [Ag,Je l0,TH st0,Int.zero_add]
 have rg:=Ng (mu:=m2) (ro:=[some (.ref k),some a,some (.int b),some (.int c),some nms,some (.lst (ws.map D.str)),some (.lst (st.map D.str)),some fnd,some nm1,some x9,some (.int sh),some (.ref R),some (.int j),some (.int s),some (.int t2),x15]) (r:=Cn (Co 13) Cr) (n:=s) (m:=m2) rfl (by omega) (by rw [AH];omega)
 rw [Int.toNat_natCast] at rg
 have l6:(0:Int)<(ws.length:Int):=by omega
 have ap:=append_at (ro:=[some (.ref k),some a,some (.int b),some (.int c),some nms,some (.lst (ws.map D.str)),some (.lst (st.map D.str)),some fnd,some nm1,some x9,some (.int sh),some (.ref R),some (.int j),some (.int s),some (.int t2),some (.tup ((rot st t2 s).map D.str))]) (i:=11) hR2 hR2 (y:=.tup [.str (ws.getD (((j:Int)+sh) % (ws.length:Int)).toNat ⟨#[]⟩),.tup ((rot st t2 s).map D.str)]) (by rw [AH];omega) rfl (e:=(EB (Cn (Cs ixG (Co 5) (Cs Gm (Cs Df (Co 12) (Co 10)) (Ct EU (Cn (Co 5) Cr)))) (Cn (Co 15) Cr)))) (by
  simp_arith only [Ag,Je l6,TH hw])
 refine ⟨some (.int s),some (.int t2),some (.tup ((rot st t2 s).map D.str)),_,(rot st t2 s).map D.str,?_,FY hR2,Qe (by rw [Mb];omega) (by rw [Mb];omega) (SG st0 sd (by omega)) (λx hx=>sW x (Uj st0 x hx)),?_,?_,?_,?_⟩
 ·unfold Ll
  simp_arith only [e1,e2,hs1,rg,lc,ap]
 ·simp only [okD,UA,Ag,Mb,B0,Af]
  omega
 ·obtain ⟨a,b,c',h1,h2⟩:=f2.hand
  exact ⟨a,b,c',by rw [AV hkR];exact h1,h2⟩
 ·intro i hik hiR
  rw [AV (Ne.symm hiR),fr.keep i hik]
 ·rw [List.length_set,fr.len]
end PG
namespace PV
open PySem L2 PyProof.Rows K1
variable {mu:Sto}
theorem Sy (ws:List Str)(t:Int)(s:Nat):rot ws t (s+1)=rot ws t s++[ws.getD (((s:Int)+t) % (ws.length:Int)).toNat ⟨#[]⟩]:=by
 unfold rot
 rw [List.range_succ,Bs]
 rfl
theorem HandOk.app {k n:Nat}{os:Sto}(h:HandOk mu k n):HandOk (mu++os) k n:=by
 have hk:=h.lt
 obtain ⟨a,b,c',q,r⟩:=h
 exact ⟨a,b,c',by rw [As hk];exact q,r⟩
theorem HandOk.set {k n j:Nat}{o:MO}(h:HandOk mu k n)(hj:j≠k):HandOk (mu.set j o) k n:=by
 obtain ⟨a,b,c',q,r⟩:=h
 exact ⟨a,b,c',by rw [AV hj];exact q,r⟩
theorem Ud {o:MO}{n:Nat}(h:ND 0 o=true):ND n o=true:=by
 cases o with
 | lst ds=>exact FC (AZ _) h
 | dct ks ds =>
  simp only [ND,Ab] at h ⊢
  exact ⟨FC (AZ _) h.1,FC (AZ _) h.2⟩
theorem JL {m:Sto}{d:D}(hd:Dy 0 d=true)(hf:Flat (m.take mu.length)):Mt mu m d=some (d,m.take mu.length):=by
 have e:frz mu.length m 3 d=some d:=by
  unfold frz
  rw [if_pos (RW (AZ _) hd)]
 have al:(m.take mu.length).all (ND mu.length)=true:=by
  rw [Au]
  intro o ho
  obtain ⟨j,hj⟩:=AK.mp ho
  exact Ud (hf j o hj)
 unfold Mt
 rw [e]
 dsimp only
 rw [if_pos al]
end PV
namespace PG
open PySem L2 PV PyProof.Rows K1
variable {mu:Sto}
theorem QW {k n R b c:Nat}{many:Nat}{sh:Int}{a nms fnd nm1:D}{ws st:List Str}(hc:1≤c)(hc4:c≤4)(hw:0<ws.length)(wW:∀ x∈ws,IsW x)(hs:st.length=c+1)(sd:st.Nodup)(sW:∀ x∈st,IsW x)(hm:many≤4)(hR:mu[R]? = some (.lst []))(hkR:R≠k)(h:HandOk mu k (n+2*many)){m0:Sto}{x12 x13 x14 x15:Option D} :
  ∃ (y12 y13 y14 y15:Option D) (mu':Sto) (cs:List D),Ey none m0 (gNm 12) Ll (Eg 0 many) [some (.ref k),some a,some (.int b),some (.int c),some nms,some (.lst (ws.map D.str)),some (.lst (st.map D.str)),some fnd,some nm1,some (.int many),some (.int sh),some (.ref R),x12,x13,x14,x15] mu=some ((.nx,[some (.ref k),some a,some (.int b),some (.int c),some nms,some (.lst (ws.map D.str)),some (.lst (st.map D.str)),some fnd,some nm1,some (.int many),some (.int sh),some (.ref R),y12,y13,y14,y15]),mu') ∧
   mu'[R]? = some (.lst cs)∧cs.length=many∧cs.all L4=true∧okL cs=true∧cs.map Jl=(rot ws sh many).map D.str∧HandOk mu' k n∧(∀ j,j≠k->j≠R->mu'[j]? = mu[j]?)∧mu'.length=mu.length:=by
 have key:=FE (m0:=m0) (tg:=gNm 12) (body:=Ll) (λi ro m=>(∃ y12 y13 y14 y15,ro=[some (.ref k),some a,some (.int b),some (.int c),some nms,some (.lst (ws.map D.str)),some (.lst (st.map D.str)),some fnd,some nm1,some (.int many),some (.int sh),some (.ref R),y12,y13,y14,y15])∧(∃ cs:List D,m[R]? = some (.lst cs)∧cs.length=i∧cs.all L4=true∧okL cs=true∧cs.map Jl=(rot ws sh i).map D.str)∧i≤many∧HandOk m k (n+2*(many-i))∧(∀ j,j≠k->j≠R->m[j]? = mu[j]?)∧m.length=mu.length) (Eg 0 many) 0 [some (.ref k),some a,some (.int b),some (.int c),some nms,some (.lst (ws.map D.str)),some (.lst (st.map D.str)),some fnd,some nm1,some (.int many),some (.int sh),some (.ref R),x12,x13,x14,x15] mu
  ⟨⟨x12,x13,x14,x15,rfl⟩,⟨[],hR,rfl,rfl,rfl,rfl⟩,AZ _,h,λ_ _ _=>rfl,rfl⟩ λj d ro m ed hi=>by
   obtain ⟨⟨y12,y13,y14,y15,rfl⟩,⟨cs,hR',hl,ha,ho,hf⟩,hle,hh,hkeep,hlen⟩:=hi
   obtain ⟨rfl,hj⟩:=GH ed
   obtain ⟨z13,z14,z15,m',vs,e,g1,g2,g3,g4,g5,g6⟩:=Tt (n:=n+2*(many-(0+j+1))) (b:=b) (c:=c) (j:=j) (sh:=sh) (a:=a) (nms:=nms) (fnd:=fnd) (nm1:=nm1) (x9:=.int many) (x13:=y13) (x14:=y14) (x15:=y15) (ws:=ws) hc hc4 hw hs sd sW hR' (by omega) hkR (hh.mono (by omega))
   have wm:=wW _ (Ak (KL hw ((j:Int)+sh)))
   refine ⟨_,m,_,m',rfl,e,⟨_,_,_,_,rfl⟩,⟨_,g1,by simp [hl],?_,?_,?_⟩,by omega,g4,λi hik hiR=>(g5 i hik hiR).trans (hkeep i hik hiR),g6.trans hlen⟩
   ·rw [List.all_append,ha]
    have:L4 (.tup [.str (ws.getD (((j:Int)+sh) % (ws.length:Int)).toNat ⟨#[]⟩),.tup vs])=(wB (ws.getD (((j:Int)+sh) % (ws.length:Int)).toNat ⟨#[]⟩)&&HQ (.tup vs)):=rfl
    rw [List.all_cons,this,II.mpr wm,g2]
    rfl
   ·rw [Mv] at ho ⊢
    intro d hd
    rcases AL.mp hd with hd|hd
    ·exact ho d hd
    ·rw [Aw.mp hd]
     simp only [okD,okL,g3,List.length_cons,List.length_nil]
     simp only [okD] at g3
     rw [g3]
     rfl
   ·rw [Bs,hf,Bq,Sy,Bs]
    rfl
 obtain ⟨ro',mu',e,⟨y12,y13,y14,y15,rfl⟩,⟨cs,a2,a3,a4,a5,a6⟩,_,a7,a8,a9⟩:=key
 rw [ID] at a3 a6 a7
 refine ⟨y12,y13,y14,y15,mu',cs,e,a2,by omega,a4,a5,by rw [a6,Bq],a7.mono (by omega),a8,a9⟩
noncomputable def Pq:Sx:=(CI (PJ 9 10 11 (Cn (Cs Df (eC (.int 1)) (Ct Cw (Cn (Co 0) (Cn (Co 2) Cr)))) (Cn (Ct Cw (Cn (Co 0) (Cn (eC (.int 3)) Cr))) (Cn (G2 Cr) Cr)))) (CI (HC (iRg (Cn (Co 9) Cr)) (gNm 12) Ll) (sEx (KY (Co 7) (Cn (EB (Cn (Co 8) (Cn (Ct Gf (Cn (Co 11) Cr)) (Cn (Cs Df (eC (.int 1)) (Ct Cw (Cn (Co 0) (Cn (Co 9) Cr)))) Cr)))) Cr)))))
theorem OA {R:Nat}{cs:List D}(h:mu[R]? = some (.lst cs)):Gf [.ref R] mu=some (.tup cs,mu):=by
 simp only [Gf,sq1,HL,HF,DS,h,Option.map_some]
theorem Q5 {k n F b c:Nat}{nm:Str}{ws st:List Str}{a nms:D}{ts:List D}{x9 x10 x11 x12 x13 x14 x15:Option D}(hb:1≤b)(hb4:b≤4)(hc:1≤c)(hc4:c≤4)(hw:ws.length=b+2)(wd:ws.Nodup)(wW:∀ x∈ws,IsW x)(hs:st.length=c+1)(sd:st.Nodup)(sW:∀ x∈st,IsW x)(hW:IsW nm)(hF:mu[F]? = some (.lst ts))(hts:ts.length≤100)(hkF:F≠k)(h:HandOk mu k (n+11)) :
  ∃ y9 y10 y11 y12 y13 y14 y15 m2 cs,∃ q:Nat,Pq [some (.ref k),some a,some (.int b),some (.int c),some nms,some (.lst (ws.map D.str)),some (.lst (st.map D.str)),some (.ref F),some (.str nm),x9,x10,x11,x12,x13,x14,x15] mu=some ((.nx,[some (.ref k),some a,some (.int b),some (.int c),some nms,some (.lst (ws.map D.str)),some (.lst (st.map D.str)),some (.ref F),some (.str nm),y9,y10,y11,y12,y13,y14,y15]),m2) ∧
   m2[F]? = some (.lst (ts++[.tup [.str nm,.tup cs,.int q]]))∧Kb (.tup [.str nm,.tup cs,.int q])=true∧okD (.tup [.str nm,.tup cs,.int q])=true∧HandOk m2 k n∧(∀ j,j<mu.length->j≠k->j≠F->m2[j]? = mu[j]?)∧mu.length≤m2.length:=by
 obtain ⟨_,m1,e1,f1,t1,rfl,a0,a1⟩:=Dt (m:=b) (n:=n+10) h (by omega) (by omega)
 obtain ⟨_,m2,e2,f2,t2,rfl,b0,b1⟩:=Dt (m:=3) (n:=n+9) f1.hand (by decide) (by decide)
 have fr:=f1.trans f2
 have hkl:=h.lt
 have hFl:F<mu.length:=(Ae.mp hF).1
 obtain ⟨q,hq⟩:∃ q:Nat,1+t1=(q:Int):=⟨(1+t1).toNat,by omega⟩
 have hR:(m2++[MO.lst []])[m2.length]? = some (.lst []):=by simp
 have l2:=fr.len
 obtain ⟨y12,y13,y14,y15,m3,cs,e3,g1,g2,g3,g4,g5,g6,g7,g8⟩:=QW (mu:=m2++[MO.lst []]) (k:=k) (n:=n+1) (R:=m2.length) (b:=b) (c:=c) (many:=q) (sh:=t2) (a:=a) (nms:=nms) (fnd:=.ref F) (nm1:=.str nm) (ws:=ws) (st:=st) hc hc4 (by omega) wW hs sd sW (by omega) hR (by omega) (f2.hand.app.mono (by omega)) (m0:=m2++[MO.lst []]) (x12:=x12) (x13:=x13) (x14:=x14) (x15:=x15)
 have F3:m3[F]? = some (.lst ts):=by
  rw [g7 F hkF (by omega),As (by omega),fr.keep F hkF,hF]
 obtain ⟨_,m4,e4,f4,t4,rfl,c0,c1⟩:=Dt (m:=q) (n:=n) g6 (by omega) (by omega)
 have F4:m4[F]? = some (.lst ts):=(f4.keep F hkF).trans F3
 obtain ⟨p,hp⟩:∃ p:Nat,1+t4=(p:Int):=⟨(1+t4).toNat,by omega⟩
 have ap:=append_at (ro:=[some (.ref k),some a,some (.int b),some (.int c),some nms,some (.lst (ws.map D.str)),some (.lst (st.map D.str)),some (.ref F),some (.str nm),some (.int q),some (.int t2),some (.ref m2.length),y12,y13,y14,y15]) (i:=7) F3 F4 (y:=.tup [.str nm,.tup cs,.int p]) (by rw [AH];omega) rfl (e:=(EB (Cn (Co 8) (Cn (Ct Gf (Cn (Co 11) Cr)) (Cn (Cs Df (eC (.int 1)) (Ct Cw (Cn (Co 0) (Cn (Co 9) Cr)))) Cr))))) (by
  simp_arith only [OA g1,e4,hp])
 have rg:=Ng (mu:=m2++[MO.lst []]) (ro:=[some (.ref k),some a,some (.int b),some (.int c),some nms,some (.lst (ws.map D.str)),some (.lst (st.map D.str)),some (.ref F),some (.str nm),some (.int q),some (.int t2),some (.ref m2.length),x12,x13,x14,x15]) (r:=Cn (Co 9) Cr) (n:=q) (m:=m2++[MO.lst []]) rfl (by omega) (by rw [AH];omega)
 rw [Int.toNat_natCast] at rg
 refine ⟨some (.int q),some (.int t2),some (.ref m2.length),y12,y13,y14,y15,_,cs,p,?_,FY F4,?_,?_,f4.hand.set hkF,?_,?_⟩
 ·unfold Pq
  simp_arith only [e1,e2,hq,rg,e3,ap]
 ·have T:Kb (.tup [.str nm,.tup cs,.int p])=((wB nm&&((EV 1 4 (.tup cs)&&cs.all L4)&&ndB (cs.map Jl)))&&(decide ((1:Int)≤p)&&decide ((p:Int)≤cs.length))):=rfl
  rw [T,II.mpr hW,g3,g5]
  have nd:ndB ((rot ws t2 q).map D.str)=true:=by
   unfold ndB
   rw [Af]
   exact IE.mpr (SG (by omega) wd (by omega))
  rw [nd]
  simp only [EV,B0,BF,Ab,Af]
  omega
 ·simp only [okD,okL,g4,List.length_cons,List.length_nil,B0,BF,Ab,Af]
  omega
 ·intro i hi hik hiF
  rw [AV (Ne.symm hiF),f4.keep i hik,g7 i hik (by omega),As (by omega),fr.keep i hik]
 ·rw [List.length_set]
  have:=f4.len
  simp only [Ar,List.length_cons,List.length_nil] at g8
  omega
theorem Og {k n a b c:Nat}(ha:1≤a)(ha4:a≤4)(hb:1≤b)(hb4:b≤4)(hc:1≤c)(hc4:c≤4)(hfl:Flat mu)(h:HandOk mu k (n+60)):Run (D9 [.ref k,.int a,.int b,.int c] mu) k n mu λd=>∃ ds,d=.tup ds∧TN d=true∧okD d=true:=by
 obtain ⟨_,m1,e1,f1,t1,rfl,a0,a1⟩:=Dt (m:=a) (n:=n+59) h (by omega) (by omega)
 obtain ⟨_,m2,e2,f2,nm,rfl,nl,nd,nW⟩:=IK (many:=1+t1) (n:=n+54) (by omega) (by omega) f1.hand
 obtain ⟨_,m3,e3,f3,ws,rfl,wl,wd,wW⟩:=IK (many:=(b:Int)+2) (n:=n+49) (by omega) (by omega) f2.hand
 obtain ⟨_,m4,e4,f4,st,rfl,sl,sd,sW⟩:=IK (many:=(c:Int)+1) (n:=n+44) (by omega) (by omega) f3.hand
 have fr:=((f1.trans f2).trans f3).trans f4
 have l4:=fr.len
 obtain ⟨us,ue,up⟩:=QF (Dv (nm.map D.str))
 have ul:=up.length_eq
 have ud:us.Nodup:=up.nodup_iff.mpr nd
 have hkl:=f4.hand.lt
 have key:=FE (m0:=m4++[MO.lst []]) (tg:=gNm 8) (body:=Pq) (λi ro m=>(∃ y8 y9 y10 y11 y12 y13 y14 y15,ro=[some (.ref k),some (.int a),some (.int b),some (.int c),some (.lst (us.map D.str)),some (.lst (ws.map D.str)),some (.lst (st.map D.str)),some (.ref m4.length),y8,y9,y10,y11,y12,y13,y14,y15]) ∧
   (∃ ts:List D,m[m4.length]? = some (.lst ts)∧ts.length=i∧ts.all Kb=true∧okL ts=true∧ts.map Jl=(us.take i).map D.str)∧i≤us.length∧HandOk m k (n+11*(us.length-i))∧(∀ j,j<m4.length->j≠k->m[j]? = m4[j]?)∧m4.length<m.length) (us.map D.str) 0
   [some (.ref k),some (.int a),some (.int b),some (.int c),some (.lst (us.map D.str)),some (.lst (ws.map D.str)),some (.lst (st.map D.str)),some (.ref m4.length),none,none,none,none,none,none,none,none] (m4++[MO.lst []])
   ⟨⟨_,_,_,_,_,_,_,_,rfl⟩,⟨[],by simp,rfl,rfl,rfl,by simp⟩,AZ _,f4.hand.app.mono (by omega),λj hj _=>As hj,by simp⟩ λj d ro m ed hi=>by
  obtain ⟨⟨y8,y9,y10,y11,y12,y13,y14,y15,rfl⟩,⟨ts,hF,tl,ta,to,tn⟩,hle,hh,hkeep,hlen⟩:=hi
  rw [Al] at ed
  cases q:us[j]? with
  | none=>rw [q] at ed;cases ed
  | some x =>
   rw [q] at ed
   have ed':D.str x=d:=by simpa using ed
   subst ed'
   obtain ⟨hj,ex⟩:=Ae.mp q
   have hxm:x∈nm:=up.mem_iff.mp (by rw [← ex];exact BD hj)
   obtain ⟨z9,z10,z11,z12,z13,z14,z15,m',cs,p,g1,g2,g3,g4,g5,g6,g7⟩:=Q5 (n:=n+11*(us.length-(0+j+1))) (a:=.int a) (b:=b) (c:=c) (nms:=.lst (us.map D.str)) (nm:=x) (x9:=y9) (x10:=y10) (x11:=y11) (x12:=y12) (x13:=y13) (x14:=y14) (x15:=y15) (ws:=ws) (st:=st) hb hb4 hc hc4 (by omega) wd wW (by omega) sd sW (nW x hxm) hF (by omega) (by omega) (hh.mono (by omega))
   refine ⟨_,m,_,m',rfl,g1,⟨_,_,_,_,_,_,_,_,rfl⟩,⟨_,g2,by simp [tl],?_,?_,?_⟩,by omega,g5,λi hi hik=>?_,by omega⟩
   ·rw [List.all_append,ta,List.all_cons,g3]
    rfl
   ·rw [Mv] at to ⊢
    intro d hd
    rcases AL.mp hd with hd|hd
    ·exact to d hd
    ·rw [Aw.mp hd]
     exact g4
   ·rw [Bs,tn]
    have:=List.take_add_one (l:=us) (i:=0+j)
    rw [this,Bq,q,Bs]
    rfl
   ·rw [g6 i (by omega) hik (by omega),hkeep i hi hik]
 obtain ⟨ro',m5,e5,⟨_,_,_,_,_,_,_,_,rfl⟩,⟨ts,b1,b2,b3,b4,b5⟩,_,b6,b7,b8⟩:=key
 rw [Ag,Bq] at b2 b5 b6
 rw [List.take_length] at b5
 have okT:okD (.tup ts)=true:=by
  simp only [okD,b4,B0,Af]
  omega
 have f5:Fr k n mu (m5.take mu.length):=by
  refine ⟨?_,λj hj=>?_,by rw [Az];omega⟩
  ·obtain ⟨x,y,z,q,r1,r2,r3⟩:=b6
   exact ⟨x,y,z,by rw [AR (by omega)];exact q,r1,r2,by omega⟩
  ·by_cases hj':j<mu.length
   ·rw [AR hj',b7 j (by omega) hj,fr.keep j hj]
   ·rw [A7 (by rw [Az];omega),A7 (by omega)]
 refine ⟨.tup ts,m5.take mu.length,?_,f5,ts,rfl,?_,okT⟩
 ·have s64:nm.length<64:=by omega
  unfold Pq Ll at e5
  simp_arith only [D9,GR,e1,e2,UT s64,ue,e3,e4,e5,OA b1]
  exact JL (Ru okT) (f5.flat hfl)
 ·have W:TN (.tup ts)=((EV 1 4 (.tup ts)&&ts.all Kb)&&Iu (ts.map Jl)):=rfl
  have rs:Iu (us.map D.str)=true:=by
   have r:=TZ us
   rw [JP (IE.mpr ud)] at r
   rw [← r,Af]
   rw [← ue]
   exact (Lh (λd hd=>by
    obtain ⟨x,_,rfl⟩:=Ap.mp hd
    rfl) (Dv (nm.map D.str))).symm
  rw [W,b3,b5,rs]
  simp only [EV,B0,Ab,Af]
  omega
end PG
namespace PV
open PySem L2 PyProof.Rows K1
variable {mu:Sto}
theorem Tv {m0:Sto}{tg:Gx}{el:Ex}{ro:Ro}(Inv:Nat->Sto->Prop)(P:Nat->D->Prop):∀ (ds:List D) (i:Nat) (mu:Sto),Inv i mu->(∀ j d mu,ds[j]? = some d->Inv (i+j) mu->∃ ro1 y m1,tg d ro mu=some (ro1,mu)∧el ro1 mu=some (y,m1)∧P (i+j) y∧Inv (i+j+1) m1) ->
  ∃ ys mu',G3 none m0 tg tY el ro ds mu=some (ys,mu')∧Inv (i+ds.length) mu'∧ys.length=ds.length∧∀ j y,ys[j]? = some y->P (i+j) y
 | [],i,mu,h,_=>⟨[],mu,rfl,h,rfl,λj y e=>by simp at e⟩
 | d::ds,i,mu,h,st=>by
  obtain ⟨ro1,y,m1,e1,e2,p,h2⟩:=st 0 d mu rfl h
  obtain ⟨ys,mu',e3,h3,h4,h5⟩:=Tv (m0:=m0) (tg:=tg) (el:=el) (ro:=ro) Inv P ds (i+1) m1 h2 λj d' mu ed hi=>by
   have:=st (j+1) d' mu (by simpa using ed) (by rw [show i+(j+1)=i+1+j by omega];exact hi)
   rw [show i+(j+1)+1=i+1+j+1 by omega,show i+(j+1)=i+1+j by omega] at this
   exact this
  refine ⟨y::ys,mu',?_,by rw [List.length_cons,show i+(ds.length+1)=i+1+ds.length by omega];exact h3,by simp [h4],λj z e=>?_⟩
  ·unfold G3
   rw [e1,Ef]
   simp only [ZG,QE,if_true]
   rw [e2,Ef,Ff,if_pos (show gOk none m0 m1 from True.intro),e3]
   rfl
  ·cases j with
   | zero=>cases e;exact p
   | succ j=>have:=h5 j z (by simpa using e);rw [show i+(j+1)=i+1+j by omega];exact this
theorem Zy {d e:D}(hd:EZ d=true)(he:EZ e=true):eqB mu d e=some (decide (d=e)):=by
 have a:=Ec hd
 have b:=Ec he
 have sd:seen mu d=d:=by cases d<;>first|rfl|(simp [EZ,hsh] at hd)
 have se:seen mu e=e:=by cases e<;>first|rfl|(simp [EZ,hsh] at he)
 unfold eqB
 rw [sd,se,Gk a.1,Gk b.1,if_pos,GX a.1 b.1]
 rw [HM a.1,HM b.1]
 simp only [BF,Af]
 omega
theorem Q3 {d e:D}(hd:EZ d=true)(he:EZ e=true):eqD d e mu=some (.bl (decide (d=e)),mu):=by unfold eqD;rw [Zy hd he];rfl
theorem Sg {d e:D}(hd:EZ d=true)(he:EZ e=true):neD d e mu=some (.bl (!decide (d=e)),mu):=by unfold neD;rw [Zy hd he];rfl
theorem P1 (ss:List Str):IB (ss.map D.str)≤1:=by
 rw [← Mg (M1 ss)]
 exact Gz ss
theorem QS (ss:List Str):EZ (.tup (ss.map D.str))=true:=by
 unfold EZ
 rw [Ab,Af]
 refine ⟨by unfold hsh;exact M1 ss,?_⟩
 have:=P1 ss
 unfold dpt
 omega
end PV
namespace PG
open PySem L2 PV PyProof.Rows K1
variable {mu:Sto}
structure Tb where
 nm:Str
 cs:List (Str×List Str)
 ks:Nat
noncomputable def clD (p:Str×List Str):D:=.tup [.str p.1,.tup (p.2.map D.str)]
noncomputable def tbD (t:Tb):D:=.tup [.str t.nm,.tup (t.cs.map clD),.int t.ks]
structure J2 (t:Tb):Prop where
 c1:1≤t.cs.length
 c4:t.cs.length≤4
 k1:1≤t.ks
 k4:t.ks≤t.cs.length
 vs:∀ p∈t.cs,p.2≠[]∧p.2.length≤4
theorem QJ {d:D}(h:HQ d=true):∃ ss:List Str,d=.tup (ss.map D.str)∧ss≠[]∧ss.length≤4:=by
 unfold HQ at h
 rw [Ab,Ab] at h
 cases d with
 | tup ds =>
  obtain ⟨ss,rfl,_⟩:=QC (show ds.all FU=true from h.2.1)
  have:=h.1
  simp only [EV,Ag,Ab,Af] at this
  exact ⟨ss,rfl,λe=>by rw [e] at this;simp at this,by omega⟩
 | _=>simp [EV] at h
theorem Uy {d:D}(h:L4 d=true):∃ p:Str×List Str,d=clD p∧p.2≠[]∧p.2.length≤4:=by
 unfold L4 at h
 split at h
 ·rename_i a b
  rw [Ab] at h
  obtain ⟨ss,rfl,h1,h2⟩:=QJ h.2
  cases a with
  | str x=>exact ⟨(x,ss),rfl,h1,h2⟩
  | _=>simp [FU] at h
 ·cases h
theorem RR {ds:List D}(h:ds.all L4=true):∃ cs:List (Str×List Str),ds=cs.map clD∧∀ p∈cs,p.2≠[]∧p.2.length≤4:=by
 induction ds with
 | nil=>exact ⟨[],rfl,λ_ h=>nomatch h⟩
 | cons d ds ih =>
  rw [List.all_cons,Ab] at h
  obtain ⟨cs,rfl,hc⟩:=ih h.2
  obtain ⟨p,rfl,h1⟩:=Uy h.1
  refine ⟨p::cs,rfl,λq hq=>?_⟩
  rcases Am.mp hq with rfl|hq
  ·exact h1
  ·exact hc q hq
theorem Uk {d:D}(h:Kb d=true):∃ t,d=tbD t∧J2 t:=by
 unfold Kb at h
 split at h
 ·rename_i n c k
  rw [Ab,Ab] at h
  obtain ⟨⟨h1,h2⟩,h3⟩:=h
  cases n with
  | str x =>
   cases c with
   | tup ds =>
    have h2':((EV 1 4 (.tup ds)&&ds.all L4)&&ndB (ds.map Jl))=true:=h2
    rw [Ab,Ab] at h2'
    obtain ⟨cs,rfl,hv⟩:=RR h2'.1.2
    have hl:=h2'.1.1
    simp only [EV,Ag,Ab,Af] at hl
    cases k with
    | int i =>
     simp only [Xi,ZL,Ag,Ab,Af] at h3
     refine ⟨⟨x,cs,i.toNat⟩,?_,⟨by show 1≤cs.length;omega,by show cs.length≤4;omega,by show 1≤i.toNat;omega,by show i.toNat≤cs.length;omega,hv⟩⟩
     unfold tbD
     rw [Int.toNat_of_nonneg (by omega)]
    | _=>simp [Xi] at h3
   | _=>simp [VP] at h2
  | _=>simp [FU] at h1
 ·cases h
theorem Tj {ds:List D}(h:ds.all Kb=true):∃ ts:List Tb,ds=ts.map tbD∧∀ t∈ts,J2 t:=by
 induction ds with
 | nil=>exact ⟨[],rfl,λ_ h=>nomatch h⟩
 | cons d ds ih =>
  rw [List.all_cons,Ab] at h
  obtain ⟨ts,rfl,hc⟩:=ih h.2
  obtain ⟨t,rfl,h1⟩:=Uk h.1
  refine ⟨t::ts,rfl,λq hq=>?_⟩
  rcases Am.mp hq with rfl|hq
  ·exact h1
  ·exact hc q hq
structure SOk (ts:List Tb):Prop where
 l1:1≤ts.length
 l4:ts.length≤4
 ok:∀ t∈ts,J2 t
 nd:(ts.map Tb.nm).Nodup
theorem UD {d:D}(h:TN d=true):∃ ts,d=.tup (ts.map tbD)∧SOk ts:=by
 cases d with
 | tup ds =>
  have h':((EV 1 4 (.tup ds)&&ds.all Kb)&&Iu (ds.map Jl))=true:=h
  rw [Ab,Ab] at h'
  obtain ⟨ts,rfl,ho⟩:=Tj h'.1.2
  have hl:=h'.1.1
  simp only [EV,Ag,Ab,Af] at hl
  refine ⟨ts,rfl,by omega,by omega,ho,?_⟩
  have e:(ts.map tbD).map Jl=(ts.map Tb.nm).map D.str:=by
   rw [BN,BN]
   rfl
  have r:=h'.2
  rw [e,N5] at r
  exact TL r
 | _=>simp [TN] at h
structure RwOk (t:Tb) (r:List Str):Prop where
 len:r.length=t.cs.length
 at':∀ (i:Nat) x p,r[i]? = some x->t.cs[i]? = some p->x∈p.2
noncomputable def rwD (r:List Str):D:=.tup (r.map D.str)
theorem VD {ds:List D}(h:∀ (j:Nat) (d:D),ds[j]? = some d->∃ x,d=D.str x):∃ ss:List Str,ds=ss.map D.str:=by
 induction ds with
 | nil=>exact ⟨[],rfl⟩
 | cons d ds ih =>
  obtain ⟨x,rfl⟩:=h 0 d rfl
  obtain ⟨ss,rfl⟩:=ih λj d e=>h (j+1) d (by simpa using e)
  exact ⟨x::ss,rfl⟩
theorem Pe {k n:Nat}{t:Tb}(ht:J2 t){m0:Sto}(h:HandOk mu k (n+4)):∃ r mu',G3 none m0 (gTp 2 (CB (gNm 0) (CB (gNm 1) DC))) tY (Ct CT (Cn (Co 2) (Cn (Co 1) Cr))) [none,none,some (.ref k)] (t.cs.map clD) mu=some (r.map D.str,mu')∧Fr k n mu mu'∧RwOk t r:=by
 obtain ⟨ys,mu',e,fr,hl,hp⟩:=Tv (m0:=m0) (tg:=gTp 2 (CB (gNm 0) (CB (gNm 1) DC))) (el:=Ct CT (Cn (Co 2) (Cn (Co 1) Cr))) (ro:=[none,none,some (.ref k)]) (λi m=>Fr k (n+4-i) mu m) (λi d=>∃ x,d=D.str x∧∀ p,t.cs[i]? = some p->x∈p.2) (t.cs.map clD) 0 mu (.refl h) λj d m ed fr=>by
  rw [Al] at ed
  cases q:t.cs[j]? with
  | none=>rw [q] at ed;cases ed
  | some p =>
   rw [q] at ed
   have ed':clD p=d:=AB ed
   subst ed'
   have hj:=(Ae.mp q).1
   have hm:p∈t.cs:=Ak q
   have c4:=ht.c4
   obtain ⟨y,m1,e1,f1,hy⟩:=pick_run (s:=.tup (p.2.map D.str)) (n:=n+4-(0+j+1)) (.inr rfl) (by simpa using (ht.vs p hm).1) (by rw [Ag];have:=(ht.vs p hm).2;omega) (fr.hand.mono (by omega))
   obtain ⟨x,hx,rfl⟩:=Ap.mp hy
   refine ⟨_,.str x,m1,rfl,?_,⟨x,rfl,λp' hp'=>?_⟩,fr.trans f1⟩
   ·simp_arith only [clD,e1]
   ·rw [Bq,q] at hp'
    cases hp'
    exact hx
 obtain ⟨r,rfl⟩:=VD λj d ed=>by
  obtain ⟨x,hx,_⟩:=hp j d ed
  exact ⟨x,hx⟩
 refine ⟨r,mu',e,fr.mono ?_,⟨by simpa using hl,λi x p hx hpp=>?_⟩⟩
 ·rw [Ag]
  have:=ht.c4
  omega
 ·obtain ⟨y,ey,h2⟩:=hp i (.str x) (by rw [Al,hx];rfl)
  cases ey
  exact h2 p (by rw [Bq];exact hpp)
theorem GV {α:Type}{xs:List α}{j:Nat}(h:j≤xs.length):PV.cutD xs none (some (j:Int))=xs.take j:=by
 unfold PV.cutD
 rw [HT.J9,HT.LV]
 simp [Nat.min_eq_left h]
theorem KJ {α:Type}{xs:List α}{j:Nat}(h:j≤xs.length):PV.cutD xs (some (j:Int)) none=xs.drop j:=by
 unfold PV.cutD
 rw [HT.J9,HT.LV]
 rw [Nat.min_eq_left h]
 apply List.take_of_length_le
 simp
end PG
namespace PV
open PySem L2 PyProof.Rows K1
variable {mu:Sto}
theorem MU (k v:D):∀ ks ds:List D,(HX k v ks ds).length=ds.length
 | [],_=>rfl
 | _::_,[]=>rfl
 | _::ks,_::ds=>by rw [HX,List.length_cons,List.length_cons,MU k v ks ds]
theorem M5 (k v:D):∀ ks ds:List D,∀ d∈HX k v ks ds,d∈ds∨d=v
 | [],_,d,h=>.inl h
 | _::_,[],d,h=>.inl h
 | k'::ks,e::ds,d,h=>by
  rw [HX] at h
  rcases Am.mp h with h|h
  ·split at h
   ·exact .inr h
   ·exact .inl (by rw [h];exact .head _)
  ·rcases M5 k v ks ds d h with h|h
   ·exact .inl (.tail _ h)
   ·exact .inr h
structure DictOk (ks ds:List D) (n:Nat):Prop where
 len:ks.length≤n
 eq:ds.length=ks.length
 nd:ks.Nodup
theorem DictOk.put {ks ds:List D}{n:Nat}(h:DictOk ks ds n)(k v:D):DictOk (F0 k v ks ds).1 (F0 k v ks ds).2 (n+1)∧(∀ d∈(F0 k v ks ds).2,d∈ds∨d=v)∧∀ d∈(F0 k v ks ds).1,d∈ks∨d=k:=by
 unfold F0
 by_cases c:k∈ks
 ·rw [if_pos c]
  exact ⟨⟨by have:=h.len;show ks.length≤n+1;omega,by rw [MU];exact h.eq,h.nd⟩,M5 k v ks ds,λd hd=>.inl hd⟩
 ·rw [if_neg c]
  refine ⟨⟨by have:=h.len;simp;omega,by simp [h.eq],?_⟩,λd hd=>?_,λd hd=>?_⟩
  ·rw [List.nodup_append]
   exact ⟨h.nd,by simp,λa ha b hb e=>by rw [Aw.mp hb] at e;rw [e] at ha;exact c ha⟩
  ·rcases AL.mp hd with hd|hd
   ·exact .inl hd
   ·exact .inr (Aw.mp hd)
  ·rcases AL.mp hd with hd|hd
   ·exact .inl hd
   ·exact .inr (Aw.mp hd)
theorem Rg {k:Nat}{ks ds:List D}{e v:D}(h:mu[k]? = some (.dct ks ds))(he:EZ e=true)(hl:ks.length<sizeLine):putG (.ref k) e v mu=some ((),mu.set k (.dct (F0 e v ks ds).1 (F0 e v ks ds).2)):=by
 simp only [putG,h,he,hl,and_self,if_true]
theorem Kh:∀ xs ys:List Str,(Gr (xs.map D.str) (ys.map D.str)).isSome=true
 | [],[]=>rfl
 | [],_::_=>rfl
 | _::_,[]=>rfl
 | x::xs,y::ys=>by
  have ih:=Kh xs ys
  rw [Bf,Bf,Gr]
  simp only [CS,BX,if_true]
  split
  ·exact ih
  ·rfl
theorem Ni (ss:List Str):Gp (ss.map D.str)=true:=by
 induction ss with
 | nil=>rfl
 | cons x xs ih=>simp [Gp,FX,ih]
end PV
namespace PG
open PySem L2 PV PyProof.Rows K1
variable {mu:Sto}
theorem Vv {rs:List (List Str)}(h64:rs.length<64)(hne:∀ r∈rs,r≠[]):DW (rs.map rwD)=true:=by
 unfold DW
 simp only [Ab,Af,Ag,Au,Bt,Jy]
 refine ⟨⟨⟨h64,λd hd=>?_⟩,λd hd e he=>?_⟩,.inr λd hd=>?_⟩
 ·obtain ⟨r,_,rfl⟩:=Ap.mp hd
  unfold rwD FX
  exact Ni r
 ·obtain ⟨r,_,rfl⟩:=Ap.mp hd
  obtain ⟨q,_,rfl⟩:=Ap.mp he
  unfold rwD ltB
  exact Kh r q
 ·obtain ⟨r,hr,rfl⟩:=Ap.mp hd
  cases r with
  | nil=>exact (hne _ hr rfl).elim
  | cons x xs =>
   have d1:=Gz xs
   simp only [rwD,Bf,tupS,FF,BF,Af]
   omega
theorem Pz {t:Tb}{ds:List D}(h:∀ d∈ds,∃ r,d=rwD r∧RwOk t r):∃ rs:List (List Str),ds=rs.map rwD∧∀ r∈rs,RwOk t r:=by
 induction ds with
 | nil=>exact ⟨[],rfl,λ_ h=>nomatch h⟩
 | cons d ds ih =>
  obtain ⟨r,rfl,hr⟩:=h d (.head _)
  obtain ⟨rs,rfl,hs⟩:=ih λd hd=>h d (.tail _ hd)
  refine ⟨r::rs,rfl,λq hq=>?_⟩
  rcases Am.mp hq with rfl|hq
  ·exact hr
  ·exact hs q hq
theorem RwOk.ne {t:Tb}{r:List Str}(ht:J2 t)(h:RwOk t r):r≠[]:=λe=>by
 have:=h.len
 rw [e] at this
 have:=ht.c1
 simp at *
 omega
structure QX (t:Tb) (rs:List (List Str)):Prop where
 len:rs.length≤6
 ok:∀ r∈rs,RwOk t r
noncomputable def flD (rs:List (List Str)):D:=.tup (rs.map rwD)
noncomputable def Nk:Sx:=(CI (Dc (Ct Gf (Cn (eLC (Fv (Co 5)) 2 [0] (gTp 2 (CB (gNm 0) (CB (gNm 1) DC))) (tY) (Ct CT (Cn (Co 2) (Cn (Co 1) Cr)))) Cr)) (gNm 9)) (Dc (Co 9) (gIx (Co 7) (eSl (Co 9) (pNo) (Dh (Co 6))))))
theorem RI {k n Dk c:Nat}{t:Tb}(ht:J2 t){sc fnd:D}{x4 x8 x9:Option D}(hc:c≤6)(hD:mu[Dk]? = some (.dct [] []))(hkD:Dk≠k)(h:HandOk mu k (n+4*c)){m0:Sto} :
  ∃ y8 y9 m' ks rs,Ey none m0 (gNm 8) Nk (Eg 0 c) [some (.ref k),some sc,some (.int 6),some fnd,x4,some (.tup (t.cs.map clD)),some (.int t.ks),some (.ref Dk),x8,x9] mu=some ((.nx,[some (.ref k),some sc,some (.int 6),some fnd,x4,some (.tup (t.cs.map clD)),some (.int t.ks),some (.ref Dk),y8,y9]),m') ∧
   m'[Dk]? = some (.dct ks (rs.map rwD))∧QX t rs∧HandOk m' k n∧(∀ j,j≠k->j≠Dk->m'[j]? = mu[j]?)∧m'.length=mu.length:=by
 obtain ⟨ro',m',e,⟨y8,y9,rfl⟩,⟨ks,ds,a1,a2,a3⟩,a4,a5,a6⟩:=FE (m0:=m0) (tg:=gNm 8) (body:=Nk) (λi ro m=>(∃ y8 y9,ro=[some (.ref k),some sc,some (.int 6),some fnd,x4,some (.tup (t.cs.map clD)),some (.int t.ks),some (.ref Dk),y8,y9])∧(∃ ks ds,m[Dk]? = some (.dct ks ds)∧DictOk ks ds i∧∀ d∈ds,∃ r,d=rwD r∧RwOk t r)∧HandOk m k (n+4*(c-i))∧(∀ j,j≠k->j≠Dk->m[j]? = mu[j]?)∧m.length=mu.length) (Eg 0 c) 0 _ mu ⟨⟨x8,x9,rfl⟩,⟨[],[],hD,⟨Ai _,rfl,List.nodup_nil⟩,λ_ h=>nomatch h⟩,h,λ_ _ _=>rfl,rfl⟩ λj d ro m ed hi=>by
   obtain ⟨⟨y8,y9,rfl⟩,⟨ks,ds,a1,a2,a3⟩,hh,hk,hl⟩:=hi
   obtain ⟨rfl,hj⟩:=GH ed
   obtain ⟨r,m1,e1,f1,hr⟩:=Pe (n:=n+4*(c-(0+j+1))) ht (m0:=m) (hh.mono (by omega))
   have a1':m1[Dk]? = some (.dct ks ds):=(f1.keep Dk hkD).trans a1
   have kl:t.ks≤(r.map D.str).length:=by rw [Ag,hr.len];exact ht.k4
   have ct:=GV kl
   have hK:EZ (.tup ((r.map D.str).take t.ks))=true:=by rw [← Bo];exact QS _
   obtain ⟨p1,p2,_⟩:=a2.put (.tup ((r.map D.str).take t.ks)) (rwD r)
   have z:=Rg (v:=rwD r) a1' hK (by have:=a2.len;rw [AH];omega)
   refine ⟨_,m,_,_,rfl,?_,⟨some (.int j),some (rwD r),rfl⟩,⟨_,_,FY a1',by rw [show 0+j+1=0+j+1 from rfl];exact p1,λd hd=>?_⟩,(f1.hand.mono (by omega)).set hkD,λi hik hiD=>?_,?_⟩
   ·unfold Nk
    have rw':rwD r=.tup (r.map D.str):=rfl
    rw [rw'] at z
    simp_arith only [e1,OL,ct,z]
    rfl
   ·rcases p2 d hd with hd|rfl
    ·exact a3 d hd
    ·exact ⟨r,rfl,hr⟩
   ·rw [AV hiD.symm,f1.keep i hik,hk i hik hiD]
   ·rw [List.length_set,f1.len,hl]
 rw [ID] at a2 a4
 obtain ⟨rs,rfl,hr⟩:=Pz a3
 refine ⟨y8,y9,m',ks,rs,e,a1,⟨?_,hr⟩,a4.mono (by omega),a5,a6⟩
 have:=a2.eq
 have:=a2.len
 simp at *
 omega
noncomputable def fBody:Sx:=(CI (Dc Nq (gNm 7)) (CI (HC (iRg (Cn (Ct Cw (Cn (Co 0) (Cn (Cs Df (Co 2) (eC (.int 1))) Cr))) Cr)) (gNm 8) Nk) (sEx (KY (Co 3) (Cn (Ct Gf (Cn (Lz (Co 7)) Cr)) Cr)))))
theorem Wn {k:Nat}{ks ds:List D}{e:Ex}{ro:Ro}{m1:Sto}(he:e ro mu=some (.ref k,m1))(h:m1[k]? = some (.dct ks ds))(ok:DW ds=true):Lz e ro mu=some (.lst (Ep ds),m1):=by
 unfold Lz
 rw [he]
 simp only [QE,Fx,h,ok,if_true]
theorem Uh {k n F:Nat}{t:Tb}(ht:J2 t){sc:D}{fs:List D}{x7 x8 x9:Option D}(hF:mu[F]? = some (.lst fs))(hfs:fs.length≤100)(hkF:F≠k)(h:HandOk mu k (n+25)) :
  ∃ y7 y8 y9 m' rs,fBody [some (.ref k),some sc,some (.int 6),some (.ref F),some (.str t.nm),some (.tup (t.cs.map clD)),some (.int t.ks),x7,x8,x9] mu=some ((.nx,[some (.ref k),some sc,some (.int 6),some (.ref F),some (.str t.nm),some (.tup (t.cs.map clD)),some (.int t.ks),y7,y8,y9]),m') ∧
   m'[F]? = some (.lst (fs++[flD rs]))∧QX t rs∧HandOk m' k n∧(∀ j,j<mu.length->j≠k->j≠F->m'[j]? = mu[j]?)∧mu.length≤m'.length:=by
 have hFl:F<mu.length:=(Ae.mp hF).1
 have hkl:=h.lt
 have h0:HandOk (mu++[MO.dct [] []]) k (n+25):=h.app
 obtain ⟨_,m1,e1,f1,t1,rfl,a0,a1⟩:=Dt (m:=7) (n:=n+24) h0 (by decide) (by decide)
 obtain ⟨c,rfl⟩:∃ c:Nat,t1=(c:Int):=⟨t1.toNat,by omega⟩
 have l1:=f1.len
 simp only [Ar,List.length_cons,List.length_nil] at l1
 have hD:m1[mu.length]? = some (.dct [] []):=by
  rw [f1.keep _ (by omega)]
  simp
 obtain ⟨y8,y9,m2,ks,rs,e2,g1,g2,g3,g4,g5⟩:=RI (mu:=m1) (k:=k) (n:=n) (Dk:=mu.length) (c:=c) (t:=t) ht (sc:=sc) (fnd:=.ref F) (x4:=some (.str t.nm)) (x8:=x8) (x9:=x9) (by omega) hD (by omega) (f1.hand.mono (by omega)) (m0:=m1)
 have F2:m2[F]? = some (.lst fs):=by
  rw [g4 F hkF (by omega),f1.keep F hkF,As hFl,hF]
 have ok:=Vv (rs:=rs) (by have:=g2.len;omega) λr hr=>(g2.ok r hr).ne ht
 obtain ⟨rs',er,hr'⟩:=Pz (t:=t) (ds:=Ep (rs.map rwD)) λd hd=>by
  obtain ⟨r,hr,rfl⟩:=Ap.mp ((Dv _).mem_iff.mp hd)
  exact ⟨r,rfl,g2.ok r hr⟩
 have ll:rs'.length≤6:=by
  have:=congrArg List.length er
  rw [(Dv _).length_eq,Ag,Ag] at this
  have:=g2.len
  omega
 have ap:=append_at (ro:=[some (.ref k),some sc,some (.int 6),some (.ref F),some (.str t.nm),some (.tup (t.cs.map clD)),some (.int t.ks),some (.ref mu.length),y8,y9]) (i:=3) F2 F2 (y:=flD rs') (by rw [AH];omega) rfl (e:=(Ct Gf (Cn (Lz (Co 7)) Cr))) (by
  have z:=Wn (mu:=m2) (e:=Co 7) (ro:=[some (.ref k),some sc,some (.int 6),some (.ref F),some (.str t.nm),some (.tup (t.cs.map clD)),some (.int t.ks),some (.ref mu.length),y8,y9]) rfl g1 ok
  rw [er] at z
  simp_arith only [z]
  rfl)
 have rg:=Ng (mu:=mu++[MO.dct [] []]) (ro:=[some (.ref k),some sc,some (.int 6),some (.ref F),some (.str t.nm),some (.tup (t.cs.map clD)),some (.int t.ks),some (.ref mu.length),x8,x9]) (r:=(Cn (Ct Cw (Cn (Co 0) (Cn (Cs Df (Co 2) (eC (.int 1))) Cr))) Cr)) (n:=c) (m:=m1) (by simp_arith only [Int.reduceAdd,e1]) (by omega) (by rw [AH];omega)
 rw [Int.toNat_natCast] at rg
 refine ⟨some (.ref mu.length),y8,y9,_,rs',?_,FY F2,⟨ll,hr'⟩,g3.set hkF,λi hi hik hiF=>?_,?_⟩
 ·unfold fBody
  simp_arith only [rg,e2,ap]
 ·rw [AV hiF.symm,g4 i hik (by omega),f1.keep i hik,As hi]
 ·rw [List.length_set]
  omega
structure Hb (ts:List Tb) (gs:List (List (List Str))):Prop where
 len:gs.length=ts.length
 ok:∀ (j:Nat) rs t,gs[j]? = some rs->ts[j]? = some t->QX t rs
theorem Rt (gs:List (List (List Str))):Dy 0 (.tup (gs.map flD))=true:=by
 have hs:∀ ss:List Str,E7 0 (ss.map D.str)=true:=λss=>by
  rw [F8]
  intro d hd
  obtain ⟨x,_,rfl⟩:=Ap.mp hd
  rfl
 have hr:∀ rs:List (List Str),E7 0 (rs.map rwD)=true:=λrs=>by
  rw [F8]
  intro d hd
  obtain ⟨x,_,rfl⟩:=Ap.mp hd
  simpa [rwD,Dy] using hs x
 simp only [Dy]
 rw [F8]
 intro d hd
 obtain ⟨x,_,rfl⟩:=Ap.mp hd
 simpa [flD,Dy] using hr x
theorem Nw {k n:Nat}{ts:List Tb}(hS:SOk ts)(hfl:Flat mu)(h:HandOk mu k (n+100)):Run (Ed [.ref k,.tup (ts.map tbD),.int 6] mu) k n mu λd=>∃ gs,d=.tup (gs.map flD)∧Hb ts gs:=by
 have hkl:=h.lt
 have s4:=hS.l4
 obtain ⟨ro',m5,e5,⟨_,_,_,_,_,_,rfl⟩,⟨gs,b1,b2,b3⟩,b6,b7,b8⟩:=FE (m0:=mu++[MO.lst []]) (tg:=(gTp 3 (CB (gNm 4) (CB (gNm 5) (CB (gNm 6) DC))))) (body:=fBody) (λi ro m=>(∃ y4 y5 y6 y7 y8 y9,ro=[some (.ref k),some (.tup (ts.map tbD)),some (.int 6),some (.ref mu.length),y4,y5,y6,y7,y8,y9]) ∧
   (∃ gs:List (List (List Str)),m[mu.length]? = some (.lst (gs.map flD))∧gs.length=i∧∀ (j:Nat) rs t,gs[j]? = some rs->ts[j]? = some t->QX t rs)∧HandOk m k (n+25*(ts.length-i))∧(∀ j,j<mu.length->j≠k->m[j]? = mu[j]?)∧mu.length<m.length) (ts.map tbD) 0
   [some (.ref k),some (.tup (ts.map tbD)),some (.int 6),some (.ref mu.length),none,none,none,none,none,none] (mu++[MO.lst []])
   ⟨⟨_,_,_,_,_,_,rfl⟩,⟨[],by simp,rfl,λj rs t e=>by simp at e⟩,(h.app).mono (by omega),λj hj _=>As hj,by simp⟩ λj d ro m ed hi=>by
  obtain ⟨⟨y4,y5,y6,y7,y8,y9,rfl⟩,⟨gs,hF,gl,gk⟩,hh,hkeep,hlen⟩:=hi
  rw [Al] at ed
  cases q:ts[j]? with
  | none=>rw [q] at ed;cases ed
  | some t =>
   rw [q] at ed
   have ed':tbD t=d:=AB ed
   subst ed'
   have hj:=(Ae.mp q).1
   obtain ⟨z7,z8,z9,m',rs,g1,g2,g3,g4,g5,g6⟩:=Uh (n:=n+25*(ts.length-(0+j+1))) (hS.ok t (Ak q)) (sc:=.tup (ts.map tbD)) (x7:=y7) (x8:=y8) (x9:=y9) hF (by rw [Ag];omega) (by omega) (hh.mono (by omega))
   refine ⟨[some (.ref k),some (.tup (ts.map tbD)),some (.int 6),some (.ref mu.length),some (.str t.nm),some (.tup (t.cs.map clD)),some (.int t.ks),y7,y8,y9],m,_,m',rfl,g1,⟨_,_,_,_,_,_,rfl⟩,⟨gs++[rs],by rw [g2,Bs];rfl,by simp [gl],λi r t' hr ht'=>?_⟩,g4,λi hi hik=>?_,by omega⟩
   ·by_cases c:i<gs.length
    ·rw [As c] at hr
     exact gk i r t' hr ht'
    ·have hil:=(Ae.mp hr).1
     simp only [Ar,List.length_cons,List.length_nil] at hil
     have:i=gs.length:=by omega
     subst this
     rw [AW (Ai _),Nat.sub_self] at hr
     cases hr
     rw [gl,Bq,q] at ht'
     cases ht'
     exact g3
   ·rw [g5 i (by omega) hik (by omega),hkeep i hi hik]
 rw [Ag,Bq] at b2 b6
 have f5:Fr k n mu (m5.take mu.length):=by
  refine ⟨?_,λj hj=>?_,by rw [Az];omega⟩
  ·obtain ⟨x,y,z,q,r1,r2,r3⟩:=b6
   exact ⟨x,y,z,by rw [AR (by omega)];exact q,r1,r2,by omega⟩
  ·by_cases hj':j<mu.length
   ·rw [AR hj',b7 j hj' hj]
   ·rw [A7 (by rw [Az];omega),A7 (by omega)]
 refine ⟨.tup (gs.map flD),m5.take mu.length,?_,f5,gs,rfl,⟨b2,b3⟩⟩
 unfold fBody Nk at e5
 simp_arith only [Ed,Gh,e5,OA b1]
 exact JL (Rt gs) (f5.flat hfl)
end PG
namespace PV
open PySem L2 PyProof.Rows K1
variable {mu:Sto}
theorem QV {xs ys:List D}(h:xs.length+ys.length≤sizeLine):Df (.lst xs) (.lst ys) mu=some (.lst (xs++ys),mu):=by
 simp only [Df,DS,h,if_true]
theorem Jc {xs ys:List D}(h:xs.length+ys.length≤sizeLine):Df (.tup xs) (.tup ys) mu=some (.tup (xs++ys),mu):=by
 simp only [Df,h,if_true]
theorem SR {ds:List D}:F1 ds=true ↔ ∀ d∈ds,hsh d=true:=by
 induction ds with
 | nil=>simp [F1]
 | cons d ds ih=>simp [F1,ih]
theorem R8 {n:Nat}{ds:List D}(h:∀ d∈ds,dpt d≤n):IB ds≤n:=by
 induction ds with
 | nil=>simp [IB]
 | cons d ds ih =>
  have a:=h d (.head _)
  have b:=ih λd hd=>h d (.tail _ hd)
  simp only [IB]
  omega
noncomputable def Hn (n:Nat)(d:D):Prop:=hsh d=true∧dpt d≤n
theorem Hn.tup {n:Nat}{ds:List D}(h:∀ d∈ds,Hn n d):Hn (n+1) (.tup ds):=by
 refine ⟨by unfold hsh;exact SR.mpr λd hd=>(h d hd).1,?_⟩
 have:=R8 λd hd=>(h d hd).2
 unfold dpt
 omega
theorem Hn.up {n m:Nat}{d:D}(h:Hn n d)(l:n≤m):Hn m d:=⟨h.1,AQ h.2 l⟩
theorem Hn.K {n:Nat}{d:D}(h:Hn n d)(l:n≤8):EZ d=true:=by
 unfold EZ
 rw [h.1,BF,Af]
 exact AQ h.2 l
theorem Hn.str (x:Str):Hn 1 (.str x):=⟨rfl,by simp [dpt]⟩
theorem Hn.non:Hn 1 .non:=⟨rfl,by simp [dpt]⟩
theorem Hn.strs (ss:List Str):Hn 2 (.tup (ss.map D.str)):=Hn.tup λd hd=>by
 obtain ⟨x,_,rfl⟩:=Ap.mp hd
 exact .str x
end PV
namespace PG
open PySem L2 PV PyProof.Rows K1
variable {mu:Sto}
theorem Hn.row (r:List Str):Hn 2 (rwD r):=Hn.strs r
theorem Hn.fl (rs:List (List Str)):Hn 3 (flD rs):=Hn.tup λd hd=>by
 obtain ⟨x,_,rfl⟩:=Ap.mp hd
 exact Hn.row x
noncomputable def RN (t:Tb)(d:D):Prop:=d=.non∨∃ r,d=rwD r∧RwOk t r
theorem RN.hn {t:Tb}{d:D}(h:RN t d):Hn 2 d:=by
 rcases h with rfl|⟨r,rfl,_⟩
 ·exact Hn.non.up (by decide)
 ·exact Hn.row r
structure Pt where
 nm:Str
 key:List Str
 be:D
 af:D
noncomputable def ptD (p:Pt):D:=.tup [.str p.nm,.tup (p.key.map D.str),p.be,p.af]
structure MV (ts:List Tb) (p:Pt):Prop where
 ex:∃ t∈ts,t.nm=p.nm∧RN t p.be∧RN t p.af
 ne:p.be≠p.af
noncomputable def kyD (p:Str×List Str):D:=.tup [.str p.1,.tup (p.2.map D.str)]
noncomputable def sBd:Sx:=(sIf (tAn (tV (Cs neD (Cs ixG (Co 2) (Co 6)) (EB Cr))) (tV (Cs eqD (Ct Cw (Cn (Co 0) (Cn (eC (.int 2)) Cr))) (eC (.int 0))))) (Dc (Cs Df (eSl (Ct CT (Cn (Co 0) (Cn (Cs ixG (Co 2) (Co 6)) Cr))) (pNo) (Dh (Co 9))) (eSl (Co 10) (Dh (Co 9)) (pNo))) (gNm 10)) (sNx))
theorem Xq {t:Tb}(ht:J2 t){r q:List Str}(hr:RwOk t r)(hq:RwOk t q):RwOk t (q.take t.ks++r.drop t.ks):=by
 have l1:=hr.len
 have l2:=hq.len
 have k4:=ht.k4
 refine ⟨by simp;omega,λi x p hx hp=>?_⟩
 by_cases c:i<t.ks
 ·rw [As (by simp;omega),AR c] at hx
  exact hq.at' i x p hx hp
 ·rw [AW (by simp;omega),List.getElem?_drop] at hx
  refine hr.at' i x p ?_ hp
  rw [← hx]
  congr 1
  simp
  omega
theorem S6 {k n pl:Nat}{t:Tb}(ht:J2 t){rs:List (List Str)}(hrs:QX t rs){gs:List (List (List Str))}(hg:gs[pl]? = some rs){r:List Str}(hr:RwOk t r){sc fd x5:D}{x11 x12:Option D}(h:HandOk mu k (n+2)) :
  ∃ q m',sBd [some (.ref k),some sc,some (.tup (gs.map flD)),some (.int 8),some fd,some x5,some (.int pl),some (.str t.nm),some (.tup (t.cs.map clD)),some (.int t.ks),some (rwD r),x11,x12] mu=some ((.nx,[some (.ref k),some sc,some (.tup (gs.map flD)),some (.int 8),some fd,some x5,some (.int pl),some (.str t.nm),some (.tup (t.cs.map clD)),some (.int t.ks),some (rwD q),x11,x12]),m')∧Fr k n mu m'∧RwOk t q:=by
 have ix:∀ m,ixG (.tup (gs.map flD)) (.int pl) m=some (flD rs,m):=λm=>LO _ (.inr rfl) (by rw [Al,hg];rfl)
 have ne:∀ m,neD (flD rs) (.tup []) m=some (.bl (!decide (flD rs=.tup [])),m):=λm=>Sg ((Hn.fl rs).K (by decide)) (by decide)
 cases rs with
 | nil =>
  refine ⟨r,mu,?_,(Fr.refl h).mono (by omega),hr⟩
  have e:decide (flD []=.tup [])=true:=by rw [Af];rfl
  unfold sBd
  simp_arith only [ix,ne,e]
 | cons r0 rs =>
  have e:decide (flD (r0::rs)=.tup [])=false:=by simp [flD]
  obtain ⟨_,m1,e1,f1,t1,rfl,a0,a1⟩:=Dt (m:=2) (n:=n+1) h (by decide) (by decide)
  by_cases c:t1=0
  ·obtain ⟨y,m2,e2,f2,hy⟩:=pick_run (s:=flD (r0::rs)) (ds:=(r0::rs).map rwD) (n:=n) (.inr rfl) (by simp) (by rw [Ag];have:=hrs.len;omega) f1.hand
   obtain ⟨q,hq,rfl⟩:=Ap.mp hy
   have hq':=hrs.ok q hq
   have l1:=hr.len
   have l2:=hq'.len
   have k4:=ht.k4
   have c1:PV.cutD (q.map D.str) none (some (t.ks:Int))=(q.map D.str).take t.ks:=GV (by rw [Ag];omega)
   have c2:PV.cutD (r.map D.str) (some (t.ks:Int)) none=(r.map D.str).drop t.ks:=KJ (by rw [Ag];omega)
   have ad:Df (.tup ((q.map D.str).take t.ks)) (.tup ((r.map D.str).drop t.ks)) m2=some (rwD (q.take t.ks++r.drop t.ks),m2):=by
    rw [Jc]
    ·simp [rwD]
    ·rw [AH]
     have:=ht.c4
     simp
     omega
   refine ⟨q.take t.ks++r.drop t.ks,m2,?_,f1.trans f2,Xq ht hr hq'⟩
   unfold sBd
   have rq:rwD q=.tup (q.map D.str):=rfl
   have rr:rwD r=.tup (r.map D.str):=rfl
   rw [rr]
   rw [rq] at e2
   simp_arith only [ix,ne,e,e1,c,e2,c1,c2,ad]
  ·refine ⟨r,m1,?_,f1.mono (by omega),hr⟩
   have c':decide (t1=0)=false:=by simp [c]
   unfold sBd
   simp_arith only [ix,ne,e,e1,c']
noncomputable def gBd:Sx:=(CI (Dc (Ct Cw (Cn (Co 0) (Cn (Ct EU (Cn (Co 1) Cr)) Cr))) (gNm 6)) (CI (Dc (Cs ixG (Co 1) (Co 6)) (gTp 3 (CB (gNm 7) (CB (gNm 8) (CB (gNm 9) DC))))) (CI (Dc (Ct Gf (Cn (eLC (Fv (Co 8)) 2 [0] (gTp 2 (CB (gNm 0) (CB (gNm 1) DC))) (tY) (Ct CT (Cn (Co 2) (Cn (Co 1) Cr)))) Cr)) (gNm 10)) (CI sBd (CI (Dc (Cs ixG (Cs Df (eLC (Fv (Cs ixG (Co 2) (Co 6))) 1 [9,10] (gNm 0) (tV (Cs eqD (eSl (Co 0) (pNo) (Dh (Co 1))) (eSl (Co 2) (pNo) (Dh (Co 1))))) (Co 0)) (GK (Cn (eC .non) Cr))) (eC (.int 0))) (gNm 11)) (CI (Dc (Cs ixG (GK (Cn (Co 10) (Cn (Co 10) (Cn (eC .non) Cr)))) (Ct Cw (Cn (Co 0) (Cn (eC (.int 3)) Cr)))) (gNm 12)) (sIf (tV (Cs neD (Co 12) (Co 11))) (Dc (EB (Cn (Co 7) (Cn (eSl (Co 10) (pNo) (Dh (Co 9))) (Cn (Co 11) (Cn (Co 12) Cr))))) (gIx (Co 4) (EB (Cn (Co 7) (Cn (eSl (Co 10) (pNo) (Dh (Co 9))) Cr))))) (sNx))))))))
theorem Hn.ky (p:Str×List Str):Hn 3 (kyD p):=Hn.tup λd hd=>by
 simp only [Am,AJ,BG] at hd
 rcases hd with rfl|rfl
 ·exact (Hn.str _).up (by decide)
 ·exact Hn.strs _
end PG
namespace PV
open PySem L2 PyProof.Rows K1
variable {mu:Sto}
theorem Zl {k:Nat}{ks ds es:List D}{v:D}(h:mu[k]? = some (.dct ks ds))(he:EZ (.tup es)=true)(hv:Et (.tup es) ks ds=some v):ixG (.ref k) (.tup es) mu=some (v,mu):=by
 have e1:ixD (.ref k) (.tup es) mu=none:=rfl
 unfold ixG
 rw [e1]
 simp only [ixC,Fx,h,he,hv,if_true,Option.map_some]
theorem X3 {k:Nat}{ks ds:List D}(h:mu[k]? = some (.dct ks ds))(ok:DW ks=true):KS [.ref k] mu=some (.lst (Ep ks),mu):=by
 have e1:K6 [.ref k] mu=none:=by simp only [K6,HL,PU,HF,DS,h]
 unfold KS
 rw [e1]
 simp only [Rl,HL,Fx,h,ok,if_true]
end PV
namespace PG
open PySem L2 PV PyProof.Rows K1
variable {mu:Sto}
theorem JW {ks:List D}(h64:ks.length<64)(hk:∀ d∈ks,∃ p,d=kyD p):DW ks=true:=by
 unfold DW
 simp only [Ab,Af,Au,Bt,Jy]
 refine ⟨⟨⟨h64,λd hd=>?_⟩,λd hd e he=>?_⟩,.inr λd hd=>?_⟩
 ·obtain ⟨p,rfl⟩:=hk d hd
  simp only [kyD,FX,Gp,Ni,BX]
 ·obtain ⟨p,rfl⟩:=hk d hd
  obtain ⟨q,rfl⟩:=hk e he
  have lx:=Kh p.2 q.2
  simp only [kyD,ltB,Gr,CS,FF,BX,if_true]
  split
  ·split
   ·rfl
   ·exact lx
  ·rfl
 ·obtain ⟨p,rfl⟩:=hk d hd
  have:=Gz p.2
  simp only [kyD,tupS,D6,CS,FF,BX,BF,Af,CJ,toPy,PyData.depthAll,PyData.depth]
  omega
theorem RN.low {t:Tb}{d:D}(h:RN t d):Dy 0 d=true:=by
 rcases h with rfl|⟨r,rfl,_⟩
 ·rfl
 ·simp only [rwD,Dy]
  rw [F8]
  intro d hd
  obtain ⟨x,_,rfl⟩:=Ap.mp hd
  rfl
theorem Xa {ts:List Tb}{ds:List D}(h:∀ d∈ds,∃ p,d=ptD p∧MV ts p):∃ ps:List Pt,ds=ps.map ptD∧∀ p∈ps,MV ts p:=by
 induction ds with
 | nil=>exact ⟨[],rfl,λ_ h=>nomatch h⟩
 | cons d ds ih =>
  obtain ⟨r,rfl,hr⟩:=h d (.head _)
  obtain ⟨rs,rfl,hs⟩:=ih λd hd=>h d (.tail _ hd)
  refine ⟨r::rs,rfl,λq hq=>?_⟩
  rcases Am.mp hq with rfl|hq
  ·exact hr
  ·exact hs q hq
theorem Vz {ts:List Tb}{ps:List Pt}(h:∀ p∈ps,MV ts p):Dy 0 (.tup (ps.map ptD))=true:=by
 simp only [Dy]
 rw [F8]
 intro d hd
 obtain ⟨p,hp,rfl⟩:=Ap.mp hd
 obtain ⟨t,_,_,h1,h2⟩:=(h p hp).ex
 have hs:E7 0 (p.key.map D.str)=true:=by
  rw [F8]
  intro d hd
  obtain ⟨x,_,rfl⟩:=Ap.mp hd
  rfl
 simp only [ptD,Dy,E7,hs,h1.low,h2.low,BX]
end PG
namespace PV
open PySem L2 PyProof.Rows K1
variable {mu:Sto}
theorem Yz (a b c:D)(h1:ltT a b=true)(h2:ltT b c=true):ltT a c=true:=by
 cases e:ltT a c with
 | true=>rfl
 | false =>
  have:=N9 b c a (Ir b c h2) e
  rw [this] at h1
  cases h1
noncomputable def K3 (ds:List D):Bool:=(ds.zip ds.tail).all λp=>ltT p.1 p.2
theorem LQ:∀ (ds:List D),K3 ds=true ↔ ds.Pairwise λa b=>ltT a b=true
 | []=>by simp [K3]
 | [x]=>by simp [K3]
 | x::y::ds=>by
  have ih:=LQ (y::ds)
  have e:K3 (x::y::ds)=(ltT x y&&K3 (y::ds)):=rfl
  rw [e,Ab,ih]
  constructor
  ·intro ⟨h1,h2⟩
   refine BK.mpr ⟨λz hz=>?_,h2⟩
   rcases Am.mp hz with rfl|hz
   ·exact h1
   ·exact Yz _ _ _ h1 ((BK.mp h2).1 z hz)
  ·exact λh=>⟨(BK.mp h).1 y (by simp),(BK.mp h).2⟩
theorem YK {ds:List D}(h:ds.Pairwise λa b=>ltT a b=true):ds.Nodup:=by
 rw [AE]
 exact h.imp λ{a b} l e=>by subst e;have:=Ir a a l;rw [l] at this;cases this
theorem QZ {ds:List D}(ho:∀ d∈ds,FX d=true):decide (ds=Ep (DV ds))=K3 ds:=by
 rw [BL,Af,LQ]
 constructor
 ·intro h
  have p:=Dv (DV ds)
  rw [← h] at p
  have nd:=MF.mp p.length_eq.symm
  have up:=IC (DV ds)
  rw [← h] at up
  have ne:=AE.mp nd
  refine BE (λ{a b} ha hb ⟨l,n⟩=>?_) (up.and ne)
  cases c:ltT a b with
  | true=>rfl
  | false =>
   unfold leT at l
   exact (n (lt_eq a b (ho a ha) (ho b hb) c (by simpa using l))).elim
 ·intro h
  rw [JP (YK h)]
  refine HV ho (BW _) (h.imp λ{a b} l=>?_)
  unfold leT
  rw [Ir a b l]
  rfl
theorem Wc {ds:List D}(ho:∀ d∈ds,FX d=true)(nd:ds.Nodup):(Ep ds).Pairwise λa b=>ltT a b=true:=by
 have p:=Dv ds
 have up:=IC ds
 have ne:=AE.mp (p.nodup_iff.mpr nd)
 refine BE (λ{a b} ha hb ⟨l,n⟩=>?_) (up.and ne)
 cases c:ltT a b with
 | true=>rfl
 | false =>
  unfold leT at l
  exact (n (lt_eq a b (ho a (p.mem_iff.mp ha)) (ho b (p.mem_iff.mp hb)) c (by simpa using l))).elim
theorem R7 {ks:List D}(ok:DW ks=true){d e:D}(hd:d∈ks)(he:e∈ks)(l:(toPy d).depth≤60):ltG d e mu=some (.bl (ltT d e),mu):=by
 have ho:=HA ok
 unfold DW Jy at ok
 rw [Ab,Ab,Ab] at ok
 have:=Au.mp (Au.mp ok.1.2 d hd) e he
 obtain ⟨r,hr⟩:=Bm.mp this
 unfold ltG
 rw [if_pos l,hr,Rz d e r (ho d hd) (ho e he) hr]
 rfl
theorem Rj {m:Exs}{ro:Ro}{xs ys:List D}{m1:Sto}(h:m ro mu=some ([.tup xs,.tup ys],m1)):Mp m ro mu=some ((EA xs ys,none),m1):=by
 simp only [Mp,orI,iZp,V5,h,QE,SI,Ql,Option.map_none,Option.map_some]
theorem MN (x:Str)(ss:List Str):((CJ (ss.map D.str)).any λy=>PyData.eqv y (toPy (.str x)))=decide (x∈ss):=by
 induction ss with
 | nil=>simp [CJ]
 | cons y ys ih =>
  rw [Bf,CJ,List.any_cons,ih]
  simp only [toPy,PyData.eqv,Am]
  by_cases c:x=y
  ·subst c;simp
  ·have:(y==x)=false:=by simpa using λe:y=x=>c e.symm
   simp [c,this]
theorem OP {x:Str}{ss:List Str}{s:D}(hs:s=.tup (ss.map D.str)∨s=.lst (ss.map D.str)):inB mu (.str x) s=some (decide (x∈ss)):=by
 have p:=FF ss
 have d:=Gz ss
 rcases hs with rfl|rfl
 ·simp only [inB,seen,CS,p,BX,BF]
  rw [if_pos (by rw [Af];omega),MN]
 ·simp only [inB,seen,CS,p,BX,BF]
  rw [if_pos (by rw [Af];omega),MN]
theorem ZJ {x:Str}{ss:List Str}:inG (.str x) (.tup (ss.map D.str)) mu=some (.bl (decide (x∈ss)),mu):=by simp only [inG,inD,OP (.inl rfl),Option.map_some]
theorem Xr {x:Str}{ss:List Str}:Us (.str x) (.lst (ss.map D.str)) mu=some (.bl (!decide (x∈ss)),mu):=by simp only [Us,Ut,OP (.inr rfl),Option.map_some]
mutual
noncomputable def okB (n:Nat):D->Bool
 | .ref _=>false
 | .set _=>false
 | .tup ds=>decide (ds.length≤n)&&Ic n ds
 | .lst ds=>Ic n ds
 | .dct ks ds=>Ic n ks&&Ic n ds
 | _=>true
noncomputable def Ic (n:Nat):List D->Bool
 | []=>true
 | d::ds=>okB n d&&Ic n ds
end
theorem Ik {n:Nat}{ds:List D}:Ic n ds=true ↔ ∀ d∈ds,okB n d=true:=by
 induction ds with
 | nil=>simp [Ic]
 | cons d ds ih=>simp [Ic,ih]
mutual
theorem FD {n:Nat}:∀ {d:D},okB n d=true->Dy 0 d=true
 | .non,_=>rfl
 | .bl _,_=>rfl
 | .int _,_=>rfl
 | .str _,_=>rfl
 | .ref k,e=>by simp [okB] at e
 | .set k,e=>by simp [okB] at e
 | .tup ds,e=>by
  simp only [okB,Ab] at e
  simp only [Dy]
  exact Hk e.2
 | .lst ds,e=>by
  simp only [okB] at e
  simp only [Dy]
  exact Hk e
 | .dct ks ds,e=>by
  simp only [okB,Ab] at e
  simp only [Dy,Ab]
  exact ⟨Hk e.1,Hk e.2⟩
theorem Hk {n:Nat}:∀ {ds:List D},Ic n ds=true->E7 0 ds=true
 | [],_=>rfl
 | d::ds,e=>by
  simp only [Ic,Ab] at e
  simp only [E7,Ab]
  exact ⟨FD e.1,Hk e.2⟩
end
mutual
theorem MC {n m:Nat}(h:n≤m):∀ {d:D},okB n d=true->okB m d=true
 | .non,_=>rfl
 | .bl _,_=>rfl
 | .int _,_=>rfl
 | .str _,_=>rfl
 | .ref k,e=>by simp [okB] at e
 | .set k,e=>by simp [okB] at e
 | .tup ds,e=>by
  simp only [okB,Ab,Af] at e ⊢
  exact ⟨by omega,H0 h e.2⟩
 | .lst ds,e=>by
  simp only [okB] at e ⊢
  exact H0 h e
 | .dct ks ds,e=>by
  simp only [okB,Ab] at e ⊢
  exact ⟨H0 h e.1,H0 h e.2⟩
theorem H0 {n m:Nat}(h:n≤m):∀ {ds:List D},Ic n ds=true->Ic m ds=true
 | [],_=>rfl
 | d::ds,e=>by
  simp only [Ic,Ab] at e ⊢
  exact ⟨MC h e.1,H0 h e.2⟩
end
theorem Iz {n:Nat}{ds:List D}(h:okB n (.tup ds)=true):∀ d∈ds,okB n d=true:=by
 simp only [okB,Ab] at h
 exact Ik.mp h.2
theorem J4 (n:Nat)(ss:List Str):Ic n (ss.map D.str)=true:=by
 rw [Ik]
 intro d hd
 obtain ⟨x,_,rfl⟩:=Ap.mp hd
 rfl
noncomputable def Vt:D->Bool
 | .str _=>true
 | _=>false
theorem O1 (d:D)(h:nR d=true):GG "str" d mu=some (.bl (Vt d),mu):=by
 cases d<;>first|(cases h;done)|simp [Vt]
theorem Ia (d:D)(h:nR d=true):GG "tuple" d mu=some (.bl (isT d),mu):=by
 cases d<;>first|(cases h;done)|simp [isT]
end PV
namespace PG
open PySem L2 PV PyProof.Rows K1
variable {mu:Sto}
noncomputable def GZ (x:D)(vs:List Str):Bool:=match x with
 | .str y=>decide (y∈vs)
 | _=>false
noncomputable def D5 (cs:List (Str×List Str))(d:D):Bool:=match d with
 | .tup ds=>decide (ds.length=cs.length)&&(ds.zip cs).all (λp=>GZ p.1 p.2.2)
 | _=>false
theorem LD {m0:Sto}{cs:List (Str×List Str)}{ds:List D}(h:∀ d∈ds,nR d=true):G3 none m0 (gTp 2 (CB (gNm 0) (CB (gTp 2 (CB (gNm 1) (CB (gNm 2) DC))) DC))) tY (eAn (HD "str" (Co 0)) (Cs inG (Co 0) (Co 2))) [none,none,none] (EA ds (cs.map clD)) mu=some (((ds.zip cs).map λp=>GZ p.1 p.2.2).map D.bl,mu):=by
 have:=Kq (m0:=m0) (tg:=(gTp 2 (CB (gNm 0) (CB (gTp 2 (CB (gNm 1) (CB (gNm 2) DC))) DC)))) (el:=(eAn (HD "str" (Co 0)) (Cs inG (Co 0) (Co 2)))) (ro:=[none,none,none]) (mu:=mu) (λd=>match d with|.tup [x,.tup [_,.tup vs]]=>(match x with|.str y=>decide (D.str y∈vs)|_=>false)|_=>false) (EA ds (cs.map clD)) (λd hd=>by
  unfold EA at hd
  obtain ⟨p,hp,rfl⟩:=Ap.mp hd
  have h1:=h p.1 (B5 hp).1
  obtain ⟨q,_,e2⟩:=Ap.mp (B5 hp).2
  obtain ⟨x,y⟩:=p
  dsimp only at h1 e2 ⊢
  subst e2
  refine ⟨[some x,some (.str q.1),some (.tup (q.2.map D.str))],rfl,?_⟩
  simp only [clD]
  cases x with
  | str z =>
   have e:decide (D.str z∈q.2.map D.str)=decide (z∈q.2):=by
    rw [BL,Af,Af,Ap]
    exact ⟨λ⟨w,hw,e⟩=>by cases e;exact hw,λh=>⟨z,h,rfl⟩⟩
   simp_arith only [O1 _ h1,Vt,ZJ,e]
  | _=>simp_arith only [O1 _ h1,Vt])
 rw [this]
 congr 2
 unfold EA
 rw [List.zip_map_right]
 simp only [BN]
 refine List.map_congr_left λp _=>?_
 obtain ⟨x,q⟩:=p
 simp only [Function.comp,Prod.map,clD,id,GZ]
 congr 1
 cases x with
 | str z =>
  simp only []
  rw [BL,Af,Af,Ap]
  exact ⟨λ⟨w,hw,e⟩=>by cases e;exact hw,λh=>⟨z,h,rfl⟩⟩
 | _=>rfl
theorem KH {cs:List (Str×List Str)}{d:D}(h:Dy 0 d=true):EY [.tup (cs.map clD),d] mu=some (.bl (D5 cs d),mu):=by
 have it:=NI (mu:=mu) d cs.length cs.length (EJ h)
 cases d with
 | tup ds =>
  by_cases c:ds.length=cs.length
  ·have tb:EV cs.length cs.length (.tup ds)=true:=by simp [EV,c]
   rw [tb] at it
   have cr:=LD (mu:=mu) (m0:=mu) (cs:=cs) (nRs h)
   have e:D5 cs (.tup ds)=(ds.zip cs).all (λp=>GZ p.1 p.2.2):=by simp [D5,c]
   have zp:=Rj (mu:=mu) (ro:=[some (.tup (cs.map clD)),some (.tup ds)]) (m:=(Cn (Co 1) (Cn (Co 0) Cr))) (xs:=ds) (ys:=cs.map clD) (m1:=mu) (by simp_arith only [])
   have af:HK [.lst (((ds.zip cs).map λp=>GZ p.1 p.2.2).map D.bl)] mu=some (.bl ((ds.zip cs).all (λp=>GZ p.1 p.2.2)),mu):=by
    rw [Ta,List.all_map]
    rfl
   rw [e]
   simp_arith only [EY,Hh,Ag,it,zp,cr,af]
  ·have tb:EV cs.length cs.length (.tup ds)=false:=by simp [EV];omega
   rw [tb] at it
   have e:D5 cs (.tup ds)=false:=by simp [D5,c]
   rw [e]
   simp_arith only [EY,Hh,Ag,it]
 | ref k=>cases EJ h
 | _ =>
  simp only [EV] at it
  simp_arith only [EY,Hh,Ag,it,D5]
structure RwC (cs:List (Str×List Str)) (r:List Str):Prop where
 len:r.length=cs.length
 at':∀ (i:Nat) x p,r[i]? = some x->cs[i]? = some p->x∈p.2
theorem Eo {cs:List (Str×List Str)}{d:D}(h:D5 cs d=true):∃ r,d=rwD r∧RwC cs r:=by
 cases d with
 | tup ds =>
  simp only [D5,Ab,Af,Au] at h
  obtain ⟨hl,ha⟩:=h
  have at_:∀ (i:Nat) (d:D) (p:Str×List Str),ds[i]? = some d->cs[i]? = some p->GZ d p.2=true:=λi d p h1 h2=>ha (d,p) (Ak (i:=i) (by rw [List.getElem?_zip_eq_some];exact ⟨h1,h2⟩))
  obtain ⟨r,rfl⟩:=VD (ds:=ds) λj d hj=>by
   have jl:j<cs.length:=by rw [← hl];exact (Ae.mp hj).1
   have:=at_ j d _ hj (Ah jl)
   cases d with
   | str x=>exact ⟨x,rfl⟩
   | _=>cases this
  refine ⟨r,rfl,by simpa using hl,λi x p hx hp=>?_⟩
  have:=at_ i (.str x) p (by rw [Al,hx];rfl) hp
  simpa [GZ] using this
 | _=>simp [D5] at h
theorem Ie {cs:List (Str×List Str)}{r:List Str}(h:RwC cs r):D5 cs (rwD r)=true:=by
 simp only [D5,rwD,Ag,h.len,decide_true,BF,Au]
 intro p hp
 obtain ⟨i,hi⟩:=AK.mp hp
 rw [List.getElem?_zip_eq_some,Al] at hi
 cases q:r[i]? with
 | none=>rw [q] at hi;cases hi.1
 | some x =>
  rw [q] at hi
  have e1:D.str x=p.1:=AB hi.1
  rw [← e1]
  simp only [GZ,Af]
  exact h.at' i x p.2 q hi.2
theorem RwC.take {cs:List (Str×List Str)}{r:List Str}(h:RwC cs r)(n:Nat):RwC (cs.take n) (r.take n):=by
 refine ⟨by rw [Az,Az,h.len],λi x p hx hp=>?_⟩
 rw [List.getElem?_take] at hx hp
 split at hx
 ·rename_i c
  rw [if_pos c] at hp
  exact h.at' i x p hx hp
 ·cases hx
theorem RwOk.c {t:Tb}{r:List Str}(h:RwOk t r):RwC t.cs r:=⟨h.len,h.at'⟩
theorem RwC.r {t:Tb}{r:List Str}(h:RwC t.cs r):RwOk t r:=⟨h.len,h.at'⟩
theorem Kl {a b:List Str}:rwD a=rwD b ↔ a=b:=by
 constructor
 ·intro h
  have h':a.map D.str=b.map D.str:=by unfold rwD at h;injection h
  exact (List.map_inj_right (λx y e=>by injection e)).mp h'
 ·rintro rfl;rfl
theorem OO {a b:List Str}:eqD (rwD a) (rwD b) mu=some (.bl (decide (a=b)),mu):=by
 rw [Q3 ((Hn.row a).K (by decide)) ((Hn.row b).K (by decide))]
 congr 3
 rw [BL,Af,Af,Kl]
structure SW (ts:List Tb):Prop where
 ok:SOk ts
 w:∀ t∈ts,IsW t.nm
noncomputable def IZ (ts:List Tb)(a:D):Option Tb:=match a with
 | .str x=>ts.find? (λt=>decide (t.nm=x))
 | _=>none
noncomputable def K2:Option Tb->D
 | none=>.non
 | some t=>tbD t
theorem QT {m0:Sto}(ts:List Tb):G3 none m0 (gNm 0) tY (Cs ixG (Co 0) (eC (.int 0))) [none] (ts.map tbD) mu=some ((ts.map Tb.nm).map D.str,mu):=by
 have:=HJ (m0:=m0) (tg:=gNm 0) (el:=(Cs ixG (Co 0) (eC (.int 0)))) (ro:=[none]) (mu:=mu) Jl (ts.map tbD) (λd hd=>by
  obtain ⟨t,_,rfl⟩:=Ap.mp hd
  refine ⟨_,rfl,?_⟩
  simp_arith only [tbD,Jl])
 rw [this,BN,BN]
 rfl
theorem Mw {ts:List Tb}{x:Str}{t:Tb}(h:ts.find? (λt=>decide (t.nm=x))=some t):FP [.tup (ts.map tbD),.str x] mu=some (tbD t,mu):=by
 have lc:=Hs (m0:=mu) (tg:=gNm 0) (tt:=(tV (Cs eqD (Cs ixG (Co 0) (eC (.int 0))) (Co 1)))) (el:=Co 0) (ro:=[none,some (.str x)]) (mu:=mu) (λd=>match d with|.tup (.str y::_)=>decide (y=x)|_=>false) id (ts.map tbD) (λd hd=>by
  obtain ⟨t,_,rfl⟩:=Ap.mp hd
  refine ⟨_,rfl,?_,λ_=>rfl⟩
  simp_arith only [tbD])
 have e:((ts.map tbD).filter (λd=>match d with|.tup (.str y::_)=>decide (y=x)|_=>false)).map id=(ts.filter (λt=>decide (t.nm=x))).map tbD:=by
  rw [List.map_id,List.filter_map]
  rfl
 obtain ⟨r,hr⟩:∃ r,ts.filter (λt=>decide (t.nm=x))=t::r:=by
  have:=List.head?_filter (p:=λt:Tb=>decide (t.nm=x)) (l:=ts)
  rw [h] at this
  cases q:ts.filter (λt=>decide (t.nm=x)) with
  | nil=>rw [q] at this;cases this
  | cons a r=>rw [q] at this;cases this;exact ⟨r,rfl⟩
 rw [e,hr,Bf] at lc
 simp_arith only [FP,HH,lc]
theorem Mm {ts:List Tb}(H:SW ts){a:D}(h:Dy 0 a=true):Dx [.tup (ts.map tbD),a] mu=some (K2 (IZ ts a),mu):=by
 have iw:=T6 (mu:=mu) a (EJ h)
 cases c:FU a with
 | false =>
  rw [c] at iw
  have e:IZ ts a=none:=by
   unfold IZ
   split
   ·rename_i x
    rw [List.find?_eq_none]
    intro t ht
    simp only [Af]
    rintro rfl
    have:FU (.str t.nm)=true:=II.mpr (H.w t ht)
    rw [c] at this
    cases this
   ·rfl
  rw [e]
  simp_arith only [Dx,D3,iw,K2]
 | true =>
  rw [c] at iw
  cases a with
  | str x =>
   have nr:=QT (mu:=mu) (m0:=mu) ts
   have nn:=Xr (mu:=mu) (x:=x) (ss:=ts.map Tb.nm)
   by_cases hx:x∈ts.map Tb.nm
   ·obtain ⟨t,ht⟩:∃ t,ts.find? (λt=>decide (t.nm=x))=some t:=by
     obtain ⟨t,ht,e⟩:=Ap.mp hx
     cases q:ts.find? (λt=>decide (t.nm=x)) with
     | some t=>exact ⟨t,rfl⟩
     | none=>exact absurd e (by simpa using List.find?_eq_none.mp q t ht)
    have tr:=Mw (mu:=mu) ht
    have e:IZ ts (.str x)=some t:=ht
    have c1:(!decide (x∈ts.map Tb.nm))=false:=by simp [hx]
    rw [c1] at nn
    rw [e]
    simp_arith only [Dx,D3,iw,nr,nn,tr,K2]
   ·have e:IZ ts (.str x)=none:=by
     show ts.find? (λt=>decide (t.nm=x))=none
     rw [List.find?_eq_none]
     intro t ht
     simp only [Af]
     exact λe=>hx (Ap.mpr ⟨t,ht,e⟩)
    have c1:(!decide (x∈ts.map Tb.nm))=true:=by simp [hx]
    rw [c1] at nn
    rw [e]
    simp_arith only [Dx,D3,iw,nr,nn,K2]
  | _=>simp [FU] at c
noncomputable def Fw (ks:Nat)(rs:List (List Str))(k:List Str):D:=match rs.find? (λr=>decide (r.take ks=k)) with
 | some r=>rwD r
 | none=>.non
theorem JX {r:List Str}{j:Nat}(h:j≤r.length):slD (rwD r) none (some (j:Int)) mu=some (rwD (r.take j),mu):=by
 unfold rwD
 rw [VF,GV (by rw [Ag];exact h),Bo]
theorem Mf {ks:Nat}{rs:List (List Str)}{k:List Str}(h:∀ r∈rs,ks≤r.length):DI [flD rs,.int ks,rwD k] mu=some (Fw ks rs k,mu):=by
 have key:∀ (qs:List (List Str)) (x3:Option D),(∀ r∈qs,ks≤r.length)->∃ y3,Ey none mu (gNm 3) (sIf (tV (Cs eqD (eSl (Co 3) (pNo) (Dh (Co 1))) (Co 2))) (sRt (Co 3)) (sNx)) (qs.map rwD) [some (flD rs),some (.int ks),some (rwD k),x3] mu=some ((match qs.find? (λr=>decide (r.take ks=k)) with|some r=>.rt (rwD r)|none=>.nx,[some (flD rs),some (.int ks),some (rwD k),y3]),mu):=by
  intro qs
  induction qs with
  | nil=>exact λx3 _=>⟨x3,rfl⟩
  | cons r qs ih =>
   intro x3 hq
   have e:=OO (mu:=mu) (a:=r.take ks) (b:=k)
   have cr:=JX (mu:=mu) (hq r (.head _))
   have tg:gNm 3 (rwD r) [some (flD rs),some (.int ks),some (rwD k),x3] mu=some ([some (flD rs),some (.int ks),some (rwD k),some (rwD r)],mu):=rfl
   rw [Bf]
   by_cases c:r.take ks=k
   ·have c1:decide (r.take ks=k)=true:=by simp [c]
    rw [c1] at e
    refine ⟨some (rwD r),?_⟩
    rw [List.find?_cons_of_pos (by simpa using c)]
    unfold Ey
    rw [tg,Ef]
    simp_arith only [cr,e]
   ·have c1:decide (r.take ks=k)=false:=by simp [c]
    rw [c1] at e
    obtain ⟨y3,e3⟩:=ih (some (rwD r)) λr hr=>hq r (.tail _ hr)
    refine ⟨y3,?_⟩
    rw [List.find?_cons_of_neg (by simpa using c)]
    unfold Ey
    rw [tg,Ef]
    simp_arith only [cr,e]
    rw [Ff,if_pos (show gOk none mu mu from True.intro)]
    exact e3
 obtain ⟨y3,e⟩:=key rs none h
 have iv:Lj mu (flD rs)=some ((rs.map rwD,none),mu):=rfl
 unfold Fw
 cases q:rs.find? (λr=>decide (r.take ks=k)) with
 | none =>
  rw [q] at e
  simp_arith only [DI,E1,iv,e]
 | some r =>
  rw [q] at e
  simp_arith only [DI,E1,iv,e]
noncomputable def Ij:List Tb->List (List (List Str))->Str->List (List Str)
 | t::ts,rs::gs,x=>if t.nm=x then rs else Ij ts gs x
 | _,_,_=>[]
theorem Oq {ts:List Tb}{gs:List (List (List Str))}(hl:gs.length=ts.length)(ho:∀ (j:Nat) rs t,gs[j]? = some rs->ts[j]? = some t->∀ r∈rs,t.ks≤r.length){x:Str}{t:Tb}(ht:ts.find? (λt=>decide (t.nm=x))=some t){k:List Str}:G5 [.tup (ts.map tbD),.tup (gs.map flD),.str x,rwD k] mu=some (Fw t.ks (Ij ts gs x) k,mu):=by
 have key:∀ (us:List Tb) (hs:List (List (List Str))) (x4 x5:Option D),hs.length=us.length->(∀ (j:Nat) rs t,hs[j]? = some rs->us[j]? = some t->∀ r∈rs,t.ks≤r.length)->us.find? (λt=>decide (t.nm=x))=some t->∃ y4 y5,Ey none mu (gTp 2 (CB (gNm 4) (CB (gNm 5) DC))) (sIf (tV (Cs eqD (Cs ixG (Co 4) (eC (.int 0))) (Co 2))) (sRt (Ct DI (Cn (Co 5) (Cn (Cs ixG (Co 4) (eC (.int 2))) (Cn (Co 3) Cr))))) (sNx)) (EA (us.map tbD) (hs.map flD)) [some (.tup (ts.map tbD)),some (.tup (gs.map flD)),some (.str x),some (rwD k),x4,x5] mu=some ((.rt (Fw t.ks (Ij us hs x) k),[some (.tup (ts.map tbD)),some (.tup (gs.map flD)),some (.str x),some (rwD k),y4,y5]),mu):=by
  intro us
  induction us with
  | nil=>intro hs x4 x5 _ _ h;cases h
  | cons u us ih =>
   intro hs x4 x5 hl ho hf
   cases hs with
   | nil=>simp at hl
   | cons rs hs =>
    have tg:gTp 2 (CB (gNm 4) (CB (gNm 5) DC)) (.tup [tbD u,flD rs]) [some (.tup (ts.map tbD)),some (.tup (gs.map flD)),some (.str x),some (rwD k),x4,x5] mu=some ([some (.tup (ts.map tbD)),some (.tup (gs.map flD)),some (.str x),some (rwD k),some (tbD u),some (flD rs)],mu):=rfl
    have zz:EA ((u::us).map tbD) ((rs::hs).map flD)=.tup [tbD u,flD rs]::EA (us.map tbD) (hs.map flD):=rfl
    rw [zz]
    have i0:ixG (tbD u) (.int 0) mu=some (.str u.nm,mu):=KA
    have i2:ixG (tbD u) (.int 2) mu=some (.int u.ks,mu):=IY
    by_cases c:u.nm=x
    ·rw [List.find?_cons_of_pos (by simpa using c)] at hf
     cases hf
     have wk:=Mf (mu:=mu) (k:=k) (ho 0 rs t rfl rfl)
     refine ⟨some (tbD t),some (flD rs),?_⟩
     unfold Ey
     rw [tg,Ef]
     simp_arith only [i0,i2,c,wk,Ij]
    ·rw [List.find?_cons_of_neg (by simpa using c)] at hf
     obtain ⟨y4,y5,e⟩:=ih hs (some (tbD u)) (some (flD rs)) (by simpa using hl) (λj r t h1 h2=>ho (j+1) r t h1 h2) hf
     refine ⟨y4,y5,?_⟩
     have c1:decide (u.nm=x)=false:=by simp [c]
     unfold Ey
     rw [tg,Ef]
     simp_arith only [i0,c1,Ij,c]
     rw [Ff,if_pos (show gOk none mu mu from True.intro)]
     exact e
 obtain ⟨y4,y5,e⟩:=key ts gs none none hl ho ht
 have zp:=Rj (mu:=mu) (ro:=[some (.tup (ts.map tbD)),some (.tup (gs.map flD)),some (.str x),some (rwD k),none,none]) (m:=(Cn (Co 0) (Cn (Co 1) Cr))) (xs:=ts.map tbD) (ys:=gs.map flD) (m1:=mu) (by simp_arith only [])
 simp_arith only [G5,KI,zp,e]
noncomputable def tkD (n:Nat):D->D
 | .tup ds=>.tup (ds.take n)
 | d=>d
noncomputable def isN:D->Bool
 | .non=>true
 | _=>false
noncomputable def rnB (t:Tb)(k:List Str)(x:D):Bool:=isN x||(D5 t.cs x&&decide (tkD t.ks x=rwD k))
theorem Jz {t:Tb}(ht:J2 t){k:List Str}{x:D}(h:Dy 0 x=true):Dp [tbD t,rwD k,x] mu=some (.bl (rnB t k x),mu):=by
 have ir:=KH (mu:=mu) (cs:=t.cs) h
 have i1:ixG (tbD t) (.int 1) mu=some (.tup (t.cs.map clD),mu):=LY
 have i2:ixG (tbD t) (.int 2) mu=some (.int t.ks,mu):=IY
 have is:isD x .non mu=some (.bl (isN x),mu):=by cases x<;>rfl
 unfold rnB
 cases c:isN x with
 | true =>
  rw [c] at is
  simp_arith only [Dp,D0,is]
 | false =>
  rw [c] at is
  cases c2:D5 t.cs x with
  | false =>
   rw [c2] at ir
   simp_arith only [Dp,D0,is,i1,ir]
  | true =>
   rw [c2] at ir
   obtain ⟨r,rfl,hr⟩:=Eo c2
   have cr:=JX (mu:=mu) (r:=r) (j:=t.ks) (by rw [hr.len];exact ht.k4)
   have e:=OO (mu:=mu) (a:=r.take t.ks) (b:=k)
   have te:decide (tkD t.ks (rwD r)=rwD k)=decide (r.take t.ks=k):=by
    rw [BL,Af,Af,← Kl]
    simp only [tkD,rwD,Bo]
   rw [te]
   simp_arith only [Dp,D0,is,i1,ir,i2,cr,e]
noncomputable def Ls:D->List Str
 | .tup ds=>ds.filterMap λd=>match d with|.str x=>some x|_=>none
 | _=>[]
theorem Ht (k:List Str):Ls (rwD k)=k:=by
 unfold rwD Ls
 dsimp only
 rw [List.filterMap_map]
 exact List.filterMap_some
noncomputable def pB (ts:List Tb)(gs:List (List (List Str)))(d:D):Bool:=match d with
 | .tup [a,b,c,e]=>(match IZ ts a with
  | none=>false
  | some t=>D5 (t.cs.take t.ks) b&&(rnB t (Ls b) c&&(rnB t (Ls b) e&&(decide (c=Fw t.ks (Ij ts gs t.nm) (Ls b))&&!decide (e=c)))))
 | _=>false
theorem JR {t:Tb}{k:List Str}{x:D}(h:rnB t k x=true):RN t x∧(x=.non∨∃ r,x=rwD r∧r.take t.ks=k):=by
 unfold rnB at h
 rw [Bt,Ab] at h
 rcases h with h|⟨h1,h2⟩
 ·have:x=.non:=by cases x<;>first|rfl|cases h
  exact ⟨.inl this,.inl this⟩
 ·obtain ⟨r,rfl,hr⟩:=Eo h1
  refine ⟨.inr ⟨r,rfl,hr.r⟩,.inr ⟨r,rfl,?_⟩⟩
  rw [Af] at h2
  rw [← Kl,← h2]
  simp only [tkD,rwD,Bo]
theorem Xd (ks:Nat)(rs:List (List Str))(k:List Str):Hn 2 (Fw ks rs k):=by
 unfold Fw
 split
 ·exact Hn.row _
 ·exact Hn.non.up (by decide)
structure FW (ts:List Tb) (gs:List (List (List Str))):Prop where
 len:gs.length=ts.length
 ok:∀ (j:Nat) rs t,gs[j]? = some rs->ts[j]? = some t->∀ r∈rs,RwOk t r
theorem FW.ks {ts:List Tb}{gs:List (List (List Str))}(H:SW ts)(F:FW ts gs):∀ (j:Nat) rs t,gs[j]? = some rs->ts[j]? = some t->∀ r∈rs,t.ks≤r.length:=λj rs t h1 h2 r hr=>by
 have:=(F.ok j rs t h1 h2 r hr).len
 have:=(H.ok.ok t (Ak h2)).k4
 omega
theorem Io {ts:List Tb}{a:D}{t:Tb}(h:IZ ts a=some t):a=.str t.nm∧t∈ts∧ts.find? (λu=>decide (u.nm=t.nm))=some t:=by
 unfold IZ at h
 split at h
 ·rename_i x
  have e:t.nm=x:=by simpa using List.find?_some h
  subst e
  exact ⟨rfl,List.mem_of_find?_eq_some h,h⟩
 ·cases h
theorem RX {ts:List Tb}{gs:List (List (List Str))}(H:SW ts)(F:FW ts gs){d:D}(h:Dy 0 d=true):DH [.tup (ts.map tbD),.tup (gs.map flD),d] mu=some (.bl (pB ts gs d),mu):=by
 have it:=NI (mu:=mu) d 4 4 (EJ h)
 have no:EV 4 4 d=false->pB ts gs d=false->DH [.tup (ts.map tbD),.tup (gs.map flD),d] mu=some (.bl (pB ts gs d),mu):=λh1 h2=>by
  rw [h1] at it
  have is:isD .non .non mu=some (.bl true,mu):=rfl
  rw [h2]
  simp_arith only [DH,Ew,it,is]
 cases d with
 | tup ds =>
  match ds,h,it,no with
  | [],h,it,no=>exact no rfl rfl
  | [_],h,it,no=>exact no rfl rfl
  | [_,_],h,it,no=>exact no rfl rfl
  | [_,_,_],h,it,no=>exact no rfl rfl
  | _::_::_::_::_::_,h,it,no=>exact no (by simp [EV];omega) rfl
  | [a,b,c,e],h,it,no =>
   have tb:EV 4 4 (.tup [a,b,c,e])=true:=rfl
   rw [tb] at it
   have lw:=lows h
   have la:=lw a (by simp)
   have lb:=lw b (by simp)
   have lc:=lw c (by simp)
   have le:=lw e (by simp)
   have nm:=Mm (mu:=mu) H la
   unfold pB
   dsimp only
   cases q:IZ ts a with
   | none =>
    rw [q] at nm
    have is:isD .non .non mu=some (.bl true,mu):=rfl
    simp_arith only [DH,Ew,it,nm,K2,is]
   | some t =>
    rw [q] at nm
    obtain ⟨rfl,ht,hf⟩:=Io q
    have hk:=H.ok.ok t ht
    dsimp only
    have is:isD (tbD t) .non mu=some (.bl false,mu):=rfl
    have i1:ixG (tbD t) (.int 1) mu=some (.tup (t.cs.map clD),mu):=LY
    have i2:ixG (tbD t) (.int 2) mu=some (.int t.ks,mu):=IY
    have ct:PV.cutD (t.cs.map clD) none (some (t.ks:Int))=(t.cs.take t.ks).map clD:=by rw [GV (by rw [Ag];exact hk.k4),Bo]
    have ir:=KH (mu:=mu) (cs:=t.cs.take t.ks) lb
    cases c1:D5 (t.cs.take t.ks) b with
    | false =>
     rw [c1] at ir
     simp_arith only [DH,Ew,it,nm,K2,is,i1,i2,ct,ir]
    | true =>
     rw [c1] at ir
     obtain ⟨k,rfl,hkr⟩:=Eo c1
     rw [Ht]
     have o1:=Jz (mu:=mu) hk (k:=k) lc
     have o2:=Jz (mu:=mu) hk (k:=k) le
     cases c2:rnB t k c with
     | false =>
      rw [c2] at o1
      simp_arith only [DH,Ew,it,nm,K2,is,i1,i2,ct,ir,o1]
     | true =>
      rw [c2] at o1
      cases c3:rnB t k e with
      | false =>
       rw [c3] at o2
       simp_arith only [DH,Ew,it,nm,K2,is,i1,i2,ct,ir,o1,o2]
      | true =>
       rw [c3] at o2
       have ra:=Oq (mu:=mu) F.len (F.ks H) hf (k:=k)
       have hc:=(JR c2).1.hn
       have he:=(JR c3).1.hn
       have eq:=Q3 (mu:=mu) (hc.K (by decide)) ((Xd t.ks (Ij ts gs t.nm) k).K (by decide))
       have ne:=Sg (mu:=mu) (he.K (by decide)) (hc.K (by decide))
       cases c4:decide (c=Fw t.ks (Ij ts gs t.nm) k) with
       | false =>
        rw [c4] at eq
        simp_arith only [DH,Ew,it,nm,K2,is,i1,i2,ct,ir,o1,o2,ra,eq]
       | true =>
        rw [c4] at eq
        simp_arith only [DH,Ew,it,nm,K2,is,i1,i2,ct,ir,o1,o2,ra,eq,ne]
 | ref k=>cases EJ h
 | _=>exact no rfl rfl
theorem SE {ts:List Tb}{gs:List (List (List Str))}{d:D}(h:pB ts gs d=true):∃ p:Str×List Str,tkD 2 d=kyD p:=by
 unfold pB at h
 split at h
 ·split at h
  ·cases h
  ·rename_i t q
   obtain ⟨rfl,_,_⟩:=Io q
   rw [Ab] at h
   obtain ⟨k,rfl,_⟩:=Eo h.1
   exact ⟨(t.nm,k),rfl⟩
 ·cases h
noncomputable def chB (ts:List Tb)(gs:List (List (List Str)))(d:D):Bool:=match d with
 | .tup ps=>ps.all (pB ts gs)&&K3 (ps.map (tkD 2))
 | _=>false
theorem N4 {ds:List D}(h:∀ d∈ds,∀ e∈ds,ltG d e mu=some (.bl (ltT d e),mu)):Ej [.lst ds] mu=some (.bl (K3 ds),mu):=by
 have z:=ZR (mu:=mu) (ro:=[some (.lst ds)]) (m:=Cn (Co 0) (Cn (eSl (Co 0) (Dh (eC (.int 1))) (pNo)) Cr)) (xs:=ds) (ys:=ds.drop 1) (m1:=mu) (by simp_arith only [])
 have al:=Kq (m0:=mu) (tg:=gTp 2 (CB (gNm 0) (CB (gNm 1) DC))) (el:=Cs ltG (Co 0) (Co 1)) (ro:=[none,none]) (mu:=mu) (λd=>match d with|.tup [a,b]=>ltT a b|_=>false) (EA ds (ds.drop 1)) (λd hd=>by
  unfold EA at hd
  obtain ⟨p,hp,rfl⟩:=Ap.mp hd
  have h1:=(B5 hp).1
  have h2:=BJ (B5 hp).2
  refine ⟨_,rfl,?_⟩
  simp_arith only [h _ h1 _ h2])
 have e:((EA ds (ds.drop 1)).all λd=>match d with|.tup [a,b]=>ltT a b|_=>false)=K3 ds:=by
  unfold EA K3
  rw [List.all_map,List.drop_one]
  rfl
 simp_arith only [Ej,F7,z,al,e]
theorem Yc (p:Str×List Str):(toPy (kyD p)).depth≤60:=by
 have:=Gz p.2
 simp only [kyD,toPy,CJ,PyData.depth,PyData.depthAll]
 omega
theorem Ho {ts:List Tb}{gs:List (List (List Str))}(H:SW ts)(F:FW ts gs){d:D}(h:Dy 0 d=true)(hz:∀ ps,d=.tup ps->ps.length<64):CV [.tup (ts.map tbD),.tup (gs.map flD),d] mu=some (.bl (chB ts gs d),mu):=by
 have it:=Ia (mu:=mu) d (EJ h)
 cases d with
 | tup ps =>
  have al:=Kq (m0:=mu) (tg:=gNm 0) (el:=(Ct DH (Cn (Co 1) (Cn (Co 2) (Cn (Co 0) Cr))))) (ro:=[none,some (.tup (ts.map tbD)),some (.tup (gs.map flD))]) (mu:=mu) (pB ts gs) ps (λd hd=>⟨_,rfl,by simp_arith only [RX H F (lows h d hd)]⟩)
  unfold chB
  dsimp only
  cases c:ps.all (pB ts gs) with
  | false =>
   simp_arith only [CV,Ft,it,isT,al,c]
  | true =>
   rw [Au] at c
   have c':ps.all (pB ts gs)=true:=Au.mpr c
   have sp:=HJ (m0:=mu) (tg:=gNm 0) (el:=(eSl (Co 0) (pNo) (Dh (eC (.int 2))))) (ro:=[none]) (mu:=mu) (tkD 2) ps (λd hd=>by
    refine ⟨_,rfl,?_⟩
    have:=c d hd
    unfold pB at this
    split at this
    ·have ct:∀ (a b c e:D),PV.cutD [a,b,c,e] none (some 2)=[a,b]:=λa b c e=>rfl
     simp_arith only [ct,tkD,List.take]
    ·cases this)
   have ky:∀ d∈ps.map (tkD 2),∃ p,d=kyD p:=λd hd=>by
    obtain ⟨x,hx,rfl⟩:=Ap.mp hd
    exact SE (c x hx)
   have ok:=JW (ks:=ps.map (tkD 2)) (by rw [Ag];exact hz ps rfl) ky
   have rr:=N4 (mu:=mu) (ds:=ps.map (tkD 2)) λd hd e he=>R7 ok hd he (by obtain ⟨p,rfl⟩:=ky d hd;exact Yc p)
   simp_arith only [CV,Ft,it,isT,al,c',sp,rr]
 | ref k=>cases EJ h
 | _=>simp_arith only [CV,Ft,it,isT,chB]
end PG
namespace PV
open PySem L2 PyProof.Rows K1
variable {mu:Sto}
noncomputable def eqS (x:Str):D->Bool
 | .str y=>decide (x=y)
 | _=>false
theorem VZ {n:Nat}{x:Str}{d:D}(h:okB n d=true):eqG (.str x) d mu=some (.bl (eqS x d),mu):=by
 have pu:∀ e:D,CS e=true->seen mu e=e->PyData.eqv (toPy (.str x)) (toPy e)=eqS x e->eqG (.str x) e mu=some (.bl (eqS x e),mu):=λe p s q=>by
  have:eqB mu (.str x) e=some (eqS x e):=by
   unfold eqB
   rw [s,p]
   simp only [seen,CS,BX,BF]
   rw [if_pos (by simp [toPy,PyData.depth]),q]
  unfold eqG eqD
  rw [this]
  rfl
 cases d with
 | non=>exact pu _ rfl rfl rfl
 | bl b=>exact pu _ rfl rfl rfl
 | int i=>exact pu _ rfl rfl rfl
 | str y=>exact pu _ rfl rfl rfl
 | tup ds =>
  by_cases p:CS (.tup ds)=true
  ·exact pu _ p rfl rfl
  ·have:eqD (.str x) (.tup ds) mu=none:=by
    unfold eqD eqB
    simp only [seen,p,Bool.and_false,Bool.false_and,Av,A0]
    rfl
   unfold eqG
   rw [this]
   rfl
 | lst ds =>
  by_cases p:CS (.lst ds)=true
  ·exact pu _ p rfl rfl
  ·have:eqD (.str x) (.lst ds) mu=none:=by
    unfold eqD eqB
    simp only [seen,p,Bool.and_false,Bool.false_and,Av,A0]
    rfl
   unfold eqG
   rw [this]
   rfl
 | dct ks ds =>
  have:eqD (.str x) (.dct ks ds) mu=none:=by
   unfold eqD eqB
   simp only [seen,CS,Bool.and_false,Bool.false_and,Av,A0]
   rfl
  unfold eqG
  rw [this]
  rfl
 | _=>simp [okB] at h
theorem N7 {d e:D}{r:D×Sto}(h:eqD d e mu=some r):eqG d e mu=some r:=by unfold eqG;rw [h]
theorem Od {d e:D}{r:D×Sto}(h:eqG d e mu=some r):eqH d e mu=some r:=by unfold eqH;rw [h]
theorem X5 {d e:D}{r:D×Sto}(h:neD d e mu=some r):neH d e mu=some r:=by unfold neH;rw [h]
theorem HS {i j:Int}:neH (.int i) (.int j) mu=some (.bl (!decide (i=j)),mu):=X5 VW
theorem T7 (d:D)(h:CS d=true)(y:Str):PyData.eqv (toPy d) (.str y)=decide (d=.str y)∧PyData.eqv (.str y) (toPy d)=decide (D.str y=d):=by
 cases d with
 | str x =>
  simp only [toPy,PyData.eqv,D.str.injEq]
  constructor
  ·by_cases c:x=y
   ·subst c;simp
   ·simp [c]
  ·by_cases c:y=x
   ·subst c;simp
   ·simp [c]
 | tup _=>simp [toPy,PyData.eqv]
 | lst _=>simp [toPy,PyData.eqv]
 | non=>simp [toPy,PyData.eqv]
 | bl _=>simp [toPy,PyData.eqv]
 | int _=>simp [toPy,PyData.eqv]
 | _=>cases h
theorem NG:∀ (ds:List D) (ss:List Str),D6 ds=true->PyData.eqvAll (CJ ds) (CJ (ss.map D.str))=decide (ds=ss.map D.str)∧PyData.eqvAll (CJ (ss.map D.str)) (CJ ds)=decide (ss.map D.str=ds)
 | [],[],_=>by simp [CJ,PyData.eqvAll]
 | [],s::ss,_=>by simp [CJ,PyData.eqvAll]
 | d::ds,[],_=>by simp [CJ,PyData.eqvAll]
 | d::ds,s::ss,h=>by
  rw [D6,Ab] at h
  obtain ⟨a,b⟩:=NG ds ss h.2
  obtain ⟨c,e⟩:=T7 d h.1 s
  rw [Bf,CJ,CJ]
  simp only [PyData.eqvAll,toPy,a,b,c,e]
  constructor
  ·rw [BL];simp
  ·rw [BL];simp
theorem Mk {d e:D}(hd:CS d=true)(he:F5 e=true):PyData.eqv (toPy d) (toPy e)=decide (d=e)∧PyData.eqv (toPy e) (toPy d)=decide (e=d):=by
 cases e with
 | non=>cases d<;>simp [toPy,PyData.eqv]<;>cases hd
 | tup es =>
  obtain ⟨ss,hs⟩:=Bm.mp he
  have:=FO hs
  subst this
  cases d with
  | tup ds =>
   obtain ⟨a,b⟩:=NG ds ss hd
   simp only [toPy,PyData.eqv,a,b,D.tup.injEq]
   exact ⟨trivial,trivial⟩
  | dct _ _=>cases hd
  | set _=>cases hd
  | ref _=>cases hd
  | _=>simp [toPy,PyData.eqv]
 | _=>cases he
theorem Ku {e:D}(he:F5 e=true):CS e=true∧(toPy e).depth≤2∧∀ mu,seen mu e=e:=by
 cases e with
 | non=>exact ⟨rfl,by simp [toPy,PyData.depth],λ_=>rfl⟩
 | tup es =>
  obtain ⟨ss,hs⟩:=Bm.mp he
  have:=FO hs
  subst this
  refine ⟨by simp only [CS,FF],?_,λ_=>rfl⟩
  have:=Gz ss
  simp only [toPy,PyData.depth]
  omega
 | _=>cases he
theorem UR {d e:D}{r:D×Sto}(h:eqX d e mu=some r)(hr:F5 d=true∨F5 e=true):r=(.bl (decide (d=e)),mu):=by
 unfold eqX at h
 split at h
 ·cases h;simp
 ·cases h;simp
 ·cases h;simp
 ·rename_i xs
  cases h
  congr 2
  cases xs<;>simp
 ·cases h
theorem Oh {d e:D}(h:(JI d=true∧F5 e=true)∨(F5 d=true∧JI e=true)):eqH d e mu=some (.bl (decide (d=e)),mu):=by
 have y:eqY d e mu=some (.bl (decide (d=e)),mu):=by
  unfold eqY
  rw [if_pos]
  rw [Bt,Ab,Ab]
  exact h
 unfold eqH
 cases q:eqG d e mu with
 | none=>exact y
 | some r =>
  dsimp only
  unfold eqG at q
  cases q2:eqD d e mu with
  | none =>
   rw [q2] at q
   rw [UR q (h.elim (λh=>.inr h.2) (λh=>.inl h.1))]
  | some r' =>
   rw [q2] at q
   cases q
   unfold eqD at q2
   cases q3:eqB mu d e with
   | none=>rw [q3] at q2;cases q2
   | some b =>
    rw [q3] at q2
    cases q2
    unfold eqB at q3
    split at q3
    ·rename_i c
     cases q3
     rw [Ab,Ab] at c
     rcases h with ⟨h1,h2⟩|⟨h1,h2⟩
     ·have se:=(Ku h2).2.2 mu
      have sd:seen mu d=d:=by cases d<;>first|rfl|(simp [JI,PZ] at h1)
      rw [sd,se] at c ⊢
      rw [(Mk c.1.1 h2).1]
     ·have se:=(Ku h1).2.2 mu
      have sd:seen mu e=e:=by cases e<;>first|rfl|(simp [JI,PZ] at h2)
      rw [sd,se] at c ⊢
      rw [(Mk c.1.2 h1).2]
    ·cases q3
theorem XC {ds:List D}{e:D}(hd:JI (.tup ds)=true){ss:List Str}(he:e=.tup (ss.map D.str)):neH e (.tup ds) mu=some (.bl (!decide (e=.tup ds)),mu):=by
 have hs:strsOf (ss.map D.str)=some ss:=PV.strs_map ss
 have rb:F5 e=true:=by rw [he];simp [F5,hs]
 have y:neY e (.tup ds) mu=some (.bl (!decide (e=.tup ds)),mu):=by
  unfold neY
  rw [if_pos]
  rw [Ab,Ab,Bt,Ab,Ab]
  exact ⟨⟨by rw [he];rfl,rfl⟩,.inr ⟨rb,hd⟩⟩
 unfold neH
 cases q:neD e (.tup ds) mu with
 | none=>exact y
 | some r =>
  dsimp only
  unfold neD at q
  cases q3:eqB mu e (.tup ds) with
  | none=>rw [q3] at q;cases q
  | some b =>
   rw [q3] at q
   cases q
   unfold eqB at q3
   split at q3
   ·rename_i c
    cases q3
    rw [Ab,Ab] at c
    have se:=(Ku rb).2.2 mu
    have sd:seen mu (.tup ds)=.tup ds:=rfl
    rw [sd,se] at c ⊢
    rw [(Mk c.1.2 rb).2]
   ·cases q3
theorem Kn {n:Nat}{d:D}(h:okB n d=true):JI d=true:=by
 cases d with
 | tup ds =>
  have:=Iz h
  simp only [JI,Au]
  intro x hx
  have:=this x hx
  cases x<;>first|rfl|(simp [okB] at this)
 | ref _=>simp [okB] at h
 | set _=>simp [okB] at h
 | _=>rfl
theorem OH {α:Type}{p:α->Bool}{x:α}:∀ {l:List α},l.Nodup->x∈l->p x=true->(∀ y∈l,p y=true->y=x)->l.filter p=[x]
 | [],_,h,_,_=>by cases h
 | y::l,nd,h,hx,hu=>by
  rw [Br] at nd
  by_cases c:p y=true
  ·have e:=hu y (.head _) c
   subst e
   rw [List.filter_cons_of_pos c]
   congr 1
   rw [List.filter_eq_nil_iff]
   intro z hz hpz
   exact nd.1 (hu z (.tail _ hz) hpz▸hz)
  ·rw [List.filter_cons_of_neg c]
   refine OH nd.2 ?_ hx λz hz=>hu z (.tail _ hz)
   rcases Am.mp h with rfl|h
   ·exact absurd hx c
   ·exact h
end PV
namespace PG
open PySem L2 PV PyProof.Rows K1
variable {mu:Sto}
theorem OC {xs:List D}(h:D6 xs=true):eqH (.lst xs) (.lst []) mu=some (.bl (xs.length==0),mu):=by
 have:eqB mu (.lst xs) (.lst [])=some (xs.length==0):=by
  unfold eqB
  simp only [PV.seen,CS,D6,h,BX,BF]
  rw [if_pos (by simp [toPy,CJ,PyData.depth,PyData.depthAll])]
  cases xs<;>rfl
 refine Od (N7 ?_)
 unfold eqD
 rw [this]
 rfl
theorem Q9 {a b:Bool}:eqH (.bl a) (.bl b) mu=some (.bl (a==b),mu):=by
 refine Od (N7 ?_)
 simp [eqD,eqB,PV.seen,CS,toPy,PyData.eqv,PyData.depth]
theorem LX {t:Tb}{d:D}(h:Dy 0 d=true):DA [tbD t,d] mu=some (.bl (D5 t.cs d),mu):=by
 have it:=Ia (mu:=mu) d (EJ h)
 have i1:ixG (tbD t) (.int 1) mu=some (.tup (t.cs.map clD),mu):=LY
 cases d with
 | tup ds =>
  by_cases c:ds.length=t.cs.length
  ·have cr:=LD (mu:=mu) (m0:=mu) (cs:=t.cs) (nRs h)
   have e:D5 t.cs (.tup ds)=(ds.zip t.cs).all (λp=>GZ p.1 p.2.2):=by simp [D5,c]
   have zp:=Rj (mu:=mu) (ro:=[some (tbD t),some (.tup ds)]) (m:=(Cn (Co 1) (Cn (Cs ixG (Co 0) (eC (.int 1))) Cr))) (xs:=ds) (ys:=t.cs.map clD) (m1:=mu) (by simp_arith only [i1])
   have af:HK [.lst (((ds.zip t.cs).map λp=>GZ p.1 p.2.2).map D.bl)] mu=some (.bl ((ds.zip t.cs).all (λp=>GZ p.1 p.2.2)),mu):=by
    rw [Ta,List.all_map]
    rfl
   have c1:(!decide ((ds.length:Int)=(t.cs.length:Int)))=false:=by simp [c]
   rw [e]
   simp_arith only [DA,Eh,Ag,it,isT,i1,c1,zp,cr,af]
  ·have e:D5 t.cs (.tup ds)=false:=by simp [D5,c]
   have c1:(!decide ((ds.length:Int)=(t.cs.length:Int)))=true:=by simp;omega
   rw [e]
   simp_arith only [DA,Eh,Ag,it,isT,i1,c1]
 | ref k=>cases EJ h
 | _=>simp_arith only [DA,Eh,it,isT,D5]
noncomputable def E6 (ks:Nat)(rs:List (List Str))(b:D):List (List Str):=rs.filter λr=>decide (rwD (r.take ks)=b)
noncomputable def rnL (t:Tb)(b:D)(x:D):Bool:=isN x||(D5 t.cs x&&decide (tkD t.ks x=b))
noncomputable def lT (t:Tb)(rs:List (List Str))(b c e:D):Bool:=!decide (c=e)&&((rnL t b c&&rnL t b e)&&((isN c==((E6 t.ks rs b).length==0))&&(((E6 t.ks rs b).length==0)||decide (c=((E6 t.ks rs b).map rwD).headD .non))))
noncomputable def lB (ts:List Tb)(gs:List (List (List Str)))(d:D):Bool:=match d with
 | .tup [a,.tup b,c,e]=>(match IZ ts a with
  | none=>false
  | some t=>lT t (Ij ts gs t.nm) (.tup b) c e)
 | _=>false
noncomputable def Vj:Sx:=(sIf (tAn (tV (Cs JJ (Co 6) (eC .non))) (tO (tNt (tV (Ct DA (Cn (Co 4) (Cn (Co 6) Cr))))) (tV (Cs neH (eSl (Co 6) (pNo) (Dh (Cs ixG (Co 4) (eC (.int 2))))) (Cs ixG (Co 2) (eC (.int 1))))))) (sRt (eC (.bl false))) (sNx))
theorem U1 {t:Tb}(ht:J2 t){n:Nat}{a c e:D}{b:List D}(hb:okB n (.tup b)=true)(hc:Dy 0 c=true)(he:Dy 0 e=true){x0 x1 x3 x5 x6 x7:Option D}{m0:Sto} :
  ∃ y6,Ey none m0 (gNm 6) Vj [c,e] [x0,x1,some (.tup [a,.tup b,c,e]),x3,some (tbD t),x5,x6,x7] mu=some ((if (rnL t (.tup b) c&&rnL t (.tup b) e)=true then .nx else .rt (.bl false),[x0,x1,some (.tup [a,.tup b,c,e]),x3,some (tbD t),x5,y6,x7]),mu):=by
 obtain ⟨ro',⟨y6,rfl⟩,e'⟩:=Ph (m0:=m0) (tg:=gNm 6) (body:=Vj) (mu:=mu) (λro=>∃ y6,ro=[x0,x1,some (.tup [a,.tup b,c,e]),x3,some (tbD t),x5,y6,x7]) (rnL t (.tup b)) (.bl false) [c,e] _ ⟨x6,rfl⟩ (λx hx ro ⟨y6,er⟩=>by
  subst er
  have lx:Dy 0 x=true:=by
   simp only [Am,AJ,BG] at hx
   rcases hx with rfl|rfl
   ·exact hc
   ·exact he
  refine ⟨[x0,x1,some (.tup [a,.tup b,c,e]),x3,some (tbD t),x5,some x,x7],_,rfl,⟨some x,rfl⟩,?_⟩
  have isn:JJ x .non mu=some (.bl (!isN x),mu):=by cases x<;>rfl
  have rf:=LX (mu:=mu) (t:=t) lx
  have i2:ixG (tbD t) (.int 2) mu=some (.int t.ks,mu):=IY
  unfold rnL Vj
  cases c1:isN x with
  | true =>
   rw [c1] at isn
   simp_arith only [isn]
  | false =>
   rw [c1] at isn
   cases c2:D5 t.cs x with
   | false =>
    rw [c2] at rf
    simp_arith only [isn,rf]
   | true =>
    rw [c2] at rf
    obtain ⟨r,rfl,hr⟩:=Eo c2
    have cr:=JX (mu:=mu) (r:=r) (j:=t.ks) (by rw [hr.len];exact ht.k4)
    have ne:=XC (mu:=mu) (Kn hb) (e:=rwD (r.take t.ks)) (ss:=r.take t.ks) rfl
    have te:tkD t.ks (rwD r)=rwD (r.take t.ks):=by simp only [tkD,rwD,Bo]
    rw [te]
    cases c3:decide (rwD (r.take t.ks)=.tup b) with
    | true =>
     rw [c3] at ne
     simp_arith only [isn,rf,i2,cr,ne]
    | false =>
     rw [c3] at ne
     simp_arith only [isn,rf,i2,cr,ne])
 refine ⟨y6,?_⟩
 rw [e']
 simp only [List.all_cons,List.all_nil,B0]
noncomputable def QP (d:D):Prop:=∀ a b c e,d=.tup [.str a,.tup b,c,e]->F5 c=true∨F5 e=true
theorem LM:∀ {ts:List Tb} {gs:List (List (List Str))},(ts.map Tb.nm).Nodup->∀ {i:Nat} {t:Tb} {rs:List (List Str)},ts[i]? = some t->gs[i]? = some rs->Ij ts gs t.nm=rs
 | [],_,_,i,t,rs,h,_=>by simp at h
 | u::ts,[],_,i,t,rs,_,h=>by simp at h
 | u::ts,q::gs,nd,0,t,rs,h1,h2=>by
  cases h1;cases h2
  simp [Ij]
 | u::ts,q::gs,nd,i+1,t,rs,h1,h2=>by
  rw [Bf,Br] at nd
  have h1':ts[i]? = some t:=h1
  have h2':gs[i]? = some rs:=h2
  have ne:u.nm≠t.nm:=λe=>nd.1 (e▸Ap.mpr ⟨t,Ak h1',rfl⟩)
  rw [Ij,if_neg ne]
  exact LM nd.2 h1' h2'
theorem PK (rs:List (List Str)):D6 (rs.map rwD)=true:=by
 induction rs with
 | nil=>rfl
 | cons r rs ih =>
  rw [Bf,D6,ih,B0]
  simp only [rwD,CS,FF]
theorem J5 (r:List Str):F5 (rwD r)=true:=by
 have hs:strsOf (r.map D.str)=some r:=PV.strs_map r
 simp [F5,rwD,hs]
theorem KR {ts:List Tb}{gs:List (List (List Str))}(H:SW ts)(F:FW ts gs){n:Nat}{d:D}(h:okB n d=true)(hq:QP d):CK [.tup (ts.map tbD),.tup (gs.map flD),d] mu=some (.bl (lB ts gs d),mu):=by
 have hl:=FD h
 have it:=Ia (mu:=mu) d (EJ hl)
 cases d with
 | tup ds =>
  have no:ds.length≠4->lB ts gs (.tup ds)=false->CK [.tup (ts.map tbD),.tup (gs.map flD),.tup ds] mu=some (.bl (lB ts gs (.tup ds)),mu):=λh1 h2=>by
   have c1:(!decide ((ds.length:Int)=4))=true:=by simp;omega
   rw [h2]
   simp_arith only [CK,De,it,isT,HS,c1]
  match ds,h,hq,hl,it,no with
  | [],h,hq,hl,it,no=>exact no (by simp) rfl
  | [_],h,hq,hl,it,no=>exact no (by simp) rfl
  | [_,_],h,hq,hl,it,no=>exact no (by simp) (by simp [lB])
  | [_,_,_],h,hq,hl,it,no=>exact no (by simp) (by simp [lB])
  | _::_::_::_::_::_,h,hq,hl,it,no=>exact no (by simp) (by simp [lB])
  | [a,b,c,e],h,hq,hl,it,no =>
   have om:=Iz h
   have oa:=om a (by simp)
   have ob:=om b (by simp)
   have oc:=om c (by simp)
   have oe:=om e (by simp)
   have itb:=Ia (mu:=mu) b (EJ (FD ob))
   have c4:(!decide (((0+1+1+1+1:Nat):Int)=4))=false:=rfl
   cases hb:isT b with
   | false =>
    rw [hb] at itb
    have e0:lB ts gs (.tup [a,b,c,e])=false:=by
     cases b<;>first|rfl|(cases hb;done)
    rw [e0]
    simp_arith only [CK,De,it,isT,HS,c4,itb]
   | true =>
    rw [hb] at itb
    obtain ⟨bs,rfl⟩:∃ bs,b=.tup bs:=by cases b<;>first|exact ⟨_,rfl⟩|(cases hb;done)
    have rg:∀ (ro:Ro),iRg (Cn (Ct EU (Cn (Co 0) Cr)) Cr) (some (.tup (ts.map tbD))::ro) mu=some ((Eg 0 ts.length,none),mu):=λro=>by
     have:=Ng (mu:=mu) (ro:=some (.tup (ts.map tbD))::ro) (r:=(Cn (Ct EU (Cn (Co 0) Cr)) Cr)) (n:=ts.length) (m:=mu) (by simp_arith only [Ag]) (by omega) (by rw [AH];have:=H.ok.l4;omega)
     rw [Int.toNat_natCast] at this
     exact this
    have fl:=Hs (m0:=mu) (tg:=gNm 0) (tt:=(tV (Cs eqH (Cs ixG (Cs ixG (Co 1) (Co 0)) (eC (.int 0))) (Cs ixG (Co 2) (eC (.int 0)))))) (el:=Co 0) (ro:=[none,some (.tup (ts.map tbD)),some (.tup [a,.tup bs,c,e])]) (mu:=mu) (λd=>match d with|.int i=>(match ts[i.toNat]? with|some t=>eqS t.nm a|none=>false)|_=>false) id (Eg 0 ts.length) (λd hd=>by
     obtain ⟨j,hj⟩:=AK.mp hd
     obtain ⟨rfl,hj'⟩:=GH hj
     obtain ⟨t,et⟩:∃ t,ts[j]? = some t:=⟨_,Ah hj'⟩
     have ix:ixG (.tup (ts.map tbD)) (.int j) mu=some (tbD t,mu):=LO _ (.inr rfl) (by rw [Al,et];rfl)
     have i0:ixG (tbD t) (.int 0) mu=some (.str t.nm,mu):=KA
     have eg:=Od (VZ (mu:=mu) (x:=t.nm) oa)
     refine ⟨_,rfl,?_,λ_=>rfl⟩
     simp_arith only [ix,i0,eg,Int.toNat_natCast,et])
    rw [List.map_id] at fl
    unfold lB
    dsimp only
    cases q:IZ ts a with
    | none =>
     have fe:(Eg 0 ts.length).filter (λd=>match d with|.int i=>(match ts[i.toNat]? with|some t=>eqS t.nm a|none=>false)|_=>false)=[]:=by
      rw [List.filter_eq_nil_iff]
      intro d hd
      obtain ⟨j,hj⟩:=AK.mp hd
      obtain ⟨rfl,hj'⟩:=GH hj
      simp only [Int.toNat_natCast,Ah hj']
      cases a with
      | str x =>
       have:=List.find?_eq_none.mp q ts[j] (BD hj')
       simpa [eqS] using this
      | _=>simp [eqS]
     rw [fe] at fl
     have el:=OC (mu:=mu) (xs:=[]) rfl
     have e0:(([]:List D).length==0)=true:=rfl
     rw [e0] at el
     simp_arith only [CK,De,it,isT,HS,c4,itb,rg,fl,el]
    | some t =>
     obtain ⟨rfl,ht,hf⟩:=Io q
     obtain ⟨i,hi⟩:=AK.mp ht
     have il:=(Ae.mp hi).1
     obtain ⟨rs,hrs⟩:∃ rs,gs[i]? = some rs:=⟨_,Ah (by rw [F.len];exact il)⟩
     have hk:=H.ok.ok t ht
     have ro:=LM H.ok.nd hi hrs
     have fe:(Eg 0 ts.length).filter (λd=>match d with|.int j=>(match ts[j.toNat]? with|some u=>eqS u.nm (.str t.nm)|none=>false)|_=>false)=[.int i]:=by
      refine OH ?_ (Ak (i:=i) ?_) ?_ λd hd hp=>?_
      ·unfold Eg
       rw [AE,Bl]
       refine (AE.mp Ci).imp λ{x y} hne e=>?_
       injection e with e
       omega
      ·have:i<(Eg 0 ts.length).length:=by rw [ID];exact il
       obtain ⟨d,hd⟩:∃ d,(Eg 0 ts.length)[i]? = some d:=⟨_,Ah this⟩
       rw [hd,(GH hd).1]
      ·simp only [Int.toNat_natCast,hi,eqS,decide_true]
      ·obtain ⟨j,hj⟩:=AK.mp hd
       obtain ⟨rfl,hj'⟩:=GH hj
       simp only [Int.toNat_natCast,Ah hj',eqS,Af] at hp
       have:j=i:=by
        have nd:=H.ok.nd
        have h1:(ts.map Tb.nm)[j]? = some t.nm:=by rw [Al,Ah hj',← hp];rfl
        have h2:(ts.map Tb.nm)[i]? = some t.nm:=by rw [Al,hi];rfl
        obtain ⟨a1,a2⟩:=Ae.mp h1
        obtain ⟨b1,b2⟩:=Ae.mp h2
        exact (List.getElem_inj nd).mp (a2.trans b2.symm)
       rw [this]
     rw [fe] at fl
     have el:=OC (mu:=mu) (xs:=[.int i]) rfl
     have e0:(([.int i]:List D).length==0)=false:=rfl
     rw [e0] at el
     have i3:ixG (.tup [.str t.nm,.tup bs,c,e]) (.int 3) mu=some (e,mu):=LO (j:=3) _ (.inr rfl) rfl
     have rb:=hq t.nm bs c e rfl
     have ec:=Oh (mu:=mu) (d:=c) (e:=e) (rb.elim (λh=>.inr ⟨h,Kn oe⟩) (λh=>.inl ⟨Kn oc,h⟩))
     dsimp only
     unfold lT
     rw [ro]
     cases c5:decide (c=e) with
     | true =>
      rw [c5] at ec
      simp_arith only [CK,De,it,isT,HS,c4,itb,rg,fl,el,i3,ec]
     | false =>
      rw [c5] at ec
      have ix1:ixG (.tup (ts.map tbD)) (.int i) mu=some (tbD t,mu):=LO _ (.inr rfl) (by rw [Al,hi];rfl)
      have ix2:ixG (.tup (gs.map flD)) (.int i) mu=some (flD rs,mu):=LO _ (.inr rfl) (by rw [Al,hrs];rfl)
      have ct:PV.cutD [D.str t.nm,.tup bs,c,e] (some 2) none=[c,e]:=rfl
      obtain ⟨y6,fo⟩:=U1 (mu:=mu) (m0:=mu) hk ob (FD oc) (FD oe) (a:=.str t.nm) (x0:=some (.tup (ts.map tbD))) (x1:=some (.tup (gs.map flD))) (x3:=some (.lst [.int i])) (x5:=some (flD rs)) (x6:=none) (x7:=none)
      unfold Vj at fo
      cases c6:(rnL t (.tup bs) c&&rnL t (.tup bs) e) with
      | false =>
       rw [c6] at fo
       simp only [Av,A0] at fo
       simp_arith only [CK,De,it,isT,HS,c4,itb,rg,fl,el,i3,ec,ix1,ix2,ct,fo]
      | true =>
       rw [c6] at fo
       simp only [if_true] at fo
       have wr:Lj mu (flD rs)=some ((rs.map rwD,none),mu):=rfl
       have i2:ixG (tbD t) (.int 2) mu=some (.int t.ks,mu):=IY
       have hr:=Hs (m0:=mu) (tg:=gNm 0) (tt:=(tV (Cs eqH (eSl (Co 0) (pNo) (Dh (Cs ixG (Co 1) (eC (.int 2))))) (Cs ixG (Co 2) (eC (.int 1)))))) (el:=Co 0) (ro:=[none,some (tbD t),some (.tup [.str t.nm,.tup bs,c,e])]) (mu:=mu) (λd=>decide (tkD t.ks d=.tup bs)) id (rs.map rwD) (λd hd=>by
        obtain ⟨r,hr,rfl⟩:=Ap.mp hd
        have cr:=JX (mu:=mu) (r:=r) (j:=t.ks) (F.ks H i rs t hrs hi r hr)
        have eq:=Oh (mu:=mu) (d:=rwD (r.take t.ks)) (e:=.tup bs) (.inr ⟨J5 _,Kn ob⟩)
        have te:tkD t.ks (rwD r)=rwD (r.take t.ks):=by simp only [tkD,rwD,Bo]
        refine ⟨[some (rwD r),some (tbD t),some (.tup [.str t.nm,.tup bs,c,e])],rfl,?_,λ_=>rfl⟩
        rw [te]
        simp_arith only [i2,cr,eq])
       rw [List.map_id] at hr
       have he:(rs.map rwD).filter (λd=>decide (tkD t.ks d=.tup bs))=(E6 t.ks rs (.tup bs)).map rwD:=by
        unfold E6
        rw [List.filter_map]
        congr 1
        refine List.filter_congr λr _=>?_
        simp only [Function.comp,tkD,rwD,Bo]
        exact decide_eq_decide.mpr Iff.rfl
       rw [he] at hr
       have l0:=OC (mu:=mu) (xs:=(E6 t.ks rs (.tup bs)).map rwD) (PK _)
       rw [Ag] at l0
       have isc:isD c .non mu=some (.bl (isN c),mu):=by cases c<;>rfl
       rw [Ab] at c6
       have rc:F5 c=true:=by
        have:=c6.1
        unfold rnL at this
        rw [Bt,Ab] at this
        rcases this with h|⟨h,_⟩
        ·cases c<;>first|rfl|cases h
        ·obtain ⟨r,rfl,_⟩:=Eo h
         exact J5 r
       cases c7:E6 t.ks rs (.tup bs) with
       | nil =>
        rw [c7] at hr l0
        have z0:(([]:List (List Str)).length==0)=true:=rfl
        rw [z0] at l0
        simp only [List.map_nil] at hr l0
        simp_arith only [CK,De,it,isT,HS,c4,itb,rg,fl,el,i3,ec,ix1,ix2,ct,fo,wr,hr,l0,isc,Q9,z0]
        cases isN c<;>rfl
       | cons r0 rest =>
        rw [c7] at hr l0
        have z0:((r0::rest).length==0)=false:=rfl
        rw [z0] at l0
        simp only [Bf] at hr l0
        have eq:=Oh (mu:=mu) (d:=c) (e:=rwD r0) (.inl ⟨Kn oc,J5 _⟩)
        simp_arith only [CK,De,it,isT,HS,c4,itb,rg,fl,el,i3,ec,ix1,ix2,ct,fo,wr,hr,l0,isc,Q9,z0,eq,List.headD_cons]
        cases isN c<;>rfl
 | ref k=>cases EJ hl
 | _=>simp_arith only [CK,De,it,isT,lB]
theorem Nf {t:Tb}{x:D}{b:D}(h1:D5 t.cs x=true)(h2:tkD t.ks x=b):∃ k,b=rwD k∧RwC (t.cs.take t.ks) k:=by
 obtain ⟨r,rfl,hr⟩:=Eo h1
 refine ⟨r.take t.ks,?_,hr.take t.ks⟩
 rw [← h2]
 simp only [tkD,rwD,Bo]
theorem L5 {x:D}:isN x=true ↔ x=.non:=by
 constructor
 ·intro h
  cases x<;>first|rfl|cases h
 ·rintro rfl;rfl
theorem N8 {ts:List Tb}{gs:List (List (List Str))}(d:D):lB ts gs d=pB ts gs d:=by
 by_cases hd:∃ a b c e,d=.tup [a,b,c,e]
 ·obtain ⟨a,b,c,e,rfl⟩:=hd
  cases hb:isT b with
  | false =>
   have e1:lB ts gs (.tup [a,b,c,e])=false:=by cases b<;>first|rfl|(cases hb;done)
   have e2:pB ts gs (.tup [a,b,c,e])=false:=by
    unfold pB
    dsimp only
    split
    ·rfl
    ·have:D5 (Tb.cs ‹Tb› |>.take (Tb.ks ‹Tb›)) b=false:=by cases b<;>first|rfl|(cases hb;done)
     rw [this]
     rfl
   rw [e1,e2]
  | true =>
   obtain ⟨bs,rfl⟩:∃ bs,b=.tup bs:=by cases b<;>first|exact ⟨_,rfl⟩|(cases hb;done)
   unfold lB pB
   dsimp only
   cases q:IZ ts a with
   | none=>rfl
   | some t =>
    dsimp only
    generalize Ij ts gs t.nm=rs
    rw [BL]
    unfold lT
    simp only [Ab,Bool.not_eq_true',decide_eq_false_iff_not,Af,Bt,beq_iff_eq]
    have key:∀ k,(D.tup bs:D)=rwD k->Fw t.ks rs k=((E6 t.ks rs (.tup bs)).map rwD).headD .non:=λk hk=>by
     unfold Fw E6
     have e1:rs.find? (λr=>decide (r.take t.ks=k))=(rs.filter λr=>decide (rwD (r.take t.ks)=.tup bs)).head?:=by
      rw [List.head?_filter]
      congr 1
      funext r
      rw [hk]
      exact decide_eq_decide.mpr Kl.symm
     rw [e1]
     cases rs.filter λr=>decide (rwD (r.take t.ks)=.tup bs) with
     | nil=>rfl
     | cons r l=>rfl
    have here:((isN c=decide ((E6 t.ks rs (.tup bs)).length=0))∧((E6 t.ks rs (.tup bs)).length=0∨c=((E6 t.ks rs (.tup bs)).map rwD).headD .non)) ↔ c=((E6 t.ks rs (.tup bs)).map rwD).headD .non:=by
     cases E6 t.ks rs (.tup bs) with
     | nil =>
      simp only [List.length_nil,decide_true,List.map_nil,List.headD_nil,true_or,and_true,L5]
     | cons r l =>
      simp only [List.length_cons,Bf,List.headD_cons,Nat.add_one_ne_zero,decide_false,false_or]
      constructor
      ·exact λh=>h.2
      ·rintro rfl
       exact ⟨rfl,rfl⟩
    have conv:(isN c=((E6 t.ks rs (.tup bs)).length==0)) ↔ (isN c=decide ((E6 t.ks rs (.tup bs)).length=0)):=by
     rw [show ((E6 t.ks rs (.tup bs)).length==0)=decide ((E6 t.ks rs (.tup bs)).length=0) from by
      cases h:(E6 t.ks rs (.tup bs)).length<;>rfl]
    rw [conv]
    constructor
    ·rintro ⟨hne,⟨h1,h2⟩,h3⟩
     obtain ⟨k,hk,hr⟩:∃ k,(D.tup bs:D)=rwD k∧RwC (t.cs.take t.ks) k:=by
      unfold rnL at h1 h2
      rw [Bt,Ab,Af] at h1 h2
      rcases h1 with h1|⟨h1,h1'⟩
      ·rcases h2 with h2|⟨h2,h2'⟩
       ·exact absurd ((L5.mp h1).trans (L5.mp h2).symm) hne
       ·exact Nf h2 h2'
      ·exact Nf h1 h1'
     have e1:rnB t k c=true:=by unfold rnB;unfold rnL at h1;rw [hk] at h1;exact h1
     have e2:rnB t k e=true:=by unfold rnB;unfold rnL at h2;rw [hk] at h2;exact h2
     have h4:=here.mp h3
     rw [← key k hk] at h4
     rw [hk,Ht]
     exact ⟨Ie hr,e1,e2,h4,λz=>hne z.symm⟩
    ·rintro ⟨h0,h1,h2,h3,h4⟩
     obtain ⟨k,hk,hr⟩:=Eo h0
     rw [hk,Ht] at h1 h2 h3
     have e1:rnL t (.tup bs) c=true:=by unfold rnL;unfold rnB at h1;rw [hk];exact h1
     have e2:rnL t (.tup bs) e=true:=by unfold rnL;unfold rnB at h2;rw [hk];exact h2
     refine ⟨λz=>h4 z.symm,⟨e1,e2⟩,here.mpr ?_⟩
     rw [← key k hk]
     exact h3
 ·have e1:lB ts gs d=false:=by
   unfold lB
   split
   ·exact absurd ⟨_,_,_,_,rfl⟩ hd
   ·rfl
  have e2:pB ts gs d=false:=by
   unfold pB
   split
   ·exact absurd ⟨_,_,_,_,rfl⟩ hd
   ·rfl
  rw [e1,e2]
theorem WA {ds:List D}(h64:ds.length<64)(h:∀ d∈ds,∃ p,d=kyD p):setG [.lst ds] mu=some (.set (DV ds),mu):=by
 have sq:sq1 [.lst ds] mu=some ds:=rfl
 unfold setG
 cases q:TQ [.lst ds] mu with
 | some r =>
  obtain ⟨d,es,ss,e1,e2,e3,e4,e5⟩:=Nj q
  cases e1
  cases e2
  exact congrArg some e5
 | none =>
  dsimp only
  unfold Tg
  rw [sq]
  dsimp only
  rw [if_pos]
  rw [Ab,Af,Au]
  refine ⟨λd hd=>?_,h64⟩
  obtain ⟨p,rfl⟩:=h d hd
  unfold okE
  rw [(Hn.ky p).K (by decide)]
  rfl
theorem RB {es:List D}(ok:DW es=true):KS [.set es] mu=some (.lst (Ep es),mu):=by
 have e1:K6 [.set es] mu=some (.lst (Ep es),mu):=by simp only [K6,HL,PU,ok,if_true]
 unfold KS
 rw [e1]
theorem O2 {ds:List D}(h:∀ d∈ds,∃ p,d=kyD p):Hn 4 (.tup ds):=Hn.tup λd hd=>by
 obtain ⟨p,rfl⟩:=h d hd
 exact Hn.ky p
theorem Vo {ds es:List D}(hd:Hn 6 (.tup ds))(he:Hn 6 (.tup es)):eqG (.lst ds) (.lst es) mu=some (.bl (decide (ds=es)),mu):=by
 have p1:D6 ds=true:=by have:=Gk hd.1;simpa only [CS] using this
 have p2:D6 es=true:=by have:=Gk he.1;simpa only [CS] using this
 have q:=GX hd.1 he.1
 have d1:=HM hd.1
 have d2:=HM he.1
 have:eqB mu (.lst ds) (.lst es)=some (decide (ds=es)):=by
  unfold eqB
  simp only [PV.seen,CS,p1,p2,BX,BF]
  rw [if_pos]
  ·have e1:PyData.eqv (toPy (.lst ds)) (toPy (.lst es))=PyData.eqv (toPy (.tup ds)) (toPy (.tup es)):=by simp only [toPy,PyData.eqv]
   rw [e1,q]
   simp only [D.tup.injEq]
  ·have e1:(toPy (.lst ds)).depth=(toPy (.tup ds)).depth:=by simp only [toPy,PyData.depth]
   refine Bv ?_
   show min (toPy (.lst ds)).depth (toPy (.lst es)).depth≤60
   rw [e1,d1]
   have:=hd.2
   omega
 refine N7 ?_
 unfold eqD
 rw [this]
 rfl
theorem Q0 {ts:List Tb}{gs:List (List (List Str))}(H:SW ts)(F:FW ts gs){n:Nat}{d:D}(h:okB n d=true)(hz:∀ ps,d=.tup ps->ps.length<64∧∀ x∈ps,QP x):Ei [.tup (ts.map tbD),.tup (gs.map flD),d] mu=some (.bl (chB ts gs d),mu):=by
 have hl:=FD h
 have it:=Ia (mu:=mu) d (EJ hl)
 cases d with
 | tup ps =>
  obtain ⟨h64,hq⟩:=hz ps rfl
  have al:=Kq (m0:=mu) (tg:=gNm 0) (el:=(Ct CK (Cn (Co 1) (Cn (Co 2) (Cn (Co 0) Cr))))) (ro:=[none,some (.tup (ts.map tbD)),some (.tup (gs.map flD))]) (mu:=mu) (pB ts gs) ps (λd hd=>⟨_,rfl,by simp_arith only [KR H F (Iz h d hd) (hq d hd),N8]⟩)
  unfold chB
  dsimp only
  cases c:ps.all (pB ts gs) with
  | false=>simp_arith only [Ei,FR,it,isT,al,c]
  | true =>
   rw [Au] at c
   have c':ps.all (pB ts gs)=true:=Au.mpr c
   have sp:=HJ (m0:=mu) (tg:=gNm 0) (el:=(eSl (Co 0) (pNo) (Dh (eC (.int 2))))) (ro:=[none]) (mu:=mu) (tkD 2) ps (λd hd=>by
    refine ⟨_,rfl,?_⟩
    have:=c d hd
    unfold pB at this
    split at this
    ·have ct:∀ (a b c e:D),PV.cutD [a,b,c,e] none (some 2)=[a,b]:=λa b c e=>rfl
     simp_arith only [ct,tkD,List.take]
    ·cases this)
   have ky:∀ d∈ps.map (tkD 2),∃ p,d=kyD p:=λd hd=>by
    obtain ⟨x,hx,rfl⟩:=Ap.mp hd
    exact SE (c x hx)
   have l64:(ps.map (tkD 2)).length<64:=by rw [Ag];exact h64
   generalize ps.map (tkD 2)=ds at sp ky l64
   have ol:=IQ ds []
   have om:∀ d∈DV ds,∃ p,d=kyD p:=λd hd=>by
    rcases (LG ds [] d).mp hd with z|z
    ·cases z
    ·exact ky d z
   have ok1:=JW (ks:=DV ds) (by unfold DV;simp only [List.length_nil,Bq] at ol;omega) om
   have ok0:=JW l64 ky
   have sg:=WA (mu:=mu) l64 ky
   have ss:=RB (mu:=mu) ok1
   have eq:=Vo (mu:=mu) ((O2 ky).up (by decide)) ((O2 (ds:=Ep (DV ds)) λd hd=>om d ((Dv _).mem_iff.mp hd)).up (by decide))
   rw [QZ (HA ok0)] at eq
   simp_arith only [Ei,FR,it,isT,al,c',sp,sg,ss,eq]
 | ref k=>cases EJ hl
 | _=>simp_arith only [Ei,FR,it,isT,chB]
theorem Ww {ts:List Tb}(hS:SOk ts){t u:Tb}(h1:t∈ts)(h2:u∈ts)(e:u.nm=t.nm):u=t:=by
 obtain ⟨i,hi,rfl⟩:=List.getElem_of_mem h1
 obtain ⟨j,hj,rfl⟩:=List.getElem_of_mem h2
 have:=(List.getElem_inj (i:=j) (j:=i) (h₀:=by simpa using hj) (h₁:=by simpa using hi) hS.nd).mp (by simpa using e)
 subst this
 rfl
theorem La (k v e:D):∀ (ks ds:List D) {w:D},Et e ks (HX k v ks ds)=some w->(e=k∧w=v)∨Et e ks ds=some w
 | [],ds,w,h=>.inr h
 | _::_,[],w,h=>.inr h
 | x::ks,d::ds,w,h=>by
  rw [HX,Et] at h
  rw [Et]
  by_cases c:x=e
  ·rw [if_pos c] at h
   rw [if_pos c]
   by_cases c2:x=k
   ·rw [if_pos c2] at h
    exact .inl ⟨c.symm.trans c2,(AB h).symm⟩
   ·rw [if_neg c2] at h
    exact .inr h
  ·rw [if_neg c] at h
   rw [if_neg c]
   exact La k v e ks ds h
theorem LB (k v e:D):∀ (ks ds:List D) {w:D},ds.length=ks.length->Et e (ks++[k]) (ds++[v])=some w->(e=k∧w=v)∨Et e ks ds=some w
 | [],[],w,_,h=>by
  rw [List.nil_append,List.nil_append,Et] at h
  by_cases c:k=e
  ·rw [if_pos c] at h
   exact .inl ⟨c.symm,(AB h).symm⟩
  ·rw [if_neg c] at h
   cases h
 | [],_::_,w,l,_=>by simp at l
 | _::_,[],w,l,_=>by simp at l
 | x::ks,d::ds,w,l,h=>by
  rw [List.cons_append,List.cons_append,Et] at h
  rw [Et]
  by_cases c:x=e
  ·rw [if_pos c] at h
   rw [if_pos c]
   exact .inr h
  ·rw [if_neg c] at h
   rw [if_neg c]
   exact LB k v e ks ds (by simpa using l) h
theorem Sz {k v e w:D}{ks ds:List D}(l:ds.length=ks.length)(h:Et e (F0 k v ks ds).1 (F0 k v ks ds).2=some w):(e=k∧w=v)∨Et e ks ds=some w:=by
 unfold F0 at h
 split at h
 ·exact La k v e ks ds h
 ·exact LB k v e ks ds l h
structure FdK (ts:List Tb) (gs:List (List (List Str))) (ks ds:List D) (i:Nat):Prop where
 dk:DictOk ks ds i
 ky:∀ d∈ks,∃ p,d=kyD p
 gt:∀ d v,Et d ks ds=some v->∃ p,v=ptD p∧d=kyD (p.nm,p.key)∧pB ts gs v=true∧MV ts p
theorem Vi {k n Dk i:Nat}{ts:List Tb}{gs:List (List (List Str))}(HW:SW ts)(hG:Hb ts gs){ks ds:List D}(hD:mu[Dk]? = some (.dct ks ds))(fd:FdK ts gs ks ds i)(hi:i≤8)(hkD:Dk≠k)(h:HandOk mu k (n+8)){j:Nat}{x6 x7 x8 x9 x10 x11 x12:Option D} :
  ∃ y6 y7 y8 y9 y10 y11 y12 m' ks' ds',gBd [some (.ref k),some (.tup (ts.map tbD)),some (.tup (gs.map flD)),some (.int 8),some (.ref Dk),some (.int j),x6,x7,x8,x9,x10,x11,x12] mu=some ((.nx,[some (.ref k),some (.tup (ts.map tbD)),some (.tup (gs.map flD)),some (.int 8),some (.ref Dk),some (.int j),y6,y7,y8,y9,y10,y11,y12]),m') ∧
   m'[Dk]? = some (.dct ks' ds')∧FdK ts gs ks' ds' (i+1)∧HandOk m' k n∧(∀ j,j≠k->j≠Dk->m'[j]? = mu[j]?)∧m'.length=mu.length:=by
 have hS:=HW.ok
 have s1:=hS.l1
 have s4:=hS.l4
 obtain ⟨_,m1,e1,f1,pl,rfl,a0,a1⟩:=Dt (m:=ts.length) (n:=n+7) h (by omega) (by omega)
 obtain ⟨p,rfl⟩:∃ p:Nat,pl=(p:Int):=⟨pl.toNat,by omega⟩
 have hp:p<ts.length:=by omega
 obtain ⟨t,et⟩:∃ t,ts[p]? = some t:=⟨_,Ah hp⟩
 obtain ⟨rs,er⟩:∃ rs,gs[p]? = some rs:=⟨_,Ah (by rw [hG.len];exact hp)⟩
 have tm:=Ak et
 have ht:=hS.ok t tm
 have hrs:=hG.ok p rs t er et
 have ix1:ixG (.tup (ts.map tbD)) (.int p) m1=some (tbD t,m1):=LO _ (.inr rfl) (by rw [Al,et];rfl)
 obtain ⟨r,m2,e2,f2,hr⟩:=Pe (n:=n+3) ht (m0:=m1) f1.hand
 obtain ⟨q,m3,e3,f3,hq⟩:=S6 (n:=n+1) ht hrs er hr (sc:=.tup (ts.map tbD)) (fd:=.ref Dk) (x5:=.int j) (x11:=x11) (x12:=x12) f2.hand
 have ix2:ixG (.tup (gs.map flD)) (.int p) m3=some (flD rs,m3):=LO _ (.inr rfl) (by rw [Al,er];rfl)
 have k4:=ht.k4
 have ql:=hq.len
 have cq:PV.cutD (q.map D.str) none (some (t.ks:Int))=(q.take t.ks).map D.str:=by rw [GV (by rw [Ag];omega),Bo]
 have lc:=Hs (m0:=m3) (tg:=gNm 0) (tt:=(tV (Cs eqD (eSl (Co 0) (pNo) (Dh (Co 1))) (eSl (Co 2) (pNo) (Dh (Co 1)))))) (el:=Co 0) (ro:=[none,some (.int t.ks),some (rwD q)]) (mu:=m3) (λd=>match d with|.tup es=>decide (D.tup (es.take t.ks)=.tup ((q.map D.str).take t.ks))|_=>false) id (rs.map rwD) (λd hd=>by
  obtain ⟨r',hr',rfl⟩:=Ap.mp hd
  have rl:=(hrs.ok r' hr').len
  have cr:PV.cutD (r'.map D.str) none (some (t.ks:Int))=(r'.map D.str).take t.ks:=GV (by rw [Ag];omega)
  have cq0:PV.cutD (q.map D.str) none (some (t.ks:Int))=(q.map D.str).take t.ks:=GV (by rw [Ag];omega)
  have ek:=Q3 (mu:=m3) ((Hn.strs (r'.take t.ks)).K (by decide)) ((Hn.strs (q.take t.ks)).K (by decide))
  rw [Bo,Bo] at ek
  refine ⟨[some (rwD r'),some (.int t.ks),some (rwD q)],rfl,?_,λ_=>rfl⟩
  unfold rwD
  simp_arith only [cr,cq0,ek])
 rw [List.map_id] at lc
 generalize hfl:(rs.map rwD).filter _=fl at lc
 have flm:∀ d∈fl,RN t d:=λd hd=>by
  rw [← hfl] at hd
  obtain ⟨r',hr',rfl⟩:=Ap.mp (List.mem_filter.mp hd).1
  exact .inr ⟨r',rfl,hrs.ok r' hr'⟩
 have fll:fl.length≤6:=by
  rw [← hfl]
  have:=List.length_filter_le (λd=>match d with|D.tup es=>decide (D.tup (es.take t.ks)=.tup ((q.map D.str).take t.ks))|_=>false) (rs.map rwD)
  rw [Ag] at this
  have:=hrs.len
  omega
 have ad:Df (.lst fl) (.lst [.non]) m3=some (.lst (fl++[.non]),m3):=QV (by rw [AH];simp;omega)
 obtain ⟨be,hbe,ebe,eb⟩:∃ be,RN t be∧be=fl.headD .non∧∀ m,ixG (.lst (fl++[.non])) (.int 0) m=some (be,m):=by
  cases fl with
  | nil=>exact ⟨.non,.inl rfl,rfl,λm=>by simp only [List.nil_append,Ow]⟩
  | cons d fl=>exact ⟨d,flm d (.head _),rfl,λm=>by simp only [List.cons_append,Ow]⟩
 have flr:fl=(rs.filter λr=>decide (r.take t.ks=q.take t.ks)).map rwD:=by
  rw [← hfl,List.filter_map]
  congr 1
  refine List.filter_congr λr _=>?_
  simp only [Function.comp,rwD]
  rw [← Bo,← Bo]
  exact decide_eq_decide.mpr Kl
 have bek:be=Fw t.ks (Ij ts gs t.nm) (q.take t.ks):=by
  rw [ebe,flr,LM hS.nd et er]
  unfold Fw
  have e1:rs.find? (λr=>decide (r.take t.ks=q.take t.ks))=(rs.filter λr=>decide (r.take t.ks=q.take t.ks)).head?:=by rw [List.head?_filter]
  rw [e1]
  cases rs.filter λr=>decide (r.take t.ks=q.take t.ks) with
  | nil=>rfl
  | cons r l=>rfl
 have rbe:rnB t (q.take t.ks) be=true:=by
  rw [ebe,flr]
  have mem:∀ r∈rs.filter (λr=>decide (r.take t.ks=q.take t.ks)),rnB t (q.take t.ks) (rwD r)=true:=λr hr=>by
   have h1:=List.mem_filter.mp hr
   have h2:r.take t.ks=q.take t.ks:=by simpa using h1.2
   have h3:tkD t.ks (rwD r)=rwD (q.take t.ks):=by rw [← h2];simp only [tkD,rwD,Bo]
   unfold rnB
   rw [Ie (hrs.ok r h1.1).c,h3]
   simp
  cases e:rs.filter λr=>decide (r.take t.ks=q.take t.ks) with
  | nil=>rfl
  | cons r l=>exact mem r (by rw [e];exact .head _)
 obtain ⟨_,m4,e4,f4,w,rfl,b0,b1⟩:=Dt (m:=3) (n:=n) f3.hand (by decide) (by decide)
 obtain ⟨af,haf,ea⟩:=Ox (ds:=[rwD q,rwD q,.non]) b0 (by simpa using b1)
 have ix4:=Nd (mu:=m4) (.lst [rwD q,rwD q,.non]) (.inl rfl) b0 ea
 have raf:RN t af:=by
  simp only [Am,AJ,BG] at haf
  rcases haf with rfl|rfl|rfl
  ·exact .inr ⟨q,rfl,hq⟩
  ·exact .inr ⟨q,rfl,hq⟩
  ·exact .inl rfl
 have rnaf:rnB t (q.take t.ks) af=true:=by
  have h3:tkD t.ks (rwD q)=rwD (q.take t.ks):=by simp only [tkD,rwD,Bo]
  have rq0:rnB t (q.take t.ks) (rwD q)=true:=by
   unfold rnB
   rw [Ie hq.c,h3]
   simp
  simp only [Am,AJ,BG] at haf
  rcases haf with rfl|rfl|rfl
  ·exact rq0
  ·exact rq0
  ·rfl
 have tbf:IZ ts (.str t.nm)=some t:=by
  show ts.find? (λu=>decide (u.nm=t.nm))=some t
  cases e:ts.find? (λu=>decide (u.nm=t.nm)) with
  | none=>exact absurd (List.find?_eq_none.mp e t tm) (by simp)
  | some u =>
   have h1:u.nm=t.nm:=by simpa using List.find?_some e
   rw [Ww hS tm (List.mem_of_find?_eq_some e) h1]
 have ne:=Sg (mu:=m4) (raf.hn.K (by decide)) (hbe.hn.K (by decide))
 have fr:=((f1.trans f2).trans f3).trans f4
 have D4:m4[Dk]? = some (.dct ks ds):=(fr.keep Dk hkD).trans hD
 have rq:rwD q=.tup (q.map D.str):=rfl
 have tt:tbD t=.tup [.str t.nm,.tup (t.cs.map clD),.int t.ks]:=rfl
 have fe:flD rs=.tup (rs.map rwD):=rfl
 have rr:rwD r=.tup (r.map D.str):=rfl
 rw [fe] at ix2
 rw [tt] at ix1
 by_cases c:af=be
 ·refine ⟨some (.int p),some (.str t.nm),some (.tup (t.cs.map clD)),some (.int t.ks),some (rwD q),some be,some af,m4,ks,ds,?_,D4,⟨⟨by have:=fd.dk.len;omega,fd.dk.eq,fd.dk.nd⟩,fd.ky,fd.gt⟩,fr.hand,λj hj _=>fr.keep j hj,fr.len⟩
  have c':decide (af=be)=true:=by simp [c]
  rw [rr] at e3
  unfold gBd
  simp_arith only [Ag,e1,ix1,e2,e3,ix2,lc,ad,eb,e4,ix4,ne,c']
 ·have c':decide (af=be)=false:=by simp [c]
  have z:=Rg (v:=.tup [.str t.nm,.tup ((q.take t.ks).map D.str),be,af]) D4 ((Hn.ky (t.nm,q.take t.ks)).K (by decide)) (by have:=fd.dk.len;rw [AH];omega)
  obtain ⟨p1,p2,p3⟩:=fd.dk.put (kyD (t.nm,q.take t.ks)) (.tup [.str t.nm,.tup ((q.take t.ks).map D.str),be,af])
  refine ⟨some (.int p),some (.str t.nm),some (.tup (t.cs.map clD)),some (.int t.ks),some (rwD q),some be,some af,_,_,_,?_,FY D4,⟨p1,λd hd=>?_,λd v hv=>?_⟩,fr.hand.set hkD,λj hj hjD=>?_,?_⟩
  ·rw [rr] at e3
   have kk:kyD (t.nm,q.take t.ks)=.tup [.str t.nm,.tup ((q.take t.ks).map D.str)]:=rfl
   rw [kk] at z
   unfold gBd
   simp_arith only [Ag,e1,ix1,e2,e3,ix2,lc,ad,eb,e4,ix4,ne,c']
   rw [rq]
   simp_arith only [cq,OL,z]
   rfl
  ·rcases p3 d hd with hd|rfl
   ·exact fd.ky d hd
   ·exact ⟨_,rfl⟩
  ·rcases Sz fd.dk.eq hv with ⟨rfl,rfl⟩|hv
   ·refine ⟨⟨t.nm,q.take t.ks,be,af⟩,rfl,rfl,?_,⟨t,tm,rfl,hbe,raf⟩,λe=>c e.symm⟩
    unfold pB
    dsimp only
    have sr:Ls (.tup ((q.take t.ks).map D.str))=q.take t.ks:=Ht _
    have ro:D5 (t.cs.take t.ks) (.tup ((q.take t.ks).map D.str))=true:=Ie (hq.c.take t.ks)
    rw [tbf]
    dsimp only
    rw [sr,ro,rbe,rnaf,← bek,Bv rfl,c']
    rfl
   ·exact fd.gt d v hv
  ·rw [AV hjD.symm,fr.keep j hj]
  ·rw [List.length_set,fr.len]
theorem NJ {k n:Nat}{ts:List Tb}{gs:List (List (List Str))}(HW:SW ts)(hG:Hb ts gs)(hfl:Flat mu)(h:HandOk mu k (n+100)):Run (Er [.ref k,.tup (ts.map tbD),.tup (gs.map flD),.int 8] mu) k n mu λd=>∃ ps:List Pt,d=.tup (ps.map ptD)∧ps.length≤8∧(∀ p∈ps,MV ts p)∧chB ts gs (.tup (ps.map ptD))=true:=by
 have hS:=HW.ok
 have hkl:=h.lt
 have h0:HandOk (mu++[MO.dct [] []]) k (n+100):=h.app
 obtain ⟨_,m1,e1,f1,t1,rfl,a0,a1⟩:=Dt (m:=9) (n:=n+99) h0 (by decide) (by decide)
 obtain ⟨c,rfl⟩:∃ c:Nat,t1=(c:Int):=⟨t1.toNat,by omega⟩
 have l1:=f1.len
 simp only [Ar,List.length_cons,List.length_nil] at l1
 have hD:m1[mu.length]? = some (.dct [] []):=by
  rw [f1.keep _ (by omega)]
  simp
 obtain ⟨ro',m5,e5,⟨y5,y6,y7,y8,y9,y10,y11,y12,rfl⟩,⟨ks,ds,b1,b2⟩,b6,b7,b8⟩:=FE (m0:=m1) (tg:=gNm 5) (body:=gBd) (λi ro m=>(∃ y5 y6 y7 y8 y9 y10 y11 y12,ro=[some (.ref k),some (.tup (ts.map tbD)),some (.tup (gs.map flD)),some (.int 8),some (.ref mu.length),y5,y6,y7,y8,y9,y10,y11,y12]) ∧
   (∃ ks ds,m[mu.length]? = some (.dct ks ds)∧FdK ts gs ks ds i)∧HandOk m k (n+8*(c-i))∧(∀ j,j≠k->j≠mu.length->m[j]? = m1[j]?)∧m.length=m1.length) (Eg 0 c) 0
   [some (.ref k),some (.tup (ts.map tbD)),some (.tup (gs.map flD)),some (.int 8),some (.ref mu.length),none,none,none,none,none,none,none,none] m1
   ⟨⟨_,_,_,_,_,_,_,_,rfl⟩,⟨[],[],hD,⟨⟨Ai _,rfl,List.nodup_nil⟩,λ_ h=>(nomatch h),λ_ _ h=>(by cases h)⟩⟩,f1.hand.mono (by omega),λ_ _ _=>rfl,rfl⟩ λj d ro m ed hi=>by
  obtain ⟨⟨y5,y6,y7,y8,y9,y10,y11,y12,rfl⟩,⟨ks,ds,b1,b2⟩,hh,hkeep,hlen⟩:=hi
  obtain ⟨rfl,hj⟩:=GH ed
  obtain ⟨z6,z7,z8,z9,z10,z11,z12,m',ks',ds',g1,g2,g3,g4,g5,g6⟩:=Vi (n:=n+8*(c-(0+j+1))) HW hG b1 b2 (by omega) (by omega) (hh.mono (by omega)) (j:=j) (x6:=y6) (x7:=y7) (x8:=y8) (x9:=y9) (x10:=y10) (x11:=y11) (x12:=y12)
  exact ⟨_,m,_,m',rfl,g1,⟨_,_,_,_,_,_,_,_,rfl⟩,⟨ks',ds',g2,g3⟩,g4,λi hi hiD=>(g5 i hi hiD).trans (hkeep i hi hiD),g6.trans hlen⟩
 rw [ID] at b2 b6
 have kl:=b2.dk.len
 have sok:=JW (ks:=ks) (by omega) b2.ky
 have lc:=HJ (m0:=m5) (tg:=gNm 0) (el:=(Cs ixG (Co 1) (Co 0))) (ro:=[none,some (.ref mu.length)]) (mu:=m5) (λd=>(Et d ks ds).getD .non) (Ep ks) (λd hd=>by
  have hm:=(Dv ks).mem_iff.mp hd
  obtain ⟨p,rfl⟩:=b2.ky d hm
  have sm:=Kz (k:=kyD p) b2.dk.nd b2.dk.eq
  rw [Bv hm] at sm
  obtain ⟨v,hv⟩:=Bm.mp sm
  refine ⟨_,rfl,?_⟩
  have z:=Zl (mu:=m5) b1 ((Hn.ky p).K (by decide)) hv
  have kk:kyD p=.tup [.str p.1,.tup (p.2.map D.str)]:=rfl
  rw [hv,kk]
  simp_arith only [z,Option.getD_some])
 have allK:∀ e∈Ep ks,∃ p,(Et e ks ds).getD .non=ptD p∧e=kyD (p.nm,p.key)∧pB ts gs (ptD p)=true∧MV ts p:=λe he=>by
  have hm:=(Dv ks).mem_iff.mp he
  have sm:=Kz (k:=e) b2.dk.nd b2.dk.eq
  rw [Bv hm] at sm
  obtain ⟨v,hv⟩:=Bm.mp sm
  obtain ⟨p,rfl,h2,h3,h4⟩:=b2.gt e v hv
  exact ⟨p,by rw [hv];rfl,h2,h3,h4⟩
 have all:∀ d∈(Ep ks).map λd=>(Et d ks ds).getD .non,∃ p,d=ptD p∧MV ts p:=λd hd=>by
  obtain ⟨e,he,rfl⟩:=Ap.mp hd
  obtain ⟨p,h1,_,_,h4⟩:=allK e he
  exact ⟨p,h1,h4⟩
 have chk:chB ts gs (.tup ((Ep ks).map λd=>(Et d ks ds).getD .non))=true:=by
  unfold chB
  dsimp only
  rw [Ab]
  refine ⟨Au.mpr λd hd=>?_,?_⟩
  ·obtain ⟨e,he,rfl⟩:=Ap.mp hd
   obtain ⟨p,h1,_,h3,_⟩:=allK e he
   rw [h1]
   exact h3
  ·have e1:((Ep ks).map λd=>(Et d ks ds).getD .non).map (tkD 2)=Ep ks:=by
    rw [BN]
    refine Eq.trans (List.map_congr_left (g:=id) λe he=>?_) (List.map_id _)
    obtain ⟨p,h1,h2,_,_⟩:=allK e he
    simp only [Function.comp,h1,id]
    rw [h2]
    rfl
   rw [e1]
   exact (LQ _).mpr (Wc (HA sok) b2.dk.nd)
 obtain ⟨ps,ep,hps⟩:=Xa all
 rw [ep] at lc chk
 have pl:ps.length≤8:=by
  have:=congrArg List.length ep
  rw [Ag,Ag,(Dv ks).length_eq] at this
  omega
 have f5:Fr k n mu (m5.take mu.length):=by
  refine ⟨?_,λj hj=>?_,by rw [Az];omega⟩
  ·obtain ⟨x,y,z,q,r1,r2,r3⟩:=b6
   exact ⟨x,y,z,by rw [AR (by omega)];exact q,r1,r2,by omega⟩
  ·by_cases hj':j<mu.length
   ·rw [AR hj',b7 j hj (by omega),f1.keep j hj,As hj']
   ·rw [A7 (by rw [Az];omega),A7 (by omega)]
 refine ⟨.tup (ps.map ptD),m5.take mu.length,?_,f5,ps,rfl,pl,hps,chk⟩
 have rg:=Ng (mu:=mu++[MO.dct [] []]) (ro:=[some (.ref k),some (.tup (ts.map tbD)),some (.tup (gs.map flD)),some (.int 8),some (.ref mu.length),none,none,none,none,none,none,none,none]) (r:=(Cn (Ct Cw (Cn (Co 0) (Cn (Cs Df (Co 3) (eC (.int 1))) Cr))) Cr)) (n:=c) (m:=m1) (by simp_arith only [Int.reduceAdd,e1]) (by omega) (by rw [AH];omega)
 rw [Int.toNat_natCast] at rg
 unfold gBd sBd at e5
 simp_arith only [Er,GU,rg,e5,X3 b1 sok,lc]
 exact JL (Vz hps) (f5.flat hfl)
theorem ZE {ts:List Tb}(hS:SOk ts)(h:TN (.tup (ts.map tbD))=true):SW ts:=by
 refine ⟨hS,λt ht=>?_⟩
 have h':((EV 1 4 (.tup (ts.map tbD))&&(ts.map tbD).all Kb)&&Iu ((ts.map tbD).map Jl))=true:=h
 rw [Ab,Ab,Au] at h'
 have:=h'.1.2 (tbD t) (Ap.mpr ⟨t,ht,rfl⟩)
 unfold Kb tbD at this
 dsimp only at this
 rw [Ab,Ab] at this
 exact II.mp this.1.1
theorem ON {ts:List Tb}{gs:List (List (List Str))}(h:Hb ts gs):FW ts gs:=⟨h.len,λj rs t h1 h2=>(h.ok j rs t h1 h2).ok⟩
end PG
namespace PV
open PySem L2 PyProof.Rows K1
variable {mu:Sto}
theorem YH {ds:List D}:Vg (.tup ds) mu=some (.tup ds.reverse,mu):=rfl
theorem Wg {i:Int}:UZ (.int i) mu=some (.int (-i),mu):=rfl
theorem J1 {ds:List D}{d:D}(h:ds.getLast? = some d):atI ds (-1)=some d:=by
 have ne:ds≠[]:=by rintro rfl;simp at h
 have l:0<ds.length:=List.length_pos_iff.mpr ne
 rw [List.getLast?_eq_getElem?] at h
 have e:ixN ds.length (-1:Int)=some (ds.length-1):=by
  unfold ixN
  split<;>first|omega|(split<;>first|(congr 1;omega)|omega)
 unfold atI
 rw [e]
 exact h
theorem Sj {ds:List D}{d:D}(h:ds.getLast? = some d):ixG (.tup ds) (.int (-1)) mu=some (d,mu):=by
 simp only [ixG,ixD,J1 h,Option.map_some]
theorem QN {r:Nat}{ds:List D}{d:D}(hr:mu[r]? = some (.lst ds))(h:ds.getLast? = some d):ixG (.ref r) (.int (-1)) mu=some (d,mu):=by
 have e:DS mu (.ref r)=some ds:=by simp only [DS,hr]
 simp only [ixG,ixD,e,J1 h,Option.map_some]
theorem V4 {r:Nat}{ds ys:List D}(h:mu[r]? = some (.lst ds))(hl:ds.length+ys.length≤sizeLine){ro:Ro}{i:Nat}{e:Ex}(h1:Co i ro mu=some (.ref r,mu))(h2:e ro mu=some (.lst ys,mu)):So (Co i) (Cn e Cr) ro mu=some (.non,mu.set r (.lst (ds++ys))):=by
 have ok:Ek mu (.ref r)=true:=by simp [Ek,h]
 have sq:sq1 [.lst ys] mu=some ys:=rfl
 simp only [So,h1,QE,ok,if_true,WJ,WH,h2,sq,h,hl]
end PV
namespace PG
open PySem L2 PV PyProof.Rows K1
variable {mu:Sto}
structure Odd (z:D):Prop where
 st:∀ ds,z=.tup ds->∃ r:List Str,ds=r.map D.str
 ok:okB 40 z=true
theorem Pf {r:List Str}(h:r.length≤4):Odd (rwD r):=by
 refine ⟨λds e=>⟨r,by unfold rwD at e;injection e with e;exact e.symm⟩,?_⟩
 simp only [rwD,okB,J4,Ag,B0,Af]
 omega
theorem Ml {ts:List Tb}{gs:List (List (List Str))}(hS:SOk ts)(hG:Hb ts gs){k n:Nat}(hf:Flat mu)(h:HandOk mu k (n+1)):Run (FG [.ref k,.tup (ts.map tbD),.tup (gs.map flD)] mu) k n mu Odd:=by
 have kl:=h.lt
 have rl4:∀ rs∈gs,rs.length≤6∧∀ r∈rs,r.length≤4:=λrs hrs=>by
  obtain ⟨j,hj⟩:=AK.mp hrs
  have jl:j<ts.length:=by rw [← hG.len];exact (Ae.mp hj).1
  have fl:=hG.ok j rs _ hj (Ah jl)
  refine ⟨fl.len,λr hr=>?_⟩
  have:=(fl.ok r hr).len
  have:=(hS.ok _ (BD jl)).c4
  omega
 have g4:gs.length≤4:=by rw [hG.len];exact hS.l4
 have fll:∀ i,(gs.take i).flatten.length≤6*i:=by
  intro i
  induction i with
  | zero=>simp
  | succ i ih =>
   rw [List.take_add_one,List.flatten_append,Ar]
   cases q:gs[i]? with
   | none =>
    rw [Option.toList,List.flatten_nil,List.length_nil]
    omega
   | some rs =>
    have:=(rl4 rs (Ak q)).1
    rw [Option.toList,List.flatten_cons,List.flatten_nil,List.append_nil]
    omega
 obtain ⟨ro',m1,e1,⟨y4,rfl⟩,rfl⟩:=FE (m0:=mu++[MO.lst []]) (tg:=gNm 4) (body:=(sEx (So (Co 3) (Cn (Ct LK (Cn (Co 4) Cr)) Cr)))) (λi ro m=>(∃ y4,ro=[some (.ref k),some (.tup (ts.map tbD)),some (.tup (gs.map flD)),some (.ref mu.length),y4])∧m=mu++[MO.lst ((gs.take i).flatten.map rwD)]) (gs.map flD) 0 [some (.ref k),some (.tup (ts.map tbD)),some (.tup (gs.map flD)),some (.ref mu.length),none] (mu++[MO.lst []]) ⟨⟨none,rfl⟩,by simp⟩ λj d ro m ed ⟨⟨y4,er⟩,em⟩=>by
   subst er
   subst em
   rw [Al] at ed
   cases q:gs[j]? with
   | none=>rw [q] at ed;cases ed
   | some rs =>
    rw [q] at ed
    have ed':flD rs=d:=AB ed
    subst ed'
    have jl:j<gs.length:=(Ae.mp q).1
    have f1:=fll (0+j)
    have f2:=(rl4 rs (Ak q)).1
    have ex:=V4 (mu:=mu++[MO.lst ((gs.take (0+j)).flatten.map rwD)]) (r:=mu.length) (ds:=(gs.take (0+j)).flatten.map rwD) (ys:=rs.map rwD) (by simp) (by simp only [Ag,AH];omega) (ro:=[some (.ref k),some (.tup (ts.map tbD)),some (.tup (gs.map flD)),some (.ref mu.length),some (flD rs)]) (i:=3) (e:=Ct LK (Cn (Co 4) Cr)) rfl rfl
    refine ⟨_,_,[some (.ref k),some (.tup (ts.map tbD)),some (.tup (gs.map flD)),some (.ref mu.length),some (flD rs)],mu++[MO.lst ((gs.take (0+j+1)).flatten.map rwD)],rfl,?_,⟨_,rfl⟩,rfl⟩
    have st:(mu++[MO.lst ((gs.take (0+j)).flatten.map rwD)]).set mu.length (.lst ((gs.take (0+j)).flatten.map rwD++rs.map rwD))=mu++[MO.lst ((gs.take (0+j+1)).flatten.map rwD)]:=by
     rw [List.set_append_right _ _ (Ai _),Nat.sub_self]
     simp only [List.set_cons_zero,Bq]
     rw [List.take_add_one,q,List.flatten_append,Bs]
     simp
    rw [st] at ex
    simp only [Bq] at ex
    simp_arith only [ex]
 rw [Ag,Bq,List.take_length] at e1
 have fl0:gs.flatten.length≤24:=by
  have:=fll gs.length
  rw [List.take_length] at this
  omega
 have all4:∀ r∈gs.flatten++[[("a":Str)]],r.length≤4:=λr hr=>by
  rcases AL.mp hr with hr|hr
  ·obtain ⟨rs,h1,h2⟩:=List.mem_flatten.mp hr
   exact (rl4 rs h1).2 r h2
  ·rw [Aw.mp hr];simp
 have ap:=append_at (mu:=mu++[MO.lst (gs.flatten.map rwD)]) (mu':=mu++[MO.lst (gs.flatten.map rwD)]) (r:=mu.length) (ds:=gs.flatten.map rwD) (ds0:=gs.flatten.map rwD) (y:=.tup [.str "a"]) (by simp) (by simp) (by rw [Ag,AH];omega) (ro:=[some (.ref k),some (.tup (ts.map tbD)),some (.tup (gs.map flD)),some (.ref mu.length),y4]) (i:=3) (e:=(EB (Cn (eC (.str "a")) Cr))) rfl rfl
 have st:(mu++[MO.lst (gs.flatten.map rwD)]).set mu.length (.lst (gs.flatten.map rwD++[.tup [.str "a"]]))=mu++[MO.lst ((gs.flatten++[[("a":Str)]]).map rwD)]:=by
  rw [List.set_append_right _ _ (Ai _),Nat.sub_self,Bs]
  rfl
 rw [st] at ap
 generalize hrr:gs.flatten++[[("a":Str)]]=rr at ap all4
 have rne:rr≠[]:=by rw [← hrr];simp
 obtain ⟨r0,rs0,hr0⟩:∃ r0 rs0,rr=r0::rs0:=by
  cases rr with
  | nil=>exact absurd rfl rne
  | cons a b=>exact ⟨a,b,rfl⟩
 obtain ⟨rz,hrz⟩:∃ rz,rr.getLast? = some rz:=⟨_,List.getLast?_eq_some_getLast rne⟩
 obtain ⟨t,tr,ht⟩:∃ t tr,ts=t::tr:=by
  cases ts with
  | nil=>have:=hS.l1;simp at this
  | cons t tr=>exact ⟨t,tr,rfl⟩
 obtain ⟨tz,htz⟩:∃ tz,ts.getLast? = some tz:=⟨_,List.getLast?_eq_some_getLast (by rw [ht];simp)⟩
 have g1:(mu++[MO.lst (rr.map rwD)])[mu.length]? = some (.lst (rr.map rwD)):=by simp
 have i1:ixG (.tup (ts.map tbD)) (.int 0) (mu++[MO.lst (rr.map rwD)])=some (tbD t,mu++[MO.lst (rr.map rwD)]):=by rw [ht];exact KA
 have i2:ixG (.tup (ts.map tbD)) (.int (-1)) (mu++[MO.lst (rr.map rwD)])=some (tbD tz,mu++[MO.lst (rr.map rwD)]):=Sj (by rw [List.getLast?_map,htz];rfl)
 have i3:∀ u:Tb,ixG (tbD u) (.int 0) (mu++[MO.lst (rr.map rwD)])=some (.str u.nm,mu++[MO.lst (rr.map rwD)]):=λu=>KA
 have i4:ixG (.ref mu.length) (.int 0) (mu++[MO.lst (rr.map rwD)])=some (rwD r0,mu++[MO.lst (rr.map rwD)]):=MS (j:=0) g1 (by rw [hr0];rfl)
 have i5:ixG (.ref mu.length) (.int (-1)) (mu++[MO.lst (rr.map rwD)])=some (rwD rz,mu++[MO.lst (rr.map rwD)]):=QN g1 (by rw [List.getLast?_map,hrz];rfl)
 have lf:LK [rwD r0] (mu++[MO.lst (rr.map rwD)])=some (.lst (r0.map D.str),mu++[MO.lst (rr.map rwD)]):=rfl
 have ad:Df (.lst [.non,.bl true,.int 0,.str "",.str "zz9",.tup [],.lst [],.dct [] [],.str t.nm,.str tz.nm,rwD r0,rwD rz]) (.lst [.lst (r0.map D.str)]) (mu++[MO.lst (rr.map rwD)])=some (.lst [.non,.bl true,.int 0,.str "",.str "zz9",.tup [],.lst [],.dct [] [],.str t.nm,.str tz.nm,rwD r0,rwD rz,.lst (r0.map D.str)],mu++[MO.lst (rr.map rwD)]):=QV (by rw [AH];exact (show (13:Nat)≤16777216 by decide))
 obtain ⟨d,m',e,fr,hd⟩:=pick_run (mu:=mu++[MO.lst (rr.map rwD)]) (s:=.lst [.non,.bl true,.int 0,.str "",.str "zz9",.tup [],.lst [],.dct [] [],.str t.nm,.str tz.nm,rwD r0,rwD rz,.lst (r0.map D.str)]) (n:=n) (.inl rfl) (by simp) (by simp) h.app
 have l0:r0.length≤4:=all4 r0 (by rw [hr0];exact .head _)
 have lz:rz.length≤4:=all4 rz (List.mem_of_getLast? hrz)
 have od:Odd d:=by
  have pl:∀ {x:D},isT x=false->okB 40 x=true->Odd x:=λ{x} h1 h2=>⟨λds e=>(by rw [e] at h1;cases h1),h2⟩
  simp only [Am,AJ,BG] at hd
  rcases hd with rfl|rfl|rfl|rfl|rfl|rfl|rfl|rfl|rfl|rfl|rfl|rfl|rfl
  ·exact pl rfl rfl
  ·exact pl rfl rfl
  ·exact pl rfl rfl
  ·exact pl rfl rfl
  ·exact pl rfl rfl
  ·exact ⟨λds e=>⟨[],by injection e with e;exact e.symm⟩,rfl⟩
  ·exact pl rfl rfl
  ·exact pl rfl rfl
  ·exact pl rfl rfl
  ·exact pl rfl rfl
  ·exact Pf l0
  ·exact Pf lz
  ·exact pl rfl (by simp only [okB,J4])
 have f5:Fr k n mu (m'.take mu.length):=by
  refine ⟨?_,λj hj=>?_,by rw [Az,fr.len,Ar];omega⟩
  ·obtain ⟨x,y,z,q,r⟩:=fr.hand
   exact ⟨x,y,z,by rw [AR (by omega)];exact q,r⟩
  ·by_cases hj':j<mu.length
   ·rw [AR hj',fr.keep j hj,As hj']
   ·rw [A7 (by rw [Az];omega),A7 (by omega)]
 refine ⟨d,m'.take mu.length,?_,f5,od⟩
 have cs:=JL (mu:=mu) (m:=m') (d:=d) (FD od.ok) (f5.flat hf)
 simp_arith only [FG,IH,e1,ap,Wg,i1,i2,i3,i4,i5,lf,ad,e,cs]
theorem okT {n:Nat}{ds:List D}(l:ds.length≤n)(h:∀ d∈ds,okB n d=true):okB n (.tup ds)=true:=by
 rw [okB,Ik.mpr h,B0,Af]
 exact l
inductive Mod:D->D->Prop
 | odd {d z:D} (h:Odd z):Mod d z
 | lst {ds:List D}:Mod (.tup ds) (.lst ds)
 | rev {ds:List D}:Mod (.tup ds) (.tup ds.reverse)
 | app {ds:List D} {z:D} (h:Odd z):Mod (.tup ds) (.tup (ds++[z]))
 | del {ds:List D} (i:Nat) (h:i<ds.length):Mod (.tup ds) (.tup (ds.take i++ds.drop (i+1)))
 | dup {ds:List D} (i:Nat) (h:i<ds.length):Mod (.tup ds) (.tup (ds.take (i+1)++ds.drop i))
 | sub {ds:List D} {y z:D} (i:Nat) (h:ds[i]? = some y) (h':Mod y z):Mod (.tup ds) (.tup (ds.take i++[z]++ds.drop (i+1)))
theorem OU {ts:List Tb}{gs:List (List (List Str))}(hS:SOk ts)(hG:Hb ts gs){k:Nat}:∀ (f:Nat) {n deep:Nat} {mu:Sto} {d:D},deep≤f->Flat mu->HandOk mu k (n+5*(f+1))->okB 40 d=true->Run (CN (f+1) [.ref k,.tup (ts.map tbD),.tup (gs.map flD),d,.int deep] mu) k n mu λz=>Mod d z∧okB 41 z=true
 | f,n,deep,mu,d,hf,fl,h,ok=>by
  have u:∀ d,okB 40 d=true->okB 41 d=true:=λd h=>MC (by decide) h
  obtain ⟨od,mo,eo,fo,ho⟩:=Ml hS hG (n:=n) fl (h.mono (by omega))
  cases d with
  | tup ds =>
   have ok1:=MC (m:=41) (by decide) ok
   have okm:=Iz ok1
   have hl:ds.length≤40:=by
    rw [okB,Ab,Af] at ok
    exact ok.1
   by_cases c0:(ds.length:Int)=0
   ·refine ⟨od,mo,?_,fo,.odd ho,u _ ho.ok⟩
    simp_arith only [CN,Dr,c0,eo]
   by_cases c1:(deep:Int)=0
   ·refine ⟨od,mo,?_,fo,.odd ho,u _ ho.ok⟩
    simp_arith only [CN,Dr,c0,c1,eo]
   obtain ⟨_,m1,e1,f1,t1,rfl,a0,a1⟩:=Dt (m:=7) (n:=n+5*f+4) (h.mono (by omega)) (by decide) (by decide)
   by_cases c2:t1=0
   ·obtain ⟨od,mo,eo,fo,ho⟩:=Ml hS hG (n:=n) (f1.flat fl) (f1.hand.mono (by omega))
    refine ⟨od,mo,?_,f1.trans fo,.odd ho,u _ ho.ok⟩
    simp_arith only [CN,Dr,c0,c1,e1,c2,eo]
   obtain ⟨_,m2,e2,f2,at',rfl,b0,b1⟩:=Dt (m:=ds.length) (n:=n+5*f+3) f1.hand (by omega) (by omega)
   obtain ⟨i,rfl⟩:∃ i:Nat,at'=(i:Int):=⟨at'.toNat,by omega⟩
   have il:i<ds.length:=by omega
   obtain ⟨_,m3,e3,f3,way,rfl,w0,w1⟩:=Dt (m:=8) (n:=n+5*f+2) f2.hand (by decide) (by decide)
   have fr:=(f1.trans f2).trans f3
   have i1:(i:Int)+1=((i+1:Nat):Int):=by omega
   have ct0:=GV (xs:=ds) (j:=i) (by omega)
   have ct1:=GV (xs:=ds) (j:=i+1) (by omega)
   have cf0:=KJ (xs:=ds) (j:=i) (by omega)
   have cf1:=KJ (xs:=ds) (j:=i+1) (by omega)
   have tl:∀ j,(ds.take j).length≤ds.length:=λj=>by rw [Az];omega
   have dl:∀ j,(ds.drop j).length≤ds.length:=λj=>by rw [Bu];omega
   have tm:∀ j,∀ d∈ds.take j,okB 41 d=true:=λj d hd=>okm d (List.mem_of_mem_take hd)
   have dm:∀ j,∀ d∈ds.drop j,okB 41 d=true:=λj d hd=>okm d (BJ hd)
   by_cases c3:way=0
   ·refine ⟨.tup (ds.take i++ds.drop (i+1)),m3,?_,fr.mono (by omega),.del i il,okT (by rw [Ar,Az,Bu];omega) λd hd=>(AL.mp hd).elim (tm _ d) (dm _ d)⟩
    have za:Df (.tup (ds.take i)) (.tup (ds.drop (i+1))) m3=some (.tup (ds.take i++ds.drop (i+1)),m3):=Jc (by rw [AH];have:=tl i;have:=dl (i+1);omega)
    simp_arith only [CN,Dr,c0,c1,e1,c2,e2,e3,c3,i1,ct0,cf1,za]
   by_cases c4:way=1
   ·refine ⟨.tup (ds.take (i+1)++ds.drop i),m3,?_,fr.mono (by omega),.dup i il,okT (by rw [Ar,Az,Bu];omega) λd hd=>(AL.mp hd).elim (tm _ d) (dm _ d)⟩
    have za:Df (.tup (ds.take (i+1))) (.tup (ds.drop i)) m3=some (.tup (ds.take (i+1)++ds.drop i),m3):=Jc (by rw [AH];have:=tl (i+1);have:=dl i;omega)
    simp_arith only [CN,Dr,c0,c1,e1,c2,e2,e3,c3,c4,Int.reduceEq,i1,ct1,cf0,za]
   by_cases c5:way=2
   ·obtain ⟨od,mo,eo,fo,ho⟩:=Ml hS hG (n:=n+1) (fr.flat fl) (f3.hand.mono (by omega))
    obtain ⟨_,m4,e4,f4,t4,rfl,d0,d1⟩:=Dt (m:=3) (n:=n) fo.hand (by decide) (by decide)
    obtain ⟨x,hx,ex⟩:=Ox (ds:=[.lst ds,.tup ds.reverse,.tup (ds++[od])]) d0 (by simpa using d1)
    have ix:=Nd (mu:=m4) (.lst [.lst ds,.tup ds.reverse,.tup (ds++[od])]) (.inl rfl) d0 ex
    have za:Df (.tup ds) (.tup [od]) mo=some (.tup (ds++[od]),mo):=Jc (by rw [AH];simp;omega)
    refine ⟨x,m4,?_,(fr.trans fo).trans f4,?_⟩
    ·simp_arith only [CN,Dr,c0,c1,e1,c2,e2,e3,c3,c4,c5,Int.reduceEq,YH,eo,za,e4,ix]
    ·simp only [Am,AJ,BG] at hx
     rcases hx with rfl|rfl|rfl
     ·refine ⟨.lst,?_⟩
      rw [okB]
      exact Ik.mpr okm
     ·exact ⟨.rev,okT (by rw [List.length_reverse];omega) λd hd=>okm d (List.mem_reverse.mp hd)⟩
     ·exact ⟨.app ho,okT (by rw [Ar,List.length_singleton];omega) λd hd=>(AL.mp hd).elim (okm d) λh=>by rw [Aw.mp h];exact u _ ho.ok⟩
   ·have ey:ds[i]? = some ds[i]:=Ah il
    have ix:=Nd (mu:=m3) (t:=(i:Int)) (.tup ds) (.inr rfl) (by omega) (by rw [Int.toNat_natCast];exact ey)
    have hy:ds[i]∈ds:=BD il
    generalize ds[i]=y at ey ix hy
    match f,hf with
    | 0,hf=>omega
    | g+1,hf =>
     obtain ⟨z,m4,e4,f4,mz,lz⟩:=OU hS hG (k:=k) g (n:=n) (deep:=deep-1) (mu:=m3) (d:=y) (by omega) (fr.flat fl) (f3.hand.mono (by omega)) (Iz ok y hy)
     have dd:(deep:Int)-1=((deep-1:Nat):Int):=by omega
     have z1:Df (.tup (ds.take i)) (.tup [z]) m4=some (.tup (ds.take i++[z]),m4):=Jc (by
      rw [AH,List.length_singleton]
      have:=tl i
      omega)
     have z2:Df (.tup (ds.take i++[z])) (.tup (ds.drop (i+1))) m4=some (.tup (ds.take i++[z]++ds.drop (i+1)),m4):=Jc (by
      rw [AH,Ar,List.length_singleton]
      have:=tl i
      have:=dl (i+1)
      omega)
     refine ⟨.tup (ds.take i++[z]++ds.drop (i+1)),m4,?_,fr.trans f4,.sub i ey mz,okT (by rw [Ar,Ar,List.length_singleton,Az,Bu];omega) λd hd=>(AL.mp hd).elim (λhd=>(AL.mp hd).elim (tm _ d) λh=>by rw [Aw.mp h];exact lz) (dm _ d)⟩
     rw [CN]
     simp_arith only [Dr,c0,c1,e1,c2,e2,e3,c3,c4,c5,ix,dd,e4,i1,ct0,cf1,z1,z2]
  | ref k=>simp [okB] at ok
  | set _=>simp [okB] at ok
  | _ =>
   refine ⟨od,mo,?_,fo,.odd ho,u _ ho.ok⟩
   simp_arith only [CN,Dr,eo]
theorem Sf {z:D}(h:Odd z):QP z:=λa b c e he=>by
 obtain ⟨r,hr⟩:=h.st _ he
 match r,hr with
 | [],hr=>cases hr
 | [_],hr=>cases hr
 | _::_::_,hr =>
  injection hr with _ hr
  injection hr with hr _
  cases hr
theorem Tu {ds:List D}(h:ds.length≠4):QP (.tup ds):=λa b c e he=>by
 injection he with he
 rw [he] at h
 exact absurd rfl h
theorem SY {nm:Str}{b c e z:D}(hc:F5 c=true)(he:F5 e=true)(h:Mod (.tup [.str nm,b,c,e]) z):QP z:=by
 generalize hd:(D.tup [.str nm,b,c,e])=d at h
 cases h with
 | odd h=>exact Sf h
 | lst=>exact λ_ _ _ _ e=>by cases e
 | rev =>
  injection hd with hd
  subst hd
  intro x1 x2 x3 x4 hx
  injection hx with hx
  injection hx with hx _
  rw [hx] at he
  cases he
 | app h =>
  injection hd with hd
  subst hd
  exact Tu (by simp)
 | del i h =>
  injection hd with hd
  subst hd
  refine Tu ?_
  simp only [Ar,Az,Bu,List.length_cons,List.length_nil] at h ⊢
  omega
 | dup i h =>
  injection hd with hd
  subst hd
  refine Tu ?_
  simp only [Ar,Az,Bu,List.length_cons,List.length_nil] at h ⊢
  omega
 | sub i h h' =>
  injection hd with hd
  subst hd
  intro x1 x2 x3 x4 hx
  injection hx with hx
  match i,h,hx with
  | 0,_,hx =>
   injection hx with _ hx
   injection hx with _ hx
   injection hx with hx _
   rw [← hx]
   exact .inl hc
  | 1,_,hx =>
   injection hx with _ hx
   injection hx with _ hx
   injection hx with hx _
   rw [← hx]
   exact .inl hc
  | 2,_,hx =>
   injection hx with _ hx
   injection hx with _ hx
   injection hx with _ hx
   injection hx with hx _
   rw [← hx]
   exact .inr he
  | 3,_,hx =>
   injection hx with _ hx
   injection hx with _ hx
   injection hx with hx _
   rw [← hx]
   exact .inl hc
  | i+4,h,_=>simp at h
theorem Mi {t:Tb}{x:D}(h:RN t x):F5 x=true:=by
 rcases h with rfl|⟨r,rfl,_⟩
 ·rfl
 ·unfold rwD F5
  dsimp only
  rw [PV.strs_map]
  rfl
theorem M6 {r:List Str}(h:r.length≤4):okB 40 (rwD r)=true:=by
 simp only [rwD,okB,J4,Ag,B0,Af]
 omega
theorem QQ {ts:List Tb}{gs:List (List (List Str))}(hS:SOk ts){d:D}(h:pB ts gs d=true):okB 40 d=true:=by
 unfold pB at h
 split at h
 ·rename_i a b c e
  split at h
  ·cases h
  ·rename_i t ht
   obtain ⟨rfl,hm,_⟩:=Io ht
   have tk:=hS.ok t hm
   rw [Ab,Ab,Ab] at h
   obtain ⟨h1,h2,h3,_⟩:=h
   obtain ⟨r,rfl,hr⟩:=Eo h1
   have l:=hr.len
   rw [Az] at l
   have c4:=tk.c4
   have rn:∀ {x:D},RN t x->okB 40 x=true:=λ{x} h=>by
    rcases h with rfl|⟨r,rfl,hr⟩
    ·rfl
    ·exact M6 (by rw [hr.len];exact c4)
   refine okT (by simp) λx hx=>?_
   simp only [Am,AJ,BG] at hx
   rcases hx with rfl|rfl|rfl|rfl
   ·rfl
   ·exact M6 (by omega)
   ·exact rn (JR h2).1
   ·exact rn (JR h3).1
 ·cases h
theorem M0 {ts:List Tb}{gs:List (List (List Str))}(hS:SOk ts){ds:List D}(l:ds.length≤8)(h:chB ts gs (.tup ds)=true):okB 40 (.tup ds)=true:=by
 unfold chB at h
 dsimp only at h
 rw [Ab,Au] at h
 exact okT (by omega) λd hd=>QQ hS (h.1 d hd)
theorem NX {ts:List Tb}{ps:List Pt}{z:D}(hp:∀ p∈ps,MV ts p)(h:Mod (.tup (ps.map ptD)) z):∀ qs,z=.tup qs->∀ x∈qs,QP x:=by
 have rb:∀ x∈ps.map ptD,(∀ z,Mod x z->QP z)∧QP x:=λx hx=>by
  obtain ⟨p,hp',rfl⟩:=Ap.mp hx
  obtain ⟨t,_,_,h1,h2⟩:=(hp p hp').ex
  refine ⟨λz hz=>SY (Mi h1) (Mi h2) hz,λa b c e he=>?_⟩
  injection he with he
  injection he with _ he
  injection he with _ he
  injection he with he _
  rw [← he]
  exact .inl (Mi h1)
 generalize ps.map ptD=ds at h rb
 generalize hd:D.tup ds=d at h
 intro qs hq x hx
 cases h with
 | odd h =>
  obtain ⟨r,hr⟩:=h.st _ hq
  rw [hr] at hx
  obtain ⟨s,_,rfl⟩:=Ap.mp hx
  exact λ_ _ _ _ e=>by cases e
 | lst=>cases hq
 | rev =>
  cases hd
  cases hq
  exact (rb x (List.mem_reverse.mp hx)).2
 | app h =>
  cases hd
  cases hq
  rcases AL.mp hx with hx|hx
  ·exact (rb x hx).2
  ·rw [Aw.mp hx]
   exact Sf h
 | del i h =>
  cases hd
  cases hq
  rcases AL.mp hx with hx|hx
  ·exact (rb x (List.mem_of_mem_take hx)).2
  ·exact (rb x (BJ hx)).2
 | dup i h =>
  cases hd
  cases hq
  rcases AL.mp hx with hx|hx
  ·exact (rb x (List.mem_of_mem_take hx)).2
  ·exact (rb x (BJ hx)).2
 | sub i h h' =>
  cases hd
  cases hq
  rcases AL.mp hx with hx|hx
  ·rcases AL.mp hx with hx|hx
   ·exact (rb x (List.mem_of_mem_take hx)).2
   ·rw [Aw.mp hx]
    exact (rb _ (Ak h)).1 _ h'
  ·exact (rb x (BJ hx)).2
noncomputable def Jq:Sx:=(CI (Dc (Ct Er (Cn (Co 2) (Cn (Co 3) (Cn (Co 4) (Cn (eC (.int 8)) Cr))))) (gNm 6)) (CI (Dc (Ct (CN 14) (Cn (Co 2) (Cn (Co 3) (Cn (Co 4) (Cn (Co 6) (Cn (eC (.int 4)) Cr)))))) (gNm 7)) (CI (Dc (Ct CV (Cn (Co 3) (Cn (Co 4) (Cn (Co 7) Cr)))) (gNm 8)) (CI (sIf (tO (tNt (tV (HD "bool" (Co 8)))) (tV (Cs neD (Co 8) (Ct Ei (Cn (Co 3) (Cn (Co 4) (Cn (Co 7) Cr))))))) (sRt (eC (.bl false))) (sNx)) (sIf (tV (Cs JJ (Ct CV (Cn (Co 3) (Cn (Co 4) (Cn (Co 6) Cr)))) (eC (.bl true)))) (sRt (eC (.bl false))) (sNx))))))
noncomputable def Pk:Sx:=(CI (Dc (Ct EH (Cn (Co 0) (Cn (Co 1) Cr))) (gNm 2)) (CI (Dc (Ct D9 (Cn (Co 2) (Cn (eC (.int 4)) (Cn (eC (.int 4)) (Cn (eC (.int 3)) Cr))))) (gNm 3)) (CI (Dc (Ct Ed (Cn (Co 2) (Cn (Co 3) (Cn (eC (.int 6)) Cr)))) (gNm 4)) (CI (HC (iRg (Cn (eC (.int 8)) Cr)) (gNm 5) Jq) (CI (Dc (GK (Cn (eC .non) (Cn (eC (.bl true)) (Cn (eC (.int 0)) (Cn (eC (.str "")) (Cn (GK Cr) (Cn MI (Cn (EB (Cn (EB Cr) Cr)) (Cn (EB (Cn (eC .non) Cr)) Cr))))))))) (gNm 9)) (CI (sIf (tNt (tV (Ct HK (Cn (eLC (Fv (Co 9)) 1 [3,4] (gNm 0) (tY) (Cs isD (Ct CV (Cn (Co 1) (Cn (Co 2) (Cn (Co 0) Cr)))) (eC (.bl false)))) Cr)))) (sRt (eC (.bl false))) (sNx)) (sIf (tV (Cs JJ (Ct CV (Cn (Co 3) (Cn (Co 4) (Cn (EB Cr) Cr)))) (eC (.bl true)))) (sRt (eC (.bl false))) (sNx))))))))
noncomputable def Mo:List D:=[.non,.bl true,.int 0,.str "",.lst [],.dct [] [],.tup [.tup []],.tup [.non]]
theorem Si:∀ d∈Mo,Dy 0 d=true:=by
 have:E7 0 Mo=true:=by
  unfold Mo
  simp only [E7,Dy,BX]
 exact F8.mp this
theorem Py (ts:List Tb)(gs:List (List (List Str))):∀ d∈Mo,chB ts gs d=false∧∀ ps,d=.tup ps->ps.length<64:=by
 intro d hd
 unfold Mo at hd
 simp only [Am,AJ,BG] at hd
 rcases hd with rfl|rfl|rfl|rfl|rfl|rfl|rfl|rfl<;>refine ⟨rfl,λps e=>?_⟩<;>cases e<;>decide
theorem RK {d:D}(h:okB 41 d=true):∀ ps,d=.tup ps->ps.length<64:=λps e=>by
 subst e
 rw [okB,Ab,Af] at h
 omega
theorem Sb {ts:List Tb}{gs:List (List (List Str))}(H:SW ts)(hG:Hb ts gs){k n:Nat}{ns d1:D}{x5 x6 x7 x8 x9:Option D}(hf:Flat mu)(h:HandOk mu k (n+200)) :
  ∃ y6 y7 y8 m',Jq [some ns,some d1,some (.ref k),some (.tup (ts.map tbD)),some (.tup (gs.map flD)),x5,x6,x7,x8,x9] mu=some ((.nx,[some ns,some d1,some (.ref k),some (.tup (ts.map tbD)),some (.tup (gs.map flD)),x5,y6,y7,y8,x9]),m')∧Fr k n mu m':=by
 have F:=ON hG
 obtain ⟨_,m1,e1,f1,ps,rfl,pl,pok,ch⟩:=NJ (n:=n+100) H hG hf (h.mono (by omega))
 have o1:=M0 H.ok (by rw [Ag];exact pl) ch
 obtain ⟨z,m2,e2,f2,mz,o2⟩:=OU H.ok hG (k:=k) 13 (n:=n) (deep:=4) (d:=.tup (ps.map ptD)) (by decide) (f1.flat hf) (f1.hand.mono (by omega)) o1
 have e2':CN 14 [.ref k,.tup (ts.map tbD),.tup (gs.map flD),.tup (ps.map ptD),.int 4] m1=some (z,m2):=e2
 have c1:=Ho (mu:=m2) H F (FD o2) (RK o2)
 have c2:=Q0 (mu:=m2) H F o2 λqs e=>⟨RK o2 qs e,NX pok mz qs e⟩
 have c3:=Ho (mu:=m2) H F (FD o1) (RK (MC (by decide) o1))
 rw [ch] at c3
 have ne:neD (.bl (chB ts gs z)) (.bl (chB ts gs z)) m2=some (.bl false,m2):=by
  cases chB ts gs z<;>rfl
 have isn:JJ (.bl true) (.bl true) m2=some (.bl false,m2):=rfl
 refine ⟨some (.tup (ps.map ptD)),some z,some (.bl (chB ts gs z)),m2,?_,f1.trans f2⟩
 unfold Jq
 simp_arith only [e1,e2',c1,c2,ne,c3,isn]
theorem PN {ts:List Tb}{gs:List (List (List Str))}(H:SW ts)(hG:Hb ts gs){k n:Nat}{ns d1:D}{x5 x6 x7 x8 x9:Option D}(hf:Flat mu)(h:HandOk mu k (n+1600)){m0:Sto} :
  ∃ y5 y6 y7 y8 m',Ey none m0 (gNm 5) Jq (Eg 0 8) [some ns,some d1,some (.ref k),some (.tup (ts.map tbD)),some (.tup (gs.map flD)),x5,x6,x7,x8,x9] mu=some ((.nx,[some ns,some d1,some (.ref k),some (.tup (ts.map tbD)),some (.tup (gs.map flD)),y5,y6,y7,y8,x9]),m')∧Fr k n mu m':=by
 obtain ⟨ro',mu',e,⟨y5,y6,y7,y8,rfl⟩,fr⟩:=FE (m0:=m0) (tg:=gNm 5) (body:=Jq) (λi ro m=>(∃ y5 y6 y7 y8,ro=[some ns,some d1,some (.ref k),some (.tup (ts.map tbD)),some (.tup (gs.map flD)),y5,y6,y7,y8,x9])∧Fr k (n+1600-200*i) mu m) (Eg 0 8) 0 _ mu ⟨⟨x5,x6,x7,x8,rfl⟩,.refl h⟩ λj d ro m ed ⟨⟨y5,y6,y7,y8,er⟩,fr⟩=>by
   subst er
   obtain ⟨rfl,hj⟩:=GH ed
   obtain ⟨z6,z7,z8,m1,e1,f1⟩:=Sb (mu:=m) H hG (n:=n+1600-200*(0+j+1)) (ns:=ns) (d1:=d1) (x5:=some (.int j)) (x6:=y6) (x7:=y7) (x8:=y8) (x9:=x9) (fr.flat hf) (fr.hand.mono (by omega))
   exact ⟨_,m,_,m1,rfl,e1,⟨_,_,_,_,rfl⟩,fr.trans f1⟩
 exact ⟨y5,y6,y7,y8,mu',e,fr.mono (by rw [ID];omega)⟩
theorem Wh {i:Nat}{ns:List Int}{x2 x3 x4 x5 x6 x7 x8 x9:Option D}(hi:i<64)(hfl:Flat mu) :
  ∃ y2 y3 y4 y5 y6 y7 y8 y9 m',Pk [some (.lst (ns.map D.int)),some (.int i),x2,x3,x4,x5,x6,x7,x8,x9] mu=some ((.nx,[some (.lst (ns.map D.int)),some (.int i),y2,y3,y4,y5,y6,y7,y8,y9]),m')∧Flat m':=by
 obtain ⟨o,e1,h1⟩:=Sv (mu:=mu) (k:=i) (n:=2000) (ns:=ns) hi (by decide)
 have fl1:Flat (mu++[o]):=by
  intro j q hq
  by_cases c:j=mu.length
  ·subst c
   obtain ⟨_,_,_,h,_⟩:=h1
   rw [h] at hq
   cases hq
   rfl
  ·have:j<(mu++[o]).length:=(Ae.mp hq).1
   simp at this
   rw [As (by omega)] at hq
   exact hfl j q hq
 obtain ⟨_,m2,e2,f2,ds,rfl,sb,ok⟩:=Og (n:=1900) (a:=4) (b:=4) (c:=3) (by decide) (by decide) (by decide) (by decide) (by decide) (by decide) fl1 (h1.mono (by decide))
 obtain ⟨ts,et,hS⟩:=UD sb
 have ed:ds=ts.map tbD:=by injection et
 subst ed
 have H:=ZE hS sb
 have e2':D9 [.ref mu.length,.int 4,.int 4,.int 3] (mu++[o])=some (.tup (ts.map tbD),m2):=e2
 have fl2:=f2.flat fl1
 obtain ⟨_,m3,e3,f3,gs,rfl,hG⟩:=Nw (n:=1700) hS fl2 (f2.hand.mono (by decide))
 have fl3:=f3.flat fl2
 obtain ⟨y5,y6,y7,y8,m4,e4,f4⟩:=PN (mu:=m3) H hG (n:=100) (ns:=.lst (ns.map D.int)) (d1:=.int i) (x5:=x5) (x6:=x6) (x7:=x7) (x8:=x8) (x9:=x9) fl3 (f3.hand.mono (by decide)) (m0:=m3)
 have F:=ON hG
 have rg1:∀ (ro:Ro) (m:Sto),iRg (Cn (eC (.int 8)) Cr) ro m=some ((Eg 0 8,none),m):=λro m=>Ng (n:=8) rfl (by decide) (by rw [AH];decide)
 have al:=Kq (m0:=m4) (tg:=gNm 0) (el:=(Cs isD (Ct CV (Cn (Co 1) (Cn (Co 2) (Cn (Co 0) Cr)))) (eC (.bl false)))) (ro:=[none,some (.tup (ts.map tbD)),some (.tup (gs.map flD))]) (mu:=m4) (λd=>true) Mo (λd hd=>⟨_,rfl,by
  have:=Ho (mu:=m4) H F (Si d hd) (Py ts gs d hd).2
  rw [(Py ts gs d hd).1] at this
  have is:isD (.bl false) (.bl false) m4=some (.bl true,m4):=rfl
  simp_arith only [this,is]⟩)
 have am:Mo.map (λ_=>true)=[true,true,true,true,true,true,true,true]:=rfl
 rw [am] at al
 have af:HK [.lst [.bl true,.bl true,.bl true,.bl true,.bl true,.bl true,.bl true,.bl true]] m4=some (.bl true,m4):=rfl
 have c3:CV [.tup (ts.map tbD),.tup (gs.map flD),.tup []] m4=some (.bl true,m4):=Ho (mu:=m4) H F rfl λps e=>by cases e;decide
 have isn:JJ (.bl true) (.bl true) m4=some (.bl false,m4):=rfl
 refine ⟨some (.ref mu.length),some (.tup (ts.map tbD)),some (.tup (gs.map flD)),y5,y6,y7,y8,some (.lst Mo),m4,?_,f4.flat fl3⟩
 unfold Jq at e4
 unfold Pk Jq
 unfold Mo at al ⊢
 simp_arith only [e1,e2',e3,rg1,e4,al,af,c3,isn]
theorem Vp (ns:List Int):∃ mu',K9 [.lst (ns.map .int)] []=some (.bl true,mu'):=by
 obtain ⟨N,hN,h2,h5⟩:∃ N:Nat,(if (if (ns.length:Int)<5 then (ns.length:Int) else 5) > 2 then (if (ns.length:Int)<5 then (ns.length:Int) else 5) else 2)=(N:Int)∧2≤N∧N≤5:=by
  refine ⟨(if (if (ns.length:Int)<5 then (ns.length:Int) else 5) > 2 then (if (ns.length:Int)<5 then (ns.length:Int) else 5) else 2).toNat,?_,?_,?_⟩<;>split<;>split<;>omega
 obtain ⟨ro',mu',e,⟨y1,y2,y3,y4,y5,y6,y7,y8,y9,rfl⟩,_⟩:=FE (m0:=[]) (tg:=gNm 1) (body:=Pk) (λi ro m=>(∃ y1 y2 y3 y4 y5 y6 y7 y8 y9,ro=[some (.lst (ns.map D.int)),y1,y2,y3,y4,y5,y6,y7,y8,y9])∧Flat m) (Eg 0 N) 0 [some (.lst (ns.map D.int)),none,none,none,none,none,none,none,none,none] [] ⟨⟨_,_,_,_,_,_,_,_,_,rfl⟩,λj o h=>by simp at h⟩ λj d ro m ed ⟨⟨y1,y2,y3,y4,y5,y6,y7,y8,y9,er⟩,fl⟩=>by
   subst er
   obtain ⟨rfl,hj⟩:=GH ed
   obtain ⟨z2,z3,z4,z5,z6,z7,z8,z9,m',e,fl'⟩:=Wh (mu:=m) (i:=j) (ns:=ns) (x2:=y2) (x3:=y3) (x4:=y4) (x5:=y5) (x6:=y6) (x7:=y7) (x8:=y8) (x9:=y9) (by omega) fl
   exact ⟨_,m,_,m',rfl,e,⟨_,_,_,_,_,_,_,_,_,rfl⟩,fl'⟩
 refine ⟨mu',?_⟩
 have mn:ME [.int 5,.int (ns.length:Int)] []=some (.int (if (ns.length:Int)<5 then (ns.length:Int) else 5),[]):=rfl
 have mx:SQ [.int 2,.int (if (ns.length:Int)<5 then (ns.length:Int) else 5)] []=some (.int N,[]):=by
  rw [← hN]
  rfl
 have rg:=Ng (mu:=[]) (ro:=[some (.lst (ns.map D.int)),none,none,none,none,none,none,none,none,none]) (r:=(Cn (Ct SQ (Cn (eC (.int 2)) (Cn (Ct ME (Cn (eC (.int 5)) (Cn (Ct EU (Cn (Co 0) Cr)) Cr))) Cr))) Cr)) (n:=N) (m:=[]) (by simp_arith only [Ag,mn,mx]) (by omega) (by rw [AH];omega)
 rw [Int.toNat_natCast] at rg
 unfold Pk Jq at e
 simp_arith only [K9,Te,rg,e]
end PG
namespace PG
open PySem L2 PV PyProof.Rows
noncomputable def FH (K:PySem.W.Frag)(x:Str)(st:Stmt):Prop:=∃ (f:Addr) (oc kV dc pm cd ct:Value) (od an:Option Addr) (sl:Array (Option Value)),PySem.W.nsIn K mainGlobals x=some (some (.ref f))∧K.lookup f=some ⟨oc,od,.func (PySem.W.fnOf x x (GL st) (EF st) (Cv st) .none kV dc pm an cd ct),sl⟩∧PySem.W.codeIn K cd x=true∧PySem.W.keepIn K (.ref f)=true
theorem fh {K:PySem.W.Frag}{x:Str}{st:Stmt}{f:Addr}{oc kV dc pm cd ct:Value}{od an:Option Addr}{sl:Array (Option Value)}(a:PySem.W.nsIn K mainGlobals x=some (some (.ref f)))(l:K.lookup f=some ⟨oc,od,.func (PySem.W.fnOf x x (GL st) (EF st) (Cv st) .none kV dc pm an cd ct),sl⟩)(c:PySem.W.codeIn K cd x=true)(k:PySem.W.keepIn K (.ref f)=true):FH K x st:=⟨f,oc,kV,dc,pm,cd,ct,od,an,sl,a,l,c,k⟩
theorem FH.go {K:PySem.W.Frag}{x:Str}{st:Stmt}{h:Heap}{mg:Str->Option Value}(H:FH K x st)(X:K.In h)(G:h.Ns mainGlobals mg):∃ f fd,Fun K x x st f fd∧mg x=some (.ref f):=by
 obtain ⟨_,_,_,_,_,_,_,_,_,_,a,l,c,k⟩:=H
 exact ⟨_,_,Rv l c k,PySem.W.mg_of X G a⟩
set_option maxHeartbeats 0 in
theorem all_mk {l:PySem.W.OpenLaw}{w:World}{K:PySem.W.Frag}{h:Heap}{mg:Str->Option Value}{fa:Addr}(X:K.In h)(G:h.Ns mainGlobals mg)(hfa:mg "law"=some (.ref fa)){t1 t2:Tok}
  (h1:FH K "is_word" Gj) (h2:FH K "is_tuple" GC) (h3:FH K "is_rising" Fs) (h4:FH K "is_row" G9) (h5:FH K "row_with_key" E5) (h6:FH K "row_at" HY) (h7:FH K "table_of" FN) (h8:FH K "table_if_named" D2) (h9:FH K "is_row_or_none" Eu) (h10:FH K "is_part" Hr) (h11:FH K "is_change" ER) (h12:FH K "_law_hand" GS) (h13:FH K "_law_take" GD) (h14:FH K "_law_pick" GF) (h15:FH K "_law_words" Fu) (h16:FH K "_law_schema" EX) (h17:FH K "_law_filling" EC) (h18:FH K "_law_change" Eb) (h19:FH K "_law_row_fits" Em) (h20:FH K "_law_part_fits" DO) (h21:FH K "_law_fits" Fi) (h22:FH K "_law_odd" Hz) (h23:FH K "_law_put_in" FA) (h24:FH K "law" Ju)
  (z1:PySem.W.nsIn K mainGlobals "all"=some none) (z2:PySem.W.nsIn K mainGlobals "bool"=some none) (z3:PySem.W.nsIn K mainGlobals "int"=some none) (z4:PySem.W.nsIn K mainGlobals "isinstance"=some none) (z5:PySem.W.nsIn K mainGlobals "len"=some none) (z6:PySem.W.nsIn K mainGlobals "list"=some none) (z7:PySem.W.nsIn K mainGlobals "max"=some none) (z8:PySem.W.nsIn K mainGlobals "min"=some none) (z9:PySem.W.nsIn K mainGlobals "range"=some none) (z10:PySem.W.nsIn K mainGlobals "set"=some none) (z11:PySem.W.nsIn K mainGlobals "sorted"=some none) (z12:PySem.W.nsIn K mainGlobals "str"=some none) (z13:PySem.W.nsIn K mainGlobals "tuple"=some none) (z14:PySem.W.nsIn K mainGlobals "zip"=some none)
  (g1:PySem.W.nsIn K mainGlobals "LONGEST"=some (some (.int 8 t1))) (g2:PySem.W.nsIn K mainGlobals "SIGNS"=some (some (.str "abcdefghijklmnopqrstuvwxyz0123456789" t2))) :
  ∃ fd:FuncData,(∀ (s:Shared) (v:Value),BindsTo s fd ⟨[v],[]⟩ [("_law_script",v)])∧∀ base:Heap,K.In base->base.Ns mainGlobals mg->Ee l.prog w K mg base CX0 19 fa fd ["_law_script"] (spF ⟨K,l.prog,w⟩ K9 1):=by
 have T:Tx K mg:=⟨A4 X G z1,A4 X G z2,A4 X G z3,A4 X G z4,A4 X G z5,A4 X G z6,A4 X G z7,A4 X G z8,A4 X G z9,A4 X G z10,A4 X G z11,A4 X G z12,A4 X G z13,A4 X G z14,⟨t1,PySem.W.mg_of X G g1⟩,⟨t2,PySem.W.mg_of X G g2⟩⟩
 obtain ⟨_,_,kV,dc,pm,cd,ct,_,an,_,a,lk,c,k⟩:=h24
 cases hfa.symm.trans (PySem.W.mg_of X G a)
 refine ⟨PySem.W.fnOf "law" "law" (GL Ju) (EF Ju) (Cv Ju) .none kV dc pm an cd ct,λs v=>.of_eq rfl,λbase _ _=>?_⟩
 obtain ⟨_,_,F,m⟩:=h1.go X G
 have C1:=DD (P:=l.prog) (w:=w) (base:=base) F m (NR F T ) (F.binds λ_ _ _ _ _ _ us hl=>match us,hl with|[_],_=>rfl)
 obtain ⟨_,_,F,m⟩:=h2.go X G
 have C2:=DD (P:=l.prog) (w:=w) (base:=base) F m (MX F T ) (F.binds λ_ _ _ _ _ _ us hl=>match us,hl with|[_,_,_],_=>rfl)
 obtain ⟨_,_,F,m⟩:=h3.go X G
 have C3:=DD (P:=l.prog) (w:=w) (base:=base) F m (Mn F T ) (F.binds λ_ _ _ _ _ _ us hl=>match us,hl with|[_],_=>rfl)
 obtain ⟨_,_,F,m⟩:=h4.go X G
 have C4:=DD (P:=l.prog) (w:=w) (base:=base) F m (QA F T C2) (F.binds λ_ _ _ _ _ _ us hl=>match us,hl with|[_,_],_=>rfl)
 obtain ⟨_,_,F,m⟩:=h5.go X G
 have C5:=DD (P:=l.prog) (w:=w) (base:=base) F m (JD F T ) (F.binds λ_ _ _ _ _ _ us hl=>match us,hl with|[_,_,_],_=>rfl)
 obtain ⟨_,_,F,m⟩:=h6.go X G
 have C6:=DD (P:=l.prog) (w:=w) (base:=base) F m (P9 F T C5) (F.binds λ_ _ _ _ _ _ us hl=>match us,hl with|[_,_,_,_],_=>rfl)
 obtain ⟨_,_,F,m⟩:=h7.go X G
 have C7:=DD (P:=l.prog) (w:=w) (base:=base) F m (Na F T ) (F.binds λ_ _ _ _ _ _ us hl=>match us,hl with|[_,_],_=>rfl)
 obtain ⟨_,_,F,m⟩:=h8.go X G
 have C8:=DD (P:=l.prog) (w:=w) (base:=base) F m (Iv F T C1 C7) (F.binds λ_ _ _ _ _ _ us hl=>match us,hl with|[_,_],_=>rfl)
 obtain ⟨_,_,F,m⟩:=h9.go X G
 have C9:=DD (P:=l.prog) (w:=w) (base:=base) F m (Iw F T C4) (F.binds λ_ _ _ _ _ _ us hl=>match us,hl with|[_,_,_],_=>rfl)
 obtain ⟨_,_,F,m⟩:=h10.go X G
 have C10:=DD (P:=l.prog) (w:=w) (base:=base) F m (Oy F T C2 C8 C4 C9 C6) (F.binds λ_ _ _ _ _ _ us hl=>match us,hl with|[_,_,_],_=>rfl)
 obtain ⟨_,_,F,m⟩:=h11.go X G
 have C11:=DD (P:=l.prog) (w:=w) (base:=base) F m (MA F T C10 C3) (F.binds λ_ _ _ _ _ _ us hl=>match us,hl with|[_,_,_],_=>rfl)
 obtain ⟨_,_,F,m⟩:=h12.go X G
 have C12:=DD (P:=l.prog) (w:=w) (base:=base) F m (NH F T ) (F.binds λ_ _ _ _ _ _ us hl=>match us,hl with|[_,_],_=>rfl)
 obtain ⟨_,_,F,m⟩:=h13.go X G
 have C13:=DD (P:=l.prog) (w:=w) (base:=base) F m (Nz F T ) (F.binds λ_ _ _ _ _ _ us hl=>match us,hl with|[_,_],_=>rfl)
 obtain ⟨_,_,F,m⟩:=h14.go X G
 have C14:=DD (P:=l.prog) (w:=w) (base:=base) F m (Ny F T C13) (F.binds λ_ _ _ _ _ _ us hl=>match us,hl with|[_,_],_=>rfl)
 obtain ⟨_,_,F,m⟩:=h15.go X G
 have C15:=DD (P:=l.prog) (w:=w) (base:=base) F m (Mj F T C13 C14) (F.binds λ_ _ _ _ _ _ us hl=>match us,hl with|[_,_,_],_=>rfl)
 obtain ⟨_,_,F,m⟩:=h16.go X G
 have C16:=DD (P:=l.prog) (w:=w) (base:=base) F m (KQ F T C15 C13) (F.binds λ_ _ _ _ _ _ us hl=>match us,hl with|[_,_,_,_],_=>rfl)
 obtain ⟨_,_,F,m⟩:=h17.go X G
 have C17:=DD (P:=l.prog) (w:=w) (base:=base) F m (Ks F T C13 C14) (F.binds λ_ _ _ _ _ _ us hl=>match us,hl with|[_,_,_],_=>rfl)
 obtain ⟨_,_,F,m⟩:=h18.go X G
 have C18:=DD (P:=l.prog) (w:=w) (base:=base) F m (K4 F T C13 C14) (F.binds λ_ _ _ _ _ _ us hl=>match us,hl with|[_,_,_,_],_=>rfl)
 obtain ⟨_,_,F,m⟩:=h19.go X G
 have C19:=DD (P:=l.prog) (w:=w) (base:=base) F m (JF F T ) (F.binds λ_ _ _ _ _ _ us hl=>match us,hl with|[_,_],_=>rfl)
 obtain ⟨_,_,F,m⟩:=h20.go X G
 have C20:=DD (P:=l.prog) (w:=w) (base:=base) F m (IJ F T C19) (F.binds λ_ _ _ _ _ _ us hl=>match us,hl with|[_,_,_],_=>rfl)
 obtain ⟨_,_,F,m⟩:=h21.go X G
 have C21:=DD (P:=l.prog) (w:=w) (base:=base) F m (M4 F T C20) (F.binds λ_ _ _ _ _ _ us hl=>match us,hl with|[_,_,_],_=>rfl)
 obtain ⟨_,_,F,m⟩:=h22.go X G
 have C22:=DD (P:=l.prog) (w:=w) (base:=base) F m (Oi F T C14) (F.binds λ_ _ _ _ _ _ us hl=>match us,hl with|[_,_,_],_=>rfl)
 obtain ⟨_,_,F,m⟩:=h23.go X G
 have b:=F.binds (ps:=["_law_hand_here","_law_schema_here","_law_filling_here","_law_thing","_law_deep"]) λ_ _ _ _ _ _ us hl=>match us,hl with|[_,_,_,_,_],_=>rfl
 have C23:=DD (P:=l.prog) (w:=w) (base:=base) F m (HG F m b T C13 C22 14) b
 exact Xp (Rv lk c k) T C12 C16 C17 C18 C23 C11 C21
theorem NF {K:Zc}{th:List Addr}{H:Hp}:∀ ns:List Int,RepL K th H (ns.map D.int) (ns.map V.int)
 | []=>.nil
 | i::ns=>.cons rfl (NF ns)
theorem walk {l:PySem.W.OpenLaw}{q:Program}{loose:List Str}{XP:(Str->Option Value)->Heap->Prop}{YP:World->Heap->Prop}{d:DefRec}{K:Params->PySem.W.Frag}(hn:l.most=some 63)(hdf:d.params.defaults=[])
  (hY:∀ (w:World) (h:Heap),YP w h->(K w.params).In h)
  (F:∀ (w:World) (mg:Str->Option Value) (fa:Addr) (h:Heap),(K w.params).In h->h.Ns mainGlobals mg->mg d.name=some (.ref fa) ->
   ∃ fd:FuncData,(∀ (s:Shared) (u:Value),BindsTo s fd ⟨[u],[]⟩ [("_law_script",u)])∧∀ base:Heap,(K w.params).In base->base.Ns mainGlobals mg->Ee l.prog w (K w.params) mg base CX0 19 fa fd ["_law_script"] (spF ⟨K w.params,l.prog,w⟩ K9 1)) :
  PySem.W.WalkO q loose XP YP l.row.toRowW d [] (λf vs=>PySem.call f vs):=
 L2.Vk (n:=63) (k:=19) (x:="_law_script") (CX:=λ_=>CX0) (sp:=λw=>spF ⟨K w.params,l.prog,w⟩ K9 1) hn (by decide) hdf ⟨rfl,by decide,by decide,rfl⟩ hY F (λw H a ns hl _ hS=>by
  obtain ⟨mu',e⟩:=Vp ns
  refine ⟨[],[],[.lst (ns.map D.int)],⟨rfl,List.nodup_nil,λk a o e=>by simp at e⟩,.cons ?_ .nil,rfl,.bl true,mu',e,λth' H' _ _ v rv=>rv⟩
  unfold Rep
  refine ⟨a,ns.map V.int,rfl,?_,NF ns,by rw [Ag];exact AQ hl (by decide)⟩
  rcases hS with hS|hS
  ·exact .inl ⟨by simp,hS⟩
  ·exact .inr hS) λ_ _ _ _ _ z=>z
end PG
local macro_rules|`({ scope:=$a,locals:=$b,globals:=$c,cells:=[],code:=$d,frame:=some $_ })=>`({ scope:=$a,locals:=$b,globals:=$c,cells:=[],code:=$d,frame:=none })
open PySem PySem.W PyProof.Rows
set_option maxRecDepth 100000 in
set_option maxHeartbeats 0 in
theorem PySem.Challenge.cw_lookback_k09_changes_or_not_holds : PySem.Challenge.rw_lookback_k09_changes_or_not.Holds := by
 w_on;o_law;k_head;(case hw=>w_witness2)
 k_fill
 refine PG.walk (l:=PySem.Challenge.rw_lookback_k09_changes_or_not) rfl rfl (λw h Y=>PySem.W.kIn_of Y) ?F
 case F =>
  intro w mg fa h KX G hmg
  refine' PG.all_mk KX G hmg ?h1 ?h2 ?h3 ?h4 ?h5 ?h6 ?h7 ?h8 ?h9 ?h10 ?h11 ?h12 ?h13 ?h14 ?h15 ?h16 ?h17 ?h18 ?h19 ?h20 ?h21 ?h22 ?h23 ?h24 ?z1 ?z2 ?z3 ?z4 ?z5 ?z6 ?z7 ?z8 ?z9 ?z10 ?z11 ?z12 ?z13 ?z14 ?g1 ?g2
  case h1|h2|h3|h4|h5|h6|h7|h8|h9|h10|h11|h12|h13|h14|h15|h16|h17|h18|h19|h20|h21|h22|h23|h24=>(refine' PG.fh ?a ?l ?c ?k;(case a=>k_is);(case l=>k_is);(case c=>k_is);(case k=>k_is))
  (case z1=>k_is);(case z2=>k_is);(case z3=>k_is);(case z4=>k_is);(case z5=>k_is);(case z6=>k_is)
  (case z7=>k_is);(case z8=>k_is);(case z9=>k_is);(case z10=>k_is);(case z11=>k_is);(case z12=>k_is)
  (case z13=>k_is);(case z14=>k_is);(case g1=>k_is);(case g2=>k_is)
