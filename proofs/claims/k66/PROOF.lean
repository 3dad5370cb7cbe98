import PyProof.Rows.All
import Wide.All
import OpenK.AllK
import Wide.FinOn
import Lean
import PyProof.EqAt
import PyProof.EqKinds
import PyProof.TupleCall
import PySem.Challenge.RW_lookback_k66_books_or_not
set_option Elab.async false
set_option linter.all false
set_option compiler.extract_closed false
set_option maxRecDepth 100000
local macro_rules(kind:=Lean.Elab.Tactic.Ext.ext)|s=>return .node .none `Lean.Parser.Tactic.omega #[.atom .none "omega",.node .none `Lean.Parser.Tactic.optConfig #[.node .none `null #[]]]
local macro_rules|`(tactic|symm)=>`(tactic|decide +kernel)
local macro_rules|`(tactic|rfl')=>`(tactic|exact ⟨rfl,rfl,rfl,by decide +kernel,rfl,by decide +kernel,by decide +kernel⟩)
noncomputable section
def Aa:=@PySem.wpAny_bind
def Ab:=@Bool.and_eq_true
def Ac:=@PySem.wpAny_pure
def Ad:=@decide_eq_true_eq
def Ae:=@PySem.Heap.get?_push_of_some
def Af:=@List.length_map
def Ag:=@List.mem_singleton
def Ah:=@List.getElem?_eq_some_iff
def Ai:=@List.length_append
def Aj:=@List.mem_append
def Ak:=@List.mem_map
def Al:=@Nat.le_refl
def Am:=@List.mem_cons
def An:=@List.size_toArray
def Ao:=@List.all_eq_true
def Ap:=@List.mem_of_getElem?
def Aq:=@PySem.Heap.get?_push_size
def Ar:=@PySem.Heap.lt_size
def As:=@List.map_map
def Au:=@List.getElem?_eq_getElem
def Av:=@List.getElem?_map
def Aw:=@List.getElem?_append_left
def Ax:=@List.mem_append_right
def Ay:=@PySem.Heap.SameBut.update
def Az:=@Nat.lt_of_lt_of_le
def AA:=@Array.getElem?_toList
def AB:=@List.getElem?_set_ne
def AD:=@PySem.sizeLine_eq
def AE:=@List.not_mem_nil
def AF:=@Nat.ne_of_lt
def AG:=@Bool.false_eq_true
def AH:=@Array.getElem?_eq_getElem
def AI:=@PySem.wpAny_holding
def AJ:=@Bool.false_ne_true
def AK:=@List.map_append
def AL:=@Nat.le_trans
def AM:=@List.getD_eq_getElem?_getD
def AN:=@Option.some.inj
def AO:=@List.map_cons
def AQ:=@List.length_take
def AR:=@PySem.Heap.get?_update_self
def AS:=@List.mem_iff_getElem?
def AU:=@PyProof.Rows.slot_tuple_getitem
def AV:=@decide_eq_false
def AW:=@PySem.wpAny_newObj_type
def AX:=@List.nodup_iff_pairwise_ne
def AY:=@PySem.wpAny_call_entry
def AZ:=@if_false
def A0:=@Nat.zero_le
def A7:=@List.ext_getElem?
def A8:=@PyProof.Rows.boot_tuple
def A9:=@PySem.W.mg_none_of
def Ba:=@PySem.wpAny_callSpecial?_slot
def Bb:=@List.nodup_append
def Bc:=@List.mem_append_left
def Bd:=@Bool.and_self
def Be:=@PySem.W.kia_one
def Bf:=@List.nodup_cons
def Bh:=@PySem.boot_len
def Bi:=@Nat.lt_irrefl
def Bj:=@Nat.lt_succ_self
def Bk:=@or_false
def Bl:=@Bool.and_true
def Bm:=@PySem.Around.under_plainId
def Bn:=@List.getElem?_set_self
def Bo:=@PySem.wpAny_rule
def Bp:=@Int.emod_lt_of_pos
def Bq:=@PySem.codeAny_builtin
def Br:=@PySem.F.slot_dict_keyiterator_next
def Bs:=@List.getElem?_take_of_lt
def Bt:=@PySem.wpAny_truthy_bool
def Bu:=@Nat.lt_succ_of_lt
def Bv:=@List.mem_cons_of_mem
def Bw:=@decide_eq_true
def Bx:=@Nat.le_succ
def By:=@List.mem_of_mem_take
def Bz:=@Int.emod_nonneg
def BA:=@PySem.wpAny_setState_of
def BB:=@List.getElem?_eq_none
def BC:=@PySem.wpAny_setField
def BD:=@List.mem_filter
def BE:=@List.append_nil
def BF:=@PySem.wpAny_loadPart'
def BG:=@PySem.PassesOwn.never
def BH:=@List.length_drop
def BI:=@Bool.true_and
def BJ:=@Bool.false_and
def BK:=@List.getElem?_append_right
def BL:=@PySem.wpAny_typeOf
def BM:=@PySem.Heap.get?_update_other
def BN:=@Array.getElem?_eq_none
def BP:=@PySem.wpAny_dictEpoch
def BQ:=@List.getElem_mem
def BR:=@List.mem_range
def BS:=@PySem.Heap.size_push
def BU:=@PySem.wpAny_typeNameOfWhole_keyiter
def BV:=@Bool.and_false
def BW:=@List.getElem?_replicate
def BX:=@PySem.wpAny_dictEntries
def BY:=@beq_eq_false_iff_ne
def BZ:=@PySem.mem_of_lookup
def B0:=@PySem.Obj.isFreed_of_dict
def B3:=@PyProof.Rows.F.plain_set_update_loop
def B4:=@List.take_of_length_le
namespace L2
open PySem PySem.Spec PyProof.Rows
abbrev Key:=Sum Int Str
noncomputable def Xw:Key->Value->Bool
 | .inl k,v=>Value.isInt k v
 | .inr x,v=>Value.isStrOf x v
noncomputable def AcF (w:World):Key->Int
 | .inl k=>hashInt k
 | .inr x=>hashStr w x
theorem Ee:∀ {k:Key} {v:Value},Xw k v=true->(∃ i t,k=Sum.inl i∧v=Value.int i t)∨(∃ x t,k=Sum.inr x∧v=Value.str x t)
 | .inl i,v,h=>by
  obtain ⟨t,e⟩:=Value.isInt_shape (k:=i) (v:=v) h
  exact .inl ⟨i,t,rfl,e⟩
 | .inr x,v,h=>by
  obtain ⟨t,e⟩:=Value.isStrOf_shape (x:=x) (v:=v) h
  exact .inr ⟨x,t,rfl,e⟩
theorem X7 (a b:Int):decide ((Sum.inl a:Key)=Sum.inl b)=(a==b):=by
 by_cases e:a=b
 ·subst e;simp
 ·have h:¬ (Sum.inl a:Key)=Sum.inl b:=λq=>e (Sum.inl.inj q)
  rw [AV h]
  exact (BY.mpr e).symm
theorem YJ (a b:Str):decide ((Sum.inr a:Key)=Sum.inr b)=decide (a=b):=by
 by_cases e:a=b
 ·subst e;simp
 ·have h:¬ (Sum.inr a:Key)=Sum.inr b:=λq=>e (Sum.inr.inj q)
  rw [AV h,AV e]
theorem Yd (a:Int)(b:Str):decide ((Sum.inl a:Key)=Sum.inr b)=false:=AV (λq=>nomatch q)
theorem Yg (a:Str)(b:Int):decide ((Sum.inr a:Key)=Sum.inl b)=false:=AV (λq=>nomatch q)
def RF (prog:Program)(w:World):PySem.KeyKind prog w Key where
 is:=Xw
 hash:=AcF w
 inj:=λv a b ha hb=>by
  rcases Ee ha with ⟨i,t,rfl,rfl⟩|⟨x,t,rfl,rfl⟩
  ·rcases Ee hb with ⟨j,u,rfl,e⟩|⟨y,u,rfl,e⟩
   ·injection e with e1 _;rw [e1]
   ·exact nomatch e
  ·rcases Ee hb with ⟨j,u,rfl,e⟩|⟨y,u,rfl,e⟩
   ·exact nomatch e
   ·injection e with e1 _;rw [e1]
 byValue:=λk v h=>by
  rcases Ee h with ⟨i,t,rfl,rfl⟩|⟨x,t,rfl,rfl⟩<;>rfl
 pyHash:=λhv h=>by
  rcases Ee hv with ⟨i,t,rfl,rfl⟩|⟨x,t,rfl,rfl⟩
  ·exact wpAny_pyHash_int h
  ·exact wpAny_pyHash_str h
 eqBool:=λhu hv h=>by
  rcases Ee hu with ⟨i,t,rfl,rfl⟩|⟨x,t,rfl,rfl⟩
  ·rcases Ee hv with ⟨j,u,rfl,rfl⟩|⟨y,u,rfl,rfl⟩
   ·rw [X7] at h;exact wpAny_eqBool_int h
   ·rw [Yd] at h;exact SeqAt.EqAt.int_str i t y u _ _ _ _ h
  ·rcases Ee hv with ⟨j,u,rfl,rfl⟩|⟨y,u,rfl,rfl⟩
   ·rw [Yg] at h;exact SeqAt.EqAt.str_int x t j u _ _ _ _ h
   ·rw [YJ] at h;exact wpAny_eqBool_str h
 «strs»:=λk x t v h=>by
  rcases Ee h with ⟨i,u,rfl,e⟩|⟨y,u,rfl,e⟩
  ·exact nomatch e
  ·injection e with e1 _
   subst e1
   cases v<;>rfl
inductive V where
 | non|bl (b:Bool)|int (i:Int)|str (x:Str)|byt (b:Array UInt8)|flt (b:UInt64)|ref (a:Addr)|ty (n:String)
 deriving DecidableEq
def RelV:V->Value->Prop
 | .non,u=>u=Value.none
 | .bl b,u=>u=Value.bool b
 | .int i,u=>∃ t,u=Value.int i t
 | .str x,u=>∃ t,u=Value.str x t
 | .byt b,u=>∃ t,u=Value.bytes b t
 | .flt b,u=>∃ t,u=Value.float b t
 | .ref a,u=>u=Value.ref a
 | .ty n,u=>u=Value.type n
abbrev Vals:List V->List Value->Prop:=Paired RelV
theorem Vals.length {xs:List V}{us:List Value}(r:Vals xs us):xs.length=us.length:=Paired.length r
theorem Vals.get:∀ {xs:List V} {us:List Value} {i:Nat} {x:V},Vals xs us->xs[i]? = some x->∃ u,us[i]? = some u∧RelV x u
 | _,_,_,_,.nil,e=>by simp at e
 | _,_,0,_,.cons r _,e=>by simp at e;subst e;exact ⟨_,rfl,r⟩
 | _,_,i+1,x,.cons _ t,e=>by
  obtain ⟨u,h1,h2⟩:=Vals.get (i:=i) (x:=x) t (by simpa using e)
  exact ⟨u,by simpa using h1,h2⟩
theorem Vals.set {x:V}{u:Value}(r:RelV x u):∀ {xs:List V} {us:List Value} (i:Nat),Vals xs us->Vals (xs.set i x) (us.set i u)
 | _,_,_,.nil=>.nil
 | _,_,0,.cons _ t=>.cons r t
 | _,_,i+1,.cons q t=>.cons q (Vals.set r i t)
theorem Vals.append:∀ {xs ys:List V} {us ws:List Value},Vals xs us->Vals ys ws->Vals (xs++ys) (us++ws)
 | _,_,_,_,.nil,s=>s
 | _,_,_,_,.cons r t,s=>.cons r (Vals.append t s)
theorem Vals.take:∀ {xs:List V} {us:List Value} (n:Nat),Vals xs us->Vals (xs.take n) (us.take n)
 | _,_,0,_=>.nil
 | _,_,_+1,.nil=>.nil
 | _,_,n+1,.cons r t=>.cons r (Vals.take n t)
theorem Vals.drop:∀ {xs:List V} {us:List Value} (n:Nat),Vals xs us->Vals (xs.drop n) (us.drop n)
 | _,_,0,r=>r
 | _,_,_+1,.nil=>.nil
 | _,_,n+1,.cons _ t=>Vals.drop n t
def Yr:Option V->Option Value->Prop
 | some v,some u=>RelV v u
 | none,none=>True
 | _,_=>False
def KV {κ:Type}:List (κ×V)->List (κ×Value)->Prop:=Paired λ(p:κ×V) (q:κ×Value)=>p.1=q.1∧RelV p.2 q.2
noncomputable def kV:Key->V
 | .inl i=>.int i
 | .inr x=>.str x
inductive HO where
  | lst (xs:List V)
  | tup (xs:List V)
  | dK (kvs:List (Key×V))|dT (kvs:List (List Key×V))
  | set (S:Int->Bool) (n:Nat)
  | ins (C dx:Addr) (fs:List (Str×V))
  | own (x:Addr)
  | xd (fs:List (Str×V))
  | met (f x:Addr)
  | rng (lo hi:Int)
  | frz (o:Obj) (u:HO)
  | tbl (ps:Array Value)
  | ext (φ:Heap->Prop)
abbrev Hp:=Addr->Option HO
noncomputable def upd (H:Hp)(a:Addr)(o:HO):Hp:=λb=>if b=a then some o else H b
theorem Ey {H:Hp}{a:Addr}{o:HO}:upd H a o a=some o:=by unfold upd;rw [if_pos rfl]
theorem DE {H:Hp}{a b:Addr}{o:HO}(h:b≠a):upd H a o b=H b:=by unfold upd;rw [if_neg h]
theorem Dt {H:Hp}{a b:Addr}{o:HO}(h:H a=some o)(h':H b=none):a≠b:=by
 intro e;subst e;rw [h] at h';cases h'
section
variable (P:Program) (w:World)
def ObjOk (H:Hp)(h:Heap)(a:Addr):HO->Prop
 | .lst xs=>xs.length≤sizeLine∧∃ (its:List Value) (n:Nat),Vals xs its∧h.get? a=some { cls:=.type "list",data:=.seq its.toArray n }
 | .tup xs=>(xs.length≤sizeLine∧∃ o,h.get? a=some o∧o.dict=none)∧∃ its:List Value,Vals xs its∧IsTup h a its.toArray
 | .dK kvs=>kvs.length≤sizeLine∧(a==sysModules)=false∧∃ vs,KV kvs vs∧h.DictOf (RF P w) a vs
 | .dT kvs=>kvs.length≤sizeLine∧(a==sysModules)=false∧∃ xs:List (List Key×Addr×Value),
   Paired (λ(p:List Key×V) (q:List Key×Addr×Value)=>p.1=q.1∧H q.2.1=some (.tup (p.1.map kV))∧RelV p.2 q.2.2) kvs xs ∧
   ∃ o es ep,h.get? a=some o∧o.ExactDict∧o.data=.dict es ep∧es.toList=xs.map (entryOfKey (tupleKind (RF P w)))∧(xs.map (·.1)).Nodup
 | .set S n=>h.SetOf (intKind P w) a S n
 | .ins C dx fs=>H dx=some (.own a)∧fs.length≤1000∧dx≠a∧h.get? a=some (PySem.W.instObj C dx) ∧
   ∃ mA,h.Ns1 dx mA∧(∀ f,Yr (fs.lookup f) (mA f))∧PySem.Within mA (fs.map (·.1))
 | .own _=>∃ o,h.get? a=some o
 | .xd fs=>∃ mA,h.Ns1 a mA∧∀ f,Yr (fs.lookup f) (mA f)
 | .rng lo hi=>∃ t u v,h.get? a=some { cls:=.type "range",data:=.fields #[.int lo t,.int hi u,.int 1 v] }
 | .frz o u=>h.get? a=some o∧ObjOk H h a u
 | .tbl ps=>h.get? a=some { cls:=.none,data:=.fields ps }
 | .met f x=>h.get? a=some (PySem.W.methodObj (.ref f) (.ref x))
 | .ext φ=>φ h∧(∃ o,h.get? a=some o)∧∀ h1 h2:Heap,φ h1->(∀ o,h1.get? a=some o->h2.get? a=some o)->φ h2
def HOk (H:Hp)(h:Heap):Prop:=∀ a o,H a=some o->ObjOk P w H h a o
end
section
variable {P:Program} {w:World} {H H':Hp} {h h':Heap} {a:Addr} {o:HO}
theorem ObjOk.lt (x:ObjOk P w H h a o):a<h.objs.size:=by
 cases o with
 | lst xs=>obtain ⟨_,_,_,_,e⟩:=x;exact Ar e
 | tup xs=>obtain ⟨_,_,_,p⟩:=x;exact p.lt
 | dK kvs=>obtain ⟨_,_,_,_,o,_,_,e,_⟩:=x;exact Ar e
 | dT kvs=>obtain ⟨_,_,_,_,o,_,_,e,_⟩:=x;exact Ar e
 | set S n=>obtain ⟨o,_,_,_,e,_⟩:=x;exact Ar e
 | ins C dx fs=>obtain ⟨_,_,_,e,_⟩:=x;exact Ar e
 | own y=>obtain ⟨_,e⟩:=x;exact Ar e
 | xd fs=>obtain ⟨_,⟨_,_,_,e,_⟩,_⟩:=x;exact Ar e
 | rng lo hi=>obtain ⟨_,_,_,e⟩:=x;exact Ar e
 | frz ob u=>obtain ⟨e,_⟩:=x;exact Ar e
 | tbl ps=>exact Ar (show h.get? a=some _ from x)
 | met f y=>exact Ar (show h.get? a=some _ from x)
 | ext φ=>obtain ⟨_,⟨_,e⟩,_⟩:=x;exact Ar e
theorem Paired.mapP {α β:Type}{F G:α->β->Prop}:∀ {l₁:List α} {l₂:List β},Paired F l₁ l₂->(∀ a b,F a b->G a b)->Paired G l₁ l₂
 | _,_,.nil,_=>.nil
 | _,_,.cons r t,f=>.cons (f _ _ r) (Paired.mapP t f)
theorem ObjOk.stay (x:ObjOk P w H h a o)(k:∀ b u,(b=a∨H b=some (.own a))->h.get? b=some u->h'.get? b=some u)
  (ho:∀ b,H b=some (.own a)->H' b=some (.own a)) (ht:∀ b xs,H b=some (.tup xs)->H' b=some (.tup xs)):ObjOk P w H' h' a o:=by
 induction o with
 | lst xs=>obtain ⟨z,its,n,r,e⟩:=x;exact ⟨z,its,n,r,k _ _ (.inl rfl) e⟩
 | tup xs=>obtain ⟨⟨z,o1,z1,z2⟩,its,r,ob,e,c⟩:=x;exact ⟨⟨z,o1,k _ _ (.inl rfl) z1,z2⟩,its,r,ob,k _ _ (.inl rfl) e,c⟩
 | dK kvs=>obtain ⟨z,y,vs,r,ob,es,ep,e,c⟩:=x;exact ⟨z,y,vs,r,ob,es,ep,k _ _ (.inl rfl) e,c⟩
 | dT kvs =>
  obtain ⟨z,y,xs,r,ob,es,ep,e,c⟩:=x
  exact ⟨z,y,xs,Paired.mapP r λp q z=>⟨z.1,ht _ _ z.2.1,z.2.2⟩,ob,es,ep,k _ _ (.inl rfl) e,c⟩
 | set S n=>obtain ⟨ob,es,ep,t,e,c⟩:=x;exact ⟨ob,es,ep,t,k _ _ (.inl rfl) e,c⟩
 | ins C dx fs =>
  obtain ⟨d,z,ne,e,mA,⟨od,es,ep,e2,c⟩,r⟩:=x
  exact ⟨ho _ d,z,ne,k _ _ (.inl rfl) e,mA,⟨od,es,ep,k _ _ (.inr d) e2,c⟩,r⟩
 | own y=>obtain ⟨ob,e⟩:=x;exact ⟨ob,k _ _ (.inl rfl) e⟩
 | xd fs=>obtain ⟨mA,⟨od,es,ep,e,c⟩,r⟩:=x;exact ⟨mA,⟨od,es,ep,k _ _ (.inl rfl) e,c⟩,r⟩
 | rng lo hi=>obtain ⟨t,u,v,e⟩:=x;exact ⟨t,u,v,k _ _ (.inl rfl) e⟩
 | frz ob u ih=>obtain ⟨e,q⟩:=x;exact ⟨k _ _ (.inl rfl) e,ih q⟩
 | tbl ps =>
  have e:h.get? a=some { cls:=.none,data:=.fields ps }:=x
  show h'.get? a=some { cls:=.none,data:=.fields ps }
  exact k a _ (.inl rfl) e
 | met f y =>
  have e:h.get? a=some (PySem.W.methodObj (.ref f) (.ref y)):=x
  show h'.get? a=some (PySem.W.methodObj (.ref f) (.ref y))
  exact k a _ (.inl rfl) e
 | ext φ=>obtain ⟨p,⟨o,e⟩,st⟩:=x;exact ⟨st _ _ p λo q=>k _ _ (.inl rfl) q,⟨o,k _ _ (.inl rfl) e⟩,st⟩
theorem HOk.lt (x:HOk P w H h)(e:H a=some o):a<h.objs.size:=(x a o e).lt
theorem HOk.fresh (x:HOk P w H h)(e:h.objs.size≤a):H a=none:=by
 cases q:H a with
 | none=>rfl
 | some u=>exact absurd (Az (x.lt q) e) (Bi _)
theorem HOk.kept (x:HOk P w H h)(k:∀ b u,h.get? b=some u->h'.get? b=some u):HOk P w H h':=λa o e =>
 (x a o e).stay (λb u _ q=>k b u q) (λ_ q=>q) λ_ _ q=>q
theorem HOk.laid (x:HOk P w H h)(k:∀ b u,h.get? b=some u->h'.get? b=some u)(hp:h.objs.size≤a)(new:ObjOk P w (upd H a o) h' a o):HOk P w (upd H a o) h':=λb u e=>by
 have hn:=x.fresh hp
 by_cases hb:b=a
 ·subst hb;rw [Ey] at e;cases e;exact new
 ·rw [DE hb] at e
  exact (x b u e).stay (λc v _ q=>k c v q) (λc q=>by rw [DE (Dt q hn)];exact q) λc xs q=>by rw [DE (Dt q hn)];exact q
end
def Rd (H:Hp)(a:Addr)(u:HO):Prop:=H a=some u∨∃ o,H a=some (.frz o u)
theorem Rd.ok {P:Program}{w:World}{H:Hp}{h:Heap}{a:Addr}{u:HO}(r:Rd H a u)(x:HOk P w H h):ObjOk P w H h a u:=by
 rcases r with r|⟨o,r⟩
 ·exact x a u r
 ·obtain ⟨_,q⟩:=x a _ r
  exact q
def Mut:Option HO->Prop
 | some (.lst _)=>True
 | some (.dK _)=>True
 | some (.dT _)=>True
 | some (.set _ _)=>True
 | some (.ins _ _ _)=>True
 | some (.ext _)=>True
 | _=>False
section
variable {P:Program} {w:World} {H:Hp} {h h':Heap} {x e:Addr} {o':HO}
theorem HOk.write (ok:HOk P w H h)(mu:Mut (H x))(he:e=x∨H e=some (.own x))(k:∀ b u,b≠e->h.get? b=some u->h'.get? b=some u)(heo:∃ u,h'.get? e=some u)
  (new:ObjOk P w (upd H x o') h' x o'):HOk P w (upd H x o') h':=λb u q=>by
 have nown:∀ c y,H c=some (.own y)->c≠x:=λc y r z=>by subst z;rw [r] at mu;exact mu
 have ntup:∀ c xs,H c=some (.tup xs)->c≠x:=λc xs r z=>by subst z;rw [r] at mu;exact mu
 by_cases hb:b=x
 ·subst hb;rw [Ey] at q;cases q;exact new
 ·rw [DE hb] at q
  by_cases hbe:b=e
  ·have q':H b=some (.own x):=by
    rcases he with z|z
    ·exact absurd (hbe.trans z) hb
    ·rw [hbe];exact z
   rw [q] at q';cases q'
   obtain ⟨v,hv⟩:=heo
   exact ⟨v,by rw [hbe];exact hv⟩
  ·refine (ok b u q).stay (λc v hc r=>k c v ?_ r) (λc r=>by rw [DE (nown c b r)];exact r) λc xs r=>by rw [DE (ntup c xs r)];exact r
   rcases hc with rfl|hc
   ·exact hbe
   ·rintro rfl
    rcases he with z|z
    ·exact nown c b hc z
    ·rw [hc] at z;cases z;exact hb rfl
end
structure Un (fs ex:List Addr) (H H':Hp) (h h':Heap):Prop where
 keep:∀ b o,h.get? b=some o->H b=none->b∉fs->b∉ex->h'.get? b=some o
 slot:∀ b o,h.get? b=some o->H b=none->b∈fs->b∉ex->∃ sl,h'.get? b=some { o with slots:=sl }
 free:∀ b o,h.get? b=some o->H b=none->b∉ex->H' b=none
 there:∀ b o,h.get? b=some o->b∉ex->∃ o',h'.get? b=some o'
 tups:∀ b xs,H b=some (.tup xs)->H' b=some (.tup xs)
 frzs:∀ b o u,H b=some (.frz o u)->H' b=some (.frz o u)
 tbls:∀ b ps,H b=some (.tbl ps)->∃ more,H' b=some (.tbl (ps++more))
section
variable {fs fs' ex ex':List Addr} {H H1 H2:Hp} {h h1 h2 h':Heap} {a x e:Addr} {o:HO}
theorem Un.any (u:Un fs ex H H1 h h1){b:Addr}{ob:Obj}(q:h.get? b=some ob)(n:H b=none)(hx:b∉ex):∃ sl,h1.get? b=some { ob with slots:=sl }:=by
 by_cases hb:b∈fs
 ·exact u.slot b ob q n hb hx
 ·exact ⟨ob.slots,u.keep b ob q n hb hx⟩
theorem Un.kept (k:∀ b u,h.get? b=some u->h'.get? b=some u):Un fs ex H H h h':=
 ⟨λb ob q _ _ _=>k b ob q,λb ob q _ _ _=>⟨ob.slots,k b ob q⟩,λ_ _ _ n _=>n,λb ob q _=>⟨ob,k b ob q⟩,λ_ _ q=>q,λ_ _ _ q=>q,λ_ ps q=>⟨#[],by rw [q];simp⟩⟩
theorem Un.refl:Un fs ex H H h h:=Un.kept λ_ _ q=>q
theorem Un.laid (k:∀ b u,h.get? b=some u->h'.get? b=some u)(hp:h.objs.size≤a)(hn:H a=none):Un fs ex H (upd H a o) h h' where
 keep:=λb u q _ _ _=>k b u q
 slot:=λb u q _ _ _=>⟨u.slots,k b u q⟩
 free:=λb u q n _=>by rw [DE (AF (Az (Ar q) hp))];exact n
 there:=λb u q _=>⟨u,k b u q⟩
 tups:=λb xs q=>by rw [DE (Dt q hn)];exact q
 frzs:=λb u xs q=>by rw [DE (Dt q hn)];exact q
 tbls:=λb ps q=>⟨#[],by rw [DE (Dt q hn),q];simp⟩
theorem Un.write (mu:Mut (H x))(he:e=x∨H e=some (.own x))(k:∀ b u,b≠e->h.get? b=some u->h'.get? b=some u)(heo:∃ u,h'.get? e=some u):Un fs ex H (upd H x o) h h':=by
 have hx:∀ b,H b=none->b≠x:=λb n z=>by subst z;rw [n] at mu;exact mu
 have hb:∀ b,H b=none->b≠e:=λb n z=>by
  subst z
  rcases he with r|r
  ·exact hx b n r
  ·rw [n] at r;cases r
 have hm:∀ b u,H b=some u->¬ Mut (some u)->b≠x:=λb u q nm z=>by subst z;rw [q] at mu;exact nm mu
 refine ⟨λb u q n _ _=>k b u (hb b n) q,λb u q n _ _=>⟨u.slots,k b u (hb b n) q⟩,λb u q n _=>by rw [DE (hx b n)];exact n,λb u q _=>?_,
  λb xs q=>by rw [DE (hm b _ q λz=>z)];exact q,λb u xs q=>by rw [DE (hm b _ q λz=>z)];exact q,λb ps q=>⟨#[],by rw [DE (hm b _ q λz=>z),q];simp⟩⟩
 by_cases hbe:b=e
 ·subst hbe;exact heo
 ·exact ⟨u,k b u hbe q⟩
end
noncomputable def trk (h:Heap)(H:Hp):List Addr:=(List.range h.objs.size).filter λa=>(H a).isSome
def NY (h:Heap)(H:Hp):Heap:=PySem.W.hideAll h (trk h H)
theorem SO (h:Heap)(H:Hp):(NY h H).objs.size=h.objs.size:=PySem.W.hideAll_size _ _
theorem Tj {h:Heap}{H:Hp}{b:Addr}{o:Obj}(e:h.get? b=some o)(n:H b=none):(NY h H).get? b=some o:=
 PySem.W.hideAll_get _ e λhm=>by
  have q:(H b).isSome=true:=(BD.mp hm).2
  rw [n] at q;simp at q
theorem VQ {h:Heap}{H:Hp}{b:Addr}{o:Obj}(e:(NY h H).get? b=some o):h.get? b=some o∧H b=none:=by
 have e':h.get? b=some o:=PySem.W.of_hideAll (trk h H) e
 refine ⟨e',?_⟩
 cases q:H b with
 | none=>rfl
 | some x =>
  have hm:b∈trk h H:=BD.mpr ⟨BR.mpr (Ar e'),by simp [q]⟩
  have z:(NY h H).get? b=none:=PySem.W.hideAll_none (trk h H) hm
  rw [z] at e;cases e
noncomputable def Vz (g h:Heap)(L:Addr):List (Addr×Obj):=(List.range h.objs.size).filterMap λa=>if a=L∨(g.get? a).isSome=true then none else (h.get? a).map λo=>(a,o)
noncomputable def rest (g h:Heap)(L d:Addr):List (Addr×Obj):=(Vz g h L).filter λp=>decide (p.1≠d)
structure Mod (K:PySem.W.Frag) (mg:Str->Option Value) (base:Heap):Prop where
 kin:K.In base
 glob:base.Ns mainGlobals mg
 blt:∃ mb,base.Ns builtinsNs mb∧∀ x:Str,x≠"__name__"->mb x=bootBuiltins x
 nolimit:base.NoLimit
structure Cx where
 prog:Program
 w:World
 K:PySem.W.Frag
 mg:Str->Option Value
 base:Heap
 A:Around
 N:List Str
 s₀:Shared
 H₀:Hp
 env:Env
 outer:List Env
 stack:List Env
 ex:List Addr
 fn:Str->Bool
 calm:Bool
 pn:List (Addr×Obj)
 xe:Value->Shared->Prop
noncomputable def frs (l:List Env):List Addr:=l.filterMap (·.frame)
abbrev Cx.fs (X:Cx):List Addr:=frs X.outer
def Vis (sc:Scope)(x:Str):Prop:=sc.names.lookup x=some .local∨sc.names.lookup x=some .cell∨sc.names.lookup x=some .free
def Loc (sc:Scope)(x:Str):Prop:=sc.names.lookup x=some .local∨sc.names.lookup x=some .cell
def Look (env:Env)(h:Heap)(m:Str->Option Value)(x:Str)(u:Value):Prop:=
 (env.kindOf x=some .local∧m x=some u)∨((env.kindOf x=some .cell∨env.kindOf x=some .free)∧∃ c,env.cells.lookup x=some c∧h.IsCell c (some u))
structure Cx.Ok (X:Cx):Prop where
 mod:Mod X.K X.mg X.base
 kind:X.env.scope.kind=.function
 glob:X.env.globals=mainGlobals
 blt:X.env.builtins=builtinsNs
 above:X.s₀.heap.objs.size≤X.env.locals
 inj:∀ x y c,X.env.cells.lookup x=some c->X.env.cells.lookup y=some c->x=y
 has:∀ x,(X.env.kindOf x=some .cell∨X.env.kindOf x=some .free)->∃ c,X.env.cells.lookup x=some c
 cab:∀ x c,X.fn x=true->X.env.cells.lookup x=some c->X.s₀.heap.objs.size≤c
 hd:X.calm=true->X.A.handled=none
 frames:X.A.frames=some X.stack
 stk:X.stack=X.outer∨(X.stack=X.env::X.outer∧X.env.frame=some X.env.locals)
 exf:∀ b∈X.ex,b≠X.env.locals∧∀ x c,X.env.cells.lookup x=some c->c≠b
 bs:∀ b o,X.base.get? b=some o->X.s₀.heap.get? b=some o∧X.H₀ b=none
 bsz:X.base.objs.size≤X.s₀.heap.objs.size
 noex:∀ b o,X.base.get? b=some o->b∉X.ex
 exfs:∀ b∈X.ex,b∉X.fs
 funs:X.s₀.heap.FunFrames X.base X.outer
 frf:∀ b∈X.fs,X.H₀ b=none
structure Inv (X:Cx) (pins:List (Addr×Obj)) (σ:List (Option V)) (H:Hp) (s:Shared):Prop where
 ok:X.Ok
 os:s.os=X.s₀.os
 bare:AllBare s.gens
 base:Un X.fs X.ex X.H₀ H X.s₀.heap s.heap
 loc:∃ m,s.heap.Ns X.env.locals m∧∀ (i:Nat) (x:Str) (v:V),X.N[i]? = some x->σ[i]? = some (some v)->Vis X.env.scope x->∃ u,RelV v u∧Look X.env s.heap m x u
 cell:∀ x c,X.env.cells.lookup x=some c->∃ v,s.heap.IsCell c v
 free:H X.env.locals=none
 freeC:∀ x c,X.env.cells.lookup x=some c->H c=none
 pin:∀ p∈X.pn++pins,s.heap.get? p.1=some p.2∧H p.1=none∧p.1≠X.env.locals∧p.1∉X.fs∧∀ v,p.2.data≠.cell v
 hok:HOk X.prog X.w H s.heap
 len:σ.length=X.N.length
section
variable {X:Cx} {pins:List (Addr×Obj)} {σ:List (Option V)} {H H':Hp} {s:Shared} {h':Heap}
theorem Cx.Ok.nofr (ok:X.Ok){b:Addr}{o:Obj}(e:X.base.get? b=some o):b∉X.fs:=λhb=>by
 have:=(ok.funs.mem hb).1
 rw [e] at this;cases this
theorem Inv.bs (I:Inv X pins σ H s):∀ b o,X.base.get? b=some o->s.heap.get? b=some o∧H b=none:=λb o e =>
 ⟨I.base.keep b o (I.ok.bs b o e).1 (I.ok.bs b o e).2 (I.ok.nofr e) (I.ok.noex b o e),I.base.free b o (I.ok.bs b o e).1 (I.ok.bs b o e).2 (I.ok.noex b o e)⟩
theorem Inv.bk (I:Inv X pins σ H s):∀ b o,X.base.get? b=some o->s.heap.get? b=some o:=λb o e=>(I.bs b o e).1
theorem Inv.mod (I:Inv X pins σ H s):Mod X.K X.mg X.base:=I.ok.mod
theorem Inv.kIn (I:Inv X pins σ H s):X.K.In s.heap:=I.ok.mod.kin.keeps I.bk
theorem Inv.fr (I:Inv X pins σ H s):∃ m,Fr X.base X.env.locals s.heap m:=
 let ⟨m,hn,_⟩:=I.loc
 ⟨m,hn,I.bk,AL I.ok.bsz I.ok.above⟩
theorem Inv.lt (I:Inv X pins σ H s):X.env.locals<s.heap.objs.size:=let ⟨_,hn,_⟩:=I.loc;hn.lt
theorem Inv.sz (I:Inv X pins σ H s):X.s₀.heap.objs.size≤s.heap.objs.size:=AL I.ok.above (Nat.le_of_lt I.lt)
theorem Inv.nofs (I:Inv X pins σ H s){a:Addr}(h:s.heap.objs.size≤a):a∉X.fs:=λhb=>by
 obtain ⟨_,o,ho,_⟩:=I.ok.funs.mem hb
 exact absurd (Az (Ar ho) (AL I.sz h)) (Bi _)
theorem Inv.cne (I:Inv X pins σ H s):∀ x c,X.env.cells.lookup x=some c->c≠X.env.locals:=λx c e z=>by
 obtain ⟨v,o,ho,hd⟩:=I.cell x c e
 obtain ⟨m,⟨o',es,ep,ho',hd',_⟩,_⟩:=I.loc
 rw [z,ho'] at ho;cases ho;rw [hd'] at hd;cases hd
theorem Inv.funs (I:Inv X pins σ H s):s.heap.FunFrames X.base X.outer:=by
 have all:∀ (l:List Env),(∀ b∈frs l,b∈X.fs)->X.s₀.heap.FunFrames X.base l->s.heap.FunFrames X.base l:=by
  intro l
  induction l with
  | nil=>intro _ _;trivial
  | cons env r ih =>
   intro hs hl
   obtain ⟨hk,⟨L,o,hf,hn,ho,hd⟩,hr⟩:=hl
   have hL:L∈X.fs:=hs L (by unfold frs;rw [List.filterMap_cons,hf];exact List.mem_cons_self)
   obtain ⟨sl,e⟩:=I.base.slot L o ho (I.ok.frf L hL) hL λz=>I.ok.exfs L z hL
   exact ⟨hk,⟨L,_,hf,hn,e,hd⟩,ih (λb hb=>hs b (by unfold frs;rw [List.filterMap_cons,hf];exact Bv _ hb)) hr⟩
 exact all X.outer (λ_ hb=>hb) I.ok.funs
theorem Inv.stack (I:Inv X pins σ H s):s.heap.FunFrames X.base X.stack:=by
 rcases I.ok.stk with e|⟨e,hf⟩
 ·rw [e];exact I.funs
 ·rw [e]
  obtain ⟨m,hn,_⟩:=I.loc
  refine .cons (by rw [I.ok.kind];decide) hf hn ?_ I.funs
  exact Heap.get?_none_of_le (AL I.ok.bsz I.ok.above)
theorem Inv.stkSub (I:Inv X pins σ H s):∀ b∈frs X.stack,b∈X.env.locals::X.fs:=λb hb=>by
 rcases I.ok.stk with e|⟨e,hf⟩
 ·rw [e] at hb;exact Bv _ hb
 ·rw [e] at hb
  unfold frs at hb
  rw [List.filterMap_cons,hf] at hb
  exact hb
theorem Inv.stkFree (I:Inv X pins σ H s):∀ b∈frs X.stack,H b=none:=λb hb=>by
 rcases Am.mp (I.stkSub b hb) with e|hb
 ·rw [e];exact I.free
 ·obtain ⟨_,o,ho,_⟩:=I.ok.funs.mem hb
  exact I.base.free b o ho (I.ok.frf b hb) λz=>I.ok.exfs b z hb
theorem Inv.step {g':Array GenState}{t':Nat}{d':Drawn}{ch:List Addr}(I:Inv X pins σ H s)
  (hch:∀ b∈ch,(b∈X.ex∨X.s₀.heap.objs.size≤b)∧b≠X.env.locals∧(∀ x c,X.env.cells.lookup x=some c->c≠b)∧∀ p∈X.pn++pins,p.1≠b)
  (keep:∀ b o,b≠X.env.locals->b∉X.fs->b∉ch->s.heap.get? b=some o->H b=none->h'.get? b=some o)
  (slot:∀ b o,b≠X.env.locals->b∈X.fs->b∉ch->s.heap.get? b=some o->H b=none->∃ sl,h'.get? b=some { o with slots:=sl }) (free:∀ b o,b∉ch->s.heap.get? b=some o->H b=none->H' b=none)
  (there:∀ b o,b∉ch->s.heap.get? b=some o->∃ o',h'.get? b=some o')
  (tups:∀ b xs,H b=some (.tup xs)->H' b=some (.tup xs)) (frzs:∀ b o u,H b=some (.frz o u)->H' b=some (.frz o u)) (tbls:∀ b ps,H b=some (.tbl ps)->∃ more,H' b=some (.tbl (ps++more)))
  (ns:∀ m,s.heap.Ns X.env.locals m->h'.Ns X.env.locals m) (hok:HOk X.prog X.w H' h') (hg:AllBare g') :
  Inv X pins σ H' { s with heap:=h',gens:=g',drawn:=d',toks:=t' }:=by
 have neL:∀ b o,X.s₀.heap.get? b=some o->b≠X.env.locals:=λb o e=>AF (Az (Ar e) I.ok.above)
 have neC:∀ b o,X.s₀.heap.get? b=some o->b∉X.ex->b∉ch:=λb o e hx hb=>by
  rcases (hch b hb).1 with z|z
  ·exact hx z
  ·exact absurd (Az (Ar e) z) (Bi _)
 have cellK:∀ x c,X.env.cells.lookup x=some c->∀ v,s.heap.IsCell c v->h'.IsCell c v:=λx c e v ⟨o,ho,hd⟩=>by
  have nch:c∉ch:=λz=>(hch c z).2.2.1 x c e rfl
  by_cases hc:c∈X.fs
  ·obtain ⟨sl,q⟩:=slot c o (I.cne x c e) hc nch ho (I.freeC x c e)
   exact ⟨_,q,hd⟩
  ·exact ⟨o,keep c o (I.cne x c e) hc nch ho (I.freeC x c e),hd⟩
 refine ⟨I.ok,I.os,hg,⟨λb o e n hb hx=>?_,λb o e n hb hx=>?_,λb o e n hx=>?_,λb o e hx=>?_,λb xs e=>tups b xs (I.base.tups b xs e),λb o xs e=>frzs b o xs (I.base.frzs b o xs e),λb ps e=>?_⟩,?_,λx c e=>?_,?_,λx c e=>?_,λp hp=>?_,hok,I.len⟩
 ·exact keep b o (neL b o e) hb (neC b o e hx) (I.base.keep b o e n hb hx) (I.base.free b o e n hx)
 ·obtain ⟨sl,e1⟩:=I.base.slot b o e n hb hx
  obtain ⟨sl',e2⟩:=slot b _ (neL b o e) hb (neC b o e hx) e1 (I.base.free b o e n hx)
  exact ⟨sl',e2⟩
 ·obtain ⟨o',e1⟩:=I.base.there b o e hx
  exact free b o' (neC b o e hx) e1 (I.base.free b o e n hx)
 ·obtain ⟨o',e1⟩:=I.base.there b o e hx
  exact there b o' (neC b o e hx) e1
 ·obtain ⟨m1,e1⟩:=I.base.tbls b ps e
  obtain ⟨m2,e2⟩:=tbls b _ e1
  exact ⟨m1++m2,by rw [e2,Array.append_assoc]⟩
 ·obtain ⟨m,hn,hl⟩:=I.loc
  refine ⟨m,ns m hn,λi x v e1 e2 e3=>?_⟩
  obtain ⟨u,r,l⟩:=hl i x v e1 e2 e3
  refine ⟨u,r,?_⟩
  rcases l with l|⟨k,c,e,z⟩
  ·exact .inl l
  ·exact .inr ⟨k,c,e,cellK x c e _ z⟩
 ·obtain ⟨v,z⟩:=I.cell x c e
  exact ⟨v,cellK x c e v z⟩
 ·obtain ⟨m,⟨o,_,_,ho,_⟩,_⟩:=I.loc
  exact free _ o (λz=>(hch _ z).2.1 rfl) ho I.free
 ·obtain ⟨v,o,ho,hd⟩:=I.cell x c e
  exact free c o (λz=>(hch c z).2.2.1 x c e rfl) ho (I.freeC x c e)
 ·obtain ⟨e,n,ne,nf,d⟩:=I.pin p hp
  have nch:p.1∉ch:=λz=>(hch p.1 z).2.2.2 p hp rfl
  exact ⟨keep p.1 p.2 ne nf nch e n,free p.1 p.2 nch e n,ne,nf,d⟩
theorem Inv.un {t':Nat}(I:Inv X pins σ H s)(u:Un X.fs [] H H' s.heap h')(hok:HOk X.prog X.w H' h'):Inv X pins σ H' { s with heap:=h',toks:=t' }:=by
 obtain ⟨m,⟨o,es,ep,ho,r⟩,_⟩:=id I.loc
 obtain ⟨sl,hL⟩:=u.any ho I.free (by simp)
 exact I.step (g':=s.gens) (d':=s.drawn) (ch:=[]) (λ_ z=>nomatch z) (λb o _ hb _ e n=>u.keep b o e n hb (by simp)) (λb o _ hb _ e n=>u.slot b o e n hb (by simp)) (λb o _ e n=>u.free b o e n (by simp)) (λb o _ e=>u.there b o e (by simp)) u.tups u.frzs u.tbls (λm' hm=>by
  obtain ⟨o',es',ep',ho',r'⟩:=hm
  rw [ho] at ho';cases ho'
  exact ⟨_,es',ep',hL,r'⟩) hok I.bare
theorem Inv.call {g':Array GenState}{t':Nat}{d':Drawn}{ch:List Addr}(I:Inv X pins σ H s)(u:Un (frs X.stack) ch H H' s.heap h')(hok:HOk X.prog X.w H' h')(hg:AllBare g')
  (hch:∀ b∈ch,(b∈X.ex∨X.s₀.heap.objs.size≤b)∧b≠X.env.locals∧(∀ x c,X.env.cells.lookup x=some c->c≠b)∧∀ p∈X.pn++pins,p.1≠b) :
  Inv X pins σ H' { s with heap:=h',gens:=g',drawn:=d',toks:=t' }:=by
 obtain ⟨m,⟨o,es,ep,ho,r⟩,_⟩:=id I.loc
 obtain ⟨sl,hL⟩:=u.any ho I.free λz=>(hch _ z).2.1 rfl
 exact I.step (ch:=ch) hch (λb o hL hb hc e n=>u.keep b o e n (λz=>(Am.mp (I.stkSub b z)).elim hL hb) hc) (λb o _ _ hc e n=>u.any e n hc) (λb o hc e n=>u.free b o e n hc) (λb o hc e=>u.there b o e hc) u.tups u.frzs u.tbls (λm' hm=>by
  obtain ⟨o',es',ep',ho',r'⟩:=hm
  rw [ho] at ho';cases ho'
  exact ⟨_,es',ep',hL,r'⟩) hok hg
theorem Inv.turned {t':Nat}{it:Addr}(I:Inv X pins σ H s)(k:∀ b o,b≠it->s.heap.get? b=some o->h'.get? b=some o)(hn:H it=none)(hL:it≠X.env.locals)
  (h1:it∈X.ex∨X.s₀.heap.objs.size≤it) (h2:∀ x c,X.env.cells.lookup x=some c->c≠it) (h3:∀ p∈X.pn++pins,p.1≠it):Inv X pins σ H { s with heap:=h',toks:=t' }:=by
 have nit:∀ b u,H b=some u->b≠it:=λb u e z=>by rw [z,hn] at e;cases e
 refine I.step (g':=s.gens) (d':=s.drawn) (ch:=[it]) (λb hb=>?_) (λb o _ _ hc e _=>k b o (λz=>hc (by simp [z])) e) (λb o _ _ hc e _=>⟨o.slots,k b o (λz=>hc (by simp [z])) e⟩) (λ_ _ _ _ n=>n)
  (λb o hc e=>⟨o,k b o (λz=>hc (by simp [z])) e⟩) (λ_ _ e=>e) (λ_ _ _ e=>e) (λb ps e=>⟨#[],by rw [e];simp⟩) (λm hm=>?_) (λb u e=>?_) I.bare
 ·have e:b=it:=by simpa using hb
  subst e
  exact ⟨h1,hL,h2,h3⟩
 ·obtain ⟨o,es,ep,ho,r⟩:=hm
  exact ⟨o,es,ep,k _ o (Ne.symm hL) ho,r⟩
 ·refine (I.hok b u e).stay (λc v hc q=>k c v ?_ q) (λ_ q=>q) λ_ _ q=>q
  rcases hc with z|z
  ·rw [z];exact nit b u e
  ·exact nit c _ z
theorem Inv.tok (I:Inv X pins σ H s)(t:Nat):Inv X pins σ H { s with toks:=t }:=I.un (h':=s.heap) (t':=t) Un.refl I.hok
theorem Inv.kept {t':Nat}(I:Inv X pins σ H s)(k:∀ b u,s.heap.get? b=some u->h'.get? b=some u):Inv X pins σ H { s with heap:=h',toks:=t' }:=I.un (Un.kept k) (I.hok.kept k)
theorem Inv.laid {a:Addr}{o:HO}{t':Nat}(I:Inv X pins σ H s)(k:∀ b u,s.heap.get? b=some u->h'.get? b=some u)(hp:s.heap.objs.size≤a)(new:ObjOk X.prog X.w (upd H a o) h' a o) :
  Inv X pins σ (upd H a o) { s with heap:=h',toks:=t' }:=I.un (Un.laid k hp (I.hok.fresh hp)) (I.hok.laid k hp new)
theorem Inv.write {x e:Addr}{o:HO}{t':Nat}(I:Inv X pins σ H s)(mu:Mut (H x))(he:e=x∨H e=some (.own x))(k:∀ b u,b≠e->s.heap.get? b=some u->h'.get? b=some u)(heo:∃ u,h'.get? e=some u)
  (new:ObjOk X.prog X.w (upd H x o) h' x o):Inv X pins σ (upd H x o) { s with heap:=h',toks:=t' }:=I.un (Un.write mu he k heo) (I.hok.write mu he k heo new)
theorem Inv.pins_of {pins':List (Addr×Obj)}(I:Inv X pins σ H s)(h:∀ p∈pins',s.heap.get? p.1=some p.2∧H p.1=none∧p.1≠X.env.locals∧p.1∉X.fs∧∀ v,p.2.data≠.cell v):Inv X pins' σ H s:=
 ⟨I.ok,I.os,I.bare,I.base,I.loc,I.cell,I.free,I.freeC,λp hp=>(Aj.mp hp).elim (λz=>I.pin p (Bc _ z)) (h p),I.hok,I.len⟩
theorem OT {N:List Str}(hN:N.Nodup){i j:Nat}{x:Str}(a:N[i]? = some x)(b:N[j]? = some x):i=j:=by
 obtain ⟨h1,e1⟩:=Ah.mp a
 obtain ⟨h2,e2⟩:=Ah.mp b
 exact (List.getElem_inj hN).mp (e1.trans e2.symm)
theorem RZ {M:Model}{A:Around}{E:Value->Shared->Prop}{i:Nat}{x:Str}{v:V}{u:Value}{Q:Unit->Shared->Prop}(I:Inv X pins σ H s)(hN:X.N.Nodup)(hi:X.N[i]? = some x)(hx:Loc X.env.scope x)(r:RelV v u)
  (h:∀ s',Inv X pins (σ.set i (some v)) H s'->(∃ a,Heap.SameBut a s.heap s'.heap∧(a=X.env.locals∨X.env.cells.lookup x=some a))->Q () s') (hf:X.fn x=true∨X.env.scope.names.lookup x=some .local:=by first|exact .inl rfl|exact .inr rfl|assumption):wpAny M A (storeName X.env x u) Q E s:=by
 obtain ⟨m,hn,hl⟩:=id I.loc
 have hcls:(X.env.scope.kind==.class||(X.env.scope.kind==.module&&X.env.locals != X.env.globals))=false:=by rw [I.ok.kind];rfl
 have hiσ:i<σ.length:=by rw [I.len];exact (Ah.mp hi).1
 have cne:=I.cne
 have tracked:∀ {a:Addr} {h':Heap},(∃ o,s.heap.get? a=some o∧H a=none)->Heap.SameBut a s.heap h'->HOk X.prog X.w H h':=λ{a h'} ha hs b ob e=>by
  obtain ⟨_,_,hfree⟩:=ha
  refine (I.hok b ob e).stay (λc w' hc q=>(hs.2 c ?_).trans q) (λ_ q=>q) λ_ _ q=>q
  rintro rfl
  rcases hc with rfl|hc
  ·rw [hfree] at e;cases e
  ·rw [hfree] at hc;cases hc
 rcases hx with hk|hk
 ·refine wpAny_storeName_local hk hn (λh' hn' hs=>?_) hcls
  obtain ⟨oL,_,_,hoL,_⟩:=id hn
  refine h _ ⟨I.ok,I.os,I.bare,⟨λb o e n hb hx=>?_,λb o e n hb hx=>?_,I.base.free,λb o e hx=>?_,I.base.tups,I.base.frzs,I.base.tbls⟩,⟨_,hn',λj y v' e1 e2 e3=>?_⟩,λy c e=>?_,I.free,I.freeC,λp hp=>?_,tracked ⟨oL,hoL,I.free⟩ hs,by simpa using I.len⟩ ⟨_,hs,.inl rfl⟩
  ·exact (hs.2 b (AF (Az (Ar e) I.ok.above))).trans (I.base.keep b o e n hb hx)
  ·obtain ⟨sl,e1⟩:=I.base.slot b o e n hb hx
   exact ⟨sl,(hs.2 b (AF (Az (Ar e) I.ok.above))).trans e1⟩
  ·obtain ⟨o',e1⟩:=I.base.there b o e hx
   exact ⟨o',(hs.2 b (AF (Az (Ar e) I.ok.above))).trans e1⟩
  ·by_cases hj:j=i
   ·subst hj
    rw [hi] at e1;cases e1
    rw [Bn hiσ] at e2
    cases e2
    exact ⟨u,r,.inl ⟨hk,by simp⟩⟩
   ·rw [AB (Ne.symm hj)] at e2
    obtain ⟨u',r',q⟩:=hl j y v' e1 e2 e3
    refine ⟨u',r',?_⟩
    rcases q with ⟨k,e⟩|⟨k,c,e,z⟩
    ·refine .inl ⟨k,?_⟩
     have:y≠x:=λe=>hj (OT hN e1 (e▸hi))
     simp [this,e]
    ·exact .inr ⟨k,c,e,z.sameBut hs (cne y c e)⟩
  ·obtain ⟨w',z⟩:=I.cell y c e
   exact ⟨w',z.sameBut hs (cne y c e)⟩
  ·obtain ⟨e,n,ne,nf,d⟩:=I.pin p hp
   exact ⟨(hs.2 p.1 ne).trans e,n,ne,nf,d⟩
 ·have hfn:X.fn x=true:=by
   rcases hf with z|z
   ·exact z
   ·rw [z] at hk;cases hk
  obtain ⟨c,hc⟩:=I.ok.has x (.inl hk)
  obtain ⟨w',z⟩:=I.cell x c hc
  refine wpAny_storeName_cell I.ok.kind hk hc z (λh' hc' hs=>?_)
  obtain ⟨oc,hoc,hocd⟩:=id z
  refine h { s with heap:=h' } ⟨I.ok,I.os,I.bare,⟨λb o e n hb hx=>?_,λb o e n hb hx=>?_,I.base.free,λb o e hx=>?_,I.base.tups,I.base.frzs,I.base.tbls⟩,⟨m,hn.sameBut hs (Ne.symm (cne x c hc)),λj y v' e1 e2 e3=>?_⟩,λy c' e=>?_,I.free,I.freeC,λp hp=>?_,tracked ⟨oc,hoc,I.freeC x c hc⟩ hs,by simpa using I.len⟩ ⟨c,hs,.inr hc⟩
  ·exact (hs.2 b (AF (Az (Ar e) (I.ok.cab x c hfn hc)))).trans (I.base.keep b o e n hb hx)
  ·obtain ⟨sl,e1⟩:=I.base.slot b o e n hb hx
   exact ⟨sl,(hs.2 b (AF (Az (Ar e) (I.ok.cab x c hfn hc)))).trans e1⟩
  ·obtain ⟨o',e1⟩:=I.base.there b o e hx
   exact ⟨o',(hs.2 b (AF (Az (Ar e) (I.ok.cab x c hfn hc)))).trans e1⟩
  ·by_cases hj:j=i
   ·subst hj
    rw [hi] at e1;cases e1
    rw [Bn hiσ] at e2
    cases e2
    exact ⟨u,r,.inr ⟨.inl hk,c,hc,hc'⟩⟩
   ·rw [AB (Ne.symm hj)] at e2
    obtain ⟨u',r',q⟩:=hl j y v' e1 e2 e3
    refine ⟨u',r',?_⟩
    rcases q with q|⟨k,c',e,z'⟩
    ·exact .inl q
    ·refine .inr ⟨k,c',e,z'.sameBut hs ?_⟩
     rintro rfl
     exact hj (OT hN e1 (I.ok.inj _ _ _ e hc▸hi))
  ·by_cases hcc:c'=c
   ·subst hcc;exact ⟨_,hc'⟩
   ·obtain ⟨w2,z2⟩:=I.cell y c' e
    exact ⟨w2,z2.sameBut hs hcc⟩
  ·obtain ⟨e,n,ne,nf,d⟩:=I.pin p hp
   refine ⟨(hs.2 p.1 ?_).trans e,n,ne,nf,d⟩
   intro q
   rw [q,hoc] at e
   have q':oc=p.2:=AN e
   exact d w' (by rw [← q'];exact hocd)
theorem Gy {M:Model}{A:Around}{E:Value->Shared->Prop}{i:Nat}{x:Str}{v:V}{u:Value}{Q:Unit->Shared->Prop}(I:Inv X pins σ H s)(hN:X.N.Nodup)(hi:X.N[i]? = some x)(hx:Loc X.env.scope x)(r:RelV v u)
  (h:∀ s',Inv X pins (σ.set i (some v)) H s'->Q () s') (hf:X.fn x=true∨X.env.scope.names.lookup x=some .local:=by first|exact .inl rfl|exact .inr rfl|assumption):wpAny M A (storeName X.env x u) Q E s:=
 RZ I hN hi hx r (λs' I' _=>h s' I') hf
theorem Inv.call' {s':Shared}{ch:List Addr}(I:Inv X pins σ H s)(ho:s'.os=s.os)(u:Un (frs X.stack) ch H H' s.heap s'.heap)(hok:HOk X.prog X.w H' s'.heap)(hg:AllBare s'.gens)
  (hch:∀ b∈ch,(b∈X.ex∨X.s₀.heap.objs.size≤b)∧b≠X.env.locals∧(∀ x c,X.env.cells.lookup x=some c->c≠b)∧∀ p∈X.pn++pins,p.1≠b):Inv X pins σ H' s':=by
 obtain ⟨h',g',d',t',o'⟩:=s'
 have e:o'=s.os:=ho
 subst e
 exact I.call (g':=g') (t':=t') (d':=d') u hok hg hch
end
abbrev XK:=Value->Option Addr->Hp->Prop
abbrev St:=List (Option V)
abbrev VK:=V->Hp->Prop
abbrev TE:=St->Hp->VK->Prop
abbrev TT:=St->Hp->(Bool->Hp->Prop)->Prop
abbrev TA:=St->Hp->(List V->Hp->Prop)->Prop
structure Ends where
 nx:St->Hp->Prop
 rt:VK
 bk:St->Hp->Prop:=λ_ _=>False
 ct:St->Hp->Prop:=λ_ _=>False
abbrev TS:=Ends->St->Hp->Prop
def EP (X:Cx)(pins:List (Addr×Obj))(σ:St)(Q:VK)(u:Value)(s':Shared):Prop:=∃ v H',Inv X pins σ H' s'∧RelV v u∧Q v H'
def TP (X:Cx)(pins:List (Addr×Obj))(σ:St)(Q:Bool->Hp->Prop)(b:Bool)(s':Shared):Prop:=∃ H',Inv X pins σ H' s'∧Q b H'
def AP (X:Cx)(pins:List (Addr×Obj))(σ:St)(Q:List V->Hp->Prop)(us:List Value)(s':Shared):Prop:=∃ vs H',Inv X pins σ H' s'∧Vals vs us∧Q vs H'
def SP (X:Cx)(pins:List (Addr×Obj))(D:Ends)(f:Flow)(s':Shared):Prop:=
 match f with
 | .next=>∃ σ' H',Inv X pins σ' H' s'∧D.nx σ' H'
 | .brk=>∃ σ' H',Inv X pins σ' H' s'∧D.bk σ' H'
 | .cont=>∃ σ' H',Inv X pins σ' H' s'∧D.ct σ' H'
 | .ret u=>∃ v σ' H',Inv X pins σ' H' s'∧RelV v u∧D.rt v H'
def PE (X:Cx)(e:Expr)(t:TE):Prop:=
 ∀ (pins:List (Addr×Obj)) (s:Shared) (σ:St) (H:Hp) (Q:VK),Inv X pins σ H s->t σ H Q->wpAny (model X.prog X.w) X.A (eval e X.env) (EP X pins σ Q) X.xe s
def PT (X:Cx)(e:Expr)(t:TT):Prop:=
 ∀ (pins:List (Addr×Obj)) (s:Shared) (σ:St) (H:Hp) (Q:Bool->Hp->Prop),Inv X pins σ H s->t σ H Q->wpAny (model X.prog X.w) X.A (isTrue e X.env (eval e X.env)) (TP X pins σ Q) X.xe s
def PW (X:Cx)(e:Expr)(t:TT):Prop:=
 ∀ (whole:Sem Value) (pins:List (Addr×Obj)) (s:Shared) (σ:St) (H:Hp) (Q:Bool->Hp->Prop),Inv X pins σ H s->t σ H Q->wpAny (model X.prog X.w) X.A (isTrue e X.env whole) (TP X pins σ Q) X.xe s
theorem PW.pt {X:Cx}{e:Expr}{t:TT}(h:PW X e t):PT X e t:=h _
def PA (X:Cx)(es:List Expr)(t:TA):Prop:=
 ∀ (pos:Pos) (pins:List (Addr×Obj)) (s:Shared) (σ:St) (H:Hp) (Q:List V->Hp->Prop),Inv X pins σ H s->t σ H Q->wpAny (model X.prog X.w) X.A (spliced (backTo pos (starEach es X.env))) (AP X pins σ Q) X.xe s
def PS (X:Cx)(st:Stmt)(t:TS):Prop:=
 ∀ (pins:List (Addr×Obj)) (s:Shared) (σ:St) (H:Hp) (D:Ends),Inv X pins σ H s->t D σ H->wpAny (model X.prog X.w) X.A (exec st X.env) (SP X pins D) X.xe s
def PSs (X:Cx)(st:List Stmt)(t:TS):Prop:=
 ∀ (pins:List (Addr×Obj)) (s:Shared) (σ:St) (H:Hp) (D:Ends),Inv X pins σ H s->t D σ H->wpAny (model X.prog X.w) X.A (execs st X.env) (SP X pins D) X.xe s
theorem thn {α:Type}{t:Sem α}{Q Q':α->Shared->Prop}{M:Model}{A:Around}{E:Value->Shared->Prop}{s:Shared}(h:wpAny M A t Q E s)(hQ:∀ a s,Q a s->Q' a s):wpAny M A t Q' E s:=wpAny_mono h hQ λ_ _ x=>x
section
variable {X:Cx}
def ZR (i:Nat):TE:=fun σ H Q=>∃ v,σ[i]? = some (some v)∧Q v H
def tC (v:V):TE:=λ_ H Q=>Q v H
theorem TC {i:Nat}{x:Str}{pos:Pos}(hN:X.N[i]? = some x)(hv:Vis X.env.scope x)(hd:(x==("__debug__":Str))=false:=by decide)(hcd:(x==("__classdict__":Str))=false:=by decide):PE X (.Name x pos) (ZR i):=by
 intro pins s σ H Q I h
 obtain ⟨v,e,h⟩:=h
 obtain ⟨m,hn,hl⟩:=I.loc
 obtain ⟨u,r,l⟩:=hl i x v hN e hv
 have fin:EP X pins σ Q u s:=⟨v,H,I,r,h⟩
 rcases l with ⟨hk,hm⟩|⟨hk,c,hc,hcell⟩
 ·exact wpAny_Name (wpAny_loadName_local I.ok.kind hk hn hm fin) hd
 ·rcases hk with hk|hk
  ·exact wpAny_Name (wpAny_loadName_cell I.ok.kind hk hc hcell fin) hd
  ·exact wpAny_Name (wpAny_loadName_free I.ok.kind hk hc hcell fin hcd) hd
theorem TK {i j pos}:PE X (.Constant (.int i) j pos) (tC (.int i)):=λ_ _ _ H _ I h=>wpAny_Constant_int ⟨.int i,H,I.tok _,⟨_,rfl⟩,h⟩
theorem Abl {b j pos}:PE X (.Constant (.bool b) j pos) (tC (.bl b)):=λ_ _ _ H _ I h=>Constant_bool ⟨.bl b,H,I,rfl,h⟩
theorem Zr {j pos}:PE X (.Constant .none j pos) (tC .non):=λ_ _ _ H _ I h=>Constant_none ⟨.non,H,I,rfl,h⟩
theorem Zq {x j pos}:PE X (.Constant (.str x) j pos) (tC (.str x)):=λ_ _ _ H _ I h=>Calls.Constant_str ⟨.str x,H,I.tok _,⟨_,rfl⟩,h⟩
def Gl (X:Cx)(x:Str):Prop:=X.env.kindOf x=some .globalImplicit
theorem Rf {E:Value->Shared->Prop}{pins:List (Addr×Obj)}{s:Shared}{σ:St}{H:Hp}{x:Str}{u:Value}{pos:Pos}{Q:Value->Shared->Prop}(I:Inv X pins σ H s)(hg:Gl X x)(hm:X.mg x=some u)(h:Q u s)
  (hd:(x==("__debug__":Str))=false:=by decide):wpAny (model X.prog X.w) X.A (eval (.Name x pos) X.env) Q E s:=
 Calls.Name_function_global I.ok.kind hg (Calls.loadGlobal_global (by rw [I.ok.glob];exact I.mod.glob.keeps I.bk) hm h) hd
theorem NM {E:Value->Shared->Prop}{pins:List (Addr×Obj)}{s:Shared}{σ:St}{H:Hp}{x:Str}{u:Value}{pos:Pos}{Q:Value->Shared->Prop}(I:Inv X pins σ H s)(hg:Gl X x)(hm:X.mg x=none)(hv:bootBuiltins x=some u)(h:Q u s)
  (hn:x≠"__name__":=by decide) (hd:(x==("__debug__":Str))=false:=by decide):wpAny (model X.prog X.w) X.A (eval (.Name x pos) X.env) Q E s:=by
 obtain ⟨mb,h1,h2⟩:=I.mod.blt
 exact Calls.Name_function_global I.ok.kind hg (Calls.loadGlobal_builtin (by rw [I.ok.glob];exact I.mod.glob.keeps I.bk) hm (by rw [I.ok.blt];exact h1.keeps I.bk) ((h2 x hn).trans hv) h) hd
theorem Oi {x:Str}{v:V}{u:Value}{pos:Pos}(hg:Gl X x)(hm:X.mg x=some u)(r:RelV v u)(hd:(x==("__debug__":Str))=false:=by decide):PE X (.Name x pos) (tC v):=
 λ_ _ _ H _ I h=>Rf I hg hm ⟨v,H,I,r,h⟩ hd
theorem W5 {x:Str}{v:V}{u:Value}{pos:Pos}(hg:Gl X x)(hm:X.mg x=none)(hv:bootBuiltins x=some u)(r:RelV v u)(hn:x≠"__name__":=by decide)(hd:(x==("__debug__":Str))=false:=by decide):PE X (.Name x pos) (tC v):=
 λ_ _ _ H _ I h=>NM I hg hm hv ⟨v,H,I,r,h⟩ hn hd
variable {a b:Expr} {ta tb:TE} {pos:Pos}
def tB (t:TE):TT:=fun σ H Q=>t σ H λx H1=>∃ c,x=.bl c∧Q c H1
theorem YN {e:Expr}{t:TE}(h:PE X e t)(he:∀ whole,isTrue e X.env whole=(do let v←whole;standAt e.pos;holding [v] (truthy v)):=by intro _;rfl):PT X e (tB t):=by
 intro pins s σ H Q I hw
 refine isTrue_plain (thn (h pins s σ H _ I hw) λv s1 ⟨x,H1,I1,r1,q1⟩=>?_) (he _)
 obtain ⟨d,rfl,q⟩:=q1
 cases r1
 exact Bt ⟨H1,I1,q⟩
variable {tA tB':TT} {rest:List Expr}
def AbI (t u:TT):TT:=fun σ H Q=>t σ H λc H1=>if c=true then u σ H1 Q else Q false H1
def tOr (t u:TT):TT:=fun σ H Q=>t σ H λc H1=>if c=true then Q true H1 else u σ H1 Q
def AcB (t:TT):TT:=fun σ H Q=>t σ H λc H1=>Q (!c) H1
theorem VI (ha:PT X a tA):PW X (.BoolOp .And [a] pos) tA:=by
 intro wh pins s σ H Q I h
 refine isTrue_and (thn (ha pins s σ H Q I h) λc s1 e=>?_)
 cases c with
 | true=>exact isTrue_and_nil e
 | false=>exact e
theorem Zp (ha:PT X a tA):PW X (.BoolOp .Or [a] pos) tA:=by
 intro wh pins s σ H Q I h
 refine isTrue_or (thn (ha pins s σ H Q I h) λc s1 e=>?_)
 cases c with
 | false=>exact isTrue_or_nil e
 | true=>exact e
theorem XO (ha:PT X a tA)(hb:PW X (.BoolOp .And (b::rest) pos) tB'):PW X (.BoolOp .And (a::b::rest) pos) (AbI tA tB'):=by
 intro wh pins s σ H Q I h
 refine isTrue_and (thn (ha pins s σ H _ I h) λc s1 ⟨H1,I1,q1⟩=>?_)
 cases c with
 | true=>exact hb wh pins s1 σ H1 Q I1 q1
 | false=>exact ⟨H1,I1,q1⟩
theorem AaI (ha:PT X a tA)(hb:PW X (.BoolOp .Or (b::rest) pos) tB'):PW X (.BoolOp .Or (a::b::rest) pos) (tOr tA tB'):=by
 intro wh pins s σ H Q I h
 refine isTrue_or (thn (ha pins s σ H _ I h) λc s1 ⟨H1,I1,q1⟩=>?_)
 cases c with
 | true=>exact ⟨H1,I1,q1⟩
 | false=>exact hb wh pins s1 σ H1 Q I1 q1
theorem ZP (ha:PT X a tA):PT X (.UnaryOp .Not a pos) (AcB tA):=by
 intro pins s σ H Q I h
 exact isTrue_not (ha pins s σ H (λc H1=>Q (!c) H1) I h)
def Abw (ta tb:TE):TE:=fun σ H Q=>ta σ H λx H1=>∃ c,x=.bl c∧if c=true then tb σ H1 Q else Q (.bl false) H1
def Ach (ta tb:TE):TE:=fun σ H Q=>ta σ H λx H1=>∃ c,x=.bl c∧if c=true then Q (.bl true) H1 else tb σ H1 Q
theorem Zl {op}{t:TE}(h:PE X a t):PE X (.BoolOp op [a] pos) t:=λpins s σ H Q I hw=>BoolOp_one (h pins s σ H Q I hw)
theorem Zg (ha:PE X a ta)(hb:PE X (.BoolOp .And (b::rest) pos) tb):PE X (.BoolOp .And (a::b::rest) pos) (Abw ta tb):=by
 intro pins s σ H Q I h
 refine BoolOp_and (thn (ha pins s σ H _ I h) λv s1 ⟨x,H1,I1,r1,q1⟩=>?_)
 obtain ⟨c,rfl,q1⟩:=q1
 cases r1
 refine Bt ?_
 cases c with
 | true=>exact hb pins s1 σ H1 Q I1 q1
 | false=>exact ⟨.bl false,H1,I1,rfl,q1⟩
theorem AaY (ha:PE X a ta)(hb:PE X (.BoolOp .Or (b::rest) pos) tb):PE X (.BoolOp .Or (a::b::rest) pos) (Ach ta tb):=by
 intro pins s σ H Q I h
 refine BoolOp_or (thn (ha pins s σ H _ I h) λv s1 ⟨x,H1,I1,r1,q1⟩=>?_)
 obtain ⟨c,rfl,q1⟩:=q1
 cases r1
 refine Bt ?_
 cases c with
 | false=>exact hb pins s1 σ H1 Q I1 q1
 | true=>exact ⟨.bl true,H1,I1,rfl,q1⟩
def tIf (t:TT)(ta tb:TE):TE:=fun σ H Q=>t σ H λc H1=>if c=true then ta σ H1 Q else tb σ H1 Q
theorem Ub {c:Expr}(hc:PT X c tA)(ha:PE X a ta)(hb:PE X b tb):PE X (.IfExp c a b pos) (tIf tA ta tb):=by
 intro pins s σ H Q I h
 refine wpAny_IfExp (thn (hc pins s σ H _ I h) λd s1 ⟨H1,I1,q1⟩=>?_)
 cases d with
 | true=>exact ha pins s1 σ H1 Q I1 q1
 | false=>exact hb pins s1 σ H1 Q I1 q1
end
def SqL (K:PySem.W.Frag)(H:Hp)(a:Addr)(xs:List V):Prop:=
 Rd H a (.lst xs) ∨
  ∃ (o:Obj) (its:Array Value) (n:Nat),K.lookup a=some o∧o.cls=.type "list"∧o.dict=none∧o.data=.seq its n∧its.size≤sizeLine∧Vals xs its.toList
def SqT (K:PySem.W.Frag)(H:Hp)(a:Addr)(xs:List V):Prop:=
 Rd H a (.tup xs) ∨
  ∃ (o:Obj) (its:Array Value) (n:Nat),K.lookup a=some o∧o.cls=.type "tuple"∧o.dict=none∧o.data=.seq its n∧its.size≤sizeLine∧Vals xs its.toList
noncomputable def Acu:Value->Option V
 | .none=>some .non
 | .bool b=>some (.bl b)
 | .int i _=>some (.int i)
 | .str x _=>some (.str x)
 | .bytes b _=>some (.byt b)
 | .float b _=>some (.flt b)
 | .ref a=>some (.ref a)
 | .type n=>some (.ty n)
 | _=>none
theorem RelV.abs {x:V}{u:Value}(r:RelV x u):Acu u=some x:=by
 cases x with
 | non=>cases r;rfl
 | bl _=>cases r;rfl
 | int _=>obtain ⟨t,rfl⟩:=r;rfl
 | str _=>obtain ⟨t,rfl⟩:=r;rfl
 | byt _=>obtain ⟨t,rfl⟩:=r;rfl
 | flt _=>obtain ⟨t,rfl⟩:=r;rfl
 | ref _=>cases r;rfl
 | ty _=>cases r;rfl
theorem RelV.inj {x y:V}{u:Value}(r:RelV x u)(q:RelV y u):x=y:=AN (r.abs.symm.trans q.abs)
theorem Vals.inj:∀ {xs ys:List V} {us:List Value},Vals xs us->Vals ys us->xs=ys
 | _,_,_,.nil,.nil=>rfl
 | _,_,_,.cons r t,.cons r' t'=>by rw [r.inj r',Vals.inj t t']
section
variable {X:Cx} {pins:List (Addr×Obj)} {σ:St} {H:Hp} {s:Shared} {a:Addr} {xs ys:List V}
theorem SqL.of {K:PySem.W.Frag}(h:H a=some (.lst xs)):SqL K H a xs:=.inl (.inl h)
theorem SqT.of {K:PySem.W.Frag}(h:H a=some (.tup xs)):SqT K H a xs:=.inl (.inl h)
theorem Inv.list (I:Inv X pins σ H s)(h:SqL X.K H a xs):∃ its:List Value,Vals xs its∧PlainL s.heap a its.toArray∧xs.length≤sizeLine:=by
 rcases h with h|⟨o,its,n,hk,hc,hd,hs,hz,r⟩
 ·obtain ⟨z,its,n,r,e⟩:=h.ok I.hok
  exact ⟨its,r,⟨_,n,e,rfl,rfl,rfl⟩,z⟩
 ·refine ⟨its.toList,r,⟨o,n,I.kIn a o hk,hc,hd,by simpa using hs⟩,?_⟩
  have e:=r.length
  simp only [Array.length_toList] at e
  ext
theorem Inv.tupleD (I:Inv X pins σ H s)(h:SqT X.K H a xs):∃ o,s.heap.get? a=some o∧o.dict=none∧o.cls=.type "tuple":=by
 rcases h with h|⟨o,its,n,hk,hc,hd,hs,hz,r⟩
 ·obtain ⟨⟨z,o,g1,g2⟩,its,r,o',g3,g4,_⟩:=h.ok I.hok
  rw [g1] at g3
  cases g3
  exact ⟨o,g1,g2,g4⟩
 ·exact ⟨o,I.kIn a o hk,hd,hc⟩
theorem Inv.tuple (I:Inv X pins σ H s)(h:SqT X.K H a xs):∃ its:List Value,Vals xs its∧IsTup s.heap a its.toArray∧xs.length≤sizeLine:=by
 rcases h with h|⟨o,its,n,hk,hc,_,hs,hz,r⟩
 ·obtain ⟨⟨z,_⟩,its,r,p⟩:=h.ok I.hok
  exact ⟨its,r,p,z⟩
 ·refine ⟨its.toList,r,⟨o,I.kIn a o hk,hc,n,by simpa using hs⟩,?_⟩
  have e:=r.length
  simp only [Array.length_toList] at e
  ext
theorem Inv.list_inj (I:Inv X pins σ H s)(h:SqL X.K H a xs)(h':SqL X.K H a ys):xs=ys:=by
 obtain ⟨its,r,⟨o,n,e,_,_,d⟩,_⟩:=I.list h
 obtain ⟨its',r',⟨o',n',e',_,_,d'⟩,_⟩:=I.list h'
 rw [e] at e';cases e'
 rw [d] at d'
 injection d' with d1 _
 have:its=its':=by simpa using congrArg Array.toList d1
 subst this
 exact r.inj r'
theorem Inv.tuple_inj (I:Inv X pins σ H s)(h:SqT X.K H a xs)(h':SqT X.K H a ys):xs=ys:=by
 obtain ⟨its,r,⟨o,e,_,n,d⟩,_⟩:=I.tuple h
 obtain ⟨its',r',⟨o',e',_,n',d'⟩,_⟩:=I.tuple h'
 rw [e] at e';cases e'
 rw [d] at d'
 injection d' with d1 _
 have:its=its':=by simpa using congrArg Array.toList d1
 subst this
 exact r.inj r'
end
noncomputable abbrev Cx.wish (X:Cx) (E:Value->Shared->Prop):Cx:={ X with xe:=E }
abbrev Cx.nox (X:Cx):Cx:=X.wish λ_ _=>False
theorem Cx.Ok.wish {X:Cx}(ok:X.Ok)(E:Value->Shared->Prop):(X.wish E).Ok:=
 ⟨ok.mod,ok.kind,ok.glob,ok.blt,ok.above,ok.inj,ok.has,ok.cab,ok.hd,ok.frames,ok.stk,ok.exf,ok.bs,ok.bsz,ok.noex,ok.exfs,ok.funs,ok.frf⟩
theorem Cx.Ok.unwish {X:Cx}{E:Value->Shared->Prop}(ok:(X.wish E).Ok):X.Ok:=
 ⟨ok.mod,ok.kind,ok.glob,ok.blt,ok.above,ok.inj,ok.has,ok.cab,ok.hd,ok.frames,ok.stk,ok.exf,ok.bs,ok.bsz,ok.noex,ok.exfs,ok.funs,ok.frf⟩
section
variable {X:Cx} {pins:List (Addr×Obj)} {σ:St} {H:Hp} {s:Shared} {E:Value->Shared->Prop}
theorem Inv.wish (I:Inv X pins σ H s)(E:Value->Shared->Prop):Inv (X.wish E) pins σ H s:=⟨I.ok.wish E,I.os,I.bare,I.base,I.loc,I.cell,I.free,I.freeC,I.pin,I.hok,I.len⟩
theorem Inv.unwish (I:Inv (X.wish E) pins σ H s):Inv X pins σ H s:=⟨I.ok.unwish,I.os,I.bare,I.base,I.loc,I.cell,I.free,I.freeC,I.pin,I.hok,I.len⟩
theorem SP.unwish {D:Ends}{f:Flow}{s':Shared}(h:SP (X.wish E) pins D f s'):SP X pins D f s':=by
 cases f with
 | next=>obtain ⟨σ',H',I,q⟩:=h;exact ⟨σ',H',I.unwish,q⟩
 | brk=>obtain ⟨σ',H',I,q⟩:=h;exact ⟨σ',H',I.unwish,q⟩
 | cont=>obtain ⟨σ',H',I,q⟩:=h;exact ⟨σ',H',I.unwish,q⟩
 | ret u=>obtain ⟨v,σ',H',I,r,q⟩:=h;exact ⟨v,σ',H',I.unwish,r,q⟩
theorem PSs.nox {st:List Stmt}{t:TS}(h:PSs X.nox st t):PSs X st t:=λpins s σ H D I hw =>
 wpAny_mono (h pins s σ H D (I.wish _) hw) (λ_ _ q=>q.unwish) λ_ _ z=>False.elim z
end
section
variable {X:Cx} {st:Stmt} {rest:List Stmt} {t u:TS} {e:Expr} {te:TE} {pos:Pos}
def AaZ:TS:=λD σ H=>D.nx σ H
def AbQ (t u:TS):TS:=λD σ H=>t { D with nx:=u D } σ H
theorem WX:PSs X [] AaZ:=λ_ _ σ H _ I h=>wpAny_execs_nil ⟨σ,H,I,h⟩
theorem Vw (h1:PS X st t)(h2:PSs X rest u):PSs X (st::rest) (AbQ t u):=by
 intro pins s σ H D I h
 refine wpAny_execs_cons (thn (h1 pins s σ H { D with nx:=u D } I h) λf s1 q=>?_)
 cases f with
 | next =>
  obtain ⟨σ',H',I',q⟩:=q
  exact h2 pins s1 σ' H' D I' q
 | ret v=>exact q
 | brk=>exact q
 | cont=>exact q
theorem Wb (h1:PS X st t):PSs X [st] t:=by
 intro pins s σ H D I h
 refine wpAny_execs_cons (thn (h1 pins s σ H D I h) λf s1 q=>?_)
 cases f with
 | next=>exact wpAny_execs_nil q
 | ret v=>exact q
 | brk=>exact q
 | cont=>exact q
theorem Inv.quiet {pins:List (Addr×Obj)}{σ:St}{H:Hp}{s:Shared}(I:Inv X pins σ H s):interactive X.env=false:=by simp [interactive,I.ok.kind]
def Aad (te:TE):TS:=λD σ H=>te σ H λ_ H1=>D.nx σ H1
theorem WG (he:PE X e te)(hs:swapsWith e none pos.line X.env=pure false:=by rfl):PS X (.Expr e pos) (Aad te):=by
 intro pins s σ H D I h
 exact wpAny_Expr_any (thn (he pins s σ H _ I h) λv s1 ⟨x,H1,I1,r1,q1⟩=>⟨σ,H1,I1,q1⟩) I.quiet hs
def Ab5 (te:TE):TS:=λD σ H=>te σ H D.rt
theorem Zn (he:PE X e te):PS X (.Return (some e) pos) (Ab5 te):=by
 intro pins s σ H D I h
 exact wpAny_Return_some (thn (he pins s σ H _ I h) λv s1 ⟨x,H1,I1,r1,q1⟩=>⟨x,σ,H1,I1,r1,q1⟩)
def AbL (c:TT)(t u:TS):TS:=λD σ H=>c σ H λb H1=>if b=true then t D σ H1 else u D σ H1
theorem Aby {c:Expr}{a b:List Stmt}{tc:TT}(hc:PT X c tc)(ha:PSs X a t)(hb:PSs X b u):PS X (.If c a b pos) (AbL tc t u):=by
 intro pins s σ H D I h
 refine wpAny_If (thn (hc pins s σ H _ I h) λd s1 ⟨H1,I1,q1⟩=>?_)
 cases d with
 | true=>exact ha pins s1 σ H1 D I1 q1
 | false=>exact hb pins s1 σ H1 D I1 q1
end
abbrev TG:=V->St->Hp->(St->Hp->Prop)->Prop
abbrev TGs:=List V->St->Hp->(St->Hp->Prop)->Prop
def PG (X:Cx)(target:Expr)(t:TG):Prop:=
 ∀ (pins:List (Addr×Obj)) (s:Shared) (σ:St) (H:Hp) (v:V) (u:Value) (Q:St->Hp->Prop),Inv X pins σ H s->RelV v u->t v σ H Q ->
  wpAny (model X.prog X.w) X.A (assign target X.env u) (λ_ s'=>∃ σ' H',Inv X pins σ' H' s'∧Q σ' H') X.xe s
def PGs (X:Cx)(ts:List Expr)(t:TGs):Prop:=
 ∀ (pins:List (Addr×Obj)) (s:Shared) (σ:St) (H:Hp) (vs:List V) (us:List Value) (Q:St->Hp->Prop),Inv X pins σ H s->Vals vs us->t vs σ H Q ->
  wpAny (model X.prog X.w) X.A (assignInOrder ((assignEach ts X.env).map (·.2)) us) (λ_ s'=>∃ σ' H',Inv X pins σ' H' s'∧Q σ' H') X.xe s
abbrev UW:=V->V->V->Hp->(Hp->Prop)->Prop
def Wf (X:Cx)(t:UW):Prop:=
 ∀ (pins:List (Addr×Obj)) (s:Shared) (σ:St) (H:Hp) (o i v:V) (ov iv u:Value) (Q:Hp->Prop),Inv X pins σ H s->RelV o ov->RelV i iv->RelV v u->t o i v H Q ->
  wpAny (model X.prog X.w) X.A (setItem ov iv u) (λ_ s'=>∃ H',Inv X pins σ H' s'∧Q H') X.xe s
section
variable {X:Cx} {pos:Pos}
def Xu (i:Nat):TG:=λv σ H Q=>Q (σ.set i (some v)) H
theorem V6 {i:Nat}{x:Str}(hN:X.N.Nodup)(hi:X.N[i]? = some x)(hx:Loc X.env.scope x)(hf:X.fn x=true∨X.env.scope.names.lookup x=some .local:=by first|exact .inl rfl|exact .inr rfl|assumption):PG X (.Name x pos) (Xu i):=by
 intro pins s σ H v u Q I r h
 exact wpAny_assign_Name (Gy I hN hi hx r (λs' I'=>⟨_,H,I',h⟩) hf)
def AbH:TGs:=λvs σ H Q=>vs=[]∧Q σ H
def Z2 (t:TG)(u:TGs):TGs:=λvs σ H Q=>∃ v r,vs=v::r∧t v σ H fun σ' H'=>u r σ' H' Q
theorem VF:PGs X [] AbH:=by
 intro pins s σ H vs us Q I r h
 obtain ⟨e,h⟩:=h
 subst e
 cases r
 exact assignInOrder_nil ⟨σ,H,I,h⟩
theorem Vs {e:Expr}{es:List Expr}{t:TG}{u:TGs}(h1:PG X e t)(h2:PGs X es u)
  (hs:(assignEach (e::es) X.env).map (·.2)=assign e X.env::(assignEach es X.env).map (·.2):=by rfl):PGs X (e::es) (Z2 t u):=by
 intro pins s σ H vs us Q I r h
 obtain ⟨v,vr,e1,h⟩:=h
 subst e1
 cases r with
 | cons r rr =>
  rw [hs]
  refine assignInOrder_cons (thn (h1 pins s σ H _ _ _ I r h) λ_ s1 ⟨σ1,H1,I1,q1⟩=>?_)
  exact h2 pins s1 σ1 H1 _ _ Q I1 rr q1
def AcG (K:PySem.W.Frag)(n:Nat)(t:TGs):TG:=λv σ H Q=>∃ a xs,v=.ref a∧SqT K H a xs∧xs.length=n∧t xs σ H Q
theorem Zk {es:List Expr}{k:Nat}{t:TGs}{n:Nat}(hc:X.calm=true)(h:PGs X es t)
  (hn:(assignEach es X.env).length=n:=by rfl) (hst:(assignEach es X.env).findIdx? (·.1)=none:=by rfl):PG X (.Tuple es k pos) (AcG X.K n t):=by
 intro pins s σ H v u Q I r hw
 obtain ⟨a,xs,e1,hq,hl,hw⟩:=hw
 subst e1
 cases r
 obtain ⟨its,rv,ht,hz⟩:=I.tuple hq
 refine assign_Tuple_tuple (I.ok.hd hc) ht (by simp [hn,← hl,rv.length]) hst λh' hx=>?_
 have I1:Inv X pins σ H { s with heap:=h' }:=I.kept (t':=s.toks) λb o e=>hx b o (AF (Ar e)) e
 exact h pins _ σ H xs _ Q I1 (by simpa using rv) hw
def AbW (to ti:TE)(t:UW):TG:=λv σ H Q=>to σ H λo H1=>ti σ H1 λi H2=>t o i v H2 λH3=>Q σ H3
theorem YZ {o i:Expr}{to ti:TE}{t:UW}(ho:PE X o to)(hi:PE X i ti)(hs:Wf X t)
  (ha:∀ v,assign (.Subscript o i pos) X.env v=(do
   let ov←holding [v] (eval o X.env)
   let iv←holding [v,ov] (eval i X.env)
   standAt pos
   holding [v,ov,iv] (setItem ov iv v)
   release [v,ov,iv] []):=by intro _;rfl):PG X (.Subscript o i pos) (AbW to ti t):=by
 intro pins s σ H v u Q I r h
 rw [ha]
 refine Aa (AI (thn (ho pins s σ H _ I h) λov s1 ⟨x,H1,I1,r1,q1⟩=>?_))
 refine Aa (AI (thn (hi pins s1 σ H1 _ I1 q1) λiv s2 ⟨y,H2,I2,r2,q2⟩=>?_))
 refine Aa (wpAny_standAt (Aa (AI (thn (hs pins s2 σ H2 x y v ov iv u _ I2 r1 r2 r q2) λ_ s3 ⟨H3,I3,q3⟩=>?_))))
 exact wpAny_release ⟨σ,H3,I3,q3⟩
def Zm (te:TE)(g:TG):TS:=λD σ H=>te σ H λx H1=>g x σ H1 D.nx
theorem ZN {tg e:Expr}{te:TE}{g:TG}(he:PE X e te)(hg:PG X tg g)(hs:swapsWithSole [tg] e pos.line X.env=pure false:=by rfl)(hw:swappedStores [tg] e X.env=pure none:=by rfl)
  (h1:(assignEach [tg] X.env).map (·.2)=[assign tg X.env]:=by rfl):PS X (.Assign [tg] e pos) (Zm te g):=by
 intro pins s σ H D I h
 refine wpAny_Assign_stores (thn (he pins s σ H _ I h) λv s1 ⟨x,H1,I1,r1,q1⟩=>?_) hs hw
 rw [h1]
 exact thn (hg pins s1 σ H1 x v _ I1 r1 q1) λ_ s2 q=>q
theorem ZJ {i:Nat}{x:Str}{e:Expr}{te:TE}{pos':Pos}(hN:X.N.Nodup)(hi:X.N[i]? = some x)(hx:Loc X.env.scope x)(he:PE X e te)(hs:swapsWith e (some (.Name x pos')) pos.line X.env=pure false:=by rfl)(hf:X.fn x=true∨X.env.scope.names.lookup x=some .local:=by first|exact .inl rfl|exact .inr rfl|assumption) :
  PS X (.Assign [.Name x pos'] e pos) (Zm te (Xu i)):=by
 intro pins s σ H D I h
 refine wpAny_Assign_Name (thn (he pins s σ H _ I h) λv s1 ⟨y,H1,I1,r1,q1⟩=>?_) hs
 exact Gy I1 hN hi hx r1 (λs2 I2=>⟨_,H1,I2,q1⟩) hf
def Acm (i j:Nat)(ta:TA):TS:=λD σ H=>ta σ H λvs H1=>∃ v w,vs=[v,w]∧D.nx ((σ.set i (some v)).set j (some w)) H1
theorem XM {i j:Nat}{x y:Str}{a b:Expr}{ta:TA}{px py pt:Pos}{kt k2 pt2}(hc:X.calm=true)(hN:X.N.Nodup)(hi:X.N[i]? = some x)(hj:X.N[j]? = some y)(hij:i≠j)
  (hx:X.env.scope.names.lookup x=some .local) (hy:X.env.scope.names.lookup y=some .local) (ha:PA X [a,b] ta)
  (hw:swappedStores [.Tuple [.Name x px,.Name y py] kt pt] (.Tuple [a,b] k2 pt2) X.env=pure (some [x,y]))
  (hs:swapsWithSole [.Tuple [.Name x px,.Name y py] kt pt] (.Tuple [a,b] k2 pt2) pos.line X.env=pure false:=by rfl) :
  PS X (.Assign [.Tuple [.Name x px,.Name y py] kt pt] (.Tuple [a,b] k2 pt2) pos) (Acm i j ta):=by
 intro pins s σ H D I h
 rw [exec_Assign_arm]
 refine Aa (wpAny_standAt ?_)
 rw [hs]
 refine Aa (Ac ?_)
 rw [if_neg (by decide)]
 refine Aa (Tuple_ (thn (ha _ pins s σ H _ I h) λus s1 ⟨vs,H1,I1,r1,q1⟩=>?_))
 obtain ⟨v,w,e1,q1⟩:=q1
 subst e1
 obtain ⟨u1,u2,rfl,rv,rw'⟩:∃ u1 u2,us=[u1,u2]∧RelV v u1∧RelV w u2:=by
  cases r1 with
  | cons p q =>
   cases q with
   | cons p' q' =>
    cases q'
    exact ⟨_,_,rfl,p,p'⟩
 refine AW ?_ (by show 2≤sizeLine;decide)
 have I2:Inv X pins σ H1 { s1 with heap:=s1.heap.push { cls:=.type "tuple",data:=.seq [u1,u2].toArray } }:=I1.kept (t':=s1.toks) λb o e=>Ae _ e
 rw [hw]
 refine Aa (Ac ?_)
 show wpAny (model X.prog X.w) X.A (do rule "assign.swapped-stores";let items←unpackItems (.ref s1.heap.objs.size) 2 none;assignInOrder [λv=>bindName X.env y v,λv=>bindName X.env x v] items.reverse;pure Flow.next) _ _ _
 refine Aa (Bo (Aa (unpackItems_tuple (items:=#[u1,u2]) (I.ok.hd hc) (IsTup.new s1.heap _) λh' hx'=>?_)))
 have I3:=I2.kept (h':=h') (t':=s1.toks) λb o e=>hx' b o (AF (Ar e)) e
 show wpAny _ _ (assignInOrder [λv=>bindName X.env y v,λv=>bindName X.env x v] [u2,u1] >>= λ_=>pure Flow.next) _ _ _
 refine Aa (assignInOrder_cons (wpAny_bindName (Gy I3 hN hj (.inl hy) rw' (λs2 I4=>?_) (.inr hy))))
 refine assignInOrder_cons (wpAny_bindName (Gy I4 hN hi (.inl hx) rv (λs3 I5=>assignInOrder_nil (Ac ?_)) (.inr hx)))
 rw [List.set_comm _ _ (Ne.symm hij)] at I5
 exact ⟨_,H1,I5,q1⟩
end
structure It where
 go:Nat->Hp->Prop
 yld:Nat->Hp->V->Hp->Prop
 stop:Nat->Hp->Prop
def Lz (X:Cx)(pins:List (Addr×Obj))(H:Hp)(b:Addr):Prop:=
 H b=none∧b≠X.env.locals∧b∉X.fs∧(b∈X.ex∨X.s₀.heap.objs.size≤b)∧(∀ x c,X.env.cells.lookup x=some c->c≠b)∧∀ p∈X.pn++pins,p.1≠b
theorem Inv.fpOk {X:Cx}{pins:List (Addr×Obj)}{σ:St}{H H':Hp}{s:Shared}{b:Addr}(I:Inv X pins σ H s)(hb:s.heap.objs.size≤b)(hn:H' b=none):Lz X pins H' b:=by
 refine ⟨hn,Nat.ne_of_gt (Az I.lt hb),I.nofs hb,.inr (AL I.sz hb),λx c e z=>?_,λp hp z=>?_⟩
 ·obtain ⟨v,q⟩:=I.cell x c e
  exact absurd (Az q.lt (by rw [z];exact hb)) (Bi _)
 ·exact absurd (Az (Ar (I.pin p hp).1) (by rw [z];exact hb)) (Bi _)
structure Turn (P:Program) (w:World) (K:PySem.W.Frag) (tg:Expr) (J:It) (fp:List Addr) (it:Addr) (tn:Nat->Heap->Prop):Prop where
 mem:it∈fp
 obj:∀ i h,tn i h->∀ b∈fp,∃ o,h.get? b=some o∧∀ v,o.data≠.cell v
 keep:∀ i h h',tn i h->(∀ b∈fp,∀ o,h.get? b=some o->h'.get? b=some o)->tn i h'
 item:∀ (X:Cx),X.prog=P->X.w=w->X.K=K->X.calm=true->∀ (i:Nat) (pins:List (Addr×Obj)) (s:Shared) (σ:St) (H:Hp) (E:Value->Shared->Prop),Inv X pins σ H s->(∀ b∈fp,Lz X pins H b)->tn i s.heap->J.go i H ->
  wpAny (model P w) X.A (pyNext (.ref it)) (λr s1=>∃ u,r=some u ∧
   wpAny (model P w) X.A (letOwnedTupleGo tg (.ref it) u) (λ_ s2=>∃ x H',Inv X pins σ H' s2∧RelV x u∧J.yld i H x H'∧tn (i+1) s2.heap∧∀ b∈fp,H' b=none) E s1) E s
 done:∀ (X:Cx),X.prog=P->X.w=w->X.K=K->X.calm=true->∀ (i:Nat) (pins:List (Addr×Obj)) (s:Shared) (σ:St) (H:Hp) (E:Value->Shared->Prop),Inv X pins σ H s->(∀ b∈fp,Lz X pins H b)->tn i s.heap->J.stop i H ->
  wpAny (model P w) X.A (pyNext (.ref it)) (λr s1=>r=none∧Inv X pins σ H s1) E s
 self:∀ (A:Around) (i:Nat) (s:Shared) (Q:Value->Shared->Prop) (E:Value->Shared->Prop),tn i s.heap->Q (.ref it) s->wpAny (model P w) A (pyIter (.ref it)) Q E s
abbrev TI:=St->Hp->(It->Hp->Prop)->Prop
def PIE (X:Cx)(pins:List (Addr×Obj))(σ:St)(tg:Expr)(R:It->Hp->Prop)(itv:Value)(s2:Shared):Prop:=
 ∃ (it:Addr) (fp:List Addr) (tn:Nat->Heap->Prop) (J:It) (H':Hp),itv=.ref it∧Inv X pins σ H' s2∧Turn X.prog X.w X.K tg J fp it tn∧tn 0 s2.heap∧(∀ b∈fp,Lz X pins H' b)∧R J H'
def PI (X:Cx)(tg iter:Expr)(wi:TI):Prop:=
 ∀ (pins:List (Addr×Obj)) (s:Shared) (σ:St) (H:Hp) (R:It->Hp->Prop),Inv X pins σ H s->wi σ H R ->
  wpAny (model X.prog X.w) X.A (eval iter X.env) (λv s1=>wpAny (model X.prog X.w) X.A (pyIter v) (PIE X pins σ tg R) X.xe s1) X.xe s
theorem Q3 {M:Model}{A:Around}{E:Value->Shared->Prop}{s:Shared}{tg:Expr}{it:Addr}{u:Value}{o:Obj}{n:String}{vs:Array Value}{Q:Unit->Shared->Prop}(ho:s.heap.get? it=some o)(hc:o.cls=.type n)(hd:o.data=.fields vs)
  (hn:["enumerate","zip","dict_itemiterator","dict_reverseitemiterator","odict_iterator","itertools.zip_longest","itertools.pairwise"].contains n=false) (hQ:Q () s):wpAny M A (letOwnedTupleGo tg (.ref it) u) Q E s:=by
 unfold letOwnedTupleGo
 cases tg<;>first
  | exact Ac hQ
  | (cases u<;>first
    | exact Ac hQ
    | (refine Aa (wpAny_load ho ?_);rw [hc,hd];show wpAny M A (if (["enumerate","zip","dict_itemiterator","dict_reverseitemiterator","odict_iterator","itertools.zip_longest","itertools.pairwise"].contains n&&vs[0]?==some (rawInt _))=true then _ else _) Q E s;rw [if_neg (by intro h;rw [hn,BJ] at h;cases h)];exact Ac hQ))
noncomputable def Itl (K:PySem.W.Frag)(a:Addr):It:=
 ⟨λi H=>∃ xs x,SqL K H a xs∧xs[i]? = some x,λi H x H'=>H'=H∧∀ xs,SqL K H a xs->xs[i]? = some x,λi H=>∃ xs,SqL K H a xs∧xs.length≤i⟩
noncomputable def Itt (K:PySem.W.Frag)(a:Addr):It:=
 ⟨λi H=>∃ xs x,SqT K H a xs∧xs[i]? = some x,λi H x H'=>H'=H∧∀ xs,SqT K H a xs->xs[i]? = some x,λi H=>∃ xs,SqT K H a xs∧xs.length≤i⟩
noncomputable def Itr (lo:Int)(n:Nat):It:=⟨λi _=>i<n,λi H x H'=>H'=H∧x=.int (lo+i),λi _=>n≤i⟩
theorem Sa {P:Program}{w:World}{K:PySem.W.Frag}{tg:Expr}(a it:Addr):Turn P w K tg (Itl K a) [it] it (λi h=>h.IsListIter it a i) where
 mem:=by simp
 obj:=λi h st b hb=>by
  have e:b=it:=by simpa using hb
  subst e
  obtain ⟨o,e,c,d⟩:=st
  exact ⟨o,e,λv z=>by rw [d] at z;cases z⟩
 keep:=λi h h' st k=>st.at λo e=>k it (by simp) o e
 item:=by
  intro X hP hw hK hc i pins s σ H E I hf st hg
  subst hP hw hK
  obtain ⟨xs,x,hq,hx⟩:=hg
  obtain ⟨its,rv,p,hz⟩:=I.list hq
  obtain ⟨u,hu,ru⟩:=rv.get hx
  obtain ⟨f0,f1,f2,f3,f4,f5⟩:=hf it (by simp)
  refine wpAny_pyNext_list_item st p.isList (x:=u) (by simpa using hu) λh' st' sb=>?_
  have I1:Inv X pins σ H { s with heap:=h' }:=I.turned (t':=s.toks) (λb o hb e=>(sb.2 b hb).trans e) f0 f1 f3 f4 f5
  obtain ⟨o,e,c,d⟩:=id st'
  exact ⟨u,rfl,Q3 (s:={ s with heap:=h' }) e c d (by decide) ⟨x,H,I1,ru,⟨rfl,λys hy=>by rw [I.list_inj hy hq];exact hx⟩,st',λb hb=>(hf b hb).1⟩⟩
 done:=by
  intro X hP hw hK hc i pins s σ H E I hf st hg
  subst hP hw hK
  obtain ⟨xs,hq,hx⟩:=hg
  obtain ⟨its,rv,p,hz⟩:=I.list hq
  obtain ⟨f0,f1,f2,f3,f4,f5⟩:=hf it (by simp)
  have hl:=rv.length
  exact wpAny_pyNext_list_end (I.ok.hd hc) st p.isList (by simp;ext) λh' eb=>⟨rfl,I.turned (t':=s.toks) (λb o hb e=>eb b o hb e) f0 f1 f3 f4 f5⟩
 self:=λ_ _ _ _ _ st h=>wpAny_pyIter_listiter st h
theorem QD {P:Program}{w:World}{K:PySem.W.Frag}{tg:Expr}(a it:Addr):Turn P w K tg (Itt K a) [it] it (λi h=>h.IsTupleIter it a i) where
 mem:=by simp
 obj:=λi h st b hb=>by
  have e:b=it:=by simpa using hb
  subst e
  obtain ⟨o,e,c,d⟩:=st
  exact ⟨o,e,λv z=>by rw [d] at z;cases z⟩
 keep:=λi h h' st k=>st.at λo e=>k it (by simp) o e
 item:=by
  intro X hP hw hK hc i pins s σ H E I hf st hg
  subst hP hw hK
  obtain ⟨xs,x,hq,hx⟩:=hg
  obtain ⟨its,rv,p,hz⟩:=I.tuple hq
  obtain ⟨u,hu,ru⟩:=rv.get hx
  obtain ⟨f0,f1,f2,f3,f4,f5⟩:=hf it (by simp)
  refine wpAny_pyNext_tuple_item st (show s.heap.IsTuple a its.toArray from p) (x:=u) (by simpa using hu) λh' st' sb=>?_
  have I1:Inv X pins σ H { s with heap:=h' }:=I.turned (t':=s.toks) (λb o hb e=>(sb.2 b hb).trans e) f0 f1 f3 f4 f5
  obtain ⟨o,e,c,d⟩:=id st'
  exact ⟨u,rfl,Q3 (s:={ s with heap:=h' }) e c d (by decide) ⟨x,H,I1,ru,⟨rfl,λys hy=>by rw [I.tuple_inj hy hq];exact hx⟩,st',λb hb=>(hf b hb).1⟩⟩
 done:=by
  intro X hP hw hK hc i pins s σ H E I hf st hg
  subst hP hw hK
  obtain ⟨xs,hq,hx⟩:=hg
  obtain ⟨its,rv,p,hz⟩:=I.tuple hq
  obtain ⟨f0,f1,f2,f3,f4,f5⟩:=hf it (by simp)
  have hl:=rv.length
  exact wpAny_pyNext_tuple_end (I.ok.hd hc) st (show s.heap.IsTuple a its.toArray from p) (by simp;ext) λh' eb=>⟨rfl,I.turned (t':=s.toks) (λb o hb e=>eb b o hb e) f0 f1 f3 f4 f5⟩
 self:=λ_ _ _ _ _ st h=>wpAny_pyIter_tupleiter st h
theorem Qu {P:Program}{w:World}{K:PySem.W.Frag}{tg:Expr}(it:Addr)(lo:Int)(n:Nat):Turn P w K tg (Itr lo n) [it] it (λi h=>IsRangeIter h it (lo+(i:Nat)*1) ((n:Int)-(i:Nat)) 1) where
 mem:=by simp
 obj:=λi h st b hb=>by
  have e:b=it:=by simpa using hb
  subst e
  exact ⟨_,st,λv z=>by
   have z':Data.fields _=Data.cell v:=z
   cases z'⟩
 keep:=λi h h' st k=>k it (by simp) _ st
 item:=by
  intro X hP hw hK hc i pins s σ H E I hf st hg
  subst hP hw hK
  obtain ⟨f0,f1,f2,f3,f4,f5⟩:=hf it (by simp)
  have W:=Walks.range (prog:=X.prog) (w:=X.w) (I.ok.hd hc) it lo 1 n
  refine W.item i s _ _ hg st λv h' tk hv st' kk=>?_
  obtain ⟨t,rfl⟩:=hv
  have I1:Inv X pins σ H { s with heap:=h',toks:=tk }:=I.turned (λb o hb e=>kk b o (by simpa using hb) e) f0 f1 f3 f4 f5
  refine ⟨_,rfl,Q3 (s:={ s with heap:=h',toks:=tk }) (n:="range_iterator") st' rfl rfl (by decide) ⟨.int (lo+i),H,I1,⟨t,?_⟩,⟨rfl,rfl⟩,st',λb hb=>(hf b hb).1⟩⟩
  rw [Int.mul_one]
 done:=by
  intro X hP hw hK hc i pins s σ H E I hf st hg
  subst hP hw hK
  obtain ⟨f0,f1,f2,f3,f4,f5⟩:=hf it (by simp)
  exact wpAny_pyNext_range_end (I.ok.hd hc) st (by have:n≤i:=hg;ext) λh' eb=>⟨rfl,I.turned (t':=s.toks) (λb o hb e=>eb b o hb e) f0 f1 f3 f4 f5⟩
 self:=λ_ _ _ _ _ st h=>wpAny_pyIter_rangeiter st h
section
variable {X:Cx} {tg:Expr}
def Aam (K:PySem.W.Frag)(tl:TE):TI:=fun σ H R=>tl σ H λx H1=>∃ a,x=.ref a∧(∃ xs,SqL K H1 a xs)∧R (Itl K a) H1
def AcA (K:PySem.W.Frag)(tl:TE):TI:=fun σ H R=>tl σ H λx H1=>∃ a,x=.ref a∧(∃ xs,SqT K H1 a xs)∧R (Itt K a) H1
theorem RB {l:Expr}{tl:TE}(hl:PE X l tl):PI X tg l (Aam X.K tl):=by
 intro pins s σ H R I h
 refine thn (hl pins s σ H _ I h) λv s1 ⟨x,H1,I1,r1,q1⟩=>?_
 obtain ⟨a,e,⟨xs,hq⟩,q⟩:=q1
 subst e
 cases r1
 obtain ⟨its,rv,p,hz⟩:=I1.list hq
 refine wpAny_pyIter_list p.isList ?_
 refine ⟨s1.heap.objs.size,[s1.heap.objs.size],_,_,H1,rfl,I1.kept (t':=s1.toks) λb o e=>Ae _ e,Sa a _,⟨_,Aq _ rfl,rfl,rfl⟩,λb hb=>?_,q⟩
 have e:b=s1.heap.objs.size:=by simpa using hb
 subst e
 exact I1.fpOk (Al _) (I1.hok.fresh (Al _))
theorem Y2 {l:Expr}{tl:TE}(hl:PE X l tl):PI X tg l (AcA X.K tl):=by
 intro pins s σ H R I h
 refine thn (hl pins s σ H _ I h) λv s1 ⟨x,H1,I1,r1,q1⟩=>?_
 obtain ⟨a,e,⟨xs,hq⟩,q⟩:=q1
 subst e
 cases r1
 obtain ⟨its,rv,p,hz⟩:=I1.tuple hq
 refine wpAny_pyIter_tuple (show s1.heap.IsTuple a its.toArray from p) ?_
 refine ⟨s1.heap.objs.size,[s1.heap.objs.size],_,_,H1,rfl,I1.kept (t':=s1.toks) λb o e=>Ae _ e,QD a _,⟨_,Aq _ rfl,rfl,rfl⟩,λb hb=>?_,q⟩
 have e:b=s1.heap.objs.size:=by simpa using hb
 subst e
 exact I1.fpOk (Al _) (I1.hok.fresh (Al _))
theorem Vb {pins:List (Addr×Obj)}{σ:St}{H:Hp}{s:Shared}{R:It->Hp->Prop}{E:Value->Shared->Prop}{lo hi:Int}{t u v:Tok}{tk:Nat}(I:Inv X pins σ H s)(h1:-(2 ^ 62)≤lo)(h2:lo<2 ^ 62)(h3:-(2 ^ 62)≤hi)(h4:hi<2 ^ 62)
  (q:R (Itr lo (hi-lo).toNat) H):wpAny (model X.prog X.w) X.A (pyIter (.ref s.heap.objs.size)) (PIE X pins σ tg R) E { s with heap:=s.heap.push { cls:=.type "range",data:=.fields #[.int lo t,.int hi u,.int 1 v] },toks:=tk }:=by
 refine wpAny_pyIter_range (IsRange.new ..) (small_one h1 h2 h3 h4) ?_
 have I1:Inv X pins σ H { s with heap:=s.heap.push { cls:=.type "range",data:=.fields #[.int lo t,.int hi u,.int 1 v] },toks:=tk }:=I.kept λb o e=>Ae _ e
 refine ⟨(s.heap.push { cls:=.type "range",data:=.fields #[.int lo t,.int hi u,.int 1 v] }).objs.size,[(s.heap.push { cls:=.type "range",data:=.fields #[.int lo t,.int hi u,.int 1 v] }).objs.size],_,_,H,rfl,
  I1.kept (t':=tk) λb o e=>Ae _ e,Qu _ lo (hi-lo).toNat,?_,λb hb=>?_,q⟩
 ·have e1:lo+((0:Nat):Int)*1=lo:=by simp
  have e2:(((hi-lo).toNat:Nat):Int)-((0:Nat):Int)=Builtin.Range.rangeSize lo hi 1:=by rw [rangeSize_one];split<;>ext
  show IsRangeIter _ _ (lo+((0:Nat):Int)*1) ((((hi-lo).toNat:Nat):Int)-((0:Nat):Int)) 1
  rw [e1,e2]
  exact Aq _ rfl
 ·have e:b=(s.heap.push { cls:=.type "range",data:=.fields #[.int lo t,.int hi u,.int 1 v] }).objs.size:=by simpa using hb
  subst e
  exact I1.fpOk (Al _) (I1.hok.fresh (Al _))
def Abg (ta:TA):TI:=fun σ H R=>ta σ H λvs H1=>∃ j:Int,vs=[.int j]∧-(2 ^ 62)≤j∧j<2 ^ 62∧R (Itr 0 j.toNat) H1
theorem Si {a:Expr}{ta:TA}{p pos:Pos}(hg:Gl X "range")(hm:X.mg "range"=none)(ha:PA X [a] ta)(hs:starEach [a] X.env=[(false,eval a X.env)]:=by rfl):PI X tg (.Call (.Name "range" p) [a] [] pos) (Abg ta):=by
 intro pins s σ H R I h
 refine Call_ (NM I hg hm boot_range (PyProof.Rows.callWith_type1 (thn (ha pos pins s σ H _ I h) λus s1 ⟨vs,H1,I1,r1,q1⟩=>?_) hs rfl))
 obtain ⟨j,e,q1,q2,q⟩:=q1
 subst e
 cases r1 with
 | cons r rr =>
  cases rr
  obtain ⟨t,rfl⟩:=r
  exact call_range_1 (Vb I1 (by ext) (by ext) q1 q2 (by simpa using q))
def Ab8 (wi:TI)(g:TG)(tb:TS):TS:=λD σ H=>wi σ H λJ H1=>∃ W:Nat->Nat->St->Hp->Prop,(∃ m,W 0 m σ H1)∧∀ i m σ H,W i m σ H ->
 (J.stop i H∧D.nx σ H)∨(J.go i H∧∃ N:St->Hp->Prop,(∀ σ' H',N σ' H'->∃ m',m'<m∧W (i+1) m' σ' H')∧∀ x H',J.yld i H x H'->g x σ H' fun σ2 H2=>tb { D with nx:=N,ct:=N,bk:=D.nx } σ2 H2)
noncomputable def JX (fp:List Addr)(h:Heap):List (Addr×Obj):=fp.filterMap λb=>(h.get? b).map λo=>(b,o)
theorem HR {fp:List Addr}{h:Heap}{b:Addr}{o:Obj}(hb:b∈fp)(e:h.get? b=some o):(b,o)∈JX fp h:=List.mem_filterMap.mpr ⟨b,hb,by rw [e];rfl⟩
theorem Na {fp:List Addr}{h:Heap}{p:Addr×Obj}(hp:p∈JX fp h):p.1∈fp∧h.get? p.1=some p.2:=by
 obtain ⟨b,hb,e⟩:=List.mem_filterMap.mp hp
 cases q:h.get? b with
 | none=>rw [q] at e;cases e
 | some o =>
  rw [q] at e
  have e':(b,o)=p:=AN e
  subst e'
  exact ⟨hb,q⟩
theorem Inv.pinned {pins:List (Addr×Obj)}{σ:St}{H:Hp}{s:Shared}{fp:List Addr}(I:Inv X pins σ H s)(hf:∀ b∈fp,Lz X pins H b)(ho:∀ b∈fp,∃ o,s.heap.get? b=some o∧∀ v,o.data≠.cell v):Inv X (pins++JX fp s.heap) σ H s:=
 I.pins_of λp hp=>(Aj.mp hp).elim (λz=>I.pin p (Ax _ z)) λz=>by
  obtain ⟨hb,e⟩:=Na z
  obtain ⟨f0,f1,f2,_⟩:=hf p.1 hb
  obtain ⟨o,e',d⟩:=ho p.1 hb
  rw [e] at e';cases e'
  exact ⟨e,f0,f1,f2,d⟩
theorem Inv.unpinned {pins pl:List (Addr×Obj)}{σ:St}{H:Hp}{s:Shared}(I:Inv X (pins++pl) σ H s):Inv X pins σ H s:=I.pins_of λp hp=>I.pin p (Ax _ (Bc _ hp))
theorem ZE {iter:Expr}{body:List Stmt}{wi:TI}{g:TG}{tb:TS}{pos:Pos}(hp:PassesOwn (model X.prog X.w) X.A X.env X.xe)(hc:X.calm=true)(hi:PI X tg iter wi)(hg:PG X tg g)(hb:PSs X body tb)
  (hs:∀ x,foldedSetIterable iter X.env x=pure x:=by intro _;rfl):PS X (.For tg iter body [] pos) (Ab8 wi g tb):=by
 intro pins s σ H D I h
 refine wpAny_For (thn (hi pins s σ H _ I h) λv s1 h1=>thn h1 λitv s2 h2=>?_) hs
 obtain ⟨it,fp,tn,J,H2,e,I2,T,st2,f2,W,⟨m0,w0⟩,turn⟩:=h2
 subst e
 have stat:∀ {H':Hp},(∀ b∈fp,H' b=none)->∀ b∈fp,Lz X pins H' b:=λhn b hb=>⟨hn b hb,(f2 b hb).2⟩
 refine codeAny_forLoop_any (λn s'=>∃ i σ' H',Inv X pins σ' H' s'∧tn i s'.heap∧(∀ b∈fp,H' b=none)∧W i n σ' H') ?_ m0 ⟨0,σ,H2,I2,st2,λb hb=>(f2 b hb).1,w0⟩
 rintro n s3 ⟨i,σ3,H3,I3,st3,fr3,w3⟩
 rcases turn i n σ3 H3 w3 with ⟨stop,qn⟩|⟨go,N,hN,step⟩
 ·refine wpAny_passesOwn hp (thn (T.done X rfl rfl rfl hc i pins s3 σ3 H3 X.xe I3 (stat fr3) st3 stop) λr s4 ⟨hr,I4⟩=>?_)
  subst hr
  exact wpAny_execs_nil ⟨σ3,H3,I4,qn⟩
 ·refine wpAny_passesOwn hp (thn (T.item X rfl rfl rfl hc i pins s3 σ3 H3 X.xe I3 (stat fr3) st3 go) λr s4 ⟨u,hr,h4⟩=>?_)
  subst hr
  refine wpAny_passesOwn hp (thn h4 λ_ s5 ⟨x,H5,I5,r5,y5,st5,fr5⟩=>?_)
  have I5':=I5.pinned (stat fr5) (T.obj _ _ st5)
  refine wpAny_passesOwn hp (thn (hg _ s5 σ3 H5 x u _ I5' r5 (step x H5 y5)) λ_ s6 ⟨σ6,H6,I6,q6⟩=>?_)
  refine wpAny_passesOwn hp (thn (hb _ s6 σ6 H6 _ I6 q6) λf s7 q7=>?_)
  have again:∀ {σ7:St} {H7:Hp},Inv X (pins++JX fp s5.heap) σ7 H7 s7->N σ7 H7->∃ m,m<n∧∃ i σ' H',Inv X pins σ' H' s7∧tn i s7.heap∧(∀ b∈fp,H' b=none)∧W i m σ' H':=λ{σ7 H7} I7 n7=>by
   obtain ⟨m',hm,w7⟩:=hN σ7 H7 n7
   refine ⟨m',hm,i+1,σ7,H7,I7.unpinned,T.keep _ _ _ st5 λb hb o e=>(I7.pin (b,o) (Ax _ (Ax _ (HR hb e)))).1,λb hb=>?_,w7⟩
   obtain ⟨o,e,d⟩:=T.obj _ _ st5 b hb
   exact (I7.pin (b,o) (Ax _ (Ax _ (HR hb e)))).2.1
  cases f with
  | next=>obtain ⟨σ7,H7,I7,n7⟩:=q7;exact again I7 n7
  | cont=>obtain ⟨σ7,H7,I7,n7⟩:=q7;exact again I7 n7
  | brk=>obtain ⟨σ7,H7,I7,q7⟩:=q7;exact ⟨σ7,H7,I7.unpinned,q7⟩
  | ret v=>obtain ⟨x7,σ7,H7,I7,r7,q7⟩:=q7;exact ⟨x7,σ7,H7,I7.unpinned,r7,q7⟩
end
abbrev R2:=V->V->Hp->VK->Prop
def OpR (X:Cx)(f:Value->Value->Sem Value)(r:R2):Prop:=
 ∀ (pins:List (Addr×Obj)) (s:Shared) (σ:St) (H:Hp) (x y:V) (v u:Value) (Q:VK),Inv X pins σ H s->RelV x v->RelV y u->r x y H Q ->
  wpAny (model X.prog X.w) X.A (f v u) (EP X pins σ Q) X.xe s
def UnR (X:Cx)(f:Value->Sem Value)(r:V->Hp->VK->Prop):Prop:=
 ∀ (pins:List (Addr×Obj)) (s:Shared) (σ:St) (H:Hp) (x:V) (v:Value) (Q:VK),Inv X pins σ H s->RelV x v->r x H Q ->
  wpAny (model X.prog X.w) X.A (f v) (EP X pins σ Q) X.xe s
def Hy (X:Cx)(f:Value)(r:List V->Hp->VK->Prop):Prop:=
 ∀ (pins:List (Addr×Obj)) (s:Shared) (σ:St) (H:Hp) (xs:List V) (us:List Value) (Q:VK),Inv X pins σ H s->Vals xs us->r xs H Q ->
  wpAny (model X.prog X.w) X.A (call f us) (EP X pins σ Q) X.xe s
def tOp (r:R2)(ta tb:TE):TE:=fun σ H Q=>ta σ H λx H1=>tb σ H1 λy H2=>r x y H2 Q
def tUn (r:V->Hp->VK->Prop)(ta:TE):TE:=fun σ H Q=>ta σ H λx H1=>r x H1 Q
def rI (C:Int->Int->Prop)(g:Int->Int->V):R2:=λx y H Q=>∃ i j,x=.int i∧y=.int j∧C i j∧Q (g i j) H
def rI0 (g:Int->Int->V):R2:=λx y H Q=>∃ i j,x=.int i∧y=.int j∧Q (g i j) H
def rU (g:Int->V):V->Hp->VK->Prop:=λx H Q=>∃ i,x=.int i∧Q (g i) H
section
variable {X:Cx} {a b c:Expr} {ta tb tc:TE} {pos:Pos}
theorem YT (ha:PE X a ta)(hb:PE X b tb){pins:List (Addr×Obj)}{s:Shared}{σ:St}{H:Hp}{R:V->V->Hp->Prop}(I:Inv X pins σ H s)
  (h:ta σ H λx H1=>tb σ H1 λy H2=>R x y H2) {Q:Value->Shared->Prop} {f:Value->Value->Sem Value}
  (hf:∀ v u s2 x y H2,Inv X pins σ H2 s2->RelV x v->RelV y u->R x y H2->wpAny (model X.prog X.w) X.A (f v u) Q X.xe s2) :
  wpAny (model X.prog X.w) X.A (eval a X.env) (λv s₁=>wpAny (model X.prog X.w) X.A (eval b X.env) (λu s₂=>wpAny (model X.prog X.w) X.A (f v u) Q X.xe s₂) X.xe s₁) X.xe s:=by
 refine thn (ha pins s σ H _ I h) λv s1 ⟨x,H1,I1,r1,q1⟩=>?_
 refine thn (hb pins s1 σ H1 _ I1 q1) λu s2 ⟨y,H2,I2,r2,q2⟩=>?_
 exact hf v u s2 x y H2 I2 r1 r2 q2
theorem AbF {op:Operator}{r:R2}(ho:OpR X (binaryOp op) r)(ha:PE X a ta)(hb:PE X b tb):PE X (.BinOp a op b pos) (tOp r ta tb):=by
 intro pins s σ H Q I h
 exact wpAny_BinOp (YT ha hb I h λv u s2 x y H2 I2 rx ry q=>ho pins s2 σ H2 x y v u Q I2 rx ry q)
theorem Z7 {op:UnaryOp}{r:V->Hp->VK->Prop}(ho:UnR X (unaryOp op) r)(ha:PE X a ta):PE X (.UnaryOp op a pos) (tUn r ta):=by
 intro pins s σ H Q I h
 exact UnaryOp_ (thn (ha pins s σ H _ I h) λv s1 ⟨x,H1,I1,r1,q1⟩=>ho pins s1 σ H1 x v Q I1 r1 q1)
theorem opI {f:Value->Value->Sem Value}{C:Int->Int->Prop}{g:Int->Int->Int}
  (rule:∀ (i j:Int) (t u:Tok) (s:Shared) (Q:Value->Shared->Prop) (E:Value->Shared->Prop),C i j->Q (.int (g i j) s.toks) { s with toks:=s.toks+1 }->wpAny (model X.prog X.w) X.A (f (.int i t) (.int j u)) Q E s) :
  OpR X f (rI C λi j=>.int (g i j)):=by
 intro pins s σ H x y v u Q I rx ry h
 obtain ⟨i,j,rfl,rfl,hc,q⟩:=h
 obtain ⟨t,rfl⟩:=rx
 obtain ⟨t',rfl⟩:=ry
 exact rule i j t t' s _ _ hc ⟨.int (g i j),H,I.tok _,⟨_,rfl⟩,q⟩
theorem Aak {f:Value->Value->Sem Value}{g:Int->Int->Int}
  (rule:∀ (i j:Int) (t u:Tok) (s:Shared) (Q:Value->Shared->Prop) (E:Value->Shared->Prop),Q (.int (g i j) s.toks) { s with toks:=s.toks+1 }->wpAny (model X.prog X.w) X.A (f (.int i t) (.int j u)) Q E s) :
  OpR X f (rI0 λi j=>.int (g i j)):=by
 intro pins s σ H x y v u Q I rx ry h
 obtain ⟨i,j,rfl,rfl,q⟩:=h
 obtain ⟨t,rfl⟩:=rx
 obtain ⟨t',rfl⟩:=ry
 exact rule i j t t' s _ _ ⟨.int (g i j),H,I.tok _,⟨_,rfl⟩,q⟩
theorem XE {f:Value->Value->Sem Value}{g:Int->Int->Bool}
  (rule:∀ (i j:Int) (t u:Tok) (s:Shared) (Q:Value->Shared->Prop) (E:Value->Shared->Prop),Q (.bool (g i j)) s->wpAny (model X.prog X.w) X.A (f (.int i t) (.int j u)) Q E s) :
  OpR X f (rI0 λi j=>.bl (g i j)):=by
 intro pins s σ H x y v u Q I rx ry h
 obtain ⟨i,j,rfl,rfl,q⟩:=h
 obtain ⟨t,rfl⟩:=rx
 obtain ⟨t',rfl⟩:=ry
 exact rule i j t t' s _ _ ⟨.bl (g i j),H,I,rfl,q⟩
def Ov (i j:Int):Prop:=0<j∧j<1073741824
def S4 (i j:Int):Prop:=0≤j∧j≤1000000∧i.natAbs<2 ^ 64
def CMul (i j:Int):Prop:=(-(2 ^ 64)<i∧i<2 ^ 64)∨(-(2 ^ 64)<j∧j<2 ^ 64)
theorem CMul.ok {i j:Int}(h:CMul i j):IntMulOk i j:=by
 rcases h with ⟨h1,h2⟩|⟨h1,h2⟩
 ·exact .of_left (intBits_le_64 h1 h2)
 ·exact .of_right (intBits_le_64 h1 h2)
theorem YK:OpR X (binaryOp .Add) (rI0 λi j=>.int (i+j)):=Aak λ_ _ _ _ _ _ _ q=>add_int q
theorem Zi:OpR X (binaryOp .Sub) (rI0 λi j=>.int (i-j)):=Aak λ_ _ _ _ _ _ _ q=>sub_int q
theorem Zo:OpR X (binaryOp .Mult) (rI CMul λi j=>.int (i*j)):=opI λ_ _ _ _ _ _ _ hc q=>mul_int q hc.ok
theorem WO:OpR X (binaryOp .FloorDiv) (rI Ov λi j=>.int (i / j)):=opI λi j _ _ _ _ _ hc q=>by
 have h1:(0:Int)<j:=hc.1
 have h2:j<1073741824:=hc.2
 exact floordiv_int (by ext) (by rw [Int.fdiv_eq_ediv_of_nonneg i (by ext)];exact q) (.inl (PyProof.noPylong_small (by ext)))
theorem Ys:OpR X (binaryOp .Mod) (rI (λ_ j=>0<j) λi j=>.int (i % j)):=opI λi j _ _ _ _ _ hc q=>by
 have h1:(0:Int)<j:=hc
 exact mod_int' (by ext) (by rw [Int.fmod_eq_emod_of_nonneg i (by ext)];exact q)
theorem Yk:OpR X (binaryOp .Pow) (rI S4 λi j=>.int (i ^ j.toNat)):=opI λ_ _ _ _ _ _ _ hc q=>pow_int_small hc.1 hc.2.1 hc.2.2 q
theorem unI {f:Value->Sem Value}{g:Int->Int}
  (rule:∀ (i:Int) (t:Tok) (s:Shared) (Q:Value->Shared->Prop) (E:Value->Shared->Prop),Q (.int (g i) s.toks) { s with toks:=s.toks+1 }->wpAny (model X.prog X.w) X.A (f (.int i t)) Q E s) :
  UnR X f (rU λi=>.int (g i)):=by
 intro pins s σ H x v Q I rx h
 obtain ⟨i,rfl,q⟩:=h
 obtain ⟨t,rfl⟩:=rx
 exact rule i t s _ _ ⟨.int (g i),H,I.tok _,⟨_,rfl⟩,q⟩
theorem Yc:UnR X (unaryOp .USub) (rU λi=>.int (-i)):=unI λ_ _ _ _ _ q=>neg_int q
theorem KL {pins:List (Addr×Obj)}{σ:St}{H:Hp}{s:Shared}{Q:VK}{k k':Bool}(I:Inv X pins σ H s)(q:Q (.bl k) H)(e:k=k'):EP X pins σ Q (.bool k') s:=by
 subst e
 exact ⟨.bl k,H,I,rfl,q⟩
theorem AaD:OpR X (compareOp .LtE) (rI0 λi j=>.bl (decide (i≤j))):=XE λ_ _ _ _ _ _ _ q=>le_int q
theorem Aaz:OpR X (compareOp .Gt) (rI0 λi j=>.bl (decide (j<i))):=XE λ_ _ _ _ _ _ _ q=>gt_int q
theorem ZV:OpR X (compareOp .GtE) (rI0 λi j=>.bl (decide (j≤i))):=XE λ_ _ _ _ _ _ _ q=>ge_int q
theorem Sr:OpR X (compareOp .In) (λx y H Q=>∃ i j,x=.str i∧y=.str j∧Q (.bl (!(Builtin.Str.occurrences j i 0 j.length 1).isEmpty)) H):=by
 intro pins s σ H x y v u Q I rx ry h
 obtain ⟨i,j,rfl,rfl,q⟩:=h
 obtain ⟨t,rfl⟩:=rx
 obtain ⟨t',rfl⟩:=ry
 exact in_str (KL I q rfl)
theorem YB:OpR X (compareOp .Is) (λx y H Q=>y=.non∧Q (.bl (decide (x=.non))) H):=by
 intro pins s σ H x y v u Q I rx ry h
 obtain ⟨rfl,q⟩:=h
 cases ry
 refine is_none_gen (KL I q ?_)
 cases x<;>first
  | (cases rx;rfl)
  | (obtain ⟨t,rfl⟩:=rx;rfl)
theorem V7:OpR X (compareOp .IsNot) (λx y H Q=>y=.non∧Q (.bl (!decide (x=.non))) H):=by
 intro pins s σ H x y v u Q I rx ry h
 obtain ⟨rfl,q⟩:=h
 cases ry
 refine isnot_none_gen (KL I q ?_)
 cases x<;>first
  | (cases rx;rfl)
  | (obtain ⟨t,rfl⟩:=rx;rfl)
theorem Og:OpR X (compareOp .NotIn) (λx y H Q=>∃ i j,x=.str i∧y=.str j∧Q (.bl (!(!(Builtin.Str.occurrences j i 0 j.length 1).isEmpty))) H):=by
 intro pins s σ H x y v u Q I rx ry h
 obtain ⟨i,j,rfl,rfl,q⟩:=h
 obtain ⟨t,rfl⟩:=rx
 obtain ⟨t',rfl⟩:=ry
 exact notIn_str (KL I q rfl)
theorem Ue (b:Expr){op:CmpOp}(h:op≠.In:=by decide)(h2:op≠.NotIn:=by decide):behindInMarks op b=false:=by
 have e1:(op==CmpOp.In)=false:=by cases op<;>first|rfl|exact absurd rfl h
 have e2:(op==CmpOp.NotIn)=false:=by cases op<;>first|rfl|exact absurd rfl h2
 cases b<;>simp [behindInMarks,e1,e2]
theorem Wj {op:CmpOp}{r:R2}(ho:OpR X (compareOp op) r)(ha:PE X a ta)(hb:PE X b tb)(hm:behindInMarks op b=false):PE X (.Compare a [op] [b] pos) (tOp r ta tb):=by
 intro pins s σ H Q I h
 exact wpAny_Compare1 (YT ha hb I h λv u s2 x y H2 I2 rx ry q=>ho pins s2 σ H2 x y v u Q I2 rx ry q) hm
def Ts (t:TE):TT:=fun σ H Q=>t σ H λx H'=>∃ k,x=.bl k∧Q k H'
theorem Wa {op:CmpOp}{r:R2}(ho:OpR X (compareOp op) r)(ha:PE X a ta)(hb:PE X b tb)(hm:behindInMarks op b=false):PT X (.Compare a [op] [b] pos) (Ts (tOp r ta tb)):=by
 intro pins s σ H Q I h
 refine wpAny_isTrue_Compare1 (thn (ha pins s σ H _ I h) λv s1 ⟨x,H1,I1,r1,q1⟩=>thn (hb pins s1 σ H1 _ I1 q1) λu s2 ⟨y,H2,I2,r2,q2⟩ =>
  thn (ho pins s2 σ H2 x y v u _ I2 r1 r2 q2) λc s3 ⟨z,H3,I3,r3,k,e,q3⟩=>?_) hm
 subst e
 cases r3
 exact Bt ⟨H3,I3,q3⟩
def Qb (r r':R2)(ta tb tc:TE):TE:=fun σ H Q=>ta σ H λx H1=>tb σ H1 λy H2=>r x y H2 λz H3=>∃ k,z=.bl k ∧
 (if k=true then tc σ H3 λw' H4=>r' y w' H4 Q else Q (.bl false) H3)
theorem Ta {op op':CmpOp}{r r':R2}(ho:OpR X (compareOp op) r)(ho':OpR X (compareOp op') r')(ha:PE X a ta)(hb:PE X b tb)(hc:PE X c tc)
  (hm:lastMarks [op,op'] [b,c]=false:=by with_unfolding_all rfl):PE X (.Compare a [op,op'] [b,c] pos) (Qb r r' ta tb tc):=by
 intro pins s σ H Q I h
 refine Compare_chain (thn (ha pins s σ H _ I h) λv s1 ⟨x,H1,I1,r1,q1⟩=>chain_link (thn (hb pins s1 σ H1 _ I1 q1) λu s2 ⟨y,H2,I2,r2,q2⟩ =>
  thn (ho pins s2 σ H2 x y v u _ I2 r1 r2 q2) λd s3 ⟨z,H3,I3,r3,k,e,q3⟩=>?_)) hm
 subst e
 cases r3
 refine Bt ?_
 cases k with
 | false=>exact ite_ff ⟨.bl false,H3,I3,rfl,q3⟩
 | true=>exact ite_tt (chain_last (thn (hc pins s3 σ H3 _ I3 q3) λw' s4 ⟨z',H4,I4,r4,q4⟩=>ho' pins s4 σ H4 y z' u w' Q I4 r2 r4 q4))
theorem UO {op op':CmpOp}{r r':R2}(ho:OpR X (compareOp op) r)(ho':OpR X (compareOp op') r')(ha:PE X a ta)(hb:PE X b tb)(hc:PE X c tc)
  (hm:lastMarks [op,op'] [b,c]=false:=by with_unfolding_all rfl):PT X (.Compare a [op,op'] [b,c] pos) (Ts (Qb r r' ta tb tc)):=by
 intro pins s σ H Q I h
 refine isTrue_chain (thn (ha pins s σ H _ I h) λv s1 ⟨x,H1,I1,r1,q1⟩=>test_link (thn (hb pins s1 σ H1 _ I1 q1) λu s2 ⟨y,H2,I2,r2,q2⟩ =>
  thn (ho pins s2 σ H2 x y v u _ I2 r1 r2 q2) λd s3 ⟨z,H3,I3,r3,k,e,q3⟩=>?_)) hm
 subst e
 cases r3
 refine Bt ?_
 cases k with
 | false =>
  obtain ⟨k',e',q'⟩:=q3
  cases e'
  exact ite_ff ⟨H3,I3,q'⟩
 | true =>
  refine ite_tt (test_last (thn (hc pins s3 σ H3 _ I3 q3) λw' s4 ⟨z',H4,I4,r4,q4⟩=>thn (ho' pins s4 σ H4 y z' u w' _ I4 r2 r4 q4) λd' s5 ⟨z2,H5,I5,r5,k2,e2,q5⟩=>?_))
  subst e2
  cases r5
  exact Bt ⟨H5,I5,q5⟩
theorem K7:(sizeLine:Nat)<2 ^ 63:=by rw [AD];decide
theorem QF:OpR X (binaryOp .Add) (λx y H Q=>∃ i j,x=.str i∧y=.str j∧i.length+j.length≤sizeLine∧Q (.str (i++j)) H):=by
 intro pins s σ H x y v u Q I rx ry h
 obtain ⟨i,j,rfl,rfl,hz,q⟩:=h
 obtain ⟨t,rfl⟩:=rx
 obtain ⟨t',rfl⟩:=ry
 exact add_str (λt' tk=>⟨.str (i++j),H,I.tok _,⟨_,rfl⟩,q⟩) hz
theorem vals1 {x:V}{us:List Value}(r:Vals [x] us):∃ u,us=[u]∧RelV x u:=by
 cases r with
 | cons r1 r2=>cases r2;exact ⟨_,rfl,r1⟩
theorem vals2 {x y:V}{us:List Value}(r:Vals [x,y] us):∃ u w',us=[u,w']∧RelV x u∧RelV y w':=by
 cases r with
 | cons r1 r2 =>
  cases r2 with
  | cons r3 r4=>cases r4;exact ⟨_,_,rfl,r1,r3⟩
theorem Sz (hc:X.calm=true):Hy X (.builtin "max") (λxs H Q=>∃ i j,xs=[.int i,.int j]∧Q (.int (if j > i then j else i)) H):=by
 intro pins s σ H xs us Q I r h
 obtain ⟨i,j,rfl,q⟩:=h
 obtain ⟨u,w',rfl,⟨t,rfl⟩,⟨t',rfl⟩⟩:=vals2 r
 refine max_two_ints (I.ok.hd hc) λh' tk k=>⟨_,H,I.kept k,?_,q⟩
 by_cases hj:j > i
 ·rw [if_pos hj,if_pos hj];exact ⟨_,rfl⟩
 ·rw [if_neg hj,if_neg hj];exact ⟨_,rfl⟩
theorem S6 (hc:X.calm=true):Hy X (.builtin "min") (λxs H Q=>∃ i j,xs=[.int i,.int j]∧Q (.int (if j<i then j else i)) H):=by
 intro pins s σ H xs us Q I r h
 obtain ⟨i,j,rfl,q⟩:=h
 obtain ⟨u,w',rfl,⟨t,rfl⟩,⟨t',rfl⟩⟩:=vals2 r
 refine min_two_ints (I.ok.hd hc) λh' tk k=>⟨_,H,I.kept k,?_,q⟩
 by_cases hj:j<i
 ·rw [if_pos hj,if_pos hj];exact ⟨_,rfl⟩
 ·rw [if_neg hj,if_neg hj];exact ⟨_,rfl⟩
theorem MS:Hy X (.type "int") (λxs H Q=>(∃ i,xs=[.int i]∧Q (.int i) H)∨∃ k,xs=[.bl k]∧Q (.int (if k then 1 else 0)) H):=by
 intro pins s σ H xs us Q I r h
 rcases h with ⟨i,rfl,q⟩|⟨k,rfl,q⟩
 ·obtain ⟨u,rfl,t,rfl⟩:=vals1 r
  exact call_int_int ⟨.int i,H,I,⟨_,rfl⟩,q⟩
 ·obtain ⟨u,rfl,r1⟩:=vals1 r
  cases r1
  exact call_int_bool ⟨.int (if k then 1 else 0),H,I.tok _,⟨_,rfl⟩,q⟩
end
structure ObjM (h:Heap) (x dx C:Addr) (mA:Str->Option Value):Prop where
 obj:h.get? x=some (PySem.W.instObj C dx)
 ns:h.Ns1 dx mA
 ne:dx≠x
theorem SA {h:Heap}{dx:Addr}{mA:Str->Option Value}(n:h.Ns1 dx mA):∃ od,h.get? dx=some od∧∀ name,PySem.W.lookIn name od=some (mA name):=by
 obtain ⟨o,es,ep,ho,hd,hk,_,hm⟩:=n
 refine ⟨o,ho,λname=>?_⟩
 have e:=hm name
 unfold nsFind findBy at e
 rw [← Array.find?_toList] at e
 unfold PySem.W.lookIn
 rw [hd]
 dsimp only
 split
 ·rename_i y q
  rw [q] at e
  exact congrArg some e
 ·rename_i q
  rw [q] at e
  have a:es.toList.any (·.refKey)=false:=by
   rw [List.any_eq_false]
   intro y hy
   obtain ⟨z,t,hkey⟩:=hk y (Array.mem_toList_iff.mp hy)
   simp [DictEntry.refKey,hkey]
  have a':¬ es.toList.any (·.refKey)=true:=by rw [a];exact AJ
  rw [if_neg a']
  exact congrArg some e
theorem ObjM.look {h:Heap}{x dx C:Addr}{mA:Str->Option Value}(I:ObjM h x dx C mA):∃ od,PySem.W.InstAt h x (PySem.W.instObj C dx) C (some od)∧∀ name,PySem.W.lookIn name od=some (mA name):=
 let ⟨od,ho,hl⟩:=SA I.ns
 ⟨od,⟨I.obj,rfl,rfl,ho⟩,hl⟩
section
variable {P:Program} {w:World} {H H':Hp} {h h':Heap} {a C dx:Addr} {fs fs':List (Str×V)}
theorem WS (hok:HOk P w H h)(e:H a=some (.ins C dx fs)):∃ mA,ObjM h a dx C mA∧(∀ f,Yr (fs.lookup f) (mA f))∧PySem.Within mA (fs.map (·.1))∧fs.length≤1000∧H dx=some (.own a):=by
 obtain ⟨d,z,ne,ob,mA,n,r,q⟩:=(show ObjOk P w H h a (.ins C dx fs) from hok a _ e)
 exact ⟨mA,⟨ob,n,ne⟩,r,q,z,d⟩
end
structure Cls (K:PySem.W.Frag) (C:Addr):Prop where
 pg:PySem.W.plainGet K C Str.empty=true
 hd:PySem.W.hasDictIn K C=true
 po:PySem.W.plainOver K C=true
 sa:PySem.W.findIn K (.ref C) "__setattr__"=some (some (.builtin "object.__setattr__"))
theorem Cls.get {K:PySem.W.Frag}{C:Addr}(c:Cls K C)(f:Str):PySem.W.plainGet K C f=true:=c.pg
section
variable {X:Cx} {pins:List (Addr×Obj)} {σ:St} {H:Hp} {s:Shared} {A:Around} {E:Value->Shared->Prop} {Q:Value->Shared->Prop} {c:Value} {b:Bool}
inductive K9 (K:PySem.W.Frag) (H:Hp):V->Value->Prop where
 | non:K9 K H .non (.type "NoneType")
 | bl (x:Bool):K9 K H (.bl x) (.type "bool")
 | int (i:Int):K9 K H (.int i) (.type "int")
 | str (x:Str):K9 K H (.str x) (.type "str")
 | flt (x:UInt64):K9 K H (.flt x) (.type "float")
 | lst {a:Addr} {xs:List V} (e:H a=some (.lst xs)):K9 K H (.ref a) (.type "list")
 | frz {a:Addr} {o:Obj} {xs:List V} (e:H a=some (.frz o (.lst xs))):K9 K H (.ref a) (.type "list")
 | tup {a:Addr} {xs:List V} (e:H a=some (.tup xs)):K9 K H (.ref a) (.type "tuple")
 | dK {a:Addr} {kvs:List (Key×V)} (e:H a=some (.dK kvs)):K9 K H (.ref a) (.type "dict")
 | dT {a:Addr} {kvs:List (List Key×V)} (e:H a=some (.dT kvs)):K9 K H (.ref a) (.type "dict")
 | ins {a C dx:Addr} {fs:List (Str×V)} (e:H a=some (.ins C dx fs)) (cl:Cls K C) (ha:PySem.W.findIn K (.ref C) "__class__"=some (some (.builtin "object.__class__")))
   (hn:PySem.W.specialIn K (.builtin "object.__class__") "__get__"=some (some (.builtin "getset_descriptor.__get__"))) (htk:PySem.W.takesIn K (.builtin "object.__class__")=some true)
   (hm:PySem.W.mroIn K C (.type "object")=some true):K9 K H (.ref a) (.ref C)
theorem Hz {x:V}{u t:Value}(I:Inv X pins σ H s)(rx:RelV x u)(ty:K9 X.K H x t)(e:PySem.W.kitOne X.K t c=some b)(h:∀ tk,Q (.bool b) { s with toks:=tk }) :
  wpAny (model X.prog X.w) A (call (.builtin "isinstance") [u,c]) Q E s:=by
 cases ty with
 | non=>cases (show u=Value.none from rx);exact Be PySem.W.kitx_none I.kIn True.intro e (λz=>nomatch z) h
 | bl y=>cases (show u=Value.bool y from rx);exact Be PySem.W.kitx_bool I.kIn True.intro e (λz=>nomatch z) h
 | int i=>obtain ⟨t,q⟩:=(show ∃ t,u=Value.int i t from rx);cases q;exact Be PySem.W.kitx_int I.kIn True.intro e (λz=>nomatch z) h
 | str y=>obtain ⟨t,q⟩:=(show ∃ t,u=Value.str y t from rx);cases q;exact Be PySem.W.kitx_str I.kIn True.intro e (λz=>nomatch z) h
 | flt y=>obtain ⟨t,q⟩:=(show ∃ t,u=Value.float y t from rx);cases q;exact Be PySem.W.kitx_float I.kIn True.intro e (λz=>nomatch z) h
 | @lst a xs ea =>
  cases (show u=Value.ref a from rx)
  obtain ⟨_,_,n,_,h1⟩:=(show ObjOk X.prog X.w H s.heap a (.lst xs) from I.hok a _ ea)
  exact Be PySem.W.kitx_list I.kIn ⟨_,h1,rfl⟩ e (λz=>nomatch z) h
 | @frz a ob xs ea =>
  cases (show u=Value.ref a from rx)
  obtain ⟨_,_,_,n,_,h1⟩:=(show ObjOk X.prog X.w H s.heap a (.frz ob (.lst xs)) from I.hok a _ ea)
  exact Be PySem.W.kitx_list I.kIn ⟨_,h1,rfl⟩ e (λz=>nomatch z) h
 | @tup a xs ea =>
  cases (show u=Value.ref a from rx)
  obtain ⟨_,_,_,p⟩:=(show ObjOk X.prog X.w H s.heap a (.tup xs) from I.hok a _ ea)
  obtain ⟨o,h1,h2,_⟩:=p
  exact Be PySem.W.kitx_tuple I.kIn ⟨o,h1,h2⟩ e (λz=>nomatch z) h
 | @dK a kvs ea =>
  cases (show u=Value.ref a from rx)
  obtain ⟨_,_,vs,_,p⟩:=(show ObjOk X.prog X.w H s.heap a (.dK kvs) from I.hok a _ ea)
  obtain ⟨o,es,ep,h1,h2,_⟩:=p
  exact Be PySem.W.kitx_dict I.kIn ⟨o,h1,h2.1⟩ e (λz=>nomatch z) h
 | @dT a kvs ea =>
  cases (show u=Value.ref a from rx)
  obtain ⟨_,_,xs,_,o,es,ep,h1,h2,_⟩:=(show ObjOk X.prog X.w H s.heap a (.dT kvs) from I.hok a _ ea)
  exact Be PySem.W.kitx_dict I.kIn ⟨o,h1,h2.1⟩ e (λz=>nomatch z) h
 | @ins a C dx fs ea cl ha hn htk hm =>
  cases (show u=Value.ref a from rx)
  obtain ⟨mA,O,_⟩:=WS I.hok ea
  obtain ⟨od,J,_⟩:=O.look
  exact Be (PySem.W.kitx_own (cl.get _) cl.hd ha hn htk hm) I.kIn J e (λz=>nomatch z) h
end
structure Room (k:Nat) (A:Around):Prop where
 hd:A.handled=none
 dp:A.depth+3*k+5<recursionLimit
 un:A.units+16*k+200<cLine
 gd:A.guards=some []
theorem Room.mono {j k:Nat}{A:Around}(r:Room k A)(h:j≤k):Room j A:=⟨r.hd,by have:=r.dp;ext,by have:=r.un;ext,r.gd⟩
theorem Room.deeper {k:Nat}{A:Around}(r:Room (k+1) A)(env:Env):Room k (A.deeper env):=
 ⟨r.hd,by have:=r.dp;show A.depth+1+3*k+5<_;ext,by have:=r.un;show A.units+3+16*k+200<_;ext,r.gd⟩
theorem Room.depth {k:Nat}{A:Around}(r:Room k A):A.depth<recursionLimit:=by have:=r.dp;ext
theorem Room.units {k:Nat}{A:Around}(r:Room k A):A.units+64<cLine:=by have:=r.un;ext
def AbO:TA:=λ_ H Q=>Q [] H
def Aa6 (ta:TE)(tr:TA):TA:=fun σ H Q=>ta σ H λx H1=>tr σ H1 λxs H2=>Q (x::xs) H2
section
variable {X:Cx} {e:Expr} {es:List Expr} {te:TE} {t:TA} {pos:Pos}
theorem T6:PA X [] AbO:=λ_ _ _ _ H Q I h=>Calls.spliced_nil ⟨[],H,I,.nil,h⟩
theorem NS (ha:PE X e te)(hr:PA X es t)(hs:starEach (e::es) X.env=(false,eval e X.env)::starEach es X.env:=by rfl):PA X (e::es) (Aa6 te t):=by
 intro pos pins s σ H Q I h
 rw [hs]
 show wpAny _ _ (spliced ((false,eval e X.env)::backTo pos (starEach es X.env))) _ _ s
 refine Calls.spliced_cons (thn (ha pins s σ H _ I h) λu s1 ⟨x,H1,I1,r1,q1⟩=>?_)
 exact thn (hr pos pins s1 σ H1 _ I1 q1) λus s2 ⟨xs,H2,I2,r2,q2⟩=>⟨x::xs,H2,I2,.cons r1 r2,q2⟩
def Aca (t:TA):TE:=fun σ H Q=>t σ H λxs H1=>xs.length≤sizeLine∧∀ p,H1 p=none->Q (.ref p) (upd H1 p (.tup xs))
def Acd (t:TA):TE:=fun σ H Q=>t σ H λxs H1=>xs.length≤sizeLine∧∀ p,H1 p=none->Q (.ref p) (upd H1 p (.lst xs))
theorem Y7 {x1}(h:PA X es t):PE X (.Tuple es x1 pos) (Aca t):=by
 intro pins s σ H Q I hq
 refine wpAny_Tuple_spliced (thn (h pos pins s σ H _ I hq) λus s1 ⟨xs,H1,I1,r,z,q⟩=>⟨by rw [← r.length];exact z,?_⟩)
 have hf:H1 s1.heap.objs.size=none:=I1.hok.fresh (Al _)
 refine ⟨.ref s1.heap.objs.size,upd H1 s1.heap.objs.size (.tup xs),I1.laid (t':=s1.toks) (λb u e=>Ae _ e) (Al _) ?_,rfl,q _ hf⟩
 exact ⟨⟨z,⟨_,Aq _ rfl,rfl⟩⟩,us,r,⟨_,Aq _ rfl,rfl,_,rfl⟩⟩
theorem Te (h:PA X es t):PE X (.List es pos) (Acd t):=by
 intro pins s σ H Q I hq
 refine wpAny_List_spliced (thn (h pos pins s σ H _ I hq) λus s1 ⟨xs,H1,I1,r,z,q⟩=>⟨by rw [← r.length];exact z,?_⟩)
 have hf:H1 s1.heap.objs.size=none:=I1.hok.fresh (Al _)
 refine ⟨.ref s1.heap.objs.size,upd H1 s1.heap.objs.size (.lst xs),I1.laid (t':=s1.toks) (λb u e=>Ae _ e) (Al _) ?_,rfl,q _ hf⟩
 exact ⟨z,us,0,r,Aq _ rfl⟩
end
abbrev Sp:=List V->Hp->VK->XK->Prop
abbrev CXT:=List Env->Hp->Shared->XK->Value->Shared->Prop
structure WJ (P:Program) (w:World) (K:PySem.W.Frag) (mg:Str->Option Value) (base:Heap) (A:Around) (outer:List Env) (s:Shared) (H:Hp):Prop where
 frames:A.frames=some outer
 mod:Mod K mg base
 bs:∀ b o,base.get? b=some o->s.heap.get? b=some o∧H b=none
 bsz:base.objs.size≤s.heap.objs.size
 funs:s.heap.FunFrames base outer
 frf:∀ b∈frs outer,H b=none
 hok:HOk P w H s.heap
 bare:AllBare s.gens
def CE (outer:List Env)(P:Program)(w:World)(H:Hp)(s:Shared)(Q:VK)(u:Value)(s':Shared):Prop:=
 ∃ v H',s'.os=s.os∧AllBare s'.gens∧Un (frs outer) [] H H' s.heap s'.heap∧HOk P w H' s'.heap∧RelV v u∧Q v H'
def CR (CX:CXT)(outer:List Env)(P:Program)(w:World)(H:Hp)(s:Shared)(Q:VK)(E:XK)(r:Result)(s':Shared):Prop:=
 match r with
 | .ok (.ret u)=>CE outer P w H s Q u s'
 | .ok _=>False
 | .error e=>CX outer H s E e s'
structure DM (P:Program) (w:World) (K:PySem.W.Frag) (mg:Str->Option Value) (base:Heap) (CX:CXT) (k:Nat) (f:Addr) (fd:FuncData) (ps:List Str) (sp:Sp):Prop where
 len:∀ vs H Q E,sp vs H Q E->vs.length=ps.length
 run:∀ (A:Around) (outer:List Env) (s:Shared) (H:Hp) (args:Args) (us:List Value) (vs:List V) (Q:VK) (E:XK),Room k A->WJ P w K mg base A outer s H->BindsTo s fd args (ps.zip us)->Vals vs us->sp vs H Q E ->
  codeAny (model P w) A (.call (.ref f) args) (CR CX outer P w H s Q E) s
section
variable {X:Cx} {pins:List (Addr×Obj)} {σ:St} {H:Hp} {s s':Shared}
theorem Inv.env0 (I:Inv X pins σ H s):WJ X.prog X.w X.K X.mg X.base X.A X.stack s H:=
 ⟨I.ok.frames,I.ok.mod,I.bs,AL I.ok.bsz I.sz,I.stack,I.stkFree,I.hok,I.bare⟩
theorem Inv.after {Q:VK}{u:Value}(I:Inv X pins σ H s)(h:CE X.stack X.prog X.w H s Q u s'):EP X pins σ Q u s':=by
 obtain ⟨v,H',os,bare,un,hok,r,q⟩:=h
 obtain ⟨hh,g,d,t,os'⟩:=s'
 obtain rfl:os'=s.os:=os
 exact ⟨v,H',I.call (h':=hh) (g':=g) (d':=d) (t':=t) (ch:=[]) un hok bare (λb z=>absurd z (by simp)),r,q⟩
end
def Aax (sp:Sp)(dvs:List V)(E:XK)(t:TA):TE:=fun σ H Q=>t σ H λvs H1=>sp (vs++dvs) H1 Q E
def Binds (K:PySem.W.Frag)(fd:FuncData)(ps:List Str)(ds:List Value):Prop:=
 ∀ (s:Shared) (us:List Value),K.In s.heap->(us++ds).length=ps.length->BindsTo s fd ⟨us,[]⟩ (ps.zip (us++ds))
theorem Binds.all {K:PySem.W.Frag}{fd:FuncData}{ps:List Str}(h:∀ us:List Value,us.length=ps.length->bindArgs fd ⟨us,[]⟩=pure (ps.zip us)):Binds K fd ps []:=λs us _ hl=>by
 rw [BE] at hl ⊢
 exact .of_eq (h us hl)
def Passes (CX:CXT)(X:Cx)(E:XK):Prop:=∀ (pins:List (Addr×Obj)) (σ:St) (H:Hp) (s:Shared) (e:Value) (s':Shared),Inv X pins σ H s->CX X.stack H s E e s'->X.xe e s'
section
variable {X:Cx} {CX:CXT} {k:Nat} {f C:Addr} {fd:FuncData} {ps:List Str} {sp:Sp} {dvs:List V} {ds:List Value} {E:XK} {x m:Str} {p pos apos:Pos} {e o:Expr} {es:List Expr} {ta:TE} {t:TA}
theorem X4 {pins:List (Addr×Obj)}{σ:St}{H:Hp}{s:Shared}{Q:VK}{us:List Value}{vs:List V}(F:DM X.prog X.w X.K X.mg X.base CX k f fd ps sp)(hr:Room k X.A)(hb:Binds X.K fd ps ds)(hd:Vals dvs ds)(hx:Passes CX X E)
  (I:Inv X pins σ H s) (r:Vals vs us) (h:sp (vs++dvs) H Q E):wpAny (model X.prog X.w) X.A (call (.ref f) us) (EP X pins σ Q) X.xe s:=by
 have r2:Vals (vs++dvs) (us++ds):=r.append hd
 have hl:(us++ds).length=ps.length:=by rw [← r2.length];exact F.len _ _ _ _ h
 refine wpAny_call (codeAny_mono (F.run X.A X.stack s H ⟨us,[]⟩ (us++ds) (vs++dvs) Q E hr I.env0 (hb s us I.kIn hl) r2 h) λr s' hq=>?_)
 cases r with
 | error e=>exact hx pins σ H s e s' I hq
 | ok fl =>
  cases fl with
  | ret u=>exact I.after hq
  | next=>exact False.elim hq
  | brk=>exact False.elim hq
  | cont=>exact False.elim hq
theorem WH (F:DM X.prog X.w X.K X.mg X.base CX k f fd ps sp)(hr:Room k X.A)(hg:Gl X x)(hm:X.mg x=some (.ref f))(hk:PySem.W.keepIn X.K (.ref f)=true)(hb:Binds X.K fd ps ds)(hd:Vals dvs ds)(hx:Passes CX X E)
  (ha:PA X (e::es) t) (hdb:(x==("__debug__":Str))=false:=by decide) (he:starEach (e::es) X.env=(false,eval e X.env)::starEach es X.env:=by rfl) (hpl:(backTo pos (starEach es X.env)).any (·.1)=false:=by rfl) :
  PE X (.Call (.Name x p) (e::es) [] pos) (Aax sp dvs E t):=by
 intro pins s σ H Q I h
 refine wpAny_Call_Name_kw (Rf I hg hm ?_ hdb)
 refine PySem.W.callWith_K (h₀:=X.base) I.ok.mod.kin hk (thn (ha pos pins s σ H _ I h) λus s1 ⟨vs,H1,I1,r,q⟩=>⟨I1.kIn,?_⟩) he hpl
 exact X4 F hr hb hd hx I1 r q
end
structure CB (N P:List Str) (sc:Scope):Prop where
 kind:sc.kind=.function
 co:sc.isCoroutine=false
 gen:sc.isGenerator=false
 nd:N.Nodup
 pre:N.take P.length=P
 par:∀ x∈P,sc.names.lookup x=some .local∨sc.names.lookup x=some .cell
 nofree:∀ y∈sc.names,y.2≠.free
theorem Np {kindOf:Str->Option NameKind}{x:Str}:∀ {binds:List (Str×Value)} {m:Str->Option Value},(∀ v,(x,v)∉binds)->bindL kindOf binds m x=m x
 | [],_,_=>rfl
 | (n,v)::r,m,h=>by
  unfold bindL
  rw [Np λw hw=>h w (Bv _ hw)]
  split
  ·have:x≠n:=by rintro rfl;exact h v List.mem_cons_self
   simp [this]
  ·rfl
theorem Ny {kindOf:Str->Option NameKind}{x:Str}:∀ {binds:List (Str×Value)} {m:Str->Option Value},(∀ v,(x,v)∉binds)->bindC kindOf binds m x=m x
 | [],_,_=>rfl
 | (n,v)::r,m,h=>by
  unfold bindC
  rw [Ny λw hw=>h w (Bv _ hw)]
  split
  ·rfl
  ·have:x≠n:=by rintro rfl;exact h v List.mem_cons_self
   simp [this]
theorem M9 {kindOf:Str->Option NameKind}{x:Str}{v:Value}:∀ {P:List Str} {vs:List Value} {i:Nat} {m:Str->Option Value},P.Nodup->P[i]? = some x->vs[i]? = some v->kindOf x=some .local ->
  bindL kindOf (P.zip vs) m x=some v
 | [],_,_,_,_,h,_,_=>by simp at h
 | _::_,[],_,_,_,_,h,_=>by simp at h
 | p::P,w::vs,0,m,nd,h1,h2,hk=>by
  simp at h1 h2;subst h1;subst h2
  show bindL kindOf ((p,w)::P.zip vs) m p=_
  unfold bindL
  rw [Np λv hv=>(Bf.mp nd).1 (List.of_mem_zip hv).1,if_pos hk]
  simp
 | p::P,w::vs,i+1,m,nd,h1,h2,hk=>by
  show bindL kindOf ((p,w)::P.zip vs) m x=_
  unfold bindL
  exact M9 (i:=i) (Bf.mp nd).2 (by simpa using h1) (by simpa using h2) hk
theorem Ng {kindOf:Str->Option NameKind}{x:Str}{v:Value}:∀ {P:List Str} {vs:List Value} {i:Nat} {m:Str->Option Value},P.Nodup->P[i]? = some x->vs[i]? = some v->kindOf x≠some .local ->
  bindC kindOf (P.zip vs) m x=some v
 | [],_,_,_,_,h,_,_=>by simp at h
 | _::_,[],_,_,_,_,h,_=>by simp at h
 | p::P,w::vs,0,m,nd,h1,h2,hk=>by
  simp at h1 h2;subst h1;subst h2
  show bindC kindOf ((p,w)::P.zip vs) m p=_
  unfold bindC
  rw [Ny λv hv=>(Bf.mp nd).1 (List.of_mem_zip hv).1,if_neg hk]
  simp
 | p::P,w::vs,i+1,m,nd,h1,h2,hk=>by
  show bindC kindOf ((p,w)::P.zip vs) m x=_
  unfold bindC
  exact Ng (i:=i) (Bf.mp nd).2 (by simpa using h1) (by simpa using h2) hk
noncomputable def start (N:List Str)(vs:List V):St:=vs.map some++List.replicate (N.length-vs.length) none
noncomputable def MP (CX:CXT)(P:Program)(w:World)(K:PySem.W.Frag)(mg:Str->Option Value)(base:Heap)(N:List Str)(qual:Str)(scope:Scope)(f:Addr)(cd:Value)(A:Around)(outer:List Env)(s:Shared)(H:Hp)(E:XK):Cx where
 prog:=P
 w:=w
 K:=K
 mg:=mg
 base:=base
 A:=A.deeper (envOfC qual scope s.heap.objs.size f cd)
 N:=N
 s₀:=s
 H₀:=H
 env:=envOfC qual scope s.heap.objs.size f cd
 outer:=outer
 stack:=envOfC qual scope s.heap.objs.size f cd::outer
 ex:=[]
 calm:=true
 fn:=λ_=>true
 pn:=[]
 xe:=λe s'=>wpAny (model P w) (A.deeper (envOfC qual scope s.heap.objs.size f cd)) (leaving (envOfC qual scope s.heap.objs.size f cd) e) (λ_ s''=>CX outer H s E e s'') (λe' s''=>CX outer H s E e' s'') s'
theorem O8 {sc:Scope}{n:Nat}{x:Str}(h:sc.names.lookup x=some .cell):∃ c,(cellsFrom n sc.names []).lookup x=some c:=by
 have q:=PySem.W.cellsFrom_some sc.names n [] (.inl h)
 exact Option.isSome_iff_exists.mp q
theorem Sb {CX:CXT}{P:Program}{w:World}{K:PySem.W.Frag}{mg:Str->Option Value}{base:Heap}{N ps:List Str}{qual:Str}{scope:Scope}{f:Addr}{cd:Value}{A:Around}{outer:List Env}{s s1:Shared}{H:Hp}{E:XK}{us:List Value}{vs:List V}
  (S:CB N ps scope) (hd:A.handled=none) (e0:WJ P w K mg base A outer s H) (hl:vs.length=ps.length) (r:Vals vs us)
  (x:InCallC s s.heap.objs.size (bindL (envOfC qual scope s.heap.objs.size f cd).kindOf (ps.zip us) λ_=>none) (cellsFrom (s.heap.objs.size+1) scope.names []) (bindC (envOfC qual scope s.heap.objs.size f cd).kindOf (ps.zip us) λ_=>none) s1) :
  Inv (MP CX P w K mg base N qual scope f cd A outer s H E) [] (start N vs) H s1:=by
 have hpl:ps.length≤N.length:=by have:=congrArg List.length S.pre;rw [AQ] at this;ext
 obtain ⟨h1,tk,rfl,hk⟩:=x.done
 have noA:∀ b:Addr,b∉(MP CX P w K mg base N qual scope f cd A outer s H E).ex:=λb z=>absurd (show b∈([]:List Addr) from z) (by simp)
 refine ⟨⟨e0.mod,S.kind,rfl,rfl,Al _,λy z c h1 h2=>?_,λy hy=>?_,λy c _ h=>?_,λ_=>hd,Around.frames_deeper e0.frames,.inr ⟨rfl,rfl⟩,λb z=>absurd z (noA b),e0.bs,e0.bsz,λb _ _=>noA b,λb z=>absurd z (noA b),e0.funs,e0.frf⟩,
  rfl,e0.bare,Un.kept hk,⟨_,x.toInCall.ns,λi y v h1 h2 h3=>?_⟩,λy c h=>⟨_,x.cell y c h⟩,e0.hok.fresh (Al _),λy c h=>?_,λp hp=>absurd (show p∈([]:List (Addr×Obj)) from hp) (by simp),e0.hok.kept hk,?_⟩
 ·exact name_of_addr x.apart (BZ h1) (BZ h2)
 ·have hy:scope.names.lookup y=some .cell∨scope.names.lookup y=some .free:=hy
  rcases hy with hy|hy
  ·exact O8 hy
  ·exact absurd rfl (S.nofree _ (BZ hy))
 ·exact Nat.le_of_lt (x.above y c (BZ h))
 ·have hi:i<vs.length:=by
   unfold start at h2
   by_cases hi:i<vs.length
   ·exact hi
   ·rw [BK (by simpa using hi)] at h2
    rw [BW] at h2
    split at h2<;>cases h2
  have ha:vs[i]? = some v:=by
   unfold start at h2
   rw [Aw (by simpa using hi),Av] at h2
   cases e:vs[i]? with
   | none=>rw [e] at h2;cases h2
   | some a=>rw [e] at h2;cases h2;rfl
  obtain ⟨u,hu,rv⟩:=r.get ha
  have hp:ps[i]? = some y:=by
   rw [← S.pre,Bs (by ext)];exact h1
  have ndP:ps.Nodup:=by rw [← S.pre];exact S.nd.sublist (List.take_sublist _ _)
  refine ⟨u,rv,?_⟩
  rcases S.par y (Ap hp) with k|k
  ·exact .inl ⟨k,M9 ndP hp hu k⟩
  ·obtain ⟨c,e⟩:=O8 (n:=s.heap.objs.size+1) k
   refine .inr ⟨.inl k,c,e,?_⟩
   have q:=x.cell y c e
   rw [Ng ndP hp hu (by show scope.names.lookup y≠_;rw [k];decide)] at q
   exact q
 ·exact e0.hok.fresh (Nat.le_of_lt (x.above y c (BZ h)))
 ·unfold start
  show _=N.length
  rw [Ai,Af,List.length_replicate]
  ext
theorem Aav {CX:CXT}{P:Program}{w:World}{K:PySem.W.Frag}{mg:Str->Option Value}{base:Heap}{k:Nat}{f:Addr}{name qual:Str}{params:Arguments}{body:List Stmt}{scope:Scope}{dV kV doc pm cdv ct oc:Value}{an od:Option Addr}
  {osl:Array (Option Value)} {N ps:List Str} {sp:Sp} (lk:K.lookup f=some ⟨oc,od,.func (PySem.W.fnOf name qual params body scope dV kV doc pm an cdv ct),osl⟩) (hcd:PySem.W.codeIn K cdv qual=true) (S:CB N ps scope)
  (len:∀ vs H Q E,sp vs H Q E->vs.length=ps.length)
  (hbody:∀ (A:Around) (outer:List Env) (s:Shared) (H:Hp) (vs:List V) (Q:VK) (E:XK),Room k (A.deeper (envOfC qual scope s.heap.objs.size f cdv))->sp vs H Q E ->
   ∃ t,PSs (MP CX P w K mg base N qual scope f cdv A outer s H E) body t∧t { nx:=λ_ H'=>Q .non H',rt:=Q } (start N vs) H) :
  DM P w K mg base CX (k+1) f (PySem.W.fnOf name qual params body scope dV kV doc pm an cdv ct) ps sp:=by
 refine ⟨len,λA outer s H args us vs Q E hr e0 hb r hsp=>?_⟩
 have hl:=len _ _ _ _ hsp
 have KX:K.In s.heap:=e0.mod.kin.keeps λb o e=>(e0.bs b o e).1
 have lim:s.heap.NoLimit:=e0.mod.nolimit.keeps λb o e=>(e0.bs b o e).1
 have hkind:∀ y∈ps.zip us,scope.names.lookup y.1=some .local∨(scope.names.lookup y.1=some .cell∧((cellsFrom (s.heap.objs.size+1) scope.names []).lookup y.1).isSome=true):=λ⟨n,v⟩ hy=>by
  rcases S.par n (List.of_mem_zip hy).1 with q|q
  ·exact .inl q
  ·exact .inr ⟨q,PySem.W.cellsFrom_some _ _ _ (.inl q)⟩
 refine codeAny_call_function hr.depth (KX _ _ lk) rfl S.co S.gen rfl (PySem.W.codeRec_of KX hcd) (hb _ _ _ _ ?_)
 refine wpAny_newFunctionEnv_cells S.kind hkind λenv he s1 x=>?_
 subst he
 refine ⟨lim.keeps x.toInCall.keep,codeAny_func ?_⟩
 obtain ⟨t,ht,hq⟩:=hbody A outer s H vs Q E (hr.deeper _) hsp
 have I:Inv (MP CX P w K mg base N qual scope f cdv A outer s H E) [] (start N vs) H s1:=Sb S hr.hd e0 hl r x
 refine wpAny_mono (ht [] s1 (start N vs) H _ I hq) (λfl s' hs=>?_) λe s' hs=>hs
 have fin:∀ {σ':St} {H':Hp} {v:V} {u:Value},Inv (MP CX P w K mg base N qual scope f cdv A outer s H E) [] σ' H' s'->RelV v u->Q v H'->CE outer P w H s Q u s':=
  λ{σ' H' v u} J rv q=>⟨v,H',J.os,J.bare,J.base,J.hok,rv,q⟩
 cases fl with
 | ret u =>
  obtain ⟨v,σ',H',J,rv,q⟩:=hs
  exact fin J rv q
 | next =>
  obtain ⟨σ',H',J,q⟩:=hs
  exact fin (v:=V.non) (u:=Value.none) J rfl q
 | brk =>
  obtain ⟨_,_,_,q⟩:=hs
  exact False.elim q
 | cont =>
  obtain ⟨_,_,_,q⟩:=hs
  exact False.elim q
section
variable {X:Cx} {x:Str} {p pos:Pos} {e:Expr} {es:List Expr} {t:TA} {id T:String} {r:List V->Hp->VK->Prop}
def tCB (r:List V->Hp->VK->Prop)(t:TA):TE:=fun σ H Q=>t σ H λvs H1=>r vs H1 Q
theorem OV (hc:Hy X (.builtin id) r)(hg:Gl X x)(hm:X.mg x=none)(hv:bootBuiltins x=some (.builtin id))(ha:PA X (e::es) t)(hn:x≠"__name__":=by decide)(hdb:(x==("__debug__":Str))=false:=by decide)
  (he:starEach (e::es) X.env=(false,eval e X.env)::starEach es X.env:=by rfl) (hpl:(backTo pos (starEach es X.env)).any (·.1)=false:=by rfl):PE X (.Call (.Name x p) (e::es) [] pos) (tCB r t):=by
 intro pins s σ H Q I h
 refine wpAny_Call_Name_kw (NM I hg hm hv ?_ hn hdb)
 exact PyProof.Rows.callWith_builtin1 (thn (ha pos pins s σ H _ I h) λus s1 ⟨vs,H1,I1,r1,q1⟩=>hc pins s1 σ H1 vs us Q I1 r1 q1) he hpl
theorem SQ (hc:Hy X (.type T) r)(hg:Gl X x)(hm:X.mg x=none)(hv:bootBuiltins x=some (.type T))(ha:PA X (e::es) t)(hn:x≠"__name__":=by decide)(hdb:(x==("__debug__":Str))=false:=by decide)
  (he:starEach (e::es) X.env=(false,eval e X.env)::starEach es X.env:=by rfl) (hpl:(backTo pos (starEach es X.env)).any (·.1)=false:=by rfl):PE X (.Call (.Name x p) (e::es) [] pos) (tCB r t):=by
 intro pins s σ H Q I h
 refine wpAny_Call_Name_kw (NM I hg hm hv ?_ hn hdb)
 exact PyProof.Rows.callWith_type1 (thn (ha pos pins s σ H _ I h) λus s1 ⟨vs,H1,I1,r1,q1⟩=>hc pins s1 σ H1 vs us Q I1 r1 q1) he hpl
end
end L2
namespace HT
open PySem PyProof.Rows
section
open PySem.SeqAt
open PySem.AutoSeq1 (wpAny_loadPart')
open PySem.MeetsSeq PySem.MeetsSeq2 PySem.MeetsSeq3
end
section
variable {prog:Program} {w:World} {A:Around} {E:Value->Shared->Prop} {s:Shared}
theorem VA {t b:Addr}{vs ws:List Value}{Q:Value->Shared->Prop}(ht:IsTup s.heap t vs.toArray)(hb:IsTup s.heap b ws.toArray)(hv:vs≠[])
  (h1:ws=[]->Q (.ref t) s) (h2:ws≠[]->Q (.ref s.heap.objs.size) { s with heap:=s.heap.push { cls:=.type "tuple",data:=.seq (vs++ws).toArray } })
  (hsz:vs.length+ws.length≤sizeLine):wpAny (model prog w) A (binaryOp .Add (.ref t) (.ref b)) Q E s:=by
 obtain ⟨⟨cls,dd,data,sl⟩,ho,hc,n,hd⟩:=id ht
 obtain ⟨⟨cls2,dd2,data2,sl2⟩,ho2,hc2,n2,hd2⟩:=id hb
 simp only at hc hd hc2 hd2
 subst hc hd hc2 hd2
 have e:vs.toArray++ws.toArray=(vs++ws).toArray:=by simp
 by_cases hw:ws=[]
 ·exact concat_meets ⟨_,ho,rfl⟩ ⟨_,ho2,rfl⟩ noFill_tuple_add seq_tuple_add PySem.F.slot_tuple_add PySem.F.entry_tuple_add (PySem.F.args_tuple_add_2 _ _)
   (tuple_addW1 t b vs.toArray ws.toArray n n2 dd dd2 sl sl2 (by simpa using hv) (by simp [hw])) ⟨ho,ho2,h1 hw⟩
 ·refine concat_meets ⟨_,ho,rfl⟩ ⟨_,ho2,rfl⟩ noFill_tuple_add seq_tuple_add PySem.F.slot_tuple_add PySem.F.entry_tuple_add (PySem.F.args_tuple_add_2 _ _)
   (tuple_addW2 t b vs.toArray ws.toArray n n2 dd dd2 sl sl2 (by simpa using hv) (by simpa using hw) (by rw [An,An];exact hsz)) ⟨ho,ho2,?_⟩
  rw [e]
  exact h2 hw
noncomputable def sIx (n d:Nat):Option Int->Nat
 | none=>d
 | some v=>if v<0 then (v+(n:Int)).toNat else min v.toNat n
theorem Mz (n d:Nat):sIx n d none=d:=rfl
theorem NB (n d k:Nat):sIx n d (some (k:Int))=min k n:=by
 show (if (k:Int)<0 then ((k:Int)+(n:Int)).toNat else min (k:Int).toNat n)=min k n
 rw [if_neg (by ext),Int.toNat_natCast]
theorem XB (n d:Nat)(hd:d≤n)(o:Option Int):sIx n d o≤n:=by
 cases o with
 | none=>exact hd
 | some v =>
  show (if v<0 then (v+(n:Int)).toNat else min v.toNat n)≤n
  by_cases hv:v<0
  ·rw [if_pos hv];ext
  ·rw [if_neg hv];exact Nat.min_le_right _ _
theorem Rz (v:Int)(n d:Nat):(if v<0 then max (v+(n:Int)) 0 else min v (n:Int))=((sIx n d (some v):Nat):Int):=by
 show (if v<0 then max (v+(n:Int)) 0 else min v (n:Int))=(((if v<0 then (v+(n:Int)).toNat else min v.toNat n):Nat):Int)
 by_cases hv:v<0
 ·simp only [if_pos hv];ext
 ·simp only [if_neg hv];ext
theorem QR (lo hi:Option Int)(n:Nat):Builtin.Slice.sliceAdjust lo hi 1 (n:Int)=(((sIx n 0 lo:Nat):Int),((sIx n n hi:Nat):Int)):=by
 have h1:¬ ((1:Int)<0):=by ext
 unfold Builtin.Slice.sliceAdjust
 simp only [h1,AZ]
 refine Prod.ext ?_ ?_
 ·cases lo with
  | none=>rfl
  | some v=>exact Rz v n 0
 ·cases hi with
  | none=>rfl
  | some v=>exact Rz v n n
theorem QQ (i j:Nat):Builtin.Slice.slicePlaces (i:Int) (j:Int) 1=j-i:=by
 unfold Builtin.Slice.slicePlaces
 have h1:(1:Int) > 0:=by ext
 simp only [h1,if_true,Int.ediv_one]
 split<;>ext
theorem G1 {v:Value}{o:Option Int}{Q:Option Int->Shared->Prop}(p:IsPart v o)(h:Q o s):wpAny (model prog w) A (Builtin.Slice.slicePartIndex v) Q E s:=by
 cases p with
 | none=>exact slicePart_none h
 | int i t=>exact slicePart_int h
theorem Ht {sl:Addr}{vl vu:Value}{lo hi:Option Int}{n:Nat}{Q:Int×Int×Nat->Shared->Prop}(hs:s.heap.IsSliceOf sl vl vu .none)(pl:IsPart vl lo)(pu:IsPart vu hi)
  (h:Q (((sIx n 0 lo:Nat):Int),1,sIx n n hi-sIx n 0 lo) s):wpAny (model prog w) A (Builtin.Slice.sliceApplied (.ref sl) (pure (n:Int))) Q E s:=by
 obtain ⟨os,hos,hcs,hds⟩:=id hs
 unfold Builtin.Slice.sliceApplied Builtin.Slice.sliceFields
 refine Aa (Aa (wpAny_field hos hds (x:=vl) rfl (Aa (wpAny_field hos hds (x:=vu) rfl (Aa (wpAny_field hos hds (x:=.none) rfl (Ac ?_)))))))
 refine Aa (slicePart_none ?_)
 show wpAny _ _ (if ((1:Int)==0)=true then _ else _) _ _ s
 rw [if_neg (by decide)]
 refine Aa (G1 pl (Aa (G1 pu (Aa (Ac ?_)))))
 show wpAny _ _ (match Builtin.Slice.sliceAdjust lo hi 1 (n:Int) with|(lo,hi)=>pure (lo,(1:Int),Builtin.Slice.slicePlaces lo hi 1)) _ _ s
 rw [QR lo hi n]
 show wpAny _ _ (pure (((sIx n 0 lo:Nat):Int),(1:Int),Builtin.Slice.slicePlaces ((sIx n 0 lo:Nat):Int) ((sIx n n hi:Nat):Int) 1)) _ _ s
 rw [QQ]
 exact Ac h
theorem TJ (xs:Array Value)(i k:Nat):((List.range k).filterMap λ(m:Nat)=>xs[((i:Int)+(m:Int)*1).toNat]?).toArray=((xs.toList.drop i).take k).toArray:=by
 have e:(λ(m:Nat)=>xs[((i:Int)+(m:Int)*1).toNat]?)=λm=>xs[i+m]?:=by
  funext m
  have:((i:Int)+(m:Int)*1).toNat=i+m:=by ext
  rw [this]
 rw [e]
 have:=pick_run xs i k
 rw [List.filterMap_map] at this
 have e2:((λx=>xs[x]?)∘λx=>i+x)=λm=>xs[i+m]?:=rfl
 rw [e2] at this
 rw [this]
theorem Kh {t sl:Addr}{items:Array Value}{vl vu:Value}{lo hi:Option Int}{Q:Value->Shared->Prop}(ht:IsTup s.heap t items)(hs:s.heap.IsSliceOf sl vl vu .none)(pl:IsPart vl lo)(pu:IsPart vu hi)
  (hw:¬ (sIx items.size 0 lo=0∧sIx items.size items.size hi=items.size))
  (h:Q (.ref s.heap.objs.size) { s with heap:=s.heap.push { cls:=.type "tuple",data:=.seq ((items.toList.drop (sIx items.size 0 lo)).take (sIx items.size items.size hi-sIx items.size 0 lo)).toArray } })
  (hsz:items.size≤sizeLine):wpAny (model prog w) A (getItem (.ref t) (.ref sl)) Q E s:=by
 have htake:sizeOk (.seq ((items.toList.drop (sIx items.size 0 lo)).take (sIx items.size items.size hi-sIx items.size 0 lo)).toArray):=by
  show ((items.toList.drop (sIx items.size 0 lo)).take (sIx items.size items.size hi-sIx items.size 0 lo)).toArray.size≤sizeLine
  rw [An,AQ,BH,Array.length_toList]
  ext
 have hj:sIx items.size items.size hi≤items.size:=XB _ _ (Al _) hi
 obtain ⟨os,hos,hcs,hds⟩:=id hs
 have hTs:s.TypeIs (.ref sl) "slice":=⟨os,hos,hcs⟩
 unfold getItem
 try with_reducible refine AI ?_
 first|refine Aa (Ac ?_)|skip
 refine Aa (wpAny_sequenceKey ht.typeIs (by decide) ?_)
 refine Aa (Ba (name:=Str.ofString "__getitem__") ht.typeIs AU
  (AY AU ht.typeIs entry_tuple_getitem ?_ (args_tuple_getitem _ _)))
 show wpAny _ _ (Builtin.Tuple.tupleItemsOf (.ref t) >>= _) _ _ s
 refine Aa (tupleItemsOf_ ht ?_)
 refine Aa (BL hTs ?_)
 rw [if_pos (by decide)]
 refine Aa (Ht hs pl pu ?_)
 have hno:¬ ((((sIx items.size 0 lo:Nat):Int)==0&&(1:Int)==1&&(sIx items.size items.size hi-sIx items.size 0 lo)==items.size)=true):=by
  intro q
  rw [Ab,Ab] at q
  have q1:((sIx items.size 0 lo:Nat):Int)=0:=eq_of_beq q.1.1
  have q2:sIx items.size items.size hi-sIx items.size 0 lo=items.size:=eq_of_beq q.2
  exact hw ⟨by ext,by ext⟩
 show wpAny _ _ (if (((sIx items.size 0 lo:Nat):Int)==0&&(1:Int)==1&&(sIx items.size items.size hi-sIx items.size 0 lo)==items.size)=true then _ else _) _ _ s
 rw [if_neg hno,TJ]
 first
  | exact Aa (m:=Builtin.Tuple.tupleExact _) (AW (Ac ⟨_,rfl,Ac h⟩) htake)
  | exact Aa (m:=Builtin.Tuple.tupleExact _) (AW (Aa (Ac (Ac ⟨_,rfl,Ac h⟩))) htake)
  | exact Aa (Aa (m:=Builtin.Tuple.tupleExact _) (AW (Ac (Ac ⟨_,rfl,Ac h⟩)) htake))
  | exact Aa (Aa (m:=Builtin.Tuple.tupleExact _) (AW (Ac ⟨_,rfl,Ac h⟩) htake))
end
end HT
namespace L2
open PySem PySem.Spec PyProof.Rows
abbrev TO:=St->Hp->(Option Int->Hp->Prop)->Prop
def PO (X:Cx)(e:Option Expr)(t:TO):Prop:=
 ∀ (pins:List (Addr×Obj)) (s:Shared) (σ:St) (H:Hp) (Q:Option Int->Hp->Prop),Inv X pins σ H s->t σ H Q ->
  wpAny (model X.prog X.w) X.A (evalPart e X.env) (λu s'=>∃ o H',Inv X pins σ H' s'∧IsPart u o∧Q o H') X.xe s
def VH:TO:=λ_ H Q=>Q none H
def AaV (t:TE):TO:=fun σ H Q=>t σ H λx H1=>∃ i,x=.int i∧Q (some i) H1
section
variable {X:Cx} {e:Expr} {te:TE} {lo hi:Option Expr} {tl th:TO} {pos p2:Pos}
theorem VX:PO X none VH:=by
 intro pins s σ H Q I h
 rw [evalPart_none]
 exact Ac ⟨none,H,I,.none,h⟩
theorem W2 (h:PE X e te):PO X (some e) (AaV te):=by
 intro pins s σ H Q I hw
 rw [evalPart_some]
 refine thn (h pins s σ H _ I hw) λu s1 ⟨x,H1,I1,r1,q1⟩=>?_
 obtain ⟨i,rfl,q⟩:=q1
 obtain ⟨t,rfl⟩:=r1
 exact ⟨some i,H1,I1,.int i t,q⟩
def SlR (X:Cx)(r:V->Option Int->Option Int->Hp->VK->Prop):Prop:=
 ∀ (pins:List (Addr×Obj)) (s:Shared) (σ:St) (H:Hp) (x:V) (v vl vu:Value) (lo hi:Option Int) (sl:Addr) (Q:VK),Inv X pins σ H s->RelV x v->s.heap.IsSliceOf sl vl vu .none->IsPart vl lo->IsPart vu hi->r x lo hi H Q ->
  ∃ T id,typeLookup (.type T) "__getitem__"=pure (some (.builtin id))∧s.TypeIs v T∧wpAny (model X.prog X.w) X.A (getItem v (.ref sl)) (EP X pins σ Q) X.xe s
def tSl (r:V->Option Int->Option Int->Hp->VK->Prop)(te:TE)(tl th:TO):TE:=fun σ H Q=>te σ H λx H1=>tl σ H1 λl H2=>th σ H2 λu H3=>r x l u H3 Q
theorem Uy {r:V->Option Int->Option Int->Hp->VK->Prop}(hr:SlR X r)(he:PE X e te)(hl:PO X lo tl)(hu:PO X hi th):PE X (.Subscript e (.Slice lo hi none p2) pos) (tSl r te tl th):=by
 intro pins s σ H Q I h
 refine Subscript_ (thn (he pins s σ H _ I h) λv s1 ⟨x,H1,I1,r1,q1⟩=>?_)
 refine wpAny_Slice (thn (hl pins s1 σ H1 _ I1 q1) λvl s2 ⟨l,H2,I2,pl,q2⟩=>thn (hu pins s2 σ H2 _ I2 q2) λvu s3 ⟨u,H3,I3,pu,q3⟩=>?_)
 rw [evalPart_none]
 refine Ac ?_
 have I4:Inv X pins σ H3 { s3 with heap:=s3.heap.push { cls:=.type "slice",data:=.fields #[vl,vu,.none] } }:=I3.kept (t':=s3.toks) λb ob q=>Ae _ q
 obtain ⟨T,id,hT,ht,hg⟩:=hr pins { s3 with heap:=s3.heap.push { cls:=.type "slice",data:=.fields #[vl,vu,.none] } } σ H3 x v vl vu l u s3.heap.objs.size Q I4 r1 (Heap.IsSliceOf.new ..) pl pu q3
 show wpAny (model X.prog X.w) X.A (subscriptTail e (.Slice lo hi none p2) v (.ref s3.heap.objs.size)) (EP X pins σ Q) X.xe { s3 with heap:=s3.heap.push { cls:=.type "slice",data:=.fields #[vl,vu,.none] } }
 exact tail_any (ops:=[.ref s3.heap.objs.size,v]) ht hT hg (by with_unfolding_all rfl)
def OD (xs:List V)(lo hi:Option Int):List V:=(xs.drop (HT.sIx xs.length 0 lo)).take (HT.sIx xs.length xs.length hi-HT.sIx xs.length 0 lo)
theorem Lj (xs:List V)(lo hi:Option Int):(OD xs lo hi).length≤xs.length:=by
 unfold OD
 rw [AQ,BH]
 ext
def AbX (K:PySem.W.Frag):V->Option Int->Option Int->Hp->VK->Prop:=λx lo hi H Q=>∃ a xs,x=.ref a∧SqT K H a xs ∧
 ¬ (HT.sIx xs.length 0 lo=0∧HT.sIx xs.length xs.length hi=xs.length)∧∀ p,H p=none->Q (.ref p) (upd H p (.tup (OD xs lo hi)))
theorem ZG:SlR X (AbX X.K):=by
 intro pins s σ H x v vl vu lo hi sl Q I rx hs pl pu h
 obtain ⟨a,xs,rfl,hx,hw,q⟩:=h
 cases rx
 obtain ⟨its,r,ht,hz⟩:=I.tuple hx
 have hlen:its.toArray.size=xs.length:=by rw [An];exact r.length.symm
 refine ⟨"tuple",_,AU.lookup,ht.typeIs,?_⟩
 refine HT.Kh ht hs pl pu (by rw [hlen];exact hw) ?_ (by rw [hlen];exact hz)
 rw [hlen]
 refine ⟨.ref s.heap.objs.size,_,I.laid (t':=s.toks) (o:=.tup (OD xs lo hi)) (λb ob q=>Ae _ q) (Al _) ?_,rfl,q _ (I.hok.fresh (Al _))⟩
 exact ⟨⟨AL (Lj xs lo hi) hz,⟨_,Aq _ rfl,rfl⟩⟩,_,(r.drop (HT.sIx xs.length 0 lo)).take (HT.sIx xs.length xs.length hi-HT.sIx xs.length 0 lo),IsTup.new _ _⟩
def Abt (K:PySem.W.Frag):R2:=λx y H Q=>∃ a b xs ys,x=.ref a∧y=.ref b∧SqT K H a xs∧SqT K H b ys∧xs≠[]∧xs.length+ys.length≤sizeLine ∧
 (ys=[]->Q (.ref a) H)∧(ys≠[]->∀ p,H p=none->Q (.ref p) (upd H p (.tup (xs++ys))))
theorem Vals.nil_iff {xs:List V}{us:List Value}(r:Vals xs us):us=[] ↔ xs=[]:=by
 cases r with
 | nil=>simp
 | cons _ _=>simp
theorem We:OpR X (binaryOp .Add) (Abt X.K):=by
 intro pins s σ H x y v u Q I rx ry h
 obtain ⟨a,b,xs,ys,rfl,rfl,ha,hb,hx,hz,q1,q2⟩:=h
 cases rx
 cases ry
 obtain ⟨its,r1,p1,_⟩:=I.tuple ha
 obtain ⟨its2,r2,p2,_⟩:=I.tuple hb
 refine HT.VA p1 p2 (λz=>hx (r1.nil_iff.mp z)) (λz=>⟨.ref a,H,I,rfl,q1 (r2.nil_iff.mp z)⟩) (λz=>?_) (by rw [← r1.length,← r2.length];exact hz)
 refine ⟨.ref s.heap.objs.size,_,I.laid (t':=s.toks) (o:=.tup (xs++ys)) (λb ob q=>Ae _ q) (Al _) ?_,rfl,q2 (λw=>z (r2.nil_iff.mpr w)) _ (I.hok.fresh (Al _))⟩
 exact ⟨⟨by rw [Ai];exact hz,⟨_,Aq _ rfl,rfl⟩⟩,_,r1.append r2,IsTup.new _ _⟩
end
noncomputable def ixN (n:Nat)(i:Int):Option Nat:=if 0≤i then (if i<n then some i.toNat else none) else if -(n:Int)≤i then some (i+n).toNat else none
def atI {α:Type}(xs:List α)(i:Int):Option α:=(ixN xs.length i).bind λj=>xs[j]?
theorem Q8 {n:Nat}{i:Int}{j:Nat}(h:ixN n i=some j):seqIndex? i n=some j∧j<n∧-(n:Int)≤i∧i<n:=by
 unfold ixN at h
 by_cases h0:0≤i
 ·rw [if_pos h0] at h
  by_cases h1:i<n
  ·rw [if_pos h1] at h
   have e:i.toNat=j:=AN h
   exact ⟨by rw [seqIndex_of h0 h1,e],by ext,by ext,h1⟩
  ·rw [if_neg h1] at h;cases h
 ·rw [if_neg h0] at h
  by_cases h1:-(n:Int)≤i
  ·rw [if_pos h1] at h
   have e:(i+n).toNat=j:=AN h
   exact ⟨by rw [seqIndex_neg (by ext) h1,e],by ext,h1,by ext⟩
  ·rw [if_neg h1] at h;cases h
theorem LI {α:Type}{xs:List α}{i:Int}{v:α}(h:atI xs i=some v):∃ j,seqIndex? i xs.length=some j∧xs[j]? = some v∧j<xs.length∧-(xs.length:Int)≤i∧i<xs.length:=by
 unfold atI at h
 cases e:ixN xs.length i with
 | none=>rw [e] at h;cases h
 | some j =>
  rw [e] at h
  obtain ⟨h1,h2,h3,h4⟩:=Q8 e
  exact ⟨j,h1,h,h2,h3,h4⟩
def RQ (b:Expr):Prop:=∀ o i,subscripted b false o i=operate [o,i] (getItem o i)
def IxR (X:Cx)(r:R2):Prop:=
 ∀ (value slice:Expr) (pins:List (Addr×Obj)) (s:Shared) (σ:St) (H:Hp) (x y:V) (v u:Value) (Q:VK),Inv X pins σ H s->RelV x v->RelV y u->r x y H Q ->
  subscripted slice false v u=operate [v,u] (getItem v u)->wpAny (model X.prog X.w) X.A (subscriptTail value slice v u) (EP X pins σ Q) X.xe s
def MtR (X:Cx)(id:String)(r:V->List V->Hp->VK->Prop):Prop:=
 ∀ (pins:List (Addr×Obj)) (s:Shared) (σ:St) (H:Hp) (x:V) (xs:List V) (v:Value) (us:List Value) (Q:VK),Inv X pins σ H s->RelV x v->Vals xs us->r x xs H Q ->
  wpAny (model X.prog X.w) X.A (call (.builtin id) (v::us)) (EP X pins σ Q) X.xe s
section
variable {X:Cx} {a b:Expr} {ta tb:TE} {pos:Pos}
theorem IxR.or {r r':R2}(h:IxR X r)(h':IxR X r'):IxR X (λx y H Q=>r x y H Q∨r' x y H Q):=by
 intro value slice pins s σ H x y v u Q I rx ry q hs
 rcases q with q|q
 ·exact h value slice pins s σ H x y v u Q I rx ry q hs
 ·exact h' value slice pins s σ H x y v u Q I rx ry q hs
theorem Z5 {r:R2}(hr:IxR X r)(ha:PE X a ta)(hb:PE X b tb)(hs:RQ b):PE X (.Subscript a b pos) (tOp r ta tb):=by
 intro pins s σ H Q I h
 exact Subscript_ (YT ha hb I h λv u s2 x y H2 I2 rx ry q=>hr a b pins s2 σ H2 x y v u Q I2 rx ry q (hs _ _))
def Yn (K:PySem.W.Frag):R2:=λx y H Q=>∃ p xs i v,x=.ref p∧y=.int i∧SqL K H p xs∧atI xs i=some v∧Q v H
def Aa5 (K:PySem.W.Frag):R2:=λx y H Q=>∃ p xs i v,x=.ref p∧y=.int i∧SqT K H p xs∧atI xs i=some v∧Q v H
def AaT:R2:=λx y H Q=>∃ z i c,x=.str z∧y=.int i∧z.length≤sizeLine∧atI z.cps.toList i=some c∧Q (.str ⟨#[c]⟩) H
theorem VO:IxR X (Yn X.K):=by
 intro value slice pins s σ H x y v u Q I rx ry h hs
 obtain ⟨p,xs,i,z,rfl,rfl,hq,he,q⟩:=h
 cases rx
 obtain ⟨t,rfl⟩:=ry
 obtain ⟨its,r,pl,hz⟩:=I.list hq
 obtain ⟨j,h1,h2,h3,h4,h5⟩:=LI he
 obtain ⟨w,ew,rw'⟩:=r.get h2
 have hl:=r.length
 have hn:=K7
 have fin:EP X pins σ Q w s:=⟨z,H,I,rw',q⟩
 by_cases h0:0≤i
 ·have hj:i.toNat=j:=by
   rw [seqIndex_of h0 h5] at h1
   exact AN h1
  exact item_listR pl.isList h0 (by ext) (by rw [hj];simpa using ew) fin hs
 ·have hj:(i+(its.toArray.size:Int)).toNat=j:=by
   rw [seqIndex_neg (by ext) h4] at h1
   rw [An,← hl]
   exact AN h1
  exact subscriptTail_builtinR (x:=w) pl.isList.typeIs slot_list_getitem.lookup
   (wpAny_getItem_list_neg (Q:=λr s'=>r=w∧EP X pins σ Q r s') pl.isList (by ext) (by rw [An]<;>ext) (by ext) (by rw [hj];simpa using ew) ⟨rfl,fin⟩) hs
theorem XT:IxR X (Aa5 X.K):=by
 intro value slice pins s σ H x y v u Q I rx ry h hs
 obtain ⟨p,xs,i,z,rfl,rfl,hq,he,q⟩:=h
 cases rx
 obtain ⟨t,rfl⟩:=ry
 obtain ⟨its,r,pl,hz⟩:=I.tuple hq
 obtain ⟨j,h1,h2,h3,h4,h5⟩:=LI he
 obtain ⟨w,ew,rw'⟩:=r.get h2
 have hl:=r.length
 have hn:=K7
 have fin:EP X pins σ Q w s:=⟨z,H,I,rw',q⟩
 exact subscriptTail_builtinR (x:=w) pl.typeIs slot_tuple_getitem.lookup
  (getItem_tuple (j:=j) (Q:=λr s'=>r=w∧EP X pins σ Q r s') pl (by ext) (by ext) (by rw [An,← hl];exact h1) (by simpa using ew) ⟨rfl,fin⟩) hs
theorem Yh:IxR X AaT:=by
 intro value slice pins s σ H x y v u Q I rx ry h hs
 obtain ⟨z,i,c,rfl,rfl,hz,he,q⟩:=h
 obtain ⟨t,rfl⟩:=rx
 obtain ⟨t',rfl⟩:=ry
 obtain ⟨j,h1,h2,h3,h4,h5⟩:=LI he
 have hl:z.cps.toList.length=z.length:=by simp [Str.length]
 rw [hl] at h1 h4 h5
 have hn:=K7
 exact tail_any (typeIs_str s z t) slot_str_getitem.lookup (getItem_str (c:=c) (by
  have e1:decide (i < -(2 ^ 63:Int))=false:=AV (by ext)
  have e2:decide (i ≥ 2 ^ 63)=false:=AV (by ext)
  rw [e1,e2,Bool.or_false]) (by rw [h1];simpa using h2) ⟨.str ⟨#[c]⟩,H,I.tok _,⟨_,rfl⟩,q⟩) hs
def rIx (K:PySem.W.Frag):R2:=λx y H Q=>Yn K x y H Q∨Aa5 K x y H Q∨AaT x y H Q
theorem YV:IxR X (rIx X.K):=VO.or (XT.or Yh)
theorem Qp (its:List Value)(n j:Nat)(u:Value):Obj.mapSeq (·.setIfInBounds j u) { cls:=.type "list",data:=.seq its.toArray n }={ cls:=.type "list",data:=.seq (its.set j u).toArray n }:=by
 simp [Obj.mapSeq]
theorem Inv.lst {pins:List (Addr×Obj)}{σ:St}{H:Hp}{s:Shared}{p:Addr}{xs:List V}(I:Inv X pins σ H s)(h:H p=some (.lst xs)) :
  ∃ (its:List Value) (n:Nat),Vals xs its∧s.heap.get? p=some { cls:=.type "list",data:=.seq its.toArray n }∧xs.length≤sizeLine:=by
 obtain ⟨z,its,n,r,e⟩:=I.hok p _ h
 exact ⟨its,n,r,e,z⟩
theorem Inv.lstUpd {pins:List (Addr×Obj)}{σ:St}{H:Hp}{s:Shared}{p:Addr}{xs ys:List V}{its its':List Value}{n n':Nat}{f:Obj->Obj}(I:Inv X pins σ H s)(h:H p=some (.lst xs))
  (ho:s.heap.get? p=some { cls:=.type "list",data:=.seq its.toArray n }) (hf:f { cls:=.type "list",data:=.seq its.toArray n }={ cls:=.type "list",data:=.seq its'.toArray n' }) (r:Vals ys its') (hz:ys.length≤sizeLine) (t:Nat) :
  Inv X pins σ (upd H p (.lst ys)) { s with heap:=s.heap.update p f,toks:=t }:=by
 have e:(s.heap.update p f).get? p=some { cls:=.type "list",data:=.seq its'.toArray n' }:=by
  rw [AR f ho (by rw [hf]<;>rfl),hf]
 refine I.write (x:=p) (e:=p) (by rw [h];trivial) (.inl rfl) (λb u hb q=>(BM _ _ (Ne.symm hb)).trans q) ⟨_,e⟩ ?_
 exact ⟨hz,its',n',r,e⟩
def AaO:V->V->V->Hp->(Hp->Prop)->Prop:=λo i v H Q=>∃ p xs k j,o=.ref p∧i=.int k∧H p=some (.lst xs)∧ixN xs.length k=some j∧Q (upd H p (.lst (xs.set j v)))
theorem set_list:Wf X AaO:=by
 intro pins s σ H o i v ov iv u Q I ro ri rv h
 obtain ⟨p,xs,k,j,rfl,rfl,hp,hj,q⟩:=h
 cases ro
 obtain ⟨t,rfl⟩:=ri
 obtain ⟨its,n,r,ho,hz⟩:=I.lst hp
 obtain ⟨h1,h2,h3,h4⟩:=Q8 hj
 have hl:=r.length
 have hn:=K7
 have I':Inv X pins σ (upd H p (.lst (xs.set j v))) { s with heap:=s.heap.update p (Obj.mapSeq (·.setIfInBounds j u)) }:=
  I.lstUpd hp ho (Qp its n j u) (r.set rv j) (by rw [List.length_set];exact hz) s.toks
 by_cases h0:0≤k
 ·have hk:k.toNat=j:=by
   rw [seqIndex_of h0 h4] at h1
   exact AN h1
  exact PySem.W.ki_setAt ho h0 (by ext) (by rw [An,← hl];exact h4) (by rw [hk];exact ⟨_,I',q⟩)
 ·have hk:(k+(its.toArray.size:Int)).toNat=j:=by
   rw [seqIndex_neg (by ext) h3] at h1
   rw [An,← hl]
   exact AN h1
  exact PySem.W.ki_setBack ho (by ext) (by rw [An,← hl];exact h3) (by ext) (by rw [hk];exact ⟨_,I',q⟩)
theorem Ol (lo hi:Option Int)(n:Nat):(sliceBounds lo hi none n).1=((HT.sIx n 0 lo:Nat):Int)∧(sliceBounds lo hi none n).2.1=((HT.sIx n n hi:Nat):Int)∧(sliceBounds lo hi none n).2.2=1:=by
 refine ⟨?_,?_,rfl⟩
 ·cases lo with
  | none=>simp [sliceBounds,HT.sIx]
  | some i =>
   simp only [sliceBounds,HT.sIx,Option.getD_none,show (1:Int) > 0 by decide,if_true]
   by_cases h:i<0
   ·simp only [h,if_true]<;>ext
   ·simp only [h,AZ]<;>ext
 ·cases hi with
  | none=>simp [sliceBounds,HT.sIx]
  | some i =>
   simp only [sliceBounds,HT.sIx,Option.getD_none,show (1:Int) > 0 by decide,if_true]
   by_cases h:i<0
   ·simp only [h,if_true]<;>ext
   ·simp only [h,AZ]<;>ext
theorem MI (its:List Value)(lo hi:Option Int):slicePick its.toArray lo hi none=((its.drop (HT.sIx its.length 0 lo)).take (HT.sIx its.length its.length hi-HT.sIx its.length 0 lo)).toArray:=by
 obtain ⟨h1,h2,h3⟩:=Ol lo hi its.toArray.size
 unfold slicePick
 rw [h1,h2,h3]
 simp only [sliceRange_one,pick_run,An]<;>rfl
def ZT (K:PySem.W.Frag):V->Option Int->Option Int->Hp->VK->Prop:=λx lo hi H Q=>∃ a xs,x=.ref a∧SqL K H a xs∧∀ p,H p=none->Q (.ref p) (upd H p (.lst (OD xs lo hi)))
theorem VL:SlR X (ZT X.K):=by
 intro pins s σ H x v vl vu lo hi sl Q I rx hs pl pu h
 obtain ⟨a,xs,rfl,hx,q⟩:=h
 cases rx
 obtain ⟨its,r,ht,hz⟩:=I.list hx
 have hlen:=r.length
 refine ⟨"list",_,slot_list_getitem.lookup,ht.isList.typeIs,?_⟩
 refine wpAny_getItem_list_slice ht.isList hs pl pu .none (by simp) ?_ (by rw [An]<;>ext)
 rw [MI,← hlen]
 refine ⟨.ref s.heap.objs.size,_,I.laid (t':=s.toks) (o:=.lst (OD xs lo hi)) (λb ob q=>Ae _ q) (Al _) ?_,rfl,q _ (I.hok.fresh (Al _))⟩
 exact ⟨AL (Lj xs lo hi) hz,_,0,(r.drop (HT.sIx xs.length 0 lo)).take (HT.sIx xs.length xs.length hi-HT.sIx xs.length 0 lo),Aq _ rfl⟩
theorem H0:Hy X (.builtin "len") (λxs H Q=>∃ p ys,xs=[.ref p]∧(SqL X.K H p ys∨SqT X.K H p ys)∧Q (.int ys.length) H):=by
 intro pins s σ H xs us Q I r h
 obtain ⟨p,ys,rfl,hq,q⟩:=h
 obtain ⟨u,rfl,rx⟩:=vals1 r
 cases rx
 have hn:=K7
 rcases hq with hq|hq
 ·obtain ⟨its,r',pl,hz⟩:=I.list hq
  have hlen:=r'.length
  exact Calls.call_len_list pl.isList (by simp only [An]<;>ext) ⟨.int ys.length,H,I.tok _,⟨s.toks+1,by rw [An,hlen]⟩,q⟩
 ·obtain ⟨its,r',pl,hz⟩:=I.tuple hq
  have hlen:=r'.length
  exact len_tuple pl (by simp only [An]<;>ext) ⟨.int ys.length,H,I.tok _,⟨s.toks+1,by rw [An,hlen]⟩,q⟩
theorem NN:Hy X (.builtin "len") (λxs H Q=>∃ z,xs=[.str z]∧z.length≤sizeLine∧Q (.int z.length) H):=by
 intro pins s σ H xs us Q I r h
 obtain ⟨z,rfl,hz,q⟩:=h
 obtain ⟨u,rfl,t,rfl⟩:=vals1 r
 have hn:=K7
 exact len_str (by ext) ⟨.int z.length,H,I.tok _,⟨_,rfl⟩,q⟩
theorem N0:Hy X (.type "list") (λxs H Q=>∃ p ys,xs=[.ref p]∧(SqL X.K H p ys∨SqT X.K H p ys)∧∀ l,H l=none->Q (.ref l) (upd H l (.lst ys))):=by
 intro pins s σ H xs us Q I r h
 obtain ⟨p,ys,rfl,hq,q⟩:=h
 obtain ⟨u,rfl,rx⟩:=vals1 r
 cases rx
 have fin:∀ (its:List Value),Vals ys its->ys.length≤sizeLine->∀ (h':Heap) (c':Nat),(∀ b o',s.heap.get? b=some o'->h'.get? b=some o') ->
   h'.get? s.heap.objs.size=some { cls:=.type "list",dict:=none,data:=.seq its.toArray c',slots:=#[] }->EP X pins σ Q (.ref s.heap.objs.size) { s with heap:=h' }:=λits r' hz h' c' kp e =>
  ⟨.ref s.heap.objs.size,_,I.laid (t':=s.toks) kp (Al _) (show ObjOk X.prog X.w _ h' _ (.lst ys) from ⟨hz,its,c',r',e⟩),rfl,q _ (I.hok.fresh (Al _))⟩
 rcases hq with hq|hq
 ·obtain ⟨its,r',pl,hz⟩:=I.list hq
  have hlen:=r'.length
  obtain ⟨o,ho,hc,n,hd⟩:=pl.isList
  exact call_list_seq p (.inl rfl) ho hc hd (λh' c' kp e=>fin its r' hz h' c' kp e) (by simp only [An]<;>ext)
 ·obtain ⟨its,r',pl,hz⟩:=I.tuple hq
  have hlen:=r'.length
  obtain ⟨o,ho,hc,n,hd⟩:=pl
  exact call_list_seq p (.inr rfl) ho hc hd (λh' c' kp e=>fin its r' hz h' c' kp e) (by simp only [An]<;>ext)
theorem MM:Hy X (.type "tuple") (λxs H Q=>∃ p ys,xs=[.ref p]∧((SqL X.K H p ys∧∀ l,H l=none->Q (.ref l) (upd H l (.tup ys)))∨(SqT X.K H p ys∧Q (.ref p) H))):=by
 intro pins s σ H xs us Q I r h
 obtain ⟨p,ys,rfl,h⟩:=h
 obtain ⟨u,rfl,rx⟩:=vals1 r
 cases rx
 rcases h with ⟨hq,q⟩|⟨hq,q⟩
 ·obtain ⟨its,r',pl,hz⟩:=I.list hq
  have hlen:=r'.length
  refine call_tuple_list pl.isList (λh' kp=>?_) (by simp only [An]<;>ext)
  have I1:Inv X pins σ H { s with heap:=h' }:=I.kept (t':=s.toks) kp
  have I2:Inv X pins σ (upd H h'.objs.size (.tup ys)) { s with heap:=h'.push { cls:=.type "tuple",data:=.seq its.toArray } }:=
   I1.laid (t':=s.toks) (λb o e=>Ae _ e) (Al _) (show ObjOk X.prog X.w _ _ _ (.tup ys) from ⟨⟨hz,⟨_,Aq _ rfl,rfl⟩⟩,its,r',IsTup.new _ _⟩)
  exact ⟨.ref h'.objs.size,_,I2,rfl,q _ (I1.hok.fresh (Al _))⟩
 ·obtain ⟨its,r',pl,hz⟩:=I.tuple hq
  exact call_tuple_same pl ⟨.ref p,H,I,rfl,q⟩
def tyV (K:PySem.W.Frag)(T:String)(x:V)(H:Hp):Prop:=match x with
 | .str _=>T="str"
 | .int _=>T="int"
 | .ref p=>(T="list"∧∃ xs,SqL K H p xs)∨(T="tuple"∧∃ o,K.lookup p=some o∧o.cls=.type "tuple"∧o.dict=none) ∨
   (T="dict"∧((∃ kvs,H p=some (.dK kvs))∨∃ kvs,H p=some (.dT kvs)))∨(T="set"∧∃ S n,H p=some (.set S n))
 | _=>False
theorem X9 {pins:List (Addr×Obj)}{σ:St}{H:Hp}{s:Shared}{T:String}{x:V}{v:Value}(I:Inv X pins σ H s)(r:RelV x v)(ty:tyV X.K T x H) :
  s.TypeIs v T∧∀ a,v=.ref a->∃ ob,s.heap.get? a=some ob∧ob.dict=none:=by
 cases x with
 | str z =>
  obtain ⟨t,rfl⟩:=r
  cases (show T="str" from ty)
  exact ⟨typeIs_str s z t,λ_ e=>nomatch e⟩
 | int i =>
  obtain ⟨t,rfl⟩:=r
  cases (show T="int" from ty)
  exact ⟨typeIs_int s i t,λ_ e=>nomatch e⟩
 | ref p =>
  cases r
  rcases ty with ⟨rfl,xs,hq⟩|⟨rfl,o,hk,hc,hd⟩|⟨rfl,hk⟩|⟨rfl,S,n,hk⟩
  ·obtain ⟨its,_,pl,_⟩:=I.list hq
   refine ⟨pl.isList.typeIs,λa e=>?_⟩
   cases e
   obtain ⟨o,n,e,c,hd,_⟩:=pl
   exact ⟨o,e,hd⟩
  ·refine ⟨⟨o,I.kIn p o hk,hc⟩,λa e=>?_⟩
   cases e
   exact ⟨o,I.kIn _ o hk,hd⟩
  ·have z:∃ o,s.heap.get? p=some o∧o.ExactDict:=by
    rcases hk with ⟨kvs,hk⟩|⟨kvs,hk⟩
    ·obtain ⟨_,_,_,_,o,_,_,e,ex,_⟩:=I.hok p _ hk
     exact ⟨o,e,ex⟩
    ·obtain ⟨_,_,_,_,o,_,_,e,ex,_⟩:=I.hok p _ hk
     exact ⟨o,e,ex⟩
   obtain ⟨o,e,ex⟩:=z
   refine ⟨⟨o,e,ex.1⟩,λa e2=>?_⟩
   cases e2
   exact ⟨o,e,ex.2.1⟩
  ·obtain ⟨o,_,_,_,e,ex,_⟩:=I.hok p _ hk
   refine ⟨⟨o,e,ex.1⟩,λa e2=>?_⟩
   cases e2
   exact ⟨o,e,ex.2.1⟩
 | _=>exact False.elim ty
def tBM (K:PySem.W.Frag)(T:String)(r:V->List V->Hp->VK->Prop)(to:TE)(t:TA):TE:=fun σ H Q=>to σ H λx H1=>tyV K T x H1∧t σ H1 λxs H2=>r x xs H2 Q
variable {o e:Expr} {es:List Expr} {to:TE} {t:TA} {name:Str} {apos cpos:Pos} {T id:String} {r:V->List V->Hp->VK->Prop}
theorem Xi (pa:PlainAttrs T)(slot:Slot T name id)(hty:typeOf (.builtin id)=pure (.type "method_descriptor"))(hm:MtR X id r)(ho:PE X o to)(ha:PA X (e::es) t)
  (hbase:attributeBase o name X.env (eval o X.env)=eval o X.env:=by rfl)
  (hfew:((backTo cpos (starEach (e::es) X.env)).all (λx=>!x.1)&&(backToKw cpos (keywordEach [] X.env)).all (λx=>x.1.isSome)
   && decide ((e::es).length+([]:List Keyword).length+(if ([]:List Keyword).isEmpty then 0 else 1)<30))=true:=by rfl)
  (hline:(apos.endLine==cpos.line)=true:=by rfl) (hs:starEach (e::es) X.env=(false,eval e X.env)::starEach es X.env:=by rfl) (hplain:(backTo cpos (starEach es X.env)).any (·.1)=false:=by rfl) :
  PE X (.Call (.Attribute o name apos) (e::es) [] cpos) (tBM X.K T r to t):=by
 intro pins s σ H Q I h
 refine wpAny_Call_method_late hbase hfew hline rfl (thn (ho pins s σ H _ I h) λv s1 ⟨x,H1,I1,r1,ty,q1⟩=>?_)
 obtain ⟨h1,h2⟩:=X9 I1 r1 ty
 refine ⟨T,id,pa,slot,hty,h1,h2,?_⟩
 have hA:=ha cpos pins s1 σ H1 _ I1 q1
 rw [hs] at hA ⊢
 refine Calls.callWith_builtin (by show (false||(backTo cpos (starEach es X.env)).any (·.1))=false;rw [hplain]<;>rfl) (Calls.evalArgs_plain ?_)
 exact thn hA λus s2 ⟨vs,H2,I2,r2,q2⟩=>hm pins s2 σ H2 x vs v us Q I2 r1 r2 q2
end
def MtM (X:Cx)(id:String)(r:V->List V->Hp->VK->Prop):Prop:=
 ∀ (pins:List (Addr×Obj)) (s:Shared) (σ:St) (H:Hp) (x:V) (xs:List V) (v:Value) (us:List Value) (Q:VK),Inv X pins σ H s->RelV x v->Vals xs us->r x xs H Q ->
  wpAny (model X.prog X.w) X.A (call (.builtin id) (v::us)) (EP X pins σ Q) X.xe s
theorem Vals.one:∀ {x:V} {us:List Value},Vals [x] us->∃ u,us=[u]∧RelV x u
 | _,_,.cons r .nil=>⟨_,rfl,r⟩
theorem Vals.reverse {xs:List V}{us:List Value}(h:Vals xs us):Vals xs.reverse us.reverse:=by
 induction h with
 | nil=>exact .nil
 | cons r t ih=>rw [List.reverse_cons,List.reverse_cons];exact Vals.append ih (.cons r .nil)
theorem Vals.rep {xs:List V}{us:List Value}(h:Vals xs us):∀ k:Nat,Vals (List.replicate k xs).flatten (List.replicate k us).flatten
 | 0=>.nil
 | k+1=>by
  rw [List.replicate_succ,List.replicate_succ,List.flatten_cons,List.flatten_cons]
  exact Vals.append h (Vals.rep h k)
theorem foldl_rep (its:List Value):∀ (k:Nat) (acc:List Value),
  List.foldl (λx1 x2=>x1++x2) acc.toArray (List.replicate k its.toArray)=(acc++(List.replicate k its).flatten).toArray
 | 0,acc=>by simp
 | k+1,acc=>by
  have e:acc.toArray++its.toArray=(acc++its).toArray:=by simp
  have e2:(acc++its)++(List.replicate k its).flatten=acc++(List.replicate (k+1) its).flatten:=by
   rw [List.replicate_succ,List.flatten_cons,List.append_assoc]
  rw [← e2,← foldl_rep its k (acc++its),← e,List.replicate_succ,List.foldl_cons]
section
variable {X:Cx} {pins:List (Addr×Obj)} {σ:St} {H:Hp} {s:Shared} {l b:Addr} {xs ys zs:List V}
theorem Inv.lset {its its':List Value}{n:Nat}{f:Array Value->Array Value}{t':Nat}(I:Inv X pins σ H s)(hH:H l=some (.lst xs))
  (e:s.heap.get? l=some { cls:=.type "list",data:=.seq its.toArray n }) (hf:f its.toArray=its'.toArray) (hv:Vals ys its') (hz:ys.length≤sizeLine) :
  Inv X pins σ (upd H l (.lst ys)) { s with heap:=s.heap.update l (Obj.mapSeq f),toks:=t' }:=by
 have q:=PySem.IsL.update e f
 rw [hf] at q
 refine I.write (x:=l) (e:=l) (by rw [hH];exact trivial) (.inl rfl) (λb' u hb hu=>(BM s.heap (Obj.mapSeq f) (Ne.symm hb)).trans hu) ⟨_,q⟩ ?_
 exact ⟨hz,its',_,hv,q⟩
theorem Inv.lstM (I:Inv X pins σ H s)(hH:H l=some (.lst xs)):xs.length≤sizeLine∧∃ (its:List Value) (n:Nat),Vals xs its∧xs.length=its.length∧s.heap.get? l=some { cls:=.type "list",data:=.seq its.toArray n }:=by
 obtain ⟨z,its,n,r,e⟩:=I.hok l _ hH
 exact ⟨z,its,n,r,r.length,e⟩
theorem Vi {n:Nat}(h:n≤sizeLine):Builtin.List.listTooLong n=false:=by
 unfold Builtin.List.listTooLong
 exact AV (by ext)
end
section
variable {X:Cx}
def WN:V->List V->Hp->VK->Prop:=λx vs H Q=>∃ l xs y,x=.ref l∧vs=[y]∧H l=some (.lst xs)∧xs.length<sizeLine∧Q .non (upd H l (.lst (xs++[y])))
theorem Sl:MtM X "list.append" WN:=by
 intro pins s σ H x vs v us Q I rx rv h
 obtain ⟨l,xs,y,rfl,rfl,hH,hz,q⟩:=h
 cases rx
 obtain ⟨u,rfl,ru⟩:=rv.one
 obtain ⟨z,its,n,r,hl,e⟩:=I.lstM hH
 refine call_meets F.slot_list_append ⟨_,e,rfl⟩ F.entry_list_append (F.args_list_append_2 _ _) (PySem.list_append l its.toArray n u (by rw [An];ext)) ⟨e,?_⟩
 refine ⟨.non,_,I.lset (its':=its++[u]) hH e (by simp) (r.append (.cons ru .nil)) ?_,rfl,q⟩
 rw [Ai,List.length_singleton]
 ext
theorem len_rep {α:Type}(xs:List α)(k:Nat):(List.replicate k xs).flatten.length=k*xs.length:=by
 induction k with
 | zero=>simp
 | succ k ih=>rw [List.replicate_succ,List.flatten_cons,Ai,ih,Nat.succ_mul,Nat.add_comm]
end
end L2
namespace Att
open PySem PySem.W PySem.Calls PyProof.Rows
theorem Lv {P:Params}{h:Heap}:∀ (ns:List Int) (vs:List Value),WellAll P h vs (ns.map WData.int)->IntsAre vs ns:=by
 intro ns
 induction ns with
 | nil =>
  intro vs w
  rw [List.map_nil] at w
  cases w
  exact .nil
 | cons n ns ih =>
  intro vs w
  rw [AO] at w
  cases w with
  | cons a b =>
   cases a
   exact .cons _ _ (ih _ b)
theorem S1 {l:OpenLaw}{n:Nat}(hn:l.most=some n){P:Params}{h:Heap}{args:List WData}{vals:List Value}
  (hpre:l.row.toRowW.claim.pre args=true) (hwl:WellAll P h vals args) :
  ∃ a vs ns,vals=[Value.ref a]∧args=[WData.list (ns.map WData.int)]∧h.get? a=some { cls:=.type "list",data:=.seq vs.toArray }∧IntsAre vs ns∧ns.length≤n:=by
 have hsh:WShape.hasAll [] args [.list .int]=true:=(pre_splitW hpre).1
 have hc:l.pre.holds [] { args:=args }=true:=(pre_splitW hpre).2
 obtain ⟨d,r,rfl,h1,h2⟩:=hasAllW_cons hsh
 obtain rfl:=hasAllW_nil h2
 obtain ⟨xs,rfl,h3⟩:=hasW_list h1
 obtain ⟨ns,rfl⟩:=items_int h3
 have hlen:ns.length≤n:=by
  unfold OpenLaw.pre at hc
  have h4:(WTm.not (.lt (.lit (.int (n:Int))) (.len (.arg 0)))).holds [] { args:=[.list (ns.map .int)] }=true:=by
   have h4:=(holds_andW hc).1
   rw [hn] at h4
   exact h4
  have h5:=condW_of h4 (w_not (w_lt w_lit (w_len_list (w_arg rfl))))
  rw [Af] at h5
  refine Nat.le_of_not_lt λq=>?_
  have q':(n:Int)<((ns.length:Nat):Int):=by ext
  first
   | (rw [Bw q'] at h5;exact absurd h5 (by decide))
   | (simp at h5;ext)
 cases hwl with
 | cons w1 w2 =>
  cases w2
  cases w1 with
  | list ho hall=>exact ⟨_,_,ns,rfl,rfl,ho,Lv ns _ hall,hlen⟩
theorem R0 (l:OpenLaw)(args:List WData):l.row.toRowW.claim.post args (.bool true) args=true:=
 postW_of (r:=l.row.toRowW) (X:=(true==true))
  (show WShape.has [] (.bool true) .bool=true by first|rfl|decide|simp [WShape.has,WShape.arms,WShape.armsAll])
  (show (WTm.eq .res (.lit (.bool true))).value [] { args:=args,res:=some (.bool true),after:=args }=some (.bool (true==true)) from w_eq_bool (w_res rfl) w_lit) rfl
theorem Pe {l:OpenLaw}{n:Nat}{q:Program}{loose:List Str}{XP:(Str->Option Value)->Heap->Prop}{YP:World->Heap->Prop}{d:DefRec}
  (hn:l.most=some n) (hdf:d.params.defaults=[])
  (call:∀ (w:World) (s₀ s₁:Shared) (mg mb:Str->Option Value) (fa:Addr) (o:Obj) (pm cd doc:Value) (a:Addr) (vs:List Value) (ns:List Int),
   Ground q loose [] XP w s₀ mg mb s₁.heap->YP w s₁.heap ->
   s₁.heap.get? fa=some o->o.data=.func (docDef d.name d.params d.body d.scope pm cd doc)->s₁.heap.CodeRec cd d.name->mg d.name=some (.ref fa) ->
   s₁.heap.get? a=some { cls:=.type "list",data:=.seq vs.toArray }->IntsAre vs ns->ns.length≤n->s₁.gens=#[] ->
   codeAny (model l.prog w) callerA (.call (.ref fa) ⟨[.ref a],[]⟩) (λr s'=>r=.ok (.ret (.bool true))∧OldK s₁.heap s'.heap∧s'.os=s₁.os∧AllBare s'.gens) s₁) :
  WalkO q loose XP YP l.row.toRowW d [] (λf vs=>PySem.call f vs):=by
 intro w s₀ s₁ mg mb G Y fa o pm cd doc dV kV ho hd hcd hD hmg hg args vals as hpre hlay hrd hwl hlo
 obtain rfl:dV=.none:=Dflts.none hD hdf
 obtain rfl:kV=.none:=Dflts.noKw hD
 obtain ⟨a,vs,ns,rfl,rfl,hobj,hints,hlen⟩:=S1 hn hpre hwl
 refine enter_call (codeAny_mono (call w s₀ s₁ mg mb fa o pm cd doc a vs ns G Y ho (fd_plain hd) hcd hmg hobj hints hlen hg) λr s' hq=>?_)
 obtain ⟨rfl,h2,h3,h4⟩:=hq
 exact ⟨.inl ⟨.bool true,.bool true,[],rfl,λ_=>rfl,.bool true,R0 l _,λ_=>⟨List.Pairwise.nil,λ_ hm=>(nomatch hm)⟩⟩,h2,h3,h4⟩
end Att
namespace L2
open PySem PySem.Spec PyProof.Rows
theorem Nk:∀ {vs:List Value} {ns:List Int},IntsAre vs ns->Vals (ns.map V.int) vs
 | _,_,.nil=>.nil
 | _,_,.cons n t h=>.cons ⟨t,rfl⟩ (Nk h)
def Zh (H:Hp):Prop:=∀ b,H b=none∨∃ o xs,H b=some (.frz o (.lst xs))
theorem Ut {P:Program}{w:World}{K:PySem.W.Frag}{mg mb:Str->Option Value}{CX:CXT}{k:Nat}{fa a:Addr}{fd:FuncData}{x:Str}{sp:Sp}{s₁:Shared}{vs:List Value}{ns:List Int}
  (KX:K.In s₁.heap) (hns:s₁.heap.Ns mainGlobals mg) (hb:s₁.heap.Ns builtinsNs mb) (hbb:∀ x:Str,x≠"__name__"->mb x=bootBuiltins x) (hlim:s₁.heap.NoLimit) (hg:s₁.gens=#[])
  (ha:s₁.heap.get? a=some { cls:=.type "list",data:=.seq vs.toArray }) (hi:IntsAre vs ns) (hl:ns.length≤sizeLine) (hr:Room k callerA)
  (F:∀ base:Heap,K.In base->base.Ns mainGlobals mg->DM P w K mg base CX k fa fd [x] sp) (hbind:∀ (s:Shared) (u:Value),BindsTo s fd ⟨[u],[]⟩ [(x,u)])
  (hsp:∀ H:Hp,Zh H->SqL K H a (ns.map V.int)->sp [.ref a] H (λv _=>v=.bl true) λ_ _ _=>False)
  (hCX:∀ H e s',CX [] H s₁ (λ_ _ _=>False) e s'->False) :
  codeAny (model P w) callerA (.call (.ref fa) ⟨[.ref a],[]⟩) (λr s'=>r=.ok (.ret (.bool true))∧OldK s₁.heap s'.heap∧s'.os=s₁.os∧AllBare s'.gens) s₁:=by
 have rv:=Nk hi
 have lenV:=hi.length
 have core:∀ H:Hp,Zh H->SqL K H a (ns.map V.int)->HOk P w H s₁.heap->(∀ b,H b≠none->b=a)->(H a≠none->K.lookup a=none) ->
   codeAny (model P w) callerA (.call (.ref fa) ⟨[.ref a],[]⟩) (λr s'=>r=.ok (.ret (.bool true))∧OldK s₁.heap s'.heap∧s'.os=s₁.os∧AllBare s'.gens) s₁:=by
  intro H hO hS hok hA hK
  have base_of:∀ {b:Addr} {o:Obj},s₁.heap.get? b=some o->H b=none->(NY s₁.heap H).get? b=some o:=λe n=>Tj e n
  have noA:∀ {b:Addr} {o:Obj} {es:Array DictEntry} {ep:Nat},s₁.heap.get? b=some o->o.data=.dict es ep->H b=none:=λ{b o es ep} e d=>by
   cases q:H b with
   | none=>rfl
   | some u =>
    have e':b=a:=hA b (by rw [q];simp)
    subst e'
    rw [ha] at e;cases e
    have d':Data.seq vs.toArray _=Data.dict es ep:=d
    cases d'
  have nsK:∀ {b:Addr} {m:Str->Option Value},s₁.heap.Ns b m->(NY s₁.heap H).Ns b m:=λ{b m} ⟨o,es,ep,e,d,r⟩=>⟨o,es,ep,base_of e (noA e d),d,r⟩
  have hKb:K.In (NY s₁.heap H):=λb o e=>base_of (KX b o e) (by
   cases q:H b with
   | none=>rfl
   | some u =>
    have e':b=a:=hA b (by rw [q];simp)
    subst e'
    rw [hK (by rw [q];simp)] at e;cases e)
  have hM:Mod K mg (NY s₁.heap H):=⟨hKb,nsK hns,⟨mb,nsK hb,hbb⟩,let ⟨mc,h1,h2⟩:=hlim;⟨mc,nsK h1,h2⟩⟩
  have e0:WJ P w K mg (NY s₁.heap H) callerA [] s₁ H:=⟨rfl,hM,λb o e=>VQ e,Nat.le_of_eq (SO _ _),trivial,λb hb=>absurd (show b∈([]:List Addr) from hb) (by simp),hok,.of_eq hg⟩
  refine codeAny_mono ((F _ hKb (nsK hns)).run callerA [] s₁ H ⟨[.ref a],[]⟩ [.ref a] [.ref a] _ _ hr e0 (hbind s₁ (.ref a)) (.cons rfl .nil) (hsp H hO hS)) λr s' h=>?_
  cases r with
  | error e=>exact (hCX H e s' h).elim
  | ok fl =>
   cases fl with
   | next=>exact False.elim h
   | brk=>exact False.elim h
   | cont=>exact False.elim h
   | ret u =>
    obtain ⟨v,H',os,bare,un,hok',r',q⟩:=h
    have q':v=.bl true:=q
    subst q'
    obtain rfl:u=Value.bool true:=r'
    refine ⟨rfl,OldK.of_keep λb o e=>?_,os,bare⟩
    cases q:H b with
    | none=>exact un.keep b o e q (by intro z;exact absurd (show b∈([]:List Addr) from z) (by simp)) (by simp)
    | some u =>
     rcases hO b with z|⟨ob,xs,z⟩
     ·rw [q] at z;cases z
     ·have z2:=un.frzs b ob _ z
      obtain ⟨e1,_⟩:=hok b _ z
      obtain ⟨e2,_⟩:=hok' b _ z2
      rw [e] at e1;cases e1
      exact e2
 cases hk:K.lookup a with
 | some o =>
  have e:=KX a o hk
  rw [ha] at e
  cases e
  refine core (λ_=>none) (λ_=>.inl rfl) (.inr ⟨_,vs.toArray,_,hk,rfl,rfl,rfl,by rw [An,lenV];exact hl,by simpa using rv⟩) (λb u z=>by have z':(none:Option HO)=some u:=z;cases z') (λb z=>absurd rfl z) λz=>absurd rfl z
 | none =>
  refine core (λb=>if b=a then some (.frz { cls:=.type "list",data:=.seq vs.toArray } (.lst (ns.map V.int))) else none) (λb=>?_) (.inl (.inr ⟨{ cls:=.type "list",data:=.seq vs.toArray },if_pos rfl⟩)) (λb u z=>?_) (λb z=>?_) λ_=>hk
  ·by_cases hb:b=a
   ·exact .inr ⟨_,_,if_pos hb⟩
   ·exact .inl (if_neg hb)
  ·by_cases hb:b=a
   ·have z':=(if_pos hb).symm.trans z
    cases z'
    subst hb
    exact ⟨ha,by rw [Af];exact hl,vs,_,rv,ha⟩
   ·have z':=(if_neg hb).symm.trans z
    cases z'
  ·by_cases hb:b=a
   ·exact hb
   ·exact absurd (if_neg hb) z
theorem Wi {l:PySem.W.OpenLaw}{n k:Nat}{q:Program}{loose:List Str}{XP:(Str->Option Value)->Heap->Prop}{YP:World->Heap->Prop}{d:DefRec}{K:Params->PySem.W.Frag}{CX:World->CXT}{sp:World->Sp}{x:Str}
  (hn:l.most=some n) (hn2:n≤sizeLine) (hdf:d.params.defaults=[]) (hr:Room k callerA)
  (hY:∀ (w:World) (h:Heap),YP w h->(K w.params).In h)
  (F:∀ (w:World) (mg:Str->Option Value) (fa:Addr) (h:Heap),(K w.params).In h->h.Ns mainGlobals mg->mg d.name=some (.ref fa) ->
   ∃ fd:FuncData,(∀ (s:Shared) (u:Value),BindsTo s fd ⟨[u],[]⟩ [(x,u)]) ∧
    ∀ base:Heap,(K w.params).In base->base.Ns mainGlobals mg->DM l.prog w (K w.params) mg base (CX w) k fa fd [x] (sp w))
  (hsp:∀ (w:World) (H:Hp) (a:Addr) (ns:List Int),ns.length≤n->Zh H->SqL (K w.params) H a (ns.map V.int)->sp w [.ref a] H (λv _=>v=.bl true) λ_ _ _=>False)
  (hCX:∀ (w:World) (H:Hp) (s:Shared) (e:Value) (s':Shared),CX w [] H s (λ_ _ _=>False) e s'->False) :
  PySem.W.WalkO q loose XP YP l.row.toRowW d [] (λf vs=>PySem.call f vs):=by
 refine Att.Pe hn hdf λw s₀ s₁ mg mb fa o pm cd doc a vs ns G Y ho hd hcd hmg hobj hints hlen hg=>?_
 have KX:=hY w _ Y
 obtain ⟨fd,hb,hF⟩:=F w mg fa _ KX G.T.g hmg
 exact Ut KX G.T.g G.T.b G.T.builtins G.T.nolimit hg hobj hints (AL hlen hn2) hr hF hb (λH hO hS=>hsp w H a ns hlen hO hS) λH e s'=>hCX w H s₁ e s'
noncomputable def Iq (s:Stmt):Arguments:=match s with
 | .FunctionDef _ a _ _ _ _ _ _ _ _=>a
 | _=>{ posonlyargs:=[],args:=[],vararg:=none,kwonlyargs:=[],kw_defaults:=[],kwarg:=none,defaults:=[] }
noncomputable def Fo (s:Stmt):List Stmt:=match s with
 | .FunctionDef _ _ b _ _ _ _ _ _ _=>b
 | _=>[]
noncomputable def Cf (s:Stmt):Scope:=match s with
 | .FunctionDef _ _ _ _ _ _ sc _ _ _=>sc
 | _=>{ kind:=.function,names:=[],isGenerator:=false,isCoroutine:=false }
abbrev CX0:CXT:=λ_ _ _ _ _ _=>False
abbrev E0:XK:=λ_ _ _=>False
theorem Z1 {X:Cx}:Passes CX0 X E0:=λ_ _ _ _ _ _ _ h=>h.elim
structure Fun (K:PySem.W.Frag) (x qual:Str) (st:Stmt) (f:Addr) (fd:FuncData):Prop where
 ex:∃ (oc:Value) (od:Option Addr) (kV doc pm:Value) (an:Option Addr) (cdv ct:Value) (osl:Array (Option Value)),
  fd=PySem.W.fnOf x qual (Iq st) (Fo st) (Cf st) .none kV doc pm an cdv ct∧K.lookup f=some ⟨oc,od,.func fd,osl⟩∧PySem.W.codeIn K cdv qual=true
 kp:PySem.W.keepIn K (.ref f)=true
section
variable {P:Program} {w:World} {K:PySem.W.Frag} {mg:Str->Option Value} {base:Heap}
theorem Fun.ok {x qual:Str}{st:Stmt}{f:Addr}{fd:FuncData}{N ps:List Str}{k:Nat}{sp:Sp}(F:Fun K x qual st f fd)(S:CB N ps (Cf st))(len:∀ vs H Q E,sp vs H Q E->vs.length=ps.length)
  (hbody:∀ (cdv:Value) (A:Around) (outer:List Env) (s:Shared) (H:Hp) (vs:List V) (Q:VK) (E:XK),Room k (A.deeper (envOfC qual (Cf st) s.heap.objs.size f cdv))->sp vs H Q E ->
   ∃ t,PSs (MP CX0 P w K mg base N qual (Cf st) f cdv A outer s H E).nox (Fo st) t∧t { nx:=λ_ H'=>Q .non H',rt:=Q } (start N vs) H):DM P w K mg base CX0 (k+1) f fd ps sp:=by
 obtain ⟨oc,od,kV,doc,pm,an,cdv,ct,osl,rfl,lk,hcd⟩:=F.ex
 refine Aav lk hcd S len λA outer s H vs Q E hr hsp=>?_
 obtain ⟨t,h,q⟩:=hbody cdv A outer s H vs Q E hr hsp
 exact ⟨t,h.nox,q⟩
theorem Fun.binds {x qual:Str}{st:Stmt}{f:Addr}{fd:FuncData}{ps:List Str}(F:Fun K x qual st f fd)
  (h:∀ (kV doc pm:Value) (an:Option Addr) (cdv ct:Value) (us:List Value),us.length=ps.length->bindArgs (PySem.W.fnOf x qual (Iq st) (Fo st) (Cf st) .none kV doc pm an cdv ct) ⟨us,[]⟩=pure (ps.zip us)):Binds K fd ps []:=by
 obtain ⟨oc,od,kV,doc,pm,an,cdv,ct,osl,rfl,lk,hcd⟩:=F.ex
 exact .all (h kV doc pm an cdv ct)
theorem T1 {x qual:Str}{st:Stmt}{f:Addr}{oc:Value}{od an:Option Addr}{osl:Array (Option Value)}{kV doc pm cdv ct:Value}(l:K.lookup f=some ⟨oc,od,.func (PySem.W.fnOf x qual (Iq st) (Fo st) (Cf st) .none kV doc pm an cdv ct),osl⟩)
  (c:PySem.W.codeIn K cdv qual=true) (k:PySem.W.keepIn K (.ref f)=true):Fun K x qual st f (PySem.W.fnOf x qual (Iq st) (Fo st) (Cf st) .none kV doc pm an cdv ct):=⟨⟨oc,od,kV,doc,pm,an,cdv,ct,osl,rfl,l,c⟩,k⟩
end
section
variable {X:Cx}
theorem pv (i:Nat){x:Str}{pos:Pos}(hN:X.N[i]? = some x:=by rfl)(hv:Vis X.env.scope x:=by first|exact Or.inl rfl|exact Or.inr (Or.inl rfl)|exact Or.inr (Or.inr rfl))(hd:(x==("__debug__":Str))=false:=by decide)
  (hcd:(x==("__classdict__":Str))=false:=by decide):PE X (.Name x pos) (ZR i):=TC hN hv hd hcd
end
abbrev Go (prog:Program) (w:World) (A:Around) {α:Type} (t:Sem α) (Q:α->Shared->Prop) (s:Shared):Prop:=wpAny (model prog w) A t Q (λ_ _=>False) s
noncomputable def tests (env:Env)(ifs:List Expr):Sem Bool:=forIn ifs true λc r =>
 if r=true then (isTrue c env (eval c env) >>= λok=>pure (ForInStep.yield ok)) else pure (ForInStep.yield r)
theorem QU {scope:Scope}{env:Env}(h:∀ y∈scope.names,y.2=.free->∃ c,env.cells.lookup y.1=some c) :
  ∃ cl,closureFor scope env=pure cl∧(∀ x c,cl.lookup x=some c->env.cells.lookup x=some c)∧∀ y∈scope.names,y.2=.free->∃ c,cl.lookup y.1=some c:=by
 have gen:∀ (l:List (Str×NameKind)) (acc:List (Str×Addr)),(∀ y∈l,y.2=.free->∃ c,env.cells.lookup y.1=some c)->(∀ x c,acc.lookup x=some c->env.cells.lookup x=some c) ->
   ∃ cl,(forIn l acc λ(x:Str×NameKind) (r:List (Str×Addr))=>if (x.2==NameKind.free)=true then do let c←cellOf env x.1;pure (ForInStep.yield ((x.1,c)::r)) else pure (ForInStep.yield r))=(pure cl:Sem (List (Str×Addr))) ∧
    (∀ x c,cl.lookup x=some c->env.cells.lookup x=some c)∧(∀ y∈l,y.2=.free->∃ c,cl.lookup y.1=some c)∧∀ x c,acc.lookup x=some c->∃ c',cl.lookup x=some c':=by
  intro l
  induction l with
  | nil=>intro acc _ ha;exact ⟨acc,rfl,ha,λ_ z=>(nomatch z),λx c e=>⟨c,e⟩⟩
  | cons y r ih =>
   intro acc hl ha
   obtain ⟨n,k⟩:=y
   by_cases hk:k=.free
   ·subst hk
    obtain ⟨c,hc⟩:=hl (n,.free) List.mem_cons_self rfl
    have ha':∀ x c',((n,c)::acc).lookup x=some c'->env.cells.lookup x=some c':=λx c' e=>by
     by_cases hx:x=n
     ·subst hx
      have hb:(x==x)=true:=beq_iff_eq.mpr rfl
      simp only [List.lookup,hb] at e
      cases e;exact hc
     ·have hb:(x==n)=false:=BY.mpr hx
      simp only [List.lookup,hb] at e
      exact ha x c' e
    obtain ⟨cl,h1,h2,h3,h4⟩:=ih ((n,c)::acc) (λy hy=>hl y (Bv _ hy)) ha'
    refine ⟨cl,?_,h2,λy hy hf=>?_,λx c' e=>?_⟩
    ·rw [List.forIn_cons]
     have e:cellOf env n=pure c:=by unfold cellOf;rw [hc]
     simp only [beq_self_eq_true,if_true,e,pure_bind]
     exact h1
    ·refine (Am.mp hy).elim (λz=>?_) λhy=>?_
     ·subst z
      have hb:(n==n)=true:=beq_iff_eq.mpr rfl
      exact h4 n c (by simp only [List.lookup,hb])
     ·exact h3 y hy hf
    ·by_cases hx:x=n
     ·subst hx
      have hb:(x==x)=true:=beq_iff_eq.mpr rfl
      exact h4 x c (by simp only [List.lookup,hb])
     ·have hb:(x==n)=false:=BY.mpr hx
      exact h4 x c' (by simp only [List.lookup,hb];exact e)
   ·obtain ⟨cl,h1,h2,h3,h4⟩:=ih acc (λy hy=>hl y (Bv _ hy)) ha
    refine ⟨cl,?_,h2,λy hy hf=>?_,h4⟩
    ·rw [List.forIn_cons]
     have e:(k==NameKind.free)=false:=by simpa using hk
     simp only [e,AG,AZ,pure_bind]
     exact h1
    ·refine (Am.mp hy).elim (λz=>?_) λhy=>?_
     ·subst z
      exact absurd hf hk
     ·exact h3 y hy hf
 obtain ⟨cl,h1,h2,h3,_⟩:=gen scope.names [] h (λx c e=>by simp at e)
 refine ⟨cl,?_,h2,h3⟩
 unfold closureFor
 rw [← h1]
 simp only [bind_pure]
noncomputable def Dv (X:Cx)(scope:Scope)(N:List Str)(cl:List (Str×Addr))(C:Addr)(s₁:Shared)(H₁:Hp)(fp:List Addr):Cx where
 prog:=X.prog
 w:=X.w
 K:=X.K
 mg:=X.mg
 base:=X.base
 A:=X.A
 N:=N
 s₀:=s₁
 H₀:=H₁
 env:=compEnvC scope cl C X.env
 outer:=X.stack
 stack:=X.stack
 ex:=fp
 fn:=λ_=>false
 calm:=X.calm
 pn:=[]
 xe:=λ_ _=>False
def PF (X:Cx)(ifs:List Expr)(t:TT):Prop:=
 ∀ (pins:List (Addr×Obj)) (s:Shared) (σ:St) (H:Hp) (Q:Bool->Hp->Prop),Inv X pins σ H s->t σ H Q ->
  wpAny (model X.prog X.w) X.A (tests X.env ifs) (TP X pins σ Q) X.xe s
def Ab2:TT:=λ_ H Q=>Q true H
theorem Yj {X:Cx}:PF X [] Ab2:=λ_ _ _ H _ I h=>wpAny_tests_nil ⟨H,I,h⟩
theorem Y4 {X:Cx}{c:Expr}{t:TT}(h:PT X c t):PF X [c] t:=λpins s σ H Q I q=>wpAny_tests_one (h pins s σ H Q I q)
def FvOk (X:Cx)(sc:Scope):List (Nat×Str)->Prop
 | []=>True
 | p::r=>(X.N[p.1]? = some p.2∧(X.env.scope.names.lookup p.2=some .cell∨X.env.scope.names.lookup p.2=some .free)∧(sc.names.lookup p.2=some .cell∨sc.names.lookup p.2=some .free))∧FvOk X sc r
theorem FvOk.get {X:Cx}{sc:Scope}:∀ {l:List (Nat×Str)} {k:Nat} {p:Nat×Str},FvOk X sc l->l[k]? = some p ->
  X.N[p.1]? = some p.2∧(X.env.scope.names.lookup p.2=some .cell∨X.env.scope.names.lookup p.2=some .free)∧(sc.names.lookup p.2=some .cell∨sc.names.lookup p.2=some .free)
 | [],_,_,_,h=>(by simp at h)
 | _::_,0,_,hf,h=>by simp at h;subst h;exact hf.1
 | _::_,k+1,_,hf,h=>FvOk.get (k:=k) hf.2 (by simpa using h)
noncomputable def st0 (nc:Nat)(fv:List (Nat×Str))(σ:St):St:=List.replicate nc none++fv.map λp=>σ.getD p.1 none
theorem Lr {scope:Scope}{env:Env}{x:Str}(hcell:∀ y∈scope.names,y.2≠.cell)
  (h:(relabel scope env).names.lookup x=some .cell∨(relabel scope env).names.lookup x=some .free):(x,NameKind.free)∈scope.names:=by
 have key:∀ k,(relabel scope env).names.lookup x=some k->k=.cell∨k=.free->(x,NameKind.free)∈scope.names:=λk hk hkk=>by
  have hm:=BZ hk
  obtain ⟨⟨n,k'⟩,hy,e⟩:=Ak.mp hm
  dsimp only at e
  by_cases hc:(k'==NameKind.free&&env.scope.kind==.function&&env.kindOf n==some .cell)=true
  ·rw [if_pos hc] at e
   cases e
   have:k'=.free:=by
    rw [Ab,Ab] at hc
    exact beq_iff_eq.mp hc.1.1
   subst this
   exact hy
  ·rw [if_neg hc] at e
   cases e
   rcases hkk with e|e
   ·subst e;exact absurd rfl (hcell _ hy)
   ·subst e;exact hy
 rcases h with h|h
 ·exact key _ h (.inl rfl)
 ·exact key _ h (.inr rfl)
theorem Un.lay {fs ex:List Addr}{H H':Hp}{h h':Heap}{D:Addr}{o:HO}(u:Un fs ex H H' h h')(hD:h.objs.size≤D)(hn:H' D=none):Un fs ex H (upd H' D o) h h' where
 keep:=u.keep
 slot:=u.slot
 free:=λb ob q n hx=>by
  rw [DE (AF (Az (Ar q) hD))]
  exact u.free b ob q n hx
 there:=u.there
 tups:=λb xs q=>by have:=u.tups b xs q;rw [DE (Dt this hn)];exact this
 frzs:=λb ob xs q=>by have:=u.frzs b ob xs q;rw [DE (Dt this hn)];exact this
 tbls:=λb ps q=>by
  obtain ⟨m,e⟩:=u.tbls b ps q
  exact ⟨m,by rw [DE (Dt e hn)];exact e⟩
theorem HOk.lay {P:Program}{w:World}{H:Hp}{h:Heap}{D:Addr}{o:HO}(x:HOk P w H h)(hn:H D=none)(new:ObjOk P w (upd H D o) h D o):HOk P w (upd H D o) h:=λb u e=>by
 by_cases hb:b=D
 ·subst hb;rw [Ey] at e;cases e;exact new
 ·rw [DE hb] at e
  exact (x b u e).stay (λc v _ q=>q) (λc q=>by rw [DE (Dt q hn)];exact q) λc xs q=>by rw [DE (Dt q hn)];exact q
section
variable {X:Cx} {tg iter elt:Expr} {ifs:List Expr} {scope:Scope} {pos:Pos} {wi:TI} {own:List Str} {fv:List (Nat×Str)} {g:TG} {tt:TT} {te:TE}
structure NH (X:Cx) (scope:Scope) (fv:List (Nat×Str)):Prop where
 calm:X.calm=true
 kind:scope.kind=.function
 cell:∀ y∈scope.names,y.2≠.cell
 names:∀ y∈scope.names,y.2=.local->scope.names.lookup y.1=some .local
 free:∀ y∈scope.names,y.2=.free->X.env.kindOf y.1=some .cell∨X.env.kindOf y.1=some .free
 fv:FvOk X (relabel scope X.env) fv
end
section
variable {X:Cx}
theorem U5:OpR X (compareOp .Is) (λx y H Q=>∃ a b,x=.bl a∧y=.bl b∧Q (.bl (a==b)) H):=by
 intro pins s σ H x y v u Q I rx ry h
 obtain ⟨a,b,rfl,rfl,q⟩:=h
 cases rx
 cases ry
 exact is_bool (KL I q rfl)
theorem PL:OpR X (compareOp .IsNot) (λx y H Q=>∃ a b,x=.bl a∧y=.bl b∧Q (.bl (a != b)) H):=by
 intro pins s σ H x y v u Q I rx ry h
 obtain ⟨a,b,rfl,rfl,q⟩:=h
 cases rx
 cases ry
 exact isnot_bool (KL I q rfl)
theorem WL {bs:List Bool}{us:List Value}(r:Vals (bs.map V.bl) us){i:Nat}{v:Value}(e:us[i]? = some v):∃ b,bs[i]? = some b∧v=.bool b:=by
 have hl:=r.length
 rw [Af] at hl
 have hi:i<us.length:=(Ah.mp e).1
 obtain ⟨u,hu,ru⟩:=r.get (i:=i) (x:=V.bl (bs[i]'(by ext))) (by simp)
 rw [e] at hu
 cases hu
 exact ⟨_,by simp,ru⟩
theorem QH (bs:List Bool):((List.range bs.length).all λi=>(bs[i]?).getD true)=bs.all id:=by
 refine Bool.eq_iff_iff.mpr ⟨λh=>Ao.mpr λb hb=>?_,λh=>Ao.mpr λi hi=>?_⟩
 ·obtain ⟨k,lk,rfl⟩:=List.mem_iff_getElem.mp hb
  simpa [lk] using Ao.mp h k (BR.mpr lk)
 ·have lk:i<bs.length:=BR.mp hi
  simpa [lk] using Ao.mp h bs[i] (BQ lk)
theorem S8 (hc:X.calm=true):Hy X (.builtin "all") (λxs H Q=>∃ (p:Addr) (bs:List Bool),xs=[.ref p]∧SqL X.K H p (bs.map V.bl)∧Q (.bl (bs.all id)) H):=by
 intro pins s σ H xs us Q I r h
 obtain ⟨p,bs,rfl,hq,q⟩:=h
 obtain ⟨u,rfl,ru⟩:=vals1 r
 cases ru
 obtain ⟨its,rv,pl,hz⟩:=I.list hq
 obtain ⟨m,F⟩:=I.fr
 have hlt:p<s.heap.objs.size:=by obtain ⟨o,n,e,_⟩:=pl;exact Ar e
 refine call_all_walk (wpAny_pyIter_list pl.isList ?_)
 refine ⟨s.heap.objs.size,[s.heap.objs.size,p],[s.heap.objs.size],its.toArray.size,_,_,λi=>(bs[i]?).getD true,rfl,
  Walks.list (A:=X.A.in1) (I.ok.hd hc) _ p (AF hlt) its.toArray,⟨⟨_,Aq _ rfl,rfl,rfl⟩,pl.isList.push _⟩,λi v s' Q' E' hP hQ=>?_,λh' tk hk=>?_⟩
 ·obtain ⟨b,e,rfl⟩:=WL rv (i:=i) (v:=v) (by simpa using hP)
  exact Bt (by simpa only [e,Option.getD_some] using hQ)
 ·have e:((List.range its.toArray.size).all λi=>(bs[i]?).getD true)=bs.all id:=by
   rw [An,← rv.length,Af]
   exact QH bs
  rw [e]
  exact ⟨.bl _,H,I.kept λb x e=>hk b x (λhm=>absurd (Ar e) (by rw [Ag.mp hm];exact Bi _)) (Ae _ e),rfl,q⟩
theorem P4:OpR X (binaryOp .Mult) (λx y H Q=>∃ (z:Str) (n:Int),x=.str z∧y=.int n∧MulOk z n∧Q (.str (Txt.mul z n)) H):=by
 intro pins s σ H x y v u Q I rx ry h
 obtain ⟨z,n,rfl,rfl,hok,q⟩:=h
 obtain ⟨t,rfl⟩:=rx
 obtain ⟨t',rfl⟩:=ry
 exact SB.mul hok λt' k=>⟨.str _,H,I.tok _,⟨_,rfl⟩,q⟩
theorem part_of {v:Value}{o:Option Int}(p:IsPart v o):∃ l:Option (Int×Tok),v=partValue l∧l.map (·.1)=o:=by
 cases p with
 | none=>exact ⟨none,rfl,rfl⟩
 | int i t=>exact ⟨some (i,t),rfl,rfl⟩
theorem Zd:SlR X (λx lo hi H Q=>∃ z:Str,x=.str z∧z.length≤sizeLine∧Q (.str (Txt.slice z lo hi)) H):=by
 intro pins s σ H x v vl vu lo hi sl Q I rx hs pl pu h
 obtain ⟨z,rfl,hz,q⟩:=h
 obtain ⟨t,rfl⟩:=rx
 obtain ⟨l,rfl,rfl⟩:=part_of pl
 obtain ⟨u,rfl,rfl⟩:=part_of pu
 refine ⟨"str",_,PySem.F.slot_str_getitem.lookup,typeIs_str _ _ _,?_⟩
 refine wpAny_getItem_str_slice (l:=l) (u:=u) (st:=none) hs rfl (post_val_or_str ⟨AL (Txt.slice_le z _ _) hz,λt' k=>?_⟩)
 exact ⟨.str _,H,I.tok _,⟨_,rfl⟩,q⟩
end
section
variable {X:Cx} {pins:List (Addr×Obj)} {σ:St} {H:Hp} {s:Shared} {h':Heap}
theorem Inv.turnedL {t':Nat}{ch:List Addr}(I:Inv X pins σ H s)(k:∀ b o,b∉ch->s.heap.get? b=some o->h'.get? b=some o)(hf:∀ b∈ch,Lz X pins H b):Inv X pins σ H { s with heap:=h',toks:=t' }:=by
 have nit:∀ b u,H b=some u->b∉ch:=λb u e z=>by rw [(hf b z).1] at e;cases e
 refine I.step (g':=s.gens) (d':=s.drawn) (ch:=ch) (λb hb=>?_) (λb o _ _ hc e _=>k b o hc e) (λb o _ _ hc e _=>⟨o.slots,k b o hc e⟩) (λ_ _ _ _ n=>n) (λb o hc e=>⟨o,k b o hc e⟩)
  (λ_ _ e=>e) (λ_ _ _ e=>e) (λb ps e=>⟨#[],by rw [e];simp⟩) (λm hm=>?_) (λb u e=>?_) I.bare
 ·obtain ⟨_,f1,_,f3,f4,f5⟩:=hf b hb
  exact ⟨f3,f1,f4,f5⟩
 ·obtain ⟨o,es,ep,ho,r⟩:=hm
  exact ⟨o,es,ep,k _ o (λz=>(hf _ z).2.1 rfl) ho,r⟩
 ·refine (I.hok b u e).stay (λc v hc q=>k c v ?_ q) (λ_ q=>q) λ_ _ q=>q
  rcases hc with z|z
  ·rw [z];exact nit b u e
  ·exact nit c _ z
end
noncomputable def Its (x:Str):It:=⟨λi _=>i<x.cps.size,λi H v H'=>H'=H∧∃ c,x.cps[i]? = some c∧v=.str ⟨#[c]⟩,λi _=>i=x.cps.size⟩
theorem Vn {P:Program}{w:World}{K:PySem.W.Frag}{tg:Expr}{ty:String}(x:Str)(t:Tok)(it:Addr)
  (W:∀ A:Around,A.handled=none->Walks P w A it [it] [it] x.cps.size (SignAt x) (λi h=>h.IsStrIter it ty x t i)) (W0:∀ A:Around,∀ i (s:Shared) (Q:Value->Shared->Prop) (E:Value->Shared->Prop),s.heap.IsStrIter it ty x t i->Q (.ref it) s->wpAny (model P w) A (pyIter (.ref it)) Q E s)
  (hn:["enumerate","zip","dict_itemiterator","dict_reverseitemiterator","odict_iterator","itertools.zip_longest","itertools.pairwise"].contains ty=false):Turn P w K tg (Its x) [it] it (λi h=>h.IsStrIter it ty x t i) where
 mem:=by simp
 obj:=λi h st b hb=>by
  have e:b=it:=by simpa using hb
  subst e
  obtain ⟨o,e,c,d⟩:=st
  exact ⟨o,e,λv z=>by rw [d] at z;cases z⟩
 keep:=λi h h' st k=>by
  obtain ⟨o,e,r⟩:=st
  exact ⟨o,k it (by simp) o e,r⟩
 item:=by
  intro X hP hw hK hc i pins s σ H E I hf st hg
  subst hP hw hK
  refine (W X.A (I.ok.hd hc)).item i s _ _ hg st λv h' tk hv st' kk=>?_
  obtain ⟨c,u,hc',rfl⟩:=hv
  have I1:Inv X pins σ H { s with heap:=h',toks:=tk }:=I.turnedL kk hf
  obtain ⟨o,e,c2,d⟩:=id st'
  exact ⟨_,rfl,Q3 (s:={ s with heap:=h',toks:=tk }) e c2 d hn ⟨.str ⟨#[c]⟩,H,I1,⟨u,rfl⟩,⟨rfl,c,hc',rfl⟩,st',λb hb=>(hf b hb).1⟩⟩
 done:=by
  intro X hP hw hK hc i pins s σ H E I hf st hg
  subst hP hw hK
  have e:i=x.cps.size:=hg
  subst e
  exact (W X.A (I.ok.hd hc)).done s _ _ st λh' tk kk=>⟨rfl,I.turnedL kk hf⟩
 self:=λA i s Q E st h=>W0 A i s Q E st h
def Acf (tl:TE):TI:=fun σ H R=>tl σ H λx H1=>∃ z,x=.str z∧R (Its z) H1
theorem Yx {X:Cx}{tg l:Expr}{tl:TE}(hl:PE X l tl):PI X tg l (Acf tl):=by
 intro pins s σ H R I h
 refine thn (hl pins s σ H _ I h) λv s1 ⟨x,H1,I1,r1,q1⟩=>?_
 obtain ⟨z,e,q⟩:=q1
 subst e
 obtain ⟨t,rfl⟩:=r1
 have fin:∀ ty:String,(∀ A:Around,A.handled=none->Walks X.prog X.w A s1.heap.objs.size [s1.heap.objs.size] [s1.heap.objs.size] z.cps.size (SignAt z) (λi h=>h.IsStrIter s1.heap.objs.size ty z t i)) ->
   (∀ A:Around,∀ i (s:Shared) (Q:Value->Shared->Prop) (E:Value->Shared->Prop),s.heap.IsStrIter s1.heap.objs.size ty z t i->Q (.ref s1.heap.objs.size) s->wpAny (model X.prog X.w) A (pyIter (.ref s1.heap.objs.size)) Q E s) ->
   ["enumerate","zip","dict_itemiterator","dict_reverseitemiterator","odict_iterator","itertools.zip_longest","itertools.pairwise"].contains ty=false ->
   PIE X pins σ tg R (.ref s1.heap.objs.size) { s1 with heap:=s1.heap.push { cls:=.type ty,data:=.fields #[.str z t,.int 0 0] } }:=λty W W0 hn=>by
  refine ⟨s1.heap.objs.size,[s1.heap.objs.size],_,_,H1,rfl,I1.kept (t':=s1.toks) λb o e=>Ae _ e,Vn z t _ W W0 hn,⟨_,Aq _ rfl,rfl,rfl⟩,λb hb=>?_,q⟩
  have e:b=s1.heap.objs.size:=by simpa using hb
  subst e
  exact I1.fpOk (Al _) (I1.hok.fresh (Al _))
 cases ha:z.cps.all (·<128)
 ·exact wpAny_pyIter_wide ha (fin _ (λA hA=>Walks.strWide hA _ z t) (λA i s Q E st h=>wpAny_pyIter_striter_wide st h) (by decide))
 ·exact wpAny_pyIter_ascii ha (fin _ (λA hA=>Walks.strAscii hA _ z t) (λA i s Q E st h=>wpAny_pyIter_striter_ascii st h) (by decide))
section
variable {prog:Program} {w:World} {A:Around} {E:Value->Shared->Prop} {s:Shared}
theorem Wt:isSubtype (.type "tuple") (.type "set")=pure false:=(by rw [isSubtype_type];kernel_rfl)
theorem P2:isSubtype (.type "tuple") (.type "frozenset")=pure false:=(by rw [isSubtype_type];kernel_rfl)
noncomputable abbrev JL (led:Bool):Obj:={ cls:=.type "set",dict:=none,data:=.set #[] 0 (.fresh 0 0 led) }
theorem call_cls {T nw ini:String}{args:List Value}{Q Q1:Value->Shared->Prop}(ft:TypeCalled T nw ini)(hct:checkTypeCall T ⟨args,[]⟩=pure ())
  (hn:codeAny (model prog w) A.in1 (.call (.builtin nw) ⟨.type T::args,[]⟩) (wants Q1 E) s)
  (hi:∀ obj z,Q1 obj z->z.TypeIs obj T∧codeAny (model prog w) A.in1 (.call (.builtin ini) ⟨obj::args,[]⟩) (wants (λr z'=>r=.none∧Q obj z') E) z) :
  wpAny (model prog w) A (PySem.call (.type T) args) Q E s:=by
 have m1:=ft.made
 have m2:=ft.sub
 have m3:=ft.notType
 have m4:=ft.canCreate
 obtain ⟨_,_,m5⟩:=ft.mro
 have cl:wpAny (model prog w) A.in1 (callAny (.type T) ⟨args,[]⟩) (λfin z=>match fin with
   | .done f=>wants Q E (.ok f) z
   | .again c'=>c'.quiet=true∧codeAny (model prog w) A c' (wants Q E) z) (λe z=>wants Q E (.error e) z) s:=by
  refine Ac (And.intro (Code.quiet_builtin _ (by symm)) (Bq PySem.F.entry_type_call ?_))
  rw [Around.under_plain (weight_type_call_type T args []) (by rfl)]
  repeat (any_goals (first|wp_step|assumption))
  refine codeAny_mono hn λr z hz=>?_
  cases r with
  | error e=>exact hz
  | ok fl =>
   cases fl<;>first|exact hz.elim|skip
   rename_i obj
   obtain ⟨hT,hc⟩:=hi _ _ hz
   have m6:=ft.init.lookup
   have m7:=ft.init.bind obj
   repeat (any_goals (first|wp_step|assumption))
   refine codeAny_mono hc λr2 z2 h2=>?_
   cases r2 with
   | error e=>exact h2
   | ok f2 =>
    cases f2<;>first|exact h2.elim|skip
    obtain ⟨e0,hq⟩:=h2
    subst e0
    repeat (any_goals (first|wp_step|assumption))
 exact wpAny_call (codeAny_of_tree cl)
end
structure LcS (esc scope:Scope):Prop where
 kind:scope.kind=.function
 cell:∀ y∈scope.names,y.2≠.cell
 names:∀ y∈scope.names,y.2=.local->scope.names.lookup y.1=some .local
 free:∀ y∈scope.names,y.2=.free->esc.names.lookup y.1=some .cell∨esc.names.lookup y.1=some .free
theorem Ff {X:Cx}{scope:Scope}{fv:List (Nat×Str)}(esc:Scope)(he:X.env.scope=esc)(hc:X.calm=true)(h:LcS esc scope)(hf:FvOk X (relabel scope X.env) fv):NH X scope fv:=
 ⟨hc,h.kind,h.cell,h.names,λy hy hk=>by subst he;exact h.free y hy hk,hf⟩
end L2
namespace PV
open PySem L2 PySem.Spec PyProof.Rows
structure Zc where
 K:PySem.W.Frag
 P:Program
 w:World
noncomputable abbrev _root_.L2.Cx.z (X:Cx):Zc:=⟨X.K,X.prog,X.w⟩
inductive D where
 | non|bl (b:Bool)|int (i:Int)|str (x:Str)|tup (ds:List D)|lst (ds:List D)|dct (ks vs:List D)|set (ds:List D)|ref (k:Nat)
noncomputable instance:DecidableEq D:=λa b=>Classical.propDecidable (a=b)
inductive MO where
 | lst (ds:List D)|dct (ks ds:List D)
abbrev Sto:=List MO
abbrev Rs (α:Type):=Option (α×Sto)
abbrev Ro:=List (Option D)
abbrev Ex:=Ro->Sto->Rs D
abbrev Exs:=Ro->Sto->Rs (List D)
abbrev Tx:=Ro->Sto->Rs Bool
inductive Fl where
 | nx|bk|ct|rt (d:D)
abbrev Sx:=Ro->Sto->Rs (Fl×Ro)
abbrev Fn:=List D->Sto->Rs D
noncomputable def bM {α β:Type}(r:Rs α)(f:α->Sto->Rs β):Rs β:=match r with
 | none=>none
 | some (a,m)=>f a m
theorem CV {α β:Type}{a:α}{m:Sto}{f:α->Sto->Rs β}:bM (some (a,m)) f=f a m:=rfl
theorem Ga {α β:Type}{r:Rs α}{f:α->Sto->Rs β}{b:β}{m':Sto}(h:bM r f=some (b,m')):∃ a m,r=some (a,m)∧f a m=some (b,m'):=by
 cases r with
 | none=>cases h
 | some p=>exact ⟨p.1,p.2,rfl,h⟩
mutual
noncomputable def D0 (w:World):D->Int
 | .non=>reduceHash 0xFCA86420
 | .int i=>hashInt i
 | .str x=>hashStr w x
 | .tup ds=>reduceHash (Builtin.Tuple.tupleHashOf (Fb w ds))
 | _=>0
noncomputable def Fb (w:World):List D->List Int
 | []=>[]
 | d::ds=>D0 w d::Fb w ds
end
mutual
noncomputable def dpt:D->Nat
 | .tup ds=>Lu ds+1
 | _=>0
noncomputable def Lu:List D->Nat
 | []=>0
 | d::ds=>max (dpt d) (Lu ds)
end
mutual
noncomputable def hsh:D->Bool
 | .non=>true
 | .int _=>true
 | .str _=>true
 | .tup ds=>HS ds
 | _=>false
noncomputable def HS:List D->Bool
 | []=>true
 | d::ds=>hsh d&&HS ds
end
def EO (d:D):Bool:=hsh d&&decide (dpt d≤8)
structure KeysOk (ks:List D):Prop where
 len:ks.length≤sizeLine
 nd:ks.Nodup
 ok:∀ k∈ks,EO k=true
theorem EX (w:World)(ds:List D):Fb w ds=ds.map (D0 w):=by induction ds with
 | nil=>rfl
 | cons d ds ih=>rw [Fb,ih];rfl
def ZF (a:Addr)(xs:List (Int×V×V))(h:Heap):Prop:=(a==sysModules)=false∧∃ o es ep,h.get? a=some o∧o.ExactDict∧o.data=.dict es ep∧Paired (λ(x:Int×V×V) (e:DictEntry)=>e.hash=x.1∧RelV x.2.1 e.key∧RelV x.2.2 e.val) xs es.toList
noncomputable def HE (a:Addr)(xs:List (Int×V×V)):HO:=.ext (ZF a xs)
def Yy (w:World)(a:Addr)(us:List V)(h:Heap):Prop:=∃ o es ep t,h.get? a=some o∧o.ExactSet∧o.data=.set es ep t∧es.size<scanBound∧t.fits es.size=true∧Vals us (es.toList.map (·.2)) ∧
 (w.params.followText "set-order"=true∨t.led=true∧(t.plain=false∨es.size≤1))
noncomputable def Sw (w:World)(a:Addr)(us:List V):HO:=.ext (Yy w a us)
def FzL (K:Zc)(th:List Addr)(H:Hp)(a:Addr)(vs:List V):Prop:=(a∉th∧Rd H a (.lst vs)) ∨
 ∃ (o:Obj) (its:Array Value) (n:Nat),K.K.lookup a=some o∧o.cls=.type "list"∧o.dict=none∧o.data=.seq its n∧its.size≤sizeLine∧Vals vs its.toList
theorem FzL.sq {K:Zc}{th:List Addr}{H:Hp}{a:Addr}{vs:List V}(h:FzL K th H a vs):SqL K.K H a vs:=h.elim (λh=>.inl h.2) .inr
mutual
def Rep (K:Zc)(th:List Addr)(H:Hp):D->V->Prop
 | .non,v=>v=.non
 | .bl b,v=>v=.bl b
 | .int i,v=>v=.int i
 | .str x,v=>v=.str x∧x.length≤sizeLine∧PyData.strOk x=true
 | .tup ds,v=>∃ a vs,v=.ref a∧SqT K.K H a vs∧RepL K th H ds vs∧ds.length≤sizeLine
 | .lst ds,v=>∃ a vs,v=.ref a∧FzL K th H a vs∧RepL K th H ds vs∧ds.length≤sizeLine
 | .dct ks ds,v=>∃ a xs,v=.ref a∧a∉th∧H a=some (HE a xs)∧xs.map (·.1)=Fb K.w ks∧RepL K th H ks (xs.map (·.2.1))∧RepL K th H ds (xs.map (·.2.2))∧KeysOk ks
 | .set ds,v=>∃ a us vs,v=.ref a∧a∉th∧H a=some (Sw K.w a us)∧us.Perm vs∧RepL K th H ds vs∧ds.Nodup
 | .ref k,v=>∃ a,v=.ref a∧th[k]? = some a
def RepL (K:Zc)(th:List Addr)(H:Hp):List D->List V->Prop
 | [],vs=>vs=[]
 | d::ds,vs=>∃ v r,vs=v::r∧Rep K th H d v∧RepL K th H ds r
end
section
variable {K:Zc} {th th':List Addr} {H H':Hp}
theorem RepL.nil:RepL K th H [] []:=by unfold RepL;rfl
theorem RepL.cons {d:D}{ds:List D}{v:V}{r:List V}(h:Rep K th H d v)(t:RepL K th H ds r):RepL K th H (d::ds) (v::r):=by unfold RepL;exact ⟨v,r,rfl,h,t⟩
theorem RepL.inv {d:D}{ds:List D}{vs:List V}(h:RepL K th H (d::ds) vs):∃ v r,vs=v::r∧Rep K th H d v∧RepL K th H ds r:=by unfold RepL at h;exact h
theorem RepL.inv0 {vs:List V}(h:RepL K th H [] vs):vs=[]:=by unfold RepL at h;exact h
theorem RepL.len:∀ {ds:List D} {vs:List V},RepL K th H ds vs->vs.length=ds.length
 | [],_,h=>by rw [h.inv0];rfl
 | d::ds,_,h=>by obtain ⟨v,r,rfl,_,t⟩:=h.inv;simp [RepL.len t]
theorem RepL.get:∀ {ds:List D} {vs:List V} {i:Nat} {d:D},RepL K th H ds vs->ds[i]? = some d->∃ v,vs[i]? = some v∧Rep K th H d v
 | [],_,_,_,_,e=>by simp at e
 | d::ds,_,0,d',h,e=>by obtain ⟨v,r,rfl,h1,_⟩:=h.inv;simp at e;subst e;exact ⟨v,rfl,h1⟩
 | d::ds,_,i+1,d',h,e=>by
  obtain ⟨v,r,rfl,_,t⟩:=h.inv
  obtain ⟨u,e1,e2⟩:=RepL.get (i:=i) t (by simpa using e)
  exact ⟨u,by simpa using e1,e2⟩
theorem RepL.getV:∀ {ds:List D} {vs:List V} {i:Nat} {v:V},RepL K th H ds vs->vs[i]? = some v->∃ d,ds[i]? = some d∧Rep K th H d v
 | [],_,_,_,h,e=>by rw [h.inv0] at e;simp at e
 | d::ds,_,0,v',h,e=>by obtain ⟨v,r,rfl,h1,_⟩:=h.inv;simp at e;subst e;exact ⟨d,rfl,h1⟩
 | d::ds,_,i+1,v',h,e=>by
  obtain ⟨v,r,rfl,_,t⟩:=h.inv
  obtain ⟨u,e1,e2⟩:=RepL.getV (i:=i) t (by simpa using e)
  exact ⟨u,by simpa using e1,e2⟩
theorem RepL.app:∀ {ds es:List D} {vs us:List V},RepL K th H ds vs->RepL K th H es us->RepL K th H (ds++es) (vs++us)
 | [],_,_,_,h,t=>by rw [h.inv0];exact t
 | d::ds,_,_,_,h,t=>by obtain ⟨v,r,rfl,h1,h2⟩:=h.inv;exact .cons h1 (RepL.app h2 t)
theorem RepL.take:∀ {ds:List D} {vs:List V} (n:Nat),RepL K th H ds vs->RepL K th H (ds.take n) (vs.take n)
 | _,_,0,_=>by simp only [List.take_zero];exact .nil
 | [],_,n+1,h=>by rw [h.inv0];exact .nil
 | d::ds,_,n+1,h=>by obtain ⟨v,r,rfl,h1,h2⟩:=h.inv;exact .cons h1 (RepL.take n h2)
theorem RepL.drop:∀ {ds:List D} {vs:List V} (n:Nat),RepL K th H ds vs->RepL K th H (ds.drop n) (vs.drop n)
 | _,_,0,h=>h
 | [],_,n+1,h=>by rw [h.inv0];exact .nil
 | d::ds,_,n+1,h=>by obtain ⟨v,r,rfl,h1,h2⟩:=h.inv;exact RepL.drop n h2
theorem RepL.rev:∀ {ds:List D} {vs:List V},RepL K th H ds vs->RepL K th H ds.reverse vs.reverse
 | [],_,h=>by rw [h.inv0];exact .nil
 | d::ds,_,h=>by
  obtain ⟨v,r,rfl,h1,h2⟩:=h.inv
  rw [List.reverse_cons,List.reverse_cons]
  exact (RepL.rev h2).app (.cons h1 .nil)
theorem RepL.setAt:∀ {ds:List D} {vs:List V} (i:Nat) {d:D} {v:V},RepL K th H ds vs->Rep K th H d v->RepL K th H (ds.set i d) (vs.set i v)
 | [],_,_,_,_,h,_=>by rw [h.inv0];exact .nil
 | d::ds,_,0,_,_,h,g=>by obtain ⟨v,r,rfl,h1,h2⟩:=h.inv;exact .cons g h2
 | d::ds,_,i+1,_,_,h,g=>by obtain ⟨v,r,rfl,h1,h2⟩:=h.inv;exact .cons h1 (RepL.setAt i h2 g)
structure Ext (th:List Addr) (H:Hp) (th':List Addr) (H':Hp):Prop where
 pre:∃ more,th'=th++more
 out:∀ a o,a∉th->H a=some o->a∉th'
 keep:∀ a o,a∉th->H a=some o->H' a=some o
theorem Ext.refl (th:List Addr)(H:Hp):Ext th H th H:=⟨⟨[],by simp⟩,λ_ _ n _=>n,λ_ _ _ h=>h⟩
theorem Ext.trans {th2:List Addr}{H2:Hp}(a:Ext th H th' H')(b:Ext th' H' th2 H2):Ext th H th2 H2:=by
 obtain ⟨m1,e1⟩:=a.pre
 obtain ⟨m2,e2⟩:=b.pre
 exact ⟨⟨m1++m2,by rw [e2,e1,List.append_assoc]⟩,λx o n h=>b.out x o (a.out x o n h) (a.keep x o n h),λx o n h=>b.keep x o (a.out x o n h) (a.keep x o n h)⟩
theorem Ext.at (e:Ext th H th' H'){k:Nat}{a:Addr}(h:th[k]? = some a):th'[k]? = some a:=by
 obtain ⟨m,rfl⟩:=e.pre
 rw [Aw (Ah.mp h).1]
 exact h
theorem Ext.new {p:Addr}(h:H p=none)(o:HO):Ext th H th (upd H p o):=⟨⟨[],by simp⟩,λ_ _ n _=>n,λa u _ e=>by rw [DE (Dt e h)];exact e⟩
theorem Ext.newM {p:Addr}(h:H p=none)(o:HO):Ext th H (th++[p]) (upd H p o):=⟨⟨[p],rfl⟩,λa u n e z=>(Aj.mp z).elim n λz=>(by rw [Ag.mp z,h] at e;cases e),
 λa u _ e=>by rw [DE (Dt e h)];exact e⟩
theorem Ext.mut {p:Addr}(h:p∈th)(o:HO):Ext th H th (upd H p o):=⟨⟨[],by simp⟩,λ_ _ n _=>n,λa u n e=>by rw [DE (λz=>n (by rw [z];exact h))];exact e⟩
theorem Ext.rd (e:Ext th H th' H'){a:Addr}{u:HO}(n:a∉th)(h:Rd H a u):a∉th'∧Rd H' a u:=by
 rcases h with h|⟨o,h⟩
 ·exact ⟨e.out _ _ n h,.inl (e.keep _ _ n h)⟩
 ·exact ⟨e.out _ _ n h,.inr ⟨o,e.keep _ _ n h⟩⟩
theorem Ext.fz (e:Ext th H th' H'){a:Addr}{vs:List V}(h:FzL K th H a vs):FzL K th' H' a vs:=h.elim (λh=>.inl (e.rd h.1 h.2)) .inr
def JY (th:List Addr)(H:Hp):Prop:=∀ a,a∈th->∃ o,H a=some o∧((∃ xs,o=.lst xs)∨∃ φ,o=.ext φ)
theorem Ext.sqT (e:Ext th H th' H')(t:JY th H){a:Addr}{xs:List V}(h:SqT K.K H a xs):SqT K.K H' a xs:=by
 rcases h with h|h
 ·refine .inl (e.rd (λz=>?_) h).2
  obtain ⟨o',q,q2⟩:=t a z
  rcases h with h|⟨o,h⟩
  ·rcases q2 with ⟨_,rfl⟩|⟨_,rfl⟩<;>(rw [q] at h;cases h)
  ·rcases q2 with ⟨_,rfl⟩|⟨_,rfl⟩<;>(rw [q] at h;cases h)
 ·exact .inr h
mutual
theorem Rep.ext (e:Ext th H th' H')(t:JY th H):∀ {d:D} {v:V},Rep K th H d v->Rep K th' H' d v
 | .non,_,h=>h
 | .bl _,_,h=>h
 | .int _,_,h=>h
 | .str _,_,h=>h
 | .tup ds,_,h=>by
  unfold Rep at h ⊢
  obtain ⟨a,vs,q,h1,h2,z⟩:=h
  exact ⟨a,vs,q,e.sqT t h1,RepL.ext e t h2,z⟩
 | .lst ds,_,h=>by
  unfold Rep at h ⊢
  obtain ⟨a,vs,q,h1,h2,z⟩:=h
  exact ⟨a,vs,q,e.fz h1,RepL.ext e t h2,z⟩
 | .dct ks ds,_,h=>by
  unfold Rep at h ⊢
  obtain ⟨a,xs,q,n,h1,h2,h3,h4,h5⟩:=h
  exact ⟨a,xs,q,e.out _ _ n h1,e.keep _ _ n h1,h2,RepL.ext e t h3,RepL.ext e t h4,h5⟩
 | .set ds,_,h=>by
  unfold Rep at h ⊢
  obtain ⟨a,us,vs,q,n,h1,h2,h3,h4⟩:=h
  exact ⟨a,us,vs,q,e.out _ _ n h1,e.keep _ _ n h1,h2,RepL.ext e t h3,h4⟩
 | .ref k,_,h=>by
  unfold Rep at h ⊢
  obtain ⟨a,q,h1⟩:=h
  exact ⟨a,q,e.at h1⟩
theorem RepL.ext (e:Ext th H th' H')(t:JY th H):∀ {ds:List D} {vs:List V},RepL K th H ds vs->RepL K th' H' ds vs
 | [],_,h=>by rw [h.inv0];exact .nil
 | _::_,_,h=>by
  obtain ⟨v,r,rfl,h1,h2⟩:=h.inv
  exact .cons (Rep.ext e t h1) (RepL.ext e t h2)
end
theorem Xo {N:List Addr}(hN:N.Nodup){i j:Nat}{x:Addr}(a:N[i]? = some x)(b:N[j]? = some x):i=j:=by
 obtain ⟨hi,ei⟩:=Ah.mp a
 obtain ⟨hj,ej⟩:=Ah.mp b
 have:=List.pairwise_iff_getElem.mp hN
 rcases Nat.lt_trichotomy i j with h|h|h
 ·exact absurd (ei.trans ej.symm) (this i j hi hj h)
 ·exact h
 ·exact absurd (ej.trans ei.symm) (this j i hj hi h)
def MRep (K:Zc)(th:List Addr)(H:Hp)(a:Addr):MO->Prop
 | .lst ds=>∃ vs,H a=some (.lst vs)∧RepL K th H ds vs∧ds.length≤sizeLine
 | .dct ks ds=>∃ xs,H a=some (HE a xs)∧xs.map (·.1)=Fb K.w ks∧RepL K th H ks (xs.map (·.2.1))∧RepL K th H ds (xs.map (·.2.2))∧KeysOk ks
theorem MRep.ext (e:Ext th H th' H')(t:JY th H){a:Addr}{o:MO}(ha:∀ u,H a=some u->H' a=some u)(h:MRep K th H a o):MRep K th' H' a o:=by
 cases o with
 | lst ds=>obtain ⟨vs,q1,q2,z⟩:=h;exact ⟨vs,ha _ q1,q2.ext e t,z⟩
 | dct ks ds=>obtain ⟨xs,q1,q2,q3,q4,z⟩:=h;exact ⟨xs,ha _ q1,q2,q3.ext e t,q4.ext e t,z⟩
structure StoOk (K:Zc) (th:List Addr) (mu:Sto) (H:Hp):Prop where
 len:th.length=mu.length
 nd:th.Nodup
 at':∀ (k:Nat) (a:Addr) (o:MO),th[k]? = some a->mu[k]? = some o->MRep K th H a o
theorem StoOk.out {mu:Sto}(s:StoOk K th mu H):JY th H:=λa ha=>by
 obtain ⟨k,hk,rfl⟩:=List.mem_iff_getElem.mp ha
 have hk':k<mu.length:=by rw [← s.len];exact hk
 have q:=s.at' k th[k] mu[k] (by simp) (by simp)
 cases e:mu[k] with
 | lst ds=>rw [e] at q;obtain ⟨vs,q,_⟩:=q;exact ⟨_,q,.inl ⟨_,rfl⟩⟩
 | dct ks ds=>rw [e] at q;obtain ⟨vs,q,_⟩:=q;exact ⟨_,q,.inr ⟨_,rfl⟩⟩
theorem StoOk.new {mu:Sto}(s:StoOk K th mu H){p:Addr}(h:H p=none)(o:HO):StoOk K th mu (upd H p o):=
 ⟨s.len,s.nd,λk a o' e1 e2=>(s.at' k a o' e1 e2).ext (.new h o) s.out λu q=>by rw [DE (Dt q h)];exact q⟩
theorem StoOk.newG {mu:Sto}(s:StoOk K th mu H){p:Addr}(h:H p=none)(o:HO)(mo:MO)(r:MRep K (th++[p]) (upd H p o) p mo):StoOk K (th++[p]) (mu++[mo]) (upd H p o):=by
 have ex:Ext th H (th++[p]) (upd H p o):=.newM h _
 refine ⟨by simp [s.len],?_,λk a o' e1 e2=>?_⟩
 ·refine Bb.mpr ⟨s.nd,by simp,λx hx y hy=>?_⟩
  rw [Ag.mp hy]
  obtain ⟨xs,q,_⟩:=s.out x hx
  exact Dt q h
 ·by_cases hk:k<th.length
  ·rw [Aw hk] at e1
   rw [Aw (by rw [← s.len];exact hk)] at e2
   exact (s.at' k a o' e1 e2).ext ex s.out λu q=>by rw [DE (Dt q h)];exact q
  ·have hk2:k=th.length:=by
    have:=(Ah.mp e1).1
    simp at this
    ext
   subst hk2
   have e1':a=p:=by simpa using e1.symm
   have e2':o'=mo:=by rw [s.len] at e2;simpa using e2.symm
   subst e1' e2'
   exact r
theorem StoOk.newM {mu:Sto}(s:StoOk K th mu H){p:Addr}(h:H p=none){ds:List D}{vs:List V}(r:RepL K th H ds vs)(hz:ds.length≤sizeLine):StoOk K (th++[p]) (mu++[.lst ds]) (upd H p (.lst vs)):=
 s.newG h _ _ ⟨vs,Ey,r.ext (.newM h _) s.out,hz⟩
theorem StoOk.putG {mu:Sto}(s:StoOk K th mu H){k:Nat}{a:Addr}(hk:th[k]? = some a)(o:HO)(mo:MO)(r:MRep K th (upd H a o) a mo):StoOk K th (mu.set k mo) (upd H a o):=by
 have ex:Ext th H th (upd H a o):=.mut (Ap hk) _
 refine ⟨by simp [s.len],s.nd,λj b o' e1 e2=>?_⟩
 by_cases hj:j=k
 ·subst hj
  rw [hk] at e1
  cases e1
  have:j<mu.length:=by rw [← s.len];exact (Ah.mp hk).1
  have e2':o'=mo:=by simpa [this] using e2.symm
  subst e2'
  exact r
 ·rw [AB (Ne.symm hj)] at e2
  have nb:b≠a:=λz=>by
   subst z
   exact hj (Xo s.nd e1 hk)
  exact (s.at' j b o' e1 e2).ext ex s.out λu q=>by rw [DE nb];exact q
theorem StoOk.put {mu:Sto}(s:StoOk K th mu H){k:Nat}{a:Addr}(hk:th[k]? = some a){ds:List D}{vs:List V}(r:RepL K th H ds vs)(hz:ds.length≤sizeLine):StoOk K th (mu.set k (.lst ds)) (upd H a (.lst vs)):=
 s.putG hk _ _ ⟨vs,Ey,r.ext (.mut (Ap hk) _) s.out,hz⟩
theorem KeysOk.nil:KeysOk []:=⟨A0 _,List.nodup_nil,λ_ h=>nomatch h⟩
def Tr (K:Zc){A:Type}(th:List Addr)(H:Hp)(r:Rs A)(k:A->List Addr->Sto->Hp->Prop):Prop:=
 ∃ a mu',r=some (a,mu')∧∀ th' H',Ext th H th' H'->StoOk K th' mu' H'->k a th' mu' H'
theorem Tr.mono {A:Type}{r:Rs A}{k k':A->List Addr->Sto->Hp->Prop}(h:Tr K th H r k)(f:∀ a th' mu' H',Ext th H th' H'->StoOk K th' mu' H'->k a th' mu' H'->k' a th' mu' H'):Tr K th H r k':=by
 obtain ⟨a,mu',e,q⟩:=h
 exact ⟨a,mu',e,λth' H' x s=>f a th' mu' H' x s (q th' H' x s)⟩
theorem Tr.ahead {A:Type}{r:Rs A}{k:A->List Addr->Sto->Hp->Prop}(h:Tr K th H r k)(x:Ext th H th' H'):Tr K th' H' r k:=by
 obtain ⟨a,mu',e,q⟩:=h
 exact ⟨a,mu',e,λth2 H2 y s=>q th2 H2 (x.trans y) s⟩
theorem Tr.bind {A B:Type}{r:Rs A}{f:A->Sto->Rs B}{k:B->List Addr->Sto->Hp->Prop}(h:Tr K th H (bM r f) k):Tr K th H r λa th1 mu1 H1=>Tr K th1 H1 (f a mu1) k:=by
 obtain ⟨b,mu',e,q⟩:=h
 obtain ⟨a,m,e1,e2⟩:=Ga e
 exact ⟨a,m,e1,λth1 H1 x1 s1=>⟨b,mu',e2,λth' H' x s=>q th' H' (x1.trans x) s⟩⟩
theorem Tr.bindE {A B:Type}{r:Rs A}{f:A->Sto->Rs B}{k:B->List Addr->Sto->Hp->Prop}(h:Tr K th H (bM r f) k):Tr K th H r λa th1 mu1 H1=>r=some (a,mu1)∧Tr K th1 H1 (f a mu1) k:=by
 obtain ⟨b,mu',e,q⟩:=h
 obtain ⟨a,m,e1,e2⟩:=Ga e
 exact ⟨a,m,e1,λth1 H1 x1 s1=>⟨e1,b,mu',e2,λth' H' x s=>q th' H' (x1.trans x) s⟩⟩
theorem Tr.ret {A:Type}{a:A}{mu:Sto}{k:A->List Addr->Sto->Hp->Prop}(h:Tr K th H (some (a,mu)) k)(s:StoOk K th mu H):k a th mu H:=by
 obtain ⟨b,mu',e,q⟩:=h
 cases e
 exact q th H (.refl _ _) s
theorem Tr.retX {A:Type}{a:A}{mu:Sto}{k:A->List Addr->Sto->Hp->Prop}(h:Tr K th H (some (a,mu)) k)(x:Ext th H th' H')(s:StoOk K th' mu H'):k a th' mu H':=by
 obtain ⟨b,mu',e,q⟩:=h
 cases e
 exact q th' H' x s
theorem Tr.no {A:Type}{k:A->List Addr->Sto->Hp->Prop}(h:Tr K th H (none:Rs A) k):False:=by
 obtain ⟨b,mu',e,q⟩:=h
 cases e
def EnvOk (K:Zc)(th:List Addr)(H:Hp)(ro:Ro)(st:L2.St):Prop:=ro.length=st.length∧∀ (i:Nat) (d:D),ro[i]? = some (some d)->∃ v,st[i]? = some (some v)∧Rep K th H d v
theorem EnvOk.ext {ro:Ro}{st:L2.St}(h:EnvOk K th H ro st)(e:Ext th H th' H')(t:JY th H):EnvOk K th' H' ro st:=⟨h.1,λi d q=>by
 obtain ⟨v,a,b⟩:=h.2 i d q
 exact ⟨v,a,b.ext e t⟩⟩
theorem EnvOk.set {ro:Ro}{st:L2.St}(h:EnvOk K th H ro st)(i:Nat){d:D}{v:V}(r:Rep K th H d v):EnvOk K th H (ro.set i (some d)) (st.set i (some v)):=by
 refine ⟨by simp [h.1],λj d' q=>?_⟩
 by_cases hj:j=i
 ·subst hj
  have hl:j<ro.length:=by
   have:=(Ah.mp q).1
   simpa using this
  have:d'=d:=by simpa [hl] using q.symm
  subst this
  exact ⟨v,by simp [← h.1,hl],r⟩
 ·rw [AB (Ne.symm hj)] at q ⊢
  exact h.2 j d' q
abbrev KV' (K:Zc) (Q:VK):D->List Addr->Sto->Hp->Prop:=λd th' _ H'=>∀ v,Rep K th' H' d v->Q v H'
def rdE (K:Zc)(m:Ex):TE:=λst H Q=>∃ th mu ro,StoOk K th mu H∧EnvOk K th H ro st∧Tr K th H (m ro mu) (KV' K Q)
def rdA (K:Zc)(m:Exs):TA:=λst H Q=>∃ th mu ro,StoOk K th mu H∧EnvOk K th H ro st∧Tr K th H (m ro mu) λds th' _ H'=>∀ vs,RepL K th' H' ds vs->Q vs H'
def rdT (K:Zc)(m:Tx):TT:=λst H Q=>∃ th mu ro,StoOk K th mu H∧EnvOk K th H ro st∧Tr K th H (m ro mu) λb _ _ H'=>Q b H'
def YM (K:Zc)(E:Ends)(p:Fl×Ro)(th:List Addr)(_:Sto)(H:Hp):Prop:=∀ st',EnvOk K th H p.2 st'->match p.1 with
 | .nx=>E.nx st' H
 | .bk=>E.bk st' H
 | .ct=>E.ct st' H
 | .rt d=>∀ v,Rep K th H d v->E.rt v H
def rdS (K:Zc)(m:Sx):TS:=λE st H=>∃ th mu ro,StoOk K th mu H∧EnvOk K th H ro st∧Tr K th H (m ro mu) (YM K E)
def r2 (K:Zc)(op:D->D->Sto->Rs D):R2:=λx y H Q=>∃ th mu d e,StoOk K th mu H∧Rep K th H d x∧Rep K th H e y∧Tr K th H (op d e mu) (KV' K Q)
def rL (K:Zc)(f:Fn):List V->Hp->VK->Prop:=λxs H Q=>∃ th mu ds,StoOk K th mu H∧RepL K th H ds xs∧Tr K th H (f ds mu) (KV' K Q)
end
structure SV (X:Cx) (e:Expr) (m:Ex):Prop where
 r:PE X e (rdE X.z m)
structure SVT (X:Cx) (e:Expr) (m:Tx):Prop where
 r:PT X e (rdT X.z m)
structure SVW (X:Cx) (e:Expr) (m:Tx):Prop where
 r:PW X e (rdT X.z m)
def SVA (X:Cx)(es:List Expr)(m:Exs):Prop:=PA X es (rdA X.z m)∧∀ ro mu ds mu',m ro mu=some (ds,mu')->ds.length=es.length
structure SVS (X:Cx) (s:Stmt) (m:Sx):Prop where
 r:PS X s (rdS X.z m)
structure SVB (X:Cx) (b:List Stmt) (m:Sx):Prop where
 r:PSs X b (rdS X.z m)
def OpV (X:Cx)(f:Value->Value->Sem Value)(op:D->D->Sto->Rs D):Prop:=OpR X f (r2 X.z op)
def CallV (X:Cx)(f:Value)(g:Fn):Prop:=Hy X f (rL X.z g)
theorem PE.weak {X:Cx}{e:Expr}{t t':TE}(h:PE X e t)(f:∀ st H Q,t' st H Q->t st H Q):PE X e t':=λpins s st H Q I q=>h pins s st H Q I (f st H Q q)
theorem PT.weak {X:Cx}{e:Expr}{t t':TT}(h:PT X e t)(f:∀ st H Q,t' st H Q->t st H Q):PT X e t':=λpins s st H Q I q=>h pins s st H Q I (f st H Q q)
theorem PW.weak {X:Cx}{e:Expr}{t t':TT}(h:PW X e t)(f:∀ st H Q,t' st H Q->t st H Q):PW X e t':=λwh pins s st H Q I q=>h wh pins s st H Q I (f st H Q q)
theorem PA.weak {X:Cx}{e:List Expr}{t t':TA}(h:PA X e t)(f:∀ st H Q,t' st H Q->t st H Q):PA X e t':=λpos pins s st H Q I q=>h pos pins s st H Q I (f st H Q q)
theorem PS.weak {X:Cx}{e:Stmt}{t t':TS}(h:PS X e t)(f:∀ E st H,t' E st H->t E st H):PS X e t':=λpins s st H E I q=>h pins s st H E I (f E st H q)
theorem PSs.weak {X:Cx}{e:List Stmt}{t t':TS}(h:PSs X e t)(f:∀ E st H,t' E st H->t E st H):PSs X e t':=λpins s st H E I q=>h pins s st H E I (f E st H q)
section
variable {X:Cx} {K:Zc} {th:List Addr} {mu:Sto} {H:Hp}
noncomputable def B8 (i:Nat):Ex:=λro mu=>match ro[i]? with
 | some (some d)=>some (d,mu)
 | _=>none
noncomputable def eC (d:D):Ex:=λ_ mu=>some (d,mu)
theorem B7 (i:Nat){x:Str}{pos:Pos}(hN:X.N[i]? = some x:=by rfl)(hv:Vis X.env.scope x:=by first|exact Or.inl rfl|exact Or.inr (Or.inl rfl)|exact Or.inr (Or.inr rfl))(hd:(x==("__debug__":Str))=false:=by decide)
  (hcd:(x==("__classdict__":Str))=false:=by decide):SV X (.Name x pos) (B8 i):=⟨PE.weak (TC hN hv hd hcd) λst H Q h=>by
 obtain ⟨th,mu,ro,so,en,t⟩:=h
 unfold B8 at t
 cases e:ro[i]? with
 | none=>rw [e] at t;exact t.no.elim
 | some o =>
  cases o with
  | none=>rw [e] at t;exact t.no.elim
  | some d =>
   rw [e] at t
   obtain ⟨v,ev,rv⟩:=en.2 i d e
   exact ⟨v,ev,t.ret so v rv⟩⟩
theorem Hr {e:Expr}{d:D}{v:V}(h:PE X e (tC v))(r:∀ K th H,Rep K th H d v):SV X e (eC d):=⟨PE.weak h λst H Q q=>by
 obtain ⟨th,mu,ro,so,en,t⟩:=q
 exact t.ret so v (r _ _ _)⟩
theorem Ca {i j pos}:SV X (.Constant (.int i) j pos) (eC (.int i)):=Hr TK λ_ _ _=>by unfold Rep;rfl
theorem E6 {i j pos}:SV X (.Constant (.bool i) j pos) (eC (.bl i)):=Hr Abl λ_ _ _=>by unfold Rep;rfl
theorem Dn {j pos}:SV X (.Constant .none j pos) (eC .non):=Hr Zr λ_ _ _=>by unfold Rep;rfl
theorem Ct {i j pos}(h:i.length≤sizeLine∧PyData.strOk i=true:=by symm):SV X (.Constant (.str i) j pos) (eC (.str i)):=Hr Zq λ_ _ _=>by unfold Rep;exact ⟨rfl,h⟩
theorem LN {x:Str}{i:Int}{pos:Pos}(hm:∃ t,X.mg x=some (.int i t))(hg:Gl X x:=by rfl)(hd:(x==("__debug__":Str))=false:=by decide):SV X (.Name x pos) (eC (.int i)):=by
 obtain ⟨t,hm⟩:=hm
 exact Hr (Oi (v:=.int i) hg hm ⟨t,rfl⟩ hd) λ_ _ _=>by unfold Rep;rfl
theorem WV {x:Str}{i:Str}{pos:Pos}(hm:∃ t,X.mg x=some (.str i t))(h:i.length≤sizeLine∧PyData.strOk i=true:=by symm)(hg:Gl X x:=by rfl)(hd:(x==("__debug__":Str))=false:=by decide):SV X (.Name x pos) (eC (.str i)):=by
 obtain ⟨t,hm⟩:=hm
 exact Hr (Oi (v:=.str i) hg hm ⟨t,rfl⟩ hd) λ_ _ _=>by unfold Rep;exact ⟨rfl,h⟩
def Ce (g:D->D->Sto->Rs D)(a b:Ex):Ex:=λro mu=>bM (a ro mu) λx m1=>bM (b ro m1) λy m2=>g x y m2
theorem NX {a b:Ex}{g:D->D->Sto->Rs D}{st:L2.St}{Q:VK}(h:rdE K (Ce g a b) st H Q):tOp (r2 K g) (rdE K a) (rdE K b) st H Q:=by
 obtain ⟨th,mu,ro,so,en,t⟩:=h
 refine ⟨th,mu,ro,so,en,t.bind.mono λx th1 mu1 H1 e1 s1 t1 v rv=>?_⟩
 exact ⟨th1,mu1,ro,s1,en.ext e1 so.out,t1.bind.mono λy th2 mu2 H2 e2 s2 t2 u ru=>⟨th2,mu2,x,y,s2,rv.ext e2 s1.out,ru,t2⟩⟩
theorem Cn {a b:Expr}{op:Operator}{g:D->D->Sto->Rs D}{ma mb:Ex}{pos:Pos}(ho:OpV X (binaryOp op) g)(ha:SV X a ma)(hb:SV X b mb):SV X (.BinOp a op b pos) (Ce g ma mb):=
 ⟨PE.weak (AbF ho ha.r hb.r) λ_ _ _ h=>NX h⟩
theorem E8 {a b:Expr}{op:CmpOp}{g:D->D->Sto->Rs D}{ma mb:Ex}{pos:Pos}(ho:OpV X (compareOp op) g)(ha:SV X a ma)(hb:SV X b mb)(hm:behindInMarks op b=false:=by first|exact Ue _|with_unfolding_all rfl):SV X (.Compare a [op] [b] pos) (Ce g ma mb):=
 ⟨PE.weak (Wj ho ha.r hb.r hm) λ_ _ _ h=>NX h⟩
theorem Cu {a b:Expr}{g:D->D->Sto->Rs D}{ma mb:Ex}{pos:Pos}(ho:IxR X (r2 X.z g))(ha:SV X a ma)(hb:SV X b mb)(hs:RQ b:=by intro _ _;rfl):SV X (.Subscript a b pos) (Ce g ma mb):=
 ⟨PE.weak (Z5 ho ha.r hb.r hs) λ_ _ _ h=>NX h⟩
def e1 (g:D->Sto->Rs D)(a:Ex):Ex:=λro mu=>bM (a ro mu) λx m1=>g x m1
noncomputable def asB:D->Option Bool
 | .bl b=>some b
 | _=>none
def tV (a:Ex):Tx:=λro mu=>bM (a ro mu) λx m1=>(asB x).map λb=>(b,m1)
theorem LH {d:D}{b:Bool}{v:V}(h:asB d=some b)(r:Rep K th H d v):v=.bl b:=by
 cases d with
 | bl c=>cases h;exact r
 | _=>cases h
theorem Vd {a:Ex}{st:L2.St}{Q:Bool->Hp->Prop}(h:rdT K (tV a) st H Q):Ts (rdE K a) st H Q:=by
 obtain ⟨th,mu,ro,so,en,t⟩:=h
 refine ⟨th,mu,ro,so,en,t.bind.mono λx th1 mu1 H1 e1 s1 t1 v rv=>?_⟩
 cases e:asB x with
 | none=>rw [e] at t1;exact t1.no.elim
 | some b=>rw [e] at t1;exact ⟨b,LH e rv,t1.ret s1⟩
theorem CO {e:Expr}{m:Ex}(h:SV X e m)(he:∀ whole,isTrue e X.env whole=(do let v←whole;standAt e.pos;holding [v] (truthy v)):=by intro _;rfl):SVT X e (tV m):=⟨PT.weak (YN h.r he) λ_ _ _ h=>Vd h⟩
theorem Cm {a b:Expr}{op:CmpOp}{g:D->D->Sto->Rs D}{ma mb:Ex}{pos:Pos}(ho:OpV X (compareOp op) g)(ha:SV X a ma)(hb:SV X b mb)(hm:behindInMarks op b=false:=by first|exact Ue _|with_unfolding_all rfl):SVT X (.Compare a [op] [b] pos) (tV (Ce g ma mb)):=
 ⟨PT.weak (Wa ho ha.r hb.r hm) λ_ _ _ h=>by
  obtain ⟨th,mu,ro,so,en,t⟩:=Vd h
  exact NX ⟨th,mu,ro,so,en,t⟩⟩
def tNt (a:Tx):Tx:=λro mu=>bM (a ro mu) λb m1=>some (!b,m1)
theorem CZ {e:Expr}{m:Tx}{pos:Pos}(h:SVT X e m):SVT X (.UnaryOp .Not e pos) (tNt m):=⟨PT.weak (ZP h.r) λst H Q h=>by
 obtain ⟨th,mu,ro,so,en,t⟩:=h
 exact ⟨th,mu,ro,so,en,t.bind.mono λb th1 mu1 H1 e1 s1 t1=>t1.ret s1⟩⟩
def tAn (a b:Tx):Tx:=λro mu=>bM (a ro mu) λx m1=>if x=true then b ro m1 else some (false,m1)
def tO (a b:Tx):Tx:=λro mu=>bM (a ro mu) λx m1=>if x=true then some (true,m1) else b ro m1
theorem OH {a:Expr}{m:Tx}{pos:Pos}(ha:SVT X a m):SVW X (.BoolOp .And [a] pos) m:=⟨VI ha.r⟩
theorem D6 {a:Expr}{m:Tx}{pos:Pos}(ha:SVT X a m):SVW X (.BoolOp .Or [a] pos) m:=⟨Zp ha.r⟩
theorem Rk {a b:Expr}{rest:List Expr}{m n:Tx}{pos:Pos}(ha:SVT X a m)(hb:SVW X (.BoolOp .And (b::rest) pos) n):SVW X (.BoolOp .And (a::b::rest) pos) (tAn m n):=⟨PW.weak (XO ha.r hb.r) λst H Q h=>by
 obtain ⟨th,mu,ro,so,en,t⟩:=h
 refine ⟨th,mu,ro,so,en,t.bind.mono λb th1 mu1 H1 e1 s1 t1=>?_⟩
 cases b with
 | true=>exact ⟨th1,mu1,ro,s1,en.ext e1 so.out,t1⟩
 | false=>exact t1.ret s1⟩
theorem DI {a b:Expr}{rest:List Expr}{m n:Tx}{pos:Pos}(ha:SVT X a m)(hb:SVW X (.BoolOp .Or (b::rest) pos) n):SVW X (.BoolOp .Or (a::b::rest) pos) (tO m n):=⟨PW.weak (AaI ha.r hb.r) λst H Q h=>by
 obtain ⟨th,mu,ro,so,en,t⟩:=h
 refine ⟨th,mu,ro,so,en,t.bind.mono λb th1 mu1 H1 e1 s1 t1=>?_⟩
 cases b with
 | true=>exact t1.ret s1
 | false=>exact ⟨th1,mu1,ro,s1,en.ext e1 so.out,t1⟩⟩
theorem SVW.t {e:Expr}{m:Tx}(h:SVW X e m):SVT X e m:=⟨PW.pt h.r⟩
def eAn (a b:Ex):Ex:=λro mu=>bM (a ro mu) λx m1=>match asB x with
 | none=>none
 | some c=>if c=true then b ro m1 else some (.bl false,m1)
def eO (a b:Ex):Ex:=λro mu=>bM (a ro mu) λx m1=>match asB x with
 | none=>none
 | some c=>if c=true then some (.bl true,m1) else b ro m1
noncomputable def eNt (a:Ex):Ex:=λro mu=>bM (a ro mu) λx m1=>match asB x with
 | none=>none
 | some c=>some (.bl (!c),m1)
theorem Gz {a:Expr}{op}{m:Ex}{pos:Pos}(h:SV X a m):SV X (.BoolOp op [a] pos) m:=⟨Zl h.r⟩
theorem FJ {a b:Expr}{rest:List Expr}{m n:Ex}{pos:Pos}(ha:SV X a m)(hb:SV X (.BoolOp .And (b::rest) pos) n):SV X (.BoolOp .And (a::b::rest) pos) (eAn m n):=⟨PE.weak (Zg ha.r hb.r) λst H Q h=>by
 obtain ⟨th,mu,ro,so,en,t⟩:=h
 refine ⟨th,mu,ro,so,en,t.bind.mono λx th1 mu1 H1 e1 s1 t1 v rv=>?_⟩
 cases e:asB x with
 | none=>rw [e] at t1;exact t1.no.elim
 | some c =>
  rw [e] at t1
  refine ⟨c,LH e rv,?_⟩
  cases c with
  | true=>exact ⟨th1,mu1,ro,s1,en.ext e1 so.out,t1⟩
  | false=>exact t1.ret s1 _ (by unfold Rep;rfl)⟩
theorem Aap {a b:Expr}{rest:List Expr}{m n:Ex}{pos:Pos}(ha:SV X a m)(hb:SV X (.BoolOp .Or (b::rest) pos) n):SV X (.BoolOp .Or (a::b::rest) pos) (eO m n):=⟨PE.weak (AaY ha.r hb.r) λst H Q h=>by
 obtain ⟨th,mu,ro,so,en,t⟩:=h
 refine ⟨th,mu,ro,so,en,t.bind.mono λx th1 mu1 H1 e1 s1 t1 v rv=>?_⟩
 cases e:asB x with
 | none=>rw [e] at t1;exact t1.no.elim
 | some c =>
  rw [e] at t1
  refine ⟨c,LH e rv,?_⟩
  cases c with
  | true=>exact t1.ret s1 _ (by unfold Rep;rfl)
  | false=>exact ⟨th1,mu1,ro,s1,en.ext e1 so.out,t1⟩⟩
def eIf (c:Tx)(a b:Ex):Ex:=λro mu=>bM (c ro mu) λx m1=>if x=true then a ro m1 else b ro m1
theorem DK {c a b:Expr}{mc:Tx}{ma mb:Ex}{pos:Pos}(hc:SVT X c mc)(ha:SV X a ma)(hb:SV X b mb):SV X (.IfExp c a b pos) (eIf mc ma mb):=⟨PE.weak (Ub hc.r ha.r hb.r) λst H Q h=>by
 obtain ⟨th,mu,ro,so,en,t⟩:=h
 refine ⟨th,mu,ro,so,en,t.bind.mono λb th1 mu1 H1 e1 s1 t1=>?_⟩
 cases b with
 | true=>exact ⟨th1,mu1,ro,s1,en.ext e1 so.out,t1⟩
 | false=>exact ⟨th1,mu1,ro,s1,en.ext e1 so.out,t1⟩⟩
noncomputable def Cb:Exs:=λ_ mu=>some ([],mu)
def B6 (a:Ex)(r:Exs):Exs:=λro mu=>bM (a ro mu) λx m1=>bM (r ro m1) λxs m2=>some (x::xs,m2)
theorem B9:SVA X [] Cb:=by
 refine ⟨PA.weak T6 λst H Q h=>?_,λro mu ds mu' h=>by cases h;rfl⟩
 obtain ⟨th,mu,ro,so,en,t⟩:=h
 exact t.ret so [] .nil
theorem B5 {e:Expr}{es:List Expr}{m:Ex}{n:Exs}(ha:SV X e m)(hr:SVA X es n)(hs:starEach (e::es) X.env=(false,eval e X.env)::starEach es X.env:=by rfl):SVA X (e::es) (B6 m n):=by
 refine ⟨PA.weak (NS ha.r hr.1 hs) λst H Q h=>?_,λro mu ds mu' h=>?_⟩
 ·obtain ⟨th,mu,ro,so,en,t⟩:=h
  refine ⟨th,mu,ro,so,en,t.bind.mono λx th1 mu1 H1 e1 s1 t1 v rv=>?_⟩
  exact ⟨th1,mu1,ro,s1,en.ext e1 so.out,t1.bind.mono λxs th2 mu2 H2 e2 s2 t2 vs rvs=>t2.ret s2 _ (.cons (rv.ext e2 s1.out) rvs)⟩
 ·obtain ⟨x,m1,_,h⟩:=Ga h
  obtain ⟨xs,m2,h1,h⟩:=Ga h
  cases h
  rw [List.length_cons,List.length_cons,hr.2 _ _ _ _ h1]
def CL (a:Exs):Ex:=λro mu=>bM (a ro mu) λxs m1=>some (.tup xs,m1)
def He (a:Exs):Ex:=λro mu=>bM (a ro mu) λxs m1=>some (.lst xs,m1)
def Ja (a:Exs):Ex:=λro mu=>bM (a ro mu) λxs m1=>some (.ref m1.length,m1++[.lst xs])
theorem Rep.newTup (so:StoOk K th mu H){p:Addr}(h:H p=none){ds:List D}{vs:List V}(r:RepL K th H ds vs)(hz:ds.length≤sizeLine):Rep K th (upd H p (.tup vs)) (.tup ds) (.ref p):=by
 unfold Rep
 exact ⟨p,vs,rfl,SqT.of Ey,r.ext (.new h _) so.out,hz⟩
theorem StoOk.notin (so:StoOk K th mu H){p:Addr}(h:H p=none):p∉th:=λz=>by
 obtain ⟨xs,e,_⟩:=so.out p z
 rw [h] at e
 cases e
theorem Rep.newLst (so:StoOk K th mu H){p:Addr}(h:H p=none){ds:List D}{vs:List V}(r:RepL K th H ds vs)(hz:ds.length≤sizeLine):Rep K th (upd H p (.lst vs)) (.lst ds) (.ref p):=by
 unfold Rep
 exact ⟨p,vs,rfl,.inl ⟨so.notin h,.inl Ey⟩,r.ext (.new h _) so.out,hz⟩
theorem Cw {es:List Expr}{m:Exs}{x1}{pos:Pos}(h:SVA X es m)(hl:es.length≤1000:=by decide):SV X (.Tuple es x1 pos) (CL m):=⟨PE.weak (Y7 h.1) λst H Q q=>by
 obtain ⟨th,mu,ro,so,en,t⟩:=q
 obtain ⟨d,mu',e,_⟩:=id t
 obtain ⟨xs0,m0,e0,_⟩:=Ga e
 have hn:=h.2 _ _ _ _ e0
 have tb:Tr X.z th H (m ro mu) λds th' mu' H'=>ds.length≤1000∧Tr X.z th' H' (some (D.tup ds,mu')) (KV' X.z Q):=by
  obtain ⟨a,mu1,e1,q1⟩:=t.bind
  exact ⟨a,mu1,e1,λth' H' x s=>⟨by rw [h.2 _ _ _ _ e1];exact hl,q1 th' H' x s⟩⟩
 refine ⟨th,mu,ro,so,en,tb.mono λxs th1 mu1 H1 e1 s1 t1 vs rvs=>⟨?_,λp hp=>?_⟩⟩
 ·rw [rvs.len];exact AL t1.1 (by decide)
 ·exact t1.2.retX (.new hp _) (s1.new hp _) _ (Rep.newTup s1 hp rvs (AL t1.1 (by decide)))⟩
theorem TZ {es:List Expr}{m:Exs}{C:List D->Sto->Rs D}{st:L2.St}{ro:Ro}{k:D->List Addr->Sto->Hp->Prop}(h:SVA X es m)(hl:es.length≤1000)(t:Tr K th H (bM (m ro mu) C) k) :
  Tr K th H (m ro mu) λds th' mu' H'=>ds.length≤1000∧Tr K th' H' (C ds mu') k:=by
 obtain ⟨a,mu1,e1,q1⟩:=t.bind
 exact ⟨a,mu1,e1,λth' H' x s=>⟨by rw [h.2 _ _ _ _ e1];exact hl,q1 th' H' x s⟩⟩
theorem Fs {es:List Expr}{m:Exs}{pos:Pos}(h:SVA X es m)(hl:es.length≤1000:=by decide):SV X (.List es pos) (He m):=⟨PE.weak (Te h.1) λst H Q q=>by
 obtain ⟨th,mu,ro,so,en,t⟩:=q
 refine ⟨th,mu,ro,so,en,(TZ (st:=st) h hl t).mono λxs th1 mu1 H1 e1 s1 t1 vs rvs=>⟨?_,λp hp=>?_⟩⟩
 ·rw [rvs.len];exact AL t1.1 (by decide)
 ·exact t1.2.retX (.new hp _) (s1.new hp _) _ (Rep.newLst s1 hp rvs (AL t1.1 (by decide)))⟩
theorem LD {es:List Expr}{m:Exs}{pos:Pos}(h:SVA X es m)(hl:es.length≤1000:=by decide):SV X (.List es pos) (Ja m):=⟨PE.weak (Te h.1) λst H Q q=>by
 obtain ⟨th,mu,ro,so,en,t⟩:=q
 refine ⟨th,mu,ro,so,en,(TZ (st:=st) h hl t).mono λxs th1 mu1 H1 e1 s1 t1 vs rvs=>⟨?_,λp hp=>?_⟩⟩
 ·rw [rvs.len];exact AL t1.1 (by decide)
 ·refine t1.2.retX (.newM hp _) (s1.newM hp rvs (AL t1.1 (by decide))) _ ?_
  unfold Rep
  exact ⟨p,rfl,by rw [← s1.len];simp⟩⟩
def Cd (f:Fn)(a:Exs):Ex:=λro mu=>bM (a ro mu) λxs m1=>f xs m1
theorem U3 {f:Fn}{a:Exs}{st:L2.St}{Q:VK}(h:rdE K (Cd f a) st H Q):tCB (rL K f) (rdA K a) st H Q:=by
 obtain ⟨th,mu,ro,so,en,t⟩:=h
 exact ⟨th,mu,ro,so,en,t.bind.mono λxs th1 mu1 H1 e1 s1 t1 vs rvs=>⟨th1,mu1,xs,s1,rvs,t1⟩⟩
theorem Cr {x:Str}{id:String}{g:Fn}{e:Expr}{es:List Expr}{m:Exs}{p pos:Pos}(hc:CallV X (.builtin id) g)(hm:X.mg x=none)(hv:bootBuiltins x=some (.builtin id))(ha:SVA X (e::es) m)(hg:Gl X x:=by rfl)
  (hn:x≠"__name__":=by decide) (hdb:(x==("__debug__":Str))=false:=by decide) (hs1:starEach (e::es) X.env=(false,eval e X.env)::starEach es X.env:=by rfl) (hs2:(backTo pos (starEach es X.env)).any (·.1)=false:=by rfl):SV X (.Call (.Name x p) (e::es) [] pos) (Cd g m):=
 ⟨PE.weak (OV hc hg hm hv ha.1 hn hdb hs1 hs2) λ_ _ _ h=>U3 h⟩
theorem CG {x:Str}{T:String}{g:Fn}{e:Expr}{es:List Expr}{m:Exs}{p pos:Pos}(hc:CallV X (.type T) g)(hm:X.mg x=none)(hv:bootBuiltins x=some (.type T))(ha:SVA X (e::es) m)(hg:Gl X x:=by rfl)
  (hn:x≠"__name__":=by decide) (hdb:(x==("__debug__":Str))=false:=by decide) (hs1:starEach (e::es) X.env=(false,eval e X.env)::starEach es X.env:=by rfl) (hs2:(backTo pos (starEach es X.env)).any (·.1)=false:=by rfl):SV X (.Call (.Name x p) (e::es) [] pos) (Cd g m):=
 ⟨PE.weak (SQ hc hg hm hv ha.1 hn hdb hs1 hs2) λ_ _ _ h=>U3 h⟩
def spF (K:Zc)(f:Fn)(n:Nat):Sp:=λvs H Q _=>∃ th mu ds,StoOk K th mu H∧RepL K th H ds vs∧ds.length=n∧Tr K th H (f ds mu) (KV' K Q)
structure Cal (P:Program) (w:World) (K:PySem.W.Frag) (mg:Str->Option Value) (base:Heap) (k:Nat) (x:Str) (f:Fn) (n:Nat):Prop where
 ex:∃ (ps:List Str) (a:Addr) (fd:FuncData),ps.length=n∧DM P w K mg base CX0 k a fd ps (spF ⟨K,P,w⟩ f n)∧Binds K fd ps []∧PySem.W.keepIn K (.ref a)=true∧mg x=some (.ref a)
theorem Ci {x:Str}{k:Nat}{f:Fn}{n:Nat}{e:Expr}{es:List Expr}{m:Exs}{p pos:Pos}(C:Cal X.prog X.w X.K X.mg X.base k x f n)(hr:Room k X.A)(ha:SVA X (e::es) m)(hl:(e::es).length=n:=by rfl)(hg:Gl X x:=by rfl)
  (hdb:(x==("__debug__":Str))=false:=by decide) (he:starEach (e::es) X.env=(false,eval e X.env)::starEach es X.env:=by rfl) (hpl:(backTo pos (starEach es X.env)).any (·.1)=false:=by rfl):SV X (.Call (.Name x p) (e::es) [] pos) (Cd f m):=⟨by
 obtain ⟨ps,a,fd,hn,F,b,kp,mm⟩:=C.ex
 refine PE.weak (WH F hr hg mm kp b .nil Z1 ha.1 hdb he hpl) λst H Q h=>?_
 obtain ⟨th,mu,ro,so,en,t⟩:=h
 have tb:Tr X.z th H (m ro mu) λds th' mu' H'=>ds.length=n∧Tr X.z th' H' (f ds mu') (KV' X.z Q):=by
  obtain ⟨a,mu1,e1,q1⟩:=t.bind
  exact ⟨a,mu1,e1,λth' H' x s=>⟨by rw [ha.2 _ _ _ _ e1];exact hl,q1 th' H' x s⟩⟩
 exact ⟨th,mu,ro,so,en,tb.mono λxs th1 mu1 H1 e1 s1 t1 vs rvs=>⟨th1,mu1,xs,s1,by simpa using rvs,t1.1,t1.2⟩⟩⟩
noncomputable def sNx:Sx:=λro mu=>some ((.nx,ro),mu)
def Cq (a b:Sx):Sx:=λro mu=>bM (a ro mu) λp m1=>match p.1 with
 | .nx=>b p.2 m1
 | _=>some (p,m1)
theorem Cs:SVB X [] sNx:=⟨PSs.weak WX λE st H h=>by
 obtain ⟨th,mu,ro,so,en,t⟩:=h
 exact t.ret so st en⟩
theorem Cg {s:Stmt}{m:Sx}(h:SVS X s m):SVB X [s] m:=⟨Wb h.r⟩
theorem Cc {s:Stmt}{r:List Stmt}{m n:Sx}(h1:SVS X s m)(h2:SVB X r n):SVB X (s::r) (Cq m n):=⟨PSs.weak (Vw h1.r h2.r) λE st H h=>by
 obtain ⟨th,mu,ro,so,en,t⟩:=h
 refine ⟨th,mu,ro,so,en,t.bind.mono λp th1 mu1 H1 e1 s1 t1 st' en'=>?_⟩
 obtain ⟨fl,ro'⟩:=p
 cases fl with
 | nx=>exact ⟨th1,mu1,ro',s1,en',t1⟩
 | bk=>exact t1.ret s1 st' en'
 | ct=>exact t1.ret s1 st' en'
 | rt d=>exact t1.ret s1 st' en'⟩
def sRt (a:Ex):Sx:=λro mu=>bM (a ro mu) λd m1=>some ((.rt d,ro),m1)
theorem Cj {e:Expr}{m:Ex}{pos:Pos}(h:SV X e m):SVS X (.Return (some e) pos) (sRt m):=⟨PS.weak (Zn h.r) λE st H h=>by
 obtain ⟨th,mu,ro,so,en,t⟩:=h
 exact ⟨th,mu,ro,so,en,t.bind.mono λd th1 mu1 H1 e1 s1 t1 v rv=>t1.ret s1 st (en.ext e1 so.out) v rv⟩⟩
def sEx (a:Ex):Sx:=λro mu=>bM (a ro mu) λ_ m1=>some ((.nx,ro),m1)
theorem Kg {e:Expr}{m:Ex}{pos:Pos}(h:SV X e m)(hs:swapsWith e none pos.line X.env=pure false:=by rfl):SVS X (.Expr e pos) (sEx m):=⟨PS.weak (WG h.r hs) λE st H h=>by
 obtain ⟨th,mu,ro,so,en,t⟩:=h
 exact ⟨th,mu,ro,so,en,t.bind.mono λd th1 mu1 H1 e1 s1 t1 v rv=>t1.ret s1 st (en.ext e1 so.out)⟩⟩
def sIf (c:Tx)(a b:Sx):Sx:=λro mu=>bM (c ro mu) λx m1=>if x=true then a ro m1 else b ro m1
theorem CA {c:Expr}{a b:List Stmt}{mc:Tx}{ma mb:Sx}{pos:Pos}(hc:SVT X c mc)(ha:SVB X a ma)(hb:SVB X b mb):SVS X (.If c a b pos) (sIf mc ma mb):=⟨PS.weak (Aby hc.r ha.r hb.r) λE st H h=>by
 obtain ⟨th,mu,ro,so,en,t⟩:=h
 refine ⟨th,mu,ro,so,en,t.bind.mono λb th1 mu1 H1 e1 s1 t1=>?_⟩
 cases b with
 | true=>exact ⟨th1,mu1,ro,s1,en.ext e1 so.out,t1⟩
 | false=>exact ⟨th1,mu1,ro,s1,en.ext e1 so.out,t1⟩⟩
abbrev Gx:=D->Ro->Sto->Rs Ro
abbrev Gxs:=List D->Ro->Sto->Rs Ro
def rdG (K:Zc)(g:Gx):TG:=λv st H Q=>∃ th mu ro d,StoOk K th mu H∧EnvOk K th H ro st∧Rep K th H d v∧Tr K th H (g d ro mu) λro' th' _ H'=>∀ st',EnvOk K th' H' ro' st'->Q st' H'
def AbM (K:Zc)(g:Gxs):TGs:=λvs st H Q=>∃ th mu ro ds,StoOk K th mu H∧EnvOk K th H ro st∧RepL K th H ds vs∧Tr K th H (g ds ro mu) λro' th' _ H'=>∀ st',EnvOk K th' H' ro' st'->Q st' H'
structure SVG (X:Cx) (e:Expr) (g:Gx):Prop where
 r:PG X e (rdG X.z g)
structure V1 (X:Cx) (es:List Expr) (g:Gxs):Prop where
 r:PGs X es (AbM X.z g)
theorem PG.weak {e:Expr}{t t':TG}(h:PG X e t)(f:∀ v st H Q,t' v st H Q->t v st H Q):PG X e t':=λpins s st H v u Q I r q=>h pins s st H v u Q I r (f v st H Q q)
theorem PGs.weak {e:List Expr}{t t':TGs}(h:PGs X e t)(f:∀ v st H Q,t' v st H Q->t v st H Q):PGs X e t':=λpins s st H v u Q I r q=>h pins s st H v u Q I r (f v st H Q q)
noncomputable def gNm (i:Nat):Gx:=λd ro mu=>some (ro.set i (some d),mu)
theorem Ck (i:Nat){x:Str}{pos:Pos}(hN:X.N.Nodup)(hi:X.N[i]? = some x:=by rfl)(hx:Loc X.env.scope x:=by first|exact Or.inl rfl|exact Or.inr rfl)(hf:X.fn x=true∨X.env.scope.names.lookup x=some .local:=by first|exact .inl rfl|exact .inr rfl):SVG X (.Name x pos) (gNm i):=
 ⟨PG.weak (V6 hN hi hx hf) λv st H Q h=>by
  obtain ⟨th,mu,ro,d,so,en,r,t⟩:=h
  exact t.ret so _ (en.set i r)⟩
noncomputable def EA:Gxs:=λds ro mu=>match ds with
 | []=>some (ro,mu)
 | _=>none
def CD (g:Gx)(r:Gxs):Gxs:=λds ro mu=>match ds with
 | d::ds=>bM (g d ro mu) λro' m1=>r ds ro' m1
 | []=>none
theorem Fh:V1 X [] EA:=⟨PGs.weak VF λv st H Q h=>by
 obtain ⟨th,mu,ro,ds,so,en,r,t⟩:=h
 cases ds with
 | nil=>exact ⟨r.inv0,t.ret so _ en⟩
 | cons d ds=>exact t.no.elim⟩
theorem CW {e:Expr}{es:List Expr}{g:Gx}{gs:Gxs}(h1:SVG X e g)(h2:V1 X es gs)(hs:(assignEach (e::es) X.env).map (·.2)=assign e X.env::(assignEach es X.env).map (·.2):=by rfl):V1 X (e::es) (CD g gs):=⟨PGs.weak (Vs h1.r h2.r hs) λv st H Q h=>by
 obtain ⟨th,mu,ro,ds,so,en,r,t⟩:=h
 cases ds with
 | nil=>exact t.no.elim
 | cons d ds =>
  obtain ⟨v,vr,rfl,r1,r2⟩:=r.inv
  refine ⟨v,vr,rfl,th,mu,ro,d,so,en,r1,?_⟩
  exact Tr.mono (Tr.bind t) λro' th1 mu1 H1 e1 s1 t1 st' en'=>⟨th1,mu1,ro',ds,s1,en',r2.ext e1 so.out,t1⟩⟩
noncomputable def gTp (n:Nat)(g:Gxs):Gx:=λd ro mu=>match d with
 | .tup ds=>if ds.length=n then g ds ro mu else none
 | _=>none
theorem Gi {es:List Expr}{k n:Nat}{g:Gxs}{pos:Pos}(hc:X.calm=true)(h:V1 X es g)(hn:(assignEach es X.env).length=n:=by rfl)(hst:(assignEach es X.env).findIdx? (·.1)=none:=by rfl):SVG X (.Tuple es k pos) (gTp n g):=
 ⟨PG.weak (Zk hc h.r hn hst) λv st H Q q=>by
  obtain ⟨th,mu,ro,d,so,en,r,t⟩:=q
  cases d with
  | tup ds =>
   unfold Rep at r
   obtain ⟨a,vs,rfl,hs,rl,_⟩:=r
   unfold gTp at t;dsimp only at t
   by_cases e:ds.length=n
   ·rw [if_pos e] at t
    exact ⟨a,vs,rfl,hs,by rw [rl.len];exact e,th,mu,ro,ds,so,en,rl,t⟩
   ·rw [if_neg e] at t;exact t.no.elim
  | _=>exact t.no.elim⟩
def CU (a:Ex)(g:Gx):Sx:=λro mu=>bM (a ro mu) λd m1=>bM (g d ro m1) λro' m2=>some ((.nx,ro'),m2)
theorem VJ {a:Ex}{g:Gx}{st:L2.St}{E:Ends}(h:rdS K (CU a g) E st H):Zm (rdE K a) (rdG K g) E st H:=by
 obtain ⟨th,mu,ro,so,en,t⟩:=h
 refine ⟨th,mu,ro,so,en,t.bind.mono λd th1 mu1 H1 e1 s1 t1 v rv=>?_⟩
 refine ⟨th1,mu1,ro,d,s1,en.ext e1 so.out,rv,t1.bind.mono λro' th2 mu2 H2 e2 s2 t2 st' en'=>?_⟩
 exact t2.ret s2 st' en'
theorem Hf {tg e:Expr}{m:Ex}{g:Gx}{pos:Pos}(he:SV X e m)(hg:SVG X tg g)(hs:swapsWithSole [tg] e pos.line X.env=pure false:=by rfl)(hw:swappedStores [tg] e X.env=pure none:=by rfl)
  (h1:(assignEach [tg] X.env).map (·.2)=[assign tg X.env]:=by rfl):SVS X (.Assign [tg] e pos) (CU m g):=⟨PS.weak (ZN he.r hg.r hs hw h1) λ_ _ _ h=>VJ h⟩
theorem Cy (i:Nat){x:Str}{e:Expr}{m:Ex}{pos pos':Pos}(hN:X.N.Nodup)(he:SV X e m)(hi:X.N[i]? = some x:=by rfl)(hx:Loc X.env.scope x:=by first|exact Or.inl rfl|exact Or.inr rfl)(hs:swapsWith e (some (.Name x pos')) pos.line X.env=pure false:=by rfl)
  (hf:X.fn x=true∨X.env.scope.names.lookup x=some .local:=by first|exact .inl rfl|exact .inr rfl):SVS X (.Assign [.Name x pos'] e pos) (CU m (gNm i)):=⟨PS.weak (ZJ hN hi hx he.r hs hf) λE st H h=>by
 obtain ⟨th,mu,ro,so,en,t⟩:=h
 refine ⟨th,mu,ro,so,en,t.bind.mono λd th1 mu1 H1 e1 s1 t1 v rv=>?_⟩
 exact t1.ret s1 _ ((en.ext e1 so.out).set i rv)⟩
def NG (i j:Nat)(a:Exs):Sx:=λro mu=>bM (a ro mu) λds m1=>match ds with
 | [x,y]=>some ((.nx,(ro.set i (some x)).set j (some y)),m1)
 | _=>none
theorem LQ (i j:Nat){x y:Str}{a b:Expr}{m:Exs}{px py pt:Pos}{kt k2 pt2}{pos:Pos}(hc:X.calm=true)(hN:X.N.Nodup)(ha:SVA X [a,b] m)
  (hw:swappedStores [.Tuple [.Name x px,.Name y py] kt pt] (.Tuple [a,b] k2 pt2) X.env=pure (some [x,y]))
  (hi:X.N[i]? = some x:=by rfl) (hj:X.N[j]? = some y:=by rfl) (hij:i≠j:=by decide)
  (hx:X.env.scope.names.lookup x=some .local:=by rfl) (hy:X.env.scope.names.lookup y=some .local:=by rfl)
  (hs:swapsWithSole [.Tuple [.Name x px,.Name y py] kt pt] (.Tuple [a,b] k2 pt2) pos.line X.env=pure false:=by rfl) :
  SVS X (.Assign [.Tuple [.Name x px,.Name y py] kt pt] (.Tuple [a,b] k2 pt2) pos) (NG i j m):=⟨PS.weak (XM hc hN hi hj hij hx hy ha.1 hw hs) λE st H h=>by
 obtain ⟨th,mu,ro,so,en,t⟩:=h
 refine ⟨th,mu,ro,so,en,t.bind.mono λds th1 mu1 H1 e1 s1 t1 vs rvs=>?_⟩
 match ds,t1,rvs with
 | [d,d'],t1,rvs =>
  obtain ⟨v,r,rfl,r1,r2⟩:=rvs.inv
  obtain ⟨u,r',rfl,r3,r4⟩:=r2.inv
  cases r4.inv0
  exact ⟨v,u,rfl,t1.ret s1 _ (((en.ext e1 so.out).set i r1).set j r3)⟩
 | [],t1,_=>exact t1.no.elim
 | [_],t1,_=>exact t1.no.elim
 | _::_::_::_,t1,_=>exact t1.no.elim⟩
def fnB (n:Nat)(m:Sx):Fn:=λds mu=>bM (m (ds.map some++List.replicate (n-ds.length) none) mu) λp m1=>match p.1 with
 | .rt d=>some (d,m1)
 | .nx=>some (.non,m1)
 | _=>none
theorem Ln {N:List Str}{ds:List D}{vs:List V}(r:RepL K th H ds vs):EnvOk K th H (ds.map some++List.replicate (N.length-ds.length) none) (L2.start N vs):=by
 unfold L2.start
 refine ⟨by simp [r.len],λi d e=>?_⟩
 by_cases hi:i<ds.length
 ·rw [Aw (by simpa using hi),Av] at e
  cases q:ds[i]? with
  | none=>rw [q] at e;cases e
  | some d' =>
   rw [q] at e
   have:d'=d:=by simpa using e
   subst this
   obtain ⟨v,ev,rv⟩:=r.get q
   exact ⟨v,by rw [Aw (by simpa [r.len] using hi),Av,ev];rfl,rv⟩
 ·rw [BK (by simpa using hi),BW] at e
  split at e<;>cases e
theorem AaJ {P:Program}{w:World}{K:PySem.W.Frag}{mg:Str->Option Value}{base:Heap}{x qual:Str}{st:Stmt}{f:Addr}{fd:FuncData}{N ps:List Str}{k:Nat}{m:Sx}(F:Fun K x qual st f fd)(S:CB N ps (Cf st))
  (hbody:∀ (cdv:Value) (A:Around) (outer:List Env) (s:Shared) (H:Hp) (E:XK),Room k (A.deeper (envOfC qual (Cf st) s.heap.objs.size f cdv)) ->
   SVB (MP CX0 P w K mg base N qual (Cf st) f cdv A outer s H E).nox (Fo st) m):DM P w K mg base CX0 (k+1) f fd ps (spF ⟨K,P,w⟩ (fnB N.length m) ps.length):=by
 refine F.ok S (λvs H Q E h=>?_) (λcdv A outer s H vs Q E hr h=>?_)
 ·obtain ⟨th,mu,ds,_,r,hl,_⟩:=h
  rw [r.len]
  exact hl
 ·obtain ⟨th,mu,ds,so,r,hl,t⟩:=h
  refine ⟨_,(hbody cdv A outer s H E hr).r,?_⟩
  refine ⟨th,mu,_,so,Ln r,t.bind.mono λp th1 mu1 H1 e1 s1 t1 st' en'=>?_⟩
  obtain ⟨fl,ro'⟩:=p
  cases fl with
  | nx=>exact t1.ret s1 _ (by unfold Rep;rfl)
  | bk=>exact t1.no.elim
  | ct=>exact t1.no.elim
  | rt d=>exact λv rv=>t1.ret s1 v rv
theorem Df (n np:Nat){P:Program}{w:World}{K:PySem.W.Frag}{mg:Str->Option Value}{base:Heap}{x qual:Str}{st:Stmt}{f:Addr}{fd:FuncData}{N ps:List Str}{k:Nat}{m:Sx}(F:Fun K x qual st f fd)(S:CB N ps (Cf st))(hn:N.length=n)(hp:ps.length=np)
  (hbody:∀ (cdv:Value) (A:Around) (outer:List Env) (s:Shared) (H:Hp) (E:XK),Room k (A.deeper (envOfC qual (Cf st) s.heap.objs.size f cdv)) ->
   SVB (MP CX0 P w K mg base N qual (Cf st) f cdv A outer s H E).nox (Fo st) m):DM P w K mg base CX0 (k+1) f fd ps (spF ⟨K,P,w⟩ (fnB n m) np):=by
 subst hn hp
 exact AaJ F S hbody
theorem CQ {P:Program}{w:World}{K:PySem.W.Frag}{mg:Str->Option Value}{base:Heap}{x:Str}{st:Stmt}{f:Addr}{fd:FuncData}{ps:List Str}{k n:Nat}{g:Fn}(F:Fun K x x st f fd)(hm:mg x=some (.ref f))(h:DM P w K mg base CX0 k f fd ps (spF ⟨K,P,w⟩ g n))(hb:Binds K fd ps [])(hn:ps.length=n:=by rfl):Cal P w K mg base k x g n:=
 ⟨ps,f,fd,hn,h,hb,F.kp,hm⟩
abbrev Ix:=Ro->Sto->Rs (List D×Option Nat)
def gOk (g:Option Nat)(m0 m:Sto):Prop:=match g with
 | none=>True
 | some k=>m0[k]? = m[k]?
structure R4 (K:Zc) (J:It) (th:List Addr) (mu:Sto) (H:Hp) (ds:List D) (g:Option Nat):Prop where
 sz:ds.length≤sizeLine
 go:∀ th' mu' H',Ext th H th' H'->StoOk K th' mu' H'->gOk g mu mu'->∀ (i:Nat) (d:D),ds[i]? = some d->J.go i H'∧∀ x H2,J.yld i H' x H2->Ext th' H' th' H2∧StoOk K th' mu' H2∧Rep K th' H2 d x
 stop:∀ th' mu' H',Ext th H th' H'->StoOk K th' mu' H'->gOk g mu mu'->J.stop ds.length H'
def rdI (K:Zc)(m:Ix):TI:=λst H R=>∃ th mu ro,StoOk K th mu H∧EnvOk K th H ro st∧Tr K th H (m ro mu) λp th' mu' H'=>∀ J,R4 K J th' mu' H' p.1 p.2->R J H'
structure SVI (X:Cx) (tg iter:Expr) (m:Ix):Prop where
 r:PI X tg iter (rdI X.z m)
theorem PI.weak {tg e:Expr}{t t':TI}(h:PI X tg e t)(f:∀ st H R,t' st H R->t st H R):PI X tg e t':=λpins s st H R I q=>h pins s st H R I (f st H R q)
open Classical in
noncomputable def D9 {A:Type}(g:Option Nat)(m0 m:Sto)(r:Rs A):Rs A:=if gOk g m0 m then r else none
theorem QM {A:Type}{m0 m:Sto}{r:Rs A}:D9 none m0 m r=r:=by unfold D9;rw [if_pos (show gOk none m0 m from True.intro)]
theorem GU {A:Type}{g:Option Nat}{m0 m:Sto}{r:Rs A}{p:A×Sto}(h:D9 g m0 m r=some p):gOk g m0 m∧r=some p:=by
 unfold D9 at h
 by_cases e:gOk g m0 m
 ·rw [if_pos e] at h;exact ⟨e,h⟩
 ·rw [if_neg e] at h;cases h
noncomputable def EN (g:Option Nat)(m0:Sto)(tg:Gx)(body:Sx):List D->Ro->Sto->Rs (Fl×Ro)
 | [],ro,mu=>some ((.nx,ro),mu)
 | d::ds,ro,mu=>bM (tg d ro mu) λro1 m1=>bM (body ro1 m1) λp m2=>match p.1 with
  | .nx=>D9 g m0 m2 (EN g m0 tg body ds p.2 m2)
  | .ct=>D9 g m0 m2 (EN g m0 tg body ds p.2 m2)
  | .bk=>some ((.nx,p.2),m2)
  | .rt d=>some ((.rt d,p.2),m2)
def JC (i:Ix)(tg:Gx)(body:Sx):Sx:=λro mu=>bM (i ro mu) λp m1=>EN p.2 m1 tg body p.1 ro m1
theorem Gj {tg iter:Expr}{body:List Stmt}{i:Ix}{g:Gx}{m:Sx}{pos:Pos}(hp:PassesOwn (model X.prog X.w) X.A X.env X.xe)(hc:X.calm=true)(hi:SVI X tg iter i)(hg:SVG X tg g)(hb:SVB X body m)
  (hs:∀ x,foldedSetIterable iter X.env x=pure x:=by intro _;rfl):SVS X (.For tg iter body [] pos) (JC i g m):=⟨PS.weak (ZE hp hc hi.r hg.r hb.r hs) λE st H h=>by
 obtain ⟨th,mu,ro,so,en,t⟩:=h
 refine ⟨th,mu,ro,so,en,t.bind.mono λp th1 mu1 H1 e1 s1 t1 J ok=>?_⟩
 obtain ⟨ds,gd⟩:=p
 have en1:=en.ext e1 so.out
 refine ⟨λk n st' H'=>n=ds.length-k∧k≤ds.length∧∃ th' mu' ro',StoOk X.z th' mu' H'∧EnvOk X.z th' H' ro' st'∧Ext th1 H1 th' H'∧gOk gd mu1 mu'∧Tr X.z th' H' (EN gd mu1 g m (ds.drop k) ro' mu') (YM X.z E),⟨_,rfl,A0 _,th1,mu1,ro,s1,en1,.refl _ _,?_,t1⟩,?_⟩
 ·cases gd with
  | none=>exact True.intro
  | some k=>exact rfl
 rintro k n st2 H2 ⟨rfl,hk,th2,mu2,ro2,s2,en2,e2,g2,t2⟩
 by_cases lt:k<ds.length
 ·refine .inr ?_
  have ek:ds[k]? = some ds[k]:=by simp
  obtain ⟨a1,a2⟩:=ok.go th2 mu2 H2 e2 s2 g2 k ds[k] ek
  refine ⟨a1,λst' H'=>k+1≤ds.length∧∃ th' mu' ro',StoOk X.z th' mu' H'∧EnvOk X.z th' H' ro' st'∧Ext th1 H1 th' H'∧gOk gd mu1 mu'∧Tr X.z th' H' (EN gd mu1 g m (ds.drop (k+1)) ro' mu') (YM X.z E),λst' H' q=>⟨ds.length-(k+1),by ext,rfl,q⟩,λx H3 y=>?_⟩
  obtain ⟨e3,s3,r3⟩:=a2 x H3 y
  rw [List.drop_eq_getElem_cons lt] at t2
  unfold EN at t2
  refine ⟨th2,mu2,ro2,ds[k],s3,en2.ext e3 s2.out,r3,?_⟩
  refine (t2.ahead e3).bind.mono λro4 th4 mu4 H4 e4 s4 t4 st4 en4=>?_
  refine ⟨th4,mu4,ro4,s4,en4,t4.bind.mono λp th5 mu5 H5 e5 s5 t5 st5 en5=>?_⟩
  obtain ⟨fl,ro5⟩:=p
  have e15:Ext th1 H1 th5 H5:=((e2.trans e3).trans e4).trans e5
  cases fl with
  | nx =>
   obtain ⟨a,mu',q1,q2⟩:=t5
   obtain ⟨go5,q1⟩:=GU q1
   exact ⟨lt,th5,mu5,ro5,s5,en5,e15,go5,a,mu',q1,q2⟩
  | ct =>
   obtain ⟨a,mu',q1,q2⟩:=t5
   obtain ⟨go5,q1⟩:=GU q1
   exact ⟨lt,th5,mu5,ro5,s5,en5,e15,go5,a,mu',q1,q2⟩
  | bk=>exact t5.ret s5 st5 en5
  | rt d=>exact t5.ret s5 st5 en5
 ·have e:k=ds.length:=by ext
  subst e
  rw [List.drop_length] at t2
  unfold EN at t2
  exact .inl ⟨ok.stop th2 mu2 H2 e2 s2 g2,t2.ret s2 st2 en2⟩⟩
end
end PV
namespace L2
open PySem PySem.Spec PyProof.Rows
section
variable {X:Cx} {tg iter elt:Expr} {ifs:List Expr} {scope:Scope} {pos:Pos} {wi:TI} {own:List Str} {fv:List (Nat×Str)} {g:TG} {tt:TT} {te:TE}
theorem KP {C:Addr}{h h':Heap}(sb:Heap.SameBut C h h'):∀ b o,b∉[C]->h.get? b=some o->h'.get? b=some o:=λb o hb e=>(sb.2 b (by simpa using hb)).trans e
end
end L2
namespace PV
open PySem L2 PySem.Spec PyProof.Rows
section
variable {X:Cx} {K:Zc} {th:List Addr} {mu:Sto} {H:Hp}
noncomputable def FN (g:Option Nat)(m0:Sto)(tg:Gx)(tt:Tx)(el:Ex)(ro:Ro):List D->Sto->Rs (List D)
 | [],mu=>some ([],mu)
 | d::ds,mu=>bM (tg d ro mu) λro1 m1=>bM (tt ro1 m1) λb m2 =>
  if b=true then bM (el ro1 m2) λy m3=>D9 g m0 m3 (bM (FN g m0 tg tt el ro ds m3) λys m4=>some (y::ys,m4)) else D9 g m0 m2 (FN g m0 tg tt el ro ds m2)
noncomputable def r0 (nc:Nat)(fvs:List Nat)(ro:Ro):Ro:=List.replicate nc none++fvs.map λk=>ro.getD k none
def eLC (i:Ix)(nc:Nat)(fvs:List Nat)(tg:Gx)(tt:Tx)(el:Ex):Ex:=λro mu=>bM (i ro mu) λp m1=>bM (FN p.2 m1 tg tt el (r0 nc fvs ro) p.1 m1) λys m2=>some (.lst ys,m2)
def GOwn (nc:Nat)(tg:Gx):Prop:=∀ d ro mu ro' mu',tg d ro mu=some (ro',mu')->ro'.length=ro.length∧∀ i,nc≤i->ro'[i]? = ro[i]?
def Ri (nc:Nat)(tg:Gxs):Prop:=∀ d ro mu ro' mu',tg d ro mu=some (ro',mu')->ro'.length=ro.length∧∀ i,nc≤i->ro'[i]? = ro[i]?
theorem Cv {nc i:Nat}(h:i<nc:=by decide):GOwn nc (gNm i):=λd ro mu ro' mu' e=>by
 cases e
 exact ⟨by simp,λj hj=>AB (by ext)⟩
theorem M6 {nc:Nat}:Ri nc EA:=λds ro mu ro' mu' e=>by
 cases ds with
 | nil=>cases e;exact ⟨rfl,λ_ _=>rfl⟩
 | cons d ds=>cases e
theorem HU {nc:Nat}{g:Gx}{gs:Gxs}(h1:GOwn nc g)(h2:Ri nc gs):Ri nc (CD g gs):=λds ro mu ro' mu' e=>by
 cases ds with
 | nil=>cases e
 | cons d ds =>
  obtain ⟨ro1,m1,e1,e2⟩:=Ga e
  obtain ⟨a1,a2⟩:=h1 _ _ _ _ _ e1
  obtain ⟨b1,b2⟩:=h2 _ _ _ _ _ e2
  exact ⟨b1.trans a1,λi hi=>(b2 i hi).trans (a2 i hi)⟩
theorem PC {nc n:Nat}{g:Gxs}(h:Ri nc g):GOwn nc (gTp n g):=λd ro mu ro' mu' e=>by
 cases d with
 | tup ds =>
  unfold gTp at e
  dsimp only at e
  by_cases q:ds.length=n
  ·rw [if_pos q] at e;exact h _ _ _ _ _ e
  ·rw [if_neg q] at e;cases e
 | _=>cases e
theorem Py {nc:Nat}{fv:List (Nat×Str)}{ro:Ro}{st:L2.St}(en:EnvOk K th H ro st):EnvOk K th H (r0 nc (fv.map (·.1)) ro) (st0 nc fv st):=by
 unfold r0 st0
 refine ⟨by simp,λi d e=>?_⟩
 by_cases hi:i<nc
 ·rw [Aw (by simpa using hi),BW] at e
  split at e<;>cases e
 ·rw [BK (by simpa using hi)] at e ⊢
  simp only [List.length_replicate,As,Av] at e ⊢
  cases q:fv[i-nc]? with
  | none=>rw [q] at e;cases e
  | some p =>
   rw [q] at e
   have e':ro.getD p.1 none=some d:=by simpa using e
   rw [AM] at e'
   have e2:ro[p.1]? = some (some d):=by
    cases w:ro[p.1]? with
    | none=>rw [w] at e';cases e'
    | some o=>rw [w] at e';exact congrArg some e'
   obtain ⟨v,ev,rv⟩:=en.2 _ _ e2
   exact ⟨v,by simp [AM,ev],rv⟩
theorem Mf {nc:Nat}{fvs:List Nat}{ro:Ro}{i:Nat}{d:D}(e:(r0 nc fvs ro)[i]? = some (some d)):nc≤i:=by
 rcases Nat.lt_or_ge i nc with h|h
 ·unfold r0 at e
  rw [Aw (by simpa using h),BW] at e
  split at e<;>cases e
 ·exact h
noncomputable def tY:Tx:=λ_ mu=>some (true,mu)
structure SVF (X:Cx) (ifs:List Expr) (m:Tx):Prop where
 r:PF X ifs (rdT X.z m)
theorem Dd:SVF X [] tY:=⟨λpins s st H Q I h=>Yj pins s st H Q I (by
 obtain ⟨th,mu,ro,so,en,t⟩:=h
 exact t.ret so)⟩
theorem HX {c:Expr}{m:Tx}(h:SVT X c m):SVF X [c] m:=⟨Y4 h.r⟩
noncomputable def chars (x:Str):List D:=x.cps.toList.map λc=>.str ⟨#[c]⟩
def DJ (a:Ex):Ix:=λro mu=>bM (a ro mu) λd m1=>match d with
 | .tup ds=>some ((ds,none),m1)
 | .lst ds=>some ((ds,none),m1)
 | .str x=>some ((chars x,none),m1)
 | .ref k=>match m1[k]? with
  | some (.lst ds)=>some ((ds,some k),m1)
  | _=>none
 | _=>none
theorem M3 {a:Addr}{ds:List D}{g:Option Nat}(hz:ds.length≤sizeLine)(h:∀ th' mu' H',Ext th H th' H'->StoOk K th' mu' H'->gOk g mu mu'->∃ vs,SqL K.K H' a vs∧RepL K th' H' ds vs):R4 K (Itl K.K a) th mu H ds g where
 sz:=hz
 go:=λth' mu' H' e s go i d ed=>by
  obtain ⟨vs,h1,h2⟩:=h th' mu' H' e s go
  obtain ⟨v,ev,rv⟩:=h2.get ed
  refine ⟨⟨vs,v,h1,ev⟩,λx H2 y=>?_⟩
  obtain ⟨rfl,y⟩:=y
  have ex:=y vs h1
  rw [ev] at ex
  cases ex
  exact ⟨.refl _ _,s,rv⟩
 stop:=λth' mu' H' e s go=>by
  obtain ⟨vs,h1,h2⟩:=h th' mu' H' e s go
  exact ⟨vs,h1,by rw [h2.len];exact Al _⟩
theorem Td {a:Addr}{ds:List D}{vs:List V}(so:StoOk K th mu H)(hz:ds.length≤sizeLine)(h:SqT K.K H a vs)(r:RepL K th H ds vs):R4 K (Itt K.K a) th mu H ds none where
 sz:=hz
 go:=λth' mu' H' e s go i d ed=>by
  have h1:=e.sqT so.out h
  obtain ⟨v,ev,rv⟩:=(r.ext e so.out).get ed
  refine ⟨⟨vs,v,h1,ev⟩,λx H2 y=>?_⟩
  obtain ⟨rfl,y⟩:=y
  have ex:=y vs h1
  rw [ev] at ex
  cases ex
  exact ⟨.refl _ _,s,rv⟩
 stop:=λth' mu' H' e s go=>⟨vs,e.sqT so.out h,by rw [r.len];exact Al _⟩
theorem PB {x:Str}{c:Nat}(ok:PyData.strOk x=true)(h:c∈x.cps.toList):Rep K th H (.str ⟨#[c]⟩) (.str ⟨#[c]⟩):=by
 unfold Rep
 refine ⟨rfl,by show 1≤sizeLine;decide,?_⟩
 unfold PyData.strOk at ok ⊢
 rw [← Array.all_toList] at ok ⊢
 simpa using Ao.mp ok c h
theorem UA {x:Str}(hz:x.length≤sizeLine)(ok:PyData.strOk x=true):R4 K (Its x) th mu H (chars x) none where
 sz:=by unfold chars;rw [Af,Array.length_toList];exact hz
 go:=λth' mu' H' e s go i d ed=>by
  unfold chars at ed
  rw [Av] at ed
  cases q:x.cps.toList[i]? with
  | none=>rw [q] at ed;cases ed
  | some c =>
   rw [q] at ed
   have hd:D.str ⟨#[c]⟩=d:=by simpa using ed
   subst hd
   have hlt:=(Ah.mp q).1
   refine ⟨by show i<x.cps.size;simpa using hlt,λv H2 y=>?_⟩
   obtain ⟨rfl,c',hc',rfl⟩:=y
   have:c'=c:=by
    rw [← AA,q] at hc'
    exact (AN hc').symm
   subst this
   exact ⟨.refl _ _,s,PB ok (Ap q)⟩
 stop:=λth' mu' H' e s go=>by show (chars x).length=x.cps.size;unfold chars;simp
theorem CI {tg e:Expr}{m:Ex}(h:SV X e m):SVI X tg e (DJ m):=⟨by
 intro pins s st H R I q
 obtain ⟨th,mu,ro,so,en,t⟩:=q
 obtain ⟨p,mu',e1,q1⟩:=id t
 obtain ⟨d,m1,e2,e3⟩:=Ga e1
 have t':=t.bindE
 cases d with
 | tup ds =>
  refine Y2 h.r pins s st H R I ⟨th,mu,ro,so,en,t'.mono λd th1 mu1 H1 x1 s1 t1 v rv=>?_⟩
  obtain ⟨eq,t1⟩:=t1
  rw [e2] at eq
  cases eq
  unfold Rep at rv
  obtain ⟨a,vs,rfl,hs,rl,hz⟩:=rv
  exact ⟨a,rfl,⟨vs,hs⟩,t1.ret s1 _ (Td s1 hz hs rl)⟩
 | lst ds =>
  refine RB h.r pins s st H R I ⟨th,mu,ro,so,en,t'.mono λd th1 mu1 H1 x1 s1 t1 v rv=>?_⟩
  obtain ⟨eq,t1⟩:=t1
  rw [e2] at eq
  cases eq
  unfold Rep at rv
  obtain ⟨a,vs,rfl,hs,rl,hz⟩:=rv
  exact ⟨a,rfl,⟨vs,hs.sq⟩,t1.ret s1 _ (M3 hz λth' mu' H' e s' _=>⟨vs,(e.fz hs).sq,rl.ext e s1.out⟩)⟩
 | str x =>
  refine Yx h.r pins s st H R I ⟨th,mu,ro,so,en,t'.mono λd th1 mu1 H1 x1 s1 t1 v rv=>?_⟩
  obtain ⟨eq,t1⟩:=t1
  rw [e2] at eq
  cases eq
  unfold Rep at rv
  obtain ⟨rfl,hz,ok⟩:=rv
  exact ⟨x,rfl,t1.ret s1 _ (UA hz ok)⟩
 | ref k =>
  refine RB h.r pins s st H R I ⟨th,mu,ro,so,en,t'.mono λd th1 mu1 H1 x1 s1 t1 v rv=>?_⟩
  obtain ⟨eq,t1⟩:=t1
  rw [e2] at eq
  cases eq
  unfold Rep at rv
  obtain ⟨a,rfl,ha⟩:=rv
  dsimp only at t1
  cases em:m1[k]? with
  | none=>rw [em] at t1;exact t1.no.elim
  | some o =>
   cases o with
   | dct _ _=>rw [em] at t1;exact t1.no.elim
   | lst ds =>
    rw [em] at t1
    obtain ⟨vs,h1,h2,hz⟩:=s1.at' k a _ ha em
    refine ⟨a,rfl,⟨vs,.inl (.inl h1)⟩,t1.ret s1 _ (M3 hz λth' mu' H' e s' go=>?_)⟩
    have em':mu'[k]? = some (.lst ds):=by rw [← em];exact (show m1[k]? = mu'[k]? from go).symm
    obtain ⟨vs',h1',h2',_⟩:=s'.at' k a _ (e.at ha) em'
    exact ⟨vs',.inl (.inl h1'),h2'⟩
 | non=>cases e3
 | bl b=>cases e3
 | int b=>cases e3
 | dct _ _=>cases e3
 | set _=>cases e3⟩
end
mutual
noncomputable def toPy:D->PyData
 | .non=>.none
 | .bl b=>.bool b
 | .int i=>.int i
 | .str x=>.str x
 | .tup ds=>.tuple (CT ds)
 | .lst ds=>.list (CT ds)
 | .dct _ _=>.none
 | .set _=>.none
 | .ref _=>.none
noncomputable def CT:List D->List PyData
 | []=>[]
 | d::ds=>toPy d::CT ds
end
mutual
noncomputable def Dc:D->Bool
 | .tup ds=>EB ds
 | .lst ds=>EB ds
 | .dct _ _=>false
 | .set _=>false
 | .ref _=>false
 | _=>true
noncomputable def EB:List D->Bool
 | []=>true
 | d::ds=>Dc d&&EB ds
end
noncomputable def seen (mu:Sto):D->D
 | .ref k=>match mu[k]? with
  | some (.lst ds)=>.lst ds
  | _=>.ref k
 | d=>d
def eqB (mu:Sto)(d e:D):Option Bool:=if Dc (seen mu d)&&Dc (seen mu e)&&decide (min (toPy (seen mu d)).depth (toPy (seen mu e)).depth≤60) then some (PyData.eqv (toPy (seen mu d)) (toPy (seen mu e))) else none
def eqD (d e:D)(mu:Sto):Rs D:=(eqB mu d e).map λb=>(.bl b,mu)
def neD (d e:D)(mu:Sto):Rs D:=(eqB mu d e).map λb=>(.bl (!b),mu)
section
variable {X:Cx} {K:Zc} {th:List Addr} {mu:Sto} {H:Hp}
mutual
theorem FI {pins:List (Addr×Obj)}{st:L2.St}{s:Shared}(I:L2.Inv X pins st H s):∀ (d:D) (v:V) (u:Value),Dc d=true->Rep X.z th H d v->RelV v u->∃ as,Reads s.heap u (toPy d) as∧(toPy d).canLay0=true
 | .non,_,_,_,r,q=>by cases (show _=_ from r);cases q;exact ⟨_,.none,rfl⟩
 | .bl b,_,_,_,r,q=>by cases (show _=_ from r);cases q;exact ⟨_,.bool b,rfl⟩
 | .int i,_,_,_,r,q=>by cases (show _=_ from r);obtain ⟨t,rfl⟩:=q;exact ⟨_,.int i t,rfl⟩
 | .str x,_,_,_,r,q=>by obtain ⟨rfl,hz,ok⟩:=(show _∧_∧_ from r);obtain ⟨t,rfl⟩:=q;exact ⟨_,.str x t,ok⟩
 | .tup ds,_,_,p,r,q=>by
  unfold Rep at r
  obtain ⟨a,vs,rfl,hs,rl,_⟩:=r
  cases q
  obtain ⟨its,rv,⟨o,h1,h2,n,h3⟩,_⟩:=I.tuple hs
  unfold Dc at p
  obtain ⟨as,h4,h5⟩:=Hj I ds vs its p rl rv
  exact ⟨as,by unfold toPy;exact .tuple h1 h2 h3 (by simpa using h4),by unfold toPy PyData.canLay0;exact h5⟩
 | .lst ds,_,_,p,r,q=>by
  unfold Rep at r
  obtain ⟨a,vs,rfl,hs,rl,_⟩:=r
  cases q
  obtain ⟨its,rv,⟨o,n,h1,h2,_,h3⟩,_⟩:=I.list hs.sq
  unfold Dc at p
  obtain ⟨as,h4,h5⟩:=Hj I ds vs its p rl rv
  exact ⟨_,by unfold toPy;exact .list h1 h2 h3 (by simpa using h4),by unfold toPy PyData.canLay0;exact h5⟩
 | .dct _ _,_,_,p,_,_=>by cases p
 | .set _,_,_,p,_,_=>by cases p
 | .ref k,_,_,p,_,_=>by cases p
theorem Hj {pins:List (Addr×Obj)}{st:L2.St}{s:Shared}(I:L2.Inv X pins st H s):∀ (ds:List D) (vs:List V) (us:List Value),EB ds=true->RepL X.z th H ds vs->Vals vs us->∃ as,ReadsAll s.heap us (CT ds) as∧PyData.canLayAll0 (CT ds)=true
 | [],_,_,_,r,q=>by cases r.inv0;cases q;exact ⟨_,.nil,rfl⟩
 | d::ds,_,_,p,r,q=>by
  obtain ⟨v,r',rfl,r1,r2⟩:=r.inv
  unfold EB at p
  rw [Ab] at p
  cases q with
  | cons q1 q2 =>
   obtain ⟨as,a1,a2⟩:=FI I d v _ p.1 r1 q1
   obtain ⟨bs,b1,b2⟩:=Hj I ds r' _ p.2 r2 q2
   exact ⟨_,.cons a1 b1,by unfold CT PyData.canLayAll0;rw [a2,b2];rfl⟩
end
theorem F5 {pins:List (Addr×Obj)}{st:L2.St}{s:Shared}(I:L2.Inv X pins st H s)(so:StoOk X.z th mu H){d:D}{v:V}{u:Value}(p:Dc (seen mu d)=true)(r:Rep X.z th H d v)(q:RelV v u):∃ as,Reads s.heap u (toPy (seen mu d)) as∧(toPy (seen mu d)).canLay0=true:=by
 cases d with
 | ref k =>
  unfold seen at p ⊢
  dsimp only at p ⊢
  cases e:mu[k]? with
  | none=>rw [e] at p;cases p
  | some o =>
   cases o with
   | dct _ _=>rw [e] at p;cases p
   | lst ds =>
    rw [e] at p
    dsimp only at p ⊢
    unfold Rep at r
    obtain ⟨a,rfl,ha⟩:=r
    obtain ⟨vs,h1,rl,hz⟩:=so.at' k a _ ha e
    cases q
    obtain ⟨its,rv,⟨o,n,h2,h3,_,h4⟩,_⟩:=I.list (.inl (.inl h1))
    unfold Dc at p
    obtain ⟨as,h5,h6⟩:=Hj I ds vs its p rl rv
    exact ⟨_,by unfold toPy;exact .list h2 h3 h4 (by simpa using h5),by unfold toPy PyData.canLay0;exact h6⟩
 | _=>exact FI I _ v u p r q
theorem Dr (hu:X.A.units+64<cLine):OpV X (compareOp .Eq) eqD:=by
 intro pins s st H x y v u Q I rx ry h
 obtain ⟨th,mu,d,e,so,r1,r2,t⟩:=h
 unfold eqD eqB at t
 by_cases hc:(Dc (seen mu d)&&Dc (seen mu e)&&decide (min (toPy (seen mu d)).depth (toPy (seen mu e)).depth≤60))=true
 ·rw [if_pos hc] at t
  rw [Ab,Ab,Ad] at hc
  obtain ⟨as,a1,a2⟩:=F5 I so hc.1.1 r1 rx
  obtain ⟨bs,b1,b2⟩:=F5 I so hc.1.2 r2 ry
  exact SeqAt.rcAt_reads a1 b1 a2 b2 (by ext) _ _ _ _ ⟨.bl _,H,I,rfl,t.ret so _ rfl⟩
 ·rw [if_neg hc] at t
  exact t.no.elim
theorem JO (hu:X.A.units+64<cLine):OpV X (compareOp .NotEq) neD:=by
 intro pins s st H x y v u Q I rx ry h
 obtain ⟨th,mu,d,e,so,r1,r2,t⟩:=h
 unfold neD eqB at t
 by_cases hc:(Dc (seen mu d)&&Dc (seen mu e)&&decide (min (toPy (seen mu d)).depth (toPy (seen mu e)).depth≤60))=true
 ·rw [if_pos hc] at t
  rw [Ab,Ab,Ad] at hc
  obtain ⟨as,a1,a2⟩:=F5 I so hc.1.1 r1 rx
  obtain ⟨bs,b1,b2⟩:=F5 I so hc.1.2 r2 ry
  exact SeqAt.rcNeAt_reads a1 b1 a2 b2 (by ext) _ _ _ _ ⟨.bl _,H,I,rfl,t.ret so _ rfl⟩
 ·rw [if_neg hc] at t
  exact t.no.elim
def inB (mu:Sto)(d c:D):Option Bool:=match d,seen mu c with
 | .str x,.str y=>some (!(Builtin.Str.occurrences y x 0 y.length 1).isEmpty)
 | d,.tup ds=>if Dc d&&EB ds&&decide (min (PyData.depthAll (CT ds)) (toPy d).depth≤60) then some ((CT ds).any λy=>PyData.eqv y (toPy d)) else none
 | d,.lst ds=>if Dc d&&EB ds&&decide (min (PyData.depthAll (CT ds)) (toPy d).depth≤60) then some ((CT ds).any λy=>PyData.eqv y (toPy d)) else none
 | _,_=>none
def inD (d c:D)(mu:Sto):Rs D:=(inB mu d c).map λb=>(.bl b,mu)
def SY (d c:D)(mu:Sto):Rs D:=(inB mu d c).map λb=>(.bl (!b),mu)
theorem OO {d c:D}{b:Bool}(h:inB mu d c=some b):(∃ x y,d=.str x∧c=.str y∧b = !(Builtin.Str.occurrences y x 0 y.length 1).isEmpty) ∨
  ∃ ds,(seen mu c=.tup ds∨seen mu c=.lst ds)∧Dc d=true∧EB ds=true∧min (PyData.depthAll (CT ds)) (toPy d).depth≤60∧b=(CT ds).any λy=>PyData.eqv y (toPy d):=by
 have fin:∀ ds,(if Dc d&&EB ds&&decide (min (PyData.depthAll (CT ds)) (toPy d).depth≤60) then some ((CT ds).any λy=>PyData.eqv y (toPy d)) else none)=some b->Dc d=true∧EB ds=true∧min (PyData.depthAll (CT ds)) (toPy d).depth≤60∧b=(CT ds).any λy=>PyData.eqv y (toPy d):=λds e=>by
  by_cases hc:(Dc d&&EB ds&&decide (min (PyData.depthAll (CT ds)) (toPy d).depth≤60))=true
  ·rw [if_pos hc] at e
   rw [Ab,Ab,Ad] at hc
   exact ⟨hc.1.1,hc.1.2,hc.2,(AN e).symm⟩
  ·rw [if_neg hc] at e;cases e
 unfold inB at h
 cases hs:seen mu c with
 | tup ds=>rw [hs] at h;cases d<;>exact .inr ⟨ds,.inl rfl,fin ds h⟩
 | lst ds=>rw [hs] at h;cases d<;>exact .inr ⟨ds,.inr rfl,fin ds h⟩
 | str y =>
  rw [hs] at h
  cases d with
  | str x =>
   have:c=.str y:=by
    cases c with
    | ref k =>
     unfold seen at hs
     dsimp only at hs
     cases e:mu[k]? with
     | none=>rw [e] at hs;cases hs
     | some o=>cases o<;>(rw [e] at hs;cases hs)
    | _=>exact hs
   exact .inl ⟨x,y,rfl,this,(AN h).symm⟩
  | _=>cases h
 | non=>rw [hs] at h;cases d<;>cases h
 | bl _=>rw [hs] at h;cases d<;>cases h
 | int _=>rw [hs] at h;cases d<;>cases h
 | dct _ _=>rw [hs] at h;cases d<;>cases h
 | set _=>rw [hs] at h;cases d<;>cases h
 | ref _=>rw [hs] at h;cases d<;>cases h
theorem X0 (hu:X.A.units+64<cLine):OpV X (compareOp .In) inD:=by
 intro pins s st H x y v u Q I rx ry h
 obtain ⟨th,mu,d,c,so,r1,r2,t⟩:=h
 unfold inD at t
 cases e:inB mu d c with
 | none=>rw [e] at t;exact t.no.elim
 | some b =>
  rw [e] at t
  have q:Q (.bl b) H:=t.ret so _ rfl
  rcases OO e with ⟨x',y',rfl,rfl,hb⟩|⟨ds,hs,p1,p2,p3,hb⟩
  ·obtain ⟨rfl,_⟩:=(show _∧_ from r1)
   obtain ⟨rfl,_⟩:=(show _∧_ from r2)
   exact Sr pins s st H _ _ v u Q I rx ry ⟨x',y',rfl,rfl,by rw [← hb];exact q⟩
  ·obtain ⟨as,a1,a2⟩:=FI I d x v p1 r1 rx
   have pc:Dc (seen mu c)=true:=by rcases hs with e|e<;>(rw [e];unfold Dc;exact p2)
   obtain ⟨bs,b1,b2⟩:=F5 I so pc r2 ry
   rw [hb] at q
   rcases hs with e|e
   ·rw [e] at b1 b2
    unfold toPy at b1 b2
    exact SeqAt.in_tuple_reads b1 a1 b2 a2 (by ext) ⟨.bl _,H,I,rfl,q⟩
   ·rw [e] at b1 b2
    unfold toPy at b1 b2
    exact SeqAt.in_list_reads b1 a1 b2 a2 (by ext) ⟨.bl _,H,I,rfl,q⟩
theorem Wc (hu:X.A.units+64<cLine):OpV X (compareOp .NotIn) SY:=by
 intro pins s st H x y v u Q I rx ry h
 obtain ⟨th,mu,d,c,so,r1,r2,t⟩:=h
 unfold SY at t
 cases e:inB mu d c with
 | none=>rw [e] at t;exact t.no.elim
 | some b =>
  rw [e] at t
  have q:Q (.bl (!b)) H:=t.ret so _ rfl
  rcases OO e with ⟨x',y',rfl,rfl,hb⟩|⟨ds,hs,p1,p2,p3,hb⟩
  ·obtain ⟨rfl,_⟩:=(show _∧_ from r1)
   obtain ⟨rfl,_⟩:=(show _∧_ from r2)
   exact Og pins s st H _ _ v u Q I rx ry ⟨x',y',rfl,rfl,by rw [← hb];exact q⟩
  ·obtain ⟨as,a1,a2⟩:=FI I d x v p1 r1 rx
   have pc:Dc (seen mu c)=true:=by rcases hs with e|e<;>(rw [e];unfold Dc;exact p2)
   obtain ⟨bs,b1,b2⟩:=F5 I so pc r2 ry
   rw [hb] at q
   rcases hs with e|e
   ·rw [e] at b1 b2
    unfold toPy at b1 b2
    exact SeqAt.notIn_tuple_reads b1 a1 b2 a2 (by ext) ⟨.bl _,H,I,rfl,q⟩
   ·rw [e] at b1 b2
    unfold toPy at b1 b2
    exact SeqAt.notIn_list_reads b1 a1 b2 a2 (by ext) ⟨.bl _,H,I,rfl,q⟩
end
section
variable {X:Cx} {K:Zc} {th:List Addr} {mu:Sto} {H:Hp}
noncomputable def Mj (d e:D)(mu:Sto):Rs D:=match d,e with
 | .int i,.int j=>some (.int (i-j),mu)
 | _,_=>none
theorem GO:OpV X (binaryOp .Sub) Mj:=by
 intro pins s st H x y v u Q I rx ry h
 obtain ⟨th,mu,d,e,so,r1,r2,t⟩:=h
 cases d with
 | int i =>
  cases e with
  | int j=>exact Zi pins s st H x y v u Q I rx ry ⟨i,j,r1,r2,t.ret so _ rfl⟩
  | _=>exact t.no.elim
 | _=>exact t.no.elim
noncomputable instance (i j:Int):Decidable (CMul i j):=by unfold CMul;infer_instance
noncomputable instance (i j:Int):Decidable (Ov i j):=by unfold Ov;infer_instance
noncomputable instance (i j:Int):Decidable (S4 i j):=by unfold S4;infer_instance
theorem R8 {x y:Str}(hx:PyData.strOk x=true)(hy:PyData.strOk y=true):PyData.strOk (x++y)=true:=by
 unfold PyData.strOk at *
 show (Array.all (x.cps++y.cps) _)=true
 rw [← Array.all_toList] at *
 rw [Array.toList_append,List.all_append,hx,hy]
 rfl
theorem len_app (x y:Str):(x++y).length=x.length+y.length:=by
 show (x.cps++y.cps).size=_
 rw [Array.size_append]
 rfl
noncomputable def HA (d e:D)(mu:Sto):Rs D:=match d,e with
 | .int i,.int j=>if 0<j then some (.int (i % j),mu) else none
 | _,_=>none
theorem GK:OpV X (binaryOp .Mod) HA:=by
 intro pins s st H x y v u Q I rx ry h
 obtain ⟨th,mu,d,e,so,r1,r2,t⟩:=h
 cases d with
 | int i =>
  cases e with
  | int j =>
   unfold HA at t;dsimp only at t
   by_cases c:0<j
   ·rw [if_pos c] at t;exact Ys pins s st H x y v u Q I rx ry ⟨i,j,r1,r2,c,t.ret so _ rfl⟩
   ·rw [if_neg c] at t;exact t.no.elim
  | _=>exact t.no.elim
 | _=>exact t.no.elim
def MA (d e:D)(mu:Sto):Rs D:=match d,e with
 | .int i,.int j=>if Ov i j then some (.int (i / j),mu) else none
 | _,_=>none
theorem MB:OpV X (binaryOp .FloorDiv) MA:=by
 intro pins s st H x y v u Q I rx ry h
 obtain ⟨th,mu,d,e,so,r1,r2,t⟩:=h
 cases d with
 | int i =>
  cases e with
  | int j =>
   unfold MA at t;dsimp only at t
   by_cases c:Ov i j
   ·rw [if_pos c] at t;exact WO pins s st H x y v u Q I rx ry ⟨i,j,r1,r2,c,t.ret so _ rfl⟩
   ·rw [if_neg c] at t;exact t.no.elim
  | _=>exact t.no.elim
 | _=>exact t.no.elim
def Tp (d e:D)(mu:Sto):Rs D:=match d,e with
 | .int i,.int j=>if S4 i j then some (.int (i ^ j.toNat),mu) else none
 | _,_=>none
theorem Xe:OpV X (binaryOp .Pow) Tp:=by
 intro pins s st H x y v u Q I rx ry h
 obtain ⟨th,mu,d,e,so,r1,r2,t⟩:=h
 cases d with
 | int i =>
  cases e with
  | int j =>
   unfold Tp at t;dsimp only at t
   by_cases c:S4 i j
   ·rw [if_pos c] at t;exact Yk pins s st H x y v u Q I rx ry ⟨i,j,r1,r2,c,t.ret so _ rfl⟩
   ·rw [if_neg c] at t;exact t.no.elim
  | _=>exact t.no.elim
 | _=>exact t.no.elim
noncomputable instance (z:Str) (n:Int):Decidable (MulOk z n):=by unfold MulOk;infer_instance
def GF (d e:D)(mu:Sto):Rs D:=match d,e with
 | .int i,.int j=>if CMul i j then some (.int (i*j),mu) else none
 | .str z,.int n=>if MulOk z n∧(Txt.mul z n).length≤sizeLine∧PyData.strOk (Txt.mul z n)=true then some (.str (Txt.mul z n),mu) else none
 | _,_=>none
theorem E5:OpV X (binaryOp .Mult) GF:=by
 intro pins s st H x y v u Q I rx ry h
 obtain ⟨th,mu,d,e,so,r1,r2,t⟩:=h
 cases d with
 | int i =>
  cases e with
  | int j =>
   unfold GF at t;dsimp only at t
   by_cases c:CMul i j
   ·rw [if_pos c] at t;exact Zo pins s st H x y v u Q I rx ry ⟨i,j,r1,r2,c,t.ret so _ rfl⟩
   ·rw [if_neg c] at t;exact t.no.elim
  | _=>exact t.no.elim
 | str z =>
  cases e with
  | int j =>
   unfold GF at t;dsimp only at t
   by_cases c:MulOk z j∧(Txt.mul z j).length≤sizeLine∧PyData.strOk (Txt.mul z j)=true
   ·rw [if_pos c] at t;exact P4 pins s st H x y v u Q I rx ry ⟨z,j,r1.1,r2,c.1,t.ret so _ ⟨rfl,c.2⟩⟩
   ·rw [if_neg c] at t;exact t.no.elim
  | _=>exact t.no.elim
 | _=>exact t.no.elim
theorem T9 {a b:Addr}{ys:List V}{pins:List (Addr×Obj)}{st:L2.St}{s:Shared}{Q:VK}(I:L2.Inv X pins st H s)(ha:SqT X.K H a [])(hb:SqT X.K H b ys)(q:Q (.ref b) H):wpAny (model X.prog X.w) X.A (binaryOp .Add (.ref a) (.ref b)) (EP X pins st Q) X.xe s:=by
 obtain ⟨its,r1,p1,_⟩:=I.tuple ha
 obtain ⟨its2,r2,p2,_⟩:=I.tuple hb
 have e:its=[]:=by cases r1;rfl
 subst e
 obtain ⟨⟨cls,dd,data,sl⟩,ho,hc,n,hd⟩:=id p1
 obtain ⟨⟨cls2,dd2,data2,sl2⟩,ho2,hc2,n2,hd2⟩:=id p2
 simp only at hc hd hc2 hd2
 subst hc hd hc2 hd2
 exact concat_meets ⟨_,ho,rfl⟩ ⟨_,ho2,rfl⟩ noFill_tuple_add seq_tuple_add PySem.F.slot_tuple_add PySem.F.entry_tuple_add (PySem.F.args_tuple_add_2 _ _)
   (tuple_addW0 a b _ its2.toArray n n2 dd dd2 sl sl2 (by simp)) ⟨ho,ho2,⟨.ref b,H,I,rfl,q⟩⟩
theorem WK {a b:Addr}{xs ys:List V}{pins:List (Addr×Obj)}{st:L2.St}{s:Shared}{Q:VK}(I:L2.Inv X pins st H s)(ha:SqL X.K H a xs)(hb:SqL X.K H b ys)(hz:xs.length+ys.length≤sizeLine)(q:∀ p,H p=none->Q (.ref p) (upd H p (.lst (xs++ys)))):wpAny (model X.prog X.w) X.A (binaryOp .Add (.ref a) (.ref b)) (EP X pins st Q) X.xe s:=by
 obtain ⟨its,r1,⟨o1,n1,p1,c1,d1,e1⟩,_⟩:=I.list ha
 obtain ⟨its2,r2,⟨o2,n2,p2,c2,d2,e2⟩,_⟩:=I.list hb
 obtain ⟨cls,dd,data,sl⟩:=o1
 obtain ⟨cls2,dd2,data2,sl2⟩:=o2
 simp only at c1 d1 e1 c2 d2 e2
 subst c1 d1 e1 c2 d2 e2
 refine concat_meets ⟨_,p1,rfl⟩ ⟨_,p2,rfl⟩ noFill_list_add seq_list_add PySem.F.slot_list_add PySem.F.entry_list_add (PySem.F.args_list_add_2 _ _)
   (list_addW a b _ its2.toArray n1 n2 _ _ sl sl2 (by rw [An,An,← r1.length,← r2.length];exact hz)) ⟨p1,p2,?_⟩
 refine ⟨.ref s.heap.objs.size,_,I.laid (t':=s.toks) (o:=.lst (xs++ys)) (λb ob q=>Ae _ q) (Al _) ?_,rfl,q _ (I.hok.fresh (Al _))⟩
 exact ⟨by rw [Ai];exact hz,its++its2,0,r1.append r2,by simpa using Aq _ rfl⟩
noncomputable def D8 (mu:Sto):D->Option (List D)
 | .lst ds=>some ds
 | .ref k=>match mu[k]? with
  | some (.lst ds)=>some ds
  | _=>none
 | _=>none
theorem Fx (so:StoOk K th mu H){d:D}{ds:List D}{v:V}(h:D8 mu d=some ds)(r:Rep K th H d v):∃ a vs,v=.ref a∧SqL K.K H a vs∧RepL K th H ds vs∧ds.length≤sizeLine:=by
 cases d with
 | lst es=>cases h;unfold Rep at r;obtain ⟨a,vs,rfl,h1,h2,h3⟩:=r;exact ⟨a,vs,rfl,h1.sq,h2,h3⟩
 | ref k =>
  unfold D8 at h
  dsimp only at h
  cases e:mu[k]? with
  | none=>rw [e] at h;cases h
  | some o =>
   cases o with
   | dct _ _=>rw [e] at h;cases h
   | lst es =>
    rw [e] at h
    cases h
    unfold Rep at r
    obtain ⟨a,rfl,ha⟩:=r
    obtain ⟨vs,h1,h2,h3⟩:=so.at' k a _ ha e
    exact ⟨a,vs,rfl,.inl (.inl h1),h2,h3⟩
 | _=>cases h
def CH (d e:D)(mu:Sto):Rs D:=match d,e with
 | .int i,.int j=>some (.int (i+j),mu)
 | .str x,.str y=>if x.length+y.length≤sizeLine then some (.str (x++y),mu) else none
 | .tup xs,.tup ys=>if xs.length+ys.length≤sizeLine then some (.tup (xs++ys),mu) else none
 | d,e=>match D8 mu d,D8 mu e with
  | some xs,some ys=>if xs.length+ys.length≤sizeLine then some (.lst (xs++ys),mu) else none
  | _,_=>none
theorem Cz:OpV X (binaryOp .Add) CH:=by
 intro pins s st H x y v u Q I rx ry h
 obtain ⟨th,mu,d,e,so,r1,r2,t⟩:=h
 have lists:∀ (t:Tr X.z th H (match D8 mu d,D8 mu e with
  | some xs,some ys=>if xs.length+ys.length≤sizeLine then some (D.lst (xs++ys),mu) else none
  | _,_=>none) (KV' X.z Q)),wpAny (model X.prog X.w) X.A (binaryOp .Add v u) (EP X pins st Q) X.xe s:=λt=>by
  cases e1:D8 mu d with
  | none=>rw [e1] at t;exact t.no.elim
  | some xs =>
   cases e2:D8 mu e with
   | none=>rw [e1,e2] at t;exact t.no.elim
   | some ys =>
    rw [e1,e2] at t
    dsimp only at t
    by_cases c:xs.length+ys.length≤sizeLine
    ·rw [if_pos c] at t
     obtain ⟨a,vs,rfl,h1,h2,h3⟩:=Fx so e1 r1
     obtain ⟨b,us,rfl,k1,k2,k3⟩:=Fx so e2 r2
     cases rx
     cases ry
     refine WK I h1 k1 (by rw [h2.len,k2.len];exact c) λp hp=>t.retX (.new hp _) (so.new hp _) _ (Rep.newLst so hp (h2.app k2) (by rw [Ai];exact c))
    ·rw [if_neg c] at t;exact t.no.elim
 cases d with
 | int i =>
  cases e with
  | int j=>exact YK pins s st H x y v u Q I rx ry ⟨i,j,r1,r2,t.ret so _ rfl⟩
  | _=>exact lists t
 | str i =>
  cases e with
  | str j =>
   unfold CH at t;dsimp only at t
   by_cases c:i.length+j.length≤sizeLine
   ·rw [if_pos c] at t
    exact QF pins s st H x y v u Q I rx ry ⟨i,j,r1.1,r2.1,c,t.ret so _ ⟨rfl,by rw [len_app];exact c,R8 r1.2.2 r2.2.2⟩⟩
   ·rw [if_neg c] at t;exact t.no.elim
  | _=>exact lists t
 | tup xs =>
  cases e with
  | tup ys =>
   unfold CH at t;dsimp only at t
   by_cases c:xs.length+ys.length≤sizeLine
   ·rw [if_pos c] at t
    unfold Rep at r1 r2
    obtain ⟨a,vs,rfl,h1,h2,h3⟩:=r1
    obtain ⟨b,us,rfl,k1,k2,k3⟩:=r2
    cases rx
    cases ry
    cases xs with
    | nil =>
     cases h2.inv0
     exact T9 I h1 k1 (t.ret so _ (by unfold Rep;exact ⟨b,us,rfl,k1,k2,k3⟩))
    | cons x0 xs0 =>
     obtain ⟨v0,vr,rfl,_,_⟩:=h2.inv
     refine We pins s st H (.ref a) (.ref b) _ _ Q I rfl rfl ⟨a,b,v0::vr,us,rfl,rfl,h1,k1,by simp,by rw [h2.len,k2.len];exact c,λhu=>?_,λ_ p hp=>t.retX (.new hp _) (so.new hp _) _ (Rep.newTup so hp (h2.app k2) (by rw [Ai];exact c))⟩
     subst hu
     have:ys=[]:=List.length_eq_zero_iff.mp (by rw [← k2.len];rfl)
     subst this
     rw [BE] at t
     exact t.ret so _ (by unfold Rep;exact ⟨a,_,rfl,h1,h2,h3⟩)
   ·rw [if_neg c] at t;exact t.no.elim
  | _=>exact lists t
 | _=>exact lists t
noncomputable def Uk (f:Int->Int->Bool)(g:Str->Str->Bool)(d e:D)(mu:Sto):Rs D:=match d,e with
 | .int i,.int j=>some (.bl (f i j),mu)
 | .str i,.str j=>some (.bl (g i j),mu)
 | _,_=>none
def leD:=Uk (λi j=>decide (i≤j)) λi j=>!decide (j.cps.toList<i.cps.toList)
def gtD:=Uk (λi j=>decide (j<i)) λi j=>decide (j.cps.toList<i.cps.toList)
def geD:=Uk (λi j=>decide (j≤i)) λi j=>!decide (i.cps.toList<j.cps.toList)
theorem NT {op:CmpOp}{f:Int->Int->Bool}{g:Str->Str->Bool}(h1:OpR X (compareOp op) (rI0 λi j=>.bl (f i j)))
  (h2:∀ (i j:Str) (t t':Tok) (s:Shared) (Q:Value->Shared->Prop),Q (.bool (g i j)) s->wpAny (model X.prog X.w) X.A (compareOp op (.str i t) (.str j t')) Q X.xe s):OpV X (compareOp op) (Uk f g):=by
 intro pins s st H x y v u Q I rx ry h
 obtain ⟨th,mu,d,e,so,r1,r2,t⟩:=h
 cases d with
 | int i =>
  cases e with
  | int j=>exact h1 pins s st H x y v u Q I rx ry ⟨i,j,r1,r2,t.ret so _ rfl⟩
  | _=>exact t.no.elim
 | str i =>
  cases e with
  | str j =>
   obtain ⟨rfl,_⟩:=(show _∧_ from r1)
   obtain ⟨rfl,_⟩:=(show _∧_ from r2)
   obtain ⟨t1,rfl⟩:=rx
   obtain ⟨t2,rfl⟩:=ry
   exact h2 i j t1 t2 s _ ⟨.bl _,H,I,rfl,t.ret so _ rfl⟩
  | _=>exact t.no.elim
 | _=>exact t.no.elim
theorem GB:OpV X (compareOp .LtE) leD:=NT AaD λi j t t' s Q h=>PySem.P.le_str h
theorem Oa:OpV X (compareOp .Gt) gtD:=NT Aaz λi j t t' s Q h=>PySem.P.gt_str h
theorem XY:OpV X (compareOp .GtE) geD:=NT ZV λi j t t' s Q h=>PySem.P.ge_str h
noncomputable def isB:D->D->Option Bool
 | .non,.non=>some true
 | .bl a,.bl b=>some (a==b)
 | .non,.bl _=>none
 | .ref _,.non=>some false
 | .tup _,.non=>some false
 | .lst _,.non=>some false
 | .str _,.non=>some false
 | .int _,.non=>some false
 | .bl _,.non=>some false
 | .dct _ _,.non=>some false
 | .set _,.non=>some false
 | _,_=>none
def isD (d e:D)(mu:Sto):Rs D:=(isB d e).map λb=>(.bl b,mu)
def Sh (d e:D)(mu:Sto):Rs D:=(isB d e).map λb=>(.bl (!b),mu)
theorem JT:OpV X (compareOp .Is) isD:=by
 intro pins s st H x y v u Q I rx ry h
 obtain ⟨th,mu,d,e,so,r1,r2,t⟩:=h
 cases e with
 | non =>
  have go:∀ b,isB d .non=some b->(b=decide (x=.non))->wpAny (model X.prog X.w) X.A (compareOp .Is v u) (EP X pins st Q) X.xe s:=λb eb ex=>by
   unfold isD at t
   rw [eb] at t
   have q:Q (.bl b) H:=t.ret so _ rfl
   exact YB pins s st H x y v u Q I rx ry ⟨r2,by rw [← ex];exact q⟩
  cases d with
  | non=>exact go _ rfl (by rw [show x=_ from r1];rfl)
  | bl b=>exact go _ rfl (by rw [show x=_ from r1];rfl)
  | int b=>exact go _ rfl (by rw [show x=_ from r1];rfl)
  | str b=>exact go _ rfl (by rw [r1.1];rfl)
  | tup b=>exact go _ rfl (by unfold Rep at r1;obtain ⟨a,vs,rfl,_⟩:=r1;rfl)
  | lst b=>exact go _ rfl (by unfold Rep at r1;obtain ⟨a,vs,rfl,_⟩:=r1;rfl)
  | dct _ _=>exact go _ rfl (by unfold Rep at r1;obtain ⟨a,xs,rfl,_⟩:=r1;rfl)
  | set _=>exact go _ rfl (by unfold Rep at r1;obtain ⟨a,us,vs,rfl,_⟩:=r1;rfl)
  | ref b=>exact go _ rfl (by unfold Rep at r1;obtain ⟨a,rfl,_⟩:=r1;rfl)
 | bl b =>
  cases d with
  | bl a=>exact U5 pins s st H x y v u Q I rx ry ⟨a,b,r1,r2,t.ret so _ rfl⟩
  | _=>exact t.no.elim
 | _=>cases d<;>exact t.no.elim
theorem Wm:OpV X (compareOp .IsNot) Sh:=by
 intro pins s st H x y v u Q I rx ry h
 obtain ⟨th,mu,d,e,so,r1,r2,t⟩:=h
 cases e with
 | non =>
  have go:∀ b,isB d .non=some b->(b=decide (x=.non))->wpAny (model X.prog X.w) X.A (compareOp .IsNot v u) (EP X pins st Q) X.xe s:=λb eb ex=>by
   unfold Sh at t
   rw [eb] at t
   have q:Q (.bl (!b)) H:=t.ret so _ rfl
   exact V7 pins s st H x y v u Q I rx ry ⟨r2,by rw [← ex];exact q⟩
  cases d with
  | non=>exact go _ rfl (by rw [show x=_ from r1];rfl)
  | bl b=>exact go _ rfl (by rw [show x=_ from r1];rfl)
  | int b=>exact go _ rfl (by rw [show x=_ from r1];rfl)
  | str b=>exact go _ rfl (by rw [r1.1];rfl)
  | tup b=>exact go _ rfl (by unfold Rep at r1;obtain ⟨a,vs,rfl,_⟩:=r1;rfl)
  | lst b=>exact go _ rfl (by unfold Rep at r1;obtain ⟨a,vs,rfl,_⟩:=r1;rfl)
  | dct _ _=>exact go _ rfl (by unfold Rep at r1;obtain ⟨a,xs,rfl,_⟩:=r1;rfl)
  | set _=>exact go _ rfl (by unfold Rep at r1;obtain ⟨a,us,vs,rfl,_⟩:=r1;rfl)
  | ref b=>exact go _ rfl (by unfold Rep at r1;obtain ⟨a,rfl,_⟩:=r1;rfl)
 | bl b =>
  cases d with
  | bl a=>exact PL pins s st H x y v u Q I rx ry ⟨a,b,r1,r2,t.ret so _ rfl⟩
  | _=>exact t.no.elim
 | _=>cases d<;>exact t.no.elim
def GG (g g':D->D->Sto->Rs D)(a b c:Ex):Ex:=λro mu=>bM (a ro mu) λx m1=>bM (b ro m1) λy m2=>bM (g x y m2) λz m3=>match asB z with
 | none=>none
 | some k=>if k=true then bM (c ro m3) λw' m4=>g' y w' m4 else some (.bl false,m3)
theorem M1 {g g':D->D->Sto->Rs D}{a b c:Ex}{st:L2.St}{Q:VK}(h:rdE K (GG g g' a b c) st H Q):Qb (r2 K g) (r2 K g') (rdE K a) (rdE K b) (rdE K c) st H Q:=by
 obtain ⟨th,mu,ro,so,en,t⟩:=h
 refine ⟨th,mu,ro,so,en,t.bind.mono λx th1 mu1 H1 e1 s1 t1 v rv=>?_⟩
 refine ⟨th1,mu1,ro,s1,en.ext e1 so.out,t1.bind.mono λy th2 mu2 H2 e2 s2 t2 u ru=>?_⟩
 refine ⟨th2,mu2,x,y,s2,rv.ext e2 s1.out,ru,t2.bind.mono λz th3 mu3 H3 e3 s3 t3 w rw'=>?_⟩
 cases e:asB z with
 | none=>rw [e] at t3;exact t3.no.elim
 | some k =>
  rw [e] at t3
  refine ⟨k,LH e rw',?_⟩
  cases k with
  | false=>exact t3.ret s3 _ rfl
  | true =>
   exact ⟨th3,mu3,ro,s3,(en.ext e1 so.out).ext (e2.trans e3) s1.out,Tr.mono (Tr.bind t3) λw' th4 mu4 H4 e4 s4 t4 z' rz=>⟨th4,mu4,y,w',s4,(ru.ext e3 s2.out).ext e4 s3.out,rz,t4⟩⟩
theorem Mi {a b c:Expr}{op op':CmpOp}{g g':D->D->Sto->Rs D}{ma mb mc:Ex}{pos:Pos}(ho:OpV X (compareOp op) g)(ho':OpV X (compareOp op') g')(ha:SV X a ma)(hb:SV X b mb)(hc:SV X c mc)
  (hm:lastMarks [op,op'] [b,c]=false:=by with_unfolding_all rfl):SV X (.Compare a [op,op'] [b,c] pos) (GG g g' ma mb mc):=⟨PE.weak (Ta ho ho' ha.r hb.r hc.r hm) λ_ _ _ h=>M1 h⟩
theorem KS {a b c:Expr}{op op':CmpOp}{g g':D->D->Sto->Rs D}{ma mb mc:Ex}{pos:Pos}(ho:OpV X (compareOp op) g)(ho':OpV X (compareOp op') g')(ha:SV X a ma)(hb:SV X b mb)(hc:SV X c mc)
  (hm:lastMarks [op,op'] [b,c]=false:=by with_unfolding_all rfl):SVT X (.Compare a [op,op'] [b,c] pos) (tV (GG g g' ma mb mc)):=⟨PT.weak (UO ho ho' ha.r hb.r hc.r hm) λst H Q h=>M1 (Vd h)⟩
def ixD (d e:D)(mu:Sto):Rs D:=match e with
 | .int i=>match d with
  | .tup ds=>(atI ds i).map λx=>(x,mu)
  | .str z=>(atI z.cps.toList i).map λc=>(.str ⟨#[c]⟩,mu)
  | d=>match D8 mu d with
   | some ds=>(atI ds i).map λx=>(x,mu)
   | none=>none
 | _=>none
theorem RC {ds:List D}{vs:List V}{i:Int}{d:D}(r:RepL K th H ds vs)(h:atI ds i=some d):∃ v,atI vs i=some v∧Rep K th H d v:=by
 unfold atI at h ⊢
 rw [r.len]
 cases e:ixN ds.length i with
 | none=>rw [e] at h;cases h
 | some j =>
  rw [e] at h
  obtain ⟨v,e1,e2⟩:=r.get (show ds[j]? = some d from h)
  exact ⟨v,e1,e2⟩
theorem Wq {α:Type}{xs:List α}{i:Int}{v:α}(h:atI xs i=some v):v∈xs:=by
 obtain ⟨j,_,e,_⟩:=LI h
 exact Ap e
theorem Acj:IxR X (r2 X.z ixD):=by
 intro value slice pins s st H x y v u Q I rx ry h hsub
 obtain ⟨th,mu,d,e,so,r1,r2,t⟩:=h
 cases e with
 | int i =>
  have lists:∀ (t:Tr X.z th H (match D8 mu d with
   | some ds=>(atI ds i).map λx=>(x,mu)
   | none=>none) (KV' X.z Q)),Yn X.K x y H Q:=λt=>by
   cases e1:D8 mu d with
   | none=>rw [e1] at t;exact t.no.elim
   | some ds =>
    rw [e1] at t
    dsimp only at t
    cases e2:atI ds i with
    | none=>rw [e2] at t;exact t.no.elim
    | some x' =>
     rw [e2] at t
     obtain ⟨a,vs,rfl,h1,h2,h3⟩:=Fx so e1 r1
     obtain ⟨v',w1,w2⟩:=RC h2 e2
     exact ⟨a,vs,i,v',rfl,r2,h1,w1,t.ret so _ w2⟩
  refine YV value slice pins s st H x y v u Q I rx ry ?_ hsub
  cases d with
  | tup ds =>
   unfold ixD at t;dsimp only at t
   cases e2:atI ds i with
   | none=>rw [e2] at t;exact t.no.elim
   | some x' =>
    rw [e2] at t
    unfold Rep at r1
    obtain ⟨a,vs,rfl,h1,h2,h3⟩:=r1
    obtain ⟨v',w1,w2⟩:=RC h2 e2
    exact .inr (.inl ⟨a,vs,i,v',rfl,r2,h1,w1,t.ret so _ w2⟩)
  | str z =>
   unfold ixD at t;dsimp only at t
   cases e2:atI z.cps.toList i with
   | none=>rw [e2] at t;exact t.no.elim
   | some c =>
    rw [e2] at t
    exact .inr (.inr ⟨z,i,c,r1.1,r2,r1.2.1,e2,t.ret so _ (PB r1.2.2 (Wq e2))⟩)
  | _=>exact .inl (lists t)
 | _=>exact t.no.elim
abbrev Px:=Ro->Sto->Rs (Option Int)
noncomputable def pNo:Px:=λ_ mu=>some (none,mu)
def En (a:Ex):Px:=λro mu=>bM (a ro mu) λd m1=>match d with
 | .int i=>some (some i,m1)
 | _=>none
def rdP (K:Zc)(m:Px):TO:=λst H Q=>∃ th mu ro,StoOk K th mu H∧EnvOk K th H ro st∧Tr K th H (m ro mu) λo _ _ H'=>Q o H'
structure SVP (X:Cx) (e:Option Expr) (m:Px):Prop where
 r:PO X e (rdP X.z m)
theorem PO.weak {e:Option Expr}{t t':TO}(h:PO X e t)(f:∀ st H Q,t' st H Q->t st H Q):PO X e t':=λpins s st H Q I q=>h pins s st H Q I (f st H Q q)
theorem DT:SVP X none pNo:=⟨PO.weak VX λst H Q h=>by
 obtain ⟨th,mu,ro,so,en,t⟩:=h
 exact t.ret so⟩
theorem DU {e:Expr}{m:Ex}(h:SV X e m):SVP X (some e) (En m):=⟨PO.weak (W2 h.r) λst H Q h=>by
 obtain ⟨th,mu,ro,so,en,t⟩:=h
 refine ⟨th,mu,ro,so,en,t.bind.mono λd th1 mu1 H1 e1 s1 t1 v rv=>?_⟩
 cases d with
 | int i=>exact ⟨i,rv,t1.ret s1⟩
 | _=>exact t1.no.elim⟩
def cutD {α:Type}(xs:List α)(lo hi:Option Int):List α:=(xs.drop (HT.sIx xs.length 0 lo)).take (HT.sIx xs.length xs.length hi-HT.sIx xs.length 0 lo)
theorem RH {ds:List D}{vs:List V}(r:RepL K th H ds vs)(lo hi:Option Int):RepL K th H (cutD ds lo hi) (OD vs lo hi):=by
 unfold cutD OD
 rw [r.len]
 exact (r.drop _).take _
theorem PD {α:Type}(xs:List α)(lo hi:Option Int):(cutD xs lo hi).length≤xs.length:=by
 unfold cutD
 rw [AQ,BH]
 ext
def slD (d:D)(lo hi:Option Int)(mu:Sto):Rs D:=match d with
 | .tup ds=>some (.tup (cutD ds lo hi),mu)
 | .str z=>if PyData.strOk (Txt.slice z lo hi)=true then some (.str (Txt.slice z lo hi),mu) else none
 | d=>match D8 mu d with
  | some ds=>some (.lst (cutD ds lo hi),mu)
  | none=>none
def r3 (K:Zc)(op:D->Option Int->Option Int->Sto->Rs D):V->Option Int->Option Int->Hp->VK->Prop:=λx lo hi H Q=>∃ th mu d,StoOk K th mu H∧Rep K th H d x∧Tr K th H (op d lo hi mu) (KV' K Q)
def eSl (a:Ex)(p q:Px):Ex:=λro mu=>bM (a ro mu) λd m1=>bM (p ro m1) λlo m2=>bM (q ro m2) λhi m3=>slD d lo hi m3
theorem JF {prog:Program}{w:World}{A:Around}{E:Value->Shared->Prop}{s:Shared}{t sl:Addr}{items:Array Value}{vl vu:Value}{lo hi:Option Int}{Q:Value->Shared->Prop}(ht:IsTup s.heap t items)(hs:s.heap.IsSliceOf sl vl vu .none)(pl:IsPart vl lo)(pu:IsPart vu hi)
  (h1:HT.sIx items.size 0 lo=0) (h2:HT.sIx items.size items.size hi=items.size) (h:Q (.ref t) s):wpAny (model prog w) A (getItem (.ref t) (.ref sl)) Q E s:=by
 obtain ⟨os,hos,hcs,hds⟩:=id hs
 have hTs:s.TypeIs (.ref sl) "slice":=⟨os,hos,hcs⟩
 unfold getItem
 try with_reducible refine AI ?_
 first|refine Aa (Ac ?_)|skip
 refine Aa (wpAny_sequenceKey ht.typeIs (by decide) ?_)
 refine Aa (Ba (name:=Str.ofString "__getitem__") ht.typeIs AU
  (AY AU ht.typeIs entry_tuple_getitem ?_ (args_tuple_getitem _ _)))
 show wpAny _ _ (Builtin.Tuple.tupleItemsOf (.ref t) >>= _) _ _ s
 refine Aa (tupleItemsOf_ ht ?_)
 refine Aa (BL hTs ?_)
 rw [if_pos (by decide)]
 refine Aa (HT.Ht hs pl pu ?_)
 rw [h1,h2]
 dsimp only
 rw [if_pos (by simp)]
 unfold Builtin.Tuple.tupleIsExact
 refine Aa (Aa (BL ht.typeIs (Ac ?_)))
 rw [if_pos (by decide)]
 exact Aa (Bo (Ac ⟨_,rfl,Ac h⟩))
theorem AbN:SlR X (r3 X.z slD):=by
 intro pins s st H x v vl vu lo hi sl Q I rx hs pl pu h
 obtain ⟨th,mu,d,so,r,t⟩:=h
 have lists:∀ (t:Tr X.z th H (match D8 mu d with
   | some ds=>some (D.lst (cutD ds lo hi),mu)
   | none=>none) (KV' X.z Q)),ZT X.K x lo hi H Q:=λt=>by
   cases e1:D8 mu d with
   | none=>rw [e1] at t;exact t.no.elim
   | some ds =>
    rw [e1] at t
    obtain ⟨a,vs,rfl,h1,h2,h3⟩:=Fx so e1 r
    exact ⟨a,vs,rfl,h1,λp hp=>t.retX (.new hp _) (so.new hp _) _ (Rep.newLst so hp (RH h2 lo hi) (AL (PD ds lo hi) h3))⟩
 cases d with
 | tup ds =>
  unfold Rep at r
  obtain ⟨a,vs,rfl,h1,h2,h3⟩:=r
  by_cases c:HT.sIx vs.length 0 lo=0∧HT.sIx vs.length vs.length hi=vs.length
  ·cases rx
   obtain ⟨its,rv,ht,hz⟩:=I.tuple h1
   have hlen:its.toArray.size=vs.length:=by rw [An];exact rv.length.symm
   refine ⟨"tuple",_,AU.lookup,ht.typeIs,?_⟩
   refine JF ht hs pl pu (by rw [hlen];exact c.1) (by rw [hlen];exact c.2) ⟨.ref a,H,I,rfl,t.ret so _ ?_⟩
   have e:cutD ds lo hi=ds:=by
    unfold cutD
    rw [← h2.len,c.1,c.2,h2.len]
    simp
   rw [e]
   unfold Rep
   exact ⟨a,vs,rfl,h1,h2,h3⟩
  ·exact ZG pins s st H _ v vl vu lo hi sl Q I rx hs pl pu ⟨a,vs,rfl,h1,c,λp hp=>t.retX (.new hp _) (so.new hp _) _ (Rep.newTup so hp (RH h2 lo hi) (AL (PD ds lo hi) h3))⟩
 | str z =>
  unfold slD at t;dsimp only at t
  by_cases c:PyData.strOk (Txt.slice z lo hi)=true
  ·rw [if_pos c] at t
   exact Zd pins s st H _ v vl vu lo hi sl Q I rx hs pl pu ⟨z,r.1,r.2.1,t.ret so _ ⟨rfl,AL (Txt.slice_le z _ _) r.2.1,c⟩⟩
  ·rw [if_neg c] at t;exact t.no.elim
 | _=>exact VL pins s st H _ v vl vu lo hi sl Q I rx hs pl pu (lists t)
theorem DR {e:Expr}{lo hi:Option Expr}{m:Ex}{p q:Px}{p2 pos:Pos}(he:SV X e m)(hl:SVP X lo p)(hh:SVP X hi q):SV X (.Subscript e (.Slice lo hi none p2) pos) (eSl m p q):=⟨PE.weak (Uy AbN he.r hl.r hh.r) λst H Q h=>by
 obtain ⟨th,mu,ro,so,en,t⟩:=h
 refine ⟨th,mu,ro,so,en,t.bind.mono λd th1 mu1 H1 e1 s1 t1 v rv=>?_⟩
 refine ⟨th1,mu1,ro,s1,en.ext e1 so.out,t1.bind.mono λlo' th2 mu2 H2 e2 s2 t2=>?_⟩
 refine ⟨th2,mu2,ro,s2,(en.ext e1 so.out).ext e2 s1.out,t2.bind.mono λhi' th3 mu3 H3 e3 s3 t3=>?_⟩
 exact ⟨th3,mu3,d,s3,(rv.ext e2 s1.out).ext e3 s2.out,t3⟩⟩
noncomputable def tyN:D->String
 | .non=>"NoneType"|.bl _=>"bool"|.int _=>"int"|.str _=>"str"|.tup _=>"tuple"|.lst _=>"list"|.dct _ _=>"dict"|.set _=>"set"|.ref _=>"list"
def isi (T:String)(d:D):Bool:=tyN d==T||(T=="int"&&tyN d=="bool")
theorem Abr {K:PySem.W.Frag}(T:String)(hT:T="str"∨T="tuple"∨T="int"∨T="bool"∨T="list"∨T="dict")(d:D):PySem.W.kitOne K (.type (tyN d)) (.type T)=some (isi T d):=by
 rcases hT with rfl|rfl|rfl|rfl|rfl|rfl<;>cases d<;>rfl
noncomputable def E3 (mu:Sto):D->Bool
 | .ref k=>match mu[k]? with
  | some (.lst _)=>true
  | _=>false
 | _=>true
theorem KD {mu:Sto}{k:Nat}(h:E3 mu (.ref k)=true):∃ ds,mu[k]? = some (.lst ds):=by
 unfold E3 at h
 dsimp only at h
 split at h
 ·rename_i ds e;exact ⟨ds,e⟩
 ·cases h
def Gf (T:String)(a:Ex):Ex:=λro mu=>bM (a ro mu) λd m1=>if E3 m1 d=true then some (.bl (isi T d),m1) else none
theorem W4 {pins:List (Addr×Obj)}{st:L2.St}{s:Shared}{T:String}{d:D}{x:V}{u:Value}{Q:Value->Shared->Prop}{E:Value->Shared->Prop}(hT:T="str"∨T="tuple"∨T="int"∨T="bool"∨T="list"∨T="dict")(I:L2.Inv X pins st H s)(so:StoOk X.z th mu H)(hr:E3 mu d=true)(r:Rep X.z th H d x)(rx:RelV x u)
  (h:∀ tk,Q (.bool (isi T d)) { s with toks:=tk }):wpAny (model X.prog X.w) X.A (call (.builtin "isinstance") [u,.type T]) Q E s:=by
 have e:=Abr (K:=X.K) T hT d
 have ls:∀ {a:Addr} {vs:List V},Rd H a (.lst vs)->K9 X.K H (.ref a) (.type "list"):=λ{a vs} h=>by
  rcases h with h|⟨o,h⟩
  ·exact .lst h
  ·exact .frz h
 cases d with
 | non=>cases (show x=_ from r);exact Hz I rx .non e h
 | bl b=>cases (show x=_ from r);exact Hz I rx (.bl b) e h
 | int b=>cases (show x=_ from r);exact Hz I rx (.int b) e h
 | str b=>cases r.1;exact Hz I rx (.str b) e h
 | tup ds =>
  unfold Rep at r
  obtain ⟨a,vs,rfl,h1,_⟩:=r
  cases rx
  obtain ⟨its,_,⟨o,g1,g2,_⟩,_⟩:=I.tuple h1
  exact Be PySem.W.kitx_tuple I.kIn ⟨o,g1,g2⟩ e (λz=>nomatch z) h
 | lst ds =>
  unfold Rep at r
  obtain ⟨a,vs,rfl,h1,_⟩:=r
  cases rx
  obtain ⟨its,_,⟨o,n,g1,g2,_⟩,_⟩:=I.list h1.sq
  exact Be PySem.W.kitx_list I.kIn ⟨o,g1,g2⟩ e (λz=>nomatch z) h
 | dct _ _ =>
  unfold Rep at r
  obtain ⟨a,xs,rfl,_,h1,_⟩:=r
  obtain ⟨⟨_,o,es,ep,g1,g2,_⟩,_⟩:=(show ObjOk X.prog X.w H s.heap a (HE a xs) from I.hok a _ h1)
  cases rx
  exact Be PySem.W.kitx_dict I.kIn ⟨o,g1,g2.1⟩ e (λz=>nomatch z) h
 | set _ =>
  unfold Rep at r
  obtain ⟨a,us,vs,rfl,_,h1,_⟩:=r
  obtain ⟨⟨o,es,ep,t,g1,g2,_⟩,_⟩:=(show ObjOk X.prog X.w H s.heap a (Sw X.w a us) from I.hok a _ h1)
  cases rx
  exact Be PySem.W.kitx_set I.kIn ⟨o,g1,g2.1⟩ e (λz=>nomatch z) h
 | ref k =>
  unfold Rep at r
  obtain ⟨a,rfl,h1⟩:=r
  obtain ⟨ds,em⟩:=KD hr
  obtain ⟨vs,h2,_⟩:=so.at' k a _ h1 em
  exact Hz I rx (.lst h2) e h
theorem EM (T:String){x:Str}{a:Expr}{m:Ex}{p p2 pos:Pos}(ha:SV X a m)(h1:X.mg "isinstance"=none)(h2:X.mg x=none)(hb:bootBuiltins x=some (.type T))(hT:T="str"∨T="tuple"∨T="int"∨T="bool"∨T="list"∨T="dict":=by decide)
  (hn:x≠"__name__":=by decide) (hd:(x==("__debug__":Str))=false:=by decide) (hg:Gl X "isinstance":=by rfl) (hg2:Gl X x:=by rfl)
  (hs1:starEach [a,.Name x p2] X.env=(false,eval a X.env)::starEach [.Name x p2] X.env:=by rfl) (hs2:(backTo pos (starEach [.Name x p2] X.env)).any (·.1)=false:=by rfl) (hs3:starEach [.Name x p2] X.env=(false,eval (.Name x p2) X.env)::starEach [] X.env:=by rfl) :
  SV X (.Call (.Name "isinstance" p) [a,.Name x p2] [] pos) (Gf T m):=⟨by
 have hc:Hy X (.builtin "isinstance") (λxs H Q=>∃ th mu d y,StoOk X.z th mu H∧E3 mu d=true∧xs=[y,.ty T]∧Rep X.z th H d y∧Q (.bl (isi T d)) H):=by
  intro pins s st H xs us Q I r h
  obtain ⟨th,mu,d,y,so,hr,rfl,rd,q⟩:=h
  obtain ⟨u,w',rfl,rx,ry⟩:=vals2 r
  cases (show w'=Value.type T from ry)
  exact W4 hT I so hr rd rx λtk=>⟨.bl _,H,I.tok _,rfl,q⟩
 have pe:=OV hc hg h1 boot_isinstance (NS ha.r (NS (W5 (v:=.ty T) hg2 h2 hb rfl hn hd) T6 hs3) hs1) (by decide) (by decide) hs1 hs2 (pos:=pos) (p:=p)
 refine PE.weak pe λst H Q h=>?_
 obtain ⟨th,mu,ro,so,en,t⟩:=h
 refine ⟨th,mu,ro,so,en,t.bind.mono λd th1 mu1 H1 e1 s1 t1 v rv=>?_⟩
 by_cases c:E3 mu1 d=true
 ·rw [if_pos c] at t1
  exact ⟨th1,mu1,d,v,s1,c,rfl,rv,t1.ret s1 _ rfl⟩
 ·rw [if_neg c] at t1;exact t1.no.elim⟩
def ZX (mu:Sto):D->Option Nat
 | .str x=>some x.length
 | .tup ds=>some ds.length
 | .lst ds=>some ds.length
 | .ref k=>(D8 mu (.ref k)).map (·.length)
 | _=>none
def YD:Fn:=λds mu=>match ds with
 | [d]=>(ZX mu d).map λn=>(.int n,mu)
 | _=>none
theorem Ej {xs:List V}{d:D}(r:RepL K th H [d] xs):∃ x,xs=[x]∧Rep K th H d x:=by
 obtain ⟨v,r',rfl,h1,h2⟩:=r.inv
 cases h2.inv0
 exact ⟨v,rfl,h1⟩
theorem Ke {xs:List V}{d e:D}(r:RepL K th H [d,e] xs):∃ x y,xs=[x,y]∧Rep K th H d x∧Rep K th H e y:=by
 obtain ⟨v,r',rfl,h1,h2⟩:=r.inv
 obtain ⟨u,rfl,h3⟩:=Ej h2
 exact ⟨v,u,rfl,h1,h3⟩
theorem RV:CallV X (.builtin "len") YD:=by
 intro pins s st H xs us Q I r h
 obtain ⟨th,mu,ds,so,rd,t⟩:=h
 match ds,t,rd with
 | [d],t,rd =>
  obtain ⟨x,rfl,rx⟩:=Ej rd
  cases d with
  | str z=>exact NN pins s st H _ us Q I r ⟨z,by rw [rx.1],rx.2.1,t.ret so _ rfl⟩
  | tup es =>
   unfold Rep at rx
   obtain ⟨a,vs,rfl,h1,h2,_⟩:=rx
   exact H0 pins s st H _ us Q I r ⟨a,vs,rfl,.inr h1,by rw [h2.len];exact t.ret so _ rfl⟩
  | lst es =>
   unfold Rep at rx
   obtain ⟨a,vs,rfl,h1,h2,_⟩:=rx
   exact H0 pins s st H _ us Q I r ⟨a,vs,rfl,.inl h1.sq,by rw [h2.len];exact t.ret so _ rfl⟩
  | ref k =>
   unfold YD ZX at t
   dsimp only at t
   cases e1:D8 mu (.ref k) with
   | none=>rw [e1] at t;exact t.no.elim
   | some es =>
    rw [e1] at t
    obtain ⟨a,vs,rfl,h1,h2,h3⟩:=Fx so e1 rx
    exact H0 pins s st H _ us Q I r ⟨a,vs,rfl,.inl h1,by rw [h2.len];exact t.ret so _ rfl⟩
  | _=>exact t.no.elim
 | [],t,_=>exact t.no.elim
 | _::_::_,t,_=>exact t.no.elim
noncomputable def Lo:List D->Option (List Bool)
 | []=>some []
 | .bl b::ds=>(Lo ds).map (b::·)
 | _=>none
theorem Nb:∀ {ds:List D} {bs:List Bool} {vs:List V},Lo ds=some bs->RepL K th H ds vs->vs=bs.map V.bl
 | [],_,_,h,r=>by cases h;exact r.inv0
 | d::ds,bs,_,h,r=>by
  obtain ⟨v,r',rfl,h1,h2⟩:=r.inv
  cases d with
  | bl b =>
   unfold Lo at h
   cases e:Lo ds with
   | none=>rw [e] at h;cases h
   | some cs =>
    rw [e] at h
    cases h
    rw [Nb e h2,show v=V.bl b from h1]
    rfl
  | _=>cases h
def quF (f:List Bool->Bool):Fn:=λds mu=>match ds with
 | [d]=>match D8 mu d with
  | some es=>(Lo es).map λbs=>(.bl (f bs),mu)
  | none=>none
 | _=>none
def IC:=quF λbs=>bs.all id
theorem T4 {id:String}{f:List Bool->Bool}(hq:Hy X (.builtin id) (λxs H Q=>∃ (p:Addr) (bs:List Bool),xs=[.ref p]∧SqL X.K H p (bs.map V.bl)∧Q (.bl (f bs)) H)):CallV X (.builtin id) (quF f):=by
 intro pins s st H xs us Q I r h
 obtain ⟨th,mu,ds,so,rd,t⟩:=h
 match ds,t,rd with
 | [d],t,rd =>
  obtain ⟨x,rfl,rx⟩:=Ej rd
  unfold quF at t
  dsimp only at t
  cases e1:D8 mu d with
  | none=>rw [e1] at t;exact t.no.elim
  | some es =>
   rw [e1] at t
   dsimp only at t
   cases e2:Lo es with
   | none=>rw [e2] at t;exact t.no.elim
   | some bs =>
    rw [e2] at t
    obtain ⟨a,vs,rfl,h1,h2,h3⟩:=Fx so e1 rx
    cases Nb e2 h2
    exact hq pins s st H _ us Q I r ⟨a,bs,rfl,h1,t.ret so _ rfl⟩
 | [],t,_=>exact t.no.elim
 | _::_::_,t,_=>exact t.no.elim
theorem Ea (hc:X.calm=true):CallV X (.builtin "all") IC:=T4 (S8 hc)
noncomputable def ints2 (ds:List D):Option (Int×Int):=match ds with
 | [.int i,.int j]=>some (i,j)
 | _=>none
theorem MU {ds:List D}{p:Int×Int}(h:ints2 ds=some p):ds=[.int p.1,.int p.2]:=by
 unfold ints2 at h
 split at h
 ·cases h;rfl
 ·cases h
def OG:Fn:=λds mu=>(ints2 ds).map λp=>(.int (if p.2<p.1 then p.2 else p.1),mu)
def U1:Fn:=λds mu=>(ints2 ds).map λp=>(.int (if p.2 > p.1 then p.2 else p.1),mu)
noncomputable def intOf (ds:List D):Option Int:=match ds with
 | [.int i]=>some i
 | [.bl b]=>some (if b then 1 else 0)
 | _=>none
theorem So {ds:List D}{i:Int}(h:intOf ds=some i):ds=[.int i]∨∃ b,ds=[.bl b]∧i=if b then 1 else 0:=by
 unfold intOf at h
 split at h
 ·cases h;exact .inl rfl
 ·cases h;exact .inr ⟨_,rfl,rfl⟩
 ·cases h
def Uw:Fn:=λds mu=>(intOf ds).map λi=>(.int i,mu)
noncomputable def TX (ds:List D):Option Int:=match ds with
 | [.int i]=>some i
 | _=>none
theorem Vk {ds:List D}{i:Int}(h:TX ds=some i):ds=[.int i]:=by
 unfold TX at h
 split at h
 ·cases h;rfl
 ·cases h
theorem Nu (hc:X.calm=true):CallV X (.builtin "min") OG:=by
 intro pins s st H xs us Q I r h
 obtain ⟨th,mu,ds,so,rd,t⟩:=h
 unfold OG at t
 cases e:ints2 ds with
 | none=>rw [e] at t;exact t.no.elim
 | some p =>
  rw [e] at t
  rw [MU e] at rd
  obtain ⟨x,y,rfl,rx,ry⟩:=Ke rd
  exact S6 hc pins s st H _ us Q I r ⟨p.1,p.2,by rw [show x=_ from rx,show y=_ from ry],t.ret so _ rfl⟩
theorem R9 (hc:X.calm=true):CallV X (.builtin "max") U1:=by
 intro pins s st H xs us Q I r h
 obtain ⟨th,mu,ds,so,rd,t⟩:=h
 unfold U1 at t
 cases e:ints2 ds with
 | none=>rw [e] at t;exact t.no.elim
 | some p =>
  rw [e] at t
  rw [MU e] at rd
  obtain ⟨x,y,rfl,rx,ry⟩:=Ke rd
  exact Sz hc pins s st H _ us Q I r ⟨p.1,p.2,by rw [show x=_ from rx,show y=_ from ry],t.ret so _ rfl⟩
theorem S5:CallV X (.type "int") Uw:=by
 intro pins s st H xs us Q I r h
 obtain ⟨th,mu,ds,so,rd,t⟩:=h
 unfold Uw at t
 cases e:intOf ds with
 | none=>rw [e] at t;exact t.no.elim
 | some i =>
  rw [e] at t
  rcases So e with h|⟨b,h,hb⟩
  ·rw [h] at rd
   obtain ⟨x,rfl,rx⟩:=Ej rd
   exact MS pins s st H _ us Q I r (.inl ⟨i,by rw [show x=_ from rx],t.ret so _ rfl⟩)
  ·rw [h] at rd
   obtain ⟨x,rfl,rx⟩:=Ej rd
   exact MS pins s st H _ us Q I r (.inr ⟨b,by rw [show x=_ from rx],by rw [← hb];exact t.ret so _ rfl⟩)
def Hk (mu:Sto):D->Option (List D)
 | .tup ds=>some ds
 | d=>D8 mu d
theorem GV (so:StoOk K th mu H){d:D}{ds:List D}{v:V}(h:Hk mu d=some ds)(r:Rep K th H d v):∃ a vs,v=.ref a∧(SqL K.K H a vs∨SqT K.K H a vs∧d=.tup ds)∧RepL K th H ds vs∧ds.length≤sizeLine:=by
 cases d with
 | tup es=>cases h;unfold Rep at r;obtain ⟨a,vs,rfl,h1,h2,h3⟩:=r;exact ⟨a,vs,rfl,.inr ⟨h1,rfl⟩,h2,h3⟩
 | lst es=>obtain ⟨a,vs,rfl,h1,h2,h3⟩:=Fx so (d:=.lst es) h r;exact ⟨a,vs,rfl,.inl h1,h2,h3⟩
 | ref k=>obtain ⟨a,vs,rfl,h1,h2,h3⟩:=Fx so (d:=.ref k) h r;exact ⟨a,vs,rfl,.inl h1,h2,h3⟩
 | _=>cases h
noncomputable def Iz (ds:List D):Option D:=match ds with
 | [d]=>some d
 | _=>none
theorem IF {ds:List D}{d:D}(h:Iz ds=some d):ds=[d]:=by
 unfold Iz at h
 split at h
 ·cases h;rfl
 ·cases h
def sq1 (ds:List D)(mu:Sto):Option (List D):=match Iz ds with
 | some d=>Hk mu d
 | none=>none
def E9:Fn:=λds mu=>(sq1 ds mu).map λes=>(.tup es,mu)
def LV:Fn:=λds mu=>(sq1 ds mu).map λes=>(.lst es,mu)
theorem LK {ds es:List D}(h:sq1 ds mu=some es):∃ d,ds=[d]∧Hk mu d=some es:=by
 unfold sq1 at h
 cases e:Iz ds with
 | none=>rw [e] at h;cases h
 | some d=>rw [e] at h;exact ⟨d,IF e,h⟩
theorem Du:CallV X (.type "tuple") E9:=by
 intro pins s st H xs us Q I r h
 obtain ⟨th,mu,ds,so,rd,t⟩:=h
 unfold E9 at t
 cases e:sq1 ds mu with
 | none=>rw [e] at t;exact t.no.elim
 | some es =>
  rw [e] at t
  obtain ⟨d,rfl,e2⟩:=LK e
  obtain ⟨x,rfl,rx⟩:=Ej rd
  obtain ⟨a,vs,rfl,h1,h2,h3⟩:=GV so e2 rx
  refine MM pins s st H _ us Q I r ⟨a,vs,rfl,?_⟩
  rcases h1 with h1|⟨h1,rfl⟩
  ·exact .inl ⟨h1,λp hp=>t.retX (.new hp _) (so.new hp _) _ (Rep.newTup so hp h2 h3)⟩
  ·exact .inr ⟨h1,t.ret so _ rx⟩
theorem Jy:CallV X (.type "list") LV:=by
 intro pins s st H xs us Q I r h
 obtain ⟨th,mu,ds,so,rd,t⟩:=h
 unfold LV at t
 cases e:sq1 ds mu with
 | none=>rw [e] at t;exact t.no.elim
 | some es =>
  rw [e] at t
  obtain ⟨d,rfl,e2⟩:=LK e
  obtain ⟨x,rfl,rx⟩:=Ej rd
  obtain ⟨a,vs,rfl,h1,h2,h3⟩:=GV so e2 rx
  refine N0 pins s st H _ us Q I r ⟨a,vs,rfl,?_,λp hp=>t.retX (.new hp _) (so.new hp _) _ (Rep.newLst so hp h2 h3)⟩
  rcases h1 with h1|⟨h1,_⟩
  ·exact .inl h1
  ·exact .inr h1
def Oe (o:Ex)(a:Exs):Ex:=λro mu=>bM (o ro mu) λd m1=>match d with
 | .ref k=>if E3 m1 (.ref k)=true then bM (a ro m1) λxs m2=>match Iz xs,m2[k]? with
  | some y,some (.lst ds)=>if ds.length<sizeLine then some (.non,m2.set k (.lst (ds++[y]))) else none
  | _,_=>none
  else none
 | _=>none
theorem Lg {o e:Expr}{m:Ex}{n:Exs}{apos cpos:Pos}(ho:SV X o m)(ha:SVA X [e] n)(hbase:attributeBase o "append" X.env (eval o X.env)=eval o X.env:=by rfl)
  (hfew:((backTo cpos (starEach [e] X.env)).all (λx=>!x.1)&&(backToKw cpos (keywordEach [] X.env)).all (λx=>x.1.isSome)
   && decide ([e].length+([]:List Keyword).length+(if ([]:List Keyword).isEmpty then 0 else 1)<30))=true:=by rfl)
  (hline:(apos.endLine==cpos.line)=true:=by rfl) (hs:starEach [e] X.env=(false,eval e X.env)::starEach [] X.env:=by rfl) (hplain:(backTo cpos (starEach [] X.env)).any (·.1)=false:=by rfl) :
  SV X (.Call (.Attribute o "append" apos) [e] [] cpos) (Oe m n):=
 ⟨PE.weak (Xi PySem.F.plainAttrs_list PySem.F.slot_list_append PySem.F.type_list_append Sl ho.r ha.1 hbase hfew hline hs hplain) λst H Q h=>by
  obtain ⟨th,mu,ro,so,en,t⟩:=h
  refine ⟨th,mu,ro,so,en,t.bind.mono λd th1 mu1 H1 e1 s1 t1 v rv=>?_⟩
  cases d with
  | ref k =>
   unfold Rep at rv
   obtain ⟨a,rfl,ha'⟩:=rv
   by_cases cr:E3 mu1 (.ref k)=true
   case neg=>dsimp only at t1;rw [if_neg cr] at t1;exact t1.no.elim
   dsimp only at t1
   rw [if_pos cr] at t1
   obtain ⟨ds0,em⟩:=KD cr
   obtain ⟨vs,h2,_⟩:=s1.at' k a _ ha' em
   refine ⟨.inl ⟨rfl,vs,SqL.of h2⟩,th1,mu1,ro,s1,en.ext e1 so.out,?_⟩
   refine Tr.mono (Tr.bind t1) λxs th2 mu2 H2 e2 s2 t2 ws rws=>?_
   cases q1:Iz xs with
   | none=>rw [q1] at t2;exact t2.no.elim
   | some y =>
    cases q2:mu2[k]? with
    | none=>rw [q1,q2] at t2;exact t2.no.elim
    | some o =>
     cases o with
     | dct _ _=>rw [q1,q2] at t2;exact t2.no.elim
     | lst ds =>
      rw [q1,q2] at t2
      dsimp only at t2
      by_cases c:ds.length<sizeLine
      ·rw [if_pos c] at t2
       rw [IF q1] at rws
       obtain ⟨y',rfl,ry⟩:=Ej rws
       have hk:=e2.at ha'
       obtain ⟨us,g1,g2,g3⟩:=s2.at' k a _ hk q2
       exact ⟨a,us,y',rfl,rfl,g1,by rw [g2.len];exact c,t2.retX (.mut (Ap hk) _) (s2.put hk (g2.app (.cons ry .nil)) (by rw [Ai];exact c)) _ rfl⟩
      ·rw [if_neg c] at t2;exact t2.no.elim
  | _=>exact t1.no.elim⟩
end
end PV
namespace L2
open PySem PySem.Spec PyProof.Rows
theorem Ye {x y z:V}{us:List Value}(r:Vals [x,y,z] us):∃ u v w',us=[u,v,w']∧RelV x u∧RelV y v∧RelV z w':=by
 cases r with
 | cons r1 r2 =>
  obtain ⟨v,w',rfl,a,b⟩:=vals2 r2
  exact ⟨_,v,w',rfl,r1,a,b⟩
def Aa7 (i j k:Nat)(ta:TA):TS:=λD σ H=>ta σ H λvs H1=>∃ u v w,vs=[u,v,w]∧D.nx (((σ.set i (some u)).set j (some v)).set k (some w)) H1
theorem VN {X:Cx}{pos:Pos}{i j k:Nat}{x y z:Str}{a b c:Expr}{ta:TA}{px py pz pt:Pos}{kt k2 pt2}(hc:X.calm=true)(hN:X.N.Nodup)(hi:X.N[i]? = some x)(hj:X.N[j]? = some y)(hk:X.N[k]? = some z)(hij:i≠j)(hik:i≠k)(hjk:j≠k)
  (hx:X.env.scope.names.lookup x=some .local) (hy:X.env.scope.names.lookup y=some .local) (hz:X.env.scope.names.lookup z=some .local) (ha:PA X [a,b,c] ta)
  (hw:swappedStores [.Tuple [.Name x px,.Name y py,.Name z pz] kt pt] (.Tuple [a,b,c] k2 pt2) X.env=pure (some [x,y,z]))
  (hs:swapsWithSole [.Tuple [.Name x px,.Name y py,.Name z pz] kt pt] (.Tuple [a,b,c] k2 pt2) pos.line X.env=pure false:=by rfl) :
  PS X (.Assign [.Tuple [.Name x px,.Name y py,.Name z pz] kt pt] (.Tuple [a,b,c] k2 pt2) pos) (Aa7 i j k ta):=by
 intro pins s σ H D I h
 rw [exec_Assign_arm]
 refine Aa (wpAny_standAt ?_)
 rw [hs]
 refine Aa (Ac ?_)
 rw [if_neg (by decide)]
 refine Aa (Tuple_ (thn (ha _ pins s σ H _ I h) λus s1 ⟨vs,H1,I1,r1,q1⟩=>?_))
 obtain ⟨v1,v2,v3,e1,q1⟩:=q1
 subst e1
 obtain ⟨u1,u2,u3,rfl,ra,rb,rc⟩:=Ye r1
 refine AW ?_ (by show 3≤sizeLine;decide)
 have I2:Inv X pins σ H1 { s1 with heap:=s1.heap.push { cls:=.type "tuple",data:=.seq [u1,u2,u3].toArray } }:=I1.kept (t':=s1.toks) λb o e=>Ae _ e
 rw [hw]
 refine Aa (Ac ?_)
 show wpAny (model X.prog X.w) X.A (do rule "assign.swapped-stores";let items←unpackItems (.ref s1.heap.objs.size) 3 none;assignInOrder [λv=>bindName X.env z v,λv=>bindName X.env y v,λv=>bindName X.env x v] items.reverse;pure Flow.next) _ _ _
 refine Aa (Bo (Aa (unpackItems_tuple (items:=#[u1,u2,u3]) (I.ok.hd hc) (IsTup.new s1.heap _) λh' hx'=>?_)))
 have I3:=I2.kept (h':=h') (t':=s1.toks) λb o e=>hx' b o (AF (Ar e)) e
 show wpAny _ _ (assignInOrder [λv=>bindName X.env z v,λv=>bindName X.env y v,λv=>bindName X.env x v] [u3,u2,u1] >>= λ_=>pure Flow.next) _ _ _
 refine Aa (assignInOrder_cons (wpAny_bindName (Gy I3 hN hk (.inl hz) rc (λs2 I4=>?_) (.inr hz))))
 refine assignInOrder_cons (wpAny_bindName (Gy I4 hN hj (.inl hy) rb (λs3 I5=>?_) (.inr hy)))
 refine assignInOrder_cons (wpAny_bindName (Gy I5 hN hi (.inl hx) ra (λs4 I6=>assignInOrder_nil (Ac ?_)) (.inr hx)))
 rw [List.set_comm _ _ (Ne.symm hjk),List.set_comm _ _ (Ne.symm hik),List.set_comm (i:=j) (j:=i) _ _ (Ne.symm hij)] at I6
 exact ⟨_,H1,I6,q1⟩
end L2
namespace PV
open PySem L2 PySem.Spec PyProof.Rows
section
variable {X:Cx} {K:Zc} {th:List Addr} {mu:Sto} {H:Hp}
def QZ (i j k:Nat)(a:Exs):Sx:=λro mu=>bM (a ro mu) λds m1=>match ds with
 | [x,y,z]=>some ((.nx,((ro.set i (some x)).set j (some y)).set k (some z)),m1)
 | _=>none
theorem TL (i j k:Nat){x y z:Str}{a b c:Expr}{m:Exs}{px py pz pt:Pos}{kt k2 pt2}{pos:Pos}(hc:X.calm=true)(hN:X.N.Nodup)(ha:SVA X [a,b,c] m)
  (hw:swappedStores [.Tuple [.Name x px,.Name y py,.Name z pz] kt pt] (.Tuple [a,b,c] k2 pt2) X.env=pure (some [x,y,z]))
  (hi:X.N[i]? = some x:=by rfl) (hj:X.N[j]? = some y:=by rfl) (hk:X.N[k]? = some z:=by rfl) (hij:i≠j:=by decide) (hik:i≠k:=by decide) (hjk:j≠k:=by decide)
  (hx:X.env.scope.names.lookup x=some .local:=by rfl) (hy:X.env.scope.names.lookup y=some .local:=by rfl) (hz:X.env.scope.names.lookup z=some .local:=by rfl)
  (hs:swapsWithSole [.Tuple [.Name x px,.Name y py,.Name z pz] kt pt] (.Tuple [a,b,c] k2 pt2) pos.line X.env=pure false:=by rfl) :
  SVS X (.Assign [.Tuple [.Name x px,.Name y py,.Name z pz] kt pt] (.Tuple [a,b,c] k2 pt2) pos) (QZ i j k m):=⟨PS.weak (VN hc hN hi hj hk hij hik hjk hx hy hz ha.1 hw hs) λE st H h=>by
 obtain ⟨th,mu,ro,so,en,t⟩:=h
 refine ⟨th,mu,ro,so,en,t.bind.mono λds th1 mu1 H1 e1 s1 t1 vs rvs=>?_⟩
 match ds,t1,rvs with
 | [d,d',d''],t1,rvs =>
  obtain ⟨v,r,rfl,r1,r2⟩:=rvs.inv
  obtain ⟨u,w,rfl,r3,r4⟩:=Ke r2
  exact ⟨v,u,w,rfl,t1.ret s1 _ ((((en.ext e1 so.out).set i r1).set j r3).set k r4)⟩
 | [],t1,_=>exact t1.no.elim
 | [_],t1,_=>exact t1.no.elim
 | [_,_],t1,_=>exact t1.no.elim
 | _::_::_::_::_,t1,_=>exact t1.no.elim⟩
def VZ (d e v:D)(mu:Sto):Rs Unit:=match d,e with
 | .ref k,.int i=>match mu[k]? with
  | some (.lst ds)=>match ixN ds.length i with
   | some j=>some ((),mu.set k (.lst (ds.set j v)))
   | none=>none
  | _=>none
 | _,_=>none
def Acy (K:Zc):UW:=λo i v H Q=>∃ th mu d e w,StoOk K th mu H∧Rep K th H d o∧Rep K th H e i∧Rep K th H w v∧Tr K th H (VZ d e w mu) λ_ _ _ H'=>Q H'
theorem Aa0:Wf X (Acy X.z):=by
 intro pins s st H o i v ov iv u Q I ro ri rv h
 obtain ⟨th,mu,d,e,w,so,r1,r2,r3,t⟩:=h
 cases d with
 | ref k =>
  cases e with
  | int j =>
   unfold VZ at t
   dsimp only at t
   cases q:mu[k]? with
   | none=>rw [q] at t;exact t.no.elim
   | some o' =>
    cases o' with
    | dct _ _=>rw [q] at t;exact t.no.elim
    | lst ds =>
     rw [q] at t
     dsimp only at t
     cases q2:ixN ds.length j with
     | none=>rw [q2] at t;exact t.no.elim
     | some n =>
      rw [q2] at t
      unfold Rep at r1
      obtain ⟨a,rfl,ha⟩:=r1
      obtain ⟨vs,h1,h2,h3⟩:=so.at' k a _ ha q
      exact set_list pins s st H _ i v ov iv u Q I ro ri rv ⟨a,vs,j,n,rfl,r2,h1,by rw [h2.len];exact q2,t.retX (.mut (Ap ha) _) (so.put ha (h2.setAt n r3) (by rw [List.length_set];exact h3))⟩
  | _=>exact t.no.elim
 | _=>exact t.no.elim
noncomputable def FY (lo:Int)(n:Nat):List D:=(List.range n).map λk:Nat=>.int (lo+k)
theorem UM {lo:Int}{n:Nat}(hn:n≤sizeLine):R4 K (Itr lo n) th mu H (FY lo n) none where
 sz:=by unfold FY;simpa using hn
 go:=λth' mu' H' e s go i d ed=>by
  unfold FY at ed
  rw [Av] at ed
  cases q:(List.range n)[i]? with
  | none=>rw [q] at ed;cases ed
  | some k =>
   rw [q] at ed
   have hd:D.int (lo+k)=d:=by simpa using ed
   obtain ⟨hi,hk⟩:=Ah.mp q
   rw [List.length_range] at hi
   rw [List.getElem_range] at hk
   subst hk hd
   refine ⟨hi,λv H2 y=>?_⟩
   obtain ⟨rfl,rfl⟩:=y
   exact ⟨.refl _ _,s,by unfold Rep;rfl⟩
 stop:=λth' mu' H' e s go=>by show n≤(FY lo n).length;unfold FY;simp
def iRg (a:Exs):Ix:=λro mu=>bM (a ro mu) λds m1=>match TX ds with
 | some j=>if -(2 ^ 62)≤j∧j≤(sizeLine:Int) then some ((FY 0 j.toNat,none),m1) else none
 | none=>none
theorem GY {tg a:Expr}{m:Exs}{p pos:Pos}(hm:X.mg "range"=none)(ha:SVA X [a] m)(hg:Gl X "range":=by rfl)(hs:starEach [a] X.env=[(false,eval a X.env)]:=by rfl):SVI X tg (.Call (.Name "range" p) [a] [] pos) (iRg m):=
 ⟨PI.weak (Si hg hm ha.1 hs) λst H R h=>by
  obtain ⟨th,mu,ro,so,en,t⟩:=h
  refine ⟨th,mu,ro,so,en,t.bind.mono λds th1 mu1 H1 e1 s1 t1 vs rvs=>?_⟩
  cases q:TX ds with
  | none=>rw [q] at t1;exact t1.no.elim
  | some j =>
   rw [q] at t1
   dsimp only at t1
   by_cases c:-(2 ^ 62)≤j∧j≤(sizeLine:Int)
   ·rw [if_pos c] at t1
    rw [Vk q] at rvs
    obtain ⟨x,rfl,rx⟩:=Ej rvs
    refine ⟨j,by rw [show x=_ from rx],c.1,?_,t1.ret s1 _ (UM (by ext))⟩
    have:=c.2
    rw [AD] at this
    ext
   ·rw [if_neg c] at t1;exact t1.no.elim⟩
theorem W3 {a b:Str}(h:a.cps.toList=b.cps.toList):a=b:=by
 obtain ⟨x⟩:=a
 obtain ⟨y⟩:=b
 have:x=y:=Array.toList_inj.mp h
 rw [this]
noncomputable def strsOf:List D->Option (List Str)
 | []=>some []
 | .str b::ds=>(strsOf ds).map (b::·)
 | _=>none
theorem L8:∀ {ds:List D} {ss:List Str},strsOf ds=some ss->ds=ss.map D.str
 | [],_,h=>by cases h;rfl
 | d::ds,ss,h=>by
  cases d with
  | str b =>
   unfold strsOf at h
   cases e:strsOf ds with
   | none=>rw [e] at h;cases h
   | some cs=>rw [e] at h;cases h;rw [L8 e];rfl
  | _=>cases h
theorem Nc:∀ {ss:List Str} {vs:List V},RepL K th H (ss.map D.str) vs->vs=ss.map V.str∧∀ x∈ss,x.length≤sizeLine∧PyData.strOk x=true
 | [],_,r=>⟨r.inv0,λ_ h=>nomatch h⟩
 | s::ss,_,r=>by
  obtain ⟨v,r',rfl,h1,h2⟩:=RepL.inv (d:=.str s) (ds:=ss.map D.str) r
  obtain ⟨e,hs⟩:=Nc h2
  rw [e,h1.1]
  refine ⟨rfl,λx hx=>?_⟩
  rcases Am.mp hx with rfl|hx
  ·exact h1.2
  ·exact hs x hx
theorem K8:∀ {ss:List Str},(∀ x∈ss,x.length≤sizeLine∧PyData.strOk x=true)->RepL K th H (ss.map D.str) (ss.map V.str)
 | [],_=>.nil
 | s::ss,h=>.cons (d:=.str s) ⟨rfl,h s (.head _)⟩ (K8 λx hx=>h x (.tail _ hx))
end
def LtAt (A:Around)(s:Shared)(y x:Value)(b:Bool):Prop:=
 ∀ (prog:Program) (w:World) (E:Value->Shared->Prop) (Q:Value->Shared->Prop),Q (.bool b) s->wpAny (model prog w) A (richCompare .Lt y x) Q E s
def Pc (A:Around)(s:Shared):List Value->List Value->Bool->Prop
 | [],[],b=>b=false
 | [],_::_,b=>b=true
 | _::_,[],b=>b=false
 | y::vs,x::ws,b=>∃ e,SeqAt.EqAt A s y x e∧if e=true then Pc A s vs ws b else LtAt A s y x b
section
open PySem.SeqAt
open PySem.AutoSeq1 (wpAny_loadPart')
open PySem.MeetsSeq PySem.MeetsSeq2 PySem.MeetsSeq3
theorem Ou (l b:Addr)(items items2:Array Value)(n n2:Nat)(dd dd2:Option Addr)(sl sl2:Array (Option Value))(r:Bool) :
  Meets (Builtin.«tuple.__lt__» ⟨[.ref l,.ref b],[]⟩)
   (λA R s=>s.heap.get? l=some { cls:=.type "tuple",dict:=dd,data:=.seq items n,slots:=sl }∧s.heap.get? b=some { cls:=.type "tuple",dict:=dd2,data:=.seq items2 n2,slots:=sl2 } ∧
    Pc A.in1 s items.toList items2.toList r∧R (.ok (.ret (.bool r))) s):=
 .of_wp λprog w A R s h=>by
  obtain ⟨hp,g,d,tk,os⟩:=s;obtain ⟨hl,hb,hx,h⟩:=h
  have f2:=AutoSeq1.sub_tuple_tuple
  wp_walk using BF hl,BF hb,wpAny_forIn_list _ (λrest b s'=>b.1=none∧s'=⟨hp,g,d,tk,os⟩∧∃ (vs ws:List Value),rest=vs.zip ws ∧
   Pc A.in1 ⟨hp,g,d,tk,os⟩ vs ws r∧vs.length+items2.size=ws.length+items.size) _
  case turn =>
   rintro ⟨y,x⟩ rest b s' ⟨hb',rfl,vs,ws,hz,hlx,hlen⟩
   cases vs with
   | nil=>rw [List.zip_nil_left] at hz;cases hz
   | cons a vs' =>
    cases ws with
    | nil=>rw [List.zip_nil_right] at hz;cases hz
    | cons c ws' =>
     rw [List.zip_cons_cons] at hz
     injection hz with hyx hrest
     injection hyx with hy hx
     subst hy hx
     simp only [List.length_cons] at hlen
     obtain ⟨e,he,hiff⟩:=hlx
     refine Aa (he prog w _ _ ?_)
     cases e with
     | true =>
      rw [if_pos rfl] at hiff
      wp_walk
      exact ⟨rfl,rfl,_,_,hrest,hiff,by ext⟩
     | false =>
      rw [if_neg AJ] at hiff
      have hri:=hiff prog w
      wp_walk using hri
      exact ⟨_,rfl,by simpa using h⟩
  case fin =>
   rintro ⟨b1,b2⟩ s' ⟨hb',rfl,vs,ws,hz,hlx,hlen⟩
   simp only at hb'
   subst hb'
   have hv:r=decide (items.size<items2.size):=by
    cases vs with
    | nil =>
     cases ws with
     | nil =>
      simp only [List.length_nil] at hlen
      rw [show r=false from hlx]
      exact (AV (by ext)).symm
     | cons c ws' =>
      simp only [List.length_nil,List.length_cons] at hlen
      rw [show r=true from hlx]
      exact (Bw (by ext)).symm
    | cons a vs' =>
     cases ws with
     | nil =>
      simp only [List.length_nil,List.length_cons] at hlen
      rw [show r=false from hlx]
      exact (AV (by ext)).symm
     | cons c ws' =>
      rw [List.zip_cons_cons] at hz
      cases hz
   rw [hv] at h
   wp_walk
   exact ⟨_,rfl,by simpa [Builtin.Tuple.tupleCompareSizes] using h⟩
  case h =>
   exact ⟨rfl,rfl,items.toList,items2.toList,rfl,hx,by simp;ext⟩
end
theorem LtAt.tuples {A:Around}{s:Shared}{l b:Addr}{items items2:Array Value}{r:Bool}(hl:IsTup s.heap l items)(hb:IsTup s.heap b items2)(hu:A.units<cLine)(hx:Pc A.in1 s items.toList items2.toList r):LtAt A s (.ref l) (.ref b) r:=λprog w E Q h=>by
 obtain ⟨⟨cls,dd,data,sl⟩,ho,hc,n,hd⟩:=id hl
 obtain ⟨⟨cls2,dd2,data2,sl2⟩,ho2,hc2,n2,hd2⟩:=id hb
 simp only at hc hd hc2 hd2
 subst hc hd hc2 hd2
 exact richCompare_meets_room (op:=.Lt) ⟨_,ho,rfl⟩ ⟨_,ho2,rfl⟩ PySem.F.slot_tuple_lt PySem.F.entry_tuple_lt (PySem.F.args_tuple_lt_2 _ _) (Ou l b items items2 n n2 dd dd2 sl sl2 r)
  ⟨ho,ho2,hx,show Value.bool r≠Value.notImplemented∧Q (.bool r) s from ⟨(λx=>nomatch x),h⟩⟩ hu
mutual
noncomputable def ltB:D->D->Option Bool
 | .int i,.int j=>some (decide (i<j))
 | .str i,.str j=>some (decide (i.cps.toList<j.cps.toList))
 | .tup xs,.tup ys=>Hq xs ys
 | _,_=>none
noncomputable def Hq:List D->List D->Option Bool
 | [],[]=>some false
 | [],_::_=>some true
 | _::_,[]=>some false
 | x::xs,y::ys=>if Dc x&&Dc y then (if PyData.eqv (toPy x) (toPy y) then Hq xs ys else ltB x y) else none
end
section
variable {X:Cx} {K:Zc} {th:List Addr} {mu:Sto} {H:Hp}
mutual
theorem P1 {pins:List (Addr×Obj)}{st:L2.St}{s:Shared}(I:L2.Inv X pins st H s):∀ (d e:D) (b:Bool) (v u:V) (vv uu:Value) (A:Around),ltB d e=some b->Rep X.z th H d v->Rep X.z th H e u->RelV v vv->RelV u uu->A.units+(toPy d).depth+1<cLine->LtAt A s vv uu b
 | .int i,e,b,v,u,vv,uu,A,h,r1,r2,q1,q2,hu=>by
  cases e with
  | int j =>
   unfold ltB at h
   cases h
   cases (show _=_ from r1)
   cases (show _=_ from r2)
   obtain ⟨t1,rfl⟩:=q1
   obtain ⟨t2,rfl⟩:=q2
   exact λprog w E Q hq=>(PyProof.Rows.lt_int hq:wpAny (model prog w) A (compareOp .Lt (.int i t1) (.int j t2)) Q E s)
  | _=>unfold ltB at h;cases h
 | .str i,e,b,v,u,vv,uu,A,h,r1,r2,q1,q2,hu=>by
  cases e with
  | str j =>
   unfold ltB at h
   cases h
   obtain ⟨rfl,_⟩:=(show _∧_ from r1)
   obtain ⟨rfl,_⟩:=(show _∧_ from r2)
   obtain ⟨t1,rfl⟩:=q1
   obtain ⟨t2,rfl⟩:=q2
   exact λprog w E Q hq=>(PyProof.Rows.lt_str hq:wpAny (model prog w) A (compareOp .Lt (.str i t1) (.str j t2)) Q E s)
  | _=>unfold ltB at h;cases h
 | .tup xs,e,b,v,u,vv,uu,A,h,r1,r2,q1,q2,hu=>by
  cases e with
  | tup ys =>
   unfold ltB at h
   unfold Rep at r1 r2
   obtain ⟨a,vs,rfl,h1,l1,_⟩:=r1
   obtain ⟨c,us,rfl,h2,l2,_⟩:=r2
   cases q1
   cases q2
   obtain ⟨its,rv,p1,_⟩:=I.tuple h1
   obtain ⟨its2,rv2,p2,_⟩:=I.tuple h2
   have hd:(toPy (.tup xs)).depth=PyData.depthAll (CT xs)+1:=by unfold toPy PyData.depth;rfl
   rw [hd] at hu
   refine LtAt.tuples p1 p2 (by ext) ?_
   have:=Q4 I xs ys b vs us its its2 A.in1 h l1 l2 rv rv2 (by show A.units+1+PyData.depthAll (CT xs)+1<cLine;ext)
   simpa using this
  | _=>unfold ltB at h;cases h
 | .non,e,b,_,_,_,_,_,h,_,_,_,_,_=>by cases e<;>(unfold ltB at h;cases h)
 | .bl _,e,b,_,_,_,_,_,h,_,_,_,_,_=>by cases e<;>(unfold ltB at h;cases h)
 | .lst _,e,b,_,_,_,_,_,h,_,_,_,_,_=>by cases e<;>(unfold ltB at h;cases h)
 | .dct _ _,e,b,_,_,_,_,_,h,_,_,_,_,_=>by cases e<;>(unfold ltB at h;cases h)
 | .set _,e,b,_,_,_,_,_,h,_,_,_,_,_=>by cases e<;>(unfold ltB at h;cases h)
 | .ref _,e,b,_,_,_,_,_,h,_,_,_,_,_=>by cases e<;>(unfold ltB at h;cases h)
theorem Q4 {pins:List (Addr×Obj)}{st:L2.St}{s:Shared}(I:L2.Inv X pins st H s):∀ (xs ys:List D) (b:Bool) (vs us:List V) (vvs uus:List Value) (A:Around),Hq xs ys=some b->RepL X.z th H xs vs->RepL X.z th H ys us->Vals vs vvs->Vals us uus->A.units+PyData.depthAll (CT xs)+1<cLine->Pc A s vvs uus b
 | [],[],b,_,_,_,_,A,h,r1,r2,q1,q2,hu=>by
  cases r1.inv0;cases r2.inv0;cases q1;cases q2
  unfold Hq at h
  cases h
  rfl
 | [],y::ys,b,_,_,_,_,A,h,r1,r2,q1,q2,hu=>by
  cases r1.inv0
  obtain ⟨v,r,rfl,_,_⟩:=r2.inv
  cases q1
  cases q2
  unfold Hq at h
  cases h
  rfl
 | x::xs,[],b,_,_,_,_,A,h,r1,r2,q1,q2,hu=>by
  cases r2.inv0
  obtain ⟨v,r,rfl,_,_⟩:=r1.inv
  cases q1
  cases q2
  unfold Hq at h
  cases h
  rfl
 | x::xs,y::ys,b,_,_,_,_,A,h,r1,r2,q1,q2,hu=>by
  obtain ⟨v,r,rfl,a1,a2⟩:=r1.inv
  obtain ⟨u,r',rfl,b1,b2⟩:=r2.inv
  cases q1 with
  | cons g1 g2 =>
   cases q2 with
   | cons k1 k2 =>
    unfold Hq at h
    have hd:PyData.depthAll (CT (x::xs))=max (toPy x).depth (PyData.depthAll (CT xs)):=by rw [CT,PyData.depthAll]
    rw [hd] at hu
    by_cases c:(Dc x&&Dc y)=true
    ·rw [if_pos c] at h
     rw [Ab] at c
     obtain ⟨as,w1,w2⟩:=FI I x v _ c.1 a1 g1
     obtain ⟨bs,w3,w4⟩:=FI I y u _ c.2 b1 k1
     refine ⟨_,SeqAt.eqAt_reads _ _ A s _ _ as bs w1 w3 w2 w4 (by ext),?_⟩
     cases e:PyData.eqv (toPy x) (toPy y) with
     | true=>rw [e] at h;rw [if_pos rfl] at h ⊢;exact Q4 I xs ys b _ _ _ _ A h a2 b2 g2 k2 (by ext)
     | false=>rw [e] at h;rw [if_neg AJ] at h ⊢;exact P1 I x y b _ _ _ _ A h a1 b1 g1 k1 (by ext)
    ·rw [if_neg c] at h;cases h
end
def ltG (d e:D)(mu:Sto):Rs D:=if (toPy d).depth≤60 then (ltB d e).map λb=>(.bl b,mu) else none
theorem Oj (hu:X.A.units+64<cLine):OpV X (compareOp .Lt) ltG:=by
 intro pins s st H x y v u Q I rx ry h
 obtain ⟨th,mu,d,e,so,r1,r2,t⟩:=h
 unfold ltG at t
 by_cases c:(toPy d).depth≤60
 ·rw [if_pos c] at t
  cases e1:ltB d e with
  | none=>rw [e1] at t;exact t.no.elim
  | some b =>
   rw [e1] at t
   exact P1 I d e b x y v u X.A e1 r1 r2 rx ry (by ext) _ _ _ _ ⟨.bl b,H,I,rfl,t.ret so _ rfl⟩
 ·rw [if_neg c] at t;exact t.no.elim
end
section
variable {X:Cx} {K:Zc} {th:List Addr} {mu:Sto} {H:Hp}
theorem JZ {pins:List (Addr×Obj)}{st:L2.St}{s:Shared}(I:L2.Inv X pins st H s):sysModules<s.heap.objs.size:=by
 obtain ⟨o,_,_,ho,_⟩:=I.mod.glob
 exact Az (show sysModules<mainGlobals+1 by decide) (Ar (I.bk _ _ ho))
theorem Mw {P:Program}{w:World}{H:Hp}{h:Heap}{a:Addr}{xs:List (Int×V×V)}(x:ZF a xs h):ObjOk P w H h a (HE a xs):=by
 refine ⟨x,?_,λh1 h2 ⟨z,o,es,ep,ho,r⟩ k=>⟨z,o,es,ep,k o ho,r⟩⟩
 obtain ⟨_,o,es,ep,ho,r⟩:=x
 exact ⟨o,ho⟩
noncomputable def OS:Ex:=λ_ mu=>some (.dct [] [],mu)
noncomputable def AaF:Ex:=λ_ mu=>some (.ref mu.length,mu++[.dct [] []])
theorem Wn {pins:List (Addr×Obj)}{st:L2.St}{s:Shared}(I:L2.Inv X pins st H s):ZF s.heap.objs.size [] (s.heap.push { cls:=.type "dict",data:=.dict #[] }):=
 ⟨BY.mpr (Ne.symm (AF (JZ I))),_,#[],0,Aq _ rfl,⟨rfl,rfl,rfl⟩,rfl,.nil⟩
theorem Q5 {pos:Pos}:SV X (.Dict [] [] pos) OS:=⟨λpins s st H Q I h=>by
 obtain ⟨th,mu,ro,so,en,t⟩:=h
 have hp:H s.heap.objs.size=none:=I.hok.fresh (Al _)
 refine wpAny_Dict_empty ⟨.ref s.heap.objs.size,_,I.laid (a:=s.heap.objs.size) (o:=HE s.heap.objs.size []) (t':=s.toks) (λ_ _ q=>Ae _ q) (Al _) (Mw (Wn I)),rfl,t.retX (.new hp _) (so.new hp _) _ ?_⟩
 unfold Rep
 exact ⟨_,[],rfl,so.notin hp,Ey,rfl,.nil,.nil,.nil⟩⟩
theorem AbP (xs:Array Value):((List.range xs.size).filterMap λ(m:Nat)=>xs[(((xs.size:Int)-1)+(m:Int)*(-1)).toNat]?)=xs.toList.reverse:=by
 have gen:∀ n,n≤xs.size->((List.range n).filterMap λ(m:Nat)=>xs[(((xs.size:Int)-1)+(m:Int)*(-1)).toNat]?)=xs.toList.reverse.take n:=by
  intro n
  induction n with
  | zero=>intro _;simp
  | succ n ih =>
   intro hn
   have e:(((xs.size:Int)-1)+(n:Int)*(-1)).toNat=xs.size-1-n:=by ext
   rw [List.range_succ,List.filterMap_append,ih (by ext),List.take_add_one]
   congr 1
   rw [List.filterMap_cons,List.filterMap_nil,e,List.getElem?_reverse (by simp;ext)]
   simp [show xs.size-1-n<xs.size by ext]
 rw [gen xs.size (Al _),B4 (by simp)]
theorem KN {prog:Program}{w:World}{A:Around}{E:Value->Shared->Prop}{s:Shared}{sl:Addr}{t:Tok}{n:Nat}{Q:Int×Int×Nat->Shared->Prop}(hs:s.heap.IsSliceOf sl .none .none (.int (-1) t))
  (h:Q (((n:Int)-1),-1,n) s):wpAny (model prog w) A (Builtin.Slice.sliceApplied (.ref sl) (pure (n:Int))) Q E s:=by
 obtain ⟨os,hos,hcs,hds⟩:=id hs
 unfold Builtin.Slice.sliceApplied Builtin.Slice.sliceFields
 refine Aa (Aa (wpAny_field hos hds (x:=.none) rfl (Aa (wpAny_field hos hds (x:=.none) rfl (Aa (wpAny_field hos hds (x:=.int (-1) t) rfl (Ac ?_)))))))
 refine Aa (HT.G1 (.int (-1) t) ?_)
 show wpAny _ _ (if ((-1:Int)==0)=true then _ else _) _ _ s
 rw [if_neg (by decide)]
 refine Aa (HT.G1 .none (Aa (HT.G1 .none (Aa (Ac ?_)))))
 show wpAny _ _ (pure (((n:Int)-1),(-1:Int),Builtin.Slice.slicePlaces ((n:Int)-1) (-1) (-1))) _ _ s
 have e:Builtin.Slice.slicePlaces ((n:Int)-1) (-1) (-1)=n:=by
  unfold Builtin.Slice.slicePlaces
  rw [if_neg (by decide)]
  by_cases h:(n:Int)-1 > -1
  ·rw [if_pos h]
   have:((n:Int)-1 - -1-1) / (- -1)+1=n:=by rw [show (- -1:Int)=1 from rfl,Int.ediv_one];ext
   rw [this]
   simp
  ·rw [if_neg h]
   simp
   ext
 rw [e]
 exact Ac h
theorem Kw {prog:Program}{w:World}{A:Around}{E:Value->Shared->Prop}{s:Shared}{t sl:Addr}{items:Array Value}{tk:Tok}{Q:Value->Shared->Prop}(ht:IsTup s.heap t items)(hs:s.heap.IsSliceOf sl .none .none (.int (-1) tk))
  (h:Q (.ref s.heap.objs.size) { s with heap:=s.heap.push { cls:=.type "tuple",data:=.seq items.toList.reverse.toArray } }) (hsz:items.size≤sizeLine):wpAny (model prog w) A (getItem (.ref t) (.ref sl)) Q E s:=by
 obtain ⟨os,hos,hcs,hds⟩:=id hs
 have hTs:s.TypeIs (.ref sl) "slice":=⟨os,hos,hcs⟩
 have htake:sizeOk (.seq items.toList.reverse.toArray):=by
  show items.toList.reverse.toArray.size≤sizeLine
  simpa using hsz
 unfold getItem
 try with_reducible refine AI ?_
 first|refine Aa (Ac ?_)|skip
 refine Aa (wpAny_sequenceKey ht.typeIs (by decide) ?_)
 refine Aa (Ba (name:=Str.ofString "__getitem__") ht.typeIs AU
  (AY AU ht.typeIs entry_tuple_getitem ?_ (args_tuple_getitem _ _)))
 show wpAny _ _ (Builtin.Tuple.tupleItemsOf (.ref t) >>= _) _ _ s
 refine Aa (tupleItemsOf_ ht ?_)
 refine Aa (BL hTs ?_)
 rw [if_pos (by decide)]
 refine Aa (KN hs ?_)
 dsimp only
 rw [if_neg (by simp),AbP]
 exact Aa (m:=Builtin.Tuple.tupleExact _) (AW (Ac ⟨_,rfl,Ac h⟩) htake)
noncomputable def WT (d:D)(mu:Sto):Rs D:=match d with
 | .tup ds=>some (.tup ds.reverse,mu)
 | _=>none
theorem Vals.rev {xs:List V}{us:List Value}(r:Vals xs us):Vals xs.reverse us.reverse:=Vals.reverse r
theorem Zs {e:Expr}{m:Ex}{j:Nat}{p1 p2 p3 pos:Pos}(he:SV X e m):SV X (.Subscript e (.Slice none none (some (.UnaryOp .USub (.Constant (.int 1) j p1) p2)) p3) pos) (e1 WT m):=⟨by
 intro pins s st H Q I h
 obtain ⟨th,mu,ro,so,en,t⟩:=h
 refine Subscript_ (thn (he.r pins s st H (λx H1=>∃ th1 mu1 d,StoOk X.z th1 mu1 H1∧Rep X.z th1 H1 d x∧Tr X.z th1 H1 (WT d mu1) (KV' X.z Q)) I ⟨th,mu,ro,so,en,t.bind.mono λd th1 mu1 H1 e1 s1 t1 v rv=>⟨th1,mu1,d,s1,rv,t1⟩⟩) λv s1 ⟨x,H1,I1,r1,th1,mu1,d,so1,rd,t1⟩=>?_)
 refine wpAny_Slice ?_
 rw [evalPart_none]
 refine Ac (Ac ?_)
 rw [evalPart_some]
 refine thn ((Z7 (X:=X) Yc (TK (i:=1) (j:=j) (pos:=p1))) pins s1 st H1 (λy H'=>y=.int (-1)∧H'=H1) I1 ⟨1,rfl,rfl,rfl⟩) λu s2 ⟨y,H2,I2,r2,ey,eH⟩=>?_
 subst ey eH
 obtain ⟨tk,rfl⟩:=r2
 have I4:L2.Inv X pins st H2 { s2 with heap:=s2.heap.push { cls:=.type "slice",data:=.fields #[.none,.none,.int (-1) tk] } }:=I2.kept (t':=s2.toks) λb ob q=>Ae _ q
 cases d with
 | tup ds =>
  unfold Rep at rd
  obtain ⟨a,vs,rfl,h1,h2,h3⟩:=rd
  cases r1
  obtain ⟨its,rv,ht,hz⟩:=I4.tuple h1
  show wpAny (model X.prog X.w) X.A (subscriptTail e (.Slice none none (some (.UnaryOp .USub (.Constant (.int 1) j p1) p2)) p3) (.ref a) (.ref s2.heap.objs.size)) (EP X pins st Q) X.xe { s2 with heap:=s2.heap.push { cls:=.type "slice",data:=.fields #[.none,.none,.int (-1) tk] } }
  refine tail_any (ops:=[.ref a,.ref s2.heap.objs.size]) ht.typeIs AU.lookup (Kw ht (Heap.IsSliceOf.new ..) ?_ (by rw [An,← rv.length];exact hz)) (by with_unfolding_all rfl)
  have hp:=I4.hok.fresh (Al _)
  refine ⟨.ref _,_,I4.laid (t':=s2.toks) (o:=.tup vs.reverse) (λb ob q=>Ae _ q) (Al _) ⟨⟨by rw [List.length_reverse];exact hz,_,Aq _ rfl,rfl⟩,its.reverse,Vals.rev rv,IsTup.new _ _⟩,rfl,?_⟩
  exact t1.retX (.new hp _) (so1.new hp _) _ (Rep.newTup so1 hp h2.rev (by rw [List.length_reverse];exact h3))
 | _=>exact t1.no.elim⟩
end
noncomputable def DY {α:Type}(ask:Nat->Nat->Option Bool):PySem.W.KasT α->Option α
 | .ret a=>some a
 | .ask i j k=>match ask i j with
  | none=>none
  | some b=>DY ask (k b)
theorem K4 {α:Type}{ask:Nat->Nat->Option Bool}{cmp:Nat->Nat->(Bool->Shared->Prop)->Shared->Prop}{s:Shared}(hc:∀ i j b C,ask i j=some b->C b s->cmp i j C s):∀ (t:PySem.W.KasT α) (a:α) (Q:α->Shared->Prop),DY ask t=some a->Q a s->t.kasWp cmp Q s
 | .ret a,_,Q,e,q=>by cases e;exact q
 | .ask i j k,a,Q,e,q=>by
  unfold DY at e
  cases e1:ask i j with
  | none=>rw [e1] at e;cases e
  | some b =>
   rw [e1] at e
   exact hc i j b _ e1 (K4 hc (k b) a Q e q)
section
variable {X:Cx} {K:Zc} {th:List Addr} {mu:Sto} {H:Hp}
def tupS:D->Bool
 | .tup (.str x::r)=>EB r&&decide (PyData.depthAll (CT r)≤50)
 | _=>false
theorem L6 {d:D}(h:tupS d=true):∃ x r,d=.tup (.str x::r)∧EB r=true∧PyData.depthAll (CT r)≤50:=by
 unfold tupS at h
 split at h
 ·rename_i x r
  rw [Ab,Ad] at h
  exact ⟨x,r,rfl,h.1,h.2⟩
 ·cases h
theorem Nq {pins:List (Addr×Obj)}{st:L2.St}{s:Shared}(I:L2.Inv X pins st H s){A:Around}{fin:Bool}{Q:Bool->Shared->Prop} :
  ∀ (xs ys:List D) (b:Bool) (vs us:List V) (vvs uus:List Value) (i:Nat),Hq xs ys=some b->RepL X.z th H xs vs->RepL X.z th H ys us->Vals vs vvs->Vals us uus->A.units+PyData.depthAll (CT xs)+1<cLine ->
   (i=0->∃ x r y r',xs=.str x::r∧ys=.str y::r')->(fin=decide (xs.length<ys.length))->Q b s->PySem.W.KatLex X.prog X.w A true fin Q (vvs.zip uus) i s
 | [],[],b,_,_,_,_,i,h,r1,r2,q1,q2,hu,h0,hf,q=>by
  cases r1.inv0;cases r2.inv0;cases q1;cases q2
  unfold Hq at h
  cases h
  exact PySem.W.kat_nil (by rw [hf];exact q)
 | [],y::ys,b,_,_,_,_,i,h,r1,r2,q1,q2,hu,h0,hf,q=>by
  cases r1.inv0
  obtain ⟨v,r,rfl,_,_⟩:=r2.inv
  cases q1
  cases q2
  unfold Hq at h
  cases h
  exact PySem.W.kat_nil (by rw [hf,Bw (by simp)];exact q)
 | x::xs,[],b,_,_,_,_,i,h,r1,r2,q1,q2,hu,h0,hf,q=>by
  cases r2.inv0
  obtain ⟨v,r,rfl,_,_⟩:=r1.inv
  cases q1
  cases q2
  unfold Hq at h
  cases h
  exact PySem.W.kat_nil (by rw [hf,AV (by simp)];exact q)
 | x::xs,y::ys,b,_,_,_,_,i,h,r1,r2,q1,q2,hu,h0,hf,q=>by
  obtain ⟨v,r,rfl,a1,a2⟩:=r1.inv
  obtain ⟨u,r',rfl,b1,b2⟩:=r2.inv
  cases q1 with
  | cons g1 g2 =>
   cases q2 with
   | cons k1 k2 =>
    unfold Hq at h
    have hd:PyData.depthAll (CT (x::xs))=max (toPy x).depth (PyData.depthAll (CT xs)):=by rw [CT,PyData.depthAll]
    rw [hd] at hu
    by_cases c:(Dc x&&Dc y)=true
    ·rw [if_pos c] at h
     rw [Ab] at c
     obtain ⟨as,w1,w2⟩:=FI I x v _ c.1 a1 g1
     obtain ⟨bs,w3,w4⟩:=FI I y u _ c.2 b1 k1
     refine PySem.W.kat_cons (SeqAt.eqAt_reads _ _ A s _ _ as bs w1 w3 w2 w4 (by ext) _ _ _ _ ?_)
     cases e:PyData.eqv (toPy x) (toPy y) with
     | true =>
      rw [e,if_pos rfl] at h
      refine PySem.W.kat_yes (Nq I xs ys b _ _ _ _ (i+1) h a2 b2 g2 k2 (by ext) (λz=>by ext) (by rw [hf];simp) q)
     | false =>
      rw [e,if_neg AJ] at h
      refine PySem.W.kat_no ?_
      by_cases hi:i=0
      ·subst hi
       obtain ⟨x',_,y',_,e1,e2⟩:=h0 rfl
       cases e1
       cases e2
       obtain ⟨rfl,_⟩:=(show _∧_ from a1)
       obtain ⟨rfl,_⟩:=(show _∧_ from b1)
       obtain ⟨t1,rfl⟩:=g1
       obtain ⟨t2,rfl⟩:=k1
       unfold ltB at h
       cases h
       exact oneLt_str q
      ·rw [show (true&&i==0)=false by simp [hi]]
       exact PySem.W.kat_one _ _ (P1 I x y b _ _ _ _ A h a1 b1 g1 k1 (by ext) _ _ _ _ q)
    ·rw [if_neg c] at h;cases h
def Su (ds:List D)(i j:Nat):Option Bool:=match ds[i]?,ds[j]? with
 | some d,some e=>ltB d e
 | _,_=>none
theorem L0 {pins:List (Addr×Obj)}{st:L2.St}{s:Shared}(I:L2.Inv X pins st H s):∀ {ds:List D} {vs:List V} {us:List Value},ds.all tupS=true->RepL X.z th H ds vs->Vals vs us->∃ fs,PySem.W.KatTups s.heap us fs∧fs.length=ds.length∧∀ v∈fs,∃ x t,v=.str x t
 | [],_,_,_,r,q=>by cases r.inv0;cases q;exact ⟨[],.nil,rfl,λ_ h=>nomatch h⟩
 | d::ds,_,_,h,r,q=>by
  obtain ⟨v,r',rfl,a1,a2⟩:=r.inv
  rw [List.all_cons,Ab] at h
  cases q with
  | cons q1 q2 =>
   obtain ⟨x,es,rfl,_,_⟩:=L6 h.1
   obtain ⟨fs,f1,f2,f3⟩:=L0 I h.2 a2 q2
   unfold Rep at a1
   obtain ⟨a,ws,rfl,h1,l1,_⟩:=a1
   obtain ⟨w0,wr,rfl,l2,_⟩:=RepL.inv l1
   obtain ⟨rfl,_⟩:=(show _∧_ from l2)
   cases q1
   obtain ⟨its,rv,⟨o,g1,g2,n,g3⟩,_⟩:=I.tuple h1
   cases rv with
   | cons k1 k2 =>
    obtain ⟨t,rfl⟩:=k1
    exact ⟨_::fs,.cons g1 g2 g3 rfl f1,by simp [f2],λz hz=>(Am.mp hz).elim (λe=>⟨x,t,e⟩) (f3 z)⟩
theorem Y1 {pins:List (Addr×Obj)}{st:L2.St}{s:Shared}(I:L2.Inv X pins st H s){ds:List D}{vs:List V}{us:List Value}(hd:ds.all tupS=true)(r:RepL X.z th H ds vs)(q:Vals vs us){A:Around}(hu:A.units+60<cLine) :
  ∀ i j b C,Su ds i j=some b->C b s->PySem.W.kas_ask X.prog X.w A (tuples' true) us i j C s:=λi j b C e hC=>by
 unfold Su at e
 cases e1:ds[i]? with
 | none=>rw [e1] at e;cases e
 | some d =>
  cases e2:ds[j]? with
  | none=>rw [e1,e2] at e;cases e
  | some d' =>
   rw [e1,e2] at e
   have m1:=Ao.mp hd d (Ap e1)
   have m2:=Ao.mp hd d' (Ap e2)
   obtain ⟨x,xs,rfl,_,dx⟩:=L6 m1
   obtain ⟨y,ys,rfl,_,dy⟩:=L6 m2
   obtain ⟨v,ev,rv⟩:=r.get e1
   obtain ⟨v',ev',rv'⟩:=r.get e2
   obtain ⟨u,eu,ru⟩:=q.get ev
   obtain ⟨u',eu',ru'⟩:=q.get ev'
   unfold PySem.W.kas_ask
   rw [show us.getD i Value.none=u by rw [AM,eu];rfl,show us.getD j Value.none=u' by rw [AM,eu'];rfl]
   unfold Rep at rv rv'
   obtain ⟨a,ws,rfl,h1,l1,_⟩:=rv
   obtain ⟨a',ws',rfl,h1',l1',_⟩:=rv'
   cases ru
   cases ru'
   obtain ⟨its,rw1,⟨o,g1,g2,n,g3⟩,_⟩:=I.tuple h1
   obtain ⟨its',rw2,⟨o',g1',g2',n',g3'⟩,_⟩:=I.tuple h1'
   unfold ltB at e
   refine PySem.W.kat_lt g1 g3 g1' g3' ?_
   have hx:PyData.depthAll (CT (.str x::xs))≤50:=by
    rw [CT,PyData.depthAll]
    show max 0 _≤50
    ext
   have:=Nq I (A:=A) (fin:=decide (its.toArray.size<its'.toArray.size)) (Q:=C) (.str x::xs) (.str y::ys) b ws ws' its its' 0 e l1 l1' rw1 rw2 (by ext) (λ_=>⟨x,xs,y,ys,rfl,rfl⟩) (by rw [An,An,← rw1.length,← rw2.length,l1.len,l1'.len]) hC
   simpa using this
end
section
variable {prog:Program} {w:World} {A:Around} {E:Value->Shared->Prop} {s:Shared}
theorem Qr {T:String}(hT:T="list"∨T="tuple"){l:Addr}{ob:Obj}{zs:List Value}{n:Nat}{Q:List Value->Shared->Prop}(ho:s.heap.get? l=some ob)(hc:ob.cls=.type T)(hd:ob.data=.seq zs.toArray n)
  (h:Q zs { s with heap:=(s.heap.push (seqObj "list" #[] 0)).update s.heap.objs.size (Obj.mapSeq (·++zs.toArray)) }) (hz:zs.length≤sizeLine):wpAny (model prog w) A (collect (.ref l)) Q E s:=by
 unfold collect
 refine Aa (wpAny_runValue (Bq entry_proto_collect' ?_))
 show wpAny _ _ (do again (.builtin "list.__iadd__" ⟨[← newList [],.ref l],[]⟩)) _ _ s
 refine Aa (wpAny_newList (Ac (And.intro (Code.quiet_builtin _ (by symm)) (Bq entry_list_iadd' ?_))))
 show wpAny _ _ (Builtin.List.listExtendWith (.ref s.heap.objs.size) (.ref l) (.ref s.heap.objs.size)) _ _ { s with heap:=s.heap.push (seqObj "list" #[] 0) }
 have g:(s.heap.push (seqObj "list" #[] 0)).get? l=some ob:=Ae _ ho
 (unfold Builtin.List.listExtendWith)
 refine Aa (BL (T:=T) ⟨ob,g,hc⟩ ?_)
 rw [if_pos (by rcases hT with rfl|rfl<;>simp)]
 refine Aa (listItems_at g hd (Aa (listItems_at (xs:=#[]) (n:=0) (Aq _ rfl) rfl ?_)))
 rw [if_neg (by simp)]
 refine Aa (listUpdate_at (xs:=#[]) (n:=0) (Aq _ rfl) rfl (Ac ?_) (A0 _) (by
  show ((#[]:Array Value)++zs.toArray).size≤sizeLine+1
  simp only [Array.size_append,An,List.length_nil]
  ext))
 show wpAny (model prog w) A (load s.heap.objs.size >>= λo=>match o.data with
   | .seq xs _=>pure xs.toList
   | _=>unsupported "internal:collect") Q E { s with heap:=(s.heap.push (seqObj "list" #[] 0)).update s.heap.objs.size (Obj.mapSeq (·++zs.toArray)) }
 refine Aa (wpAny_load (get?_update_seq (Aq _ rfl) _) ?_)
 show wpAny _ _ (pure ((#[]:Array Value)++zs.toArray).toList) Q E _
 have e0:((#[]:Array Value)++zs.toArray).toList=zs:=by simp
 rw [e0]
 exact Ac h
theorem Rb {a:Addr}{zs:List Value}{n:Nat}{P:PySem.Fin->Shared->Prop}{kd:SortKind}(p:Array Nat)(hp:p.size=zs.length)(ho:s.heap.get? a=some (seqObj "list" zs.toArray n))(h2:2≤zs.length)(h64:zs.length<64)
  (hk:∀ (Q:SortKind->Shared->Prop) (E':Value->Shared->Prop),Q kd { s with heap:=((s.heap.update a (Obj.mapSeq λ_=>#[])).push (seqObj "tuple" zs.toArray 0)).push (seqObj "list" #[] 0) }->wpAny (model prog w) A (keyKind' zs.toArray) Q E' { s with heap:=((s.heap.update a (Obj.mapSeq λ_=>#[])).push (seqObj "tuple" zs.toArray 0)).push (seqObj "list" #[] 0) })
  (hr:∀ G:Array Nat->Shared->Prop,G p { s with heap:=((s.heap.update a (Obj.mapSeq λ_=>#[])).push (seqObj "tuple" zs.toArray 0)).push (seqObj "list" #[] 0) }->(PySem.W.kas_sort zs.length).kasWp (PySem.W.kas_ask prog w A kd zs) G { s with heap:=((s.heap.update a (Obj.mapSeq λ_=>#[])).push (seqObj "tuple" zs.toArray 0)).push (seqObj "list" #[] 0) })
  (h:P (.done (.ret .none)) { s with heap:=sortedHeap s.heap a zs (p.toList.map λi=>zs.getD i Value.none).toArray }):wpAny (model prog w) A (Builtin.«list.sort» ⟨[.ref a],[]⟩) P E s:=by
 have la:a<s.heap.objs.size:=Ar ho
 rw [list_sort_plain]
 refine Aa (listItems_at ho rfl (Aa (listUpdate_at ho rfl ?_ (by rw [An,AD];ext) (A0 _))))
 obtain ⟨n1,ho1⟩:∃ n1,(s.heap.update a (Obj.mapSeq λ_=>#[])).get? a=some (seqObj "list" #[] n1):=⟨_,get?_update_seq ho λ_=>#[]⟩
 refine Aa (seqEpoch_at ho1 rfl (Aa (wpAny_newTuple (Aa (wpAny_newList (AI ?_) (A0 _))) (by show zs.length≤_;rw [AD];ext))))
 have ho2:(((s.heap.update a (Obj.mapSeq λ_=>#[])).push (seqObj "tuple" zs.toArray 0)).push (seqObj "list" #[] 0)).get? a=some (seqObj "list" #[] n1):=Ae _ (Ae _ ho1)
 show wpAny (model prog w) A _ P E { s with heap:=((s.heap.update a (Obj.mapSeq λ_=>#[])).push (seqObj "tuple" zs.toArray 0)).push (seqObj "list" #[] 0) }
 dsimp only
 have n2:¬ zs.toArray.size<2:=by rw [An];ext
 rw [if_neg n2,if_neg n2]
 refine Aa (hk _ _ ?_)
 refine Aa (wpAny_mono (PySem.W.kat_run (E:=E) (Q:=λst' s'=>arrOf st'=p.map (PySem.W.kas_item (zs.toArray.zip zs.toArray))∧failedOf st'=none∧s'={ s with heap:=((s.heap.update a (Obj.mapSeq λ_=>#[])).push (seqObj "tuple" zs.toArray 0)).push (seqObj "list" #[] 0) }) rfl h2 h64
  (G:=λp' s'=>p'=p∧s'={ s with heap:=((s.heap.update a (Obj.mapSeq λ_=>#[])).push (seqObj "tuple" zs.toArray 0)).push (seqObj "list" #[] 0) }) (λp' st' s' _ a2 a3 a4=>⟨by rw [← a4.1];exact a2,a3,a4.2⟩) (hr _ ⟨rfl,rfl⟩)) ?_ λ_ _ e=>e)
 rintro ⟨⟨⟩,st'⟩ s' ⟨ha,hf,rfl⟩
 dsimp only
 rw [PySem.W.kat_snds rfl ha]
 refine Aa (seqEpoch_at ho2 rfl (Aa (listUpdate_at ho2 rfl ?_ (A0 _) (by
  show (List.toArray (p.toList.map λi=>zs.getD i Value.none)).size≤sizeLine+1
  rw [An,Af,Array.length_toList,hp,AD]
  ext))))
 rw [hf]
 simp only [bne_self_eq_false,AG,AZ]
 exact Ac h
theorem Uu {a:Addr}{zs:List Value}{n:Nat}{P:PySem.Fin->Shared->Prop}(ho:s.heap.get? a=some (seqObj "list" zs.toArray n))(h2:zs.length<2)
  (h:P (.done (.ret .none)) { s with heap:=sortedHeap s.heap a zs zs.toArray }):wpAny (model prog w) A (Builtin.«list.sort» ⟨[.ref a],[]⟩) P E s:=by
 rw [list_sort_plain]
 refine Aa (listItems_at ho rfl (Aa (listUpdate_at ho rfl ?_ (by rw [An,AD];ext) (A0 _))))
 obtain ⟨n1,ho1⟩:∃ n1,(s.heap.update a (Obj.mapSeq λ_=>#[])).get? a=some (seqObj "list" #[] n1):=⟨_,get?_update_seq ho λ_=>#[]⟩
 refine Aa (seqEpoch_at ho1 rfl (Aa (wpAny_newTuple (Aa (wpAny_newList (AI ?_) (A0 _))) (by show zs.length≤_;rw [AD];ext))))
 have ho2:(((s.heap.update a (Obj.mapSeq λ_=>#[])).push (seqObj "tuple" zs.toArray 0)).push (seqObj "list" #[] 0)).get? a=some (seqObj "list" #[] n1):=Ae _ (Ae _ ho1)
 show wpAny (model prog w) A _ P E { s with heap:=((s.heap.update a (Obj.mapSeq λ_=>#[])).push (seqObj "tuple" zs.toArray 0)).push (seqObj "list" #[] 0) }
 dsimp only
 have n2:zs.toArray.size<2:=by rw [An];exact h2
 rw [if_pos n2,if_pos n2]
 refine Aa (Ac ?_)
 rw [StateT.run_pure]
 refine Aa (Ac ?_)
 dsimp only
 have e0:(arrOf (SortSt.mk' general' (zs.toArray.zip zs.toArray) #[] 7 none)).map (·.2)=zs.toArray:=by
  show (zs.toArray.zip zs.toArray).map (·.2)=zs.toArray
  rw [show zs.toArray.zip zs.toArray=(zs.zip zs).toArray by simp,List.map_toArray,List.map_snd_zip (Al _)]
 rw [e0]
 refine Aa (seqEpoch_at ho2 rfl (Aa (listUpdate_at ho2 rfl ?_ (A0 _) (by
  show zs.toArray.size≤sizeLine+1
  rw [An,AD]
  ext))))
 simp only [bne_self_eq_false,AG,AZ]
 exact Ac h
end
end PV
namespace PV
open PySem PyProof.Rows
theorem FD {α β:Type}(ask:Nat->Nat->Option Bool):∀ (t:PySem.W.KasT α) (f:α->PySem.W.KasT β),DY ask (t.bind f)=(DY ask t).bind λa=>DY ask (f a)
 | .ret a,f=>rfl
 | .ask i j k,f=>by
  have ih:=λb=>FD ask (k b) f
  simp only [PySem.W.KasT.bind,DY]
  cases ask i j with
  | none=>rfl
  | some b=>exact ih b
structure Pre (n:Nat) (ask:Nat->Nat->Option Bool) (lt:Nat->Nat->Bool):Prop where
 tot:∀ i j,i<n->j<n->ask i j=some (lt i j)
 asym:∀ i j,i<n->j<n->lt i j=true->lt j i=false
 trans:∀ i j k,i<n->j<n->k<n->lt j i=false->lt k j=false->lt k i=false
noncomputable def gi (p:Array Nat)(k:Nat):Nat:=p.getD k 0
structure Ix' (n:Nat) (p:Array Nat):Prop where
 pm:p.toList.Perm (List.range n)
theorem Ix'.size {n:Nat}{p:Array Nat}(h:Ix' n p):p.size=n:=by rw [← Array.length_toList,h.pm.length_eq,List.length_range]
theorem UP {p:Array Nat}{k:Nat}(h:k<p.size):gi p k=p[k]:=by unfold gi;simp [Array.getD,h]
theorem Ix'.lt {n:Nat}{p:Array Nat}(h:Ix' n p){k:Nat}(hk:k<n):gi p k<n:=by
 have hs:k<p.size:=by rw [h.size];exact hk
 rw [UP hs]
 exact BR.mp (h.pm.mem_iff.mp (by simpa using Array.getElem_mem hs))
theorem M8 {p q:Array Nat}{k j:Nat}(h:p[k]? = q[j]?):gi p k=gi q j:=by
 unfold gi
 rw [Array.getD_eq_getD_getElem?,Array.getD_eq_getD_getElem?,h]
theorem Ix'.rev {n:Nat}{p:Array Nat}(h:Ix' n p)(i j:Nat):Ix' n (PySem.W.kas_rev p i j):=⟨(Array.perm_iff_toList_perm.mp (mirror_perm p i j _)).trans h.pm⟩
theorem Ix'.bub {n:Nat}{p:Array Nat}(h:Ix' n p)(i j:Nat):Ix' n (bubble p i j):=⟨(Array.perm_iff_toList_perm.mp (bubble_perm p i j)).trans h.pm⟩
theorem JN {p:Array Nat}{i j:Nat}(hj:j≤p.size)(k:Nat):gi (PySem.W.kas_rev p i j) k=if i≤k∧k<j then gi p (i+j-1-k) else gi p k:=by
 unfold PySem.W.kas_rev
 have e:=getElem?_mirror (xs:=p) (i:=i) hj ((j-i) / 2) (by ext) k
 by_cases c:(i≤k∧k<i+(j-i) / 2)∨(j-(j-i) / 2≤k∧k<j)
 ·rw [if_pos c] at e
  rw [if_pos (by ext)]
  exact M8 e
 ·rw [if_neg c] at e
  by_cases c2:i≤k∧k<j
  ·rw [if_pos c2,show i+j-1-k=k by ext]
   exact M8 e
  ·rw [if_neg c2]
   exact M8 e
theorem YU {p:Array Nat}{src d:Nat}(hs:src<p.size)(hd:d≤src)(k:Nat):gi (bubble p src d) k=if k=src-d then gi p src else if src-d<k∧k≤src then gi p (k-1) else gi p k:=by
 have e:=getElem?_bubble hs d hd k
 by_cases c:k=src-d
 ·rw [if_pos c] at e ⊢;exact M8 e
 ·rw [if_neg c] at e ⊢
  by_cases c2:src-d<k∧k≤src
  ·rw [if_pos c2] at e ⊢;exact M8 e
  ·rw [if_neg c2] at e ⊢;exact M8 e
section
variable {n:Nat} {ask:Nat->Nat->Option Bool} {lt:Nat->Nat->Bool}
def Up' (lt:Nat->Nat->Bool)(p:Array Nat)(m:Nat):Prop:=∀ a b,a≤b->b<m->lt (gi p b) (gi p a)=false
def Dn' (lt:Nat->Nat->Bool)(p:Array Nat)(m:Nat):Prop:=∀ a b,a≤b->b<m->lt (gi p a) (gi p b)=false
theorem Pre.irr (O:Pre n ask lt){i:Nat}(h:i<n):lt i i=false:=by
 cases e:lt i i with
 | false=>rfl
 | true=>rw [← e];exact O.asym i i h h e
theorem Up'.more (O:Pre n ask lt){p:Array Nat}{m:Nat}(I:Ix' n p)(h:Up' lt p m)(hm:m<n)(h1:m=0∨lt (gi p m) (gi p (m-1))=false):Up' lt p (m+1):=λa b hab hb=>by
 by_cases e:b<m
 ·exact h a b hab e
 ·have:b=m:=by ext
  subst this
  by_cases ea:a=b
  ·subst ea;exact O.irr (I.lt hm)
  ·rcases h1 with h1|h1
   ·ext
   ·exact O.trans (gi p a) (gi p (b-1)) (gi p b) (I.lt (by ext)) (I.lt (by ext)) (I.lt hm) (h a (b-1) (by ext) (by ext)) h1
theorem QB (O:Pre n ask lt){p:Array Nat}(I:Ix' n p):∀ (f m:Nat),1≤m->m+f≤n->Up' lt p m->∃ k,DY ask (PySem.W.kas_asc p f m)=some k∧m≤k∧k≤m+f∧Up' lt p k∧(k<m+f->lt (gi p k) (gi p (k-1))=true)
 | 0,m,_,_,h=>⟨m,rfl,Al _,Al _,h,λz=>by ext⟩
 | f+1,m,h1,hm,h=>by
  have e:ask (p.getD m 0) (p.getD (m-1) 0)=some (lt (gi p m) (gi p (m-1))):=O.tot _ _ (I.lt (by ext)) (I.lt (by ext))
  unfold PySem.W.kas_asc DY
  rw [e]
  dsimp only
  cases c:lt (gi p m) (gi p (m-1)) with
  | true =>
   rw [if_pos rfl]
   exact ⟨m,rfl,Al _,by ext,h,λ_=>c⟩
  | false =>
   rw [if_neg AJ]
   obtain ⟨k,a1,a2,a3,a4,a5⟩:=QB O I f (m+1) (by ext) (by ext) (h.more O I (by ext) (.inr c))
   exact ⟨k,a1,by ext,by ext,a4,λz=>a5 (by ext)⟩
def Abn (lt:Nat->Nat->Bool)(n:Nat)(p q:Array Nat):Prop:=∀ k,k<n->lt (gi p k) (gi q k)=false∧lt (gi q k) (gi p k)=false
theorem Dn'.more (O:Pre n ask lt){p:Array Nat}{m:Nat}(I:Ix' n p)(h:Dn' lt p m)(hm:m<n)(h0:0<m)(h1:lt (gi p (m-1)) (gi p m)=false):Dn' lt p (m+1):=λa b hab hb=>by
 by_cases e:b<m
 ·exact h a b hab e
 ·have:b=m:=by ext
  subst this
  by_cases ea:a=b
  ·subst ea;exact O.irr (I.lt hm)
  ·exact O.trans (gi p b) (gi p (b-1)) (gi p a) (I.lt hm) (I.lt (by ext)) (I.lt (by ext)) h1 (h a (b-1) (by ext) (by ext))
theorem Dn'.like (O:Pre n ask lt){p q:Array Nat}{m:Nat}(I:Ix' n p)(J:Ix' n q)(hm:m≤n)(h:Dn' lt p m)(l:Abn lt n p q):Dn' lt q m:=λa b hab hb =>
 O.trans (gi q b) (gi p a) (gi q a) (J.lt (by ext)) (I.lt (by ext)) (J.lt (by ext)) (O.trans (gi q b) (gi p b) (gi p a) (J.lt (by ext)) (I.lt (by ext)) (I.lt (by ext)) (l b (by ext)).1 (h a b hab hb)) (l a (by ext)).2
theorem OQ (O:Pre n ask lt){p:Array Nat}(I:Ix' n p){i j:Nat}(hj:j≤n)(eq:∀ a b,i≤a->a<j->i≤b->b<j->lt (gi p a) (gi p b)=false):Abn lt n p (PySem.W.kas_rev p i j):=λk hk=>by
 rw [JN (by rw [I.size];exact hj)]
 by_cases c:i≤k∧k<j
 ·rw [if_pos c]
  exact ⟨eq _ _ (by ext) (by ext) (by ext) (by ext),eq _ _ (by ext) (by ext) (by ext) (by ext)⟩
 ·rw [if_neg c]
  exact ⟨O.irr (I.lt hk),O.irr (I.lt hk)⟩
theorem LJ (O:Pre n ask lt):∀ (f:Nat) (p:Array Nat) (m q:Nat),Ix' n p->1≤m->m+f≤n->q+1≤m->Dn' lt p m->(∀ a b,m-(q+1)≤a->a<m->m-(q+1)≤b->b<m->lt (gi p a) (gi p b)=false) ->
  ∃ r,DY ask (PySem.W.kas_desc f p m q)=some r∧Ix' n r.1∧m≤r.2.1∧r.2.1≤m+f∧r.2.2+1≤r.2.1∧Dn' lt r.1 r.2.1∧∀ a b,r.2.1-(r.2.2+1)≤a->a<r.2.1->r.2.1-(r.2.2+1)≤b->b<r.2.1->lt (gi r.1 a) (gi r.1 b)=false
 | 0,p,m,q,I,h1,hm,hq,hd,he=>⟨(p,m,q),rfl,I,Al _,Al _,hq,hd,he⟩
 | f+1,p,m,q,I,h1,hm,hq,hd,he=>by
  have e:ask (p.getD m 0) (p.getD (m-1) 0)=some (lt (gi p m) (gi p (m-1))):=O.tot _ _ (I.lt (by ext)) (I.lt (by ext))
  have e':ask (p.getD (m-1) 0) (p.getD m 0)=some (lt (gi p (m-1)) (gi p m)):=O.tot _ _ (I.lt (by ext)) (I.lt (by ext))
  unfold PySem.W.kas_desc DY
  rw [e]
  dsimp only
  have one:∀ p':Array Nat,Ix' n p'->∀ a b,m+1-(0+1)≤a->a<m+1->m+1-(0+1)≤b->b<m+1->lt (gi p' a) (gi p' b)=false:=λp' J a b a1 a2 b1 b2=>by
   have:a=b:=by ext
   subst this
   exact O.irr (J.lt (by ext))
  cases c:lt (gi p m) (gi p (m-1)) with
  | true =>
   rw [if_pos rfl]
   have hd1:=hd.more O I (by ext) (by ext) (O.asym _ _ (I.lt (by ext)) (I.lt (by ext)) c)
   by_cases hq0:q > 0
   ·rw [if_pos hq0]
    have J:=I.rev (m-(q+1)) m
    have lk:=OQ O I (i:=m-(q+1)) (j:=m) (by ext) he
    obtain ⟨r,a1,a2,a3,a4,a5⟩:=LJ O f (PySem.W.kas_rev p (m-(q+1)) m) (m+1) 0 J (by ext) (by ext) (by ext) (hd1.like O I J (by ext) lk) (one _ J)
    exact ⟨r,a1,a2,by ext,by ext,a5⟩
   ·rw [if_neg hq0]
    obtain ⟨r,a1,a2,a3,a4,a5⟩:=LJ O f p (m+1) 0 I (by ext) (by ext) (by ext) hd1 (one _ I)
    exact ⟨r,a1,a2,by ext,by ext,a5⟩
  | false =>
   rw [if_neg AJ]
   unfold DY
   rw [e']
   dsimp only
   cases c2:lt (gi p (m-1)) (gi p m) with
   | true =>
    rw [if_pos rfl]
    exact ⟨(p,m,q),rfl,I,Al _,by show m≤_;ext,hq,hd,he⟩
   | false =>
    rw [if_neg AJ]
    have hd1:=hd.more O I (by ext) (by ext) c2
    obtain ⟨r,a1,a2,a3,a4,a5⟩:=LJ O f p (m+1) (q+1) I (by ext) (by ext) (by ext) hd1 λa b z1 z2 z3 z4=>by
     have key:∀ x,m+1-(q+1+1)≤x->x<m+1->lt (gi p x) (gi p (m-1))=false∧lt (gi p (m-1)) (gi p x)=false:=λx x1 x2=>by
      by_cases hx:x=m
      ·subst hx;exact ⟨c,c2⟩
      ·exact ⟨he _ _ (by ext) (by ext) (by ext) (by ext),he _ _ (by ext) (by ext) (by ext) (by ext)⟩
     exact O.trans (gi p b) (gi p (m-1)) (gi p a) (I.lt (by ext)) (I.lt (by ext)) (I.lt (by ext)) (key b z3 z4).2 (key a z1 z2).1
    exact ⟨r,a1,a2,by ext,by ext,a5⟩
theorem RJ (O:Pre n ask lt){p:Array Nat}(I:Ix' n p){m:Nat}(h1:1≤m)(hm:m≤n)(hd:Dn' lt p m):∃ r,DY ask (PySem.W.kas_tail3 m n p)=some r∧Ix' n r.2∧1≤r.1∧r.1≤n∧Up' lt r.2 r.1:=by
 have J:=I.rev 0 m
 have up:Up' lt (PySem.W.kas_rev p 0 m) m:=λa b hab hb=>by
  rw [JN (by rw [I.size];exact hm),JN (by rw [I.size];exact hm),if_pos (by ext),if_pos (by ext)]
  exact hd _ _ (by ext) (by ext)
 obtain ⟨k,a1,a2,a3,a4,_⟩:=QB O J (n-m) m h1 (by ext) up
 refine ⟨(k,PySem.W.kas_rev p 0 m),?_,J,by show 1≤k;ext,by show k≤n;ext,a4⟩
 unfold PySem.W.kas_tail3
 rw [FD,a1]
 rfl
theorem Ll (O:Pre n ask lt){p:Array Nat}(I:Ix' n p){m:Nat}(h1:1≤m)(hm:m<n)(eq:∀ a b,a<m->b<m->lt (gi p a) (gi p b)=false)(hl:lt (gi p m) (gi p (m-1))=true) :
  ∃ r,DY ask (PySem.W.kas_descPart m n p)=some r∧Ix' n r.2∧1≤r.1∧r.1≤n∧Up' lt r.2 r.1:=by
 have hd:Dn' lt p m:=λa b _ hb=>eq a b (by ext) hb
 have hd1:=hd.more O I hm (by ext) (O.asym _ _ (I.lt hm) (I.lt (by ext)) hl)
 obtain ⟨r,a1,a2,a3,a4,a5,a6,a7⟩:=LJ O (n-(m+1)) p (m+1) 0 I (by ext) (by ext) (by ext) hd1 λa b z1 z2 z3 z4=>by
  have:a=b:=by ext
  subst this
  exact O.irr (I.lt (by ext))
 unfold PySem.W.kas_descPart
 rw [FD,a1]
 show ∃ r',DY ask (if r.2.2 > 0 then _ else _)=some r'∧_
 by_cases hq:r.2.2 > 0
 ·rw [if_pos hq]
  have J:=a2.rev (r.2.1-(r.2.2+1)) r.2.1
  exact RJ O J (by ext) (by ext) (a6.like O a2 J (by ext) (OQ O a2 (by ext) a7))
 ·rw [if_neg hq]
  exact RJ O a2 (by ext) (by ext) a6
theorem UY (O:Pre n ask lt){p:Array Nat}(I:Ix' n p)(hn:1≤n):∃ r,DY ask (PySem.W.kas_count n p)=some r∧Ix' n r.2∧1≤r.1∧r.1≤n∧Up' lt r.2 r.1:=by
 obtain ⟨k,a1,a2,a3,a4,a5⟩:=QB O I (n-1) 1 (Al _) (by ext) (λa b _ hb=>by
  have:a=0:=by ext
  have:b=0:=by ext
  subst a b
  exact O.irr (I.lt (by ext)))
 unfold PySem.W.kas_count
 rw [FD,a1]
 show ∃ r',DY ask (if (k==n)=true then _ else _)=some r'∧_
 by_cases hk:k=n
 ·rw [if_pos (by simpa using hk)]
  exact ⟨(k,p),rfl,I,a2,by show k≤n;ext,a4⟩
 ·rw [if_neg (by simpa using hk)]
  have lk:=a5 (by ext)
  by_cases h1:k > 1
  ·rw [if_pos h1]
   have e:ask (p.getD 0 0) (p.getD (k-1) 0)=some (lt (gi p 0) (gi p (k-1))):=O.tot _ _ (I.lt (by ext)) (I.lt (by ext))
   unfold DY
   rw [e]
   dsimp only
   cases c:lt (gi p 0) (gi p (k-1)) with
   | true =>
    rw [if_pos rfl]
    exact ⟨(k,p),rfl,I,a2,by show k≤n;ext,a4⟩
   | false =>
    rw [if_neg AJ]
    have J:=I.rev 0 k
    have eqp:∀ a b,a<k->b<k->lt (gi p a) (gi p b)=false:=λa b ha hb=>by
     exact O.trans (gi p b) (gi p 0) (gi p a) (I.lt (by ext)) (I.lt (by ext)) (I.lt (by ext)) (O.trans (gi p b) (gi p (k-1)) (gi p 0) (I.lt (by ext)) (I.lt (by ext)) (I.lt (by ext)) (a4 b (k-1) (by ext) (by ext)) c) (a4 0 a (by ext) ha)
    refine Ll O J (by ext) (by ext) (λa b ha hb=>?_) ?_
    ·rw [JN (by rw [I.size];ext),JN (by rw [I.size];ext),if_pos (by ext),if_pos (by ext)]
     exact eqp _ _ (by ext) (by ext)
    ·rw [JN (by rw [I.size];ext),JN (by rw [I.size];ext),if_neg (by ext),if_pos (by ext)]
     cases z:lt (gi p k) (gi p (0+k-1-(k-1))) with
     | true=>rfl
     | false =>
      have:=O.trans (gi p (k-1)) (gi p (0+k-1-(k-1))) (gi p k) (I.lt (by ext)) (I.lt (by ext)) (I.lt (by ext)) (eqp _ _ (by ext) (by ext)) z
      rw [lk] at this
      cases this
  ·rw [if_neg h1]
   exact Ll O I a2 (by ext) (λa b ha hb=>by
    have:a=0:=by ext
    have:b=0:=by ext
    subst a b
    exact O.irr (I.lt (by ext))) lk
theorem Mt (O:Pre n ask lt){p:Array Nat}(I:Ix' n p){k:Nat}(hk:k<n)(up:Up' lt p k):∀ (f l r:Nat),l≤r->r≤k->r-l≤f->(∀ j,j<l->lt (gi p k) (gi p j)=false)->(∀ j,r≤j->j<k->lt (gi p k) (gi p j)=true) ->
  ∃ m,DY ask (PySem.W.kas_place p k f l r)=some m∧m≤k∧(∀ j,j<m->lt (gi p k) (gi p j)=false)∧∀ j,m≤j->j<k->lt (gi p k) (gi p j)=true
 | 0,l,r,h1,h2,h3,hl,hr=>⟨l,rfl,by ext,hl,λj a b=>hr j (by ext) b⟩
 | f+1,l,r,h1,h2,h3,hl,hr=>by
  unfold PySem.W.kas_place
  by_cases c:l ≥ r
  ·rw [if_pos c]
   exact ⟨l,rfl,by ext,hl,λj a b=>hr j (by ext) b⟩
  ·rw [if_neg c]
   have e:ask (p.getD k 0) (p.getD ((l+r) / 2) 0)=some (lt (gi p k) (gi p ((l+r) / 2))):=O.tot _ _ (I.lt hk) (I.lt (by ext))
   unfold DY
   rw [e]
   dsimp only
   cases c2:lt (gi p k) (gi p ((l+r) / 2)) with
   | true =>
    rw [if_pos rfl]
    refine Mt O I hk up f l ((l+r) / 2) (by ext) (by ext) (by ext) hl λj a b=>?_
    cases z:lt (gi p k) (gi p j) with
    | true=>rfl
    | false =>
     have:=O.trans (gi p ((l+r) / 2)) (gi p j) (gi p k) (I.lt (by ext)) (I.lt (by ext)) (I.lt hk) (up _ _ a b) z
     rw [c2] at this
     cases this
   | false =>
    rw [if_neg AJ]
    refine Mt O I hk up f ((l+r) / 2+1) r (by ext) (by ext) (by ext) (λj a=>?_) hr
    exact O.trans (gi p j) (gi p ((l+r) / 2)) (gi p k) (I.lt (by ext)) (I.lt (by ext)) (I.lt hk) (up _ _ (by ext) (by ext)) c2
theorem Ud (O:Pre n ask lt):∀ (f:Nat) (p:Array Nat) (k:Nat),Ix' n p->1≤k->k+f=n->Up' lt p k->∃ r,DY ask (PySem.W.kas_bin f p k)=some r∧Ix' n r∧Up' lt r n
 | 0,p,k,I,_,h,up=>⟨p,rfl,I,by have:k=n:=(by ext);subst this;exact up⟩
 | f+1,p,k,I,h1,h,up=>by
  obtain ⟨m,a1,a2,a3,a4⟩:=Mt O I (k:=k) (by ext) up k 0 k (by ext) (by ext) (by ext) (λj hj=>by ext) (λj a b=>by ext)
  unfold PySem.W.kas_bin
  rw [FD,a1]
  show ∃ r,DY ask (PySem.W.kas_bin f (bubble p k (k-m)) (k+1))=some r∧_
  have hs:k<p.size:=by rw [I.size];ext
  have J:=I.bub k (k-m)
  have g:∀ j,gi (bubble p k (k-m)) j=if j=m then gi p k else if m<j∧j≤k then gi p (j-1) else gi p j:=λj=>by
   have:=YU hs (d:=k-m) (by ext) j
   rw [show k-(k-m)=m by ext] at this
   exact this
  refine Ud O f _ (k+1) J (by ext) (by ext) λa b hab hb=>?_
  rw [g a,g b]
  by_cases ea:a=m
  ·rw [if_pos ea]
   by_cases eb:b=m
   ·rw [if_pos eb];exact O.irr (I.lt (by ext))
   ·rw [if_neg eb,if_pos (by ext)]
    exact O.asym _ _ (I.lt (by ext)) (I.lt (by ext)) (a4 (b-1) (by ext) (by ext))
  ·rw [if_neg ea]
   by_cases eb:b=m
   ·rw [if_pos eb,if_neg (by ext)]
    exact a3 a (by ext)
   ·rw [if_neg eb]
    by_cases ca:m<a∧a≤k
    ·rw [if_pos ca,if_pos (by ext)];exact up _ _ (by ext) (by ext)
    ·rw [if_neg ca]
     by_cases cb:m<b∧b≤k
     ·rw [if_pos cb];exact up _ _ (by ext) (by ext)
     ·rw [if_neg cb];exact up _ _ (by ext) (by ext)
theorem V9 (O:Pre n ask lt)(hn:1≤n):∃ p,DY ask (PySem.W.kas_sort n)=some p∧p.toList.Perm (List.range n)∧Up' lt p n:=by
 have I:Ix' n (List.toArray (List.range n)):=⟨by simp⟩
 obtain ⟨r,a1,a2,a3,a4,a5⟩:=UY O I hn
 unfold PySem.W.kas_sort
 rw [FD,a1]
 show ∃ p,DY ask (if r.1<n then _ else _)=some p∧_
 by_cases c:r.1<n
 ·rw [if_pos c]
  obtain ⟨q,b1,b2,b3⟩:=Ud O (n-max r.1 1) r.2 (max r.1 1) a2 (by ext) (by ext) (by rw [show max r.1 1=r.1 by ext];exact a5)
  exact ⟨q,b1,b2.pm,b3⟩
 ·rw [if_neg c]
  exact ⟨r.2,rfl,a2.pm,by rw [show n=r.1 by ext];exact a5⟩
end
end PV
namespace PV
open PySem L2 PySem.Spec PyProof.Rows
section
variable {X:Cx} {K:Zc} {th:List Addr} {mu:Sto} {H:Hp}
theorem Vals.pick {zs:List V}{us:List Value}(q:Vals zs us)(f:Nat->V)(g:Nat->Value):∀ (p:List Nat),(∀ i∈p,RelV (f i) (g i))->Vals (p.map f) (p.map g)
 | [],_=>.nil
 | i::p,h=>.cons (h i (.head _)) (Vals.pick q f g p λj hj=>h j (.tail _ hj))
theorem RepL.pick {ds:List D}{vs:List V}(f:Nat->D)(g:Nat->V):∀ (p:List Nat),(∀ i∈p,Rep K th H (f i) (g i))->RepL K th H (p.map f) (p.map g)
 | [],_=>.nil
 | i::p,h=>.cons (h i (.head _)) (RepL.pick (ds:=ds) (vs:=vs) f g p λj hj=>h j (.tail _ hj))
theorem CallV.or {f:Value}{g g':Fn}(h:CallV X f g)(h':CallV X f g'):CallV X f λds mu=>match g ds mu with|some r=>some r|none=>g' ds mu:=by
 intro pins s st H xs us Q I r q
 obtain ⟨th,mu,ds,so,rd,t⟩:=q
 cases e:g ds mu with
 | some p =>
  refine h pins s st H xs us Q I r ⟨th,mu,ds,so,rd,?_⟩
  rw [e];simpa only [e] using t
 | none =>
  refine h' pins s st H xs us Q I r ⟨th,mu,ds,so,rd,?_⟩
  simpa only [e] using t
end
mutual
theorem Hs:∀ {d:D},hsh d=true->Dc d=true
 | .non,_=>rfl
 | .int _,_=>rfl
 | .str _,_=>rfl
 | .tup ds,h=>by unfold hsh at h;unfold Dc;exact MZ h
 | .bl _,h=>nomatch h
 | .lst _,h=>nomatch h
 | .dct _ _,h=>nomatch h
 | .set _,h=>nomatch h
 | .ref _,h=>nomatch h
theorem MZ:∀ {ds:List D},HS ds=true->EB ds=true
 | [],_=>rfl
 | d::ds,h=>by
  unfold HS at h
  rw [Ab] at h
  unfold EB
  rw [Hs h.1,MZ h.2]
  rfl
end
mutual
theorem Kx:∀ {d:D},hsh d=true->(toPy d).depth=dpt d
 | .non,_=>rfl
 | .int _,_=>rfl
 | .str _,_=>rfl
 | .tup ds,h=>by unfold hsh at h;unfold toPy PyData.depth dpt;rw [NC h]
 | .bl _,h=>nomatch h
 | .lst _,h=>nomatch h
 | .dct _ _,h=>nomatch h
 | .set _,h=>nomatch h
 | .ref _,h=>nomatch h
theorem NC:∀ {ds:List D},HS ds=true->PyData.depthAll (CT ds)=Lu ds
 | [],_=>rfl
 | d::ds,h=>by
  unfold HS at h
  rw [Ab] at h
  unfold CT PyData.depthAll Lu
  rw [Kx h.1,NC h.2]
end
mutual
theorem Hm:∀ {d e:D},hsh d=true->hsh e=true->PyData.eqv (toPy d) (toPy e)=decide (d=e)
 | .tup ds,.tup es,h,g=>by
  unfold hsh at h g
  unfold toPy PyData.eqv
  rw [Ph h g]
  simp
 | .non,e,_,g=>by cases e<;>first|rfl|(simp [toPy,PyData.eqv];done)|cases g
 | .int i,.int j,_,_=>by by_cases c:i=j<;>simp [toPy,PyData.eqv,c]
 | .str i,.str j,_,_=>by by_cases c:i=j<;>simp [toPy,PyData.eqv,c]
 | .int _,.non,_,g=>by simp [toPy,PyData.eqv]
 | .int _,.str _,_,g=>by simp [toPy,PyData.eqv]
 | .int _,.tup _,_,g=>by simp [toPy,PyData.eqv]
 | .str _,.non,_,g=>by simp [toPy,PyData.eqv]
 | .str _,.int _,_,g=>by simp [toPy,PyData.eqv]
 | .str _,.tup _,_,g=>by simp [toPy,PyData.eqv]
 | .int _,.bl _,_,g=>nomatch g
 | .int _,.lst _,_,g=>nomatch g
 | .int _,.dct _ _,_,g=>nomatch g
 | .int _,.set _,_,g=>nomatch g
 | .int _,.ref _,_,g=>nomatch g
 | .str _,.bl _,_,g=>nomatch g
 | .str _,.lst _,_,g=>nomatch g
 | .str _,.dct _ _,_,g=>nomatch g
 | .str _,.set _,_,g=>nomatch g
 | .str _,.ref _,_,g=>nomatch g
 | .tup _,.non,_,_=>by simp [toPy,PyData.eqv]
 | .tup _,.int _,_,_=>by simp [toPy,PyData.eqv]
 | .tup _,.str _,_,_=>by simp [toPy,PyData.eqv]
 | .tup _,.bl _,_,g=>nomatch g
 | .tup _,.lst _,_,g=>nomatch g
 | .tup _,.dct _ _,_,g=>nomatch g
 | .tup _,.set _,_,g=>nomatch g
 | .tup _,.ref _,_,g=>nomatch g
 | .bl _,_,h,_=>nomatch h
 | .lst _,_,h,_=>nomatch h
 | .dct _ _,_,h,_=>nomatch h
 | .set _,_,h,_=>nomatch h
 | .ref _,_,h,_=>nomatch h
theorem Ph:∀ {ds es:List D},HS ds=true->HS es=true->PyData.eqvAll (CT ds) (CT es)=decide (ds=es)
 | [],[],_,_=>by simp [CT,PyData.eqvAll]
 | [],_::_,_,_=>by simp [CT,PyData.eqvAll]
 | _::_,[],_,_=>by simp [CT,PyData.eqvAll]
 | d::ds,e::es,h,g=>by
  unfold HS at h g
  rw [Ab] at h g
  unfold CT PyData.eqvAll
  rw [Hm h.1 g.1,Ph h.2 g.2]
  by_cases c:d=e<;>by_cases c':ds=es<;>simp [c,c']
end
theorem EY {d:D}(h:EO d=true):hsh d=true∧dpt d≤8:=by
 unfold EO at h
 rw [Ab,Ad] at h
 exact h
structure Hd (h:Heap) (d:D) (u:Value):Prop where
 k:EO d=true
 ok:(toPy d).canLay0=true
 rd:∃ as,Reads h u (toPy d) as
theorem JH {X:Cx}{th:List Addr}{H:Hp}{pins:List (Addr×Obj)}{st:L2.St}{s:Shared}(I:L2.Inv X pins st H s){d:D}{v:V}{u:Value}(k:EO d=true)(r:Rep X.z th H d v)(q:RelV v u):Hd s.heap d u:=by
 obtain ⟨as,h1,h2⟩:=FI I d v u (Hs (EY k).1) r q
 exact ⟨k,h2,as,h1⟩
section
variable {prog:Program} {w:World} {E:Value->Shared->Prop}
mutual
theorem TV:∀ (d:D) (u:Value) (as:List Addr) (A:Around) (s:Shared) (Q:Int->Shared->Prop),hsh d=true->Reads s.heap u (toPy d) as->A.units+dpt d<cLine->(∀ tk,Q (D0 w d) { s with toks:=tk })->wpAny (model prog w) A (pyHash u) Q E s
 | .non,_,as,A,s,Q,_,x,hu,h=>by
  cases x
  exact PySem.W.pyHash_slot (T:="NoneType") rfl F.slot_NoneType_hash F.entry_NoneType_hash (F.args_NoneType_hash_1 _) (beq_builtin_none _) (.inr (by unfold dpt at hu;ext)) (Aa (Ac (Aa (wpAny_mkInt (Ac ⟨_,_,rfl,h _⟩)))))
 | .int i,_,as,A,s,Q,_,x,_,h=>by cases x;exact wpAny_pyHash_int (h _)
 | .str y,_,as,A,s,Q,_,x,_,h=>by cases x;exact wpAny_pyHash_str (h _)
 | .tup ds,_,as,A,s,Q,hk,x,hu,h=>by
  unfold toPy at x
  cases x with
  | @tuple a o vs n _ _ g1 g2 g3 hw =>
   unfold dpt at hu
   refine PySem.W.pyHash_slot (T:="tuple") ⟨_,g1,g2⟩ F.slot_tuple_hash F.entry_tuple_hash (F.args_tuple_hash_1 _) (beq_builtin_none _) (.inr (by ext)) ?_
   refine (?_:wpAny _ _ (Builtin.Tuple.tupleItemsOf (.ref a) >>= _) _ _ s)
   refine Aa (wpAny_tupleItemsOf g1 g3 (Aa ?_))
   rw [← Array.forIn_toList]
   refine RG ds vs.toList as A.in1 s #[] _ (by unfold hsh at hk;exact hk) hw (by rw [Around.in1_units];ext) λtk b hb=>?_
   refine (?_:wpAny _ _ (retInt (Builtin.Tuple.tupleHashOf b.toList)) _ _ _)
   rw [hb]
   exact Aa (wpAny_mkInt (Ac ⟨_,_,rfl,h _⟩))
 | .bl _,_,_,_,_,_,h,_,_,_=>nomatch h
 | .lst _,_,_,_,_,_,h,_,_,_=>nomatch h
 | .dct _ _,_,_,_,_,_,h,_,_,_=>nomatch h
 | .set _,_,_,_,_,_,h,_,_,_=>nomatch h
 | .ref _,_,_,_,_,_,h,_,_,_=>nomatch h
theorem RG:∀ (ds:List D) (vs:List Value) (as:List Addr) (A:Around) (s:Shared) (b:Array Int) (Q:Array Int->Shared->Prop),HS ds=true->ReadsAll s.heap vs (CT ds) as->A.units+Lu ds<cLine ->
  (∀ tk b',b'.toList=b.toList++Fb w ds->Q b' { s with toks:=tk }) ->
  wpAny (model prog w) A (forIn vs b λx r=>do let h←pyHash x;pure PUnit.unit;pure (ForInStep.yield (r.push h))) Q E s
 | [],_,as,A,s,b,Q,_,x,_,h=>by unfold CT at x;cases x;exact Ac (h s.toks b (by simp [Fb]))
 | d::ds,_,as,A,s,b,Q,hk,x,hu,h=>by
  unfold CT at x
  cases x with
  | cons x1 x2 =>
   unfold HS at hk
   rw [Ab] at hk
   unfold Lu at hu
   rw [List.forIn_cons]
   refine Aa (Aa (TV d _ _ A s _ hk.1 x1 (by ext) λtk=>Aa (Ac (Ac ?_))))
   exact RG ds _ _ A { s with toks:=tk } _ Q hk.2 x2 (by ext) λtk' b' hb=>h tk' b' (by simp [hb,Fb])
end
theorem Hd.hash {A:Around}{s:Shared}{d:D}{u:Value}{Q:Int->Shared->Prop}(x:Hd s.heap d u)(hu:A.units+8<cLine)(h:∀ tk,Q (D0 w d) { s with toks:=tk }):wpAny (model prog w) A (pyHash u) Q E s:=by
 obtain ⟨as,r⟩:=x.rd
 have:=EY x.k
 exact TV d u as A s Q this.1 r (by ext) h
theorem Hd.eq {A:Around}{s:Shared}{d e:D}{u v:Value}{Q:Bool->Shared->Prop}(x:Hd s.heap d u)(y:Hd s.heap e v)(hu:A.units+8<cLine)(h:Q (decide (d=e)) s):wpAny (model prog w) A (eqBool u v) Q E s:=by
 obtain ⟨as,r⟩:=x.rd
 obtain ⟨bs,r'⟩:=y.rd
 have k1:=EY x.k
 have k2:=EY y.k
 refine SeqAt.eqAt_reads _ _ A s u v as bs r r' x.ok y.ok (by rw [Kx k1.1,Kx k2.1];ext) prog w E Q ?_
 rw [Hm k1.1 k2.1]
 exact h
mutual
theorem Rv:∀ (n:Nat) (d:D) (u:Value) (as:List Addr) (A:Around) (s:Shared) (Q:Bool->Shared->Prop),hsh d=true->dpt d≤n->Reads s.heap u (toPy d) as->Q true s->wpAny (model prog w) A (eqIsQuiet n u) Q E s
 | n,.non,_,as,A,s,Q,_,_,x,h=>by cases x;rw [eqIsQuiet_byValue n rfl];exact Ac h
 | n,.int _,_,as,A,s,Q,_,_,x,h=>by cases x;rw [eqIsQuiet_byValue n rfl];exact Ac h
 | n,.str _,_,as,A,s,Q,_,_,x,h=>by cases x;rw [eqIsQuiet_byValue n rfl];exact Ac h
 | n,.tup ds,_,as,A,s,Q,hk,hn,x,h=>by
  unfold toPy at x
  cases x with
  | @tuple a o vs k _ _ g1 g2 g3 hw =>
   unfold dpt at hn
   obtain ⟨m,rfl⟩:∃ m,n=m+1:=⟨n-1,by ext⟩
   have hT:s.TypeIs (.ref a) "tuple":=⟨o,g1,g2⟩
   unfold eqIsQuiet
   refine Aa (wpAny_specialOf hT F.slot_tuple_eq.lookup ?_)
   refine (?_:wpAny _ _ (isInstance (.ref a) (.type "tuple") >>= _) _ _ s)
   refine Aa (wpAny_isInstance hT isSubtype_tuple_tuple ?_)
   simp only [Bool.not_true,AG,AZ]
   refine Aa (wpAny_seqItems g1 g3 (Aa ?_))
   refine (?_:wpAny _ _ (forIn vs _ _) _ _ s)
   rw [← Array.forIn_toList]
   exact OK m ds vs.toList as A s _ (by unfold hsh at hk;exact hk) (by ext) hw (Ac h)
 | _,.bl _,_,_,_,_,_,h,_,_,_=>nomatch h
 | _,.lst _,_,_,_,_,_,h,_,_,_=>nomatch h
 | _,.dct _ _,_,_,_,_,_,h,_,_,_=>nomatch h
 | _,.set _,_,_,_,_,_,h,_,_,_=>nomatch h
 | _,.ref _,_,_,_,_,_,h,_,_,_=>nomatch h
theorem OK:∀ (m:Nat) (ds:List D) (vs:List Value) (as:List Addr) (A:Around) (s:Shared) (Q:Option Bool×PUnit->Shared->Prop),HS ds=true->Lu ds≤m->ReadsAll s.heap vs (CT ds) as->Q (none,PUnit.unit) s ->
  wpAny (model prog w) A (forIn vs ((none,PUnit.unit):Option Bool×PUnit) λy r=>do
    let q←eqIsQuiet m y
    if (!q)=true then pure (ForInStep.done (some false,PUnit.unit)) else pure (ForInStep.yield (none,PUnit.unit))) Q E s
 | m,[],_,as,A,s,Q,_,_,x,h=>by unfold CT at x;cases x;exact Ac h
 | m,d::ds,_,as,A,s,Q,hk,hn,x,h=>by
  unfold CT at x
  cases x with
  | cons x1 x2 =>
   unfold HS at hk
   rw [Ab] at hk
   unfold Lu at hn
   rw [List.forIn_cons]
   refine Aa (Aa (Rv m d _ _ A s _ hk.1 (by ext) x1 ?_))
   simp only [Bool.not_true,AG,AZ]
   exact Ac (OK m ds _ _ A s Q hk.2 (by ext) x2 h)
end
theorem Hd.quiet {A:Around}{s:Shared}{d:D}{u:Value}{Q:Bool->Shared->Prop}(x:Hd s.heap d u)(h:Q true s):wpAny (model prog w) A (eqIsQuiet 8 u) Q E s:=by
 obtain ⟨as,r⟩:=x.rd
 have k:=EY x.k
 exact Rv 8 d u as A s Q k.1 k.2 r h
end
def EnK (w:World)(h:Heap)(k:D)(e:DictEntry):Prop:=e.hash=D0 w k∧Hd h k e.key
theorem D7 {α β:Type}{F:α->β->Prop}:∀ {xs:List α} {ys:List β},Paired F xs ys->∀ j:Nat,(∀ x,xs[j]? = some x->∃ y,ys[j]? = some y∧F x y)∧(∀ y,ys[j]? = some y->∃ x,xs[j]? = some x∧F x y)
 | _,_,.nil,j=>⟨λx e=>by simp at e,λy e=>by simp at e⟩
 | _,_,.cons r t,0=>⟨λx e=>by simp at e;subst e;exact ⟨_,rfl,r⟩,λy e=>by simp at e;subst e;exact ⟨_,rfl,r⟩⟩
 | _,_,.cons r t,j+1=>by simpa using D7 t j
theorem DH {α β:Type}{F:α->β->Prop}:∀ {xs:List α} {ys:List β},Paired F xs ys->xs.length=ys.length
 | _,_,.nil=>rfl
 | _,_,.cons _ t=>by simp [DH t]
theorem Ti {h:Heap}{k:D}{y:Str}{t:Tok}(x:Hd h k (.str y t)):k=.str y:=by
 obtain ⟨as,r⟩:=x.rd
 have hk:=(EY x.k).1
 cases k<;>first|(cases hk;done)|(unfold toPy at r;cases r;done)|(unfold toPy at r;cases r;rfl)
theorem Za {h:Heap}{k k':D}{u:Value}(x:Hd h k u)(y:Hd h k' u):k=k':=by
 obtain ⟨as,r⟩:=x.rd
 obtain ⟨bs,r'⟩:=y.rd
 have hk:=(EY x.k).1
 have hk':=(EY y.k).1
 have e:toPy k=toPy k':=SeqAt.Reads.unique _ _ _ _ _ x.ok r r'
 have:=Hm hk hk'
 rw [← e,Hm hk hk] at this
 simpa using this
theorem Xq {ks:List D}(hn:ks.Nodup){i j:Nat}{k:D}(a:ks[i]? = some k)(b:ks[j]? = some k):i=j:=by
 obtain ⟨hi,ei⟩:=Ah.mp a
 exact (List.getElem?_inj hi hn).mp (a.trans b.symm)
section
variable {prog:Program} {w:World} {A:Around} {E:Value->Shared->Prop} {s:Shared}
theorem Jh {α:Type}{M:Model}{c:Prop} [Decidable c]{x y:Sem α}{Q:α->Shared->Prop}(h1:c->wpAny M A x Q E s)(h2:¬ c->wpAny M A y Q E s):wpAny M A (if c then x else y) Q E s:=by
 by_cases h:c
 ·rw [if_pos h];exact h1 h
 ·rw [if_neg h];exact h2 h
theorem VU {k:D}{u:Value}{stored:List Value}{Q:Bool->Shared->Prop}(hk:Hd s.heap k u)(hst:∀ v∈stored,∃ k',Hd s.heap k' v)(h:Q false s):wpAny (model prog w) A (tableMayTell u stored) Q E s:=by
 unfold tableMayTell
 split
 ·exact Ac h
 ·refine Aa (hk.quiet ?_)
  simp only [Bool.not_true,AG,AZ]
  refine Aa (wpAny_forIn_list _ (λrest r s'=>s'=s∧r=(none,PUnit.unit)∧∀ v∈rest,∃ k',Hd s.heap k' v) _ ?_ ?_ _ _ ⟨rfl,rfl,hst⟩)
  ·rintro x rest r s' ⟨rfl,rfl,hr⟩
   obtain ⟨k',hb⟩:=hr x List.mem_cons_self
   refine Aa (hb.quiet ?_)
   simp only [Bool.not_true,AG,AZ]
   exact Ac ⟨rfl,rfl,λv hv=>hr v (Bv _ hv)⟩
  ·rintro r s' ⟨rfl,rfl,_⟩;exact Ac h
theorem WB {h:Heap}{p:PyData}{u:Value}{as:List Addr}(r:Reads h u p as):u=.none∨(∃ i t,u=.int i t)∨(∃ x t,u=.str x t)∨(∃ b,u=.ref b)∨∃ b,p=.bool b:=by
 cases r
 all_goals first|exact .inl rfl|exact .inr (.inl ⟨_,_,rfl⟩)|exact .inr (.inr (.inl ⟨_,_,rfl⟩))|exact .inr (.inr (.inr (.inl ⟨_,rfl⟩)))|exact .inr (.inr (.inr (.inr ⟨_,rfl⟩)))
theorem V3 {h:Heap}{k:D}{u:Value}(hk:Hd h k u):u=.none∨(∃ i t,u=.int i t)∨(∃ x t,u=.str x t)∨∃ b,u=.ref b:=by
 obtain ⟨as,r⟩:=hk.rd
 have hh:=(EY hk.k).1
 rcases WB r with h|h|h|h|⟨b,h⟩
 ·exact .inl h
 ·exact .inr (.inl h)
 ·exact .inr (.inr (.inl h))
 ·exact .inr (.inr (.inr h))
 ·cases k<;>first|(cases hh;done)|(unfold toPy at h;cases h;done)
theorem Ml {a:Addr}{o:Obj}{es:Array DictEntry}{ep:Nat}{ks:List D}{k:D}{u:Value}{Q:Option Nat->Shared->Prop}(hu:A.units+8<cLine)(hk:Hd s.heap k u)(ho:s.heap.get? a=some o)(hd:o.data=.dict es ep)
  (he:Paired (EnK w s.heap) ks es.toList) (hn:ks.Nodup) (h0:k∉ks->Q none s) (h1:∀ j,ks[j]? = some k->Q (some j) s):wpAny (model prog w) A (dictFind a u (D0 w k)) Q E s:=by
 have hat:∀ j e,es[j]? = some e->∃ k',ks[j]? = some k'∧EnK w s.heap k' e:=λj e q=>(D7 he j).2 e (by rw [AA];exact q)
 have hto:∀ j k',ks[j]? = some k'->∃ e,es[j]? = some e∧EnK w s.heap k' e:=λj k' q=>by
  obtain ⟨e,e1,e2⟩:=(D7 he j).1 k' q
  exact ⟨e,by rw [← AA];exact e1,e2⟩
 have hsz:es.size=ks.length:=by rw [DH he,Array.length_toList]
 have hno:(∀ j,ks[j]?≠some k)->k∉ks:=λq z=>by obtain ⟨j,e⟩:=AS.mp z;exact q j e
 unfold dictFind
 try with_reducible refine AI ?_
 refine Aa (BX ho hd ?_)
 have hp:∀ j,ks[j]? = some k->(es[j]?.map (λe:DictEntry=>e.hash)==some (D0 w k))=true:=λj q=>by
  obtain ⟨e,e1,e2,_⟩:=hto j k q
  rw [e1];simp [e2]
 have walk:wpAny (model prog w) A (dictWalkPlain a u (D0 w k) es (placesWithHash es.size (λi=>es[i]?.map (λe:DictEntry=>e.hash)) (D0 w k))) Q E s:=by
  unfold dictWalkPlain
  refine Aa (wpAny_forIn_list _ (λrest b s'=>s'=s∧b=(none,PUnit.unit)∧∃ i,rest=(List.range' i (es.size-i)).filter (λi=>es[i]?.map (λe:DictEntry=>e.hash)==some (D0 w k))∧i≤es.size∧∀ j,j<i->ks[j]?≠some k) _ ?_ ?_ _ _
   ⟨rfl,rfl,0,by rw [placesWithHash,List.range_eq_range',Nat.sub_zero],A0 _,λj z=>absurd z (Nat.not_lt_zero _)⟩)
  ·rintro x rest b s' ⟨rfl,rfl,i,hr,hi,hH⟩
   obtain ⟨hix,hxn,hpx,hskip,hrest⟩:=filter_range'_cons _ _ _ _ _ hr.symm
   have hlt:x<es.size:=by ext
   have ex:es[x]? = some es[x]:=AH hlt
   obtain ⟨k',e1,e2,e3⟩:=hat x _ ex
   rw [ex] at hpx ⊢
   have hh:es[x].hash=D0 w k:=by simpa using hpx
   have hh':(es[x].hash==D0 w k)=true:=by simpa using hh
   have nx:∀ j,j<x->ks[j]?≠some k:=λj hj q=>by
    rcases Nat.lt_or_ge j i with z|z
    ·exact hH j z q
    ·have:=hskip j z hj;rw [hp j q] at this;cases this
   dsimp only
   rw [if_pos hh']
   refine Aa (BP ho hd (Aa (e3.eq hk hu (Aa (BP ho hd ?_)))))
   rw [if_neg (by simp)]
   by_cases c:k'=k
   ·rw [Bw c]
    subst c
    exact Aa (Bo (Ac (Ac (h1 x e1))))
   ·rw [AV c]
    refine Aa (Bo (Ac ⟨rfl,rfl,x+1,by rw [hrest];congr 2;ext,hlt,λj hj q=>?_⟩))
    rcases Nat.lt_or_ge j x with z|z
    ·exact nx j z q
    ·have:j=x:=by ext
     subst this
     rw [e1] at q
     exact c (AN q)
  ·rintro b s' ⟨rfl,rfl,i,hr,hi,hH⟩
   refine Ac (h0 (hno λj q=>?_))
   rcases Nat.lt_or_ge j i with z|z
   ·exact hH j z q
   ·have hj:j<es.size:=by rw [hsz];exact (Ah.mp q).1
    have:=List.filter_eq_nil_iff.mp hr.symm j (List.mem_range'_1.mpr ⟨z,by ext⟩)
    exact this (hp j q)
 have hst:∀ v∈(placesWithHash es.size (λi=>es[i]?.map (λe:DictEntry=>e.hash)) (D0 w k)).filterMap (λi=>es[i]?.map (λe:DictEntry=>e.key)),∃ k',Hd s.heap k' v:=λv hv=>by
  obtain ⟨i,_,hi⟩:=List.mem_filterMap.mp hv
  cases ei:es[i]? with
  | none=>rw [ei] at hi;cases hi
  | some e =>
   rw [ei] at hi
   obtain rfl:e.key=v:=by simpa using hi
   obtain ⟨k',_,_,q⟩:=hat i e ei
   exact ⟨k',q⟩
 have hany:∀ b,u=.ref b->¬ (es.any λe=>e.key==u&&e.hash != D0 w k)=true:=λb hb=>by
  rw [← Array.any_toList,List.any_eq_true]
  rintro ⟨e,hin,hc⟩
  obtain ⟨j,ej⟩:=AS.mp hin
  obtain ⟨k',_,q1,q2⟩:=hat j e (by rw [← AA];exact ej)
  rw [Ab,bne_iff_ne] at hc
  have ek:e.key=u:=eq_of_beq hc.1
  rw [ek] at q2
  exact hc.2 (by rw [q1,Za q2 hk])
 have c4:=V3 hk
 have str:∀ x t,u=.str x t->(es.all λe=>isExactStrKey e.key)=true->wpAny (model prog w) A (foundByValue a u es x) Q E s:=λx t hux hall=>by
  subst hux
  have kx:=Ti hk
  subst kx
  have hiff:∀ e∈es.toList,∀ k',Hd s.heap k' e.key->(e.key.isStr x=true ↔ k'=.str x):=λe hm k' q=>by
   rw [← Array.all_toList,Ao] at hall
   have:=hall e hm
   cases ek:e.key<;>rw [ek] at this q<;>first|(cases this;done)|skip
   rename_i y ty
   rw [Ti q]
   show (y==x)=true ↔ _
   simp
  have hidx:es.findIdx? (λe=>e.key.isStr x)=es.toList.findIdx? (λe=>e.key.isStr x):=by cases es;simp
  unfold foundByValue
  rw [hidx]
  cases hr:es.toList.findIdx? (λe=>e.key.isStr x) with
  | none =>
   refine Ac (h0 (hno λj q=>?_))
   obtain ⟨e,e1,e2,e3⟩:=hto j _ q
   have hm:e∈es.toList:=Ap (by rw [AA];exact e1)
   have:=List.findIdx?_eq_none_iff.mp hr e hm
   rw [(hiff e hm _ e3).mpr rfl] at this
   cases this
  | some j =>
   obtain ⟨hj,hpj,_⟩:=List.findIdx?_eq_some_iff_getElem.mp hr
   have he':es[j]? = some es.toList[j]:=by rw [← AA];exact Au hj
   obtain ⟨k',e1,e2,e3⟩:=hat j _ he'
   have kk:=(hiff _ (BQ hj) _ e3).mp hpj
   subst kk
   dsimp only
   rw [he']
   dsimp only
   refine Aa (BP ho hd (Aa (e3.eq hk hu (Aa (BP ho hd ?_)))))
   rw [if_neg (by simp),Bw rfl]
   exact Aa (Bo (Ac (h1 j e1)))
 obtain ⟨u',hu'⟩:∃ u',u'=u:=⟨u,rfl⟩
 have hA:∀ v,eqBool v u=eqBool v u':=λv=>by rw [hu']
 have hB:keyPart u=keyPart u':=by rw [hu']
 have hk':Hd s.heap k u':=by rw [hu'];exact hk
 simp only [hA,hB]
 clear hA hB hu'
 refine (λtail=>?main) (?tail:wpAny (model prog w) A ?T Q E s)
 case main =>
  rcases c4 with rfl|⟨i,t,rfl⟩|⟨x,t,rfl⟩|⟨b,rfl⟩
  case' inl=>refine Jh (λ_=>walk) λ_=>?_
  case' inr.inl=>refine Jh (λ_=>walk) λ_=>?_
  case' inr.inr.inl=>refine Jh (λhall=>str x t rfl hall) λ_=>Jh (λ_=>walk) λ_=>?_
  case' inr.inr.inr=>refine Jh (λ_=>walk) λ_=>?_
  case' inr.inr.inr=>refine Jh (λz=>absurd z (hany b rfl)) λ_=>?_
  all_goals
   refine Jh (λ_=>Aa (Ac ?_)) (λ_=>Aa (VU hk hst ?_))<;>(
    refine Jh (λz=>absurd z (by simp)) λ_=>?_
    exact tail)
 case tail =>
  refine Aa (wpAny_forIn_list _ (λrest b s'=>s'=s∧∃ i hit,b=(none,hit)∧rest=(List.range' i (es.size-i)).filter (λi=>es[i]?.map (λe:DictEntry=>e.hash)==some (D0 w k))∧i≤es.size ∧
    ((hit=none∧∀ j,j<i->ks[j]?≠some k)∨∃ j,hit=some j∧j<i∧ks[j]? = some k)) _ ?_ ?_ _ _
   ⟨rfl,0,none,rfl,by rw [placesWithHash,List.range_eq_range',Nat.sub_zero],A0 _,.inl ⟨rfl,λj z=>absurd z (Nat.not_lt_zero _)⟩⟩)
  ·rintro x rest b s' ⟨rfl,i,hit,rfl,hr,hi,hH⟩
   obtain ⟨hix,hxn,hpx,hskip,hrest⟩:=filter_range'_cons _ _ _ _ _ hr.symm
   have hlt:x<es.size:=by ext
   have hrest':rest=(List.range' (x+1) (es.size-(x+1))).filter (λi=>es[i]?.map (λe:DictEntry=>e.hash)==some (D0 w k)):=by rw [hrest];congr 2;ext
   have ex:es[x]? = some es[x]:=AH hlt
   obtain ⟨k',e1,e2,e3⟩:=hat x _ ex
   rw [ex] at hpx ⊢
   have hh:es[x].hash=D0 w k:=by simpa using hpx
   have hh':(es[x].hash==D0 w k)=true:=by simpa using hh
   have hx:(hit=none∧∀ j,j<x->ks[j]?≠some k)∨∃ j,hit=some j∧j<x∧ks[j]? = some k:=by
    rcases hH with ⟨z0,hno'⟩|⟨j,z1,hji,hj⟩
    ·refine .inl ⟨z0,λj hj q=>?_⟩
     rcases Nat.lt_or_ge j i with z|z
     ·exact hno' j z q
     ·have:=hskip j z hj;rw [hp j q] at this;cases this
    ·exact .inr ⟨j,z1,by ext,hj⟩
   dsimp only
   rw [if_pos hh']
   refine Aa (BP ho hd (Aa (e3.eq hk' hu (Aa (BP ho hd ?_)))))
   rw [if_neg (by simp)]
   by_cases c:k'=k
   ·rw [Bw c]
    subst c
    rcases hx with ⟨rfl,_⟩|⟨j,_,hjx,hj⟩
    ·simp only [Option.isSome_none,AG,AZ,if_true]
     refine Aa (Bo ?_)
     split
     ·exact Ac (Ac (h1 x e1))
     ·exact Ac ⟨rfl,x+1,some x,rfl,hrest',hlt,.inr ⟨x,rfl,Bj x,e1⟩⟩
    ·exact absurd (Xq hn hj e1) (by ext)
   ·rw [AV c]
    simp only [AG,AZ,BJ]
    refine Aa (Bo (Ac ⟨rfl,x+1,hit,rfl,hrest',hlt,?_⟩))
    rcases hx with ⟨z0,hno'⟩|⟨j,z1,hji,hj⟩
    ·refine .inl ⟨z0,λj hj q=>?_⟩
     rcases Nat.lt_or_ge j x with z|z
     ·exact hno' j z q
     ·have:j=x:=by ext
      subst this
      rw [e1] at q
      exact c (AN q)
    ·exact .inr ⟨j,z1,by ext,hj⟩
  ·rintro b s' ⟨rfl,i,hit,rfl,hr,hi,hH⟩
   rcases hH with ⟨rfl,hno'⟩|⟨j,rfl,_,hj⟩
   ·refine Ac (h0 (hno λj q=>?_))
    rcases Nat.lt_or_ge j i with z|z
    ·exact hno' j z q
    ·have hj:j<es.size:=by rw [hsz];exact (Ah.mp q).1
     exact List.filter_eq_nil_iff.mp hr.symm j (List.mem_range'_1.mpr ⟨z,by ext⟩) (hp j q)
   ·exact Ac (h1 j hj)
end
noncomputable def F0 (k:D):List D->List D->Option D
 | k'::ks,d::ds=>if k'=k then some d else F0 k ks ds
 | _,_=>none
noncomputable def Pb (k v:D):List D->List D->List D
 | k'::ks,d::ds=>(if k'=k then v else d)::Pb k v ks ds
 | _,ds=>ds
def EF (k v:D)(ks ds:List D):List D×List D:=if k∈ks then (ks,Pb k v ks ds) else (ks++[k],ds++[v])
theorem Jm {k:D}:∀ {ks ds:List D},k∉ks->F0 k ks ds=none
 | [],_,_=>rfl
 | _::_,[],_=>rfl
 | k'::ks,d::ds,h=>by
  rw [Am,not_or] at h
  rw [F0,if_neg (λe=>h.1 e.symm),Jm h.2]
theorem LO {k:D}:∀ {ks ds:List D} {j:Nat},ks.Nodup->ks[j]? = some k->F0 k ks ds=ds[j]?
 | [],_,_,_,e=>by simp at e
 | _::_,[],_,_,_=>by simp [F0]
 | k'::ks,d::ds,0,n,e=>by simp at e;subst e;simp [F0]
 | k'::ks,d::ds,j+1,n,e=>by
  rw [Bf] at n
  simp at e
  have:k'≠k:=λz=>n.1 (by rw [z];exact Ap e)
  rw [F0,if_neg this,LO n.2 e]
  rfl
theorem OR {k v:D}:∀ {ks ds:List D},k∉ks->Pb k v ks ds=ds
 | [],_,_=>rfl
 | _::_,[],_=>rfl
 | k'::ks,d::ds,h=>by
  rw [Am,not_or] at h
  rw [Pb,if_neg (λe=>h.1 e.symm),OR h.2]
theorem LR {k v:D}:∀ {ks ds:List D} {j:Nat},ks.Nodup->ks[j]? = some k->Pb k v ks ds=ds.set j v
 | [],_,_,_,e=>by simp at e
 | _::_,[],_,_,_=>by simp [Pb]
 | k'::ks,d::ds,0,n,e=>by
  simp at e
  subst e
  rw [Bf] at n
  rw [Pb,if_pos rfl,OR n.1]
  rfl
 | k'::ks,d::ds,j+1,n,e=>by
  rw [Bf] at n
  simp at e
  have:k'≠k:=λz=>n.1 (by rw [z];exact Ap e)
  rw [Pb,if_neg this,LR n.2 e]
  rfl
def K2 (K:Zc)(th:List Addr)(H:Hp)(a:Addr)(ks ds:List D):Prop:=∃ xs,H a=some (HE a xs)∧xs.map (·.1)=Fb K.w ks∧RepL K th H ks (xs.map (·.2.1))∧RepL K th H ds (xs.map (·.2.2))∧KeysOk ks
noncomputable def FZ (mu:Sto):D->Option (List D×List D)
 | .dct ks ds=>some (ks,ds)
 | .ref k=>match mu[k]? with
  | some (.dct ks ds)=>some (ks,ds)
  | _=>none
 | _=>none
section
variable {X:Cx} {K:Zc} {th:List Addr} {mu:Sto} {H:Hp} {pins:List (Addr×Obj)} {st:L2.St} {s:Shared} {A:Around} {E:Value->Shared->Prop}
theorem FC (so:StoOk K th mu H){d:D}{p:List D×List D}{v:V}(h:FZ mu d=some p)(r:Rep K th H d v):∃ a,v=.ref a∧K2 K th H a p.1 p.2:=by
 unfold FZ at h
 split at h
 ·cases h;unfold Rep at r;obtain ⟨a,xs,rfl,_,h1⟩:=r;exact ⟨a,rfl,xs,h1⟩
 ·split at h
  ·rename_i k _ ks ds e
   cases h
   unfold Rep at r
   obtain ⟨a,rfl,ha⟩:=r
   exact ⟨a,rfl,so.at' k a _ ha e⟩
  ·cases h
 ·cases h
structure DcO (X:Cx) (th:List Addr) (H:Hp) (s:Shared) (a:Addr) (ks ds:List D) (xs:List (Int×V×V)) (o:Obj) (es:Array DictEntry) (ep:Nat):Prop where
 ns:(a==sysModules)=false
 at':s.heap.get? a=some o
 ex:o.ExactDict
 dt:o.data=.dict es ep
 pr:Paired (λ(x:Int×V×V) (e:DictEntry)=>e.hash=x.1∧RelV x.2.1 e.key∧RelV x.2.2 e.val) xs es.toList
 en:Paired (EnK X.w s.heap) ks es.toList
 xl:xs.length=ks.length
 dl:ds.length=ks.length
theorem J8 {α β:Type}{F:α->β->Prop}:∀ {xs:List α} {ys:List β},xs.length=ys.length->(∀ (j:Nat) x y,xs[j]? = some x->ys[j]? = some y->F x y)->Paired F xs ys
 | [],[],_,_=>.nil
 | [],_::_,h,_=>by simp at h
 | _::_,[],h,_=>by simp at h
 | x::xs,y::ys,h,f=>.cons (f 0 x y rfl rfl) (J8 (by simpa using h) λj a b e1 e2=>f (j+1) a b (by simpa using e1) (by simpa using e2))
theorem H8 (I:L2.Inv X pins st H s){a:Addr}{ks ds:List D}(h:K2 X.z th H a ks ds):∃ xs o es ep,H a=some (HE a xs)∧DcO X th H s a ks ds xs o es ep:=by
 obtain ⟨xs,h1,h2,h3,h4,h5⟩:=h
 obtain ⟨⟨z,o,es,ep,g1,g2,g3,g4⟩,_⟩:=(show ObjOk X.prog X.w H s.heap a (HE a xs) from I.hok a _ h1)
 have xl:xs.length=ks.length:=by have:=h3.len;simpa using this
 refine ⟨xs,o,es,ep,h1,z,g1,g2,g3,g4,?_,xl,by have:=h4.len;rw [Af] at this;ext⟩
 refine J8 (by rw [← DH g4,xl]) λj k e e1 e2=>?_
 obtain ⟨x,q1,q2,q3,q4⟩:=(D7 g4 j).2 e e2
 have hh:(xs.map (·.1))[j]? = (Fb X.w ks)[j]?:=by rw [h2]
 rw [EX,Av,Av,q1,e1] at hh
 obtain ⟨v,v1,v2⟩:=h3.get e1
 rw [Av,q1] at v1
 have v1':x.2.1=v:=by simpa using v1
 refine ⟨by rw [q2];simpa using hh,JH I (h5.ok k (Ap e1)) v2 (by rw [← v1'];exact q3)⟩
theorem YI (I:L2.Inv X pins st H s){a:Addr}{ks ds:List D}(h:K2 X.z th H a ks ds){k:D}{u:Value}(hk:Hd s.heap k u)(hu:A.units+8<cLine){Q:Option Value->Shared->Prop}
  (q0:F0 k ks ds=none->∀ tk,Q none { s with toks:=tk }) (q1:∀ d v r,F0 k ks ds=some d->Rep X.z th H d v->RelV v r->∀ tk,Q (some r) { s with toks:=tk }):wpAny (model X.prog X.w) A (dictGet a u) Q E s:=by
 obtain ⟨xs,o,es,ep,h1,g⟩:=H8 I h
 obtain ⟨xs',h1',h2,h3,h4,h5⟩:=id h
 unfold dictGet
 refine AI (Aa (hk.hash hu λtk=>Aa (Ml (s:={ s with toks:=tk }) hu hk g.at' g.dt g.en h5.nd (λz=>Ac (q0 (Jm z) tk)) λj ej=>?_)))
 refine Aa (BX (s:={ s with toks:=tk }) g.at' g.dt ?_)
 obtain ⟨e,e1,e2⟩:=(D7 g.en j).1 k ej
 rw [AA] at e1
 rw [e1]
 obtain ⟨⟨z',o',es',ep',g1,g2,g3,g4⟩,_⟩:=(show ObjOk X.prog X.w H s.heap a (HE a xs') from I.hok a _ h1')
 have g1':=g.at'
 rw [g1] at g1'
 cases g1'
 have g3':=g.dt
 rw [g3] at g3'
 cases g3'
 obtain ⟨x,x1,x2,x3,x4⟩:=(D7 g4 j).2 e (by rw [AA];exact e1)
 have vj:(xs'.map (·.2.2))[j]? = some x.2.2:=by rw [Av,x1];rfl
 obtain ⟨d,d1,d2⟩:=h4.getV vj
 exact Ac (q1 d _ _ (by rw [LO h5.nd ej];exact d1) d2 x4 tk)
theorem Jg {α β:Type}{F:α->β->Prop}:∀ {xs:List α} {ys:List β} (j:Nat) {x:α} {y:β},Paired F xs ys->F x y->Paired F (xs.set j x) (ys.set j y)
 | _,_,_,_,_,.nil,_=>.nil
 | _,_,0,_,_,.cons _ t,f=>.cons f t
 | _,_,j+1,_,_,.cons r t,f=>.cons r (Jg j t f)
theorem Hv {α β:Type}{F:α->β->Prop}:∀ {xs xs':List α} {ys ys':List β},Paired F xs ys->Paired F xs' ys'->Paired F (xs++xs') (ys++ys')
 | _,_,_,_,.nil,t=>t
 | _,_,_,_,.cons r t,t'=>.cons r (Hv t t')
theorem YG (I:L2.Inv X pins st H s){a:Addr}{ks ds:List D}(h:K2 X.z th H a ks ds)(ext:∀ xs,Ext th H th (upd H a (HE a xs)))(so:StoOk X.z th mu H){k v:D}{kv vv:V}{u r:Value}(hk:EO k=true)(rk:Rep X.z th H k kv)(ru:RelV kv u)(rv:Rep X.z th H v vv)(rr:RelV vv r)(lt:ks.length<sizeLine)(hu:A.units+8<cLine)
  {Q:Unit->Shared->Prop} (q:∀ s' xs',L2.Inv X pins st (upd H a (HE a xs')) s'->K2 X.z th (upd H a (HE a xs')) a (EF k v ks ds).1 (EF k v ks ds).2->Q () s'):wpAny (model X.prog X.w) A (dictSet a u r) Q E s:=by
 have hd:=JH I hk rk ru
 obtain ⟨xs',h1',h2,h3,h4,h5⟩:=id h
 obtain ⟨⟨z',o,es,ep,g1,g2,g3,g4⟩,_⟩:=(show ObjOk X.prog X.w H s.heap a (HE a xs') from I.hok a _ h1')
 obtain ⟨xs,o',es',ep',h1,g⟩:=H8 I h
 have g1':=g.at'
 rw [g1] at g1'
 cases g1'
 have g3':=g.dt
 rw [g3] at g3'
 cases g3'
 have mu1:Mut (H a):=by rw [h1'];exact True.intro
 unfold dictSet
 refine AI (Aa (hd.hash hu λtk=>?_))
 unfold dictSetHashed
 refine AI (Aa (Ml (s:={ s with toks:=tk }) hu hd g1 g3 g.en h5.nd (λz=>?_) λj ej=>?_))
 ·have hz0:es.size≤sizeLine:=by rw [← Array.length_toList,← DH g.en];ext
  refine Aa (Bo (wpAny_updateDictKeys (s:={ s with toks:=tk }) g1 g3 (hz:=hz0) ?_))
  have e1:(EF k v ks ds).1=ks++[k]:=by unfold EF;rw [if_neg z]
  have e2:(EF k v ks ds).2=ds++[v]:=by unfold EF;rw [if_neg z]
  have so1:=AR (Obj.mapDictKeys (·.push ⟨D0 X.w k,u,r⟩)) g1 (B0 (Obj.data_mapDictKeys g3 _))
  refine q _ (xs'++[(D0 X.w k,kv,vv)]) (I.write (x:=a) (e:=a) (t':=tk) mu1 (.inl rfl) (λb ob hb e=>((Ay ..).2 b hb).trans e) ⟨_,so1⟩ (Mw ⟨z',_,_,ep+1,so1,g2.mapDictKeys _,Obj.data_mapDictKeys g3 _,?_⟩)) ?_
  ·rw [Array.toList_push]
   exact Hv g4 (.cons ⟨rfl,ru,rr⟩ .nil)
  ·rw [e1,e2]
   have ex:=ext (xs'++[(D0 X.w k,kv,vv)])
   refine ⟨_,Ey,?_,?_,?_,?_⟩
   ·rw [AK,h2,EX,EX,AK];rfl
   ·rw [AK];exact (h3.ext ex so.out).app (.cons (rk.ext ex so.out) .nil)
   ·rw [AK];exact (h4.ext ex so.out).app (.cons (rv.ext ex so.out) .nil)
   ·refine ⟨by rw [Ai];exact lt,?_,λk' hk'=>?_⟩
    ·refine Bb.mpr ⟨h5.nd,by simp,λx hx y hy=>?_⟩
     rw [Ag.mp hy]
     exact λe=>z (e▸hx)
    ·rcases Aj.mp hk' with w'|w'
     ·exact h5.ok k' w'
     ·rw [Ag.mp w'];exact hk
 ·have mem:k∈ks:=Ap ej
  have e1:(EF k v ks ds).1=ks:=by unfold EF;rw [if_pos mem]
  have e2:(EF k v ks ds).2=ds.set j v:=by unfold EF;rw [if_pos mem];exact LR h5.nd ej
  have hj:j<xs'.length:=by
   have:=(Ah.mp ej).1
   have l2:=h3.len
   rw [Af] at l2
   ext
  have hje:j<es.size:=by rw [← Array.length_toList,← DH g4];exact hj
  obtain ⟨y,y1,y2,y3,y4⟩:=(D7 g4 j).1 xs'[j] (Au hj)
  rw [AA] at y1
  have ye:es[j]=y:=by rw [AH hje] at y1;exact AN y1
  refine Aa (Bo (Aa (wpAny_updateDict (s:={ s with toks:=tk }) g1 g3 (wpAny_point ?_))))
  have so1:=AR (Obj.mapDict (·.modify j λe=>{ e with val:=r })) g1 (B0 (Obj.data_mapDict g3 _))
  refine q _ (xs'.set j (xs'[j].1,xs'[j].2.1,vv)) (I.write (x:=a) (e:=a) (t':=tk) mu1 (.inl rfl) (λb ob hb e=>((Ay ..).2 b hb).trans e) ⟨_,so1⟩ (Mw ⟨z',_,_,ep,so1,g2.mapDict _,Obj.data_mapDict g3 _,?_⟩)) ?_
  ·have em:(es.modify j λe=>{ e with val:=r }).toList=es.toList.set j { y with val:=r }:=by
    have yl:es.toList[j]? = some y:=by rw [AA];exact y1
    rw [Array.toList_modify]
    refine A7 λi=>?_
    rw [List.getElem?_modify]
    by_cases c:j=i
    ·subst c
     rw [yl,Bn (by simpa using hje)]
     simp
    ·rw [AB c]
     simp [c]
   rw [em]
   exact Jg j g4 ⟨y2,y3,rr⟩
  ·rw [e1,e2]
   have ex:=ext (xs'.set j (xs'[j].1,xs'[j].2.1,vv))
   refine ⟨_,Ey,?_,?_,?_,h5⟩
   ·rw [← h2,List.map_set]
    refine A7 λi=>?_
    by_cases c:i=j
    ·subst c;simp [hj]
    ·rw [AB (Ne.symm c)]
   ·have:(xs'.set j (xs'[j].1,xs'[j].2.1,vv)).map (·.2.1)=xs'.map (·.2.1):=by
     rw [List.map_set]
     refine A7 λi=>?_
     by_cases c:i=j
     ·subst c;simp [hj]
     ·rw [AB (Ne.symm c)]
    rw [this]
    exact h3.ext ex so.out
   ·rw [List.map_set]
    exact (h4.ext ex so.out).setAt j (rv.ext ex so.out)
theorem Ob (I:L2.Inv X pins st H s){a:Addr}{ks ds:List D}(h:K2 X.z th H a ks ds){k d:D}{u:Value}(hk:Hd s.heap k u)(e:F0 k ks ds=some d):∃ v r,Rep X.z th H d v∧RelV v r ∧
  ∀ {A:Around} {E:Value->Shared->Prop} {Q:Option Value->Shared->Prop},A.units+8<cLine->(∀ tk,Q (some r) { s with toks:=tk })->wpAny (model X.prog X.w) A (dictGet a u) Q E s:=by
 obtain ⟨xs',h1',h2,h3,h4,h5⟩:=id h
 obtain ⟨xs,o,es,ep,h1,g⟩:=H8 I h
 obtain ⟨⟨z',o',es',ep',g1,g2,g3,g4⟩,_⟩:=(show ObjOk X.prog X.w H s.heap a (HE a xs') from I.hok a _ h1')
 have g1':=g.at'
 rw [g1] at g1'
 cases g1'
 have g3':=g.dt
 rw [g3] at g3'
 cases g3'
 have mem:k∈ks:=by
  refine Classical.byContradiction λz=>?_
  rw [Jm z] at e
  cases e
 obtain ⟨j,ej⟩:=AS.mp mem
 rw [LO h5.nd ej] at e
 obtain ⟨v,v1,v2⟩:=h4.get e
 obtain ⟨en,e1,e2⟩:=(D7 g.en j).1 k ej
 obtain ⟨x,x1,x2,x3,x4⟩:=(D7 g4 j).2 en e1
 rw [Av,x1] at v1
 have v1':x.2.2=v:=by simpa using v1
 rw [AA] at e1
 refine ⟨v,en.val,v2,v1'▸x4,λhu q=>?_⟩
 unfold dictGet
 refine AI (Aa (hk.hash hu λtk=>Aa (Ml (s:={ s with toks:=tk }) hu hk g1 g3 g.en h5.nd (λz=>absurd mem z) λj' ej'=>?_)))
 cases Xq h5.nd ej ej'
 refine Aa (BX (s:={ s with toks:=tk }) g1 g3 ?_)
 rw [e1]
 exact Ac (q tk)
theorem Oq (I:L2.Inv X pins st H s){a:Addr}{ks ds:List D}(h:K2 X.z th H a ks ds){k:D}{u:Value}(hk:Hd s.heap k u)(e:F0 k ks ds=none){Q:Option Value->Shared->Prop}(hu:A.units+8<cLine)(q:∀ tk,Q none { s with toks:=tk }):wpAny (model X.prog X.w) A (dictGet a u) Q E s:=
 YI I h hk hu (λ_=>q) λd v r e'=>by rw [e] at e';cases e'
theorem Ru (I:L2.Inv X pins st H s){a:Addr}{ks ds:List D}(h:K2 X.z th H a ks ds):s.TypeIs (.ref a) "dict"∧(a==sysModules)=false∧∃ o,s.heap.get? a=some o∧o.dict=none:=by
 obtain ⟨xs,o,es,ep,h1,g⟩:=H8 I h
 exact ⟨⟨o,g.at',g.ex.1⟩,g.ns,o,g.at',g.ex.2.1⟩
theorem TB {k:D}{ks ds:List D}(n:ks.Nodup)(l:ds.length=ks.length):(F0 k ks ds).isSome=decide (k∈ks):=by
 by_cases c:k∈ks
 ·obtain ⟨j,ej⟩:=AS.mp c
  rw [LO n ej,Bw c]
  have:=(Ah.mp ej).1
  rw [Au (by ext)]
  rfl
 ·rw [Jm c,AV c];rfl
theorem TU {a:Addr}{ks ds:List D}(h:K2 K th H a ks ds):ds.length=ks.length∧KeysOk ks:=by
 obtain ⟨xs,_,_,h3,h4,h5⟩:=h
 have a:=h3.len
 have b:=h4.len
 rw [Af] at a b
 exact ⟨by ext,h5⟩
def ixC (d e:D)(mu:Sto):Rs D:=match FZ mu d with
 | some p=>if EO e=true then (F0 e p.1 p.2).map λv=>(v,mu) else none
 | none=>none
theorem VD {d e:D}{r:D×Sto}(h:ixC d e mu=some r):∃ p,FZ mu d=some p∧EO e=true∧∃ v,F0 e p.1 p.2=some v∧r=(v,mu):=by
 unfold ixC at h
 split at h
 ·rename_i p e1
  split at h
  ·rename_i c
   cases q:F0 e p.1 p.2 with
   | none=>rw [q] at h;cases h
   | some v=>rw [q] at h;cases h;exact ⟨p,e1,c,v,q,rfl⟩
  ·cases h
 ·cases h
theorem AbZ (hu:X.A.units+64<cLine):IxR X (r2 X.z ixC):=by
 intro value slice pins s st H x y v u Q I rx ry h hs
 obtain ⟨th,mu,d,e,so,r1,r2,t⟩:=h
 obtain ⟨a0,mu0,e0,_⟩:=id t
 obtain ⟨p,e1,hk,w',e2,er⟩:=VD e0
 rw [e0] at t
 cases er
 obtain ⟨a,rfl,dc⟩:=FC so e1 r1
 cases rx
 obtain ⟨v',r',q1,q2,q3⟩:=Ob I dc (JH I hk r2 ry) e2
 obtain ⟨ty,_⟩:=Ru I dc
 refine subscriptTail_builtinR (x:=r') ty slot_dict_getitem.lookup ?_ hs
 unfold getItem
 refine AI (Aa (wpAny_sequenceKey ty (by decide) (Aa (Ba (name:=Str.ofString "__getitem__") ty slot_dict_getitem (AY slot_dict_getitem ty entry_dict_getitem ?_ (args_dict_getitem _ _))))))
 refine (?_:wpAny _ _ (dictGet a u >>= _) _ _ s)
 exact Aa (q3 (by rw [Around.in1_units];ext) λtk=>Ac ⟨r',rfl,Ac ⟨rfl,v',H,I.tok _,q2,t.ret so _ q1⟩⟩)
theorem IxR.or {g g':D->D->Sto->Rs D}(h:IxR X (r2 X.z g))(h':IxR X (r2 X.z g')):IxR X (r2 X.z λd e mu=>match g d e mu with|some r=>some r|none=>g' d e mu):=by
 intro value slice pins s st H x y v u Q I rx ry q hs
 obtain ⟨th,mu,d,e,so,r1,r2,t⟩:=q
 dsimp only at t
 cases c:g d e mu with
 | some r=>rw [c] at t;exact h value slice pins s st H x y v u Q I rx ry ⟨th,mu,d,e,so,r1,r2,by rw [c];exact t⟩ hs
 | none=>rw [c] at t;exact h' value slice pins s st H x y v u Q I rx ry ⟨th,mu,d,e,so,r1,r2,t⟩ hs
def ixG (d e:D)(mu:Sto):Rs D:=match ixD d e mu with
 | some r=>some r
 | none=>ixC d e mu
theorem CK (hu:X.A.units+64<cLine):IxR X (r2 X.z ixG):=IxR.or Acj (AbZ hu)
def inC (neg:Bool)(d c:D)(mu:Sto):Rs D:=match FZ mu c with
 | some p=>if EO d=true then some (.bl (decide (d∈p.1) != neg),mu) else none
 | none=>none
theorem Rg {neg:Bool}{d e:D}{r:D×Sto}(h:inC neg d e mu=some r):∃ p,FZ mu e=some p∧EO d=true∧r=(.bl (decide (d∈p.1) != neg),mu):=by
 unfold inC at h
 split at h
 ·rename_i p e1
  split at h
  ·rename_i c;cases h;exact ⟨p,e1,c,rfl⟩
  ·cases h
 ·cases h
theorem Xg (hu:X.A.units+64<cLine)(I:L2.Inv X pins st H s){a:Addr}{ks ds:List D}(dc:K2 X.z th H a ks ds){d:D}{u:Value}(hk:Hd s.heap d u){Q:Bool->Shared->Prop}(q:∀ tk,Q (decide (d∈ks)) { s with toks:=tk }):wpAny (model X.prog X.w) X.A (contains (.ref a) u) Q E s:=by
 obtain ⟨ty,ns,_⟩:=Ru I dc
 obtain ⟨l,ko⟩:=TU dc
 have gm:=TB (k:=d) ko.nd l
 unfold contains
 refine AI (Aa (wpAny_specialOf ty slot_dict_contains.lookup ?_))
 refine (?_:wpAny _ _ (if (some (Value.builtin "dict.__contains__")==some Value.none)=true then _ else _) _ E s)
 rw [if_neg (by rw [beq_builtin_none];exact AJ)]
 refine Aa (wpAny_callSpecialUnlessNone?_slot (name:=Str.ofString "__contains__") ty slot_dict_contains (AY slot_dict_contains ty entry_dict_contains ?_ (args_dict_contains _ _)))
 refine (?_:wpAny _ _ (dictGet a u >>= _) _ _ s)
 refine Aa ?_
 have hu':X.A.in1.units+8<cLine:=by rw [Around.in1_units];ext
 cases c:F0 d ks ds with
 | some v =>
  rw [c] at gm
  obtain ⟨v',r',q1,q2,q3⟩:=Ob I dc hk c
  refine q3 hu' λtk=>?_
  refine (?_:wpAny _ _ (ret (.bool true)) _ _ _)
  exact Ac ⟨_,rfl,Bt (by rw [← gm] at q;exact q tk)⟩
 | none =>
  rw [c] at gm
  refine Oq I dc hk c hu' λtk=>?_
  refine (?_:wpAny _ _ (Builtin.Dict.pendingKey? a u >>= _) _ _ _)
  exact Aa (wpAny_pendingKey_other ns (Ac ⟨_,rfl,Bt (by rw [← gm] at q;exact q tk)⟩))
theorem Yi (hu:X.A.units+64<cLine):OpV X (compareOp .In) (inC false):=by
 intro pins s st H x y v u Q I rx ry h
 obtain ⟨th,mu,d,e,so,r1,r2,t⟩:=h
 obtain ⟨a0,mu0,e0,_⟩:=id t
 obtain ⟨p,e1,hk,er⟩:=Rg e0
 rw [e0] at t
 cases er
 obtain ⟨a,rfl,dc⟩:=FC so e1 r2
 cases ry
 refine (?_:wpAny _ _ (do return Value.bool (← contains (.ref a) v)) _ _ s)
 exact Aa (Xg hu I dc (JH I hk r1 rx) λtk=>Ac ⟨.bl _,H,I.tok _,rfl,by have:=t.ret so _ rfl;simpa using this⟩)
theorem VC (hu:X.A.units+64<cLine):OpV X (compareOp .NotIn) (inC true):=by
 intro pins s st H x y v u Q I rx ry h
 obtain ⟨th,mu,d,e,so,r1,r2,t⟩:=h
 obtain ⟨a0,mu0,e0,_⟩:=id t
 obtain ⟨p,e1,hk,er⟩:=Rg e0
 rw [e0] at t
 cases er
 obtain ⟨a,rfl,dc⟩:=FC so e1 r2
 cases ry
 refine (?_:wpAny _ _ (do return Value.bool (!(← contains (.ref a) v))) _ _ s)
 exact Aa (Xg hu I dc (JH I hk r1 rx) λtk=>Ac ⟨.bl _,H,I.tok _,rfl,by have:=t.ret so _ rfl;simpa using this⟩)
theorem OpV.or {f:Value->Value->Sem Value}{g g':D->D->Sto->Rs D}(h:OpV X f g)(h':OpV X f g'):OpV X f λd e mu=>match g d e mu with|some r=>some r|none=>g' d e mu:=by
 intro pins s st H x y v u Q I rx ry q
 obtain ⟨th,mu,d,e,so,r1,r2,t⟩:=q
 dsimp only at t
 cases c:g d e mu with
 | some r=>rw [c] at t;exact h pins s st H x y v u Q I rx ry ⟨th,mu,d,e,so,r1,r2,by rw [c];exact t⟩
 | none=>rw [c] at t;exact h' pins s st H x y v u Q I rx ry ⟨th,mu,d,e,so,r1,r2,t⟩
def inG (d e:D)(mu:Sto):Rs D:=match inD d e mu with
 | some r=>some r
 | none=>inC false d e mu
def G7 (d e:D)(mu:Sto):Rs D:=match SY d e mu with
 | some r=>some r
 | none=>inC true d e mu
theorem Gd (hu:X.A.units+64<cLine):OpV X (compareOp .In) inG:=OpV.or (X0 hu) (Yi hu)
theorem GP (hu:X.A.units+64<cLine):OpV X (compareOp .NotIn) G7:=OpV.or (Wc hu) (VC hu)
def putG (d e v:D)(mu:Sto):Rs Unit:=match d with
 | .ref k=>match mu[k]? with
  | some (.dct ks ds)=>if EO e=true∧ks.length<sizeLine then some ((),mu.set k (.dct (EF e v ks ds).1 (EF e v ks ds).2)) else none
  | _=>VZ d e v mu
 | _=>none
def AaG (K:Zc):UW:=λo i v H Q=>∃ th mu d e w,StoOk K th mu H∧Rep K th H d o∧Rep K th H e i∧Rep K th H w v∧Tr K th H (putG d e w mu) λ_ _ _ H'=>Q H'
theorem Aba (hu:X.A.units+64<cLine):Wf X (AaG X.z):=by
 intro pins s st H o i v ov iv u Q I ro ri rv h
 obtain ⟨th,mu,d,e,w,so,r1,r2,r3,t⟩:=h
 unfold putG at t
 split at t
 ·rename_i k
  split at t
  ·rename_i ks ds em
   split at t
   ·rename_i c
    unfold Rep at r1
    obtain ⟨a,rfl,ha⟩:=r1
    have dc:K2 X.z th H a ks ds:=so.at' k a _ ha em
    obtain ⟨ty,ns,_⟩:=Ru I dc
    cases ro
    unfold setItem
    refine AI (Aa (wpAny_sequenceKey ty (by decide) (Aa (Ba (name:=Str.ofString "__setitem__") ty slot_dict_setitem (AY slot_dict_setitem ty entry_dict_setitem ?_ (args_dict_setitem _ _ _))))))
    refine (?_:wpAny _ _ (Builtin.Dict.notOrdered "__setitem__" ⟨[.ref a,iv,u],[]⟩ >>= _) _ _ s)
    refine Aa (wpAny_notOrdered_dict ty (?_:wpAny _ _ (dictSet a iv u >>= _) _ _ s))
    refine Aa (YG I dc (λxs=>.mut (Ap ha) _) so c.1 r2 ri r3 rv c.2 (by rw [Around.in1_units];ext) λs' xs' I' dc'=>Ac ⟨.none,rfl,Ac ⟨_,I',?_⟩⟩)
    exact t.retX (.mut (Ap ha) _) (so.putG ha _ _ dc')
   ·exact t.no.elim
  ·exact Aa0 pins s st H o i v ov iv u Q I ro ri rv ⟨th,mu,.ref k,e,w,so,r1,r2,r3,t⟩
 ·exact t.no.elim
def gIx (o i:Ex):Gx:=λv ro mu=>bM (o ro mu) λd m1=>bM (i ro m1) λe m2=>bM (putG d e v m2) λ_ m3=>some (ro,m3)
theorem QA (hu:X.A.units+64<cLine){o i:Expr}{mo mi:Ex}{pos:Pos}(ho:SV X o mo)(hi:SV X i mi)
  (ha:∀ v,assign (.Subscript o i pos) X.env v=(do
   let ov←holding [v] (eval o X.env)
   let iv←holding [v,ov] (eval i X.env)
   standAt pos
   holding [v,ov,iv] (setItem ov iv v)
   release [v,ov,iv] []):=by intro _;rfl):SVG X (.Subscript o i pos) (gIx mo mi):=⟨PG.weak (YZ ho.r hi.r (Aba hu) ha) λv st H Q h=>by
 obtain ⟨th,mu,ro,d,so,en,r,t⟩:=h
 refine ⟨th,mu,ro,so,en,t.bind.mono λx th1 mu1 H1 e1 s1 t1 xv rx=>?_⟩
 refine ⟨th1,mu1,ro,s1,en.ext e1 so.out,t1.bind.mono λy th2 mu2 H2 e2 s2 t2 yv ry=>?_⟩
 refine ⟨th2,mu2,x,y,d,s2,rx.ext e2 s1.out,ry,(r.ext e1 so.out).ext e2 s1.out,t2.bind.mono λ_ th3 mu3 H3 e3 s3 t3=>?_⟩
 exact t3.ret s3 _ (((en.ext e1 so.out).ext e2 s1.out).ext e3 s2.out)⟩
end
section
variable {prog:Program} {w:World} {A:Around} {E:Value->Shared->Prop} {s:Shared}
theorem wp_choose {M:Model}{src:Source}{n:Nat}{Q:Nat->Shared->Prop}(hn:n≠0)(h:∀ i d',i<n->Q i { s with drawn:=d' }):wpAny M A (choose src n) Q E s:=
 λ_ _ _=>⟨hn,h _ _ (Nat.mod_lt _ (Nat.pos_of_ne_zero hn))⟩
theorem JJ {α:Type}:∀ (xs:List α) (i:Nat) (hi:i<xs.length),(xs[i]::xs.eraseIdx i).Perm xs
 | [],i,hi=>by simp at hi
 | x::xs,0,_=>List.Perm.refl _
 | x::xs,i+1,hi=>by
  have hi':i<xs.length:=by simpa using hi
  exact (List.Perm.swap x xs[i] _).trans (List.Perm.cons x (JJ xs i hi'))
theorem Pq {M:Model}{α:Type}:∀ (n:Nat) (xs:List α) {s:Shared} {Q:List α->Shared->Prop},n=xs.length->(∀ ys d',ys.Perm xs->Q ys { s with drawn:=d' })->wpAny M A (drawOrder n xs) Q E s
 | 0,[],s,Q,_,h=>Ac (h [] s.drawn (List.Perm.refl _))
 | 0,_::_,_,_,e,_=>by simp at e
 | n+1,[],_,_,e,_=>by simp at e
 | n+1,x::xs,s,Q,e,h=>by
  refine Aa (wp_choose (by simp) λi d' hi=>?_)
  rw [Au hi]
  refine Aa (Pq n ((x::xs).eraseIdx i) (by rw [List.length_eraseIdx_of_lt hi,← e];rfl) λys d2 p=>Ac (h _ d2 ?_))
  exact (List.Perm.cons _ p).trans (JJ _ _ hi)
theorem MV {α:Type}(next:Nat->Nat):∀ (f k:Nat) (left:List α) (out:Array α),f=left.length->(pickOrder.go next f k left out).toList.Perm (out.toList++left)
 | 0,k,[],out,_=>by unfold pickOrder.go;simp
 | 0,_,_::_,_,e=>by simp at e
 | f+1,k,[],out,e=>by simp at e
 | f+1,k,x::xs,out,e=>by
  unfold pickOrder.go
  have hi:next k % (x::xs).length<(x::xs).length:=Nat.mod_lt _ (by simp)
  rw [Au hi]
  refine (MV next f (k+1) _ _ (by rw [List.length_eraseIdx_of_lt hi,← e];rfl)).trans ?_
  rw [Array.toList_push,List.append_assoc]
  exact List.Perm.append_left _ (JJ _ _ hi)
theorem G4 {α:Type}(next:Nat->Nat)(xs:Array α):(pickOrder next xs).toList.Perm xs.toList:=by
 have:=MV next xs.size 0 xs.toList #[] (by simp)
 simpa [pickOrder] using this
noncomputable def El (w:World):Bool:=w.params.followText "set-order"
theorem F9 {Q:Bool->Shared->Prop}(h:Q (El w) s):wpAny (model prog w) A setsByText Q E s:=Aa (wpAny_askSetting (Ac h))
theorem EC:Slot "set_iterator" "__next__" "set_iterator.__next__":=
 .of (owner:="set_iterator") (n:="__next__") (by rw [typeLookup_type,builtinLookup_eq_fast];kernel_rfl) (by symm) (by symm) (by symm) (by first|exact .inl (by symm)|exact .inr (by symm)) (by rw [isSubtype_type];kernel_rfl)
theorem Iv:entryFor table "set_iterator.__next__"=some Builtin.«set_iterator.__next__»:=entryFor_of_tree (by kernel_rfl)
theorem L5:Manifest.owners.lookup (String.ofList ['r','o','t','a','r','e','t','i','_','t','e','s'].reverse)=some Manifest.sig_set_iterator:=by kernel_rfl
theorem IV (a:Value):argsOk "set_iterator.__next__" ⟨[a],[]⟩:=by
 unfold argsOk;rw [signature?_of (id:="set_iterator.__next__") (n:=['_','_','t','x','e','n','_','_']) (o:=['r','o','t','a','r','e','t','i','_','t','e','s']) (by kernel_rfl) L5];kernel_rfl
theorem Jf:Slot "set_iterator" "__iter__" "set_iterator.__iter__":=
 .of (owner:="set_iterator") (n:="__iter__") (by rw [typeLookup_type,builtinLookup_eq_fast];kernel_rfl) (by symm) (by symm) (by symm) (by first|exact .inl (by symm)|exact .inr (by symm)) (by rw [isSubtype_type];kernel_rfl)
inductive Md where
 | txt|drw (TI:Addr) (pl:List Nat)|one
def SetAt (h:Heap)(S:Addr)(es:Array (Int×Value))(ep:Nat)(t:SetTable):Prop:=∃ o,h.get? S=some o∧o.data=.set es ep t
def Fst (w:World)(es:Array (Int×Value))(t:SetTable)(h:Heap)(i:Nat)(v:Value):Md->Prop
 | .txt=>El w=true∧∃ c:Nat,v=rawInt c
 | .drw TI pl=>v=.ref TI∧h.IsTuple TI (pl.map λp:Nat=>rawInt p).toArray∧pl.length=es.size∧(∀ p∈pl,p<es.size)
 | .one=>El w=false∧(t.plain=false∨es.size≤1)∧es.size≤1∧t.led=true∧v=rawInt ((if i=0 then 0 else t.place.getD 0 0+1:Nat):Int)
noncomputable def MR (w:World)(S:Addr)(es:Array (Int×Value))(ep:Nat):Md->List Value
 | .txt=>(pickOrder (w.params.setOrder S ep) es).toList.map (·.2)
 | .drw _ pl=>pl.map λp=>(es.getD p (0,.none)).2
 | .one=>es.toList.map (·.2)
def SIt (w:World)(S I:Addr)(es:Array (Int×Value))(ep:Nat)(t:SetTable)(md:Md)(i:Nat)(h:Heap):Prop:=
 SetAt h S es ep t∧∃ o v,h.get? I=some o∧o.cls=.type "set_iterator"∧o.data=.fields #[v,rawInt i,.ref S,rawInt es.size,rawInt ep]∧Fst w es t h i v md
theorem HI {M:Model}{I:Addr}{Q:PySem.Fin->Shared->Prop}(hh:A.handled=none)(q:∀ h' e,(∀ c o,s.heap.get? c=some o->h'.get? c=some o)->(∃ o,h'.get? e=some o∧o.cls=.type "StopIteration")->E (.ref e) { s with heap:=h' }) :
  wpAny M A (newExc (.type "StopIteration") [] >>= λe=>(raiseNew e:Sem PySem.Fin)) Q E s:=by
 refine Aa ?_
 simp only [newExc,newTuple]
 refine Aa (AW (Aa (m:=firstArgMember _ _) (wpAny_of_eq (a:=Value.none) (by first|rfl|(simp only [firstArgMember];rfl)) (AW ?_ (by size_fits)))) (by size_fits))
 simp only [raiseNew]
 refine Aa (wpAny_handled ?_)
 rw [hh]
 exact Aa (Ac (wpAny_throw (q _ _ (λc o e=>Ae _ (Ae _ e)) ⟨_,Aq _ rfl,rfl⟩)))
theorem L4 {xs:Array Nat}(h:xs.size≤1):SetTable.below xs 0=0:=by
 unfold SetTable.below
 rcases Nat.lt_or_ge 0 xs.size with c|c
 ·have:xs.size=1:=by ext
  rw [this]
  simp [SetTable.below.go]
 ·have:xs.size=0:=by ext
  rw [this]
  simp [SetTable.below.go]
theorem Qe {xs:Array Nat}(h:xs.size=1):SetTable.below xs (xs.getD 0 0+1)=1:=by
 unfold SetTable.below
 have e0:xs[0]? = some xs[0]:=AH (by ext)
 rw [h]
 simp [SetTable.below.go,e0]
theorem Ge {a:Addr}{o:Obj}{vs:Array Value}{i:Nat}{x:Value}{h:Heap}(ho:h.get? a=some o)(hd:o.data=.fields vs):∃ o',(h.update a (Obj.mapFields (·.setIfInBounds i x))).get? a=some o'∧o'.cls=o.cls∧o'.data=.fields (vs.setIfInBounds i x):=
 ⟨_,AR _ ho (Obj.isFreed_of_fields (Obj.data_mapFields hd _)),Obj.cls_mapFields ..,Obj.data_mapFields hd _⟩
theorem SetAt.keep {h h':Heap}{S I:Addr}{es:Array (Int×Value)}{ep:Nat}{t:SetTable}(x:SetAt h S es ep t)(ne:S≠I)(sb:Heap.SameBut I h h'):SetAt h' S es ep t:=
 let ⟨o,a,b⟩:=x;⟨o,(sb.2 S ne).trans a,b⟩
def Md.apart (I:Addr):Md->Prop
 | .drw TI _=>TI≠I
 | _=>True
theorem Sj {S I:Addr}{es:Array (Int×Value)}{ep:Nat}{t:SetTable}{md:Md}{i:Nat}{Q:Value->Shared->Prop}(hf:t.fits es.size=true)(ne:S≠I)(ap:md.apart I)(g:SIt w S I es ep t md i s.heap)(hi:i<es.size)
  (q:∀ v h',(MR w S es ep md)[i]? = some v->SIt w S I es ep t md (i+1) h'->Heap.SameBut I s.heap h'->Q v { s with heap:=h' }) :
  wpAny (model prog w) A (Builtin.«set_iterator.__next__» ⟨[.ref I],[]⟩) (λfin s'=>∃ v,fin=.done (.ret v)∧Q v s') E s:=by
 obtain ⟨⟨ob,g1,g2⟩,o,v,k1,k2,k3,k4⟩:=id g
 refine (?_:wpAny _ _ (fieldsOf (.ref I) >>= _) _ _ _)
 refine Aa (wpAny_fieldsOf k1 k3 (?_:wpAny _ _ (setEntries S >>= _) _ _ _))
 refine Aa (wpAny_setEntries_of g1 g2 hf ?_)
 rw [if_neg (by simp)]
 cases md with
 | drw TI pl =>
  obtain ⟨rfl,⟨tb,b1,b2,n,b3⟩,c1,c2⟩:=k4
  refine (?_:wpAny _ _ (seqItems? (.ref TI) >>= _) _ _ _)
  refine Aa (wpAny_seqItems b1 b3 ?_)
  have hp:i<pl.length:=by ext
  have ei:(pl.map λp:Nat=>rawInt p).toArray[(i:Int).toNat]? = some (rawInt pl[i]):=by simp [hp]
  dsimp only
  rw [ei]
  have hpl:=c2 pl[i] (BQ hp)
  refine (?_:wpAny _ _ (setNextDrawn S ((pl[i]:Nat):Int).toNat ((ep:Nat):Int).toNat >>= _) _ _ _)
  refine Aa ?_
  unfold setNextDrawn
  refine Aa (BA g1 g2 hf ?_)
  rw [Int.toNat_natCast,Int.toNat_natCast]
  dsimp only
  rw [if_neg (by simp),AH hpl]
  refine Ac (Aa (BC k1 k3 (by simp) (Ac ⟨_,rfl,q _ _ ?_ ?_ (Ay ..)⟩)))
  ·unfold MR
   rw [Av,Au hp]
   simp [Array.getD,hpl]
  ·obtain ⟨o',e1,e2,e3⟩:=Ge (i:=1) (x:=rawInt ((i:Int)+1)) k1 k3
   exact ⟨SetAt.keep ⟨ob,g1,g2⟩ ne (Ay ..),o',.ref TI,e1,e2.trans k2,e3,rfl,⟨tb,((Ay ..).2 TI ap).trans b1,b2,n,b3⟩,c1,c2⟩
 | txt =>
  obtain ⟨bt,c,rfl⟩:=k4
  refine (?_:wpAny _ _ (setNext S ((c:Nat):Int).toNat ((i:Nat):Int).toNat ((ep:Nat):Int).toNat >>= _) _ _ _)
  refine Aa ?_
  unfold setNext
  refine Aa (BA g1 g2 hf (Aa (F9 ?_)))
  rw [if_pos bt]
  rw [Int.toNat_natCast,Int.toNat_natCast,Int.toNat_natCast]
  dsimp only
  rw [if_neg (by simp)]
  refine Aa ?_
  unfold setWalk
  refine Aa (BA g1 g2 hf (Aa (F9 ?_)))
  rw [if_pos bt]
  refine Aa (wpAny_askSetting (Ac ?_))
  have hl:i<(pickOrder (w.params.setOrder S ep) es).size:=by
   have:=(G4 (w.params.setOrder S ep) es).length_eq
   simp at this
   ext
  have ex:(pickOrder ((⟨prog,w.params⟩:Setting).params.setOrder S ep) es)[i]? = some (pickOrder (w.params.setOrder S ep) es)[i]:=AH hl
  refine Ac ?_
  have ex':Option.map (λe:Int×Value=>(e.2,c)) (pickOrder ((⟨prog,w.params⟩:Setting).params.setOrder S ep) es)[i]? = some ((pickOrder (w.params.setOrder S ep) es)[i].2,c):=by rw [ex];rfl
  refine (?_:wpAny _ _ (match Option.map (λe:Int×Value=>(e.2,c)) (pickOrder ((⟨prog,w.params⟩:Setting).params.setOrder S ep) es)[i]? with|some (x,next)=>_|none=>_) _ _ _)
  rw [ex']
  obtain ⟨o',e1,e2,e3⟩:=Ge (i:=0) (x:=rawInt (c:Int)) k1 k3
  refine Aa (BC k1 k3 (by simp) ?_)
  obtain ⟨o2,f1,f2,f3⟩:=Ge (i:=1) (x:=rawInt ((i:Int)+1)) e1 e3
  refine Aa (BC e1 e3 (by simp) (Ac ⟨_,rfl,q _ _ ?_ ?_ ((Ay ..).trans (Ay ..))⟩))
  ·unfold MR
   rw [Av,AA,AH hl]
   rfl
  ·exact ⟨(SetAt.keep ⟨ob,g1,g2⟩ ne (Ay ..)).keep ne (Ay ..),o2,rawInt c,f1,(f2.trans e2).trans k2,f3,bt,c,rfl⟩
 | one =>
  obtain ⟨bt,pl,sz,led,rfl⟩:=k4
  have i0:i=0:=by ext
  subst i0
  have s1:es.size=1:=by ext
  have ps:t.place.size=1:=by
   simp only [SetTable.fits,Ab,beq_iff_eq,Ad] at hf
   ext
  refine (?_:wpAny _ _ (setNext S ((0:Nat):Int).toNat ((0:Nat):Int).toNat ((ep:Nat):Int).toNat >>= _) _ _ _)
  refine Aa ?_
  unfold setNext
  refine Aa (BA g1 g2 hf (Aa (F9 ?_)))
  rw [if_neg (by rw [bt];exact AJ)]
  refine Jh (λz=>?_) λ_=>?_
  ·exfalso
   have z':(!t.plain&&decide (es.size > 1))=true:=z
   rw [s1] at z'
   simp at z'
  refine Aa (Jh (λz=>?_) λ_=>?_)
  ·exfalso
   have z':(!t.led&&!es.isEmpty)=true:=z
   rw [led] at z'
   simp at z'
  refine Ac ?_
  have b0:=L4 (xs:=t.place) (by ext)
  have ee:es[0]? = some es[0]:=AH (by ext)
  have pe:t.place[0]? = some t.place[0]:=AH (by ext)
  have hm:(match es[SetTable.below t.place ((0:Nat):Int).toNat]?,t.place[SetTable.below t.place ((0:Nat):Int).toNat]? with|some (_,x),some j=>some (x,j+1)|_,_=>none)=some (es[0].2,t.place[0]+1):=by
   rw [show ((0:Nat):Int).toNat=0 from rfl,b0,ee,pe]
  refine (?_:wpAny _ _ (pure (match es[SetTable.below t.place ((0:Nat):Int).toNat]?,t.place[SetTable.below t.place ((0:Nat):Int).toNat]? with|some (_,x),some j=>some (x,j+1)|_,_=>none)) _ _ _)
  rw [hm]
  refine Ac ?_
  obtain ⟨o',e1,e2,e3⟩:=Ge (i:=0) (x:=rawInt ((t.place[0]+1:Nat):Int)) k1 k3
  refine Aa (BC k1 k3 (by simp) ?_)
  obtain ⟨o2,f1,f2,f3⟩:=Ge (i:=1) (x:=rawInt (((0:Nat):Int)+1)) e1 e3
  refine Aa (BC e1 e3 (by simp) (Ac ⟨_,rfl,q _ _ ?_ ?_ ((Ay ..).trans (Ay ..))⟩))
  ·unfold MR
   rw [Av,AA,ee]
   rfl
  ·refine ⟨(SetAt.keep ⟨ob,g1,g2⟩ ne (Ay ..)).keep ne (Ay ..),o2,rawInt ((t.place[0]+1:Nat):Int),f1,(f2.trans e2).trans k2,f3,bt,pl,sz,led,?_⟩
   have:t.place.getD 0 0=t.place[0]:=by simp [Array.getD,ps]
   rw [this]
   rfl
end
noncomputable def rk:D->Nat
 | .int _=>0|.str _=>1|.tup _=>2|_=>3
noncomputable def IY (i j:Nat):Ordering:=if i<j then .lt else if j<i then .gt else .eq
noncomputable def LA (i j:Int):Ordering:=if i<j then .lt else if j<i then .gt else .eq
noncomputable def IB (x y:Str):Ordering:=if x.cps.toList<y.cps.toList then .lt else if y.cps.toList<x.cps.toList then .gt else .eq
noncomputable def oTh:Ordering->Ordering->Ordering
 | .eq,t=>t
 | .lt,_=>.lt
 | .gt,_=>.gt
mutual
noncomputable def Dp:D->D->Ordering
 | .int i,.int j=>LA i j
 | .str x,.str y=>IB x y
 | .tup xs,.tup ys=>Hu xs ys
 | a,b=>IY (rk a) (rk b)
noncomputable def Hu:List D->List D->Ordering
 | [],[]=>.eq
 | [],_::_=>.lt
 | _::_,[]=>.gt
 | x::xs,y::ys=>oTh (Dp x y) (Hu xs ys)
end
def ltT (a b:D):Bool:=Dp a b==.lt
structure T3 (a b c:Ordering):Prop where
 e1:a=.eq->b=c
 e2:b=.eq->a=c
 e3:a=b->c=a
theorem DC (i j:Nat):IY j i=(IY i j).swap:=by
 unfold IY
 rcases Nat.lt_trichotomy i j with h|h|h
 ·rw [if_pos h,if_neg (by ext),if_pos h];rfl
 ·subst h;simp
 ·rw [if_pos h,if_neg (by ext),if_pos h];rfl
theorem S2 (i j:Int):LA j i=(LA i j).swap:=by
 unfold LA
 rcases Int.lt_trichotomy i j with h|h|h
 ·rw [if_pos h,if_neg (by ext),if_pos h];rfl
 ·subst h;simp
 ·rw [if_pos h,if_neg (by ext),if_pos h];rfl
theorem Yv {x y:Str}:(x.cps.toList<y.cps.toList)->¬ (y.cps.toList<x.cps.toList):=λa b=>List.lt_asymm a b
theorem KG (i j:Str):IB j i=(IB i j).swap:=by
 unfold IB
 by_cases h:i.cps.toList<j.cps.toList
 ·rw [if_pos h,if_neg (Yv h),if_pos h];rfl
 ·rw [if_neg h]
  by_cases h2:j.cps.toList<i.cps.toList
  ·rw [if_pos h2,if_neg h,if_pos h2];rfl
  ·rw [if_neg h2,if_neg h,if_neg h2];rfl
theorem Xk {α:Type}(f:α->α->Ordering)(lt:α->α->Prop)(h1:∀ x y,lt x y->f x y=.lt∧f y x=.gt)(h0:∀ x,f x x=.eq)(tr:∀ x y z,lt x y->lt y z->lt x z)(tri:∀ x y,lt x y∨x=y∨lt y x)(a b c:α):T3 (f a b) (f b c) (f a c):=by
 rcases tri a b with h|rfl|h
 ·rcases tri b c with g|rfl|g
  ·rw [(h1 _ _ h).1,(h1 _ _ g).1,(h1 _ _ (tr _ _ _ h g)).1];exact ⟨λz=>(nomatch z),λ_=>rfl,λ_=>rfl⟩
  ·rw [(h1 _ _ h).1,h0];exact ⟨λz=>(nomatch z),λ_=>rfl,λ_=>rfl⟩
  ·rw [(h1 _ _ h).1,(h1 _ _ g).2];exact ⟨λz=>(nomatch z),λz=>(nomatch z),λz=>(nomatch z)⟩
 ·rw [h0];exact ⟨λ_=>rfl,λz=>z.symm,λz=>z.symm⟩
 ·rcases tri b c with g|rfl|g
  ·rw [(h1 _ _ h).2,(h1 _ _ g).1];exact ⟨λz=>(nomatch z),λz=>(nomatch z),λz=>(nomatch z)⟩
  ·rw [(h1 _ _ h).2,h0];exact ⟨λz=>(nomatch z),λ_=>rfl,λ_=>rfl⟩
  ·rw [(h1 _ _ h).2,(h1 _ _ g).2,(h1 _ _ (tr _ _ _ g h)).2];exact ⟨λz=>(nomatch z),λ_=>rfl,λ_=>rfl⟩
theorem X2:∀ i j k:Nat,T3 (IY i j) (IY j k) (IY i k):=
 Xk IY (·<·) (λx y h=>⟨if_pos h,by rw [IY,if_neg (Nat.lt_asymm h),if_pos h]⟩) (λx=>by rw [IY,if_neg (Bi x),if_neg (Bi x)]) (λ_ _ _=>Nat.lt_trans) Nat.lt_trichotomy
theorem XH:∀ i j k:Int,T3 (LA i j) (LA j k) (LA i k):=
 Xk LA (·<·) (λx y h=>⟨if_pos h,by rw [LA,if_neg (Int.lt_asymm h),if_pos h]⟩) (λx=>by rw [LA,if_neg (Int.lt_irrefl x),if_neg (Int.lt_irrefl x)]) (λ_ _ _=>Int.lt_trans) Int.lt_trichotomy
theorem Kk {i j:Str}:IB i j=.eq ↔ i=j:=by
 unfold IB
 constructor
 ·intro h
  by_cases h1:i.cps.toList<j.cps.toList
  ·rw [if_pos h1] at h;cases h
  ·rw [if_neg h1] at h
   by_cases h2:j.cps.toList<i.cps.toList
   ·rw [if_pos h2] at h;cases h
   ·exact W3 (List.le_antisymm (Std.not_lt.mp h2) (Std.not_lt.mp h1))
 ·rintro rfl
  rw [if_neg (List.lt_irrefl _),if_neg (List.lt_irrefl _)]
theorem Hn {i j:Str}:IB i j=.lt ↔ i.cps.toList<j.cps.toList:=by
 unfold IB
 by_cases h1:i.cps.toList<j.cps.toList
 ·simp [h1]
 ·rw [if_neg h1]
  by_cases h2:j.cps.toList<i.cps.toList
  ·simp [h2,h1]
  ·simp [h2,h1]
theorem LP {i j:Str}:IB i j=.gt ↔ j.cps.toList<i.cps.toList:=by
 rw [← Hn,KG i j]
 cases IB i j<;>simp
theorem Zj (i j k:Str):T3 (IB i j) (IB j k) (IB i k):=by
 refine ⟨λh=>?_,λh=>?_,λh=>?_⟩
 ·rw [Kk.mp h]
 ·rw [Kk.mp h]
 ·cases c:IB i j with
  | eq=>rw [Kk.mp c];rw [c] at h;exact h.symm
  | lt=>rw [c] at h;exact Hn.mpr (List.lt_trans (Hn.mp c) (Hn.mp h.symm))
  | gt=>rw [c] at h;exact LP.mpr (List.lt_trans (LP.mp h.symm) (LP.mp c))
mutual
theorem cmp_swap:∀ (a b:D),Dp b a=(Dp a b).swap
 | .tup xs,.tup ys=>by unfold Dp;exact M5 xs ys
 | .int i,b=>by cases b<;>first|(unfold Dp;exact S2 _ _)|(simp only [Dp];exact DC _ _)
 | .str i,b=>by cases b<;>first|(unfold Dp;exact KG _ _)|(simp only [Dp];exact DC _ _)
 | .tup xs,.int _=>by simp only [Dp];exact DC _ _
 | .tup xs,.str _=>by simp only [Dp];exact DC _ _
 | .tup xs,.non=>by simp only [Dp];exact DC _ _
 | .tup xs,.bl _=>by simp only [Dp];exact DC _ _
 | .tup xs,.lst _=>by simp only [Dp];exact DC _ _
 | .tup xs,.dct _ _=>by simp only [Dp];exact DC _ _
 | .tup xs,.set _=>by simp only [Dp];exact DC _ _
 | .tup xs,.ref _=>by simp only [Dp];exact DC _ _
 | .non,b=>by cases b<;>(simp only [Dp];exact DC _ _)
 | .bl _,b=>by cases b<;>(simp only [Dp];exact DC _ _)
 | .lst _,b=>by cases b<;>(simp only [Dp];exact DC _ _)
 | .dct _ _,b=>by cases b<;>(simp only [Dp];exact DC _ _)
 | .set _,b=>by cases b<;>(simp only [Dp];exact DC _ _)
 | .ref _,b=>by cases b<;>(simp only [Dp];exact DC _ _)
theorem M5:∀ (xs ys:List D),Hu ys xs=(Hu xs ys).swap
 | [],[]=>rfl
 | [],_::_=>rfl
 | _::_,[]=>rfl
 | x::xs,y::ys=>by
  unfold Hu
  rw [cmp_swap x y]
  cases Dp x y with
  | eq=>exact M5 xs ys
  | lt=>rfl
  | gt=>rfl
end
theorem Qx {a b:D}(h:rk a≠rk b):Dp a b=IY (rk a) (rk b):=by
 cases a<;>cases b<;>first|(simp only [Dp];done)|(exact absurd rfl h)
theorem YF {a b:D}(h:Dp a b=.eq):rk a=rk b:=by
 refine Classical.byContradiction λz=>?_
 rw [Qx z] at h
 unfold IY at h
 repeat' split at h
 all_goals first|(cases h;done)|ext
theorem T3.then' {h1 h2 h3 t1 t2 t3:Ordering}(h:T3 h1 h2 h3)(t:T3 t1 t2 t3):T3 (oTh h1 t1) (oTh h2 t2) (oTh h3 t3):=by
 obtain ⟨a,b,c⟩:=h
 cases h1 with
 | eq =>
  cases a rfl
  cases h2 with
  | eq=>exact t
  | lt=>exact (show T3 t1 .lt .lt from ⟨λ_=>rfl,λz=>(nomatch z),λz=>z.symm⟩)
  | gt=>exact (show T3 t1 .gt .gt from ⟨λ_=>rfl,λz=>(nomatch z),λz=>z.symm⟩)
 | lt =>
  cases h2 with
  | eq=>cases b rfl;exact (show T3 .lt t2 .lt from ⟨λz=>(nomatch z),λ_=>rfl,λ_=>rfl⟩)
  | lt=>cases c rfl;exact (show T3 .lt .lt .lt from ⟨λz=>(nomatch z),λ_=>rfl,λ_=>rfl⟩)
  | gt=>exact (show T3 .lt .gt _ from ⟨λz=>(nomatch z),λz=>(nomatch z),λz=>(nomatch z)⟩)
 | gt =>
  cases h2 with
  | eq=>cases b rfl;exact (show T3 .gt t2 .gt from ⟨λz=>(nomatch z),λ_=>rfl,λ_=>rfl⟩)
  | gt=>cases c rfl;exact (show T3 .gt .gt .gt from ⟨λz=>(nomatch z),λ_=>rfl,λ_=>rfl⟩)
  | lt=>exact (show T3 .gt .lt _ from ⟨λz=>(nomatch z),λz=>(nomatch z),λz=>(nomatch z)⟩)
theorem T3.of_rk {a b c:D}(h:¬ (rk a=rk b∧rk b=rk c)):T3 (Dp a b) (Dp b c) (Dp a c):=by
 have n3:=X2 (rk a) (rk b) (rk c)
 have sg:∀ x y:D,rk x≠rk y->Dp x y≠.eq:=λx y z e=>z (YF e)
 have lt:∀ x y:D,rk x<rk y->Dp x y=.lt:=λx y z=>by rw [Qx (by ext)];unfold IY;rw [if_pos z]
 have gt:∀ x y:D,rk y<rk x->Dp x y=.gt:=λx y z=>by rw [Qx (by ext)];unfold IY;rw [if_neg (by ext),if_pos z]
 rcases Nat.lt_trichotomy (rk a) (rk b) with h1|h1|h1<;>rcases Nat.lt_trichotomy (rk b) (rk c) with h2|h2|h2
 ·rw [lt a b h1,lt b c h2,lt a c (by ext)];exact ⟨λz=>(nomatch z),λ_=>rfl,λ_=>rfl⟩
 ·rw [lt a b h1,lt a c (by ext)];exact ⟨λz=>(nomatch z),λ_=>rfl,λ_=>rfl⟩
 ·rw [lt a b h1,gt b c h2];exact ⟨λz=>(nomatch z),λz=>(nomatch z),λz=>(nomatch z)⟩
 ·rw [lt b c h2,lt a c (by ext)];exact ⟨λ_=>rfl,λz=>(nomatch z),λz=>z.symm⟩
 ·exact absurd ⟨h1,h2⟩ h
 ·rw [gt b c h2,gt a c (by ext)];exact ⟨λ_=>rfl,λz=>(nomatch z),λz=>z.symm⟩
 ·rw [gt a b h1,lt b c h2];exact ⟨λz=>(nomatch z),λz=>(nomatch z),λz=>(nomatch z)⟩
 ·rw [gt a b h1,gt a c (by ext)];exact ⟨λz=>(nomatch z),λ_=>rfl,λ_=>rfl⟩
 ·rw [gt a b h1,gt b c h2,gt a c (by ext)];exact ⟨λz=>(nomatch z),λ_=>rfl,λ_=>rfl⟩
theorem U2 {b:D}(h:0=rk b):∃ j,b=.int j:=by cases b<;>first|exact ⟨_,rfl⟩|cases h
theorem Vr {b:D}(h:1=rk b):∃ j,b=.str j:=by cases b<;>first|exact ⟨_,rfl⟩|cases h
theorem Uz {b:D}(h:2=rk b):∃ j,b=.tup j:=by cases b<;>first|exact ⟨_,rfl⟩|cases h
theorem Y5 {a b:D}(ha:3=rk a)(hb:3=rk b):Dp a b=.eq:=by
 cases a<;>first|(cases ha;done)|(cases b<;>first|(cases hb;done)|rfl)
theorem T3.of_o {a b c:D}(h:3=rk a):T3 (Dp a b) (Dp b c) (Dp a c):=by
 by_cases e:rk a=rk b∧rk b=rk c
 ·have h2:=h.trans e.1
  rw [Y5 h h2,Y5 h2 (h2.trans e.2),Y5 h (h2.trans e.2)]
  exact ⟨λ_=>rfl,λ_=>rfl,λ_=>rfl⟩
 ·exact .of_rk e
mutual
theorem Xn:∀ (a b c:D),T3 (Dp a b) (Dp b c) (Dp a c)
 | .tup xs,b,c=>by
  by_cases e:rk (.tup xs)=rk b∧rk b=rk c
  ·obtain ⟨ys,rfl⟩:=Uz e.1
   obtain ⟨zs,rfl⟩:=Uz e.2
   unfold Dp
   exact T7 xs ys zs
  ·exact .of_rk e
 | .int i,b,c=>by
  by_cases e:rk (.int i)=rk b∧rk b=rk c
  ·obtain ⟨j,rfl⟩:=U2 e.1
   obtain ⟨k,rfl⟩:=U2 e.2
   unfold Dp
   exact XH _ _ _
  ·exact .of_rk e
 | .str i,b,c=>by
  by_cases e:rk (.str i)=rk b∧rk b=rk c
  ·obtain ⟨j,rfl⟩:=Vr e.1
   obtain ⟨k,rfl⟩:=Vr e.2
   unfold Dp
   exact Zj _ _ _
  ·exact .of_rk e
 | .non,_,_=>.of_o rfl
 | .bl _,_,_=>.of_o rfl
 | .lst _,_,_=>.of_o rfl
 | .dct _ _,_,_=>.of_o rfl
 | .set _,_,_=>.of_o rfl
 | .ref _,_,_=>.of_o rfl
theorem T7:∀ (xs ys zs:List D),T3 (Hu xs ys) (Hu ys zs) (Hu xs zs)
 | [],[],[]=>⟨λ_=>rfl,λ_=>rfl,λ_=>rfl⟩
 | [],[],_::_=>⟨λ_=>rfl,λz=>(nomatch z),λz=>(nomatch z)⟩
 | [],_::_,[]=>⟨λz=>(nomatch z),λz=>(nomatch z),λz=>(nomatch z)⟩
 | [],y::ys,z::zs=>⟨λz=>(nomatch z),λ_=>rfl,λ_=>rfl⟩
 | x::xs,[],[]=>⟨λz=>(nomatch z),λ_=>rfl,λz=>(nomatch z)⟩
 | x::xs,[],_::_=>⟨λz=>(nomatch z),λz=>(nomatch z),λz=>(nomatch z)⟩
 | x::xs,y::ys,[]=>⟨λ_=>rfl,λz=>(nomatch z),λz=>z.symm⟩
 | x::xs,y::ys,z::zs=>by
  unfold Hu
  exact (Xn x y z).then' (T7 xs ys zs)
end
theorem RA (a b:D)(h:ltT a b=true):ltT b a=false:=by
 unfold ltT at *
 rw [cmp_swap a b]
 cases c:Dp a b<;>rw [c] at h<;>first|rfl|cases h
theorem UH (a b c:D)(h1:ltT b a=false)(h2:ltT c b=false):ltT c a=false:=by
 unfold ltT at *
 have t:=Xn c b a
 cases q:Dp c b with
 | eq=>rw [← t.e1 q];exact h1
 | lt=>rw [q] at h2;cases h2
 | gt =>
  cases q2:Dp b a with
  | eq=>rw [← t.e2 q2,q];rfl
  | lt=>rw [q2] at h1;cases h1
  | gt=>rw [t.e3 (q.trans q2.symm),q];rfl
mutual
noncomputable def G5:D->Bool
 | .int _=>true
 | .str _=>true
 | .tup ds=>G3 ds
 | _=>false
noncomputable def G3:List D->Bool
 | []=>true
 | d::ds=>G5 d&&G3 ds
end
mutual
theorem Js:∀ {d:D},G5 d=true->hsh d=true
 | .int _,_=>rfl
 | .str _,_=>rfl
 | .tup ds,h=>by unfold G5 at h;unfold hsh;exact ON h
 | .non,h=>nomatch h
 | .bl _,h=>nomatch h
 | .lst _,h=>nomatch h
 | .dct _ _,h=>nomatch h
 | .set _,h=>nomatch h
 | .ref _,h=>nomatch h
theorem ON:∀ {ds:List D},G3 ds=true->HS ds=true
 | [],_=>rfl
 | d::ds,h=>by
  unfold G3 at h
  rw [Ab] at h
  unfold HS
  rw [Js h.1,ON h.2]
  rfl
end
mutual
theorem QK:∀ (a b:D),G5 a=true->G5 b=true->Dp a b=.eq->a=b
 | .int i,b,_,hb,h=>by
  cases b<;>first|(cases hb;done)|(simp [Dp,IY,rk] at h;done)|skip
  rename_i j
  unfold Dp LA at h
  repeat' split at h
  all_goals first|(cases h;done)|(congr 1;ext)
 | .str i,b,_,hb,h=>by
  cases b<;>first|(cases hb;done)|(simp [Dp,IY,rk] at h;done)|skip
  unfold Dp at h
  rw [Kk.mp h]
 | .tup xs,b,ha,hb,h=>by
  cases b<;>first|(cases hb;done)|(simp [Dp,IY,rk] at h;done)|skip
  unfold Dp at h
  unfold G5 at ha hb
  congr 1
  exact RP xs _ ha hb h
 | .non,_,h,_,_=>nomatch h
 | .bl _,_,h,_,_=>nomatch h
 | .lst _,_,h,_,_=>nomatch h
 | .dct _ _,_,h,_,_=>nomatch h
 | .set _,_,h,_,_=>nomatch h
 | .ref _,_,h,_,_=>nomatch h
theorem RP:∀ (xs ys:List D),G3 xs=true->G3 ys=true->Hu xs ys=.eq->xs=ys
 | [],[],_,_,_=>rfl
 | [],_::_,_,_,h=>by cases h
 | _::_,[],_,_,h=>by cases h
 | x::xs,y::ys,ha,hb,h=>by
  unfold G3 at ha hb
  rw [Ab] at ha hb
  unfold Hu at h
  cases c:Dp x y<;>rw [c] at h<;>first|(cases h;done)|skip
  rw [QK x y ha.1 hb.1 c,RP xs ys ha.2 hb.2 h]
end
theorem lt_eq (a b:D)(ha:G5 a=true)(hb:G5 b=true)(h1:ltT a b=false)(h2:ltT b a=false):a=b:=by
 refine QK a b ha hb ?_
 unfold ltT at h1 h2
 rw [cmp_swap a b] at h2
 cases c:Dp a b with
 | eq=>rfl
 | lt=>rw [c] at h1;cases h1
 | gt=>rw [c] at h2;cases h2
theorem U6 (a:D):Dp a a=.eq:=by
 have:=cmp_swap a a
 cases c:Dp a a<;>rw [c] at this<;>first|rfl|cases this
mutual
theorem Xv:∀ (a b:D) (r:Bool),G5 a=true->G5 b=true->ltB a b=some r->r=(Dp a b==.lt)
 | .int i,b,r,_,hb,h=>by
  cases b<;>first|(cases hb;done)|(unfold ltB at h;cases h;done)|skip
  rename_i j
  unfold ltB at h
  cases h
  unfold Dp LA
  by_cases c:i<j
  ·simp [c]
  ·rw [AV c,if_neg c];split<;>rfl
 | .str i,b,r,_,hb,h=>by
  cases b<;>first|(cases hb;done)|(unfold ltB at h;cases h;done)|skip
  rename_i j
  unfold ltB at h
  cases h
  unfold Dp
  by_cases c:i.cps.toList<j.cps.toList
  ·rw [Bw c,Hn.mpr c];rfl
  ·rw [AV c]
   have:IB i j≠.lt:=λz=>c (Hn.mp z)
   cases e:IB i j<;>first|rfl|exact absurd e this
 | .tup xs,b,r,ha,hb,h=>by
  cases b<;>first|(cases hb;done)|(unfold ltB at h;cases h;done)|skip
  unfold ltB at h
  unfold Dp
  unfold G5 at ha hb
  exact U0 xs _ r ha hb h
 | .non,_,_,h,_,_=>nomatch h
 | .bl _,_,_,h,_,_=>nomatch h
 | .lst _,_,_,h,_,_=>nomatch h
 | .dct _ _,_,_,h,_,_=>nomatch h
 | .set _,_,_,h,_,_=>nomatch h
 | .ref _,_,_,h,_,_=>nomatch h
theorem U0:∀ (xs ys:List D) (r:Bool),G3 xs=true->G3 ys=true->Hq xs ys=some r->r=(Hu xs ys==.lt)
 | [],[],r,_,_,h=>by unfold Hq at h;cases h;rfl
 | [],_::_,r,_,_,h=>by unfold Hq at h;cases h;rfl
 | _::_,[],r,_,_,h=>by unfold Hq at h;cases h;rfl
 | x::xs,y::ys,r,ha,hb,h=>by
  unfold G3 at ha hb
  rw [Ab] at ha hb
  unfold Hq at h
  split at h
  ·rw [Hm (Js ha.1) (Js hb.1)] at h
   unfold Hu
   by_cases c:x=y
   ·rw [Bw c] at h
    subst c
    rw [U6]
    exact U0 xs ys r ha.2 hb.2 (by simpa using h)
   ·rw [AV c] at h
    have e:=Xv x y r ha.1 hb.1 (by simpa using h)
    rw [e]
    cases q:Dp x y with
    | eq=>exact absurd (QK x y ha.1 hb.1 q) c
    | lt=>rfl
    | gt=>rfl
  ·cases h
end
def leT (a b:D):Bool:=!ltT b a
def Hb (es:List D):List D:=es.mergeSort leT
theorem Sq (a b c:D)(h1:leT a b=true)(h2:leT b c=true):leT a c=true:=by
 unfold leT at *
 simp at h1 h2 ⊢
 exact UH a b c h1 h2
theorem SW (a b:D):(leT a b||leT b a)=true:=by
 unfold leT
 cases c:ltT b a with
 | false=>rfl
 | true=>simp [RA b a c]
theorem ET (es:List D):(Hb es).Perm es:=List.mergeSort_perm es leT
theorem NR (es:List D):(Hb es).Pairwise λa b=>leT a b=true:=List.pairwise_mergeSort Sq SW es
theorem LL {es rs:List D}(ho:∀ d∈es,G5 d=true)(hp:rs.Perm es)(hs:rs.Pairwise λa b=>leT a b=true):rs=Hb es:=by
 have hp2:=hp.trans (ET es).symm
 refine List.Perm.eq_of_pairwise (λa b ha hb h1 h2=>?_) hs (NR es) hp2
 unfold leT at h1 h2
 simp at h1 h2
 exact lt_eq a b (ho a (hp.mem_iff.mp ha)) (ho b ((ET es).mem_iff.mp hb)) h2 h1
theorem Nj {es fs:List D}(ho:∀ d∈es,G5 d=true)(hp:fs.Perm es):Hb fs=Hb es:=LL ho ((ET fs).trans hp) (NR fs)
section
variable {prog:Program} {w:World} {A:Around} {E:Value->Shared->Prop} {s:Shared}
theorem SH {S I:Addr}{es:Array (Int×Value)}{ep:Nat}{t:SetTable}{md:Md}{Q:PySem.Fin->Shared->Prop}(hh:A.handled=none)(hf:t.fits es.size=true)(g:SIt w S I es ep t md es.size s.heap)
  (q:∀ h' e,(∀ c o,c≠I->s.heap.get? c=some o->h'.get? c=some o)->(∃ o,h'.get? e=some o∧o.cls=.type "StopIteration")->E (.ref e) { s with heap:=h' }) :
  wpAny (model prog w) A (Builtin.«set_iterator.__next__» ⟨[.ref I],[]⟩) Q E s:=by
 obtain ⟨⟨ob,g1,g2⟩,o,v,k1,k2,k3,k4⟩:=id g
 have upd:∀ (h:Heap) f c o',c≠I->h.get? c=some o'->(h.update I f).get? c=some o':=λh f c o' hc e=>((Ay ..).2 c hc).trans e
 refine (?_:wpAny _ _ (fieldsOf (.ref I) >>= _) _ _ _)
 refine Aa (wpAny_fieldsOf k1 k3 (?_:wpAny _ _ (setEntries S >>= _) _ _ _))
 refine Aa (wpAny_setEntries_of g1 g2 hf ?_)
 rw [if_neg (by simp)]
 cases md with
 | drw TI pl =>
  obtain ⟨rfl,⟨tb,b1,b2,n,b3⟩,c1,c2⟩:=k4
  refine (?_:wpAny _ _ (seqItems? (.ref TI) >>= _) _ _ _)
  refine Aa (wpAny_seqItems b1 b3 ?_)
  have ei:(pl.map λp:Nat=>rawInt p).toArray[((es.size:Nat):Int).toNat]? = none:=by simp [c1]
  dsimp only
  rw [ei]
  obtain ⟨o',e1,e2,e3⟩:=Ge (i:=0) (x:=rawInt 0) k1 k3
  refine Aa (BC k1 k3 (by simp) (Aa (BC e1 e3 (by simp) ?_)))
  exact HI (I:=I) hh λh' e a b=>q h' e (λc o hc z=>a c o (upd _ _ c o hc (upd _ _ c o hc z))) b
 | txt =>
  obtain ⟨bt,c,rfl⟩:=k4
  refine (?_:wpAny _ _ (setNext S ((c:Nat):Int).toNat ((es.size:Nat):Int).toNat ((ep:Nat):Int).toNat >>= _) _ _ _)
  refine Aa ?_
  unfold setNext
  refine Aa (BA g1 g2 hf (Aa (F9 ?_)))
  rw [if_pos bt]
  rw [Int.toNat_natCast,Int.toNat_natCast,Int.toNat_natCast]
  dsimp only
  rw [if_neg (by simp)]
  refine Aa ?_
  unfold setWalk
  refine Aa (BA g1 g2 hf (Aa (F9 ?_)))
  rw [if_pos bt]
  refine Aa (wpAny_askSetting (Ac (Ac ?_)))
  have hl:(pickOrder (w.params.setOrder S ep) es).size=es.size:=by
   have:=(G4 (w.params.setOrder S ep) es).length_eq
   simpa using this
  have ex':Option.map (λe:Int×Value=>(e.2,c)) (pickOrder ((⟨prog,w.params⟩:Setting).params.setOrder S ep) es)[es.size]? = none:=by
   rw [BN (by rw [show (⟨prog,w.params⟩:Setting).params.setOrder S ep=w.params.setOrder S ep from rfl,hl];exact Al _)];rfl
  refine (?_:wpAny _ _ (match Option.map (λe:Int×Value=>(e.2,c)) (pickOrder ((⟨prog,w.params⟩:Setting).params.setOrder S ep) es)[es.size]? with|some (x,next)=>_|none=>_) _ _ _)
  rw [ex']
  refine Aa (BC k1 k3 (by simp) ?_)
  exact HI (I:=I) hh λh' e a b=>q h' e (λc o hc z=>a c o (upd _ _ c o hc z)) b
 | one =>
  obtain ⟨bt,pl,sz,led,rfl⟩:=k4
  refine (?_:wpAny _ _ (setNext S ((if es.size=0 then 0 else (t.place.getD 0 0+1):Nat):Int).toNat ((es.size:Nat):Int).toNat ((ep:Nat):Int).toNat >>= _) _ _ _)
  refine Aa ?_
  unfold setNext
  refine Aa (BA g1 g2 hf (Aa (F9 ?_)))
  rw [if_neg (by rw [bt];exact AJ)]
  refine Jh (λz=>?_) λ_=>?_
  ·exfalso
   have z':(!t.plain&&decide (es.size > 1))=true:=z
   simp at z'
   ext
  refine Aa (Jh (λz=>?_) λ_=>?_)
  ·exfalso
   have z':(!t.led&&!es.isEmpty)=true:=z
   rw [led] at z'
   simp at z'
  refine Ac ?_
  have ps:t.place.size=es.size:=by
   simp only [SetTable.fits,Ab,beq_iff_eq,Ad] at hf
   exact hf.1
  have bl:SetTable.below t.place (if es.size=0 then 0 else (t.place.getD 0 0+1))=es.size:=by
   by_cases c:es.size=0
   ·rw [if_pos c,L4 (by ext),c]
   ·rw [if_neg c,Qe (by ext)];ext
  have en:es[es.size]? = none:=BN (Al _)
  have hm:(match es[SetTable.below t.place ((if es.size=0 then 0 else (t.place.getD 0 0+1):Nat):Int).toNat]?,t.place[SetTable.below t.place ((if es.size=0 then 0 else (t.place.getD 0 0+1):Nat):Int).toNat]? with|some (_,x),some j=>some (x,j+1)|_,_=>none)=none:=by
   rw [Int.toNat_natCast,bl,en]
  refine (?_:wpAny _ _ (pure (match es[SetTable.below t.place ((if es.size=0 then 0 else (t.place.getD 0 0+1):Nat):Int).toNat]?,t.place[SetTable.below t.place ((if es.size=0 then 0 else (t.place.getD 0 0+1):Nat):Int).toNat]? with|some (_,x),some j=>some (x,j+1)|_,_=>none)) _ _ _)
  rw [hm]
  refine Ac (Aa (BC k1 k3 (by simp) ?_))
  exact HI (I:=I) hh λh' e a b=>q h' e (λc o hc z=>a c o (upd _ _ c o hc z)) b
theorem SIt.ty {S I:Addr}{es:Array (Int×Value)}{ep:Nat}{t:SetTable}{md:Md}{i:Nat}(g:SIt w S I es ep t md i s.heap):s.TypeIs (.ref I) "set_iterator":=let ⟨_,o,v,k1,k2,_⟩:=g;⟨o,k1,k2⟩
noncomputable def Md.fp (S I:Addr):Md->List Addr
 | .drw TI _=>[I,S,TI]
 | _=>[I,S]
theorem Ly:entryFor table "set_iterator.__iter__"=some Builtin.«dict_keyiterator.__iter__»:=
 entryFor_alias (id':="dict_keyiterator.__iter__") (by kernel_rfl) rfl (by symm) (by kernel_rfl)
theorem L7 (a:Value):argsOk "set_iterator.__iter__" ⟨[a],[]⟩:=by
 unfold argsOk;rw [signature?_of (id:="set_iterator.__iter__") (n:=['_','_','r','e','t','i','_','_']) (o:=['r','o','t','a','r','e','t','i','_','t','e','s']) (by kernel_rfl) L5];kernel_rfl
theorem NA (hh:A.handled=none){S I:Addr}{es:Array (Int×Value)}{ep:Nat}{t:SetTable}{md:Md}(hf:t.fits es.size=true)(ne:S≠I)(ap:md.apart I) :
  Walks prog w A I (md.fp S I) [I] es.size (λi v=>(MR w S es ep md)[i]? = some v) (λi h=>SIt w S I es ep t md i h) where
 sub:=λb hb=>by rw [Ag.mp hb];cases md<;>simp [Md.fp]
 frame:=λ_ h h' st hk=>by
  obtain ⟨⟨ob,g1,g2⟩,o,v,k1,k2,k3,k4⟩:=st
  refine ⟨⟨ob,hk S (by cases md<;>simp [Md.fp]) _ g1,g2⟩,o,v,hk I (by cases md<;>simp [Md.fp]) _ k1,k2,k3,?_⟩
  cases md with
  | drw TI pl=>obtain ⟨a,⟨tb,b1,b2⟩,c⟩:=k4;exact ⟨a,⟨tb,hk TI (by simp [Md.fp]) _ b1,b2⟩,c⟩
  | txt=>exact k4
  | one=>exact k4
 item:=λ_ s Q E hi st hQ=>by
  unfold pyNext
  exact Aa (wpAny_attempt (Ba (name:=Str.ofString "__next__") st.ty EC (AY EC st.ty Iv (Sj hf ne ap st hi λv h' e g' sb=>Ac (hQ v h' s.toks e g' λb o hb z=>(sb.2 b (by simpa using hb)).trans z)) (IV _))))
 done:=λs Q E st hQ=>by
  unfold pyNext
  refine Aa (wpAny_attempt (Ba (name:=Str.ofString "__next__") st.ty EC (AY EC st.ty Iv (SH hh hf st λh' e a b=>?_) (IV _))))
  obtain ⟨o,ho,hc⟩:=b
  exact Aa (wpAny_isInstance (T:="StopIteration") (b:=true) ⟨o,ho,hc⟩ isSubtype_stop (Ac (hQ h' s.toks λb o hb z=>a b o (by simpa using hb) z)))
 self:=λi s Q E st hQ=>by
  refine wpAny_pyIter_slot st.ty Jf (AY Jf st.ty Ly ?_ (L7 _))
  refine (?_:wpAny _ _ (ret (.ref I)) _ _ s)
  exact Ac ⟨_,rfl,"set_iterator",_,st.ty,EC.lookup,hQ⟩
theorem Mu:entryFor table "set.__iter__"=some Builtin.«frozenset.__iter__»:=
 entryFor_alias (id':="frozenset.__iter__") (by kernel_rfl) (by symm) (by symm) (by kernel_rfl)
theorem QV {S:Addr}{ob:Obj}{es:Array (Int×Value)}{ep:Nat}{t:SetTable}{Q:Value->Shared->Prop}(hz:es.size≤sizeLine)(g1:s.heap.get? S=some ob)(gc:ob.cls=.type "set")(g2:ob.data=.set es ep t)(hf:t.fits es.size=true)(hw:El w=true∨t.led=true∧(t.plain=false∨es.size≤1))
  (q:∀ I h' d' md,s.heap.objs.size≤I->SIt w S I es ep t md 0 h'->md.apart I->(∀ b o,s.heap.get? b=some o->h'.get? b=some o)->(MR w S es ep md).Perm (es.toList.map (·.2))->(∀ b∈md.fp S I,b<h'.objs.size)->Q (.ref I) { s with heap:=h',drawn:=d' }):wpAny (model prog w) A (pyIter (.ref S)) Q E s:=by
 have ty:s.TypeIs (.ref S) "set":=⟨ob,g1,gc⟩
 refine wpAny_pyIter_slot ty F.slot_set_iter (AY F.slot_set_iter ty Mu ?_ (F.args_set_iter_1 _))
 refine (?_:wpAny _ _ (Builtin.Frozenset.sizeOf S >>= _) _ _ s)
 refine Aa (Aa (wpAny_setEntries_of g1 g2 hf (Ac ?_)))
 have lt:S<s.heap.objs.size:=Ar g1
 have fin:∀ (h1:Heap) d1 (md:Md) (v:Value),(∀ b o,s.heap.get? b=some o->h1.get? b=some o)->s.heap.objs.size≤h1.objs.size->Fst w es t h1 0 v md->(∀ TI pl,md=.drw TI pl->TI<h1.objs.size)->(MR w S es ep md).Perm (es.toList.map (·.2)) ->
   wpAny (model prog w) A.in1 (setEpoch S >>= λe=>newFields "set_iterator" [v,rawInt 0,.ref S,rawInt es.size,rawInt e] >>= λr=>ret r) (λfin s'=>∃ v,fin=.done (.ret v)∧∃ T' r,s'.TypeIs v T'∧typeLookup (.type T') "__next__"=pure (some r)∧Q v s') E { s with heap:=h1,drawn:=d1 }:=λh1 d1 md v hk hsz hF hTI hp=>by
  refine Aa (wpAny_setEpoch_of (s:={ s with heap:=h1,drawn:=d1 }) (hk _ _ g1) g2 hf (Aa ?_))
  unfold newFields
  refine AW (Ac ⟨_,rfl,"set_iterator",_,⟨_,Aq _ rfl,rfl⟩,EC.lookup,?_⟩) (by size_fits)
  refine q h1.objs.size _ d1 md hsz ⟨⟨ob,Ae _ (hk _ _ g1),g2⟩,_,v,Aq _ rfl,rfl,rfl,?_⟩ ?_ (λb o e=>Ae _ (hk b o e)) hp ?_
  ·cases md with
   | drw TI pl=>obtain ⟨a,⟨tb,b1,b2⟩,c⟩:=hF;exact ⟨a,⟨tb,Ae _ b1,b2⟩,c⟩
   | txt=>exact hF
   | one=>exact hF
  ·cases md with
   | drw TI pl=>exact AF (hTI TI pl rfl)
   | txt=>exact True.intro
   | one=>exact True.intro
  ·intro b hb
   rw [BS]
   have lS:=Bu (Az lt hsz)
   cases md with
   | drw TI pl =>
    have:=hTI TI pl rfl
    simp only [Md.fp,Am,AE,Bk] at hb
    rcases hb with rfl|rfl|rfl
    ·exact Bj _
    ·exact lS
    ·exact Bu this
   | txt =>
    simp only [Md.fp,Am,AE,Bk] at hb
    rcases hb with rfl|rfl
    ·exact Bj _
    ·exact lS
   | one =>
    simp only [Md.fp,Am,AE,Bk] at hb
    rcases hb with rfl|rfl
    ·exact Bj _
    ·exact lS
 refine (?_:wpAny _ _ (setDrawn S >>= _) _ _ s)
 refine Aa ?_
 unfold setDrawn
 refine Aa (BA g1 g2 hf (Aa (F9 (Ac ?_))))
 refine Jh (λc=>?_) λc=>?_
 ·have c':(!El w&&(!t.plain&&decide (es.size > 1)))=true:=c
  refine Aa (Pq es.size (List.range es.size) (by simp) λys d' p=>?_)
  unfold newTuple
  refine Aa (AW ?_ (by
   show ((ys.map λi:Nat=>rawInt i).toArray).size≤sizeLine
   rw [An,Af,p.length_eq,List.length_range];exact hz))
  have sz:(s.heap.push { cls:=.type "tuple",data:=.seq (ys.map λi:Nat=>rawInt i).toArray }).objs.size=s.heap.objs.size+1:=BS ..
  refine fin _ d' (.drw s.heap.objs.size ys) _ (λb o e=>Ae _ e) (by rw [sz];ext) ⟨rfl,⟨_,Aq _ rfl,rfl,_,rfl⟩,by rw [p.length_eq,List.length_range],λx hx=>BR.mp (p.mem_iff.mp hx)⟩ (λTI pl e=>by cases e;rw [sz];exact Bj _) ?_
  unfold MR
  have e1:(List.range es.size).map (λp=>(es.getD p (0,.none)).2)=es.toList.map (·.2):=by
   refine A7 λi=>?_
   rw [Av,Av,AA]
   by_cases hi:i<es.size
   ·simp [hi,Array.getD]
   ·simp [hi]
  rw [← e1]
  exact p.map _
 ·have c':¬ (!El w&&(!t.plain&&decide (es.size > 1)))=true:=c
  by_cases bt:El w=true
  ·refine fin s.heap s.drawn .txt (rawInt 0) (λ_ _ e=>e) (Al _) ⟨bt,0,rfl⟩ (λTI pl e=>nomatch e) ?_
   exact (G4 _ es).map _
  ·have bf:El w=false:=by simpa using bt
   have hw':=hw.resolve_left bt
   have sz:es.size≤1:=by
    rw [bf] at c'
    rcases hw'.2 with z|z
    ·rw [z] at c';simp at c';ext
    ·exact z
   exact fin s.heap s.drawn .one (rawInt 0) (λ_ _ e=>e) (Al _) ⟨bf,hw'.2,sz,hw'.1,rfl⟩ (λTI pl e=>nomatch e) (List.Perm.refl _)
theorem QG {S:Addr}{ob:Obj}{es:Array (Int×Value)}{ep:Nat}{t:SetTable}{Q:List Value->Shared->Prop}(hh:A.handled=none)(hz:es.size≤sizeLine)(g1:s.heap.get? S=some ob)(gc:ob.cls=.type "set")(g2:ob.data=.set es ep t)(hf:t.fits es.size=true)(hw:El w=true∨t.led=true∧(t.plain=false∨es.size≤1))
  (q:∀ zs h' tk d',zs.Perm (es.toList.map (·.2))->(∀ b o,s.heap.get? b=some o->h'.get? b=some o)->Q zs { s with heap:=h',toks:=tk,drawn:=d' }):wpAny (model prog w) A (collect (.ref S)) Q E s:=by
 have lt:S<s.heap.objs.size:=Ar g1
 have nS:s.heap.objs.size≠S:=Nat.ne_of_gt lt
 unfold collect
 refine Aa (wpAny_runValue (Bq F.entry_proto_collect ?_))
 rw [Bm F.plain_proto_collect _]
 refine (?_:wpAny _ A.in1 (newList [] >>= λl=>again (.builtin "list.__iadd__" ⟨[l,.ref S],[]⟩)) _ _ s)
 refine Aa (AW (Ac ⟨plainId_quiet F.plain_list_iadd _,Bq F.entry_list_iadd ?_⟩))
 rw [Bm F.plain_list_iadd _]
 refine (?_:wpAny _ A.in1 (Builtin.List.listExtendWith (.ref s.heap.objs.size) (.ref S) (.ref s.heap.objs.size)) _ _ _)
 (unfold Builtin.List.listExtendWith)
 have gS:(s.heap.push { cls:=.type "list",data:=.seq ([]:List Value).toArray }).get? S=some ob:=Ae _ g1
 have gL:(s.heap.push { cls:=.type "list",data:=.seq ([]:List Value).toArray }).get? s.heap.objs.size=some { cls:=.type "list",data:=.seq ([]:List Value).toArray }:=Aq _ rfl
 generalize hP:s.heap.push { cls:=.type "list",data:=.seq ([]:List Value).toArray }=h1 at gS gL ⊢
 have k1:∀ b o,s.heap.get? b=some o->h1.get? b=some o:=λb o e=>by rw [← hP];exact Ae _ e
 have sz1:h1.objs.size=s.heap.objs.size+1:=by rw [← hP];exact BS ..
 have ty:Shared.TypeIs { s with heap:=h1 } (.ref S) "set":=⟨ob,gS,gc⟩
 refine Aa (BL ty ?_)
 have e1:Builtin.List.listSameRef (.ref s.heap.objs.size) (.ref S)=false:=by simp [Builtin.List.listSameRef,nS]
 have e2:(Value.type "set"==Value.type "list")=false:=by decide
 have e3:(Value.type "set"==Value.type "tuple")=false:=by decide
 simp only [e1,e2,e3,Bool.or_false,AG,AZ]
 refine Aa (QV (s:={ s with heap:=h1 }) hz gS gc g2 hf hw λI h2 d2 md hI st ap k2 pm fpl=>?_)
 refine Aa (AI ?_)
 have ty2:Shared.TypeIs { s with heap:=h2,drawn:=d2 } (.ref S) "set":=⟨ob,k2 _ _ gS,gc⟩
 (unfold Builtin.List.listLengthHint)
 refine Aa (wpAny_specialOf ty2 F.slot_set_len.lookup ?_)
 refine (?_:wpAny _ A.in1 (isInstance (Value.ref S) (.type "set") >>= _) _ _ _)
 refine Aa (wpAny_isInstance ty2 sub_set_self ?_)
 refine (?_:wpAny _ A.in1 (typeOf (Value.ref S) >>= _) _ _ _)
 refine Aa (BL ty2 (Ac ?_))
 refine (?_:wpAny _ A.in1 (rule "list.extend.makes-room" >>= λ_=>Builtin.List.listTouch (.ref s.heap.objs.size) >>= λ_=>again (.builtin "list.extend.loop" ⟨[.ref s.heap.objs.size,.ref I,.ref s.heap.objs.size],[]⟩)) _ _ _)
 refine Aa (Bo (Aa ?_))
 refine (?_:wpAny _ A.in1 (updateSeq s.heap.objs.size (·.push .none) >>= λ_=>updateSeq s.heap.objs.size (·.pop)) _ _ _)
 have gL2:=k2 _ _ gL
 refine Aa (wpAny_updateSeq gL2 rfl ?_)
 have gL3:=AR (Obj.mapSeq (·.push Value.none)) gL2 rfl
 refine wpAny_updateSeq gL3 rfl ?_
 have gL4:=AR (Obj.mapSeq (·.pop)) gL3 rfl
 have nL:s.heap.objs.size∉md.fp S I:=by
  have nI:s.heap.objs.size≠I:=λe=>by
   have:s.heap.objs.size+1≤I:=by rw [← sz1];exact hI
   rw [← e] at this
   exact absurd this (Nat.not_succ_le_self _)
  cases md with
  | drw TI pl =>
   obtain ⟨_,o,v,_,_,_,_,⟨tb,b1,b2,_⟩,_⟩:=st
   have nT:s.heap.objs.size≠TI:=λe=>by
    rw [← e,gL2] at b1
    cases b1
    exact absurd b2 (by decide)
   simp only [Md.fp,Am,AE,Bk,not_or]
   exact ⟨nI,nS,nT⟩
  | txt=>simp only [Md.fp,Am,AE,Bk,not_or];exact ⟨nI,nS⟩
  | one=>simp only [Md.fp,Am,AE,Bk,not_or];exact ⟨nI,nS⟩
 have oth:∀ b o,b≠s.heap.objs.size->h2.get? b=some o->((h2.update s.heap.objs.size (Obj.mapSeq (·.push Value.none))).update s.heap.objs.size (Obj.mapSeq (·.pop))).get? b=some o:=
  λb o hb e=>(BM _ _ (Ne.symm hb)).trans ((BM _ _ (Ne.symm hb)).trans e)
 have nSI:S≠I:=λe=>by
  have a:s.heap.objs.size+1≤I:=by rw [← sz1];exact hI
  rw [← e] at a
  exact absurd (Az lt (AL (Bx _) a)) (Bi _)
 have W:=(NA (prog:=prog) (A:=A.in1) (w:=w) (ep:=ep) hh hf nSI ap).toS
 refine Ac ⟨plainId_quiet F.plain_extend_loop _,codeAny_extend_loopS (A:=A) W hz _ nL _ es.size 0 _ _ _ rfl (A0 _) ?_ gL4 (ItemsOf.nil _) λs' acc' c' hm hS' hacc=>?_⟩
 ·exact (NA (prog:=prog) (A:=A.in1) (w:=w) (ep:=ep) hh hf nSI ap).frame 0 _ _ st λb hb o e=>oth b o (λz=>nL (z▸hb)) e
 refine (?_:wpAny _ A (load s.heap.objs.size >>= _) _ _ s')
 refine Aa (wpAny_load hS' ?_)
 obtain ⟨zh,zg,zd,zt,zo⟩:=s'
 have e4:zg=s.gens:=hm.gens
 have e5:zd=d2:=hm.drawn
 have e6:zo=s.os:=hm.os
 subst e4 e5 e6
 refine Ac (q acc'.toList zh zt zd ?_ λb o e=>?_)
 ·have ln:(MR w S es ep md).length=es.size:=by rw [pm.length_eq];simp
  have:acc'.toList=MR w S es ep md:=by
   refine A7 λi=>?_
   by_cases hi:i<es.size
   ·have hi':i<acc'.size:=by rw [hacc.1];exact hi
    rw [AA,AH hi']
    exact (hacc.2 i _ (AH hi')).symm
   ·rw [AA,BN (by rw [hacc.1];ext),BB (by rw [ln];ext)]
  rw [this]
  exact pm
 ·have bl:=Ar e
  refine hm.heap b o ?_ (oth b o (AF bl) (k2 _ _ (k1 _ _ e)))
  simp only [Am,AE,Bk,not_or]
  refine ⟨AF bl,λz=>?_⟩
  have a:s.heap.objs.size+1≤I:=by rw [← sz1];exact hI
  rw [← z] at a
  exact absurd (Az bl (AL (Bx _) a)) (Bi _)
def Ka (prog:Program)(w:World)(A:Around)(zs out:List Value)(s:Shared):Prop:=∀ (h1:Heap) (a:Addr) (P:PySem.Fin->Shared->Prop) (E':Value->Shared->Prop),(∀ b o,s.heap.get? b=some o->h1.get? b=some o)->s.heap.get? a=none->h1.get? a=some (seqObj "list" zs.toArray 0) ->
 P (.done (.ret .none)) { s with heap:=sortedHeap h1 a zs out.toArray }->wpAny (model prog w) A (Builtin.«list.sort» ⟨[.ref a],[]⟩) P E' { s with heap:=h1 }
theorem M7 {x:Value}{Q:Value->Shared->Prop}(hcol:wpAny (model prog w) A.in1 (collect x) (λzs s1=>zs.length≤sizeLine∧∃ out,Ka prog w A.in1.in1 zs out s1∧∀ h' e a,(∀ b o,s1.heap.get? b=some o->h'.get? b=some o)->s1.heap.objs.size≤a->h'.get? a=some (seqObj "list" out.toArray e)->Q (.ref a) { s1 with heap:=h' }) E s) :
  wpAny (model prog w) A (call (.builtin "sorted") [x]) Q E s:=by
 (refine Calls.call_function_entry kind_sorted plain_sorted entry_sorted (args_sorted1 _) ?_)
 unfold Builtin.«sorted»
 refine Aa (m:=checkCount "sorted" 1 1 _) (Ac (Aa (wpAny_mono hcol (λzs s1 hq=>?_) λ_ _ z=>z)))
 obtain ⟨hz,out,hs,q⟩:=hq
 refine Aa (wpAny_newList ?_ hz)
 have g1:(s1.heap.push (seqObj "list" zs.toArray 0)).get? s1.heap.objs.size=some (seqObj "list" zs.toArray 0):=Aq _ rfl
 have fr:s1.heap.get? s1.heap.objs.size=none:=Heap.get?_none_of_le (Al _)
 refine Aa (AI (AY slot_list_sort ⟨_,g1,rfl⟩ entry_list_sort (hs (s1.heap.push (seqObj "list" zs.toArray 0)) _ _ _ (λb o e=>Ae _ e) fr g1 ⟨_,rfl,Ac ⟨_,rfl,?_⟩⟩) (args_list_sort _)))
 obtain ⟨e,he⟩:=sortedHeap_at (out:=out.toArray) g1
 refine q _ e _ (λb o z=>?_) (Al _) he
 have lb:=Ar z
 rw [sortedHeap_old (AF lb) (by rw [size_push'];exact Bu lb)]
 exact Ae _ z
end
noncomputable def X1:D->Bool
 | .str _=>true
 | _=>false
def Nf (es:List D):Bool:=es.all λa=>es.all λb=>(ltB a b).isSome
def FF (es:List D):Bool:=decide (es.length<64)&&es.all G5&&Nf es&&(es.all X1||es.all tupS)
section
variable {X:Cx} {K:Zc} {th:List Addr} {mu:Sto} {H:Hp} {pins:List (Addr×Obj)} {st:L2.St} {s:Shared}
theorem WC {es:List D}(ho:es.all G5=true)(hc:Nf es=true):Pre es.length (Su es) λi j=>ltT (es.getD i .non) (es.getD j .non):=by
 have gd:∀ i,i<es.length->es.getD i .non=es[i]?.getD .non∧∃ d,es[i]? = some d∧es.getD i .non=d∧d∈es:=λi hi=>by
  rw [AM]
  exact ⟨rfl,es[i],Au hi,by rw [Au hi];rfl,BQ hi⟩
 rw [Ao] at ho
 unfold Nf at hc
 rw [Ao] at hc
 refine ⟨λi j hi hj=>?_,λi j hi hj h=>RA _ _ h,λi j k hi hj hk h1 h2=>UH _ _ _ h1 h2⟩
 obtain ⟨_,d,e1,e2,e3⟩:=gd i hi
 obtain ⟨_,d',f1,f2,f3⟩:=gd j hj
 unfold Su
 rw [e1,f1,e2,f2]
 have:=hc d e3
 rw [Ao] at this
 obtain ⟨r,hr⟩:=Option.isSome_iff_exists.mp (this d' f3)
 dsimp only
 rw [hr,Xv d d' r (ho d e3) (ho d' f3) hr]
 rfl
theorem WM (I:L2.Inv X pins st H s){es:List D}{vs:List V}{us:List Value}(hd:es.all X1=true)(r:RepL X.z th H es vs)(q:Vals vs us){A:Around} :
  ∀ i j b C,Su es i j=some b->C b s->PySem.W.kas_ask X.prog X.w A oneType' us i j C s:=λi j b C e hC=>by
 rw [Ao] at hd
 unfold Su at e
 cases e1:es[i]? with
 | none=>rw [e1] at e;cases e
 | some d =>
  cases e2:es[j]? with
  | none=>rw [e1,e2] at e;cases e
  | some d' =>
   rw [e1,e2] at e
   have s1:=hd d (Ap e1)
   have s2:=hd d' (Ap e2)
   cases d<;>first|(cases s1;done)|skip
   cases d'<;>first|(cases s2;done)|skip
   rename_i x y
   unfold ltB at e
   cases e
   obtain ⟨v,v1,v2⟩:=r.get e1
   obtain ⟨v',v1',v2'⟩:=r.get e2
   obtain ⟨u,u1,u2⟩:=q.get v1
   obtain ⟨u',u1',u2'⟩:=q.get v1'
   obtain ⟨rfl,_⟩:=(show _∧_ from v2)
   obtain ⟨rfl,_⟩:=(show _∧_ from v2')
   obtain ⟨t,rfl⟩:=u2
   obtain ⟨t',rfl⟩:=u2'
   unfold PySem.W.kas_ask
   rw [AM,AM,u1,u1']
   exact PySem.W.kas_lt_str hC
theorem Tw {es:List D}{vs:List V}{us:List Value}(hd:es.all X1=true)(r:RepL X.z th H es vs)(q:Vals vs us):∃ ss,StrsAre us ss:=by
 refine ⟨_,strsAre_map us λu hu=>?_⟩
 obtain ⟨i,ei⟩:=AS.mp hu
 have hi:i<es.length:=by
  have:=(Ah.mp ei).1
  rw [← q.length,r.len] at this
  exact this
 rw [Ao] at hd
 obtain ⟨v,v1,v2⟩:=r.get (Au hi)
 have hs:=hd _ (BQ hi)
 obtain ⟨u',u1,u2⟩:=q.get v1
 rw [ei] at u1
 cases u1
 cases e:es[i]<;>rw [e] at hs v2<;>first|(cases hs;done)|skip
 obtain ⟨rfl,_⟩:=(show _∧_ from v2)
 obtain ⟨t,rfl⟩:=u2
 exact ⟨_,t,rfl⟩
theorem sorts (hu:X.A.units+64<cLine)(I:L2.Inv X pins st H s){es:List D}{vs:List V}{zs:List Value}(h2:RepL X.z th H es vs)(rv:Vals vs zs)(ok:FF es=true) :
  ∃ ws out,RepL X.z th H (Hb es) ws∧Vals ws out∧Ka X.prog X.w X.A.in1.in1 zs out s:=by
 unfold FF at ok
 rw [Ab,Ab,Ab,Ad,Bool.or_eq_true] at ok
 obtain ⟨⟨⟨c64,ho⟩,hc⟩,hk⟩:=ok
 have ho':∀ d∈es,G5 d=true:=by rw [Ao] at ho;exact ho
 have lz:zs.length=es.length:=by rw [← rv.length,h2.len]
 by_cases c2:es.length<2
 ·have:Hb es=es:=by
   refine (LL ho' (List.Perm.refl _) ?_).symm
   match es,c2 with
   | [],_=>exact .nil
   | [_],_=>exact List.pairwise_singleton _ _
   | _::_::_,c2=>exact absurd c2 (by simp only [List.length_cons];ext)
  rw [this]
  exact ⟨vs,zs,h2,rv,λh1 a P E' hk fr hl hP=>Uu hl (by rw [lz];exact c2) hP⟩
 ·obtain ⟨p,p1,pm,up⟩:=V9 (WC ho hc) (by ext)
  have pl:p.size=es.length:=by rw [← Array.length_toList,pm.length_eq,List.length_range]
  have inn:∀ i∈p.toList,i<es.length:=λi hi=>BR.mp (pm.mem_iff.mp hi)
  have es_eq:p.toList.map (λi=>es.getD i .non)=Hb es:=by
   refine LL ho' ?_ ?_
   ·refine (pm.map _).trans ?_
    have:(List.range es.length).map (λi=>es.getD i .non)=es:=by
     refine A7 λi=>?_
     rw [Av]
     by_cases hi:i<es.length
     ·simp [hi]
     ·simp [hi]
    rw [this]
   ·rw [List.pairwise_iff_getElem]
    intro i j hi hj hij
    rw [Af,Array.length_toList,pl] at hi hj
    have:=up i j (Nat.le_of_lt hij) hj
    rw [UP (by ext),UP (by ext)] at this
    dsimp only at this
    unfold leT
    simp only [List.getElem_map,Array.getElem_toList]
    rw [this]
    rfl
  refine ⟨p.toList.map λi=>vs.getD i .non,p.toList.map λi=>zs.getD i Value.none,?_,?_,λh1 a P E' hk1 fr hl hP=>?_⟩
  ·rw [← es_eq]
   exact RepL.pick (ds:=es) (vs:=vs) _ _ _ λi hi=>by
    have hi':=inn i hi
    obtain ⟨v,ev,rv'⟩:=h2.get (show es[i]? = some es[i] by simp [hi'])
    rw [AM,AM,ev,show es[i]? = some es[i] by simp [hi']]
    exact rv'
  ·exact Vals.pick rv _ _ _ λi hi=>by
    have hi':=inn i hi
    obtain ⟨v,ev,_⟩:=h2.get (show es[i]? = some es[i] by simp [hi'])
    obtain ⟨u,eu,ru⟩:=rv.get ev
    rw [AM,AM,ev,eu]
    exact ru
  ·have I6:L2.Inv X pins st H { s with heap:=((h1.update a (Obj.mapSeq λ_=>#[])).push (seqObj "tuple" zs.toArray 0)).push (seqObj "list" #[] 0) }:=I.kept (t':=s.toks) λb o q=>by
    refine Ae _ (Ae _ ?_)
    rw [Heap.get?_update_ne _ _ _ _ (λz=>by rw [z,fr] at q;cases q)]
    exact hk1 b o q
   rcases hk with hk|hk
   ·obtain ⟨ss,hS⟩:=Tw hk h2 rv
    refine Rb (kd:=oneType') p (by rw [lz];exact pl) hl (by rw [lz];ext) (by rw [lz];exact c64) (λQ' E2 hq=>?_) (λG hG=>?_) hP
    ·match zs,hS,lz with
     | [],_,lz=>simp at lz;ext
     | [_],_,lz=>simp at lz;ext
     | v1::v2::r,hS,_=>rw [keyKind_strs hS];exact Ac hq
    ·rw [lz]
     exact K4 (λi j b C ea hC=>WM I6 hk h2 rv i j b C ea hC) _ p G p1 hG
   ·obtain ⟨fs,f1,f2,f3⟩:=L0 I6 hk h2 rv
    refine Rb (kd:=tuples' true) p (by rw [lz];exact pl) hl (by rw [lz];ext) (by rw [lz];exact c64) (λQ' E2 hq=>PySem.W.kat_kind f1 (by rw [f2];ext) (T:=.type "str") (λv hv=>?_) rfl hq) (λG hG=>?_) hP
    ·obtain ⟨x,tk,rfl⟩:=f3 v hv
     exact λA Q E s _ hq=>BL (typeIs_str s x tk) hq
    ·rw [lz]
     exact K4 (λi j b C ea hC=>Y1 I6 hk h2 rv (A:=X.A.in1.in1) (by show X.A.units+1+1+60<cLine;ext) i j b C ea hC) _ p G p1 hG
end
theorem WI (t:SetTable)(es:Array (Int×Value))(h:Int)(x:Value):(layNew t es h x).2.1.led=t.led∧((layNew t es h x).2.1.plain=t.plain∨(layNew t es h x).2.1.plain=false):=by
 unfold layNew
 split
 ·dsimp only
  unfold SetTable.orStandIn
  split
  ·exact ⟨rfl,.inl rfl⟩
  ·exact ⟨rfl,.inr rfl⟩
 ·exact ⟨rfl,.inr rfl⟩
theorem UR {mask finger moves:Nat}{led plain:Bool}{hs:Array Int}{r:SetTable×Array Nat}(h:SetTable.laid mask finger moves led plain hs=some r):r.1.led=led∧r.1.plain=plain:=by
 unfold SetTable.laid at h
 cases e:SetTable.layClean mask hs with
 | none=>rw [e] at h;cases h
 | some o=>rw [e] at h;cases h;exact ⟨rfl,rfl⟩
theorem Sk (t:SetTable)(es:Array (Int×Value))(n:Nat):(relayAll t es n).2.1.led=t.led∧((relayAll t es n).2.1.plain=t.plain∨(relayAll t es n).2.1.plain=false):=by
 unfold relayAll
 split
 ·rename_i t' order e
  have:=UR e
  dsimp only at this ⊢
  split
  ·exact ⟨this.1,.inl this.2⟩
  ·exact ⟨rfl,.inr rfl⟩
 ·exact ⟨rfl,.inr rfl⟩
def EnS (w:World)(e:Int×Value)(x:Str):Prop:=e.1=hashStr w x∧∃ t,e.2=.str x t
def N8 (w:World)(S:Addr)(ls:List Str)(led:Bool)(h:Heap):Prop:=∃ o es ep t,h.get? S=some o∧o.ExactSet∧o.data=.set es ep t∧t.fits es.size=true∧t.led=led∧(t.plain=false∨es.size=0)∧∃ ss:List Str,ss.Perm ls∧Paired (EnS w) es.toList ss
theorem Ni {α β:Type}{F:α->β->Prop}:∀ {xs xs':List α},xs.Perm xs'->∀ {ys:List β},Paired F xs' ys->∃ ys',ys'.Perm ys∧Paired F xs ys':=by
 intro xs xs' p
 induction p with
 | nil=>intro ys h;cases h;exact ⟨[],.nil,.nil⟩
 | cons x p ih =>
  intro ys h
  cases h with
  | cons r t =>
   obtain ⟨ys',a,b⟩:=ih t
   exact ⟨_,a.cons _,.cons r b⟩
 | swap x y l =>
  intro ys h
  cases h with
  | cons r t =>
   cases t with
   | cons r' t=>exact ⟨_,List.Perm.swap _ _ _,.cons r' (.cons r t)⟩
 | trans p q ih1 ih2 =>
  intro ys h
  obtain ⟨ys',a,b⟩:=ih2 h
  obtain ⟨ys2,c,d⟩:=ih1 b
  exact ⟨ys2,c.trans a,d⟩
section
variable {prog:Program} {w:World} {A:Around} {E:Value->Shared->Prop} {s:Shared}
theorem Zb {es:List (Int×Value)}{ss:List Str}(h:Paired (EnS w) es ss):ElemsOf (PySem.strKind prog w) es:=by
 induction h with
 | nil=>intro e he;cases he
 | cons r t ih =>
  obtain ⟨r1,tk,r2⟩:=r
  intro e he
  rcases Am.mp he with rfl|he
  ·refine ⟨⟨_,?_,r1⟩,by rw [r2];rfl⟩
   rw [r2]
   simp [PySem.strKind,Value.isStrOf]
  ·exact ih e he
noncomputable def HH (r:List Str)(v:Str):List Str:=if v∈r then r else r++[v]
theorem Vu {S:Addr}{ls:List Str}{led:Bool}{x:Str}{t:Tok}{Q:Bool->Shared->Prop}(hS:N8 w S ls led s.heap)(hz:ls.length+1<scanBound)
  (q:∀ h' b tk,Heap.SameBut S s.heap h'->N8 w S (HH ls x) led h'->s.toks≤tk->Q b { s with heap:=h',toks:=tk }):wpAny (model prog w) A (setAdd S (.str x t)) Q E s:=by
 obtain ⟨o,es,ep,tb,ho,hex,hd,hf,hl,hp,ss,pm,pr⟩:=hS
 have sz:es.size=ls.length:=by rw [← pm.length_eq,← DH pr,Array.length_toList]
 have hb:es.size+1<scanBound:=by ext
 have key:(PySem.strKind prog w).is x (.str x t)=true:=by simp [PySem.strKind,Value.isStrOf]
 have hel:ElemsOf (PySem.strKind prog w) es.toList:=Zb pr
 have his:∀ (j:Nat) e,es.toList[j]? = some e->((PySem.strKind prog w).is x e.2=true ↔ ss[j]? = some x):=λj e ej=>by
  obtain ⟨y,y1,y2,tk,y3⟩:=(D7 pr j).1 e ej
  rw [y1,y3]
  simp only [PySem.strKind,Value.isStrOf,Option.some.injEq]
  constructor
  ·intro z;simpa using z
  ·intro z;simpa using z
 unfold setAdd
 refine AI (Aa ((PySem.strKind prog w).pyHash (k:=x) key ?_))
 (unfold setAddHashed setAddHashedIn)
 refine AI (Aa (BA (s:={ s with toks:=s.toks+1 }) ho hd hf ?_))
 dsimp only
 rw [byScan_of (knd:=PySem.strKind prog w) (by rfl) (by ext) hel]
 simp only [↓reduceIte]
 unfold setAddByScan
 refine Aa (Aa (Bo (Aa (wpAny_setScan_of (knd:=PySem.strKind prog w) (s:={ s with toks:=s.toks+1 }) key ho hd hf hel ?_))))
 cases hr:es.toList.findIdx? (λe=>(PySem.strKind prog w).is x e.2) with
 | some j =>
  obtain ⟨hj,hpj,_⟩:=List.findIdx?_eq_some_iff_getElem.mp hr
  have mem:x∈ls:=pm.mem_iff.mp (Ap ((his j _ (Au hj)).mp hpj))
  refine Ac (Ac (q s.heap _ _ (Heap.SameBut.refl _ _) ?_ (Bx _)))
  unfold HH
  rw [if_pos mem]
  exact ⟨o,es,ep,tb,ho,hex,hd,hf,hl,hp,ss,pm,pr⟩
 | none =>
  have nmem:x∉ls:=λz=>by
   obtain ⟨j,ej⟩:=AS.mp (pm.mem_iff.mpr z)
   obtain ⟨e,e1,_⟩:=(D7 pr j).2 x ej
   have:=List.findIdx?_eq_none_iff.mp hr e (Ap e1)
   rw [(his j e e1).mpr ej] at this
   cases this
  dsimp only
  have L1:=layNew_perm tb es ((PySem.strKind prog w).hash x) (.str x t)
  have L2':=layNew_fits tb es ((PySem.strKind prog w).hash x) (.str x t)
  have L3:=WI tb es ((PySem.strKind prog w).hash x) (.str x t)
  generalize layNew tb es ((PySem.strKind prog w).hash x) (.str x t)=L at L1 L2' L3 ⊢
  obtain ⟨es1,t1,wasDummy,gave⟩:=L
  dsimp only at L1 L2' L3 ⊢
  rw [Array.toList_push] at L1
  obtain ⟨ss1,pm1,pr1⟩:=Ni L1 (Hv pr (.cons (show EnS w ((PySem.strKind prog w).hash x,Value.str x t) x from ⟨rfl,t,rfl⟩) .nil))
  have al:HH ls x=ls++[x]:=by unfold HH;rw [if_neg nmem]
  have pm2:ss1.Perm (HH ls x):=by rw [al];exact pm1.trans (pm.append (List.Perm.refl _))
  have sz1:es1.size=ls.length+1:=by rw [← Array.length_toList,DH pr1,pm2.length_eq,al];simp
  have hz1:es1.size≤sizeLine:=fits_of_scanBound (by ext)
  have gw:∀ (b:Bool) {s1:Shared} {Q':Unit->Shared->Prop},Q' () s1->wpAny (model prog w) A (match b with|true=>rule "set.scan.the-table-gave-way"|false=>pure ()) Q' E s1:=λb s1 Q' hq=>by
   cases b
   ·exact Ac hq
   ·exact Bo hq
  refine Aa (gw gave ?_)
  have go:∀ t2:SetTable,t2.fits es1.size=true->t2.led=led->t2.plain=false->wpAny (model prog w) A (do
    storeSet S es1 t2
    if (!wasDummy&&t2.tooFull)=true then do
      (match (relayAll t2 es1 (SetTable.grown es1.size)).2.2 with|true=>rule "set.scan.the-table-gave-way"|false=>pure ())
      storeSet S (relayAll t2 es1 (SetTable.grown es1.size)).1 (relayAll t2 es1 (SetTable.grown es1.size)).2.1
      pure (some true)
     else pure (some true)) (λr s'=>wpAny (model prog w) A (match r with|some added=>pure added|none=>setAddHashedIn S (.str x t) ((PySem.strKind prog w).hash x) 99999) Q E s') E { s with toks:=s.toks+1 }:=λt2 f2 l2 p2=>by
   refine Aa (wpAny_storeSet_of (s:={ s with toks:=s.toks+1 }) ho hd ?_ hz1)
   have ho1:(s.heap.update S (Obj.putSet es1 t2)).get? S=some { o with data:=.set es1 (ep+1) t2 }:=by
    have:=AR (Obj.putSet es1 t2) ho (by rw [putSet_of es1 t2 hd];rfl)
    rw [putSet_of es1 t2 hd] at this
    exact this
   refine Jh (λ_=>?_) λ_=>?_
   ·have R1:=relayAll_perm t2 es1 (SetTable.grown es1.size)
    have R2:=relayAll_fits t2 es1 (SetTable.grown es1.size)
    have R3:=Sk t2 es1 (SetTable.grown es1.size)
    generalize relayAll t2 es1 (SetTable.grown es1.size)=R at R1 R2 R3 ⊢
    obtain ⟨es2,t3,g2⟩:=R
    dsimp only at R1 R2 R3 ⊢
    obtain ⟨ss2,pm3,pr3⟩:=Ni R1 pr1
    have sz2:es2.size=es1.size:=by rw [← Array.length_toList,R1.length_eq,Array.length_toList]
    refine Aa (gw g2 (Aa (wpAny_storeSet_of ho1 rfl (Ac ?_) (by rw [sz2];exact hz1))))
    refine Ac (q _ _ _ ((Ay ..).trans (Ay ..)) ?_ (Bx _))
    have ho2:=AR (Obj.putSet es2 t3) ho1 (by rw [putSet_of es2 t3 rfl];rfl)
    rw [putSet_of es2 t3 rfl] at ho2
    exact ⟨_,es2,_,t3,ho2,hex,rfl,R2,R3.1.trans l2,.inl (R3.2.elim (λz=>z.trans p2) id),ss2,pm3.trans pm2,pr3⟩
   ·refine Ac (Ac (q _ _ _ (Ay ..) ?_ (Bx _)))
    exact ⟨_,es1,_,t2,ho1,hex,rfl,f2,l2,.inl p2,ss1,pm2,pr1⟩
  refine Jh (λc=>?_) λc=>?_
  ·refine Aa ?_
   rw [hashByValue_scannable 8 (by rfl)]
   refine Ac ?_
   refine go { t1 with plain:=false } (SetTable.fits_plain_off L2') (L3.1.trans hl) rfl
  ·refine Aa (Ac ?_)
   have c':t1.plain=false:=by simpa using c
   exact go t1 L2' (L3.1.trans hl) c'
theorem UZ (a:Value){Q1:Value->Shared->Prop}(h:Q1 (.ref s.heap.objs.size) { s with heap:=s.heap.push { cls:=.type "set",dict:=none,data:=.set #[] 0 (.fresh 0 0 (!El w)) } }) :
  codeAny (model prog w) A (.call (.builtin "set.__new__") ⟨[.type "set",a],[]⟩) (wants Q1 E) s:=by
 refine codeAny_of_tree (?_:wpAny _ A.in1 (do checkBuiltinCall "set.__new__" ⟨[.type "set",a],[]⟩;again (.builtin "set.__new__" ⟨[.type "set",a],[]⟩)) _ _ s)
 refine Aa (wpAny_of_eq (F.newCall_set_1 a) (Ac ⟨plainId_quiet F.plain_set_new _,Bq F.entry_set_new ?_⟩))
 rw [Bm F.plain_set_new _]
 (unfold Builtin.«set.__new__» Builtin.Frozenset.newClass)
 have hsub:=sub_set_self
 obtain ⟨hp,g,d,tk,os⟩:=s
 dsimp only
 wp_walk
 refine wpAny_askSetting (Ac ?_)
 dsimp only
 simp only [newObj]
 exact Aa (wpAny_alloc (Ac (Ac h)))
def YieldsV (prog:Program)(w:World)(A:Around)(E:Value->Shared->Prop)(h:Heap)(l:Addr)(us:List Value):Prop:=
 ∀ (s1:Shared) (A':Around) (R:Value->Shared->Prop),A'.handled=A.handled->(∀ b o,h.get? b=some o->s1.heap.get? b=some o) ->
  (∀ (I:Addr) (fp:List Addr) (h2:Heap) (d2:Drawn) (P:Nat->Value->Prop) (St:Nat->Heap->Prop),s1.heap.objs.size≤I->(∀ b∈fp,b<h2.objs.size)->(∀ b∈fp,s1.heap.objs.size≤b∨∃ o,h.get? b=some o)->(∀ A2:Around,A2.handled=A.handled->Walks prog w A2 I fp [I] us.length P St)->St 0 h2 ->
   (∀ b o,s1.heap.get? b=some o->h2.get? b=some o)->(∀ i v,P i v->us[i]? = some v)->R (.ref I) { s1 with heap:=h2,drawn:=d2 })->wpAny (model prog w) A' (pyIter (.ref l)) R E s1
theorem SJ {I:Addr}{fp:List Addr}{n:Nat}{P:Nat->Value->Prop}{St:Nat->Heap->Prop}{R:Result->Shared->Prop}(W:Walks prog w A.in1 I fp [I] n P St)(S:Addr)(hSf:S∉fp){led:Bool}{ss:List Str}(hl:ss.length=n)(hval:∀ i v,P i v->∃ x t,ss[i]? = some x∧v=.str x t)(hb:n+1<scanBound)(k:Nat) :
  ∀ (i:Nat) (s:Shared) (ls:List Str),i+k=n->ls.length≤i->St i s.heap->N8 w S ls led s.heap->(∀ h' tk,(∀ b o,b≠S->b≠I->s.heap.get? b=some o->h'.get? b=some o)->N8 w S ((ss.drop i).foldl HH ls) led h'->R (.ok (.ret .none)) { s with heap:=h',toks:=tk }) ->
   codeAny (model prog w) A (Code.builtin "set.update.loop" ⟨[.ref S,.ref I],[]⟩) R s:=by
 have nI:I∈fp:=W.sub _ (by simp)
 have nS:S≠I:=λz=>hSf (z▸nI)
 have keepS:∀ {h h':Heap} {ls:List Str},(∀ b o,b∉[I]->h.get? b=some o->h'.get? b=some o)->N8 w S ls led h->N8 w S ls led h':=λk ⟨o,es,ep,t,ho,r⟩=>⟨o,es,ep,t,k S o (by simpa using nS) ho,r⟩
 induction k with
 | zero =>
  intro i s ls e lsl st hS hR
  obtain rfl:i=n:=by ext
  refine Bq PyProof.Rows.F.entry_set_update_loop ?_
  rw [Bm B3 _]
  refine Aa (m:=pyNext (.ref I)) (W.done s _ _ st λh1 tk1 k1=>Ac (a:=Fin.done (.ret Value.none)) (hR h1 tk1 (λb o _ hb z=>k1 b o (by simpa using hb) z) ?_))
  rw [List.drop_eq_nil_of_le (by ext)]
  exact keepS k1 hS
 | succ k ih =>
  intro i s ls e lsl st hS hR
  have lt:i<n:=by ext
  refine Bq PyProof.Rows.F.entry_set_update_loop ?_
  rw [Bm B3 _]
  refine Aa (m:=pyNext (.ref I)) (W.item i s _ _ lt st λv h1 tk1 hP st1 k1=>?_)
  obtain ⟨x,t,ex,ev⟩:=hval i v hP
  subst ev
  refine Aa (m:=holding [Value.str x t] (setAdd S (.str x t))) (AI (Vu (s:={ s with heap:=h1,toks:=tk1 }) (keepS k1 hS) (by ext) λh2 _ tk2 sb hS2 _=>?_))
  have dr:ss.drop i=x::ss.drop (i+1):=by
   have hi:i<ss.length:=by ext
   rw [List.drop_eq_getElem_cons hi]
   rw [Au hi] at ex
   rw [AN ex]
  have al:(HH ls x).length≤i+1:=by
   unfold HH
   split
   ·ext
   ·rw [Ai,List.length_singleton];ext
  refine Ac (And.intro (plainId_quiet B3 _) (ih (i+1) _ (HH ls x) (by ext) al (W.frame _ h1 _ st1 λb hb o z=>?_) hS2 λh3 tk3 k3 hS3=>hR h3 tk3 (λb o b1 b2 z=>?_) ?_))
  ·exact (sb.2 b λq:b=S=>hSf (q▸hb)).trans z
  ·exact k3 b o b1 b2 ((sb.2 b b1).trans (k1 b o (by simpa using b2) z))
  ·rw [dr]
   exact hS3
set_option maxHeartbeats 4000000 in
theorem Rj {l:Addr}{ol:Obj}{T:String}{us:List Value}{ss:List Str}{Q:Value->Shared->Prop}
  (hol:s.heap.get? l=some ol) (hcl:ol.cls=.type T) (t1:isSubtype (.type T) (.type "set")=pure false) (t2:isSubtype (.type T) (.type "frozenset")=pure false) (t3:(Value.type T==Value.type "dict")=false)
  (hb:us.length+1<scanBound) (hss:Paired (λ(u:Value) (x:Str)=>∃ t,u=.str x t) us ss) (hit:YieldsV prog w A E s.heap l us)
  (h:∀ (h':Heap) (tk:Nat) d',N8 w s.heap.objs.size (ss.foldl HH []) (!El w) h'->(∀ b o,s.heap.get? b=some o->h'.get? b=some o)->Q (.ref s.heap.objs.size) { s with heap:=h',toks:=tk,drawn:=d' }) :
  wpAny (model prog w) A (PySem.call (.type "set") [.ref l]) Q E s:=by
 refine call_cls (Q1:=λobj z=>obj=.ref s.heap.objs.size∧z={ s with heap:=s.heap.push (JL (!El w)) }) PySem.F.called_set (PySem.F.typeCall_set_1 _) (UZ (.ref l) ⟨rfl,rfl⟩) λobj z hz=>?_
 obtain ⟨e1,e2⟩:=hz
 subst e1 e2
 have gS:(s.heap.push (JL (!El w))).get? s.heap.objs.size=some (JL (!El w)):=Aq _ rfl
 refine ⟨⟨_,gS,rfl⟩,codeAny_call_builtin PySem.F.called_set.init.plain PySem.F.entry_set_init (check_set_init_1 ⟨_,gS,rfl⟩ ?_)⟩
 obtain ⟨oc,od,oda,osl⟩:=ol
 simp only at hcl
 subst hcl
 have gl:(s.heap.push (JL (!El w))).get? l=some { cls:=.type T,dict:=od,data:=oda,slots:=osl }:=Ae _ hol
 unfold Builtin.«set.__init__»
 unfold noKeywords
 unfold Builtin.Frozenset.updateFrom
 generalize hPI:pyIter=PI
 wp_walk
 subst hPI
 have sz:(s.heap.push (JL (!El w))).objs.size=s.heap.objs.size+1:=BS ..
 refine hit _ _ _ rfl (λb o e=>Ae _ e) λI fp h2 d2 P St hI fpl fpn W st0 k2 hval=>Aa (wpAny_runValue ?_)
 have nf:s.heap.objs.size∉fp:=λz=>by
  rcases fpn _ z with q|⟨o,q⟩
  ·have q':(s.heap.push (JL (!El w))).objs.size≤s.heap.objs.size:=q
   rw [sz] at q'
   exact absurd q' (Nat.not_succ_le_self _)
  ·exact absurd (Ar q) (Bi _)
 have h0:N8 w s.heap.objs.size [] (!El w) h2:=⟨_,#[],0,_,k2 _ _ gS,⟨rfl,rfl,rfl⟩,rfl,by rfl,rfl,.inr rfl,[],.nil,.nil⟩
 have ssl:ss.length=us.length:=(DH hss).symm
 refine SJ (W A.in1.in1.in1 rfl) s.heap.objs.size nf (ss:=ss) ssl (λi v hP=>?_) hb us.length 0 { s with heap:=h2,drawn:=d2 } [] (Nat.zero_add _) (Al _) st0 h0 λh3 tk3 k3 hS=>?_
 ·obtain ⟨x,x1,t,x2⟩:=(D7 hss i).1 v (hval i v hP)
  exact ⟨x,t,x1,x2⟩
 ·refine Ac (Ac (a:=Fin.done (.ret Value.none)) (And.intro rfl (h h3 tk3 d2 hS λb o e=>?_)))
  have blt:=Ar e
  refine k3 b o (AF blt) (λz=>?_) (k2 _ _ (Ae _ e))
  have hI':(s.heap.push (JL (!El w))).objs.size≤I:=hI
  rw [sz,← z] at hI'
  exact absurd (Az blt (AL (Bx _) hI')) (Bi _)
end
def FA (r:List D)(v:D):List D:=if v∈r then r else r++[v]
def FR (es:List D):List D:=es.foldl FA []
theorem KQ (ss:List Str):∀ r:List Str,(ss.foldl HH r).map D.str=(ss.map D.str).foldl FA (r.map D.str):=by
 induction ss with
 | nil=>intro r;rfl
 | cons x ss ih =>
  intro r
  rw [List.foldl_cons,ih,AO,List.foldl_cons]
  congr 1
  unfold HH FA
  have:D.str x∈r.map D.str ↔ x∈r:=by
   rw [Ak]
   exact ⟨λ⟨y,hy,e⟩=>by cases e;exact hy,λh=>⟨x,h,rfl⟩⟩
  by_cases c:x∈r
  ·rw [if_pos c,if_pos (this.mpr c)]
  ·rw [if_neg c,if_neg (λz=>c (this.mp z)),AK];rfl
theorem O1 (es:List D):∀ r:List D,r.Nodup->(es.foldl FA r).Nodup:=by
 induction es with
 | nil=>intro r h;exact h
 | cons x es ih =>
  intro r h
  rw [List.foldl_cons]
  refine ih _ ?_
  unfold FA
  split
  ·exact h
  ·rename_i c
   refine Bb.mpr ⟨h,by simp,λa ha b hb=>?_⟩
   rw [Ag.mp hb]
   exact λe=>c (e▸ha)
theorem M0 (es:List D):∀ (r:List D) (d:D),d∈es.foldl FA r ↔ d∈r∨d∈es:=by
 induction es with
 | nil=>intro r d;simp
 | cons x es ih =>
  intro r d
  rw [List.foldl_cons,ih,Am]
  unfold FA
  split
  ·rename_i c
   constructor
   ·rintro (h|h)
    ·exact .inl h
    ·exact .inr (.inr h)
   ·rintro (h|rfl|h)
    ·exact .inl h
    ·exact .inl c
    ·exact .inr h
  ·rw [Aj,Ag]
   constructor
   ·rintro ((h|h)|h)
    ·exact .inl h
    ·exact .inr (.inl h)
    ·exact .inr (.inr h)
   ·rintro (h|h|h)
    ·exact .inl (.inl h)
    ·exact .inl (.inr h)
    ·exact .inr h
theorem SS (es:List D):∀ r:List D,(es.foldl FA r).length≤r.length+es.length:=by
 induction es with
 | nil=>intro r;simp
 | cons x es ih =>
  intro r
  rw [List.foldl_cons,List.length_cons]
  refine AL (ih _) ?_
  unfold FA
  split
  ·ext
  ·rw [Ai,List.length_singleton];ext
def Lc:Fn:=λds mu=>match sq1 ds mu with
 | some es=>match strsOf es with
  | some _=>if es.length<4000 then some (.set (FR es),mu) else none
  | none=>none
 | none=>none
theorem UJ {ds:List D}{mu:Sto}{r:D×Sto}(h:Lc ds mu=some r):∃ d es ss,ds=[d]∧Hk mu d=some es∧strsOf es=some ss∧es.length<4000∧r=(.set (FR es),mu):=by
 unfold Lc at h
 split at h
 ·rename_i es e
  split at h
  ·rename_i ss e2
   split at h
   ·rename_i c
    cases h
    obtain ⟨d,rfl,e3⟩:=LK e
    exact ⟨d,es,ss,rfl,e3,e2,c,rfl⟩
   ·cases h
  ·cases h
 ·cases h
section
variable {X:Cx} {K:Zc} {th:List Addr} {mu:Sto} {H:Hp} {pins:List (Addr×Obj)} {st:L2.St} {s:Shared}
theorem Lk (I:L2.Inv X pins st H s)(hc:X.calm=true){a:Addr}{vs:List V}{E:Value->Shared->Prop}(h:SqL X.K H a vs):∃ us,Vals vs us∧YieldsV X.prog X.w X.A E s.heap a us∧∃ o,s.heap.get? a=some o∧o.cls=.type "list":=by
 obtain ⟨its,rv,pl,hz⟩:=I.list h
 obtain ⟨o,n,ho,hcl,hdd,hdt⟩:=id pl
 refine ⟨its,rv,λs1 A' R hA hk hR=>?_,o,ho,hcl⟩
 have pl':s1.heap.IsList a its.toArray:=pl.isList.at λo e=>hk a o e
 have lt:a<s1.heap.objs.size:=Ar (hk a o ho)
 have hh:=I.ok.hd hc
 refine wpAny_pyIter_list pl' (hR s1.heap.objs.size [s1.heap.objs.size,a] _ s1.drawn (λi v=>its.toArray[i]? = some v) (λi h=>h.IsListIter s1.heap.objs.size a i∧h.IsList a its.toArray) (Al _) (λb hb=>?_) (λb hb=>?_) (λA2 hA2=>?_) ?_ (λb o e=>Ae _ e) λi v hP=>?_)
 ·rw [BS]
  rcases Am.mp hb with rfl|hb
  ·exact Bj _
  ·rw [Ag.mp hb];exact Bu lt
 ·rcases Am.mp hb with rfl|hb
  ·exact .inl (Al _)
  ·rw [Ag.mp hb];exact .inr ⟨o,ho⟩
 ·have:=Walks.list (prog:=X.prog) (w:=X.w) (hA2.trans hh) s1.heap.objs.size a (AF lt) its.toArray
  rw [An] at this
  exact this
 ·exact ⟨⟨_,Aq _ rfl,rfl,rfl⟩,pl'.push _⟩
 ·have hP':its.toArray[i]? = some v:=hP
  simpa using hP'
theorem Kp (I:L2.Inv X pins st H s)(hc:X.calm=true){a:Addr}{vs:List V}{E:Value->Shared->Prop}(h:SqT X.K H a vs):∃ us,Vals vs us∧YieldsV X.prog X.w X.A E s.heap a us∧∃ o,s.heap.get? a=some o∧o.cls=.type "tuple":=by
 obtain ⟨its,rv,pl,hz⟩:=I.tuple h
 obtain ⟨o,ho,hcl,n,hdt⟩:=id pl
 refine ⟨its,rv,λs1 A' R hA hk hR=>?_,o,ho,hcl⟩
 have pl':s1.heap.IsTuple a its.toArray:=⟨o,hk a o ho,hcl,n,hdt⟩
 have lt:a<s1.heap.objs.size:=Ar (hk a o ho)
 have hh:=I.ok.hd hc
 refine wpAny_pyIter_tuple pl' (hR s1.heap.objs.size [s1.heap.objs.size,a] _ s1.drawn (λi v=>its.toArray[i]? = some v) (λi h=>h.IsTupleIter s1.heap.objs.size a i∧h.IsTuple a its.toArray) (Al _) (λb hb=>?_) (λb hb=>?_) (λA2 hA2=>?_) ?_ (λb o e=>Ae _ e) λi v hP=>?_)
 ·rw [BS]
  rcases Am.mp hb with rfl|hb
  ·exact Bj _
  ·rw [Ag.mp hb];exact Bu lt
 ·rcases Am.mp hb with rfl|hb
  ·exact .inl (Al _)
  ·rw [Ag.mp hb];exact .inr ⟨o,ho⟩
 ·have:=Walks.tuple (prog:=X.prog) (w:=X.w) (hA2.trans hh) s1.heap.objs.size a (AF lt) its.toArray
  rw [An] at this
  exact this
 ·exact ⟨⟨_,Aq _ rfl,rfl,rfl⟩,⟨o,Ae _ (hk a o ho),hcl,n,hdt⟩⟩
 ·have hP':its.toArray[i]? = some v:=hP
  simpa using hP'
theorem Zt {P:Program}{w:World}{h:Heap}{a:Addr}{us:List V}(x:Yy w a us h):ObjOk P w H h a (Sw w a us):=by
 refine ⟨x,?_,λh1 h2 ⟨o,es,ep,t,ho,r⟩ k=>⟨o,es,ep,t,k o ho,r⟩⟩
 obtain ⟨o,es,ep,t,ho,r⟩:=x
 exact ⟨o,ho⟩
theorem Jk (hc:X.calm=true):CallV X (.type "set") Lc:=by
 intro pins s st H xs us Q I r h
 obtain ⟨th,mu,ds,so,rd,t⟩:=h
 obtain ⟨a0,mu0,e0,_⟩:=id t
 obtain ⟨d,es,ss,rfl,e2,e3,hl,er⟩:=UJ e0
 rw [e0] at t
 cases er
 obtain ⟨x,rfl,rx⟩:=Ej rd
 obtain ⟨a,vs,rfl,h1,h2,h3⟩:=GV so e2 rx
 obtain ⟨u,rfl,ru⟩:=vals1 r
 cases ru
 have em:=L8 e3
 rw [em] at h2
 obtain ⟨ev,hok⟩:=Nc h2
 subst ev
 have fin:∀ (h':Heap) (tk:Nat) d',N8 X.w s.heap.objs.size (ss.foldl HH []) (!El X.w) h'->(∀ b o,s.heap.get? b=some o->h'.get? b=some o)->EP X pins st Q (.ref s.heap.objs.size) { s with heap:=h',toks:=tk,drawn:=d' }:=λh' tk d' hS hk=>by
  obtain ⟨o,tes,ep,tb,ho,hex,hd,hf,hled,hpl,ss',pm,pr⟩:=hS
  have hp:H s.heap.objs.size=none:=I.hok.fresh (Al _)
  have ol:(ss.foldl HH []).length=(FR es).length:=by
   have:=congrArg List.length (KQ ss [])
   rw [Af] at this
   rw [this]
   unfold FR
   rw [em]
   rfl
  have ole:(FR es).length≤es.length:=by have:=SS es [];simpa [FR] using this
  have tl:tes.size=ss'.length:=by rw [← DH pr,Array.length_toList]
  have sb:tes.size<scanBound:=by
   rw [tl,pm.length_eq,ol]
   unfold scanBound
   ext
  have sp:Yy X.w s.heap.objs.size (ss'.map V.str) h':=by
   refine ⟨o,tes,ep,tb,ho,hex,hd,sb,hf,?_,?_⟩
   ·refine J8 (by simp [tl]) λj a b ea eb=>?_
    rw [Av] at ea eb
    cases ej:ss'[j]? with
    | none=>rw [ej] at ea;cases ea
    | some y =>
     obtain ⟨e',e1,_,tk',e2'⟩:=(D7 pr j).2 y ej
     rw [ej] at ea
     rw [e1] at eb
     cases ea
     cases eb
     exact ⟨tk',e2'⟩
   ·cases c:El X.w with
    | true=>exact .inl c
    | false =>
     rw [c] at hled
     exact .inr ⟨hled,hpl.elim .inl λz=>.inr (by ext)⟩
  have I0:L2.Inv X pins st H { s with drawn:=d' }:=⟨I.ok,I.os,I.bare,I.base,I.loc,I.cell,I.free,I.freeC,I.pin,I.hok,I.len⟩
  refine ⟨.ref s.heap.objs.size,_,I0.laid (h':=h') (t':=tk) (o:=Sw X.w s.heap.objs.size (ss'.map V.str)) hk (Al _) (Zt sp),rfl,?_⟩
  refine t.retX (.new hp _) (so.new hp _) _ ?_
  unfold Rep
  refine ⟨_,ss'.map V.str,(ss.foldl HH []).map V.str,rfl,so.notin hp,Ey,pm.map _,?_,O1 es [] List.nodup_nil⟩
  have eo:FR es=(ss.foldl HH []).map D.str:=by
   rw [KQ,em]
   rfl
  rw [eo]
  refine K8 λx hx=>hok x ?_
  have:D.str x∈FR es:=by rw [eo];exact Ak.mpr ⟨x,hx,rfl⟩
  rcases (M0 es [] _).mp this with z|z
  ·cases z
  ·rw [em] at z
   obtain ⟨y,hy,e⟩:=Ak.mp z
   cases e
   exact hy
 have pairs:∀ us:List Value,Vals (ss.map V.str) us->Paired (λ(u:Value) (x:Str)=>∃ t,u=.str x t) us ss:=λus q=>by
  refine J8 (by have:=q.length;rw [Af] at this;exact this.symm) λj u x e1 e2=>?_
  obtain ⟨u',u1,u2⟩:=q.get (show (ss.map V.str)[j]? = some (V.str x) by rw [Av,e2];rfl)
  rw [e1] at u1
  cases u1
  exact u2
 have ul:∀ us:List Value,Vals (ss.map V.str) us->us.length+1<scanBound:=λus q=>by
  have a:=q.length
  rw [Af] at a
  have b:es.length=ss.length:=by rw [em,Af]
  unfold scanBound
  ext
 rcases h1 with h1|⟨h1,_⟩
 ·obtain ⟨us,q,y,o,ho,hcl⟩:=Lk (E:=X.xe) I hc h1
  exact Rj ho hcl PySem.F.sub_list_set PySem.F.sub_list_frozenset (by decide) (ul us q) (pairs us q) y fin
 ·obtain ⟨us,q,y,o,ho,hcl⟩:=Kp (E:=X.xe) I hc h1
  exact Rj ho hcl Wt P2 (by decide) (ul us q) (pairs us q) y fin
def WD:Fn:=λds mu=>match ds with
 | [.set es]=>some (.int es.length,mu)
 | [d]=>(FZ mu d).map λp=>(.int p.1.length,mu)
 | _=>none
theorem T5 {ds:List D}{r:D×Sto}(h:WD ds mu=some r):(∃ es,ds=[.set es]∧r=(.int es.length,mu))∨∃ d p,ds=[d]∧FZ mu d=some p∧r=(.int p.1.length,mu):=by
 unfold WD at h
 split at h
 ·cases h;exact .inl ⟨_,rfl,rfl⟩
 ·rename_i d _
  cases e:FZ mu d with
  | none=>rw [e] at h;cases h
  | some p=>rw [e] at h;cases h;exact .inr ⟨d,p,rfl,e,rfl⟩
 ·cases h
theorem SD:CallV X (.builtin "len") WD:=by
 intro pins s st H xs us Q I r h
 obtain ⟨th,mu,ds,so,rd,t⟩:=h
 obtain ⟨a0,mu0,e0,_⟩:=id t
 rcases T5 e0 with ⟨es,rfl,er⟩|⟨d,p,rfl,ed,er⟩
 ·rw [e0] at t
  cases er
  obtain ⟨x,rfl,rx⟩:=Ej rd
  unfold Rep at rx
  obtain ⟨a,us',vs,rfl,_,h1,h2,h3,_⟩:=rx
  obtain ⟨u,rfl,ru⟩:=vals1 r
  cases ru
  obtain ⟨⟨o,tes,ep,tb,ho,hex,hd,sb,hf,hv,_⟩,_⟩:=(show ObjOk X.prog X.w H s.heap a (Sw X.w a us') from I.hok a _ h1)
  have ln:tes.size=es.length:=by
   have e1:us'.length=tes.size:=by have:=hv.length;simpa using this
   rw [← e1,h2.length_eq,h3.len]
  refine PySem.call_len_set ho hex hd hf (by unfold scanBound at sb;ext) ⟨.int es.length,H,I.tok _,⟨_,by rw [ln]⟩,t.ret so _ rfl⟩
 ·rw [e0] at t
  cases er
  obtain ⟨x,rfl,rx⟩:=Ej rd
  obtain ⟨a,rfl,dc⟩:=FC so ed rx
  obtain ⟨u,rfl,ru⟩:=vals1 r
  cases ru
  obtain ⟨xs',o,es,ep,h1,g⟩:=H8 I dc
  have ty:s.TypeIs (.ref a) "dict":=⟨o,g.at',g.ex.1⟩
  have ln:es.size=p.1.length:=by rw [DH g.en,Array.length_toList]
  have fit:((p.1.length:Nat):Int)<2 ^ 63:=by
   have:=(TU dc).2.len
   rw [AD] at this
   ext
  have hM:MeetsIn X.prog X.w (Builtin.«dict.__len__» ⟨[.ref a],[]⟩) (λ_ R s=>s.heap.get? a=some o∧R (.ok (.ret (.int p.1.length s.toks))) { s with toks:=s.toks+1 }):=.of_wp λA R s ⟨g0,h⟩=>by
   refine (?_:wpAny _ _ (dictSize a >>= _) _ _ s)
   unfold dictSize
   refine Aa (Aa (BX g0 g.dt (Ac (?_:wpAny _ _ (Builtin.Dict.pendingCount a >>= _) _ _ s))))
   refine Aa (wpAny_pendingCount_other g.ns (wpAny_ret_mkInt ?_))
   rw [Nat.add_zero,ln]
   exact h
  (refine Calls.call_function_entry kind_len plain_len entry_len (args_len1 _) ?_)
  unfold Builtin.«len»
  refine Aa (m:=oneArg "len" _) (Ac (Aa (m:=callSpecial? (.ref a) (Str.ofString "__len__")) (Ba (name:=Str.ofString "__len__") ty F.slot_dict_len (call_meetsIn F.slot_dict_len ty F.entry_dict_len (F.args_dict_len_1 _) hM ⟨g.at',?_⟩))))
  refine (?_:wpAny _ _ _ _ _ { s with toks:=s.toks+1 })
  refine Aa (AI (Ac (Aa (wpAny_letGo (?_:wpAny _ _ (if ((p.1.length:Nat):Int)<0 then _ else _) _ _ _)))))
  rw [if_neg (by ext)]
  refine (?_:wpAny _ _ (if ((p.1.length:Nat):Int) ≥ 2 ^ 63 then _ else _) _ _ _)
  rw [if_neg (by ext)]
  exact Aa (wpAny_mkInt (Ac ⟨_,rfl,⟨.int p.1.length,H,I.tok _,⟨_,rfl⟩,t.ret so _ rfl⟩⟩))
def D5:Fn:=λds mu=>match YD ds mu with|some r=>some r|none=>WD ds mu
theorem CC:CallV X (.builtin "len") D5:=CallV.or RV SD
def SM (mu:Sto):D->Option (List D)
 | .set es=>some es
 | d=>Hk mu d
def MN:Fn:=λds mu=>match Iz ds with
 | some d=>match SM mu d with
  | some es=>if FF es=true then some (.lst (Hb es),mu) else none
  | none=>none
 | none=>none
theorem Uo {ds:List D}{r:D×Sto}(h:MN ds mu=some r):∃ d es,ds=[d]∧SM mu d=some es∧FF es=true∧r=(.lst (Hb es),mu):=by
 unfold MN at h
 split at h
 ·rename_i d e
  split at h
  ·rename_i es e2
   split at h
   ·rename_i c;cases h;exact ⟨d,es,IF e,e2,c,rfl⟩
   ·cases h
  ·cases h
 ·cases h
theorem Qa {es fs:List D}(p:fs.Perm es)(h:FF es=true):FF fs=true:=by
 unfold FF Nf at *
 rw [Ab,Ab,Ab,Ad,Bool.or_eq_true] at *
 simp only [Ao] at *
 obtain ⟨⟨⟨a,b⟩,c⟩,d⟩:=h
 exact ⟨⟨⟨by rw [p.length_eq];exact a,λx hx=>b x (p.mem_iff.mp hx)⟩,λx hx y hy=>c x (p.mem_iff.mp hx) y (p.mem_iff.mp hy)⟩,d.imp (λz x hx=>z x (p.mem_iff.mp hx)) λz x hx=>z x (p.mem_iff.mp hx)⟩
theorem Sd {es:List D}(h:FF es=true):∀ d∈es,G5 d=true:=by
 unfold FF at h
 rw [Ab,Ab,Ab] at h
 exact Ao.mp h.1.1.2
theorem RepL.perm {ds:List D}{vs us:List V}(p:us.Perm vs)(r:RepL K th H ds vs):∃ ds',ds'.Perm ds∧RepL K th H ds' us:=by
 induction p generalizing ds with
 | nil=>exact ⟨ds,List.Perm.refl _,r⟩
 | cons x p ih =>
  cases ds with
  | nil=>cases r.inv0
  | cons d ds =>
   obtain ⟨v,r',e,a,b⟩:=r.inv
   cases e
   obtain ⟨ds',q1,q2⟩:=ih b
   exact ⟨d::ds',q1.cons d,.cons a q2⟩
 | swap x y l =>
  cases ds with
  | nil=>cases r.inv0
  | cons d ds =>
   obtain ⟨v,r',e,a,b⟩:=r.inv
   cases e
   cases ds with
   | nil=>cases b.inv0
   | cons d' ds =>
    obtain ⟨v',r2,e',a',b'⟩:=b.inv
    cases e'
    exact ⟨d'::d::ds,List.Perm.swap _ _ _,.cons a' (.cons a b')⟩
 | trans p q ih1 ih2 =>
  obtain ⟨ds1,a1,b1⟩:=ih2 r
  obtain ⟨ds2,a2,b2⟩:=ih1 b1
  exact ⟨ds2,a2.trans a1,b2⟩
theorem Vals.perm {vs:List V}{us us':List Value}(p:us'.Perm us)(r:Vals vs us):∃ vs',vs'.Perm vs∧Vals vs' us':=by
 induction p generalizing vs with
 | nil=>cases r;exact ⟨[],.nil,.nil⟩
 | cons x p ih =>
  cases r with
  | cons a b=>obtain ⟨vs',q1,q2⟩:=ih b;exact ⟨_,q1.cons _,.cons a q2⟩
 | swap x y l =>
  cases r with
  | cons a b =>
   cases b with
   | cons a' b'=>exact ⟨_,List.Perm.swap _ _ _,.cons a' (.cons a b')⟩
 | trans p q ih1 ih2 =>
  obtain ⟨v1,a1,b1⟩:=ih2 r
  obtain ⟨v2,a2,b2⟩:=ih1 b1
  exact ⟨v2,a2.trans a1,b2⟩
theorem Sg (hu:X.A.units+64<cLine)(hc:X.calm=true):CallV X (.builtin "sorted") MN:=by
 intro pins s st H xs us Q I r h
 obtain ⟨th,mu,ds,so,rd,t⟩:=h
 obtain ⟨a0,mu0,e0,_⟩:=id t
 obtain ⟨d,es,rfl,eg,ok,er⟩:=Uo e0
 rw [e0] at t
 cases er
 obtain ⟨x,rfl,rx⟩:=Ej rd
 obtain ⟨u,rfl,ru⟩:=vals1 r
 have fin:∀ (fs:List D) (vs:List V) (zs:List Value) (h1:Heap) (tk:Nat) d',fs.Perm es->RepL X.z th H fs vs->Vals vs zs->(∀ b o,s.heap.get? b=some o->h1.get? b=some o)->zs.length≤sizeLine∧∃ out,Ka X.prog X.w X.A.in1.in1 zs out { s with heap:=h1,toks:=tk,drawn:=d' } ∧
   ∀ h' e a,(∀ b o,h1.get? b=some o->h'.get? b=some o)->h1.objs.size≤a->h'.get? a=some (seqObj "list" out.toArray e)->EP X pins st Q (.ref a) { s with heap:=h',toks:=tk,drawn:=d' }:=λfs vs zs h1 tk d' p h2 rv hk=>by
  have I0:L2.Inv X pins st H { s with drawn:=d' }:=⟨I.ok,I.os,I.bare,I.base,I.loc,I.cell,I.free,I.freeC,I.pin,I.hok,I.len⟩
  have I1:L2.Inv X pins st H { s with heap:=h1,toks:=tk,drawn:=d' }:=I0.kept (t':=tk) hk
  have okf:=Qa p ok
  have l64:fs.length<64:=by
   unfold FF at okf
   rw [Ab,Ab,Ab,Ad] at okf
   exact okf.1.1.1
  have lz:zs.length=fs.length:=by rw [← rv.length,h2.len]
  obtain ⟨ws,out,w1,w2,w3⟩:=sorts hu I1 h2 rv okf
  rw [Nj (Sd ok) p] at w1
  have z64:64≤sizeLine:=by rw [AD];decide
  have wl:(Hb es).length≤sizeLine:=by rw [(ET es).length_eq,← p.length_eq];ext
  refine ⟨by ext,out,w3,λh' e a hk' ha he=>?_⟩
  have hp:H a=none:=I1.hok.fresh ha
  refine ⟨.ref a,_,I1.laid (t':=tk) (o:=.lst ws) hk' ha ⟨by rw [w1.len];exact wl,out,e,w2,he⟩,rfl,?_⟩
  exact t.retX (.new hp _) (so.new hp _) _ (Rep.newLst so hp w1 wl)
 refine M7 ?_
 have seqc:∀ (T:String) (a:Addr) (ob:Obj) (vs:List V) (zs:List Value) (n:Nat),(T="list"∨T="tuple")->s.heap.get? a=some ob->ob.cls=.type T->ob.data=.seq zs.toArray n->Vals vs zs->RepL X.z th H es vs->es.length≤sizeLine->wpAny (model X.prog X.w) X.A.in1 (collect (.ref a)) (λzs s1=>zs.length≤sizeLine∧∃ out,Ka X.prog X.w X.A.in1.in1 zs out s1∧∀ h' e a,(∀ b o,s1.heap.get? b=some o->h'.get? b=some o)->s1.heap.objs.size≤a->h'.get? a=some (seqObj "list" out.toArray e)->EP X pins st Q (.ref a) { s1 with heap:=h' }) X.xe s:=λT a ob vs zs n hT g1 g2 g3 rv h2 hz=>by
  refine Qr hT g1 g2 g3 ?_ (by rw [← rv.length,h2.len];exact hz)
  refine fin es vs zs _ s.toks s.drawn (List.Perm.refl _) h2 rv λb o e=>?_
  have lt:=Ar e
  rw [Heap.get?_update_ne _ _ _ _ (AF lt),Heap.get?_push_ne _ _ _ (AF lt)]
  exact e
 have sq:Hk mu d=some es->wpAny (model X.prog X.w) X.A.in1 (collect u) (λzs s1=>zs.length≤sizeLine∧∃ out,Ka X.prog X.w X.A.in1.in1 zs out s1∧∀ h' e a,(∀ b o,s1.heap.get? b=some o->h'.get? b=some o)->s1.heap.objs.size≤a->h'.get? a=some (seqObj "list" out.toArray e)->EP X pins st Q (.ref a) { s1 with heap:=h' }) X.xe s:=λe2=>by
  obtain ⟨a,vs,rfl,h1,h2,h3⟩:=GV so e2 rx
  cases ru
  rcases h1 with h1|⟨h1,_⟩
  ·obtain ⟨its,rv,⟨o,n,g1,g2,_,g3⟩,_⟩:=I.list h1
   exact seqc "list" a o vs its n (.inl rfl) g1 g2 g3 rv h2 h3
  ·obtain ⟨its,rv,⟨o,g1,g2,n,g3⟩,_⟩:=I.tuple h1
   exact seqc "tuple" a o vs its n (.inr rfl) g1 g2 g3 rv h2 h3
 unfold SM at eg
 split at eg
 ·cases eg
  unfold Rep at rx
  obtain ⟨a,us',vs,rfl,_,h1,h2,h3,_⟩:=rx
  cases ru
  obtain ⟨⟨o,tes,ep,tb,ho,hex,hd,sb,hf,hv,hw⟩,_⟩:=(show ObjOk X.prog X.w H s.heap a (Sw X.w a us') from I.hok a _ h1)
  refine QG (I.ok.hd hc) (fits_of_scanBound sb) ho hex.1 hd hf hw λzs h' tk d' pm hk=>?_
  obtain ⟨ws,p1,r1⟩:=Vals.perm pm hv
  obtain ⟨fs,p2,r2⟩:=RepL.perm (p1.trans h2) h3
  exact fin fs ws zs h' tk d' p2 r2 r1 hk
 ·exact sq eg
end
section
variable {X:Cx} {K:Zc} {th:List Addr} {mu:Sto} {H:Hp}
noncomputable def Xz (ds:List D):Option (List D×List D):=match ds with
 | [.tup xs,.tup ys]=>some (xs,ys)
 | _=>none
end
mutual
noncomputable def DW (n:Nat):D->Bool
 | .ref k=>decide (k<n)
 | .tup ds=>Hc n ds
 | .lst ds=>Hc n ds
 | .dct ks ds=>Hc n ks&&Hc n ds
 | .set ds=>Hc n ds
 | _=>true
noncomputable def Hc (n:Nat):List D->Bool
 | []=>true
 | d::ds=>DW n d&&Hc n ds
end
def O9 (n:Nat):MO->Bool
 | .lst ds=>Hc n ds
 | .dct ks ds=>Hc n ks&&Hc n ds
noncomputable def Mg (g:D->Option D):List D->Option (List D)
 | []=>some []
 | d::ds=>match g d,Mg g ds with
  | some d',some ds'=>some (d'::ds')
  | _,_=>none
noncomputable def frz (n:Nat)(mu:Sto):Nat->D->Option D
 | 0,d=>if DW n d=true then some d else none
 | f+1,d=>if DW n d=true then some d else match d with
  | .ref k=>match mu[k]? with
   | some (.lst ds)=>(Mg (frz n mu f) ds).map .lst
   | some (.dct ks ds)=>if Hc n ks=true then (Mg (frz n mu f) ds).map (.dct ks) else none
   | none=>none
  | .tup ds=>(Mg (frz n mu f) ds).map .tup
  | .lst ds=>(Mg (frz n mu f) ds).map .lst
  | _=>none
def K5 (mu m1:Sto)(d:D):Rs D:=match frz mu.length m1 3 d with
 | some d'=>if (m1.take mu.length).all (O9 mu.length)=true then some (d',m1.take mu.length) else none
 | none=>none
def fnG (n:Nat)(m:Sx):Fn:=λds mu=>bM (m (ds.map some++List.replicate (n-ds.length) none) mu) λp m1=>match p.1 with
 | .rt d=>K5 mu m1 d
 | .nx=>K5 mu m1 .non
 | _=>none
section
variable {K:Zc} {th th1 more:List Addr} {H:Hp} {mu:Sto}
mutual
theorem Oc (pre:th1=th++more):∀ {d:D} {v:V},DW th.length d=true->Rep K th1 H d v->Rep K th H d v
 | .non,_,_,h=>h
 | .bl _,_,_,h=>h
 | .int _,_,_,h=>h
 | .str _,_,_,h=>h
 | .tup ds,_,l,h=>by
  unfold DW at l
  unfold Rep at h ⊢
  obtain ⟨a,vs,q,h1,h2,z⟩:=h
  exact ⟨a,vs,q,h1,Fe pre l h2,z⟩
 | .lst ds,_,l,h=>by
  unfold DW at l
  unfold Rep at h ⊢
  obtain ⟨a,vs,q,h1,h2,z⟩:=h
  exact ⟨a,vs,q,h1.imp (λw=>⟨λz=>w.1 (by rw [pre];exact Bc _ z),w.2⟩) id,Fe pre l h2,z⟩
 | .dct ks ds,_,l,h=>by
  unfold DW at l
  rw [Ab] at l
  unfold Rep at h ⊢
  obtain ⟨a,xs,q,n,h1,h2,h3,h4,h5⟩:=h
  exact ⟨a,xs,q,λz=>n (by rw [pre];exact Bc _ z),h1,h2,Fe pre l.1 h3,Fe pre l.2 h4,h5⟩
 | .set ds,_,l,h=>by
  unfold DW at l
  unfold Rep at h ⊢
  obtain ⟨a,us,vs,q,n,h1,h2,h3,h4⟩:=h
  exact ⟨a,us,vs,q,λz=>n (by rw [pre];exact Bc _ z),h1,h2,Fe pre l h3,h4⟩
 | .ref k,_,l,h=>by
  unfold DW at l
  rw [Ad] at l
  unfold Rep at h ⊢
  obtain ⟨a,q,h1⟩:=h
  rw [pre,Aw l] at h1
  exact ⟨a,q,h1⟩
theorem Fe (pre:th1=th++more):∀ {ds:List D} {vs:List V},Hc th.length ds=true->RepL K th1 H ds vs->RepL K th H ds vs
 | [],_,_,h=>by rw [h.inv0];exact .nil
 | d::ds,_,l,h=>by
  unfold Hc at l
  rw [Ab] at l
  obtain ⟨v,r,rfl,h1,h2⟩:=h.inv
  exact .cons (Oc pre l.1 h1) (Fe pre l.2 h2)
end
theorem Ji {g:D->Option D}(hg:∀ d d' v,g d=some d'->Rep K th1 H d v->Rep K th H d' v):∀ {ds ds':List D} {vs:List V},Mg g ds=some ds'->RepL K th1 H ds vs->RepL K th H ds' vs∧ds'.length=ds.length
 | [],ds',vs,e,h=>by cases e;rw [h.inv0];exact ⟨.nil,rfl⟩
 | d::ds,ds',vs,e,h=>by
  obtain ⟨v,r,rfl,h1,h2⟩:=h.inv
  unfold Mg at e
  split at e
  ·rename_i d2 ds2 e1 e2
   cases e
   obtain ⟨a,b⟩:=Ji hg e2 h2
   exact ⟨.cons (hg _ _ _ e1 h1) a,by simp [b]⟩
  ·cases e
theorem Rw (so:StoOk K th1 mu H)(pre:th1=th++more):∀ (f:Nat) (d d':D) (v:V),frz th.length mu f d=some d'->Rep K th1 H d v->Rep K th H d' v
 | 0,d,d',v,e,h=>by
  unfold frz at e
  split at e
  ·rename_i c;cases e;exact Oc pre c h
  ·cases e
 | f+1,d,d',v,e,h=>by
  have ih:=Rw so pre f
  unfold frz at e
  split at e
  ·rename_i c;cases e;exact Oc pre c h
  ·rename_i c
   have kp:∀ {k:Nat} {a:Addr},¬ k<th.length->th1[k]? = some a->a∉th:=λ{k a} hk ha z=>by
    obtain ⟨i,hi,ei⟩:=List.mem_iff_getElem.mp z
    have:th1[i]? = some a:=by rw [pre,Aw hi,Au hi,ei]
    have:=Xo so.nd this ha
    ext
   split at e
   ·rename_i k
    have hk:¬ k<th.length:=by unfold DW at c;simpa using c
    unfold Rep at h
    obtain ⟨a,rfl,ha⟩:=h
    split at e
    ·rename_i ds em
     cases q:Mg (frz th.length mu f) ds with
     | none=>rw [q] at e;cases e
     | some ds' =>
      rw [q] at e
      cases e
      obtain ⟨vs,h1,h2,h3⟩:=so.at' k a _ ha em
      obtain ⟨r1,r2⟩:=Ji ih q h2
      unfold Rep
      exact ⟨a,vs,rfl,.inl ⟨kp hk ha,.inl h1⟩,r1,by rw [r2];exact h3⟩
    ·rename_i ks ds em
     split at e
     ·rename_i lk
      cases q:Mg (frz th.length mu f) ds with
      | none=>rw [q] at e;cases e
      | some ds' =>
       rw [q] at e
       cases e
       obtain ⟨xs,h1,h2,h3,h4,h5⟩:=so.at' k a _ ha em
       obtain ⟨r1,r2⟩:=Ji ih q h4
       unfold Rep
       exact ⟨a,xs,rfl,kp hk ha,h1,h2,Fe pre lk h3,r1,h5⟩
     ·cases e
    ·cases e
   ·rename_i ds
    cases q:Mg (frz th.length mu f) ds with
    | none=>rw [q] at e;cases e
    | some ds' =>
     rw [q] at e
     cases e
     unfold Rep at h ⊢
     obtain ⟨a,vs,rfl,h1,h2,h3⟩:=h
     obtain ⟨r1,r2⟩:=Ji ih q h2
     exact ⟨a,vs,rfl,h1,r1,by rw [r2];exact h3⟩
   ·rename_i ds
    cases q:Mg (frz th.length mu f) ds with
    | none=>rw [q] at e;cases e
    | some ds' =>
     rw [q] at e
     cases e
     unfold Rep at h ⊢
     obtain ⟨a,vs,rfl,h1,h2,h3⟩:=h
     obtain ⟨r1,r2⟩:=Ji ih q h2
     exact ⟨a,vs,rfl,h1.imp (λw=>⟨λz=>w.1 (by rw [pre];exact Bc _ z),w.2⟩) id,r1,by rw [r2];exact h3⟩
   ·cases e
theorem W6 (so:StoOk K th1 mu H)(pre:th1=th++more)(hl:(mu.take th.length).all (O9 th.length)=true):StoOk K th (mu.take th.length) H:=by
 have len:th.length≤mu.length:=by rw [← so.len,pre,Ai];ext
 refine ⟨by rw [AQ];ext,?_,λk a o e1 e2=>?_⟩
 ·have:=so.nd
  rw [pre] at this
  exact (Bb.mp this).1
 ·have hk:=(Ah.mp e1).1
  rw [Bs hk] at e2
  have q:=so.at' k a o (by rw [pre,Aw hk];exact e1) e2
  have lo:=Ao.mp hl o (Ap (by rw [Bs hk];exact e2))
  cases o with
  | lst ds=>obtain ⟨vs,q1,q2,z⟩:=q;exact ⟨vs,q1,Fe pre lo q2,z⟩
  | dct ks ds =>
   unfold O9 at lo
   rw [Ab] at lo
   obtain ⟨xs,q1,q2,q3,q4,z⟩:=q
   exact ⟨xs,q1,q2,Fe pre lo.1 q3,Fe pre lo.2 q4,z⟩
end
theorem N7 {P:Program}{w:World}{K:PySem.W.Frag}{mg:Str->Option Value}{base:Heap}{x qual:Str}{st:Stmt}{f:Addr}{fd:FuncData}{N ps:List Str}{k:Nat}{m:Sx}(n j:Nat)(F:Fun K x qual st f fd)(S:CB N ps (Cf st))(hn:N.length=n)(hj:ps.length=j)
  (hbody:∀ (cdv:Value) (A:Around) (outer:List Env) (s:Shared) (H:Hp) (E:XK),Room k (A.deeper (envOfC qual (Cf st) s.heap.objs.size f cdv)) ->
   SVB (MP CX0 P w K mg base N qual (Cf st) f cdv A outer s H E).nox (Fo st) m):DM P w K mg base CX0 (k+1) f fd ps (spF ⟨K,P,w⟩ (fnG n m) j):=by
 subst hn hj
 refine F.ok S (λvs H Q E h=>?_) (λcdv A outer s H vs Q E hr h=>?_)
 ·obtain ⟨th,mu,ds,_,r,hl,_⟩:=h
  rw [r.len]
  exact hl
 ·obtain ⟨th,mu,ds,so,r,hl,t⟩:=h
  refine ⟨_,(hbody cdv A outer s H E hr).r,?_⟩
  obtain ⟨d0,mu0,e0,q0⟩:=id t
  obtain ⟨p,m1,e1,e2⟩:=Ga e0
  refine ⟨th,mu,_,so,Ln r,p,m1,e1,λth1 H1 x1 s1 st' en'=>?_⟩
  obtain ⟨fl,ro'⟩:=p
  obtain ⟨more,pre⟩:=x1.pre
  have done:∀ (d:D) (v:V),K5 mu m1 d=some (d0,mu0)->Rep ⟨K,P,w⟩ th1 H1 d v->Q v H1:=λd v ec rv=>by
   unfold K5 at ec
   split at ec
   ·rename_i d' ef
    split at ec
    ·rename_i hl
     cases ec
     rw [← so.len] at ef hl q0
     exact q0 th H1 ⟨⟨[],by simp⟩,λ_ _ n _=>n,x1.keep⟩ (W6 s1 pre hl) v (Rw s1 pre 3 d d0 v ef rv)
    ·cases ec
   ·cases ec
  cases fl with
  | rt d=>exact λv rv=>done d v e2 rv
  | nx=>exact done .non .non e2 (by unfold Rep;rfl)
  | bk=>cases e2
  | ct=>cases e2
def DAt (h:Heap)(d:Addr)(es:Array DictEntry)(ep:Nat):Prop:=∃ o,h.get? d=some o∧o.data=.dict es ep
def DIt (T:String)(d I:Addr)(es:Array DictEntry)(ep i:Nat)(h:Heap):Prop:=DAt h d es ep∧∃ o,h.get? I=some o∧o.cls=.type T∧o.data=.fields #[.ref d,.int i 0,.int es.size 0,.int ep 0]
section
variable {prog:Program} {w:World} {A:Around} {E:Value->Shared->Prop} {s:Shared}
theorem DIt.ty {T:String}{d I:Addr}{es:Array DictEntry}{ep i:Nat}(g:DIt T d I es ep i s.heap):s.TypeIs (.ref I) T:=let ⟨_,o,a,b,_⟩:=g;⟨o,a,b⟩
theorem DIt.step {T:String}{d I:Addr}{es:Array DictEntry}{ep i:Nat}{h:Heap}(ne:d≠I)(g:DIt T d I es ep i h):DIt T d I es ep (i+1) (h.update I (Obj.mapFields (·.setIfInBounds 1 (rawInt ((i:Int)+1))))):=by
 obtain ⟨⟨od,d1,d2⟩,o,a,b,c⟩:=g
 exact ⟨⟨od,((Ay ..).2 d ne).trans d1,d2⟩,_,AR _ a (Obj.isFreed_of_fields (Obj.data_mapFields c _)),(Obj.cls_mapFields ..).trans b,by rw [Obj.data_mapFields c];simp [rawInt]⟩
theorem Up {d I:Addr}{es:Array DictEntry}{ep i:Nat}{Q:Option Value->Shared->Prop}(ne:d≠I)(g:DIt "dict_keyiterator" d I es ep i s.heap)(hi:i<es.size)
  (q:∀ h',DIt "dict_keyiterator" d I es ep (i+1) h'->Heap.SameBut I s.heap h'->Q (some es[i].key) { s with heap:=h' }):wpAny (model prog w) A (pyNext (.ref I)) Q E s:=by
 obtain ⟨⟨od,d1,d2⟩,o,a,b,c⟩:=id g
 unfold pyNext
 refine Aa (wpAny_attempt (Ba (name:=Str.ofString "__next__") g.ty Br (AY Br g.ty F.entry_dict_keyiterator_next ?_ (F.args_dict_keyiterator_next_1 _))))
 refine Aa (Ac (Aa (Aa ?_)))
 refine Aa (BU g.ty (Ac (Aa (wpAny_fieldsOf a c ?_))))
 simp only [show Builtin.Dict_items.ownsTuple "dict_keyiterator"=false by decide,AG,AZ]
 refine (?_:wpAny _ _ (if (Value.ref d==Value.none)=true then _ else _) _ _ s)
 rw [if_neg (show ¬ ((Value.ref d==Value.none)=true) from AJ)]
 refine Aa (Ac (Aa (BX d1 d2 ?_)))
 rw [if_neg (by simp)]
 refine Aa (Ac (Aa (BP d1 d2 ?_)))
 rw [if_neg (by simp)]
 refine Ac ?_
 simp only [show ¬ ((i:Int)<0) by ext,AZ,Int.toNat_natCast,AH hi]
 refine Aa (Aa (BU g.ty (Ac ?_)))
 refine Aa (wpAny_isOneOf_keyiter g.ty ?_)
 refine (?_:wpAny _ _ (setField (.ref I) 1 (rawInt ((i:Int)+1)) >>= _) _ _ s)
 have g':=g.step ne
 refine Aa (BC a c (by simp) (Aa (AI ?_)))
 generalize hu:s.heap.update I (Obj.mapFields (·.setIfInBounds 1 (rawInt ((i:Int)+1))))=h2 at g' ⊢
 have sb:Heap.SameBut I s.heap h2:=by rw [← hu];exact Ay ..
 have t2:=DIt.ty (s:={ s with heap:=h2 }) g'
 refine Aa (wpAny_isOneOf_keyiter (s:={ s with heap:=h2 }) t2 ?_)
 refine (?_:wpAny _ _ (pure es[i].key) _ _ _)
 exact Ac (Ac ⟨_,rfl,Ac (q _ g' sb)⟩)
theorem Vc {d I:Addr}{es:Array DictEntry}{ep:Nat}{Q:Option Value->Shared->Prop}(hh:A.handled=none)(g:DIt "dict_keyiterator" d I es ep es.size s.heap)
  (q:∀ h',(∀ c o,c≠I->s.heap.get? c=some o->h'.get? c=some o)->Q none { s with heap:=h' }):wpAny (model prog w) A (pyNext (.ref I)) Q E s:=by
 obtain ⟨⟨od,d1,d2⟩,o,a,b,c⟩:=id g
 unfold pyNext
 refine Aa (wpAny_attempt (Ba (name:=Str.ofString "__next__") g.ty Br (AY Br g.ty F.entry_dict_keyiterator_next ?_ (F.args_dict_keyiterator_next_1 _))))
 refine Aa (Ac (Aa (Aa ?_)))
 refine Aa (BU g.ty (Ac (Aa (wpAny_fieldsOf a c ?_))))
 simp only [show Builtin.Dict_items.ownsTuple "dict_keyiterator"=false by decide,AG,AZ]
 refine (?_:wpAny _ _ (if (Value.ref d==Value.none)=true then _ else _) _ _ s)
 rw [if_neg (show ¬ ((Value.ref d==Value.none)=true) from AJ)]
 refine Aa (Ac (Aa (BX d1 d2 ?_)))
 rw [if_neg (by simp)]
 refine Aa (Ac (Aa (BP d1 d2 ?_)))
 rw [if_neg (by simp)]
 refine Ac ?_
 simp only [show ¬ ((es.size:Int)<0) by ext,AZ,Int.toNat_natCast,BN (Al es.size)]
 refine Aa (Aa (BU g.ty (Ac ?_)))
 refine (?_:wpAny _ _ (setField (.ref I) 0 .none >>= _) _ _ s)
 refine Aa (BC a c (by simp) ?_)
 refine HI (I:=I) hh λh' e z1 z2=>?_
 obtain ⟨oe,he,hc⟩:=z2
 exact Aa (wpAny_isInstance (T:="StopIteration") (b:=true) ⟨oe,he,hc⟩ isSubtype_stop (Ac (q h' λc o hc z=>z1 c o (((Ay ..).2 c hc).trans z))))
theorem MW (hh:A.handled=none){d I:Addr}{es:Array DictEntry}{ep:Nat}(ne:d≠I):Walks prog w A I [I,d] [I] es.size (λi v=>∃ e,es[i]? = some e∧e.key=v) (λi h=>DIt "dict_keyiterator" d I es ep i h) where
 sub:=λb hb=>by rw [Ag.mp hb];simp
 frame:=λ_ h1 h2 st hk=>let ⟨⟨od,d1,d2⟩,o,a,b⟩:=st;⟨⟨od,hk d (by simp) _ d1,d2⟩,o,hk I (by simp) _ a,b⟩
 item:=λk s R E hi st hQ=>Up ne st hi λh' g' sb=>hQ _ h' s.toks ⟨_,AH hi,rfl⟩ g' λb o hb z=>(sb.2 b (by simpa using hb)).trans z
 done:=λs R E st hQ=>Vc hh st λh' k=>hQ h' s.toks λb o hb z=>k b o (by simpa using hb) z
 self:=λ_ s R E st hQ=>by
  refine wpAny_pyIter_slot st.ty F.slot_dict_keyiterator_iter (AY F.slot_dict_keyiterator_iter st.ty F.entry_dict_keyiterator_iter ?_ (F.args_dict_keyiterator_iter_1 _))
  refine (?_:wpAny _ _ (ret (.ref I)) _ _ s)
  exact Ac ⟨_,rfl,"dict_keyiterator",_,st.ty,Br.lookup,hQ⟩
theorem Qw {d:Addr}{o:Obj}{es:Array DictEntry}{ep:Nat}{Q:Value->Shared->Prop}(ns:(d==sysModules)=false)(d1:s.heap.get? d=some o)(dc:o.cls=.type "dict")(d2:o.data=.dict es ep)
  (q:∀ h',h'.objs.size=s.heap.objs.size+1->(∀ b o,s.heap.get? b=some o->h'.get? b=some o)->DIt "dict_keyiterator" d s.heap.objs.size es ep 0 h'->Q (.ref s.heap.objs.size) { s with heap:=h' }):wpAny (model prog w) A (pyIter (.ref d)) Q E s:=by
 have hT:s.TypeIs (.ref d) "dict":=⟨o,d1,dc⟩
 refine wpAny_pyIter_slot hT F.slot_dict_iter (AY F.slot_dict_iter hT F.entry_dict_iter ?_ (F.args_dict_iter_1 _))
 unfold Builtin.«dict.__iter__» Builtin.Dict.dictSlotNone
 refine Aa (Aa (wpAny_notOrdered_dict hT ?_))
 refine (?_:wpAny _ _ (pure (Value.ref d)) _ _ s)
 refine Ac (?_:wpAny _ _ (Builtin.Dict.showsAll d >>= _) _ _ s)
 unfold Builtin.Dict.showsAll
 rw [if_neg (by rw [ns];exact AJ)]
 refine Aa (Ac (Aa (BX d1 d2 (Aa (BP d1 d2 ?_)))))
 refine Aa (AW (Ac ⟨_,rfl,"dict_keyiterator",_,⟨_,Aq _ rfl,rfl⟩,Br.lookup,?_⟩))
 exact q _ (BS ..) (λb o e=>Ae _ e) ⟨⟨o,Ae _ d1,d2⟩,_,Aq _ rfl,rfl,rfl⟩
theorem P5 {S:Addr}{ob:Obj}{es:Array DictEntry}{ep:Nat}{Q:List Value->Shared->Prop}(hh:A.handled=none)(hz:es.size≤sizeLine)(g1:s.heap.get? S=some ob)(gc:ob.cls=.type "dict")(ns:(S==sysModules)=false)(g2:DAt s.heap S es ep)
  (q:∀ h' tk,(∀ b o,s.heap.get? b=some o->h'.get? b=some o)->Q (es.toList.map (·.key)) { s with heap:=h',toks:=tk }):wpAny (model prog w) A (collect (.ref S)) Q E s:=by
 obtain ⟨od,d1,d2⟩:=g2
 have lS:S<s.heap.objs.size:=Ar g1
 have ld:S<s.heap.objs.size:=Ar d1
 have nS:s.heap.objs.size≠S:=Nat.ne_of_gt lS
 have nd:s.heap.objs.size≠S:=Nat.ne_of_gt ld
 unfold collect
 refine Aa (wpAny_runValue (Bq F.entry_proto_collect ?_))
 rw [Bm F.plain_proto_collect _]
 refine (?_:wpAny _ A.in1 (newList [] >>= λl=>again (.builtin "list.__iadd__" ⟨[l,.ref S],[]⟩)) _ _ s)
 refine Aa (AW (Ac ⟨plainId_quiet F.plain_list_iadd _,Bq F.entry_list_iadd ?_⟩))
 rw [Bm F.plain_list_iadd _]
 refine (?_:wpAny _ A.in1 (Builtin.List.listExtendWith (.ref s.heap.objs.size) (.ref S) (.ref s.heap.objs.size)) _ _ _)
 (unfold Builtin.List.listExtendWith)
 have gS:(s.heap.push { cls:=.type "list",data:=.seq ([]:List Value).toArray }).get? S=some ob:=Ae _ g1
 have gd:(s.heap.push { cls:=.type "list",data:=.seq ([]:List Value).toArray }).get? S=some od:=Ae _ d1
 have gL:(s.heap.push { cls:=.type "list",data:=.seq ([]:List Value).toArray }).get? s.heap.objs.size=some { cls:=.type "list",data:=.seq ([]:List Value).toArray }:=Aq _ rfl
 generalize hP:s.heap.push { cls:=.type "list",data:=.seq ([]:List Value).toArray }=h1 at gS gL gd ⊢
 have k1:∀ b o,s.heap.get? b=some o->h1.get? b=some o:=λb o e=>by rw [← hP];exact Ae _ e
 have sz1:h1.objs.size=s.heap.objs.size+1:=by rw [← hP];exact BS ..
 have ty:Shared.TypeIs { s with heap:=h1 } (.ref S) "dict":=⟨ob,gS,gc⟩
 refine Aa (BL ty ?_)
 have e1:Builtin.List.listSameRef (.ref s.heap.objs.size) (.ref S)=false:=by simp [Builtin.List.listSameRef,nS]
 simp only [e1,show (Value.type "dict"==Value.type "list")=false by decide,show (Value.type "dict"==Value.type "tuple")=false by decide,Bool.or_false,AG,AZ]
 have lt1:S<h1.objs.size:=by rw [sz1];exact Bu ld
 refine Aa (Qw (s:={ s with heap:=h1 }) ns gd (by rw [g1] at d1;cases d1;exact gc) d2 λh2 e2 k2 st=>?_)
 have ty2:Shared.TypeIs { s with heap:=h2 } (.ref S) "dict":=⟨ob,k2 _ _ gS,gc⟩
 have nLI:s.heap.objs.size≠h1.objs.size:=by rw [sz1];exact AF (Bj _)
 have ndI:S≠h1.objs.size:=AF lt1
 refine Aa (AI ?_)
 (unfold Builtin.List.listLengthHint)
 refine Aa (wpAny_specialOf ty2 F.slot_dict_len.lookup ?_)
 refine (?_:wpAny _ A.in1 (isInstance (Value.ref S) (.type "dict") >>= _) _ _ _)
 refine Aa (wpAny_isInstance (b:=true) ty2 (by rw [isSubtype_type];kernel_rfl) ?_)
 refine (?_:wpAny _ A.in1 (typeOf (Value.ref S) >>= _) _ _ _)
 refine Aa (BL ty2 (Ac ?_))
 have gL2:=k2 _ _ gL
 refine (?_:wpAny _ A.in1 (rule "list.extend.makes-room" >>= λ_=>Builtin.List.listTouch (.ref s.heap.objs.size) >>= λ_=>again (.builtin "list.extend.loop" ⟨[.ref s.heap.objs.size,.ref h1.objs.size,.ref s.heap.objs.size],[]⟩)) _ _ _)
 refine Aa (Bo (Aa ?_))
 refine (?_:wpAny _ A.in1 (updateSeq s.heap.objs.size (·.push .none) >>= λ_=>updateSeq s.heap.objs.size (·.pop)) _ _ _)
 refine Aa (wpAny_updateSeq gL2 rfl ?_)
 have gL3:=AR (Obj.mapSeq (·.push Value.none)) gL2 rfl
 refine wpAny_updateSeq gL3 rfl ?_
 have gL4:=AR (Obj.mapSeq (·.pop)) gL3 rfl
 have nL:s.heap.objs.size∉[h1.objs.size,S]:=by
  simp only [Am,AE,Bk,not_or]
  exact ⟨nLI,nd⟩
 have oth:∀ b o,b≠s.heap.objs.size->h2.get? b=some o->((h2.update s.heap.objs.size (Obj.mapSeq (·.push Value.none))).update s.heap.objs.size (Obj.mapSeq (·.pop))).get? b=some o:=
  λb o hb e=>(BM _ _ hb.symm).trans ((BM _ _ hb.symm).trans e)
 have W:=(MW (prog:=prog) (A:=A.in1) (w:=w) (es:=es) (ep:=ep) hh ndI).toS
 refine Ac ⟨plainId_quiet F.plain_extend_loop _,codeAny_extend_loopS (A:=A) W hz _ nL _ es.size 0 _ _ _ rfl (A0 _) ?_ gL4 (ItemsOf.nil _) λs' acc' c' hm hS' hacc=>?_⟩
 ·exact (MW (prog:=prog) (A:=A.in1) (w:=w) (es:=es) (ep:=ep) hh ndI).frame 0 _ _ st λb hb o e=>oth b o (λz=>nL (z▸hb)) e
 refine (?_:wpAny _ A (load s.heap.objs.size >>= _) _ _ s')
 refine Aa (wpAny_load hS' ?_)
 obtain ⟨zh,zg,zd,zt,zo⟩:=s'
 have e4:zg=s.gens:=hm.gens
 have e5:zd=s.drawn:=hm.drawn
 have e6:zo=s.os:=hm.os
 subst e4 e5 e6
 have ac:acc'.toList=es.toList.map (·.key):=by
  refine A7 λi=>?_
  rw [Av,AA,AA]
  by_cases hi:i<es.size
  ·have hi':i<acc'.size:=by rw [hacc.1];exact hi
   obtain ⟨e,x1,x2⟩:=hacc.2 i _ (AH hi')
   rw [AH hi',x1,← x2]
   rfl
  ·rw [BN (by rw [hacc.1];ext),BN (by ext)]
   rfl
 refine Ac ?_
 refine (?_:Q acc'.toList _)
 rw [ac]
 refine q zh zt λb o e=>?_
 have bl:=Ar e
 refine hm.heap b o ?_ (oth b o (AF bl) (k2 _ _ (k1 _ _ e)))
 simp only [Am,AE,Bk,not_or]
 exact ⟨AF bl,AF (show b<h1.objs.size by rw [sz1];exact Bu bl)⟩
end
section
variable {X:Cx} {K:Zc} {th:List Addr} {mu:Sto} {H:Hp} {pins:List (Addr×Obj)} {st:L2.St} {s:Shared}
theorem P0 (hu:X.A.units+64<cLine)(I:L2.Inv X pins st H s)(so:StoOk X.z th mu H){es:List D}(ok:FF es=true){u:Value}{Q:VK}(t:Tr X.z th H (some (D.lst (Hb es),mu)) (KV' X.z Q))
  (col:∀ Q':List Value->Shared->Prop,(∀ vs zs h' tk,RepL X.z th H es vs->Vals vs zs->(∀ b o,s.heap.get? b=some o->h'.get? b=some o)->Q' zs { s with heap:=h',toks:=tk })->wpAny (model X.prog X.w) X.A.in1 (collect u) Q' X.xe s) :
  wpAny (model X.prog X.w) X.A (call (.builtin "sorted") [u]) (EP X pins st Q) X.xe s:=by
 refine M7 (col _ λvs zs h1 tk h2 rv hk=>?_)
 have I1:L2.Inv X pins st H { s with heap:=h1,toks:=tk }:=I.kept (t':=tk) hk
 have l64:es.length<64:=by
  have:=ok
  unfold FF at this
  rw [Ab,Ab,Ab,Ad] at this
  exact this.1.1.1
 have lz:zs.length=es.length:=by rw [← rv.length,h2.len]
 obtain ⟨ws,out,w1,w2,w3⟩:=sorts hu I1 h2 rv ok
 have z64:64≤sizeLine:=by rw [AD];decide
 have wl:(Hb es).length≤sizeLine:=by rw [(ET es).length_eq];ext
 refine ⟨by ext,out,w3,λh' e a hk' ha he=>?_⟩
 have hp:H a=none:=I1.hok.fresh ha
 refine ⟨.ref a,_,I1.laid (t':=tk) (o:=.lst ws) hk' ha ⟨by rw [w1.len];exact wl,out,e,w2,he⟩,rfl,?_⟩
 exact t.retX (.new hp _) (so.new hp _) _ (Rep.newLst so hp w1 wl)
theorem WY (I:L2.Inv X pins st H s){a:Addr}{ks ds:List D}(h:K2 X.z th H a ks ds):∃ o es ep,(a==sysModules)=false∧s.heap.get? a=some o∧o.ExactDict∧o.data=.dict es ep∧es.size≤sizeLine∧(∃ vs,RepL X.z th H ks vs∧Vals vs (es.toList.map (·.key)))∧∃ vs,RepL X.z th H ds vs∧Vals vs (es.toList.map (·.val)):=by
 obtain ⟨xs0,h1',h2,h3,h4,h5⟩:=id h
 obtain ⟨xs,o,es,ep,h1,g⟩:=H8 I h
 obtain ⟨⟨z',o',es',ep',g1,g2,g3,g4⟩,_⟩:=(show ObjOk X.prog X.w H s.heap a (HE a xs0) from I.hok a _ h1')
 have e1:=g.at'
 rw [g1] at e1
 cases e1
 have e2:=g.dt
 rw [g3] at e2
 cases e2
 have kv:∀ {ys:List (Int×V×V)} {zs:List DictEntry},Paired (λ(x:Int×V×V) (e:DictEntry)=>e.hash=x.1∧RelV x.2.1 e.key∧RelV x.2.2 e.val) ys zs->Vals (ys.map (·.2.1)) (zs.map (·.key))∧Vals (ys.map (·.2.2)) (zs.map (·.val)):=λ{ys zs} p=>by
  induction p with
  | nil=>exact ⟨.nil,.nil⟩
  | cons a b ih=>exact ⟨.cons a.2.1 ih.1,.cons a.2.2 ih.2⟩
 have sz:es.size≤sizeLine:=by
  have e:=DH g.en
  have e':es.size=ks.length:=by
   rw [← Array.length_toList]
   exact e.symm
  rw [e']
  exact h5.len
 exact ⟨o,es,ep,z',g1,g2,g3,sz,⟨_,h3,(kv g4).1⟩,⟨_,h4,(kv g4).2⟩⟩
def Wo:Fn:=λds mu=>match Iz ds with
 | some d=>match FZ mu d with
  | some p=>if FF p.1=true then some (.lst (Hb p.1),mu) else none
  | none=>none
 | none=>none
theorem Ve {ds:List D}{r:D×Sto}(h:Wo ds mu=some r):∃ d p,ds=[d]∧FZ mu d=some p∧FF p.1=true∧r=(.lst (Hb p.1),mu):=by
 unfold Wo at h
 split at h
 ·rename_i d e
  split at h
  ·rename_i p e2
   split at h
   ·rename_i c;cases h;exact ⟨d,p,IF e,e2,c,rfl⟩
   ·cases h
  ·cases h
 ·cases h
theorem SU (hu:X.A.units+64<cLine)(hc:X.calm=true):CallV X (.builtin "sorted") Wo:=by
 intro pins s st H xs us Q I r h
 obtain ⟨th,mu,ds,so,rd,t⟩:=h
 obtain ⟨a0,mu0,e0,_⟩:=id t
 obtain ⟨d,p,rfl,eg,ok,er⟩:=Ve e0
 rw [e0] at t
 cases er
 obtain ⟨x,rfl,rx⟩:=Ej rd
 obtain ⟨u,rfl,ru⟩:=vals1 r
 obtain ⟨a,rfl,dc⟩:=FC so eg rx
 cases ru
 obtain ⟨o,es,ep,ns,g1,g2,g3,sz,⟨vs,k1,k2⟩,_⟩:=WY I dc
 exact P0 hu I so ok t λQ' q=>P5 (I.ok.hd hc) sz g1 g2.1 ns ⟨o,g1,g3⟩ λh' tk hk=>q _ _ h' tk k1 k2 hk
def MG:Fn:=λds mu=>match MN ds mu with|some r=>some r|none=>Wo ds mu
theorem KY (hu:X.A.units+64<cLine)(hc:X.calm=true):CallV X (.builtin "sorted") MG:=CallV.or (Sg hu hc) (SU hu hc)
end
theorem WQ (T:String)(hT:T="list"∨T="tuple")(l:Addr)(items:Array Value)(n:Nat)(b:Addr)(dd:Option Addr)(sl:Array (Option Value))(items2:Array Value)(n2:Nat)(hc0:¬(!items.isEmpty&&Builtin.List.listTooLong (items.size+items2.size))=true)(hc1:items.size≤sizeLine)(hs2:items.size+items2.size≤sizeLine+1) :
  Meets (Builtin.«list.extend» ⟨[.ref l,.ref b],[]⟩) (λ_ R s=>s.heap.get? l=some { cls:=.type "list",data:=.seq items n }∧s.heap.get? b=some { cls:=.type T,dict:=dd,data:=.seq items2 n2,slots:=sl }∧R (.ok (.ret Value.none)) { s with heap:=s.heap.update l (Obj.mapSeq λx=>x++items2) }):=
 .of_wp λprog w A R s h=>by
  obtain ⟨hp,g,d,tk,os⟩:=s
  obtain ⟨hl,hb,h⟩:=h
  have f2:=sub_tuple_tuple
  have f3:=sub_list_list
  have f4:=sub_tuple_list
  have f5:=sub_list_tuple
  have hz':(items++items2).size≤sizeLine+1:=by rw [Array.size_append];exact hs2
  rcases hT with rfl|rfl
  ·wp_walk using (wpAny_updateSeq hl rfl (hz:=hc1) (_hz':=hz')),BF hl,BF hb
   exact ⟨_,rfl,h⟩
  ·wp_walk using (wpAny_updateSeq hl rfl (hz:=hc1) (_hz':=hz')),BF hl,BF hb
   exact ⟨_,rfl,h⟩
section
variable {X:Cx} {K:Zc} {th:List Addr} {mu:Sto} {H:Hp} {pins:List (Addr×Obj)} {st:L2.St} {s:Shared}
theorem Yf:MtR X "list.extend" (λx vs H Q=>∃ l b xs zs,x=.ref l∧vs=[.ref b]∧H l=some (.lst xs)∧(SqL X.K H b zs∨SqT X.K H b zs)∧xs.length+zs.length≤sizeLine∧Q .non (upd H l (.lst (xs++zs)))):=by
 intro pins s σ H x vs v us Q I rx rv h
 obtain ⟨l,b,xs,zs,rfl,rfl,hH,hB,hz,q⟩:=h
 cases rx
 obtain ⟨u,rfl,ru⟩:=rv.one
 cases ru
 obtain ⟨z,its,n,r,hl,e⟩:=I.lstM hH
 have fin:∀ (T:String) (ob:Obj) (its2:List Value) (n2:Nat),(T="list"∨T="tuple")->Vals zs its2->s.heap.get? b=some ob->ob.cls=.type T->ob.data=.seq its2.toArray n2->wpAny (model X.prog X.w) X.A (call (.builtin "list.extend") [.ref l,.ref b]) (EP X pins σ Q) X.xe s:=λT ob its2 n2 hT r2 g1 g2 g3=>by
  have l1:=r.length
  have l2:=r2.length
  have hsz:its.toArray.size+its2.toArray.size≤sizeLine:=by rw [An,An];ext
  have hlong:¬ (!its.toArray.isEmpty&&Builtin.List.listTooLong (its.toArray.size+its2.toArray.size))=true:=by
   rw [Vi hsz,BV]
   exact AJ
  obtain ⟨cls,dd,data,sl⟩:=ob
  simp only at g2 g3
  subst g2 g3
  refine call_meets F.slot_list_extend ⟨_,e,rfl⟩ F.entry_list_extend (F.args_list_extend_2 _ _) (WQ T hT l its.toArray n b dd sl its2.toArray n2 hlong (by rw [An];ext) (by ext)) ⟨e,g1,?_⟩
  refine ⟨.non,_,I.lset (its':=its++its2) hH e (by simp) (r.append r2) ?_,rfl,q⟩
  rw [Ai]
  ext
 rcases hB with hB|hB
 ·obtain ⟨its2,r2,⟨ob,n2,g1,g2,_,g3⟩,_⟩:=I.list hB
  exact fin "list" ob its2 n2 (.inl rfl) r2 g1 g2 g3
 ·obtain ⟨its2,r2,⟨ob,g1,g2,n2,g3⟩,_⟩:=I.tuple hB
  exact fin "tuple" ob its2 n2 (.inr rfl) r2 g1 g2 g3
def UI (o:Ex)(a:Exs):Ex:=λro mu=>bM (o ro mu) λd m1=>match d with
 | .ref k=>if E3 m1 (.ref k)=true then bM (a ro m1) λxs m2=>match sq1 xs m2,m2[k]? with
  | some ys,some (.lst ds)=>if ds.length+ys.length≤sizeLine then some (.non,m2.set k (.lst (ds++ys))) else none
  | _,_=>none
  else none
 | _=>none
theorem R6 {o e:Expr}{m:Ex}{n:Exs}{apos cpos:Pos}(ho:SV X o m)(ha:SVA X [e] n)(hbase:attributeBase o "extend" X.env (eval o X.env)=eval o X.env:=by rfl)
  (hfew:((backTo cpos (starEach [e] X.env)).all (λx=>!x.1)&&(backToKw cpos (keywordEach [] X.env)).all (λx=>x.1.isSome)
   && decide ([e].length+([]:List Keyword).length+(if ([]:List Keyword).isEmpty then 0 else 1)<30))=true:=by rfl)
  (hline:(apos.endLine==cpos.line)=true:=by rfl) (hs:starEach [e] X.env=(false,eval e X.env)::starEach [] X.env:=by rfl) (hplain:(backTo cpos (starEach [] X.env)).any (·.1)=false:=by rfl) :
  SV X (.Call (.Attribute o "extend" apos) [e] [] cpos) (UI m n):=
 ⟨PE.weak (Xi PySem.F.plainAttrs_list PySem.F.slot_list_extend PySem.F.type_list_extend Yf ho.r ha.1 hbase hfew hline hs hplain) λst H Q h=>by
  obtain ⟨th,mu,ro,so,en,t⟩:=h
  refine ⟨th,mu,ro,so,en,t.bind.mono λd th1 mu1 H1 e1 s1 t1 v rv=>?_⟩
  cases d with
  | ref k =>
   unfold Rep at rv
   obtain ⟨a,rfl,ha'⟩:=rv
   by_cases cr:E3 mu1 (.ref k)=true
   case neg=>dsimp only at t1;rw [if_neg cr] at t1;exact t1.no.elim
   dsimp only at t1
   rw [if_pos cr] at t1
   obtain ⟨ds0,em⟩:=KD cr
   obtain ⟨vs,h2,_⟩:=s1.at' k a _ ha' em
   refine ⟨.inl ⟨rfl,vs,SqL.of h2⟩,th1,mu1,ro,s1,en.ext e1 so.out,?_⟩
   refine Tr.mono (Tr.bind t1) λxs th2 mu2 H2 e2 s2 t2 ws rws=>?_
   cases q1:sq1 xs mu2 with
   | none=>rw [q1] at t2;exact t2.no.elim
   | some ys =>
    cases q2:mu2[k]? with
    | none=>rw [q1,q2] at t2;exact t2.no.elim
    | some o =>
     cases o with
     | dct _ _=>rw [q1,q2] at t2;exact t2.no.elim
     | lst ds =>
      rw [q1,q2] at t2
      dsimp only at t2
      by_cases c:ds.length+ys.length≤sizeLine
      ·rw [if_pos c] at t2
       have hk:=e2.at ha'
       obtain ⟨us,g1,g2,g3⟩:=s2.at' k a _ hk q2
       unfold sq1 at q1
       cases q3:Iz xs with
       | none=>rw [q3] at q1;cases q1
       | some y =>
        rw [q3] at q1
        rw [IF q3] at rws
        obtain ⟨y',rfl,ry⟩:=Ej rws
        obtain ⟨b,zs,rfl,z1,z2,_⟩:=GV s2 q1 ry
        exact ⟨a,b,us,zs,rfl,rfl,g1,z1.imp id (·.1),by rw [g2.len,z2.len];exact c,t2.retX (.mut (Ap hk) _) (s2.put hk (g2.app z2) (by rw [Ai];exact c)) _ rfl⟩
      ·rw [if_neg c] at t2;exact t2.no.elim
  | _=>exact t1.no.elim⟩
def Rl (d:D)(xs:List D)(mu:Sto):Rs D:=match FZ mu d,xs with
 | some p,[k]=>if EO k=true then some ((F0 k p.1 p.2).getD .non,mu) else none
 | some p,[k,y]=>if EO k=true then some ((F0 k p.1 p.2).getD y,mu) else none
 | _,_=>none
theorem RM (hu:X.A.units+64<cLine)(I:L2.Inv X pins st H s){a:Addr}{ks ds:List D}(dc:K2 X.z th H a ks ds){k:D}{u:Value}(hk:Hd s.heap k u){as:List Value}{yd:Value}(has:as=[]∧yd=.none∨as=[yd]){Q:Value->Shared->Prop}
  (q1:∀ d,F0 k ks ds=some d->∀ v r,Rep X.z th H d v->RelV v r->∀ tk,Q r { s with toks:=tk }) (q2:F0 k ks ds=none->∀ tk,Q yd { s with toks:=tk }):wpAny (model X.prog X.w) X.A (call (.builtin "dict.get") (.ref a::u::as)) Q X.xe s:=by
 obtain ⟨ty,ns,_⟩:=Ru I dc
 have go:wpAny (model X.prog X.w) X.A.in1 (Builtin.«dict.get» ⟨.ref a::u::as,[]⟩) (λfin s'=>∃ v,fin=.done (.ret v)∧Q v s') X.xe s:=by
  rcases has with ⟨rfl,rfl⟩|rfl
  ·refine (?_:wpAny _ _ (dictGet a u >>= _) _ _ s)
   cases e:F0 k ks ds with
   | some d =>
    obtain ⟨v,r,x1,x2,x3⟩:=Ob I dc hk e
    exact Aa (x3 (by rw [Around.in1_units];ext) λtk=>Ac ⟨r,rfl,q1 d e v r x1 x2 tk⟩)
   | none =>
    refine Aa (Oq (A:=X.A.in1) I dc hk e (by rw [Around.in1_units];ext) λtk=>?_)
    exact Aa (wpAny_missed_other ns (Ac ⟨_,rfl,q2 e tk⟩))
  ·refine (?_:wpAny _ _ (dictGet a u >>= _) _ _ s)
   cases e:F0 k ks ds with
   | some d =>
    obtain ⟨v,r,x1,x2,x3⟩:=Ob I dc hk e
    exact Aa (x3 (by rw [Around.in1_units];ext) λtk=>Ac ⟨r,rfl,q1 d e v r x1 x2 tk⟩)
   | none =>
    refine Aa (Oq (A:=X.A.in1) I dc hk e (by rw [Around.in1_units];ext) λtk=>?_)
    exact Aa (wpAny_missed_other ns (Ac ⟨_,rfl,q2 e tk⟩))
 rcases has with ⟨rfl,rfl⟩|rfl
 ·exact AY PySem.F.slot_dict_get ty PySem.F.entry_dict_get go (PySem.F.args_dict_get_2 _ _)
 ·exact AY PySem.F.slot_dict_get ty PySem.F.entry_dict_get go (PySem.F.args_dict_get_3 _ _ _)
theorem X5 (hu:X.A.units+64<cLine):MtR X "dict.get" (λx vs H Q=>∃ th mu d ds,StoOk X.z th mu H∧Rep X.z th H d x∧RepL X.z th H ds vs∧Tr X.z th H (Rl d ds mu) (KV' X.z Q)):=by
 intro pins s st H x xs v us Q I rx rxs h
 obtain ⟨th,mu,d,ds,so,r1,r2,t⟩:=h
 unfold Rl at t
 cases e:FZ mu d with
 | none=>rw [e] at t;exact t.no.elim
 | some p =>
  rw [e] at t
  obtain ⟨a,rfl,dc⟩:=FC so e r1
  cases rx
  match ds,r2,t with
  | [],_,t=>exact t.no.elim
  | [k],r2,t =>
   dsimp only at t
   by_cases c:EO k=true
   ·rw [if_pos c] at t
    obtain ⟨kv,rfl,rk⟩:=Ej r2
    obtain ⟨u,rfl,ru⟩:=vals1 rxs
    refine RM hu I dc (JH I c rk ru) (.inl ⟨rfl,rfl⟩) (λd' e' v' r' z1 z2 tk=>?_) λe' tk=>?_
    ·rw [e'] at t
     exact ⟨v',H,I.tok _,z2,t.ret so _ z1⟩
    ·rw [e'] at t
     exact ⟨.non,H,I.tok _,rfl,t.ret so _ rfl⟩
   ·rw [if_neg c] at t;exact t.no.elim
  | [k,y],r2,t =>
   dsimp only at t
   by_cases c:EO k=true
   ·rw [if_pos c] at t
    obtain ⟨kv,yv,rfl,rk,ry⟩:=Ke r2
    obtain ⟨u,w',rfl,ru,rw'⟩:=vals2 rxs
    refine RM hu I dc (JH I c rk ru) (.inr rfl) (λd' e' v' r' z1 z2 tk=>?_) λe' tk=>?_
    ·rw [e'] at t
     exact ⟨v',H,I.tok _,z2,t.ret so _ z1⟩
    ·rw [e'] at t
     exact ⟨yv,H,I.tok _,rw',t.ret so _ ry⟩
   ·rw [if_neg c] at t;exact t.no.elim
  | _::_::_::_,_,t=>exact t.no.elim
def tBD (r:V->List V->Hp->VK->Prop)(to:TE)(t:TA):TE:=fun σ H Q=>to σ H λx H1=>(∃ a xs,x=.ref a∧H1 a=some (HE a xs))∧t σ H1 λvs H2=>r x vs H2 Q
theorem AaW {o e:Expr}{es:List Expr}{to:TE}{t:TA}{name:Str}{apos cpos:Pos}{id:String}{r:V->List V->Hp->VK->Prop}(slot:Slot "dict" name id)(hty:typeOf (.builtin id)=pure (.type "method_descriptor"))(hm:MtR X id r)(ho:PE X o to)(ha:PA X (e::es) t)
  (hbase:attributeBase o name X.env (eval o X.env)=eval o X.env)
  (hfew:((backTo cpos (starEach (e::es) X.env)).all (λx=>!x.1)&&(backToKw cpos (keywordEach [] X.env)).all (λx=>x.1.isSome)
   && decide ((e::es).length+([]:List Keyword).length+(if ([]:List Keyword).isEmpty then 0 else 1)<30))=true)
  (hline:(apos.endLine==cpos.line)=true) (hs:starEach (e::es) X.env=(false,eval e X.env)::starEach es X.env) (hplain:(backTo cpos (starEach es X.env)).any (·.1)=false) :
  PE X (.Call (.Attribute o name apos) (e::es) [] cpos) (tBD r to t):=by
 intro pins s st H Q I h
 refine wpAny_Call_method_late hbase hfew hline rfl (thn (ho pins s st H _ I h) λv s1 ⟨x,H1,I1,r1,⟨a,xs,ex,hd⟩,q1⟩=>?_)
 subst ex
 cases r1
 obtain ⟨⟨z,ob,es',ep,g1,g2,g3,g4⟩,_⟩:=(show ObjOk X.prog X.w H1 s1.heap a (HE a xs) from I1.hok a _ hd)
 refine ⟨"dict",id,PySem.F.plainAttrs_dict,slot,hty,⟨ob,g1,g2.1⟩,λb e=>by cases e;exact ⟨ob,g1,g2.2.1⟩,?_⟩
 have hA:=ha cpos pins s1 st H1 _ I1 q1
 rw [hs] at hA ⊢
 refine Calls.callWith_builtin (by show (false||(backTo cpos (starEach es X.env)).any (·.1))=false;rw [hplain]<;>rfl) (Calls.evalArgs_plain ?_)
 exact thn hA λus s2 ⟨vs,H2,I2,r2,q2⟩=>hm pins s2 st H2 (.ref a) vs (.ref a) us Q I2 rfl r2 q2
def J9 (o:Ex)(a:Exs):Ex:=λro mu=>bM (o ro mu) λd m1=>if (FZ m1 d).isSome=true then bM (a ro m1) λxs m2=>Rl d xs m2 else none
theorem Ot (hu:X.A.units+64<cLine){o e:Expr}{es:List Expr}{m:Ex}{n:Exs}{apos cpos:Pos}(ho:SV X o m)(ha:SVA X (e::es) n)(hbase:attributeBase o "get" X.env (eval o X.env)=eval o X.env:=by rfl)
  (hfew:((backTo cpos (starEach (e::es) X.env)).all (λx=>!x.1)&&(backToKw cpos (keywordEach [] X.env)).all (λx=>x.1.isSome)
   && decide ((e::es).length+([]:List Keyword).length+(if ([]:List Keyword).isEmpty then 0 else 1)<30))=true:=by rfl)
  (hline:(apos.endLine==cpos.line)=true:=by rfl) (hs:starEach (e::es) X.env=(false,eval e X.env)::starEach es X.env:=by rfl) (hplain:(backTo cpos (starEach es X.env)).any (·.1)=false:=by rfl) :
  SV X (.Call (.Attribute o "get" apos) (e::es) [] cpos) (J9 m n):=
 ⟨PE.weak (AaW PySem.F.slot_dict_get PySem.F.type_dict_get (X5 hu) ho.r ha.1 hbase hfew hline hs hplain) λst H Q h=>by
  obtain ⟨th,mu,ro,so,en,t⟩:=h
  refine ⟨th,mu,ro,so,en,t.bind.mono λd th1 mu1 H1 e1 s1 t1 v rv=>?_⟩
  cases q:FZ mu1 d with
  | none=>rw [q] at t1;exact t1.no.elim
  | some pr =>
   rw [q] at t1
   rw [if_pos (show (some pr).isSome=true from rfl)] at t1
   obtain ⟨a,rfl,dc⟩:=FC s1 q rv
   obtain ⟨xs,hx,_⟩:=id dc
   refine ⟨⟨a,xs,rfl,hx⟩,th1,mu1,ro,s1,en.ext e1 so.out,?_⟩
   exact Tr.mono (Tr.bind t1) λys th2 mu2 H2 e2 s2 t2 ws rws=>⟨th2,mu2,d,ys,s2,rv.ext e2 s1.out,rws,t2⟩⟩
end
end PV
namespace L2
open PySem PySem.Spec PyProof.Rows
inductive IsC:Expr->List Comprehension->Prop
 | l {elt gens sc pos}:IsC (.ListComp elt gens sc pos) gens
 | d {k v gens sc pos}:IsC (.DictComp k v gens sc pos) gens
noncomputable def JP (g:Comprehension)(it:Value)(env:Env)(step:Sem Unit)(c:Code):Sem Fin:=do
 standAt g.iter.pos
 match←pyNext it with
 | none=>pure (.done .next)
 | some v =>
  letOwnedTupleGo g.target it v
  assign g.target env v
  let mut ok:=true
  for c in g.ifs do
   if ok then ok←isTrue c env (eval c env)
  if ok then step
  again c
noncomputable def Q7 (elt:Expr)(acc:Value)(env:Env):Sem Unit:=do let _←call (.builtin "list.append") [acc,← eval elt env]
noncomputable def Ra (kx vx:Expr)(D:Addr)(env:Env):Sem Unit:=do
 let kv←eval kx env
 let vv←holding [kv] (eval vx env)
 standAt { kx.pos with endLine:=vx.pos.endLine,endCol:=vx.pos.endCol }
 holding [kv,vv] (dictSet D kv vv)
noncomputable def deeper (e iter:Expr)(acc:Value)(env:Env):Sem Unit:=do
 let x←eval iter env
 standAt iter.pos
 let x←foldedSetIterable iter env x
 let _←runOwn (.compStart e 1 (← holding [x] (pyIter x)) acc env) env
theorem WE {elt t i ifs sc pos it acc env}:compTurn (.ListComp elt [⟨t,i,ifs,0⟩] sc pos) 0 it acc env=JP ⟨t,i,ifs,0⟩ it env (Q7 elt acc env) (.compLoop (.ListComp elt [⟨t,i,ifs,0⟩] sc pos) 0 it acc env):=rfl
theorem Xa {k v t i ifs sc pos it D env}:compTurn (.DictComp k v [⟨t,i,ifs,0⟩] sc pos) 0 it (.ref D) env=JP ⟨t,i,ifs,0⟩ it env (Ra k v D env) (.compLoop (.DictComp k v [⟨t,i,ifs,0⟩] sc pos) 0 it (.ref D) env):=rfl
section
variable {prog:Program} {w:World} {A:Around} {R:Result->Shared->Prop} {s:Shared} {e:Expr} {gens:List Comprehension} {g:Comprehension} {depth:Nat} {it acc:Value} {env:Env} {step:Sem Unit}
theorem Abi (hc:IsC e gens)(heq:compTurn e depth it acc env=JP g it env step (.compLoop e depth it acc env))(J:Nat->Shared->Prop)
  (turn:∀ (n:Nat) (z:Shared),J n z->Go prog w A (pyNext it) (λr z1=>match r with
   | .none=>R (.ok .next) z1
   | .some v=>Go prog w A (letOwnedTupleGo g.target it v) (λ_ s1=>Go prog w A (assign g.target env v) (λ_ s2=>Go prog w A (tests env g.ifs) (λok s3 =>
     if ok=true then Go prog w A step (λ_ z2=>∃ m,m<n∧J m z2) s3 else ∃ m,m<n∧J m s3) s2) s1) z1) z) (n:Nat) (h:J n s) :
  codeAny (model prog w) A (Code.compLoop e depth it acc env) R s:=by
 have st:∀ (n:Nat) (z:Shared),J n z->Go prog w A (compTurn e depth it acc env)
   (λfin z'=>match fin with
    | .done f=>R (.ok f) z'
    | .again c'=>c'=Code.compLoop e depth it acc env∧∃ m,m<n∧J m z') z:=by
  intro n z hz
  rw [heq]
  unfold JP
  refine Aa (wpAny_standAt (Aa (thn (turn n z hz) λr z1 h1=>?_)))
  cases r with
  | none=>exact Ac h1
  | some v =>
   refine Aa (thn h1 λ_ z2 h2=>Aa (thn h2 λ_ z3 h3=>Aa (thn h3 λok z4 h4=>?_)))
   cases ok with
   | false=>exact Ac (And.intro rfl h4)
   | true=>exact Aa (thn h4 λx z5 h5=>Ac (And.intro rfl h5))
 cases hc with
 | l=>exact codeAny_loop rfl J (λn z hz=>wpAny_noted (wpAny_mono (st n z hz) (λ_ _ q=>q) λ_ _ q=>q.elim)) n h
 | d=>exact codeAny_loop rfl J (λn z hz=>wpAny_noted (wpAny_mono (st n z hz) (λ_ _ q=>q) λ_ _ q=>q.elim)) n h
theorem X6 (hc:IsC e gens)(hg:gens[depth]? = some g)(ha:g.is_async=0)
  (h0:codeAny (model prog w) A (.compLoop e depth it acc env) R s)
  (h:wpAny (model prog w) A (pyIter it) (λit' s'=>codeAny (model prog w) A (.compLoop e depth it' acc env) R s') (notedBy (model prog w) A env λx s'=>R (.error x) s') s) :
  codeAny (model prog w) A (.compStart e depth it acc env) R s:=by
 have st:wpAny (model prog w) A (compStart e depth it acc env) (λfin s'=>match fin with
    | .done f=>R (.ok f) s'
    | .again c'=>c'.quiet=true∧codeAny (model prog w) A c' R s') (notedBy (model prog w) A env λx s'=>R (.error x) s') s:=by
  have cl:clausesOf e=gens:=by cases hc<;>rfl
  have qt:(Code.compLoop e depth it acc env).quiet=true:=by cases hc<;>rfl
  have qt':∀ it',(Code.compLoop e depth it' acc env).quiet=true:=λit'=>by cases hc<;>rfl
  unfold compStart
  rw [cl,hg]
  simp only [Option.elim,ha,bne_self_eq_false,AG,AZ,pure_bind]
  refine Aa (wpAny_askSetting (wpAny_ite ?_))
  split
  ·first
    | exact Aa (Ac (Ac (And.intro qt h0)))
    | exact Ac (And.intro qt h0)
  ·exact Aa (Bo (Aa (wpAny_standAt (Aa (wpAny_mono h (λit' s' h'=>Ac (And.intro (qt' _) h')) λ_ _ x=>x)))))
 cases hc with
 | l =>
  refine codeAny_of_tree ?_
  exact wpAny_notedAt (wpAny_mono st (λfin _ q=>q) λ_ _ q=>q)
 | d =>
  refine codeAny_of_tree ?_
  exact wpAny_notedAt (wpAny_mono st (λfin _ q=>q) λ_ _ q=>q)
end
abbrev TM (α:Type):=α->St->Hp->(α->St->Hp->Prop)->Prop
structure Acc (α:Type) where
 ao:α->Obj->Prop
 nc:∀ a o,ao a o->∀ v,o.data≠.cell v
structure DOk (X:Cx) (D:Addr):Prop where
 up:X.s₀.heap.objs.size≤D
 nl:D≠X.env.locals
 nf:D∉X.fs
 cl:∀ x c,X.env.cells.lookup x=some c->c≠D
 pn:∀ p∈X.pn,p.1≠D
def PM (X:Cx){α:Type}(K:Acc α)(D:Addr)(m:Sem Unit)(t:TM α):Prop:=
 ∀ (pins:List (Addr×Obj)) (s:Shared) (σ:St) (H:Hp) (Q:α->St->Hp->Prop) (a:α) (o:Obj),K.ao a o->(∀ p∈pins,p.1≠D)->Inv X (pins++[(D,o)]) σ H s->t a σ H Q ->
  wpAny (model X.prog X.w) X.A m (λ_ s'=>∃ a' o' σ' H',K.ao a' o'∧Inv X (pins++[(D,o')]) σ' H' s'∧Q a' σ' H') X.xe s
def CGo {α:Type}(J:It)(g:TG)(tt:TT)(tm:TM α)(a:α)(σ:St)(H:Hp)(Q:α->St->Hp->Prop):Prop:=
 ∃ W:Nat->Nat->α->St->Hp->Prop,(∃ m,W 0 m a σ H)∧∀ i m a σ' H',W i m a σ' H' ->
  ((J.stop i H'∧Q a σ' H') ∨
   (J.go i H'∧∀ x H2,J.yld i H' x H2->g x σ' H2 fun σ3 H3=>tt σ3 H3 λb H4 =>
    if b=true then tm a σ3 H4 λa' σ5 H5=>∃ m',m'<m∧W (i+1) m' a' σ5 H5 else ∃ m',m'<m∧W (i+1) m' a σ3 H4))
section
variable {X:Cx} {α:Type} {K:Acc α} {D:Addr} {R:Result->Shared->Prop} {e:Expr} {gens:List Comprehension} {g:Comprehension} {depth:Nat} {step:Sem Unit} {tg:TG} {tt:TT} {tm:TM α}
theorem Inv.pins_sub {pins pins':List (Addr×Obj)}{σ:St}{H:Hp}{s:Shared}(I:Inv X pins σ H s)(h:∀ p∈pins',p∈pins):Inv X pins' σ H s:=I.pins_of λp hp=>I.pin p (Ax _ (h p hp))
theorem cgo (hc:IsC e gens)(hcalm:X.calm=true)(hx:X.xe=λ_ _=>False){it:Addr}(heq:compTurn e depth (.ref it) (.ref D) X.env=JP g (.ref it) X.env step (.compLoop e depth (.ref it) (.ref D) X.env))
  (hg:PG X g.target tg) (ht:PF X g.ifs tt) (hm:PM X K D step tm) {J:It} {fp:List Addr} {tn:Nat->Heap->Prop} (T:Turn X.prog X.w X.K g.target J fp it tn)
  {pins:List (Addr×Obj)} {s:Shared} {σ:St} {H:Hp} {a:α} {o:Obj} {Q:α->St->Hp->Prop} (ao:K.ao a o) (I:Inv X (pins++[(D,o)]) σ H s) (st:tn 0 s.heap) (f:∀ b∈fp,Lz X pins H b) (fD:∀ b∈fp,D≠b) (pD:∀ p∈pins,p.1≠D)
  (w:CGo J tg tt tm a σ H Q) (fin:∀ s' a' o' σ' H',K.ao a' o'->Inv X (pins++[(D,o')]) σ' H' s'->Q a' σ' H'->R (.ok .next) s') :
  codeAny (model X.prog X.w) X.A (.compLoop e depth (.ref it) (.ref D) X.env) R s:=by
 obtain ⟨W,⟨m0,w0⟩,turn⟩:=w
 have stat:∀ {H':Hp} (o':Obj),(∀ b∈fp,H' b=none)->∀ b∈fp,Lz X (pins++[(D,o')]) H' b:=λ{H'} o' hn b hb=>by
  obtain ⟨_,f1,f2,f3,f4,f5⟩:=f b hb
  refine ⟨hn b hb,f1,f2,f3,f4,λp hp=>?_⟩
  rcases Aj.mp hp with z|z
  ·exact f5 p (Bc _ z)
  ·rcases Aj.mp z with z|z
   ·exact f5 p (Ax _ z)
   ·rw [Ag.mp z];exact fD b hb
 refine Abi hc heq (λn s'=>∃ i a o σ' H',K.ao a o∧Inv X (pins++[(D,o)]) σ' H' s'∧tn i s'.heap∧(∀ b∈fp,H' b=none)∧W i n a σ' H') ?_ m0 ⟨0,a,o,σ,H,ao,I,st,λb hb=>(f b hb).1,w0⟩
 rintro n s3 ⟨i,a3,o3,σ3,H3,ao3,I3,st3,fr3,w3⟩
 rcases turn i n a3 σ3 H3 w3 with ⟨stop,qn⟩|⟨go,stp⟩
 ·refine thn (T.done X rfl rfl rfl hcalm i _ s3 σ3 H3 (λ_ _=>False) I3 (stat o3 fr3) st3 stop) λr s4 ⟨hr,I4⟩=>?_
  subst hr
  exact fin s4 a3 o3 σ3 H3 ao3 I4 qn
 ·refine thn (T.item X rfl rfl rfl hcalm i _ s3 σ3 H3 (λ_ _=>False) I3 (stat o3 fr3) st3 go) λr s4 ⟨u,hr,h4⟩=>?_
  subst hr
  refine thn h4 λ_ s5 ⟨x,H5,I5,r5,y5,st5,fr5⟩=>?_
  have I5':=I5.pinned (stat o3 fr5) (T.obj _ _ st5)
  have a1:=hg _ s5 σ3 H5 x u _ I5' r5 (stp x H5 y5)
  rw [hx] at a1
  refine thn a1 λ_ s6 ⟨σ6,H6,I6,q6⟩=>?_
  have b1:=ht _ s6 σ6 H6 _ I6 q6
  rw [hx] at b1
  refine thn b1 λok s7 ⟨H7,I7,q7⟩=>?_
  have keep:∀ {s':Shared} {pl:List (Addr×Obj)} {σ':St} {H':Hp},Inv X pl σ' H' s'->(∀ p∈JX fp s5.heap,p∈pl)->tn (i+1) s'.heap∧∀ b∈fp,H' b=none:=λ{s' pl σ' H'} J' hs=>by
   refine ⟨T.keep _ _ _ st5 λb hb o e=>(J'.pin (b,o) (Ax _ (hs _ (HR hb e)))).1,λb hb=>?_⟩
   obtain ⟨o,e,_⟩:=T.obj _ _ st5 b hb
   exact (J'.pin (b,o) (Ax _ (hs _ (HR hb e)))).2.1
  cases ok with
  | false =>
   rw [if_neg AJ] at q7 ⊢
   obtain ⟨m',hm',w7⟩:=q7
   obtain ⟨k1,k2⟩:=keep I7 λp hp=>Ax _ hp
   exact ⟨m',hm',i+1,a3,o3,σ6,H7,ao3,I7.unpinned,k1,k2,w7⟩
  | true =>
   rw [if_pos rfl] at q7 ⊢
   have I8:Inv X ((pins++JX fp s5.heap)++[(D,o3)]) σ6 H7 s7:=I7.pins_sub λp hp=>by
    simp only [Aj] at hp ⊢
    rcases hp with (z|z)|z
    ·exact .inl (.inl z)
    ·exact .inr z
    ·exact .inl (.inr z)
   have c1:=hm (pins++JX fp s5.heap) s7 σ6 H7 _ a3 o3 ao3 (λp hp=>by
    rcases Aj.mp hp with z|z
    ·exact pD p z
    ·exact Ne.symm (fD p.1 (Na z).1)) I8 q7
   rw [hx] at c1
   refine thn c1 λ_ s9 ⟨a9,o9,σ9,H9,ao9,I9,m',hm',w9⟩=>?_
   obtain ⟨k1,k2⟩:=keep I9 λp hp=>Bc _ (Ax _ hp)
   exact ⟨m',hm',i+1,a9,o9,σ9,H9,ao9,I9.pins_sub λp hp=>by
    simp only [Aj] at hp ⊢
    rcases hp with z|z
    ·exact .inl (.inl z)
    ·exact .inr z,k1,k2,w9⟩
end
section
variable {X:Cx} {α:Type} {scope:Scope} {fv:List (Nat×Str)}
theorem Pl {pins:List (Addr×Obj)}{σ:St}{H:Hp}{s:Shared}{fp:List Addr}{cl:List (Str×Addr)}{h₁:Heap}{own:List Str}{o0:Obj}(I:Inv X pins σ H s)(L:NH X scope fv)(hf:∀ b∈fp,Lz X pins H b)(hfo:∀ b∈fp,∃ o,s.heap.get? b=some o)
  (hsub:∀ x c,cl.lookup x=some c->X.env.cells.lookup x=some c) (hhas:∀ y∈scope.names,y.2=.free->∃ c,cl.lookup y.1=some c)
  (hns:h₁.Ns (s.heap.objs.size+1) (λx=>([]:List (Str×Value)).reverse.lookup x)) (hold:∀ b o,s.heap.get? b=some o->h₁.get? b=some o) (hD:h₁.get? s.heap.objs.size=some o0) (nc0:∀ v,o0.data≠.cell v) {tk:Nat} :
  Inv (Dv X scope (own++fv.map (·.2)) cl (s.heap.objs.size+1) s H fp) [(s.heap.objs.size,o0)] (st0 own.length fv σ) H { s with heap:=h₁,toks:=tk }:=by
 have nst:∀ b,s.heap.objs.size≤b->b∉frs X.stack:=λb hb hm=>by
  rcases Am.mp (I.stkSub b hm) with e|e
  ·exact absurd I.lt (by rw [← e];exact Nat.not_lt.mpr hb)
  ·exact I.nofs hb e
 have fpst:∀ b∈fp,b∉frs X.stack:=λb hb hm=>by
  obtain ⟨_,f1,f2,_⟩:=hf b hb
  rcases Am.mp (I.stkSub b hm) with e|e
  ·exact f1 e
  ·exact f2 e
 have celllt:∀ x c,cl.lookup x=some c->c<s.heap.objs.size:=λx c e=>by
  obtain ⟨v,z⟩:=I.cell x c (hsub x c e)
  exact z.lt
 refine ⟨⟨I.ok.mod,L.kind,I.ok.glob,I.ok.blt,Bx _,λx y c h1 h2=>I.ok.inj x y c (hsub _ _ h1) (hsub _ _ h2),λx hx=>hhas (x,.free) (Lr L.cell hx) rfl,λ_ _ z=>Bool.noConfusion z,I.ok.hd,I.ok.frames,.inl rfl,
   λb hb=>⟨?_,λx c e z=>?_⟩,I.bs,AL I.ok.bsz I.sz,λb o e hb=>?_,fpst,I.stack,I.stkFree⟩,
  rfl,I.bare,Un.kept hold,⟨_,hns,λi x v e1 e2 e3=>?_⟩,λx c e=>?_,I.hok.fresh (Bx _),λx c e=>I.freeC x c (hsub x c e),λp hp=>?_,I.hok.kept hold,?_⟩
 ·obtain ⟨o,e⟩:=hfo b hb
  exact AF (Bu (Ar e))
 ·exact (hf b hb).2.2.2.2.1 x c (hsub x c e) z
 ·obtain ⟨_,_,_,f3,_⟩:=hf b hb
  rcases f3 with f3|f3
  ·exact I.ok.noex b o e f3
  ·exact absurd (Az (Ar e) (AL I.ok.bsz f3)) (Bi _)
 ·have e1':(own++fv.map (·.2))[i]? = some x:=e1
  unfold st0 at e2
  by_cases hi:i<own.length
  ·rw [Aw (by simpa using hi),BW] at e2
   split at e2<;>cases e2
  ·rw [BK (by simpa using hi),List.length_replicate,Av] at e2
   rw [BK (by simpa using hi),Av] at e1'
   cases hp:fv[i-own.length]? with
   | none=>rw [hp] at e1';cases e1'
   | some p =>
    rw [hp] at e1' e2
    have ex:p.2=x:=AN e1'
    have ev:σ.getD p.1 none=some v:=AN e2
    obtain ⟨q1,q2,q3⟩:=L.fv.get hp
    rw [ex] at q1 q2 q3
    have hσ:σ[p.1]? = some (some v):=by
     rw [AM] at ev
     cases q:σ[p.1]? with
     | none=>rw [q] at ev;cases ev
     | some w=>rw [q] at ev;exact congrArg some ev
    obtain ⟨m,_,hl⟩:=I.loc
    obtain ⟨u,r,l⟩:=hl p.1 x v q1 hσ (by rcases q2 with z|z;exact .inr (.inl z);exact .inr (.inr z))
    refine ⟨u,r,.inr ⟨q3,?_⟩⟩
    rcases l with ⟨k,_⟩|⟨_,c,ec,z⟩
    ·exfalso
     have k':X.env.scope.names.lookup x=some .local:=k
     rcases q2 with z|z<;>rw [k'] at z<;>cases z
    ·obtain ⟨c',ec'⟩:=hhas (x,.free) (Lr L.cell q3) rfl
     have:c'=c:=AN ((hsub x c' ec').symm.trans ec)
     subst this
     obtain ⟨o,ho,hd⟩:=z
     exact ⟨c',ec',o,hold _ _ ho,hd⟩
 ·obtain ⟨v,o,ho,hd⟩:=I.cell x c (hsub x c e)
  exact ⟨v,o,hold _ _ ho,hd⟩
 ·have e:p=(s.heap.objs.size,o0):=by simpa [Dv] using hp
  subst e
  exact ⟨hD,I.hok.fresh (Al _),AF (Bj _),nst _ (Al _),nc0⟩
 ·show (st0 own.length fv σ).length=(own++fv.map (·.2)).length
  unfold st0
  simp
structure NI (α:Type) extends Acc α where
 cls:String
 d0:Data
 a0:α
 ao0:ao a0 { cls:=.type cls,dict:=none,data:=d0 }
 fin:α->Prop
 ho:Addr->α->HO
 sz:sizeOk d0
 fr:({ cls:=.type cls,dict:=none,data:=d0 }:Obj).isFreed=false
 lay:∀ (P:Program) (w:World) (H:Hp) (h:Heap) (D:Addr) (a:α) (o:Obj),ao a o->fin a->h.get? D=some o->sysModules<D->ObjOk P w (upd H D (ho D a)) h D (ho D a)
def tCo (wi:TI)(nc:Nat)(fv:List (Nat×Str))(B:NI α)(g:TG)(tt:TT)(tm:TM α):TE:=fun σ H Q=>wi σ H λJ H1=>CGo J g tt tm B.a0 (st0 nc fv σ) H1 λa _ H'=>B.fin a∧∀ p,H' p=none->Q (.ref p) (upd H' p (B.ho p a))
theorem My {e:Expr}{gens:List Comprehension}{g:Comprehension}{rest:List Comprehension}{own:List Str}{wi:TI}{B:NI α}{tg:TG}{tt:TT}{tm:TM α}{step:Addr->Addr->List (Str×Addr)->Sem Unit}{pos2:Pos}{newAcc:Sem Value}
  {pins:List (Addr×Obj)} {s:Shared} {σ:St} {H:Hp} {Q:VK} {use:Option (Value->Sem Unit)} {Qc:Value->Shared->Prop} (hc:IsC e gens) (hgens:gens=g::rest) (ha:g.is_async=0) (hnew:newAcc=newObj (.type B.cls) B.d0) (L:NH X scope fv) (hi:PI X g.target g.iter wi)
  (heq:∀ it cl C D,compTurn e 0 (.ref it) (.ref D) (compEnvC scope cl C X.env)=JP g (.ref it) (compEnvC scope cl C X.env) (step D C cl) (.compLoop e 0 (.ref it) (.ref D) (compEnvC scope cl C X.env)))
  (hg:∀ cl C s₁ H₁ fp,PG (Dv X scope (own++fv.map (·.2)) cl C s₁ H₁ fp) g.target tg)
  (ht:∀ cl C s₁ H₁ fp,PF (Dv X scope (own++fv.map (·.2)) cl C s₁ H₁ fp) g.ifs tt)
  (hm:∀ cl C s₁ H₁ fp D,DOk (Dv X scope (own++fv.map (·.2)) cl C s₁ H₁ fp) D->PM (Dv X scope (own++fv.map (·.2)) cl C s₁ H₁ fp) B.toAcc D (step D C cl) tm)
  (hs:∀ x,foldedSetIterable g.iter X.env x=pure x) (hb:∀ {s2:Shared} {H2:Hp},Inv X pins σ H2 s2->sysModules<s2.heap.objs.size) (I:Inv X pins σ H s) (h:tCo wi own.length fv B tg tt tm σ H Q)
  (fin:∀ (s6:Shared) (H':Hp) (D C:Addr) (m:Str->Option Value),Inv X pins σ H' s6->Lz X pins H' C->s6.heap.Ns C m->Q (.ref D) H'->compPost (model X.prog X.w) X.A X.xe use Qc (.ref D) C (.ok .next) s6) :
  wpAny (model X.prog X.w) X.A (comprehension e scope X.env pos2 newAcc false (eval g.iter X.env) use) Qc X.xe s:=by
 obtain ⟨cl,hclos,hsub,hhas⟩:=QU (scope:=scope) (env:=X.env) λy hy hf=>I.ok.has y.1 (L.free y hy hf)
 have hcl:clausesOf e=g::rest:=by subst hgens;cases hc<;>rfl
 refine wpAny_comprehension_free (use:=use) hcl hs hclos L.kind L.names (thn (hi pins s σ H _ I h) λv s1 h1=>thn h1 λitv s2 h2=>?_)
 obtain ⟨it,fp,tn,J,H2,e2,I2,T,st2,f2,w⟩:=h2
 subst e2
 have hfo:∀ b∈fp,∃ o,s2.heap.get? b=some o:=λb hb=>let ⟨o,e,_⟩:=T.obj _ _ st2 b hb;⟨o,e⟩
 rw [hnew]
 refine AW (hd:=B.sz) (wpAny_newFunctionEnv L.cell (by intro y hy;simp at hy) (λh₁ hns₁ hsb₁=>?_) L.kind)
 dsimp only at hns₁ hsb₁ ⊢
 have hCe:(s2.heap.push { cls:=.type B.cls,dict:=none,data:=B.d0 }).objs.size=s2.heap.objs.size+1:=BS _ _
 rw [hCe] at hns₁ hsb₁ ⊢
 have old:∀ b o,s2.heap.get? b=some o->h₁.get? b=some o:=λb o e=>hsb₁.extBut b o (AF (Bu (Ar e))) (Ae _ (Ae _ e))
 have hD₁:h₁.get? s2.heap.objs.size=some { cls:=.type B.cls,dict:=none,data:=B.d0 }:=hsb₁.extBut _ _ (AF (Bj _)) (Ae _ (Aq _ B.fr))
 have I4:=Pl (own:=own) (tk:=s2.toks+([]:List (Str×Value)).length) I2 L f2 hfo hsub hhas hns₁ old hD₁ (B.nc _ _ B.ao0)
 have st4:tn 0 h₁:=T.keep _ _ _ st2 λb _ o e=>old b o e
 have celllt:∀ x c,cl.lookup x=some c->c<s2.heap.objs.size:=λx c e=>by
  obtain ⟨v,z⟩:=I2.cell x c (hsub x c e)
  exact z.lt
 have nst:s2.heap.objs.size∉frs X.stack:=λhm=>by
  rcases Am.mp (I2.stkSub _ hm) with e|e
  ·exact absurd I2.lt (by rw [← e];exact Bi _)
  ·exact I2.nofs (Al _) e
 have dk:DOk (Dv X scope (own++fv.map (·.2)) cl (s2.heap.objs.size+1) s2 H2 fp) s2.heap.objs.size:=⟨Al _,AF (Bj _),nst,λx c e=>AF (celllt x c e),λp hp=>nomatch hp⟩
 have fpok:∀ b∈fp,Lz (Dv X scope (own++fv.map (·.2)) cl (s2.heap.objs.size+1) s2 H2 fp) [] H2 b:=λb hb=>by
  obtain ⟨o,eo⟩:=hfo b hb
  have blt:=Ar eo
  refine ⟨(f2 b hb).1,AF (Bu blt),λhm=>?_,.inl hb,λx c e=>(f2 b hb).2.2.2.2.1 x c (hsub x c e),λp hp=>?_⟩
  ·obtain ⟨_,f1,f3,_⟩:=f2 b hb
   rcases Am.mp (I2.stkSub b hm) with e|e
   ·exact f1 e
   ·exact f3 e
  ·have hp':p∈([]:List (Addr×Obj)):=by simpa [Dv] using hp
   cases hp'
 have fD:∀ b∈fp,s2.heap.objs.size≠b:=λb hb=>by
  obtain ⟨o,eo⟩:=hfo b hb
  exact Nat.ne_of_gt (Ar eo)
 have big:sysModules<s2.heap.objs.size:=hb I2
 have loop:=cgo (X:=Dv X scope (own++fv.map (·.2)) cl (s2.heap.objs.size+1) s2 H2 fp) (R:=compPost (model X.prog X.w) X.A X.xe use Qc (.ref s2.heap.objs.size) (s2.heap.objs.size+1)) (pins:=[]) hc L.calm rfl (heq it cl (s2.heap.objs.size+1) s2.heap.objs.size) (hg cl (s2.heap.objs.size+1) s2 H2 fp) (ht cl (s2.heap.objs.size+1) s2 H2 fp) (hm cl (s2.heap.objs.size+1) s2 H2 fp _ dk) T B.ao0 I4 st4 fpok fD (λp hp=>nomatch hp) w
  λs6 a6 o6 σ6 H6 ao6 I6 q6=>by
   obtain ⟨qf,qn⟩:=q6
   obtain ⟨m,hn,_⟩:=I6.loc
   obtain ⟨eD,nD,_⟩:=I6.pin (s2.heap.objs.size,o6) (Ax _ (Ag.mpr rfl))
   have nC:H6 (s2.heap.objs.size+1)=none:=I6.free
   have U:Un (frs X.stack) fp H2 H6 s2.heap s6.heap:=I6.base
   have ok6:HOk X.prog X.w H6 s6.heap:=I6.hok
   have J6:Inv X pins σ (upd H6 s2.heap.objs.size (B.ho s2.heap.objs.size a6)) s6:=I2.call' (s':=s6) I6.os (U.lay (Al _) nD) (ok6.lay nD (B.lay _ _ _ _ _ _ _ ao6 qf eD big)) I6.bare λb hb=>by
    obtain ⟨_,f1,_,f3,f4,f5⟩:=f2 b hb
    exact ⟨f3,f1,f4,f5⟩
   exact fin s6 _ _ _ m J6 (I2.fpOk (Bx _) (by rw [DE (Nat.ne_of_gt (Bj _))];exact nC)) hn (qn _ nD)
 exact X6 hc (by rw [hgens];rfl) ha loop (T.self _ 0 _ _ _ st4 loop)
end
noncomputable def R7:NI (List V) where
 ao:=λys o=>∃ its k,o={ cls:=.type "list",data:=.seq its k }∧Vals ys its.toList
 nc:=λa o h v z=>by obtain ⟨its,k,rfl,_⟩:=h;cases z
 cls:="list"
 d0:=.seq ([]:List Value).toArray
 a0:=[]
 ao0:=⟨#[],0,rfl,.nil⟩
 fin:=λys=>ys.length≤sizeLine
 ho:=λ_ ys=>.lst ys
 sz:=by size_fits
 fr:=rfl
 lay:=λP w H h D a o ao hf hD _=>by
  obtain ⟨its,k,rfl,r⟩:=ao
  exact ⟨hf,its.toList,k,r,by simpa using hD⟩
section
variable {X:Cx} {D:Addr}
theorem VR {elt:Expr}{te:TE}(dk:DOk X D)(he:PE X elt te):PM X R7.toAcc D (Q7 elt (.ref D) X.env) (λa σ H Q=>te σ H λv H'=>a.length≤sizeLine∧Q (a++[v]) σ H'):=by
 intro pins s σ H Q a o ao pD I h
 unfold Q7
 refine Aa (thn (he _ s σ H _ I h) λu s1 ⟨y,H1,I1,r1,hl,q1⟩=>?_)
 obtain ⟨its,k,rfl,r⟩:=ao
 obtain ⟨e1,n1,l1,f1,_⟩:=I1.pin (D,_) (Ax _ (Ax _ (Ag.mpr rfl)))
 have hz:its.size≤sizeLine:=by
  have e:=r.length
  simp only [Array.length_toList] at e
  ext
 refine Aa (wpAny_list_append_plain (hsz:=hz) ⟨k,e1⟩ λh' hl' sb=>Ac ?_)
 obtain ⟨k',hk'⟩:=hl'
 have I2:Inv X pins σ H1 { s1 with heap:=h' }:=(I1.pins_sub λp hp=>Bc _ hp).turned (t':=s1.toks) (it:=D) (λb o hb e=>(sb.2 b hb).trans e) n1 dk.nl (.inr dk.up) dk.cl λp hp=>by
  rcases Aj.mp hp with z|z
  ·exact dk.pn p z
  ·exact pD p z
 refine ⟨a++[y],_,σ,H1,⟨its.push u,k',rfl,?_⟩,I2.pins_of λp hp=>?_,q1⟩
 ·rw [Array.toList_push]
  exact r.append (.cons r1 .nil)
 ·rcases Aj.mp hp with z|z
  ·exact I2.pin p (Ax _ z)
  ·rw [Ag.mp z]
   exact ⟨hk',n1,l1,f1,λv z=>by cases z⟩
end
end L2
namespace PV
open PySem L2 PySem.Spec PyProof.Rows
abbrev EnV (x:Int×V×V) (e:DictEntry):Prop:=e.hash=x.1∧RelV x.2.1 e.key∧RelV x.2.2 e.val
def SN:NI (List (Int×V×V)) where
 ao:=λxs o=>∃ es ep,o={ cls:=.type "dict",data:=.dict es ep }∧Paired EnV xs es.toList
 nc:=λa o h v z=>by obtain ⟨es,ep,rfl,_⟩:=h;cases z
 cls:="dict"
 d0:=.dict #[]
 a0:=[]
 ao0:=⟨#[],0,rfl,.nil⟩
 fin:=λ_=>True
 ho:=λD xs=>HE D xs
 sz:=by size_fits
 fr:=rfl
 lay:=λP w H h D a o ao hf hD hb=>by
  obtain ⟨es,ep,rfl,r⟩:=ao
  exact Mw ⟨by simpa using Nat.ne_of_gt hb,_,es,ep,hD,⟨rfl,rfl,rfl⟩,rfl,r⟩
noncomputable def KI (k:D)(h:Int)(kv vv:V):List D->List (Int×V×V)->List (Int×V×V)
 | k'::ks,x::xs=>if k'=k then (x.1,x.2.1,vv)::xs else x::KI k h kv vv ks xs
 | _,xs=>xs++[(h,kv,vv)]
theorem HG {k:D}{h:Int}{kv vv:V}:∀ {ks:List D} {xs:List (Int×V×V)},k∉ks->ks.length=xs.length->KI k h kv vv ks xs=xs++[(h,kv,vv)]
 | [],_,_,_=>by unfold KI;rfl
 | _::_,[],_,e=>by simp at e
 | k'::ks,x::xs,n,e=>by
  rw [Am,not_or] at n
  rw [KI,if_neg (λz=>n.1 z.symm),HG n.2 (by simpa using e)]
  rfl
theorem JB {k:D}{h:Int}{kv vv:V}:∀ {ks:List D} {xs:List (Int×V×V)} {j:Nat} (hj:j<xs.length),ks.Nodup->ks[j]? = some k->KI k h kv vv ks xs=xs.set j (xs[j].1,xs[j].2.1,vv)
 | [],_,_,_,_,e=>by simp at e
 | _::_,[],_,hj,_,_=>by simp at hj
 | k'::ks,x::xs,0,hj,n,e=>by simp at e;subst e;simp [KI]
 | k'::ks,x::xs,j+1,hj,n,e=>by
  rw [Bf] at n
  simp at e
  have:k'≠k:=λz=>n.1 (by rw [z];exact Ap e)
  rw [KI,if_neg this,JB (by simpa using hj) n.2 e]
  rfl
section
variable {X:Cx} {D:Addr} {th:List Addr} {mu:Sto} {H:Hp}
theorem V4 (hu:X.A.units+64<cLine){kx vx:Expr}{tk tv:TE}(dk:DOk X D)(hk:PE X kx tk)(hv:PE X vx tv):PM X SN.toAcc D (Ra kx vx D X.env) (λa σ H Q=>tk σ H λkv H1=>tv σ H1 λvv H2 =>
  ∃ th ks k,RepL X.z th H2 ks (a.map (·.2.1))∧a.map (·.1)=Fb X.w ks∧KeysOk ks∧EO k=true∧Rep X.z th H2 k kv∧ks.length<sizeLine∧Q (KI k (D0 X.w k) kv vv ks a) σ H2):=by
 intro pins s σ H Q a o ao pD I h
 unfold Ra
 refine Aa (thn (hk _ s σ H _ I h) λu s1 ⟨kv,H1,I1,ru,q1⟩=>Aa (AI (thn (hv _ s1 σ H1 _ I1 q1) λr s2 ⟨vv,H2,I2,rr,q2⟩=>Aa (wpAny_standAt (AI ?_)))))
 obtain ⟨th,ks,k,rk,ehs,kok,hasK',rkv,lt,q⟩:=q2
 obtain ⟨es,ep,rfl,pr⟩:=ao
 obtain ⟨g1,n1,l1,f1,_⟩:=I2.pin (D,_) (Ax _ (Ax _ (Ag.mpr rfl)))
 dsimp only at g1 n1 l1 f1
 have hd:=JH I2 hasK' rkv ru
 have xl:a.length=ks.length:=by have:=rk.len;simpa using this
 have en:Paired (EnK X.w s2.heap) ks es.toList:=by
  refine J8 (by rw [← DH pr,xl]) λj k e e1 e2=>?_
  obtain ⟨x,y1,y2,y3,y4⟩:=(D7 pr j).2 e e2
  have hh:(a.map (·.1))[j]? = (Fb X.w ks)[j]?:=by rw [ehs]
  rw [EX,Av,Av,y1,e1] at hh
  obtain ⟨v,v1,v2⟩:=rk.get e1
  rw [Av,y1] at v1
  have v1':x.2.1=v:=by simpa using v1
  exact ⟨by rw [y2];simpa using hh,JH I2 (kok.ok k (Ap e1)) v2 (by rw [← v1'];exact y3)⟩
 have g3:({ cls:=.type "dict",data:=.dict es ep }:Obj).data=.dict es ep:=rfl
 have fin:∀ {h':Heap} {tk':Nat} {es':Array DictEntry} {ep':Nat},Heap.SameBut D s2.heap h'->h'.get? D=some { cls:=.type "dict",data:=.dict es' ep' }->Paired EnV (KI k (D0 X.w k) kv vv ks a) es'.toList ->
   ∃ a' o' σ' H',SN.ao a' o'∧L2.Inv X (pins++[(D,o')]) σ' H' { s2 with heap:=h',toks:=tk' }∧Q a' σ' H':=λ{h' tk' es' ep'} sb hD pr'=>by
  have I3:L2.Inv X pins σ H2 { s2 with heap:=h',toks:=tk' }:=(I2.pins_sub λp hp=>Bc _ hp).turned (t':=tk') (it:=D) (λb o hb e=>(sb.2 b hb).trans e) n1 dk.nl (.inr dk.up) dk.cl λp hp=>by
   rcases Aj.mp hp with z|z
   ·exact dk.pn p z
   ·exact pD p z
  refine ⟨_,_,σ,H2,⟨es',ep',rfl,pr'⟩,I3.pins_of λp hp=>?_,q⟩
  rcases Aj.mp hp with z|z
  ·exact I3.pin p (Ax _ z)
  ·rw [Ag.mp z]
   exact ⟨hD,n1,l1,f1,λv z=>by cases z⟩
 unfold dictSet
 have hu8:X.A.units+8<cLine:=by ext
 refine AI (Aa (hd.hash hu8 λtk=>?_))
 unfold dictSetHashed
 refine AI (Aa (Ml (s:={ s2 with toks:=tk }) hu8 hd g1 g3 en kok.nd (λz=>?_) λj ej=>?_))
 ·have hz0:es.size≤sizeLine:=by rw [← Array.length_toList,← DH en];ext
  refine Aa (Bo (wpAny_updateDictKeys (s:={ s2 with toks:=tk }) g1 g3 (hz:=hz0) ?_))
  have so1:=AR (Obj.mapDictKeys (·.push ⟨D0 X.w k,u,r⟩)) g1 (B0 (Obj.data_mapDictKeys g3 _))
  refine fin (es':=es.push ⟨D0 X.w k,u,r⟩) (ep':=ep+1) (Ay ..) so1 ?_
  rw [HG z xl.symm,Array.toList_push]
  exact Hv pr (.cons ⟨rfl,ru,rr⟩ .nil)
 ·have hj:j<a.length:=by
   have:=(Ah.mp ej).1
   ext
  have hje:j<es.size:=by rw [← Array.length_toList,← DH pr];exact hj
  obtain ⟨y,y1,y2,y3,y4⟩:=(D7 pr j).1 a[j] (Au hj)
  rw [AA] at y1
  refine Aa (Bo (Aa (wpAny_updateDict (s:={ s2 with toks:=tk }) g1 g3 (wpAny_point ?_))))
  have so1:=AR (Obj.mapDict (·.modify j λe=>{ e with val:=r })) g1 (B0 (Obj.data_mapDict g3 _))
  refine fin (es':=es.modify j λe=>{ e with val:=r }) (ep':=ep) (Ay ..) so1 ?_
  have em:(es.modify j λe=>{ e with val:=r }).toList=es.toList.set j { y with val:=r }:=by
   have yl:es.toList[j]? = some y:=by rw [AA];exact y1
   rw [Array.toList_modify]
   refine A7 λi=>?_
   rw [List.getElem?_modify]
   by_cases c:j=i
   ·subst c
    rw [yl,Bn (by simpa using hje)]
    simp
   ·rw [AB c]
    simp [c]
  rw [em,JB hj kok.nd ej]
  exact Jg j pr ⟨y2,y3,rr⟩
end
abbrev Mx (β:Type):=β->Ro->Sto->Rs β
noncomputable def cGo {β:Type}(g:Option Nat)(m0:Sto)(tg:Gx)(tt:Tx)(st:Mx β)(ro:Ro):List D->β->Sto->Rs β
 | [],b,mu=>some (b,mu)
 | d::ds,b,mu=>bM (tg d ro mu) λro1 m1=>bM (tt ro1 m1) λc m2 =>
  if c=true then bM (st b ro1 m2) λb' m3=>D9 g m0 m3 (cGo g m0 tg tt st ro ds b' m3) else D9 g m0 m2 (cGo g m0 tg tt st ro ds b m2)
def stL (el:Ex):Mx (List D):=λb ro mu=>bM (el ro mu) λy m=>if b.length<sizeLine then some (b++[y],m) else none
def stD (kx vx:Ex):Mx (List D×List D):=λp ro mu=>bM (kx ro mu) λk m1=>bM (vx ro m1) λv m2=>if EO k=true∧p.1.length<sizeLine then some (EF k v p.1 p.2,m2) else none
def eCo {β:Type}(i:Ix)(nc:Nat)(fvs:List Nat)(tg:Gx)(tt:Tx)(st:Mx β)(b0:β)(fin:β->Sto->D×Sto):Ex:=λro mu=>bM (i ro mu) λp m1=>bM (cGo p.2 m1 tg tt st (r0 nc fvs ro) p.1 b0 m1) λb m2=>some (fin b m2)
noncomputable def Abv (b:List D)(mu:Sto):D×Sto:=(.lst b,mu)
noncomputable def Q2 (b:List D×List D)(mu:Sto):D×Sto:=(.ref mu.length,mu++[.dct b.1 b.2])
def GOw (lo hi:Nat)(tg:Gx):Prop:=∀ d ro mu ro' mu',tg d ro mu=some (ro',mu')->ro'.length=ro.length∧∀ i,i<lo∨hi≤i->ro'[i]? = ro[i]?
theorem PJ {lo hi i:Nat}(h1:lo≤i:=by decide)(h:i<hi:=by decide):GOw lo hi (gNm i):=λd ro mu ro' mu' e=>by
 cases e
 exact ⟨by simp,λj hj=>AB (by ext)⟩
def rdM (K:Zc){α β:Type}(rp:List Addr->Hp->β->α->Prop)(ok:Ro->Prop)(st:Mx β):TM α:=λa σ H Q=>∃ th mu ro b,StoOk K th mu H∧EnvOk K th H ro σ∧ok ro∧rp th H b a ∧
 Tr K th H (st b ro mu) λb' th' _ H'=>∀ a' σ',EnvOk K th' H' ro σ'->rp th' H' b' a'->Q a' σ' H'
def RpX {α β:Type}(rp:List Addr->Hp->β->α->Prop):Prop:=∀ {th:List Addr} {H:Hp} {th':List Addr} {H':Hp} {b:β} {a:α},Ext th H th' H'->JY th H->rp th H b a->rp th' H' b a
def rpL (K:Zc)(th:List Addr)(H:Hp)(zs:List D)(ys:List V):Prop:=RepL K th H zs ys∧zs.length≤sizeLine
def rpD (K:Zc)(th:List Addr)(H:Hp)(p:List D×List D)(xs:List (Int×V×V)):Prop:=xs.map (·.1)=Fb K.w p.1∧RepL K th H p.1 (xs.map (·.2.1))∧RepL K th H p.2 (xs.map (·.2.2))∧KeysOk p.1
section
variable {X:Cx} {K:Zc} {th:List Addr} {mu:Sto} {H:Hp} {α β:Type} {rp:List Addr->Hp->β->α->Prop} {ok:Ro->Prop} {st:Mx β} {tg:Gx} {tt:Tx}
theorem Xl:RpX (rpL K):=λe t ⟨h1,h2⟩=>⟨h1.ext e t,h2⟩
theorem AaR:RpX (rpD K):=λe t ⟨h1,h2,h3,h4⟩=>⟨h1,h2.ext e t,h3.ext e t,h4⟩
theorem T8 {lo hi:Nat}(ow:GOw lo hi tg)(rx:RpX rp){ro:Ro}(hro:∀ i d,ro[i]? = some (some d)->i<lo∨hi≤i)(hok:∀ d mu ro' mu',tg d ro mu=some (ro',mu')->ok ro'){J:It}{ds:List D}{gd:Option Nat}{a:α}{b:β}{σ:L2.St}{Q:α->L2.St->Hp->Prop}
  (io:R4 K J th mu H ds gd) (so:StoOk K th mu H) (en:EnvOk K th H ro σ) (r:rp th H b a) (t:Tr K th H (cGo gd mu tg tt st ro ds b mu) λb' th' _ H'=>∀ a' σ',EnvOk K th' H' ro σ'->rp th' H' b' a'->Q a' σ' H') :
  CGo J (rdG K tg) (rdT K tt) (rdM K rp ok st) a σ H Q:=by
 refine ⟨λk n a' σ' H'=>n=ds.length-k∧k≤ds.length∧∃ th' mu' b',StoOk K th' mu' H'∧EnvOk K th' H' ro σ'∧Ext th H th' H'∧gOk gd mu mu'∧rp th' H' b' a' ∧
  Tr K th' H' (cGo gd mu tg tt st ro (ds.drop k) b' mu') λb' th' _ H'=>∀ a' σ',EnvOk K th' H' ro σ'->rp th' H' b' a'->Q a' σ' H',⟨_,rfl,A0 _,th,mu,b,so,en,.refl _ _,?_,r,t⟩,?_⟩
 ·cases gd with
  | none=>exact True.intro
  | some k=>exact rfl
 rintro k n a2 st2 H2 ⟨rfl,hk,th2,mu2,b2,s2,en2,e2,g2,r2,t2⟩
 by_cases lt:k<ds.length
 ·refine .inr ?_
  have ek:ds[k]? = some ds[k]:=by simp
  obtain ⟨a1,a3⟩:=io.go th2 mu2 H2 e2 s2 g2 k ds[k] ek
  refine ⟨a1,λx H3 y=>?_⟩
  obtain ⟨e3,s3,r3⟩:=a3 x H3 y
  rw [List.drop_eq_getElem_cons lt] at t2
  unfold cGo at t2
  refine ⟨th2,mu2,ro,ds[k],s3,en2.ext e3 s2.out,r3,?_⟩
  refine (t2.ahead e3).bindE.mono λro1 th4 mu4 H4 e4 s4 t4 st4 en4=>?_
  obtain ⟨eq4,t4⟩:=t4
  obtain ⟨ol,ow'⟩:=ow _ _ _ _ _ eq4
  have back:∀ {th' H' σ'},EnvOk K th' H' ro1 σ'->EnvOk K th' H' ro σ':=λ{th' H' σ'} en'=>by
   refine ⟨by rw [← ol];exact en'.1,λi d e=>?_⟩
   exact en'.2 i d (by rw [ow' i (hro i d e)];exact e)
  refine ⟨th4,mu4,ro1,s4,en4,t4.bind.mono λc th5 mu5 H5 e5 s5 t5=>?_⟩
  have e14:Ext th H th5 H5:=((e2.trans e3).trans e4).trans e5
  have r5:rp th5 H5 b2 a2:=rx ((e3.trans e4).trans e5) s2.out r2
  cases c with
  | false =>
   obtain ⟨a,mu',q1,q2⟩:=t5
   obtain ⟨go5,q1⟩:=GU q1
   exact ⟨ds.length-(k+1),by ext,rfl,lt,th5,mu5,b2,s5,back (en4.ext e5 s4.out),e14,go5,r5,a,mu',q1,q2⟩
  | true =>
   refine ⟨th5,mu5,ro1,b2,s5,en4.ext e5 s4.out,hok _ _ _ _ eq4,r5,Tr.mono (Tr.bind t5) λb6 th6 mu6 H6 e6 s6 t6 a6 σ6 en6 r6=>?_⟩
   obtain ⟨a,mu',q1,q2⟩:=t6
   obtain ⟨go6,q1⟩:=GU q1
   exact ⟨ds.length-(k+1),by ext,rfl,lt,th6,mu6,b6,s6,back en6,e14.trans e6,go6,r6,a,mu',q1,q2⟩
 ·have e:k=ds.length:=by ext
  subst e
  rw [List.drop_length] at t2
  unfold cGo at t2
  exact .inl ⟨io.stop th2 mu2 H2 e2 s2 g2,t2.ret s2 a2 st2 en2 r2⟩
theorem YR {el:Ex}{a:List V}{σ:L2.St}{Q:List V->L2.St->Hp->Prop}(h:rdM K (rpL K) ok (stL el) a σ H Q):rdE K el σ H λv H'=>a.length≤sizeLine∧Q (a++[v]) σ H':=by
 obtain ⟨th,mu,ro,b,so,en,_,⟨r,hz⟩,t⟩:=h
 refine ⟨th,mu,ro,so,en,t.bind.mono λy th1 mu1 H1 e1 s1 t1 v rv=>?_⟩
 by_cases c:b.length<sizeLine
 ·rw [if_pos c] at t1
  exact ⟨by rw [r.len];exact hz,t1.ret s1 _ _ (en.ext e1 so.out) ⟨(r.ext e1 so.out).app (.cons rv .nil),by rw [Ai];exact c⟩⟩
 ·rw [if_neg c] at t1
  exact t1.no.elim
theorem YC {kx vx:Ex}{a:List (Int×V×V)}{σ:L2.St}{Q:List (Int×V×V)->L2.St->Hp->Prop}(h:rdM X.z (rpD X.z) ok (stD kx vx) a σ H Q):rdE X.z kx σ H λkv H1=>rdE X.z vx σ H1 λvv H2 =>
  ∃ th ks k,RepL X.z th H2 ks (a.map (·.2.1))∧a.map (·.1)=Fb X.w ks∧KeysOk ks∧EO k=true∧Rep X.z th H2 k kv∧ks.length<sizeLine∧Q (KI k (D0 X.w k) kv vv ks a) σ H2:=by
 obtain ⟨th,mu,ro,⟨ks,vs⟩,so,en,_,⟨r1,r2,r3,r4⟩,t⟩:=h
 dsimp only at r1 r2 r3 r4
 refine ⟨th,mu,ro,so,en,t.bind.mono λk th1 mu1 H1 e1 s1 t1 kv rk=>?_⟩
 refine ⟨th1,mu1,ro,s1,en.ext e1 so.out,t1.bind.mono λv th2 mu2 H2 e2 s2 t2 vv rv=>?_⟩
 by_cases c:EO k=true∧ks.length<sizeLine
 ·rw [if_pos c] at t2
  have e12:=e1.trans e2
  have k2:=r2.ext e12 so.out
  have v2:=r3.ext e12 so.out
  have xl:ks.length=a.length:=by have:=r2.len;simpa using this.symm
  have rk2:=rk.ext e2 s1.out
  refine ⟨th2,ks,k,k2,r1,r4,c.1,rk2,c.2,t2.ret s2 _ _ (en.ext e12 so.out) ?_⟩
  by_cases z:k∈ks
  ·obtain ⟨j,ej⟩:=AS.mp z
   have hj:j<a.length:=by rw [← xl];exact (Ah.mp ej).1
   rw [JB hj r4.nd ej]
   unfold EF
   rw [if_pos z,LR r4.nd ej]
   refine ⟨?_,?_,?_,r4⟩
   ·show List.map _ _=Fb X.w ks
    rw [← r1,List.map_set]
    refine A7 λi=>?_
    by_cases ci:j=i
    ·subst ci;simp [hj]
    ·rw [AB ci]
   ·show RepL X.z th2 H2 ks _
    have:(List.map (λx=>x.2.1) (a.set j (a[j].1,a[j].2.1,vv)))=a.map (·.2.1):=by
     rw [List.map_set]
     refine A7 λi=>?_
     by_cases ci:j=i
     ·subst ci;simp [hj]
     ·rw [AB ci]
    rw [this]
    exact k2
   ·rw [List.map_set]
    exact v2.setAt j rv
  ·rw [HG z xl]
   unfold EF
   rw [if_neg z]
   refine ⟨?_,?_,?_,?_⟩
   ·rw [AK,r1,EX,EX,AK];rfl
   ·rw [AK];exact k2.app (.cons rk2 .nil)
   ·rw [AK];exact v2.app (.cons rv .nil)
   ·refine ⟨by rw [Ai];exact c.2,?_,λk' hk'=>?_⟩
    ·refine Bb.mpr ⟨r4.nd,by simp,λx hx y hy=>?_⟩
     rw [Ag.mp hy]
     exact λe=>z (e▸hx)
    ·rcases Aj.mp hk' with w'|w'
     ·exact r4.ok k' w'
     ·rw [Ag.mp w'];exact c.1
 ·rw [if_neg c] at t2
  exact t2.no.elim
def Ma (K:Zc)(B:NI α)(rp:List Addr->Hp->β->α->Prop)(fin:β->Sto->D×Sto):Prop:=∀ {th:List Addr} {mu:Sto} {H:Hp} {b:β} {a:α},StoOk K th mu H->rp th H b a->B.fin a∧∀ p,H p=none ->
 ∃ th',Ext th H th' (upd H p (B.ho p a))∧StoOk K th' (fin b mu).2 (upd H p (B.ho p a))∧Rep K th' (upd H p (B.ho p a)) (fin b mu).1 (.ref p)
theorem Va:Ma K R7 (rpL K) Abv:=λ{th mu H b a} so ⟨r,hz⟩=>⟨by show a.length≤sizeLine;rw [r.len];exact hz,λp hp=>⟨th,.new hp _,so.new hp _,Rep.newLst so hp r hz⟩⟩
theorem YX:Ma K SN (rpD K) Q2:=λ{th mu H b a} so ⟨r1,r2,r3,r4⟩=>⟨True.intro,λp hp=>by
 have ex:Ext th H (th++[p]) (upd H p (SN.ho p a)):=.newM hp _
 refine ⟨th++[p],ex,so.newG hp _ _ ⟨a,Ey,r1,r2.ext ex so.out,r3.ext ex so.out,r4⟩,?_⟩
 unfold Q2
 dsimp only
 unfold Rep
 exact ⟨p,rfl,by rw [← so.len];simp⟩⟩
theorem AbC {i:Ix}{nc hi:Nat}{fv:List (Nat×Str)}{B:NI α}{b0:β}{fin:β->Sto->D×Sto}{σ:L2.St}{Q:VK}(hn:hi≤nc)(ow:GOw 0 hi tg)(rx:RpX rp)(f:Ma K B rp fin)(r00:∀ th H,rp th H b0 B.a0)
  (hok:∀ ro d mu ro' mu',(∀ i,i<nc->∀ d,ro[i]?≠some (some d))->tg d ro mu=some (ro',mu')->ok ro')
  (h:rdE K (eCo i nc (fv.map (·.1)) tg tt st b0 fin) σ H Q):tCo (rdI K i) nc fv B (rdG K tg) (rdT K tt) (rdM K rp ok st) σ H Q:=by
 obtain ⟨th,mu,ro,so,en,t⟩:=h
 refine ⟨th,mu,ro,so,en,t.bind.mono λp th1 mu1 H1 e1 s1 t1 J io=>?_⟩
 have hno:∀ i,i<nc->∀ d,(r0 nc (fv.map (·.1)) ro)[i]?≠some (some d):=λi hi d e=>absurd (Mf e) (Nat.not_le.mpr hi)
 refine T8 (rp:=rp) ow rx (λi d e=>.inr (AL hn (Mf e))) (λd mu ro' mu' e=>hok _ d mu ro' mu' hno e) io s1 (Py (en.ext e1 so.out)) (r00 _ _) (t1.bind.mono λb th2 mu2 H2 e2 s2 t2 a2 σ2 en2 r2=>?_)
 obtain ⟨f1,f2⟩:=f s2 r2
 refine ⟨f1,λq hq=>?_⟩
 obtain ⟨th3,x3,s3,r3⟩:=f2 q hq
 exact t2.retX x3 s3 _ r3
end
section
variable {X:Cx} {α β:Type} {scope:Scope} {e:Expr} {gens rest:List Comprehension} {g:Comprehension} {newAcc:Sem Value} {pos2:Pos} {B:NI α} {rp:List Addr->Hp->β->α->Prop} {ok:Ro->Prop} {st:Mx β} {tg:Gx} {tt:Tx} {b0:β} {fin:β->Sto->D×Sto} {i:Ix} {step:Addr->Addr->List (Str×Addr)->Sem Unit}
theorem PM.weak {K:Acc α}{D:Addr}{m:Sem Unit}{t t':TM α}(h:PM X K D m t)(f:∀ a σ H Q,t' a σ H Q->t a σ H Q):PM X K D m t':=λpins s σ H Q a o ao pD I q=>h pins s σ H Q a o ao pD I (f a σ H Q q)
structure Um (X:Cx) (scope:Scope) (own:List Str) (fv:List (Nat×Str)) (e:Expr) (gens:List Comprehension) (g:Comprehension) (rest:List Comprehension) (newAcc:Sem Value) (B:NI α) (rp:List Addr->Hp->β->α->Prop) (ok:Ro->Prop) (st:Mx β) (tg:Gx) (tt:Tx) (b0:β) (fin:β->Sto->D×Sto) (i:Ix)
  (step:Addr->Addr->List (Str×Addr)->Sem Unit):Prop where
 hc:IsC e gens
 hgens:gens=g::rest
 ha:g.is_async=0
 hnew:newAcc=newObj (.type B.cls) B.d0
 L:NH X scope fv
 hi:SVI X g.target g.iter i
 ow:GOw 0 own.length tg
 rx:RpX rp
 f:Ma X.z B rp fin
 r00:∀ th H,rp th H b0 B.a0
 hok:∀ ro d mu ro' mu',(∀ i,i<own.length->∀ d,ro[i]?≠some (some d))->tg d ro mu=some (ro',mu')->ok ro'
 heq:∀ it cl C D,compTurn e 0 (.ref it) (.ref D) (compEnvC scope cl C X.env)=JP g (.ref it) (compEnvC scope cl C X.env) (step D C cl) (.compLoop e 0 (.ref it) (.ref D) (compEnvC scope cl C X.env))
 hg:∀ cl C s₁ H₁ fp,SVG (Dv X scope (own++fv.map (·.2)) cl C s₁ H₁ fp) g.target tg
 ht:∀ cl C s₁ H₁ fp,SVF (Dv X scope (own++fv.map (·.2)) cl C s₁ H₁ fp) g.ifs tt
 hm:∀ cl C s₁ H₁ fp D,DOk (Dv X scope (own++fv.map (·.2)) cl C s₁ H₁ fp) D->PM (Dv X scope (own++fv.map (·.2)) cl C s₁ H₁ fp) B.toAcc D (step D C cl) (rdM X.z rp ok st)
 hs:∀ x,foldedSetIterable g.iter X.env x=pure x
theorem AaX (own:List Str)(fv:List (Nat×Str))(c:Um X scope own fv e gens g rest newAcc B rp ok st tg tt b0 fin i step)(hev:eval e X.env=comprehension e scope X.env pos2 newAcc false (eval g.iter X.env)):SV X e (eCo i own.length (fv.map (·.1)) tg tt st b0 fin):=⟨λpins s σ H Q I h=>by
 rw [hev]
 refine My (own:=own) (fv:=fv) (B:=B) (tg:=rdG X.z tg) (tt:=rdT X.z tt) (tm:=rdM X.z rp ok st) (step:=step) (wi:=rdI X.z i) (Q:=Q) c.hc c.hgens c.ha c.hnew c.L c.hi.r c.heq (λcl C s₁ H₁ fp=>(c.hg cl C s₁ H₁ fp).r) (λcl C s₁ H₁ fp=>(c.ht cl C s₁ H₁ fp).r) c.hm c.hs (λI=>JZ I) I
  (AbC (rp:=rp) (Al _) c.ow c.rx c.f c.r00 c.hok h) λs6 H' D C m J6 fC nsC q=>?_
 exact ⟨m,nsC,λh' sb=>⟨.ref D,H',J6.turnedL (ch:=[C]) (t':=s6.toks) (KP sb) (λb hb=>by rw [Ag.mp hb];exact fC),rfl,q⟩⟩⟩
end
section
variable {X:Cx} {scope:Scope} {t1 i1 t2 i2 kx vx elt:Expr} {f1 f2:List Expr} {pos:Pos} {i j:Ix} {g g2:Gx} {tt tt2:Tx} {el kk vv:Ex} {fin:List D×List D->Sto->D×Sto}
theorem Aal (hu:X.A.units+64<cLine)(hf:Ma X.z SN (rpD X.z) fin)(own:List Str)(fv:List (Nat×Str))(L:NH X scope fv)(hi:SVI X t1 i1 i)(ow:GOw 0 own.length g)
  (hg:∀ cl C s₁ H₁ fp,SVG (Dv X scope (own++fv.map (·.2)) cl C s₁ H₁ fp) t1 g)
  (ht:∀ cl C s₁ H₁ fp,SVF (Dv X scope (own++fv.map (·.2)) cl C s₁ H₁ fp) f1 tt)
  (hk:∀ cl C s₁ H₁ fp,SV (Dv X scope (own++fv.map (·.2)) cl C s₁ H₁ fp) kx kk)
  (hv:∀ cl C s₁ H₁ fp,SV (Dv X scope (own++fv.map (·.2)) cl C s₁ H₁ fp) vx vv)
  (hs:∀ x,foldedSetIterable i1 X.env x=pure x:=by intro _;rfl) :
  Um X scope own fv (.DictComp kx vx [⟨t1,i1,f1,0⟩] scope pos) [⟨t1,i1,f1,0⟩] ⟨t1,i1,f1,0⟩ [] newDict SN (rpD X.z) (λ_=>True) (stD kk vv) g tt ([],[]) fin i (λD C cl=>Ra kx vx D (compEnvC scope cl C X.env)) where
 hc:=.d
 hgens:=rfl
 ha:=rfl
 hnew:=rfl
 L:=L
 hi:=hi
 ow:=ow
 rx:=AaR
 f:=hf
 r00:=λ_ _=>⟨rfl,.nil,.nil,.nil⟩
 hok:=λ_ _ _ _ _ _ _=>True.intro
 heq:=λ_ _ _ _=>Xa
 hg:=hg
 ht:=ht
 hm:=λcl C s₁ H₁ fp D dk=>PM.weak (V4 (X:=Dv X scope (own++fv.map (·.2)) cl C s₁ H₁ fp) hu dk (hk cl C s₁ H₁ fp).r (hv cl C s₁ H₁ fp).r) λa σ H Q h=>YC (X:=Dv X scope (own++fv.map (·.2)) cl C s₁ H₁ fp) h
 hs:=hs
end
theorem Nz:entryFor table "dict.update.loop"=some Builtin.«dict.update.loop»:=entryFor_of_tree (by kernel_rfl)
theorem Jw:plainId "dict.update.loop"=true:=by symm
theorem MT {α β:Type}{F G:α->β->Prop}:∀ {xs:List α} {ys:List β},Paired F xs ys->(∀ x y,F x y->G x y)->Paired G xs ys
 | _,_,.nil,_=>.nil
 | _,_,.cons r t,f=>.cons (f _ _ r) (MT t f)
theorem Hd.keep {h h':Heap}{d:D}{u:Value}(x:Hd h d u)(k:∀ b o,h.get? b=some o->h'.get? b=some o):Hd h' d u:=by
 obtain ⟨a,b,as,c⟩:=x
 exact ⟨a,b,as,Reads.keeps k c⟩
def Zu (w:World)(k:D)(u r:Value)(ks:List D)(es es':List DictEntry):Prop:=(k∉ks∧es'=es++[⟨D0 w k,u,r⟩])∨∃ (j:Nat) (e:DictEntry),ks[j]? = some k∧es[j]? = some e∧es'=es.set j { e with val:=r }
theorem Ww {w:World}{h:Heap}{k:D}{u r:Value}{ks:List D}{es es':List DictEntry}(x:Hd h k u)(en:Paired (EnK w h) ks es)(p:Zu w k u r ks es es')(v:D)(ds:List D):Paired (EnK w h) (EF k v ks ds).1 es':=by
 unfold EF
 rcases p with ⟨n,rfl⟩|⟨j,e,ej,ee,rfl⟩
 ·rw [if_neg n];exact Hv en (.cons ⟨rfl,x⟩ .nil)
 ·rw [if_pos (Ap ej)]
  obtain ⟨e2,e3,e4⟩:=(D7 en j).1 k ej
  rw [ee] at e3
  cases e3
  have:=Jg j en (x:=k) (y:={ e with val:=r }) ⟨e4.1,e4.2⟩
  have hs:ks.set j k=ks:=by
   refine A7 λi=>?_
   by_cases c:j=i
   ·subst c;rw [Bn (Ah.mp ej).1,ej]
   ·rw [AB c]
  rw [hs] at this
  exact this
theorem Wv {w:World}{k:D}{u r:Value}{kv vv:V}{ks:List D}{xs:List (Int×V×V)}{es es':List DictEntry}(nd:ks.Nodup)(l:ks.length=xs.length)(pr:Paired EnV xs es)(ru:RelV kv u)(rr:RelV vv r)(p:Zu w k u r ks es es'):Paired EnV (KI k (D0 w k) kv vv ks xs) es':=by
 rcases p with ⟨n,rfl⟩|⟨j,e,ej,ee,rfl⟩
 ·rw [HG n l];exact Hv pr (.cons ⟨rfl,ru,rr⟩ .nil)
 ·have hj:j<xs.length:=by rw [← l];exact (Ah.mp ej).1
  rw [JB hj nd ej]
  obtain ⟨y,y1,y2,y3,y4⟩:=(D7 pr j).1 xs[j] (Au hj)
  rw [ee] at y1
  cases y1
  exact Jg j pr ⟨y2,y3,rr⟩
noncomputable abbrev dOb (es:Array DictEntry) (ep:Nat):Obj:={ cls:=.type "dict",data:=.dict es ep }
section
variable {prog:Program} {w:World} {A:Around} {E:Value->Shared->Prop} {s:Shared}
theorem Acb {D':Addr}{es:Array DictEntry}{ep:Nat}{ks:List D}{k:D}{u r:Value}{Q:Unit->Shared->Prop}(hu:A.units+8<cLine)(hd:Hd s.heap k u)(g1:s.heap.get? D'=some (dOb es ep))(en:Paired (EnK w s.heap) ks es.toList)(nd:ks.Nodup)(lt:ks.length<sizeLine)
  (q:∀ h' tk es' ep',Heap.SameBut D' s.heap h'->h'.get? D'=some (dOb es' ep')->Zu w k u r ks es.toList es'.toList->Q () { s with heap:=h',toks:=tk }):wpAny (model prog w) A (dictSet D' u r) Q E s:=by
 have g3:(dOb es ep).data=.dict es ep:=rfl
 unfold dictSet
 refine AI (Aa (hd.hash hu λtk=>?_))
 unfold dictSetHashed
 refine AI (Aa (Ml (s:={ s with toks:=tk }) hu hd g1 g3 en nd (λz=>?_) λj ej=>?_))
 ·have hz0:es.size≤sizeLine:=by rw [← Array.length_toList,← DH en];ext
  refine Aa (Bo (wpAny_updateDictKeys (s:={ s with toks:=tk }) g1 g3 (hz:=hz0) ?_))
  have so1:=AR (Obj.mapDictKeys (·.push ⟨D0 w k,u,r⟩)) g1 (B0 (Obj.data_mapDictKeys g3 _))
  refine q _ _ (es.push ⟨D0 w k,u,r⟩) (ep+1) (Ay ..) so1 (.inl ⟨z,by rw [Array.toList_push]⟩)
 ·have hje:j<es.size:=by rw [← Array.length_toList,← DH en];exact (Ah.mp ej).1
  refine Aa (Bo (Aa (wpAny_updateDict (s:={ s with toks:=tk }) g1 g3 (wpAny_point ?_))))
  have so1:=AR (Obj.mapDict (·.modify j λe=>{ e with val:=r })) g1 (B0 (Obj.data_mapDict g3 _))
  refine q _ _ (es.modify j λe=>{ e with val:=r }) ep (Ay ..) so1 (.inr ⟨j,es[j],ej,by rw [AA,AH hje],?_⟩)
  rw [Array.toList_modify]
  refine A7 λi=>?_
  rw [List.getElem?_modify]
  by_cases c:j=i
  ·subst c
   rw [Bn (by simpa using hje)]
   simp [hje]
  ·rw [AB c]
   simp [c]
def PrV (h:Heap)(x:D×V×V)(u:Value):Prop:=∃ p ku vu,u=.ref p∧h.IsTuple p #[ku,vu]∧Hd h x.1 ku∧RelV x.2.1 ku∧RelV x.2.2 vu
def JK (w:World)(a:List D×List (Int×V×V))(x:D×V×V):List D×List (Int×V×V):=((EF x.1 .non a.1 []).1,KI x.1 (D0 w x.1) x.2.1 x.2.2 a.1 a.2)
theorem N2 {k v:D}{ks ds:List D}(n:ks.Nodup):(EF k v ks ds).1.Nodup∧(EF k v ks ds).1.length≤ks.length+1:=by
 unfold EF
 split
 ·exact ⟨n,Bx _⟩
 ·rename_i z
  refine ⟨Bb.mpr ⟨n,by simp,λx hx y hy=>?_⟩,by rw [Ai];exact Al _⟩
  rw [Ag.mp hy]
  exact λe=>z (e▸hx)
theorem U7 {a:List D×List (Int×V×V)}{x:D×V×V}(l:a.1.length=a.2.length)(n:a.1.Nodup):(JK w a x).1.length=(JK w a x).2.length:=by
 unfold JK EF
 dsimp only
 by_cases z:x.1∈a.1
 ·obtain ⟨j,ej⟩:=AS.mp z
  have hj:j<a.2.length:=by rw [← l];exact (Ah.mp ej).1
  rw [if_pos z,JB hj n ej,List.length_set]
  exact l
 ·rw [if_neg z,HG z l,Ai,Ai,l]
  rfl
def V8 (w:World)(h0 h:Heap)(d:Addr)(a:List D×List (Int×V×V)):Prop:=∃ es ep,h.get? d=some (dOb es ep)∧Paired (EnK w h0) a.1 es.toList∧Paired EnV a.2 es.toList∧a.1.Nodup∧a.1.length=a.2.length
theorem AcD {R:Result->Shared->Prop}(hu:A.in1.units+8<cLine){I d:Addr}{fp:List Addr}{P:Nat->Value->Prop}{St:Nat->Heap->Prop}{xs:List (D×V×V)}(W:Walks prog w A.in1 I fp [I] xs.length P St)(hdf:d∉fp){h0:Heap}(hI:h0.get? I=none)(hd:h0.get? d=none)(hval:∀ i v,P i v->∃ x,xs[i]? = some x∧PrV h0 x v){res:Value}(k:Nat) :
  ∀ (i:Nat) (s:Shared) (a:List D×List (Int×V×V)),i+k=xs.length->a.1.length≤i->xs.length≤sizeLine->St i s.heap->(∀ b o,h0.get? b=some o->s.heap.get? b=some o)->V8 w h0 s.heap d a ->
   (∀ h' tk,(∀ b o,b≠d->b≠I->s.heap.get? b=some o->h'.get? b=some o)->V8 w h0 h' d ((xs.drop i).foldl (JK w) a)->R (.ok (.ret res)) { s with heap:=h',toks:=tk }) ->
   codeAny (model prog w) A (Code.builtin "dict.update.loop" ⟨[.ref d,.ref I,rawInt i,res],[]⟩) R s:=by
 have nI:I∈fp:=W.sub _ (by simp)
 have ndI:d≠I:=λz=>hdf (z▸nI)
 induction k with
 | zero =>
  intro i s a e la hz st hk hD hR
  obtain rfl:i=xs.length:=by ext
  refine Bq Nz ?_
  rw [Bm Jw _]
  refine (?_:wpAny _ A.in1 (pyNext (.ref I) >>= _) _ _ s)
  refine Aa (W.done s _ _ st λh1 tk1 k1=>?_)
  refine (?_:wpAny _ A.in1 (Builtin.Dict.addKeywords d [] >>= _) _ _ _)
  refine Aa (Ac (Ac (hR h1 tk1 (λb o _ n e=>k1 b o (by simpa using n) e) ?_)))
  rw [List.drop_eq_nil_of_le (Al _)]
  obtain ⟨es,ep,g,r⟩:=hD
  exact ⟨es,ep,k1 _ _ (by simpa using ndI) g,r⟩
 | succ k ih =>
  intro i s a e la hz st hk hD hR
  have lt:i<xs.length:=by ext
  refine Bq Nz ?_
  rw [Bm Jw _]
  refine (?_:wpAny _ A.in1 (pyNext (.ref I) >>= _) _ _ s)
  refine Aa (W.item i s _ _ lt st λv h1 tk1 hP st1 k1=>?_)
  obtain ⟨x,ex,p,ku,vu,ev,⟨op,p1,p2,np,p3⟩,hk1,rk,rv⟩:=hval i v hP
  subst ev
  have hk':∀ b o,h0.get? b=some o->h1.get? b=some o:=λb o g=>k1 b o (by simpa using λz=>by rw [z,hI] at g;cases g) (hk b o g)
  refine (?_:wpAny _ A.in1 (holding [Value.ref p] _ >>= _) _ _ _)
  have ty:(Shared.TypeIs { s with heap:=h1,toks:=tk1 } (.ref p) "tuple"):=⟨op,hk' _ _ p1,p2⟩
  refine Aa (AI (Aa (wpAny_tryCatch ?_)))
  unfold Builtin.Dict.pairItems
  refine Aa (BL ty ?_)
  rw [if_pos (by decide)]
  refine Aa (wpAny_seqItems (hk' _ _ p1) p3 (Ac ?_))
  refine (?_:wpAny _ A.in1 (holding [ku,vu] (dictSet d ku vu)) _ _ _)
  obtain ⟨es,ep,g,en,pr,nd,l⟩:=hD
  have g':=k1 _ _ (by simpa using ndI) g
  refine AI (Acb (s:={ s with heap:=h1,toks:=tk1 }) (ks:=a.1) hu (hk1.keep hk') g' (MT en λk e q=>⟨q.1,q.2.keep hk'⟩) nd (by ext) λh2 tk2 es2 ep2 sb hD2 pe=>?_)
  have dr:xs.drop i=x::xs.drop (i+1):=by
   rw [List.drop_eq_getElem_cons lt]
   rw [Au lt] at ex
   rw [AN ex]
  have hk2:∀ b o,h0.get? b=some o->h2.get? b=some o:=λb o z=>(sb.2 b λq:b=d=>by rw [q,hd] at z;cases z).trans (hk' b o z)
  have cast:rawInt ((i:Int)+1)=rawInt ((i+1:Nat):Int):=rfl
  rw [cast]
  refine Ac (And.intro (plainId_quiet Jw _) (ih (i+1) _ (JK w a x) (by ext) ?_ hz (W.frame _ h1 _ st1 λb hb o z=>(sb.2 b λq:b=d=>hdf (q▸hb)).trans z) hk2 ⟨es2,ep2,hD2,Ww hk1 en pe .non [],Wv nd l pr rk rv pe,(N2 nd).1,U7 l nd⟩ λh3 tk3 k3 hS3=>hR h3 tk3 (λb o b1 b2 z=>?_) ?_))
  ·have:=(N2 (k:=x.1) (v:=.non) (ds:=[]) nd).2
   unfold JK
   dsimp only
   ext
  ·exact k3 b o b1 b2 ((sb.2 b b1).trans (k1 b o (by simpa using b2) z))
  ·rw [dr];exact hS3
end
theorem Wu:typeLookup (.type "tuple") "keys"=pure none:=by rw [typeLookup_type,builtinLookup_eq_fast];kernel_rfl
theorem VS:typeLookup (.type "list") "keys"=pure none:=by rw [typeLookup_type,builtinLookup_eq_fast];kernel_rfl
theorem gAL {prog:Program}{w:World}{A:Around}{E:Value->Shared->Prop}{s:Shared}{a:Addr}{o:Obj}{xs:Array Value}{k:Nat}{Q:Option Value->Shared->Prop}
  (g:s.heap.get? a=some o) (hc:o.cls=.type "list") (ht:o.data=.seq xs k) (hd:o.dict=none) (hA:A.handled=none)
  (q:∀ h' tk,(∀ b ob,s.heap.get? b=some ob->h'.get? b=some ob)->Q none { s with heap:=h',toks:=tk }):wpAny (model prog w) A (getAttr? (.ref a) "keys") Q E s:=by
 obtain ⟨c,dct,dat,sl⟩:=o
 simp only at hc ht hd
 subst hc ht hd
 obtain ⟨hp,gn,dr,tk,os⟩:=s
 have hT:∀ tk',(⟨hp,gn,dr,tk',os⟩:Shared).TypeIs (.ref a) "list":=λ_=>⟨_,g,rfl⟩
 have f1:=sub_AttributeError
 have f3:=F.slot_list_getattribute.lookup
 have f4:=F.slot_list_getattribute.bind (.ref a)
 have f5:=am_list_getattr_none
 (unfold getAttr? getAttrBy? getAttrBy)
 repeat (any_goals (first|assumption|exact hT _|((with_reducible show wpAny _ _ (call (Value.builtin "list.__getattribute__") _ _) _ _ _);refine call_meets F.slot_list_getattribute (hT _) am_entry_list_getattribute (F.args_list_getattribute_2 _ _) (meets_getattribute_miss_list a xs k sl "keys" _ VS (by symm)) ⟨g,hA,λh' tk' e hx'=>?_⟩)|wp_step))
 obtain ⟨t',u',he⟩:=hx'.there
 (show wpAny _ _ (getattributeRaised _ _ _ _ _ _ _) _ _ _)
 unfold getattributeRaised
 repeat (any_goals (first|assumption|wp_step))
 exact q _ _ hx'.keeps
theorem gAT {prog:Program}{w:World}{A:Around}{E:Value->Shared->Prop}{s:Shared}{a:Addr}{o:Obj}{xs:Array Value}{k:Nat}{Q:Option Value->Shared->Prop}
  (g:s.heap.get? a=some o) (hc:o.cls=.type "tuple") (ht:o.data=.seq xs k) (hd:o.dict=none) (hA:A.handled=none)
  (q:∀ h' tk,(∀ b ob,s.heap.get? b=some ob->h'.get? b=some ob)->Q none { s with heap:=h',toks:=tk }):wpAny (model prog w) A (getAttr? (.ref a) "keys") Q E s:=by
 obtain ⟨c,dct,dat,sl⟩:=o
 simp only at hc ht hd
 subst hc ht hd
 obtain ⟨hp,gn,dr,tk,os⟩:=s
 have hT:∀ tk',(⟨hp,gn,dr,tk',os⟩:Shared).TypeIs (.ref a) "tuple":=λ_=>⟨_,g,rfl⟩
 have f1:=sub_AttributeError
 have f3:=F.slot_tuple_getattribute.lookup
 have f4:=F.slot_tuple_getattribute.bind (.ref a)
 have f5:=am_tuple_getattr_none
 (unfold getAttr? getAttrBy? getAttrBy)
 repeat (any_goals (first|assumption|exact hT _|((with_reducible show wpAny _ _ (call (Value.builtin "tuple.__getattribute__") _ _) _ _ _);refine call_meets F.slot_tuple_getattribute (hT _) am_entry_tuple_getattribute (F.args_tuple_getattribute_2 _ _) (meets_getattribute_miss_tuple a xs k sl "keys" _ Wu (by symm)) ⟨g,hA,λh' tk' e hx'=>?_⟩)|wp_step))
 obtain ⟨t',u',he⟩:=hx'.there
 (show wpAny _ _ (getattributeRaised _ _ _ _ _ _ _) _ _ _)
 unfold getattributeRaised
 repeat (any_goals (first|assumption|wp_step))
 exact q _ _ hx'.keeps
theorem set_same {α:Type}{xs:List α}{j:Nat}(hj:j<xs.length):xs.set j xs[j]=xs:=by
 refine A7 λi=>?_
 by_cases c:j=i
 ·subst c;simp [hj]
 ·rw [AB c]
theorem Ws {K:Zc}{th:List Addr}{H:Hp}{ks vs:List D}{xs:List (Int×V×V)}{k v:D}{kv vv:V}(h:rpD K th H (ks,vs) xs)(hk:EO k=true)(rk:Rep K th H k kv)(rv:Rep K th H v vv)(lt:ks.length<sizeLine):rpD K th H (EF k v ks vs) (KI k (D0 K.w k) kv vv ks xs):=by
 obtain ⟨r1,r2,r3,r4⟩:=h
 dsimp only at r1 r2 r3 r4
 have xl:ks.length=xs.length:=by have:=r2.len;simpa using this.symm
 by_cases z:k∈ks
 ·obtain ⟨j,ej⟩:=AS.mp z
  have hj:j<xs.length:=by rw [← xl];exact (Ah.mp ej).1
  rw [JB hj r4.nd ej]
  unfold EF
  rw [if_pos z,LR r4.nd ej]
  have m1:(xs.set j (xs[j].1,xs[j].2.1,vv)).map (·.1)=xs.map (·.1):=by
   rw [List.map_set]
   have:=set_same (xs:=xs.map (·.1)) (j:=j) (by simpa using hj)
   simpa using this
  have m2:(xs.set j (xs[j].1,xs[j].2.1,vv)).map (·.2.1)=xs.map (·.2.1):=by
   rw [List.map_set]
   have:=set_same (xs:=xs.map (·.2.1)) (j:=j) (by simpa using hj)
   simpa using this
  refine ⟨m1.trans r1,by rw [m2];exact r2,by rw [List.map_set];exact r3.setAt j rv,r4⟩
 ·rw [HG z xl]
  unfold EF
  rw [if_neg z]
  refine ⟨?_,?_,?_,?_⟩
  ·rw [AK,r1,EX,EX,AK];rfl
  ·rw [AK];exact r2.app (.cons rk .nil)
  ·rw [AK];exact r3.app (.cons rv .nil)
  ·refine ⟨by rw [Ai];exact lt,?_,λk' hk'=>?_⟩
   ·refine Bb.mpr ⟨r4.nd,by simp,λx hx y hy=>?_⟩
    rw [Ag.mp hy]
    exact λe=>z (e▸hx)
   ·rcases Aj.mp hk' with w'|w'
    ·exact r4.ok k' w'
    ·rw [Ag.mp w'];exact hk
noncomputable def pairsOf:List D->Option (List (D×D))
 | []=>some []
 | .tup [k,v]::ds=>if EO k=true then (pairsOf ds).map ((k,v)::·) else none
 | _=>none
theorem Kq {d:D}{ds:List D}{ps:List (D×D)}(h:pairsOf (d::ds)=some ps):∃ k v r,d=.tup [k,v]∧EO k=true∧pairsOf ds=some r∧ps=(k,v)::r:=by
 unfold pairsOf at h
 split at h
 ·cases ‹_::_=[]›
 ·rename_i k v ds' e
  cases e
  by_cases c:EO k=true
  ·rw [if_pos c] at h
   cases e2:pairsOf ds with
   | none=>rw [e2] at h;cases h
   | some r=>rw [e2] at h;cases h;exact ⟨k,v,r,rfl,c,rfl,rfl⟩
  ·rw [if_neg c] at h;cases h
 ·cases h
theorem Ls:∀ {ds:List D} {ps:List (D×D)},pairsOf ds=some ps->ps.length=ds.length
 | [],_,h=>by cases h;rfl
 | d::ds,ps,h=>by
  obtain ⟨k,v,r,rfl,_,h',rfl⟩:=Kq h
  rw [List.length_cons,List.length_cons,Ls h']
def putAll (p:List D×List D)(ps:List (D×D)):List D×List D:=ps.foldl (λp x=>EF x.1 x.2 p.1 p.2) p
def dctP:Fn:=λds mu=>match sq1 ds mu with
 | some es=>match pairsOf es with
  | some ps=>some (.dct (putAll ([],[]) ps).1 (putAll ([],[]) ps).2,mu)
  | none=>none
 | none=>none
section
variable {X:Cx} {K:Zc} {th:List Addr} {mu:Sto} {H:Hp} {pins:List (Addr×Obj)} {st:L2.St} {s:Shared}
theorem UB {ds:List D}{r:D×Sto}(h:dctP ds mu=some r):∃ d es ps,ds=[d]∧Hk mu d=some es∧pairsOf es=some ps∧r=(.dct (putAll ([],[]) ps).1 (putAll ([],[]) ps).2,mu):=by
 unfold dctP at h
 split at h
 ·rename_i es e
  split at h
  ·rename_i ps e2
   cases h
   obtain ⟨d,rfl,e3⟩:=LK e
   exact ⟨d,es,ps,rfl,e3,e2,rfl⟩
  ·cases h
 ·cases h
def PrR (K:Zc)(th:List Addr)(H:Hp)(p:D×D)(x:D×V×V):Prop:=p.1=x.1∧EO p.1=true∧Rep K th H p.1 x.2.1∧Rep K th H p.2 x.2.2
theorem Lb (I:L2.Inv X pins st H s):∀ {es:List D} {ps:List (D×D)} {vs:List V} {us:List Value},pairsOf es=some ps->RepL X.z th H es vs->Vals vs us->∃ xs:List (D×V×V),Paired (PrR X.z th H) ps xs∧Paired (PrV s.heap) xs us
 | [],ps,vs,us,h,r,q=>by
  cases h
  rw [r.inv0] at q
  cases q
  exact ⟨[],.nil,.nil⟩
 | d::ds,ps,vs,us,h,r,q=>by
  obtain ⟨k,v,ps',rfl,hk,h',rfl⟩:=Kq h
  obtain ⟨x,rs,rfl,rx,rr⟩:=r.inv
  cases q with
  | cons q1 q2 =>
   obtain ⟨xs,a,b⟩:=Lb I h' rr q2
   unfold Rep at rx
   obtain ⟨p,pv,rfl,hsq,hl,hz⟩:=rx
   obtain ⟨kv,vv,rfl,rk,rv⟩:=Ke hl
   cases q1
   obtain ⟨its,rvs,pl,hz'⟩:=I.tuple hsq
   obtain ⟨ku,vu,rfl,rku,rvu⟩:=vals2 rvs
   exact ⟨(k,kv,vv)::xs,.cons ⟨rfl,hk,rk,rv⟩ a,.cons ⟨p,ku,vu,rfl,let ⟨o,ho,hcl,n,hdt⟩:=pl;⟨o,ho,hcl,n,hdt⟩,JH I hk rk rku,rku,rvu⟩ b⟩
theorem P9 {ps:List (D×D)}{xs:List (D×V×V)}(hx:Paired (PrR K th H) ps xs):∀ {p:List D×List D} {a:List D×List (Int×V×V)},p.1=a.1->rpD K th H p a.2->p.1.length+ps.length≤sizeLine ->
  (putAll p ps).1=(xs.foldl (JK K.w) a).1∧rpD K th H (putAll p ps) (xs.foldl (JK K.w) a).2:=by
 induction hx with
 | nil=>exact λe r _=>⟨e,r⟩
 | cons hx t ih =>
  rename_i q x ps xs
  intro p a e r l
  obtain ⟨e1,e2,e3,e4⟩:=hx
  obtain ⟨ks,vs⟩:=p
  obtain ⟨as,ax⟩:=a
  dsimp only at e r
  subst e
  have l':ks.length+(ps.length+1)≤sizeLine:=l
  have r':=Ws r e2 e3 e4 (by ext)
  unfold putAll
  rw [List.foldl_cons,List.foldl_cons]
  refine ih (p:=EF q.1 q.2 ks vs) (a:=JK K.w (ks,ax) x) ?_ ?_ ?_
  ·unfold JK EF;dsimp only;rw [e1];split<;>rfl
  ·unfold JK;dsimp only;rw [← e1];exact r'
  ·have:=(N2 (k:=q.1) (v:=q.2) (ds:=vs) r.2.2.2.nd).2
   have this':(EF q.1 q.2 ks vs).1.length≤ks.length+1:=this
   ext
end
section
variable {prog:Program} {w:World} {A:Around} {E:Value->Shared->Prop} {s:Shared}
theorem Xr {l:Addr}{ol:Obj}{T:String}{us:List Value}{xs:List (D×V×V)}{Q:Value->Shared->Prop}(hu:A.units+16<cLine)(hbig:sysModules<s.heap.objs.size)(hz:xs.length≤sizeLine)(hol:s.heap.get? l=some ol)(hcl:ol.cls=.type T)(hT:(Value.type T != Value.type "dict")=true)
  (hga:∀ (A':Around) (s1:Shared) (Q:Option Value->Shared->Prop) (E:Value->Shared->Prop),A'.handled=A.handled->s1.heap.get? l=some ol->(∀ h' tk,(∀ b ob,s1.heap.get? b=some ob->h'.get? b=some ob)->Q none { s1 with heap:=h',toks:=tk })->wpAny (model prog w) A' (getAttr? (.ref l) "keys") Q E s1)
  (hit:∀ E,YieldsV prog w A E s.heap l us) (pr:Paired (PrV s.heap) xs us)
  (q:∀ h' tk d',(∀ b o,s.heap.get? b=some o->h'.get? b=some o)->V8 w s.heap h' s.heap.objs.size (xs.foldl (JK w) ([],[]))->Q (.ref s.heap.objs.size) { s with heap:=h',toks:=tk,drawn:=d' }) :
  wpAny (model prog w) A (call (.type "dict") [.ref l]) Q E s:=by
 refine callType_codes (Q₁:=λobj s₁=>obj=.ref s.heap.objs.size∧s₁={ s with heap:=s.heap.push { cls:=.type "dict",data:=.dict #[] } }) F.kt_called_dict (F.kt_typeCall_dict_1 _) F.entry_dict_init (kt_code_dict_new _ ⟨rfl,rfl⟩) ?_
 rintro obj s₁ ⟨rfl,rfl⟩
 have gl:(s.heap.push { cls:=.type "dict",data:=.dict #[] }).get? l=some ol:=Ae _ hol
 have gd:(s.heap.push { cls:=.type "dict",data:=.dict #[] }).get? s.heap.objs.size=some (dOb #[] 0):=Aq _ rfl
 have tyd:Shared.TypeIs { s with heap:=s.heap.push { cls:=.type "dict",data:=.dict #[] } } (.ref s.heap.objs.size) "dict":=⟨_,gd,rfl⟩
 have ty:Shared.TypeIs { s with heap:=s.heap.push { cls:=.type "dict",data:=.dict #[] } } (.ref l) T:=⟨ol,gl,hcl⟩
 refine ⟨tyd,F.args_dict_init_2 _ _,?_⟩
 (unfold Builtin.«dict.__init__»)
 refine Aa ?_
 (unfold Builtin.Dict.selfAndRest)
 refine Aa (wpAny_notOrdered_dict tyd (?_:wpAny _ _ (pure (s.heap.objs.size,[Value.ref l])) _ _ _))
 refine Ac (?_:wpAny _ _ (Builtin.Dict.updateFrom "dict.__init__" s.heap.objs.size (.ref l) [] .none) _ _ _)
 (unfold Builtin.Dict.updateFrom)
 refine Aa (BL ty ?_)
 rw [if_pos hT]
 refine Aa (hga _ { s with heap:=s.heap.push { cls:=.type "dict",data:=.dict #[] } } _ _ rfl gl λh1 tk1 k1=>?_)
 rw [if_pos (by rfl)]
 refine Aa (Bo ?_)
 have k0:∀ b ob,s.heap.get? b=some ob->h1.get? b=some ob:=λb ob e=>k1 _ _ (Ae _ e)
 have hnd:h1.get? s.heap.objs.size=some (dOb #[] 0):=k1 _ _ gd
 have lt1:s.heap.objs.size<h1.objs.size:=Ar hnd
 refine Aa (hit _ { s with heap:=h1,toks:=tk1 } _ _ rfl k0 λI fp h2 d2 P St hI fpl fpn W st0 k2 hval=>?_)
 have hI':h1.objs.size≤I:=hI
 have nf:s.heap.objs.size∉fp:=λz=>by
  rcases fpn _ z with q|⟨o,q⟩
  ·exact absurd (Az lt1 q) (Bi _)
  ·exact absurd (Ar q) (Bi _)
 have xl:xs.length=us.length:=DH pr
 have W':Walks prog w A.in1.in1 I fp [I] xs.length P St:=by rw [xl];exact W _ rfl
 refine Ac ⟨plainId_quiet Jw _,?_⟩
 refine AcD (A:=A.in1) (by show A.units+1+1+8<cLine;ext) W' nf (h0:=s.heap) (Heap.get?_none_of_le (AL (Nat.le_of_lt lt1) hI')) (Heap.get?_none_of_le (Al _)) (λi v hP=>?_) xs.length 0 { s with heap:=h2,toks:=tk1,drawn:=d2 } ([],[]) (Nat.zero_add _) (A0 _) hz st0 (λb o e=>k2 _ _ (k0 b o e)) ⟨#[],0,k2 _ _ hnd,.nil,.nil,List.nodup_nil,rfl⟩ λh' tk k3 hD=>⟨rfl,q h' tk d2 (λb o e=>?_) hD⟩
 ·obtain ⟨x,x1,x2⟩:=(D7 pr i).2 v (hval i v hP)
  exact ⟨x,x1,x2⟩
 ·have bl:=Ar e
  exact k3 b o (AF bl) (AF (Az (Nat.lt_trans bl lt1) hI')) (k2 _ _ (k0 b o e))
end
theorem YieldsV.any {prog:Program}{w:World}{A:Around}{h:Heap}{l:Addr}{us:List Value}(y:YieldsV prog w A (λ_ _=>False) h l us)(E:Value->Shared->Prop):YieldsV prog w A E h l us:=λs1 A' R hA hk hR=>wpAny_mono (y s1 A' R hA hk hR) (λ_ _ z=>z) λ_ _ z=>z.elim
section
variable {X:Cx} {K:Zc} {th:List Addr} {mu:Sto} {H:Hp} {pins:List (Addr×Obj)} {st:L2.St} {s:Shared}
theorem Le (hu:X.A.units+64<cLine)(hc:X.calm=true):CallV X (.type "dict") dctP:=by
 intro pins s st H xs us Q I r h
 obtain ⟨th,mu,ds,so,rd,t⟩:=h
 obtain ⟨a0,mu0,e0,_⟩:=id t
 obtain ⟨d,es,ps,rfl,e2,e3,er⟩:=UB e0
 rw [e0] at t
 cases er
 obtain ⟨x,rfl,rx⟩:=Ej rd
 obtain ⟨a,vs,rfl,h1,h2,h3⟩:=GV so e2 rx
 obtain ⟨u,rfl,ru⟩:=vals1 r
 cases ru
 have pl:ps.length=es.length:=Ls e3
 have fin:∀ (xs:List (D×V×V)),Paired (PrR X.z th H) ps xs->∀ h' tk d',(∀ b o,s.heap.get? b=some o->h'.get? b=some o)->V8 X.w s.heap h' s.heap.objs.size (xs.foldl (JK X.w) ([],[]))->EP X pins st Q (.ref s.heap.objs.size) { s with heap:=h',toks:=tk,drawn:=d' }:=λxs pr h' tk d' hk hD=>by
  have hp:H s.heap.objs.size=none:=I.hok.fresh (Al _)
  obtain ⟨es',ep,g,en,pv,nd,l⟩:=hD
  obtain ⟨_,r1,r2,r3,r4⟩:=P9 (K:=X.z) (p:=([],[])) (a:=([],[])) pr rfl ⟨rfl,.nil,.nil,.nil⟩ (by rw [pl];simpa using h3)
  have I0:L2.Inv X pins st H { s with drawn:=d' }:=⟨I.ok,I.os,I.bare,I.base,I.loc,I.cell,I.free,I.freeC,I.pin,I.hok,I.len⟩
  refine ⟨.ref s.heap.objs.size,_,I0.laid (h':=h') (t':=tk) (o:=HE s.heap.objs.size (xs.foldl (JK X.w) ([],[])).2) hk (Al _) (Mw ⟨by simpa using Nat.ne_of_gt (JZ I),_,es',ep,g,⟨rfl,rfl,rfl⟩,rfl,pv⟩),rfl,?_⟩
  refine t.retX (.new hp _) (so.new hp _) _ ?_
  unfold Rep
  have ex:Ext th H th (upd H s.heap.objs.size (HE s.heap.objs.size (xs.foldl (JK X.w) ([],[])).2)):=.new hp _
  exact ⟨_,_,rfl,so.notin hp,Ey,r1,r2.ext ex so.out,r3.ext ex so.out,r4⟩
 have zl:∀ {xs:List (D×V×V)},Paired (PrR X.z th H) ps xs->xs.length≤sizeLine:=λq=>by rw [← DH q,pl];exact h3
 have hh:=I.ok.hd hc
 rcases h1 with h1|⟨h1,_⟩
 ·obtain ⟨its,rv,pl',hz⟩:=I.list h1
  obtain ⟨o,n,ho,hcl,hdd,hdt⟩:=id pl'
  obtain ⟨us,q,y,_⟩:=Lk (E:=λ_ _=>False) I hc h1
  obtain ⟨xs,p1,p2⟩:=Lb I e3 h2 q
  refine Xr (us:=us) (xs:=xs) (by ext) (JZ I) (zl p1) ho hcl (by decide) (λA' s1 Q' E' hA hg hq=>gAL hg hcl hdt hdd (hA.trans hh) hq) y.any p2 (fin xs p1)
 ·obtain ⟨its,rv,pl',hz⟩:=I.tuple h1
  obtain ⟨o,ho,hcl,n,hdt⟩:=id pl'
  obtain ⟨o2,ho2,hdd,_⟩:=I.tupleD h1
  rw [ho] at ho2
  cases ho2
  obtain ⟨us,q,y,_⟩:=Kp (E:=λ_ _=>False) I hc h1
  obtain ⟨xs,p1,p2⟩:=Lb I e3 h2 q
  refine Xr (us:=us) (xs:=xs) (by ext) (JZ I) (zl p1) ho hcl (by decide) (λA' s1 Q' E' hA hg hq=>gAT hg hcl hdt hdd (hA.trans hh) hq) y.any p2 (fin xs p1)
end
end PV
namespace L2
open PySem PySem.Spec PyProof.Rows
theorem JV {sc:Scope}{env:Env}{x:Str}(h:sc.names.lookup x=some .free):(relabel sc env).names.lookup x=some .cell∨(relabel sc env).names.lookup x=some .free:=by
 have gen:∀ l:List (Str×NameKind),l.lookup x=some .free->(l.map λ(n,k)=>if (k==NameKind.free&&env.scope.kind==.function&&env.kindOf n==some .cell)=true then (n,NameKind.cell) else (n,k)).lookup x=some .cell∨(l.map λ(n,k)=>if (k==NameKind.free&&env.scope.kind==.function&&env.kindOf n==some .cell)=true then (n,NameKind.cell) else (n,k)).lookup x=some .free:=by
  intro l
  induction l with
  | nil=>intro h;cases h
  | cons y r ih =>
   intro h
   obtain ⟨n,k⟩:=y
   rw [AO]
   by_cases e:x=n
   ·subst e
    have hb:(x==x)=true:=beq_iff_eq.mpr rfl
    simp only [List.lookup,hb] at h
    cases h
    dsimp only
    split
    ·left;simp only [List.lookup,hb]
    ·right;simp only [List.lookup,hb]
   ·have hb:(x==n)=false:=BY.mpr e
    simp only [List.lookup,hb] at h
    dsimp only
    have:=ih h
    split<;>(simp only [List.lookup,hb];exact this)
 exact gen sc.names h
theorem Ry {X:Cx}{sc1 scope:Scope}{N:List Str}{cl:List (Str×Addr)}{C:Addr}{s₁:Shared}{H₁:Hp}{fp:List Addr}{fv:List (Nat×Str)}(hc:X.calm=true)(k:scope.kind=.function)(h1:∀ y∈scope.names,y.2≠.cell)
  (h2:∀ y∈scope.names,y.2=.local->scope.names.lookup y.1=some .local) (h3:∀ y∈scope.names,y.2=.free->sc1.names.lookup y.1=some .free) (hf:∀ p∈fv,N[p.1]? = some p.2∧sc1.names.lookup p.2=some .free∧scope.names.lookup p.2=some .free) :
  NH (Dv X sc1 N cl C s₁ H₁ fp) scope fv:=by
 refine ⟨hc,k,h1,h2,λy hy hk=>JV (h3 y hy hk),?_⟩
 induction fv with
 | nil=>exact True.intro
 | cons p r ih =>
  obtain ⟨a,b,c⟩:=hf p List.mem_cons_self
  exact ⟨⟨a,JV b,JV c⟩,ih λq hq=>hf q (Bv _ hq)⟩
end L2
namespace PV
open PySem L2 PySem.Spec PyProof.Rows
def Aa3 (K:PySem.W.Frag)(mg:Str->Option Value)(x:Str)(ss:List Str):Prop:=∃ a o its n,mg x=some (.ref a)∧K.lookup a=some o∧o.cls=.type "tuple"∧o.dict=none∧o.data=.seq its n∧its.size≤sizeLine∧Vals (ss.map V.str) its.toList
theorem VB {X:Cx}{x:Str}{ss:List Str}{pos:Pos}(hm:Aa3 X.K X.mg x ss)(h:(ss.all λs=>decide (s.length≤sizeLine)&&PyData.strOk s)=true:=by symm)(hl:ss.length≤sizeLine:=by symm)(hg:Gl X x:=by rfl)(hd:(x==("__debug__":Str))=false:=by decide):SV X (.Name x pos) (eC (.tup (ss.map D.str))):=by
 obtain ⟨a,o,its,n,m1,m2,m3,m4,m5,m6,m7⟩:=hm
 refine ⟨PE.weak (Oi (v:=.ref a) hg m1 rfl hd) λst H Q q=>?_⟩
 obtain ⟨th,mu,ro,so,en,t⟩:=q
 refine t.ret so _ ?_
 unfold Rep
 refine ⟨a,ss.map V.str,rfl,.inr ⟨o,its,n,m2,m3,m4,m5,m6,m7⟩,K8 λs hs=>?_,by rw [Af];exact hl⟩
 have:=Ao.mp h s hs
 rw [Ab,Ad] at this
 exact this
theorem Sf:fillsNumberSlot (.type "tuple") "mul"=pure false:=
 PySem.fillsNumberSlot_seq (id:="tuple.__mul__") (r:=some (.builtin "tuple.__rmul__")) F.slot_tuple_mul.lookup (by symm) F.slot_tuple_rmul.lookup (by symm)
theorem Tq:seqRepeat? (.type "tuple")=pure (some (.builtin "tuple.__mul__")):=by
 unfold seqRepeat?
 rw [PySem.seqSlot_of (T:="tuple") (name:="__mul__") (id:="tuple.__mul__") F.slot_tuple_mul.lookup (by symm),PySem.seqSlot_of (T:="tuple") (name:="__rmul__") (id:="tuple.__rmul__") F.slot_tuple_rmul.lookup (by symm)]
 rfl
theorem VW (a:Int)(t:Tok)(l:Addr)(items:Array Value)(n:Nat)(dc:Option Addr)(sl:Array (Option Value)) :
  Meets (Builtin.«int.__rmul__» ⟨[.int a t,.ref l],[]⟩) (λ_ R s=>s.heap.get? l=some { cls:=.type "tuple",dict:=dc,data:=.seq items n,slots:=sl }∧R (.ok (.ret Value.notImplemented)) s):=
 .of_wp λprog w A R s h=>by obtain ⟨hp,g,d,tk,os⟩:=s;obtain ⟨hl,h⟩:=h;wp_walk;exact ⟨_,rfl,h⟩
theorem Aau (l:Addr)(items:Array Value)(n:Nat)(dc:Option Addr)(sl:Array (Option Value))(x:Int)(u:Tok)(h1:2≤x)(h2:x<2 ^ 62)(hne:items.isEmpty=false)(hz:items.size*x.toNat≤1000) :
  Meets (Builtin.«tuple.__mul__» ⟨[.ref l,.int x u],[]⟩) (λ_ R s=>s.heap.get? l=some { cls:=.type "tuple",dict:=dc,data:=.seq items n,slots:=sl }∧R (.ok (.ret (Value.ref s.heap.objs.size))) { s with heap:=s.heap.push { cls:=Value.type "tuple",data:=Data.seq (List.foldl (λx1 x2=>x1++x2) #[] (List.replicate x.toNat items)) },toks:=s.toks }):=
 .of_wp λprog w A R s h=>by
  obtain ⟨hp,g,d,tk,os⟩:=s;obtain ⟨hl,h⟩:=h
  have c1:(decide (x < -(2 ^ 63))||decide (x ≥ 2 ^ 63))=false:=by simp;ext
  have c2:(items.isEmpty||x==1)=false:=by rw [hne];simp;ext
  have c3:(decide (x≤0)||items.isEmpty)=false:=by rw [hne];simp;ext
  wp_walk
  rw [if_neg (by rw [c1];exact AJ)]
  wp_walk
  rw [if_neg (by rw [c2];exact AJ)]
  wp_walk
  rw [if_neg (by rw [c3];exact AJ)]
  have ex:(x.toNat:Int)=x:=Int.toNat_of_nonneg (by ext)
  have ez:((items.size:Int)*x)=((items.size*x.toNat:Nat):Int):=by rw [Int.natCast_mul,ex]
  have c4:¬ ((items.size:Int)*x > (2 ^ 63-1) / 8):=by rw [ez];ext
  have c5:¬ (Builtin.Tuple.tupleTooMany ((items.size:Int)*x)=true):=by
   unfold Builtin.Tuple.tupleTooMany
   rw [ez,Ad]
   have:(1000:Int)≤(sizeLine:Int):=by decide
   ext
  refine Jh (λz=>absurd z c4) λ_=>?_
  refine Jh (λz=>absurd z c5) λ_=>?_
  (unfold Builtin.Tuple.tupleExact)
  have hzz:(List.foldl (λx1 x2=>x1++x2) #[] (List.replicate x.toNat items)).size≤sizeLine:=by
   have gen:∀ (k:Nat) (b:Array Value),(List.foldl (λx1 x2=>x1++x2) b (List.replicate k items)).size=b.size+k*items.size:=by
    intro k
    induction k with
    | zero=>intro b;simp
    | succ k ih=>intro b;rw [List.replicate_succ,List.foldl_cons,ih,Array.size_append,Nat.succ_mul];ext
   rw [gen,Nat.mul_comm]
   have:1000≤sizeLine:=by decide
   simp only [Array.size_empty]
   ext
  exact Aa (AW (hd:=hzz) (Ac ⟨_,rfl,h⟩))
theorem AbB (l:Addr)(items:Array Value)(n:Nat)(dc:Option Addr)(sl:Array (Option Value))(u:Tok) :
  Meets (Builtin.«tuple.__mul__» ⟨[.ref l,.int 1 u],[]⟩) (λ_ R s=>s.heap.get? l=some { cls:=.type "tuple",dict:=dc,data:=.seq items n,slots:=sl }∧R (.ok (.ret (Value.ref l))) s):=
 .of_wp λprog w A R s h=>by
  obtain ⟨hp,g,d,tk,os⟩:=s;obtain ⟨hl,h⟩:=h
  wp_walk
  exact ⟨_,rfl,h⟩
section
variable {X:Cx} {K:Zc} {th:List Addr} {mu:Sto} {H:Hp}
noncomputable def Zz (d e:D)(mu:Sto):Rs D:=match d,e with
 | .tup (x::xs),.int n=>if 1≤n∧n<1000∧(x::xs).length*n.toNat≤1000 then some (.tup (List.replicate n.toNat (x::xs)).flatten,mu) else none
 | _,_=>none
theorem OI {ds:List D}{vs:List V}(r:RepL K th H ds vs):∀ k:Nat,RepL K th H (List.replicate k ds).flatten (List.replicate k vs).flatten
 | 0=>.nil
 | k+1=>by
  rw [List.replicate_succ,List.replicate_succ,List.flatten_cons,List.flatten_cons]
  exact r.app (OI r k)
theorem V5:OpV X (binaryOp .Mult) Zz:=by
 intro pins s st H x y v u Q I rx ry h
 obtain ⟨th,mu,d,e,so,r1,r2,t⟩:=h
 unfold Zz at t
 split at t
 ·rename_i x0 xs n
  by_cases c:1≤n∧n<1000∧(x0::xs).length*n.toNat≤1000
  ·rw [if_pos c] at t
   unfold Rep at r1 r2
   obtain ⟨a,vs,rfl,h1,h2,h3⟩:=r1
   subst r2
   cases rx
   obtain ⟨tk,rfl⟩:=ry
   obtain ⟨its,rv,p1,_⟩:=I.tuple h1
   obtain ⟨⟨cls,dd,data,sl⟩,ho,hc,m,hd⟩:=id p1
   simp only at hc hd
   subst hc hd
   refine wpAny_binaryOp_repeat_ref (T:="tuple") (U:="int") (by decide) ⟨_,ho,rfl⟩ (λs'=>typeIs_int s' n tk) Sf F.fills_int_mul F.slot_int_rmul Tq F.slot_int_index.lookup
    (call_meets F.slot_int_rmul (typeIs_int s n tk) F.entry_int_rmul (F.args_int_rmul_2 _ _) (VW n tk a its.toArray m dd sl) ⟨ho,rfl,⟨_,ho,rfl⟩,?_⟩)
   have il:its.length=(x0::xs).length:=by rw [← rv.length,h2.len]
   by_cases c1:n=1
   ·subst c1
    refine call_meets F.slot_tuple_mul ⟨_,ho,rfl⟩ F.entry_tuple_mul (F.args_tuple_mul_2 _ _) (AbB a its.toArray m dd sl tk) ⟨ho,?_⟩
    refine ⟨.ref a,H,I,rfl,t.ret so _ ?_⟩
    show Rep X.z th H (.tup (List.replicate 1 (x0::xs)).flatten) (.ref a)
    rw [show (List.replicate 1 (x0::xs)).flatten=x0::xs by simp]
    unfold Rep
    exact ⟨a,vs,rfl,h1,h2,h3⟩
   ·refine call_meets F.slot_tuple_mul ⟨_,ho,rfl⟩ F.entry_tuple_mul (F.args_tuple_mul_2 _ _) (Aau a its.toArray m dd sl n tk (by ext) (by ext) (by cases its with|nil=>simp at il|cons _ _=>rfl) (by rw [An,il];exact c.2.2)) ⟨ho,?_⟩
    have hp:H s.heap.objs.size=none:=I.hok.fresh (Al _)
    have hz:(List.replicate n.toNat vs).flatten.length≤sizeLine:=by
     rw [len_rep,h2.len,Nat.mul_comm]
     exact AL c.2.2 (by decide)
    have ea:List.foldl (λx1 x2=>x1++x2) #[] (List.replicate n.toNat its.toArray)=(List.replicate n.toNat its).flatten.toArray:=by
     have:=foldl_rep its n.toNat []
     rw [List.nil_append] at this
     exact this
    rw [ea]
    refine ⟨.ref s.heap.objs.size,_,I.laid (t':=s.toks) (o:=.tup (List.replicate n.toNat vs).flatten) (λb ob q=>Ae _ q) (Al _) ?_,rfl,t.retX (.new hp _) (so.new hp _) _ (Rep.newTup so hp (OI h2 _) ?_)⟩
    ·exact ⟨⟨hz,⟨_,Aq _ rfl,rfl⟩⟩,_,rv.rep n.toNat,IsTup.new _ _⟩
    ·rw [len_rep,Nat.mul_comm]
     exact AL c.2.2 (by decide)
  ·rw [if_neg c] at t;exact t.no.elim
 ·exact t.no.elim
def Ux (d e:D)(mu:Sto):Rs D:=match GF d e mu with
 | some r=>some r
 | none=>Zz d e mu
theorem V2:OpV X (binaryOp .Mult) Ux:=OpV.or E5 V5
end
theorem PQ (b:Str)(u:Tok)(l:Addr)(es:Array DictEntry)(n:Nat)(dd:Option Addr)(sl:Array (Option Value)) :
  Meets (Builtin.«str.__eq__» ⟨[.str b u,.ref l],[]⟩) (λ_ R s=>s.heap.get? l=some { cls:=.type "dict",dict:=dd,data:=.dict es n,slots:=sl }∧R (.ok (.ret .notImplemented)) s):=
 .of_wp λprog w A R s h=>by obtain ⟨hp,g,d,tk,os⟩:=s;obtain ⟨hl,h⟩:=h;wp_walk using BF hl,wpAny_load hl;exact ⟨_,rfl,h⟩
theorem Qh (l:Addr)(es:Array DictEntry)(n:Nat)(dd:Option Addr)(sl:Array (Option Value))(b:Str)(u:Tok) :
  Meets (Builtin.«dict.__eq__» ⟨[.ref l,.str b u],[]⟩) (λ_ R s=>s.heap.get? l=some { cls:=.type "dict",dict:=dd,data:=.dict es n,slots:=sl }∧R (.ok (.ret .notImplemented)) s):=
 .of_wp λprog w A R s h=>by
  obtain ⟨hp,g,d,tk,os⟩:=s;obtain ⟨hl,h⟩:=h
  have f1:=PySem.F.sub_str_dict
  have hT:(⟨hp,g,d,tk,os⟩:Shared).TypeIs (.ref l) "dict":=⟨_,hl,rfl⟩
  unfold Builtin.«dict.__eq__»
  wp_walk using BF hl,wpAny_load hl
  exact ⟨_,rfl,h⟩
theorem AaU {A:Around}{s:Shared}{l:Addr}{es:Array DictEntry}{n:Nat}{dd:Option Addr}{sl:Array (Option Value)}(b:Str)(u:Tok)(ho:s.heap.get? l=some { cls:=.type "dict",dict:=dd,data:=.dict es n,slots:=sl })(hu:A.units<cLine):SeqAt.RcAt A s (.str b u) (.ref l) false:=λprog w E Q h=>by
 exact SeqAt.rc_eq_decline_or (k:=false) (typeIs_str s b u) ⟨_,ho,rfl⟩ (by decide) PySem.F.sub_dict_str PySem.F.slot_str_eq PySem.F.slot_dict_eq_refl
  (λ_ hq=>call_meets PySem.F.slot_str_eq (typeIs_str s b u) PySem.F.entry_str_eq (PySem.F.args_str_eq_2 _ _) (PQ b u l es n dd sl) ⟨ho,hq⟩)
  (λ_ hq=>call_meets PySem.F.slot_dict_eq_refl ⟨_,ho,rfl⟩ PySem.F.entry_dict_eq (PySem.F.args_dict_eq_2 _ _) (Qh l es n dd sl b u) ⟨ho,hq⟩)
  (λ_ hq=>wpAny_of_eq (rfl:isSame (.str b u) (.ref l)=pure false) hq) (.inr hu) h
section
variable {X:Cx} {K:Zc} {th:List Addr} {mu:Sto} {H:Hp}
noncomputable def eqX (d e:D)(mu:Sto):Rs D:=match d,e with
 | .str _,.tup _=>some (.bl false,mu)
 | .str _,.lst _=>some (.bl false,mu)
 | .str _,.dct _ _=>some (.bl false,mu)
 | .tup xs,.tup []=>some (.bl (xs.length==0),mu)
 | _,_=>none
theorem XZ (hu:X.A.units+64<cLine):OpV X (compareOp .Eq) eqX:=by
 intro pins s st H x y v u Q I rx ry h
 obtain ⟨th,mu,d,e,so,r1,r2,t⟩:=h
 have hu':X.A.units<cLine:=by ext
 unfold eqX at t
 split at t
 ·rename_i x0 ds
  unfold Rep at r1 r2
  obtain ⟨rfl,_⟩:=r1
  obtain ⟨a,vs,rfl,h1,_⟩:=r2
  obtain ⟨tk,rfl⟩:=rx
  cases ry
  obtain ⟨its,rv,pl,_⟩:=I.tuple h1
  exact SeqAt.RcAt.str_tuple x0 tk pl hu' _ _ _ _ ⟨.bl false,H,I,rfl,t.ret so _ rfl⟩
 ·rename_i x0 ds
  unfold Rep at r1 r2
  obtain ⟨rfl,_⟩:=r1
  obtain ⟨a,vs,rfl,h1,_⟩:=r2
  obtain ⟨tk,rfl⟩:=rx
  cases ry
  obtain ⟨its,rv,pl,_⟩:=I.list h1.sq
  exact SeqAt.RcAt.str_list x0 tk pl.isList hu' _ _ _ _ ⟨.bl false,H,I,rfl,t.ret so _ rfl⟩
 ·rename_i x0 ks ds
  obtain ⟨a,e2,dc⟩:=FC so (d:=.dct ks ds) rfl r2
  subst e2
  unfold Rep at r1
  obtain ⟨rfl,_⟩:=r1
  obtain ⟨tk,rfl⟩:=rx
  cases ry
  obtain ⟨xs,o,es,ep,_,g⟩:=H8 I dc
  obtain ⟨⟨cls,dd,data,sl⟩,ho,hex,hdt⟩:∃ o:Obj,s.heap.get? a=some o∧o.cls=.type "dict"∧o.data=.dict es ep:=⟨o,g.at',g.ex.1,g.dt⟩
  simp only at hex hdt
  subst hex hdt
  exact AaU x0 tk ho hu' _ _ _ _ ⟨.bl false,H,I,rfl,t.ret so _ rfl⟩
 ·rename_i xs
  unfold Rep at r1 r2
  obtain ⟨a,vs,rfl,h1,h2,_⟩:=r1
  obtain ⟨b,us,rfl,k1,k2,_⟩:=r2
  cases rx
  cases ry
  obtain ⟨its,rv,pl,_⟩:=I.tuple h1
  obtain ⟨its2,rv2,pl2,_⟩:=I.tuple k1
  have e2:us=[]:=k2.inv0
  subst e2
  have e3:its2=[]:=by cases rv2;rfl
  subst e3
  have il:its.length=xs.length:=by rw [← rv.length,h2.len]
  have:=SeqAt.RcAt.tuples (e:=λ_=>true) pl pl2 hu' (λj h1 h2=>absurd h2 (by simp)) X.prog X.w X.xe (EP X pins st Q) (s:=s) ⟨.bl (xs.length==0),H,I,?_,t.ret so _ rfl⟩
  ·exact this
  ·show Value.bool _=Value.bool _
   congr 1
   simp [il]
 ·exact t.no.elim
def eqG (d e:D)(mu:Sto):Rs D:=match eqD d e mu with
 | some r=>some r
 | none=>eqX d e mu
theorem GC (hu:X.A.units+64<cLine):OpV X (compareOp .Eq) eqG:=OpV.or (Dr hu) (XZ hu)
end
noncomputable def RN (b:List D)(mu:Sto):D×Sto:=(.ref mu.length,mu++[.lst b])
theorem Y0 {K:Zc}:Ma K R7 (rpL K) RN:=λ{th mu H b a} so ⟨r,hz⟩=>⟨by show a.length≤sizeLine;rw [r.len];exact hz,λp hp=>⟨th++[p],.newM hp _,so.newM hp r hz,by
 unfold RN
 dsimp only
 unfold Rep
 exact ⟨p,rfl,by rw [← so.len];simp⟩⟩⟩
section
variable {X:Cx} {scope:Scope} {t1 i1 elt:Expr} {f1:List Expr} {pos:Pos} {i:Ix} {g:Gx} {tt:Tx} {el:Ex} {fin:List D->Sto->D×Sto}
theorem Uq (hf:Ma X.z R7 (rpL X.z) fin)(own:List Str)(fv:List (Nat×Str))(L:NH X scope fv)(hi:SVI X t1 i1 i)(ow:GOw 0 own.length g)
  (hg:∀ cl C s₁ H₁ fp,SVG (Dv X scope (own++fv.map (·.2)) cl C s₁ H₁ fp) t1 g)
  (ht:∀ cl C s₁ H₁ fp,SVF (Dv X scope (own++fv.map (·.2)) cl C s₁ H₁ fp) f1 tt)
  (he:∀ cl C s₁ H₁ fp,SV (Dv X scope (own++fv.map (·.2)) cl C s₁ H₁ fp) elt el)
  (hs:∀ x,foldedSetIterable i1 X.env x=pure x:=by intro _;rfl) :
  Um X scope own fv (.ListComp elt [⟨t1,i1,f1,0⟩] scope pos) [⟨t1,i1,f1,0⟩] ⟨t1,i1,f1,0⟩ [] (newList []) R7 (rpL X.z) (λ_=>True) (stL el) g tt [] fin i (λD C cl=>Q7 elt (.ref D) (compEnvC scope cl C X.env)) where
 hc:=.l
 hgens:=rfl
 ha:=rfl
 hnew:=rfl
 L:=L
 hi:=hi
 ow:=ow
 rx:=Xl
 f:=hf
 r00:=λ_ _=>⟨.nil,A0 _⟩
 hok:=λ_ _ _ _ _ _ _=>True.intro
 heq:=λ_ _ _ _=>WE
 hg:=hg
 ht:=ht
 hm:=λcl C s₁ H₁ fp D dk=>PM.weak (VR dk (he cl C s₁ H₁ fp).r) λa σ H Q h=>YR h
 hs:=hs
end
section
variable {X:Cx} {α β:Type} {scope:Scope} {e:Expr} {gens rest:List Comprehension} {g:Comprehension} {newAcc:Sem Value} {pos2:Pos} {B:NI α} {rp:List Addr->Hp->β->α->Prop} {ok:Ro->Prop} {st:Mx β} {tg:Gx} {tt:Tx} {b0:β} {fin:β->Sto->D×Sto} {i:Ix} {step:Addr->Addr->List (Str×Addr)->Sem Unit}
theorem Abk (own:List Str)(fv:List (Nat×Str))(c:Um X scope own fv e gens g rest newAcc B rp ok st tg tt b0 fin i step)(hev:eval e X.env=comprehension e scope X.env pos2 newAcc false (eval g.iter X.env)){mm:Ex}(hrd:∀ {σ:L2.St} {H:Hp} {Q:VK},rdE X.z mm σ H Q->tCo (rdI X.z i) own.length fv B (rdG X.z tg) (rdT X.z tt) (rdM X.z rp ok st) σ H Q):SV X e mm:=⟨λpins s σ H Q I h=>by
 rw [hev]
 refine My (own:=own) (fv:=fv) (B:=B) (tg:=rdG X.z tg) (tt:=rdT X.z tt) (tm:=rdM X.z rp ok st) (step:=step) (wi:=rdI X.z i) (Q:=Q) c.hc c.hgens c.ha c.hnew c.L c.hi.r c.heq (λcl C s₁ H₁ fp=>(c.hg cl C s₁ H₁ fp).r) (λcl C s₁ H₁ fp=>(c.ht cl C s₁ H₁ fp).r) c.hm c.hs (λI=>JZ I) I
  (hrd h) λs6 H' D C m J6 fC nsC q=>?_
 exact ⟨m,nsC,λh' sb=>⟨.ref D,H',J6.turnedL (ch:=[C]) (t':=s6.toks) (KP sb) (λb hb=>by rw [Ag.mp hb];exact fC),rfl,q⟩⟩⟩
theorem ZZ (own:List Str)(fv:List (Nat×Str))(j:Nat)(c:Um X scope own fv e gens g rest newAcc B rp ok st tg tt b0 fin i step){x:Str}{px spos:Pos}
  (hN:X.N.Nodup) (hix:X.N[j]? = some x) (hx:Loc X.env.scope x) (hf:X.fn x=true∨X.env.scope.names.lookup x=some .local)
  (hsw:swapsWith e (some (.Name x px)) spos.line X.env=pure true)
  (hev:evalThenUse e X.env (assign (.Name x px) X.env)=(do let _←comprehension e scope X.env pos2 newAcc false (eval g.iter X.env) (some (assign (.Name x px) X.env))))
  {mm:Ex} (hrd:∀ {σ:L2.St} {H:Hp} {Q:VK},rdE X.z mm σ H Q->tCo (rdI X.z i) own.length fv B (rdG X.z tg) (rdT X.z tt) (rdM X.z rp ok st) σ H Q) :
  SVS X (.Assign [.Name x px] e spos) (CU mm (gNm j)):=⟨λpins s σ H E I h=>by
 (rw [exec_Assign_Name_used _ _ _ _ hsw])
 refine Aa (wpAny_standAt (Aa ?_))
 rw [hev]
 have h':rdE X.z mm σ H λv H'=>E.nx (σ.set j (some v)) H':=by
  obtain ⟨th,mu,ro,so,en,t⟩:=h
  refine ⟨th,mu,ro,so,en,t.bind.mono λd th1 mu1 H1 e1 s1 t1 v rv=>?_⟩
  exact t1.ret s1 _ ((en.ext e1 so.out).set j rv)
 refine Aa (wpAny_mono (My (use:=some (assign (.Name x px) X.env)) (Qc:=λ_ s'=>SP X pins E .next s') (own:=own) (fv:=fv) (B:=B) (tg:=rdG X.z tg) (tt:=rdT X.z tt) (tm:=rdM X.z rp ok st) (step:=step) (wi:=rdI X.z i) c.hc c.hgens c.ha c.hnew c.L c.hi.r c.heq (λcl C s₁ H₁ fp=>(c.hg cl C s₁ H₁ fp).r) (λcl C s₁ H₁ fp=>(c.ht cl C s₁ H₁ fp).r) c.hm c.hs (λI=>JZ I) I
  (hrd h') λs6 H' D C m J6 fC nsC q=>?_) (λ_ s' hq=>Ac (Ac hq)) λ_ _ e=>e)
 obtain ⟨oC,es,ep,hoC,hdC,rC⟩:=id nsC
 have J7:L2.Inv X (pins++[(C,oC)]) σ H' s6:=J6.pins_of λp hp=>(Aj.mp hp).elim (λz=>J6.pin p (Ax _ z)) λz=>by
  have e:p=(C,oC):=by simpa using z
  subst e
  obtain ⟨f0,f1,f2,_⟩:=fC
  exact ⟨hoC,f0,f1,f2,λv z=>by rw [hdC] at z;cases z⟩
 show wpAny _ X.A (assign (.Name x px) X.env (.ref D)) _ _ _
 refine wpAny_assign_Name (Gy J7 hN hix hx (show RelV (.ref D) (.ref D) from rfl) (λs8 I8=>?_) hf)
 have eC:=(I8.pin (C,oC) (Ax _ (Ax _ (Ag.mpr rfl)))).1
 refine ⟨m,⟨oC,es,ep,eC,hdC,rC⟩,λh' sb=>?_⟩
 exact ⟨_,H',(I8.unpinned).turnedL (ch:=[C]) (t':=s8.toks) (KP sb) (λb hb=>by rw [Ag.mp hb];exact fC),q⟩⟩
end
theorem Ul {g:Option Nat}{m0:Sto}{tg:Gx}{tt:Tx}{el:Ex}{ro:Ro}:∀ (ds b:List D) (mu:Sto) (ys:List D) (m:Sto),b.length+ds.length≤sizeLine->FN g m0 tg tt el ro ds mu=some (ys,m)->cGo g m0 tg tt (stL el) ro ds b mu=some (b++ys,m)
 | [],b,mu,ys,m,_,h=>by
  unfold FN at h
  cases h
  rw [BE]
  rfl
 | d::ds,b,mu,ys,m,hl,h=>by
  rw [List.length_cons] at hl
  unfold FN at h
  obtain ⟨ro1,m1,e1,h⟩:=Ga h
  obtain ⟨c,m2,e2,h⟩:=Ga h
  unfold cGo
  rw [e1,CV,e2,CV]
  cases c with
  | true =>
   rw [if_pos rfl] at h ⊢
   obtain ⟨y,m3,e3,h⟩:=Ga h
   obtain ⟨g3,h⟩:=GU h
   obtain ⟨zs,m4,e4,h⟩:=Ga h
   cases h
   have e5:stL el b ro1 m2=some (b++[y],m3):=by
    unfold stL
    rw [e3,CV,if_pos (by ext)]
   rw [e5,CV,D9,if_pos g3,Ul ds (b++[y]) m3 zs m (by rw [Ai,List.length_singleton];ext) e4,List.append_assoc]
   rfl
  | false =>
   rw [if_neg AJ] at h ⊢
   obtain ⟨g3,h⟩:=GU h
   rw [D9,if_pos g3]
   exact Ul ds b m2 ys m (by ext) h
section
variable {K:Zc} {H:Hp} {tg:Gx} {tt:Tx} {el:Ex}
theorem Xh {i:Ix}{nc:Nat}{fv:List (Nat×Str)}{σ:L2.St}{Q:VK}(ow:GOw 0 nc tg)(h:rdE K (eLC i nc (fv.map (·.1)) tg tt el) σ H Q):tCo (rdI K i) nc fv R7 (rdG K tg) (rdT K tt) (rdM K (rpL K) (λ_=>True) (stL el)) σ H Q:=by
 obtain ⟨th,mu,ro,so,en,t⟩:=h
 refine ⟨th,mu,ro,so,en,t.bind.mono λp th1 mu1 H1 e1 s1 t1 J io=>?_⟩
 have t1':Tr K th1 H1 (bM (cGo p.2 mu1 tg tt (stL el) (r0 nc (fv.map (·.1)) ro) p.1 [] mu1) λb m2=>some (Abv b m2)) (KV' K Q):=by
  obtain ⟨a,m',e,q⟩:=id t1
  obtain ⟨ys,m2,e2,e3⟩:=Ga e
  have:=Ul p.1 [] mu1 ys m2 (by simpa using io.sz) e2
  rw [List.nil_append] at this
  rw [e2,CV] at t1
  rw [this,CV]
  exact t1
 refine T8 (rp:=rpL K) ow Xl (λi d e=>.inr (Mf e)) (λ_ _ _ _ _=>True.intro) io s1 (Py (en.ext e1 so.out)) ⟨.nil,A0 _⟩ (t1'.bind.mono λb th2 mu2 H2 e2 s2 t2 a2 σ2 en2 r2=>?_)
 obtain ⟨f1,f2⟩:=Va s2 r2
 refine ⟨f1,λq hq=>?_⟩
 obtain ⟨th3,x3,s3,r3⟩:=f2 q hq
 exact t2.retX x3 s3 _ r3
end
section
variable {X:Cx} {tg iter elt:Expr} {ifs:List Expr} {scope:Scope} {pos:Pos} {i:Ix} {g:Gx} {tt:Tx} {el:Ex}
theorem GOwn.w {nc:Nat}(ow:GOwn nc g):GOw 0 nc g:=λd ro mu ro' mu' e=>⟨(ow d ro mu ro' mu' e).1,λi hi=>(ow d ro mu ro' mu' e).2 i (hi.elim (λz=>absurd z (Nat.not_lt_zero _)) id)⟩
theorem DG (own:List Str)(fv:List (Nat×Str))(L:NH X scope fv)(hi:SVI X tg iter i)(ow:GOwn own.length g)
  (hg:∀ cl C s₁ H₁ fp,SVG (Dv X scope (own++fv.map (·.2)) cl C s₁ H₁ fp) tg g)
  (ht:∀ cl C s₁ H₁ fp,SVF (Dv X scope (own++fv.map (·.2)) cl C s₁ H₁ fp) ifs tt)
  (he:∀ cl C s₁ H₁ fp,SV (Dv X scope (own++fv.map (·.2)) cl C s₁ H₁ fp) elt el)
  (hs:∀ x,foldedSetIterable iter X.env x=pure x:=by intro _;rfl):SV X (.ListComp elt [⟨tg,iter,ifs,0⟩] scope pos) (eLC i own.length (fv.map (·.1)) g tt el):=
 Abk own fv (Uq Va own fv L hi ow.w hg ht he hs) rfl (Xh ow.w)
theorem Gb (j:Nat){x:Str}{px spos:Pos}(own:List Str)(fv:List (Nat×Str))(L:NH X scope fv)(hi:SVI X tg iter i)(ow:GOwn own.length g)
  (hg:∀ cl C s₁ H₁ fp,SVG (Dv X scope (own++fv.map (·.2)) cl C s₁ H₁ fp) tg g)
  (ht:∀ cl C s₁ H₁ fp,SVF (Dv X scope (own++fv.map (·.2)) cl C s₁ H₁ fp) ifs tt)
  (he:∀ cl C s₁ H₁ fp,SV (Dv X scope (own++fv.map (·.2)) cl C s₁ H₁ fp) elt el)
  (hN:X.N.Nodup) (hix:X.N[j]? = some x:=by rfl) (hx:Loc X.env.scope x:=by first|exact Or.inl rfl|exact Or.inr rfl) (hf:X.fn x=true∨X.env.scope.names.lookup x=some .local:=by first|exact .inl rfl|exact .inr rfl)
  (hsw:swapsWith (.ListComp elt [⟨tg,iter,ifs,0⟩] scope pos) (some (.Name x px)) spos.line X.env=pure true:=by rfl) (hs:∀ x,foldedSetIterable iter X.env x=pure x:=by intro _;rfl) :
  SVS X (.Assign [.Name x px] (.ListComp elt [⟨tg,iter,ifs,0⟩] scope pos) spos) (CU (eLC i own.length (fv.map (·.1)) g tt el) (gNm j)):=
 ZZ own fv j (Uq Va own fv L hi ow.w hg ht he hs) hN hix hx hf hsw rfl (Xh ow.w)
end
end PV
namespace PG
open PySem L2 PV PyProof.Rows
def Jv:Sx:=
  Cq (sIf (tO (tNt (tV (Gf "str" (B8 0)))) (tNt (tV (GG leD leD (eC (.int 1)) (Cd D5 (B6 (B8 0) Cb)) (eC (.int 8)))))) (sRt (eC (.bl false))) (sNx)) (sRt (Cd IC (B6 (eLC (DJ (B8 0)) 1 [] (gNm 0) (tY) (Ce inG (B8 0) (eC (.str "abcdefghijklmnopqrstuvwxyz0123456789")))) Cb)))
def Dk:Fn:=fnB 1 Jv
def JS:Sx:=
  sRt (eAn (Gf "tuple" (B8 0)) (GG leD leD (B8 1) (Cd D5 (B6 (B8 0) Cb)) (B8 2)))
def CY:Fn:=fnB 3 JS
def Er:Sx:=
  sRt (eAn (Gf "tuple" (B8 0)) (Cd IC (B6 (eLC (DJ (B8 0)) 1 [] (gNm 0) (tY) (Cd Dk (B6 (B8 0) Cb))) Cb)))
def DB:Fn:=fnB 1 Er
def GQ:Sx:=
  sRt (Ce eqD (Cd D5 (B6 (Cd Lc (B6 (B8 0) Cb)) Cb)) (Cd D5 (B6 (B8 0) Cb)))
def Dm:Fn:=fnB 1 GQ
def Hh:Sx:=
  sRt (eAn (Cd CY (B6 (B8 0) (B6 (B8 1) (B6 (B8 2) Cb)))) (eAn (Cd DB (B6 (B8 0) Cb)) (Cd Dm (B6 (B8 0) Cb))))
def E1:Fn:=fnB 3 Hh
def FT:Sx:=
  sRt (eCo (DJ (B8 0)) 1 [] (gNm 0) (tY) (stD (Ce ixG (B8 0) (eC (.int 0))) (Cd E9 (B6 (eLC (DJ (Ce ixG (B8 0) (eC (.int 1)))) 1 [] (gNm 0) (tY) (Ce ixG (B8 0) (eC (.int 0)))) Cb))) ([],[]) Q2)
def Ec:Fn:=fnB 1 FT
def HP:Sx:=
  sRt (Cd IC (B6 (eLC (DJ (B8 1)) 1 [0] (gNm 0) (tY) (Ce inG (B8 0) (B8 1))) Cb))
def DA:Fn:=fnB 2 HP
def KU:Sx:=
  sRt (eAn (Cd CY (B6 (B8 0) (B6 (eC (.int 2)) (B6 (eC (.int 2)) Cb)))) (eAn (Cd Dk (B6 (Ce ixG (B8 0) (eC (.int 0))) Cb)) (Cd Dk (B6 (Ce ixG (B8 0) (eC (.int 1))) Cb))))
def GS:Fn:=fnB 1 KU
def IE:Sx:=
  Cq (sIf (tO (tNt (tV (Cd CY (B6 (B8 1) (B6 (eC (.int 1)) (B6 (Cd D5 (B6 (B8 0) Cb)) Cb)))))) (tNt (tV (Cd IC (B6 (eLC (DJ (B8 1)) 1 [] (gNm 0) (tY) (Cd GS (B6 (B8 0) Cb))) Cb))))) (sRt (eC (.bl false))) (sNx)) (Cq (CU (eLC (DJ (B8 1)) 1 [] (gNm 0) (tY) (Ce ixG (B8 0) (eC (.int 0)))) (gNm 2)) (sRt (eAn (Cd Dm (B6 (B8 2) Cb)) (Cd DA (B6 (B8 0) (B6 (B8 2) Cb))))))
def Gm:Fn:=fnB 3 IE
def F2:Sx:=
  Cq (CU (Cd dctP (B6 (B8 1) Cb)) (gNm 2)) (sRt (Cd E9 (B6 (eLC (DJ (B8 0)) 1 [2] (gNm 0) (tY) (J9 (B8 1) (B6 (B8 0) (B6 (B8 0) Cb)))) Cb)))
def Es:Fn:=fnB 3 F2
def KJ:Sx:=
  Cq (sIf (tO (tNt (tV (Cd CY (B6 (B8 1) (B6 (eC (.int 3)) (B6 (eC (.int 3)) Cb)))))) (tNt (tV (Cd IC (B6 (eLC (DJ (B8 1)) 1 [] (gNm 0) (tY) (Cd Dk (B6 (B8 0) Cb))) Cb))))) (sRt (eC (.bl false))) (sNx)) (Cq (CU (B8 1) (gTp 3 (CD (gNm 2) (CD (gNm 3) (CD (gNm 4) EA))))) (Cq (sIf (tV (Ce inG (B8 2) (CL (B6 (eC (.str "is")) (B6 (eC (.str "not")) Cb))))) (sRt (Ce inG (B8 3) (B8 0))) (sNx)) (sRt (eAn (Ce inG (B8 2) (CL (B6 (eC (.str "like")) (B6 (eC (.str "unlike")) Cb)))) (Cd DA (B6 (B8 0) (B6 (CL (B6 (B8 3) (B6 (B8 4) Cb))) Cb)))))))
def GW:Fn:=fnB 5 KJ
def IL:Sx:=
  sRt (eAn (Cd CY (B6 (B8 1) (B6 (eC (.int 1)) (B6 (eC (.int 4)) Cb)))) (Cd IC (B6 (eLC (DJ (B8 1)) 1 [0] (gNm 0) (tY) (Cd GW (B6 (B8 1) (B6 (B8 0) Cb)))) Cb)))
def Gq:Fn:=fnB 2 IL
def Fc:Sx:=
  Cq (sIf (tV (Ce eqD (B8 1) (eC (.str "rows")))) (sRt (eIf (tV (Cd Gq (B6 (B8 0) (B6 (B8 2) Cb)))) (B8 0) (eC .non))) (sNx)) (Cq (sIf (tV (Ce eqD (B8 1) (eC (.str "columns")))) (sRt (eIf (tAn (tV (Cd E1 (B6 (B8 2) (B6 (eC (.int 1)) (B6 (Cd D5 (B6 (B8 0) Cb)) Cb))))) (tV (Cd DA (B6 (B8 0) (B6 (B8 2) Cb))))) (B8 2) (eC .non))) (sNx)) (Cq (sIf (tAn (tV (Ce eqD (B8 1) (eC (.str "called")))) (tV (Cd Gm (B6 (B8 0) (B6 (B8 2) Cb))))) (Cq (CU (Cd Es (B6 (B8 0) (B6 (B8 2) Cb))) (gNm 3)) (sRt (eIf (tV (Cd Dm (B6 (B8 3) Cb))) (B8 3) (eC .non)))) (sNx)) (sRt (eC .non))))
def DQ:Fn:=fnB 4 Fc
def F1:Sx:=
  sRt (Ce CH (B8 0) (Cd E9 (B6 (eLC (DJ (B8 1)) 1 [0] (gNm 0) (tV (Ce G7 (B8 0) (B8 1))) (B8 0)) Cb)))
def EE:Fn:=fnB 2 F1
def E7:Sx:=
  Cq (sIf (tV (Ce eqD (B8 1) (eC (.str "join")))) (sRt (Cd EE (B6 (B8 0) (B6 (B8 2) Cb)))) (sNx)) (sRt (eIf (tV (Ce eqD (B8 0) (B8 2))) (B8 0) (eC .non)))
def DV:Fn:=fnB 3 E7
def HK:Sx:=
  sRt (eAn (Ce eqD (Cd D5 (B6 (B8 1) Cb)) (eC (.int 2))) (eAn (Cd Dk (B6 (Ce ixG (B8 1) (eC (.int 1))) Cb)) (Ce inG (Ce ixG (B8 1) (eC (.int 1))) (B8 0))))
def Fp:Fn:=fnB 2 HK
def EJ (f:Fn):Sx:=
  Cq (sIf (tO (tV (Ce eqD (B8 2) (eC (.int 0)))) (tO (tNt (tV (Cd CY (B6 (B8 1) (B6 (eC (.int 2)) (B6 (eC (.int 3)) Cb)))))) (tNt (tV (Gf "str" (Ce ixG (B8 1) (eC (.int 0)))))))) (sRt (eC .non)) (sNx)) (Cq (sIf (tV (Ce eqD (Ce ixG (B8 1) (eC (.int 0))) (eC (.str "of")))) (sRt (eIf (tV (Cd Fp (B6 (B8 0) (B6 (B8 1) Cb)))) (Ce ixG (B8 0) (Ce ixG (B8 1) (eC (.int 1)))) (eC .non))) (sNx)) (Cq (CU (eIf (tV (Ce eqD (Cd D5 (B6 (B8 1) Cb)) (eC (.int 3)))) (Cd f (B6 (B8 0) (B6 (Ce ixG (B8 1) (eC (.int 1))) (B6 (Ce Mj (B8 2) (eC (.int 1))) Cb)))) (eC .non)) (gNm 3)) (Cq (sIf (tV (Ce isD (B8 3) (eC .non))) (sRt (eC .non)) (sNx)) (Cq (sIf (tV (Ce G7 (Ce ixG (B8 1) (eC (.int 0))) (eC (.tup ((["join","union","gap"]:List Str).map D.str))))) (sRt (Cd DQ (B6 (B8 3) (B6 (Ce ixG (B8 1) (eC (.int 0))) (B6 (Ce ixG (B8 1) (eC (.int 2))) Cb))))) (sNx)) (Cq (CU (Cd f (B6 (B8 0) (B6 (Ce ixG (B8 1) (eC (.int 2))) (B6 (Ce Mj (B8 2) (eC (.int 1))) Cb)))) (gNm 4)) (sRt (eIf (tV (Ce isD (B8 4) (eC .non))) (eC .non) (Cd DV (B6 (B8 3) (B6 (Ce ixG (B8 1) (eC (.int 0))) (B6 (B8 4) Cb)))))))))))
noncomputable def CP:Nat->Fn
 | 0=>λ_ _=>none
 | n+1=>fnB 5 (EJ (CP n))
def GX:Sx:=
  Cq (sIf (tNt (tV (Cd CY (B6 (B8 1) (B6 (eC (.int 0)) (B6 (eC (.int 8)) Cb)))))) (sRt (eC (.bl false))) (sNx)) (Cq (CU (Cd Ec (B6 (B8 0) Cb)) (gNm 2)) (Cq (JC (DJ (B8 1)) (gNm 3) (Cq (sIf (tO (tNt (tV (Cd CY (B6 (B8 3) (B6 (eC (.int 2)) (B6 (eC (.int 2)) Cb)))))) (tO (tNt (tV (Cd Dk (B6 (Ce ixG (B8 3) (eC (.int 0))) Cb)))) (tV (Ce inG (Ce ixG (B8 3) (eC (.int 0))) (B8 2))))) (sRt (eC (.bl false))) (sNx)) (Cq (CU (Cd (CP 10) (B6 (B8 2) (B6 (Ce ixG (B8 3) (eC (.int 1))) (B6 (eC (.int 8)) Cb)))) (gNm 4)) (Cq (sIf (tV (Ce isD (B8 4) (eC .non))) (sRt (eC (.bl false))) (sNx)) (CU (B8 4) (gIx (B8 2) (Ce ixG (B8 3) (eC (.int 0))))))))) (sRt (eC (.bl true)))))
def D4:Fn:=fnG 5 GX
def Ib:Sx:=
  Cq (CU (eC (.int 0)) (gNm 2)) (Cq (sIf (tV (Ce ltG (B8 1) (Cd D5 (B6 (B8 0) Cb)))) (CU (Ce ixG (B8 0) (B8 1)) (gNm 2)) (sNx)) (sRt (Ja (B6 (Ce GF (B8 2) (Cd Uw (B6 (Ce geD (B8 2) (Ce Tp (eC (.int 10)) (eC (.int 18)))) Cb))) (B6 (Ce CH (Ce CH (Ce HA (B8 2) (eC (.int 2305843009213693951))) (Ce GF (eC (.int 7919)) (B8 1))) (eC (.int 3))) (B6 (eC (.int 0)) Cb))))))
def Fu:Fn:=fnB 3 Ib
def HL:Sx:=
  Cq (sIf (tV (Ce gtD (Ce ixG (B8 0) (eC (.int 0))) (eC (.int 0)))) (Cq (CU (Ce HA (Ce ixG (B8 0) (eC (.int 0))) (B8 1)) (gNm 2)) (Cq (CU (Ce MA (Ce ixG (B8 0) (eC (.int 0))) (B8 1)) (gIx (B8 0) (eC (.int 0)))) (sRt (B8 2)))) (sNx)) (Cq (CU (Ce CH (Ce ixG (B8 0) (eC (.int 2))) (eC (.int 1))) (gIx (B8 0) (eC (.int 2)))) (Cq (CU (Ce ixG (B8 0) (eC (.int 2))) (gNm 3)) (Cq (CU (Ce HA (Ce GF (Ce ixG (B8 0) (eC (.int 1))) (Ce CH (Ce CH (eC (.int 48271)) (Ce GF (Ce GF (eC (.int 2)) (B8 3)) (B8 3))) (Ce GF (eC (.int 65537)) (B8 3)))) (eC (.int 2305843009213693921))) (gNm 4)) (Cq (CU (Ce CH (Ce CH (Ce HA (B8 4) (eC (.int 1000003))) (Ce GF (B8 3) (eC (.int 99991)))) (eC (.int 11))) (gNm 5)) (Cq (CU (Ce HA (Ce GF (B8 4) (B8 5)) (eC (.int 2305843009213693907))) (gNm 4)) (sRt (Ce HA (Ce CH (Ce MA (B8 4) (eC (.int 97))) (Ce MA (B8 4) (eC (.int 1000033)))) (B8 1))))))))
def Cp:Fn:=fnB 6 HL
def Ig:Sx:=
  sRt (Ce ixG (B8 1) (Cd Cp (B6 (B8 0) (B6 (Cd D5 (B6 (B8 1) Cb)) Cb))))
def CM:Fn:=fnB 2 Ig
def Jb:Sx:=
  Cq (CU (eC (.str "abcdefghijklmnopqrstuvwxyz0123456789")) (gNm 3)) (Cq (CU (CL (B6 (Cd Cp (B6 (B8 0) (B6 (eC (.int 36)) Cb))) (B6 (Cd CM (B6 (B8 0) (B6 (He (B6 (eC (.int 1)) (B6 (eC (.int 5)) (B6 (eC (.int 7)) (B6 (eC (.int 11)) (B6 (eC (.int 13)) (B6 (eC (.int 17)) Cb))))))) Cb))) Cb))) (gTp 2 (CD (gNm 4) (CD (gNm 5) EA)))) (Cq (CU (Ce GF (Ce ixG (B8 3) (Cd Cp (B6 (B8 0) (B6 (eC (.int 36)) Cb)))) (Cd OG (B6 (Ce Mj (B8 2) (eC (.int 1))) (B6 (Cd CM (B6 (B8 0) (B6 (He (B6 (eC (.int 0)) (B6 (eC (.int 1)) (B6 (eC (.int 0)) (B6 (eC (.int 2)) (B6 (eC (.int 7)) Cb)))))) Cb))) Cb)))) (gNm 6)) (Cq (CU (Cd Cp (B6 (B8 0) (B6 (Ce CH (Cd D5 (B6 (B8 6) Cb)) (eC (.int 1))) Cb))) (gNm 7)) (sRt (eLC (iRg (B6 (B8 1) Cb)) 1 [6,7,3,4,5] (gNm 0) (tY) (Ce CH (Ce CH (eSl (B8 1) (pNo) (En (B8 2))) (Ce ixG (B8 3) (Ce HA (Ce CH (B8 4) (Ce GF (B8 5) (B8 0))) (eC (.int 36))))) (eSl (B8 1) (En (B8 2)) (pNo))))))))
def DZ:Fn:=fnB 8 Jb
def HJ:Sx:=
  Cq (CU (Cd MG (B6 (Cd DZ (B6 (B8 0) (B6 (Ce CH (eC (.int 1)) (Cd Cp (B6 (B8 0) (B6 (B8 1) Cb)))) (B6 (eC (.int 8)) Cb)))) Cb)) (gNm 4)) (Cq (CU (CL (B6 (Cd DZ (B6 (B8 0) (B6 (Ce CH (B8 2) (eC (.int 2))) (B6 (eC (.int 8)) Cb)))) (B6 (Cd DZ (B6 (B8 0) (B6 (Ce CH (B8 3) (eC (.int 1))) (B6 (eC (.int 8)) Cb)))) Cb))) (gTp 2 (CD (gNm 5) (CD (gNm 6) EA)))) (Cq (CU (Ja Cb) (gNm 7)) (Cq (JC (DJ (B8 4)) (gNm 8) (Cq (QZ 9 10 11 (B6 (Ce CH (eC (.int 1)) (Cd Cp (B6 (B8 0) (B6 (B8 2) Cb)))) (B6 (Cd Cp (B6 (B8 0) (B6 (eC (.int 3)) Cb))) (B6 (Ja Cb) Cb)))) (Cq (JC (iRg (B6 (B8 9) Cb)) (gNm 12) (Cq (CU (CL (B6 (Ce CH (eC (.int 1)) (Cd Cp (B6 (B8 0) (B6 (B8 3) Cb)))) (B6 (Cd Cp (B6 (B8 0) (B6 (eC (.int 2)) Cb))) Cb))) (gTp 2 (CD (gNm 13) (CD (gNm 14) EA)))) (Cq (CU (Cd E9 (B6 (eLC (iRg (B6 (B8 13) Cb)) 1 [6,14] (gNm 0) (tY) (Ce ixG (B8 1) (Ce HA (Ce CH (B8 0) (B8 2)) (Cd D5 (B6 (B8 1) Cb))))) Cb)) (gNm 15)) (sEx (Oe (B8 11) (B6 (CL (B6 (Ce ixG (B8 5) (Ce HA (Ce CH (B8 12) (B8 10)) (Cd D5 (B6 (B8 5) Cb)))) (B6 (B8 15) Cb))) Cb)))))) (sEx (Oe (B8 7) (B6 (CL (B6 (B8 8) (B6 (Cd E9 (B6 (B8 11) Cb)) (B6 (Ce CH (eC (.int 1)) (Cd Cp (B6 (B8 0) (B6 (B8 9) Cb)))) Cb)))) Cb)))))) (sRt (Cd E9 (B6 (B8 7) Cb))))))
def EG:Fn:=fnG 16 HJ
def FK (f:Fn):Sx:=
  Cq (sIf (tV (Ce eqD (Ce ixG (B8 1) (eC (.int 0))) (eC (.str "of")))) (sRt (Ce ixG (eLC (DJ (B8 0)) 1 [1] (gNm 0) (tV (Ce eqD (Ce ixG (B8 0) (eC (.int 0))) (Ce ixG (B8 1) (eC (.int 1))))) (Cd E9 (B6 (eLC (DJ (Ce ixG (B8 0) (eC (.int 1)))) 2 [] (gTp 2 (CD (gNm 0) (CD (gNm 1) EA))) (tY) (B8 0)) Cb))) (eC (.int 0)))) (sNx)) (Cq (CU (Cd f (B6 (B8 0) (B6 (Ce ixG (B8 1) (eC (.int 1))) Cb))) (gNm 2)) (Cq (sIf (tV (Ce eqD (Ce ixG (B8 1) (eC (.int 0))) (eC (.str "columns")))) (sRt (Ce ixG (B8 1) (eC (.int 2)))) (sNx)) (Cq (sIf (tV (Ce eqD (Ce ixG (B8 1) (eC (.int 0))) (eC (.str "called")))) (Cq (CU (Cd dctP (B6 (Cd LV (B6 (Ce ixG (B8 1) (eC (.int 2))) Cb)) Cb)) (gNm 3)) (sRt (Cd E9 (B6 (eLC (DJ (B8 2)) 1 [3] (gNm 0) (tY) (J9 (B8 1) (B6 (B8 0) (B6 (B8 0) Cb)))) Cb)))) (sNx)) (Cq (sIf (tV (Ce eqD (Ce ixG (B8 1) (eC (.int 0))) (eC (.str "join")))) (sRt (Ce CH (B8 2) (Cd E9 (B6 (eLC (DJ (Cd f (B6 (B8 0) (B6 (Ce ixG (B8 1) (eC (.int 2))) Cb)))) 1 [2] (gNm 0) (tV (Ce G7 (B8 0) (B8 1))) (B8 0)) Cb)))) (sNx)) (sRt (B8 2))))))
noncomputable def Dh:Nat->Fn
 | 0=>λ_ _=>none
 | n+1=>fnB 4 (FK (Dh n))
def Jc:Sx:=
  Cq (CU (Ja Cb) (gNm 1)) (Cq (JC (DJ (B8 0)) (gTp 3 (CD (gNm 2) (CD (gNm 3) (CD (gNm 4) EA)))) (JC (DJ (B8 3)) (gTp 2 (CD (gNm 5) (CD (gNm 6) EA))) (sEx (UI (B8 1) (B6 (Cd LV (B6 (B8 6) Cb)) Cb))))) (sRt (Cd MG (B6 (Cd Lc (B6 (B8 1) Cb)) Cb))))
def Gs:Fn:=fnG 7 Jc
def HV:Sx:=
  Cq (CU (Cd CM (B6 (B8 0) (B6 (He (B6 (eC (.str "is")) (B6 (eC (.str "not")) (B6 (eC (.str "like")) (B6 (eC (.str "unlike")) (B6 (eC (.str "is")) Cb)))))) Cb))) (gNm 3)) (sRt (CL (B6 (B8 3) (B6 (Cd CM (B6 (B8 0) (B6 (B8 1) Cb))) (B6 (Cd CM (B6 (B8 0) (B6 (eIf (tV (Ce inG (B8 3) (CL (B6 (eC (.str "is")) (B6 (eC (.str "not")) Cb))))) (B8 2) (B8 1)) Cb))) Cb)))))
def EH:Fn:=fnB 4 HV
def Fv (f:Fn):Sx:=
  Cq (sIf (tV (Ce eqD (Ce ixG (B8 0) (eC (.int 0))) (eC (.str "of")))) (sRt (eC (.int 6))) (sNx)) (Cq (sIf (tV (Ce eqD (Ce ixG (B8 0) (eC (.int 0))) (eC (.str "join")))) (sRt (Ce GF (Cd f (B6 (Ce ixG (B8 0) (eC (.int 1))) Cb)) (Cd f (B6 (Ce ixG (B8 0) (eC (.int 2))) Cb)))) (sNx)) (sRt (Ce CH (Cd f (B6 (Ce ixG (B8 0) (eC (.int 1))) Cb)) (eIf (tV (Ce eqD (Ce ixG (B8 0) (eC (.int 0))) (eC (.str "union")))) (Cd f (B6 (Ce ixG (B8 0) (eC (.int 2))) Cb)) (eC (.int 0))))))
noncomputable def D3:Nat->Fn
 | 0=>λ_ _=>none
 | n+1=>fnB 1 (Fv (D3 n))
def Dj (f:Fn):Sx:=
  Cq (CU (Cd Cp (B6 (B8 0) (B6 (eC (.int 8)) Cb))) (gNm 3)) (Cq (sIf (tO (tV (Ce ltG (B8 2) (eC (.int 2)))) (tV (Ce eqD (B8 3) (eC (.int 0))))) (sRt (CL (B6 (eC (.str "of")) (B6 (Ce ixG (Cd CM (B6 (B8 0) (B6 (B8 1) Cb))) (eC (.int 0))) Cb)))) (sNx)) (Cq (CU (Cd f (B6 (B8 0) (B6 (B8 1) (B6 (Ce Mj (B8 2) (eC (.int 1))) Cb)))) (gNm 4)) (Cq (CU (CL (B6 (Cd (Dh 10) (B6 (B8 1) (B6 (B8 4) Cb))) (B6 (Cd Gs (B6 (B8 1) Cb)) Cb))) (gTp 2 (CD (gNm 5) (CD (gNm 6) EA)))) (Cq (sIf (tV (Ce ltG (B8 3) (eC (.int 3)))) (sRt (CL (B6 (eC (.str "rows")) (B6 (B8 4) (B6 (Cd E9 (B6 (eLC (iRg (B6 (Ce CH (eC (.int 1)) (Cd Cp (B6 (B8 0) (B6 (eC (.int 2)) Cb)))) Cb)) 1 [0,5,6] (gNm 0) (tY) (Cd EH (B6 (B8 1) (B6 (B8 2) (B6 (B8 3) Cb))))) Cb)) Cb))))) (sNx)) (Cq (sIf (tV (Ce eqD (B8 3) (eC (.int 3)))) (Cq (CU (Cd Cp (B6 (B8 0) (B6 (Cd D5 (B6 (B8 5) Cb)) Cb))) (gNm 7)) (sRt (CL (B6 (eC (.str "columns")) (B6 (B8 4) (B6 (eSl (Ce CH (eSl (B8 5) (En (B8 7)) (pNo)) (eSl (B8 5) (pNo) (En (B8 7)))) (pNo) (En (Ce CH (eC (.int 1)) (Cd Cp (B6 (B8 0) (B6 (Cd D5 (B6 (B8 5) Cb)) Cb)))))) Cb)))))) (sNx)) (Cq (sIf (tV (Ce eqD (B8 3) (eC (.int 4)))) (Cq (CU (eLC (DJ (He (B6 (eC (.str "z9")) (B6 (eC (.str "y8")) (B6 (eC (.str "x7")) (B6 (eC (.str "w6")) Cb)))))) 1 [5] (gNm 0) (tV (Ce G7 (B8 0) (B8 1))) (B8 0)) (gNm 8)) (Cq (CU (eLC (DJ (eSl (B8 8) (pNo) (En (eC (.int 1))))) 1 [0,5] (gNm 0) (tY) (CL (B6 (Cd CM (B6 (B8 1) (B6 (B8 2) Cb))) (B6 (B8 0) Cb)))) (gNm 9)) (sRt (eIf (tV (Ce neD (B8 9) (He Cb))) (CL (B6 (eC (.str "called")) (B6 (B8 4) (B6 (Cd E9 (B6 (B8 9) Cb)) Cb)))) (B8 4))))) (sNx)) (Cq (CU (Cd f (B6 (B8 0) (B6 (B8 1) (B6 (Ce Mj (B8 2) (eC (.int 1))) Cb)))) (gNm 10)) (Cq (sIf (tV (Ce eqD (B8 3) (eC (.int 5)))) (sRt (eIf (tV (Ce ltG (Ce GF (Cd (D3 10) (B6 (B8 4) Cb)) (Cd (D3 10) (B6 (B8 10) Cb))) (eC (.int 300)))) (CL (B6 (eC (.str "join")) (B6 (B8 4) (B6 (B8 10) Cb)))) (B8 4))) (sNx)) (Cq (sIf (tV (Ce neD (Cd (Dh 10) (B6 (B8 1) (B6 (B8 10) Cb))) (B8 5))) (CU (eIf (tV (Ce gtD (B8 2) (eC (.int 2)))) (CL (B6 (eC (.str "rows")) (B6 (B8 4) (B6 (CL (B6 (Cd EH (B6 (B8 0) (B6 (B8 5) (B6 (B8 6) Cb)))) Cb)) Cb)))) (B8 4)) (gNm 10)) (sNx)) (sRt (CL (B6 (Ce ixG (He (B6 (eC (.str "union")) (B6 (eC (.str "gap")) Cb))) (Ce Mj (B8 3) (eC (.int 6)))) (B6 (B8 4) (B6 (B8 10) Cb))))))))))))))
noncomputable def EI:Nat->Fn
 | 0=>λ_ _=>none
 | n+1=>fnB 11 (Dj (EI n))
def IH:Sx:=
  sRt (Cd E9 (B6 (Cd MG (B6 (Ce CH (B8 0) (CL (B6 (CL (B6 (B8 1) (B6 (Cd E9 (B6 (eLC (DJ (B8 2)) 1 [] (gNm 0) (tY) (CL (B6 (B8 0) (B6 (CL (B6 (eC (.str "v")) Cb)) Cb)))) Cb)) (B6 (eC (.int 1)) Cb)))) Cb))) Cb)) Cb))
def Ef:Fn:=fnB 3 IH
def JR:Sx:=
  Cq (CU (eLC (DJ (Cd DZ (B6 (B8 0) (B6 (Ce CH (B8 2) (eC (.int 5))) (B6 (eC (.int 8)) Cb))))) 1 [1] (gNm 0) (tV (Ce G7 (B8 0) (eLC (DJ (B8 1)) 1 [] (gNm 0) (tY) (Ce ixG (B8 0) (eC (.int 0)))))) (B8 0)) (gNm 3)) (Cq (NG 4 5 (B6 (B8 1) (B6 (CL Cb) Cb))) (Cq (JC (DJ (eSl (B8 3) (pNo) (En (B8 2)))) (gNm 6) (Cq (CU (Cd (EI 10) (B6 (B8 0) (B6 (B8 4) (B6 (Ce CH (eC (.int 1)) (Cd Cp (B6 (B8 0) (B6 (eC (.int 3)) Cb)))) Cb)))) (gNm 7)) (Cq (CU (Cd (Dh 10) (B6 (B8 4) (B6 (B8 7) Cb))) (gNm 8)) (Cq (sIf (tV (Ce gtD (Cd D5 (B6 (B8 8) Cb)) (eC (.int 4)))) (NG 7 8 (B6 (CL (B6 (eC (.str "columns")) (B6 (B8 7) (B6 (eSl (B8 8) (pNo) (En (eC (.int 4)))) Cb)))) (B6 (eSl (B8 8) (pNo) (En (eC (.int 4)))) Cb))) (sNx)) (Cq (CU (Ce CH (B8 5) (CL (B6 (CL (B6 (B8 6) (B6 (B8 7) Cb))) Cb))) (gNm 5)) (CU (Cd Ef (B6 (B8 4) (B6 (B8 6) (B6 (B8 8) Cb)))) (gNm 4))))))) (sRt (B8 5))))
def F6:Fn:=fnB 9 JR
def Gh:Sx:=
  Cq (sIf (tO (tNt (tV (Gf "str" (B8 0)))) (tNt (tV (GG leD leD (eC (.int 1)) (Cd D5 (B6 (B8 0) Cb)) (eC (.int 8)))))) (sRt (eC (.bl false))) (sNx)) (sRt (Cd IC (B6 (eLC (DJ (B8 0)) 1 [] (gNm 0) (tY) (eO (GG leD leD (eC (.str "a")) (B8 0) (eC (.str "z"))) (GG leD leD (eC (.str "0")) (B8 0) (eC (.str "9"))))) Cb)))
def Dg:Fn:=fnB 1 Gh
def Fi:Sx:=
  Cq (sIf (tO (tNt (tV (Gf "tuple" (B8 1)))) (tO (tV (Ce neD (Cd D5 (B6 (B8 1) Cb)) (eC (.int 3)))) (tNt (tV (Cd IC (B6 (eLC (DJ (B8 1)) 1 [] (gNm 0) (tY) (Gf "str" (B8 0))) Cb)))))) (sRt (eC (.bl false))) (sNx)) (Cq (sIf (tV (Ce G7 (Ce ixG (B8 1) (eC (.int 1))) (B8 0))) (sRt (eC (.bl false))) (sNx)) (Cq (sIf (tV (Ce inG (Ce ixG (B8 1) (eC (.int 0))) (CL (B6 (eC (.str "is")) (B6 (eC (.str "not")) Cb))))) (sRt (Cd Dg (B6 (Ce ixG (B8 1) (eC (.int 2))) Cb))) (sNx)) (sRt (eAn (Ce inG (Ce ixG (B8 1) (eC (.int 0))) (CL (B6 (eC (.str "like")) (B6 (eC (.str "unlike")) Cb)))) (Ce inG (Ce ixG (B8 1) (eC (.int 2))) (B8 0))))))
def DP:Fn:=fnB 2 Fi
def FL:Sx:=
  Cq (sIf (tO (tNt (tV (Gf "tuple" (B8 1)))) (tV (Ce eqG (B8 1) (CL Cb)))) (sRt (eC (.bl false))) (sNx)) (Cq (sIf (tNt (tV (Cd IC (B6 (eLC (DJ (B8 1)) 1 [0] (gNm 0) (tY) (eAn (Gf "str" (B8 0)) (Ce inG (B8 0) (B8 1)))) Cb)))) (sRt (eC (.bl false))) (sNx)) (sRt (Ce eqG (Cd D5 (B6 (Cd Lc (B6 (B8 1) Cb)) Cb)) (Cd D5 (B6 (B8 1) Cb)))))
def DL:Fn:=fnB 2 FL
def Fm:Sx:=
  Cq (sIf (tO (tNt (tV (Gf "tuple" (B8 1)))) (tNt (tV (Cd IC (B6 (eLC (DJ (B8 1)) 1 [] (gNm 0) (tY) (eAn (Gf "tuple" (B8 0)) (Ce eqD (Cd D5 (B6 (B8 0) Cb)) (eC (.int 2))))) Cb))))) (sRt (eC .non)) (sNx)) (Cq (sIf (tNt (tV (Cd DL (B6 (B8 0) (B6 (Cd E9 (B6 (eLC (DJ (B8 1)) 1 [] (gNm 0) (tY) (Ce ixG (B8 0) (eC (.int 0)))) Cb)) Cb))))) (sRt (eC .non)) (sNx)) (Cq (sIf (tNt (tV (Cd IC (B6 (eLC (DJ (B8 1)) 1 [] (gNm 0) (tY) (Cd Dg (B6 (Ce ixG (B8 0) (eC (.int 1))) Cb))) Cb)))) (sRt (eC .non)) (sNx)) (Cq (CU (Cd dctP (B6 (Cd LV (B6 (B8 1) Cb)) Cb)) (gNm 2)) (Cq (CU (Cd E9 (B6 (eLC (DJ (B8 0)) 1 [2] (gNm 0) (tY) (J9 (B8 1) (B6 (B8 0) (B6 (B8 0) Cb)))) Cb)) (gNm 3)) (sRt (eIf (tV (Ce eqD (Cd D5 (B6 (Cd Lc (B6 (B8 3) Cb)) Cb)) (Cd D5 (B6 (B8 3) Cb)))) (B8 3) (eC .non)))))))
def Eb:Fn:=fnB 4 Fm
def ED (f:Fn):Sx:=
  Cq (sIf (tO (tV (Ce eqG (B8 2) (eC (.int 0)))) (tO (tNt (tV (Gf "tuple" (B8 1)))) (tO (tV (Ce G7 (Cd D5 (B6 (B8 1) Cb)) (CL (B6 (eC (.int 2)) (B6 (eC (.int 3)) Cb))))) (tNt (tV (Gf "str" (Ce ixG (B8 1) (eC (.int 0))))))))) (sRt (eC .non)) (sNx)) (Cq (sIf (tV (Ce neD (Ce eqG (Ce ixG (B8 1) (eC (.int 0))) (eC (.str "of"))) (Ce eqG (Cd D5 (B6 (B8 1) Cb)) (eC (.int 2))))) (sRt (eC .non)) (sNx)) (Cq (sIf (tV (Ce eqG (Ce ixG (B8 1) (eC (.int 0))) (eC (.str "of")))) (Cq (CU (eLC (DJ (B8 0)) 1 [1] (gNm 0) (tV (Ce eqG (Ce ixG (B8 0) (eC (.int 0))) (Ce ixG (B8 1) (eC (.int 1))))) (Cd E9 (B6 (eLC (DJ (Ce ixG (B8 0) (eC (.int 1)))) 2 [] (gTp 2 (CD (gNm 0) (CD (gNm 1) EA))) (tY) (B8 0)) Cb))) (gNm 3)) (sRt (eIf (tV (Ce neD (B8 3) (He Cb))) (Ce ixG (B8 3) (eC (.int 0))) (eC .non)))) (sNx)) (Cq (CU (Cd f (B6 (B8 0) (B6 (Ce ixG (B8 1) (eC (.int 1))) (B6 (Ce Mj (B8 2) (eC (.int 1))) Cb)))) (gNm 4)) (Cq (sIf (tV (Ce isD (B8 4) (eC .non))) (sRt (eC .non)) (sNx)) (Cq (sIf (tV (Ce eqG (Ce ixG (B8 1) (eC (.int 0))) (eC (.str "columns")))) (sRt (eIf (tV (Cd DL (B6 (B8 4) (B6 (Ce ixG (B8 1) (eC (.int 2))) Cb)))) (Ce ixG (B8 1) (eC (.int 2))) (eC .non))) (sNx)) (Cq (sIf (tV (Ce eqG (Ce ixG (B8 1) (eC (.int 0))) (eC (.str "called")))) (sRt (Cd Eb (B6 (B8 4) (B6 (Ce ixG (B8 1) (eC (.int 2))) Cb)))) (sNx)) (Cq (sIf (tV (Ce eqG (Ce ixG (B8 1) (eC (.int 0))) (eC (.str "rows")))) (Cq (sIf (tO (tNt (tV (Gf "tuple" (Ce ixG (B8 1) (eC (.int 2)))))) (tNt (tV (GG leD leD (eC (.int 1)) (Cd D5 (B6 (Ce ixG (B8 1) (eC (.int 2))) Cb)) (eC (.int 4)))))) (sRt (eC .non)) (sNx)) (Cq (CU (Cd IC (B6 (eLC (DJ (Ce ixG (B8 1) (eC (.int 2)))) 1 [4] (gNm 0) (tY) (Cd DP (B6 (B8 1) (B6 (B8 0) Cb)))) Cb)) (gNm 5)) (sRt (eIf (tV (B8 5)) (B8 4) (eC .non))))) (sNx)) (Cq (CU (Cd f (B6 (B8 0) (B6 (Ce ixG (B8 1) (eC (.int 2))) (B6 (Ce Mj (B8 2) (eC (.int 1))) Cb)))) (gNm 6)) (Cq (sIf (tO (tV (Ce isD (B8 6) (eC .non))) (tV (Ce G7 (Ce ixG (B8 1) (eC (.int 0))) (CL (B6 (eC (.str "join")) (B6 (eC (.str "union")) (B6 (eC (.str "gap")) Cb))))))) (sRt (eC .non)) (sNx)) (Cq (sIf (tV (Ce eqG (Ce ixG (B8 1) (eC (.int 0))) (eC (.str "join")))) (sRt (Ce CH (B8 4) (Cd E9 (B6 (eLC (DJ (B8 6)) 1 [4] (gNm 0) (tV (Ce G7 (B8 0) (B8 1))) (B8 0)) Cb)))) (sNx)) (sRt (eIf (tV (Ce eqG (B8 4) (B8 6))) (B8 4) (eC .non)))))))))))))
noncomputable def C0:Nat->Fn
 | 0=>λ_ _=>none
 | n+1=>fnB 7 (ED (C0 n))
def F7:Sx:=
  Cq (sIf (tO (tNt (tV (Gf "tuple" (B8 1)))) (tV (Ce gtD (Cd D5 (B6 (B8 1) Cb)) (eC (.int 8))))) (sRt (eC (.bl false))) (sNx)) (Cq (NG 2 3 (B6 (B8 0) (B6 (eCo (DJ (B8 0)) 1 [] (gNm 0) (tY) (stL (Ce ixG (B8 0) (eC (.int 0)))) [] RN) Cb))) (Cq (JC (DJ (B8 1)) (gNm 4) (Cq (sIf (tO (tNt (tV (Gf "tuple" (B8 4)))) (tO (tV (Ce neD (Cd D5 (B6 (B8 4) Cb)) (eC (.int 2)))) (tO (tNt (tV (Gf "str" (Ce ixG (B8 4) (eC (.int 0)))))) (tV (Ce inG (Ce ixG (B8 4) (eC (.int 0))) (B8 3)))))) (sRt (eC (.bl false))) (sNx)) (Cq (CU (Cd (C0 10) (B6 (B8 2) (B6 (Ce ixG (B8 4) (eC (.int 1))) (B6 (eC (.int 8)) Cb)))) (gNm 5)) (Cq (sIf (tO (tNt (tV (Cd Dg (B6 (Ce ixG (B8 4) (eC (.int 0))) Cb)))) (tV (Ce isD (B8 5) (eC .non)))) (sRt (eC (.bl false))) (sNx)) (Cq (sEx (Oe (B8 3) (B6 (Ce ixG (B8 4) (eC (.int 0))) Cb))) (CU (Cd Ef (B6 (B8 2) (B6 (Ce ixG (B8 4) (eC (.int 0))) (B6 (B8 5) Cb)))) (gNm 2))))))) (sRt (eC (.bl true)))))
def EL:Fn:=fnG 6 F7
def Kz:Sx:=
  Cq (CU (Ce ixG (Ce ixG (B8 1) (eC (.int 0))) (eC (.int 0))) (gNm 2)) (sRt (Cd CM (B6 (B8 0) (B6 (He (B6 (eC .non) (B6 (eC (.bl true)) (B6 (eC (.int 0)) (B6 (eC (.str "")) (B6 (eC (.str "of")) (B6 (B8 2) (B6 (eC (.str "A")) (B6 (CL Cb) (B6 (CL (B6 (eC (.str "of")) (B6 (B8 2) Cb))) (B6 (CL (B6 (eC (.str "of")) (B6 (eC (.str "nobody")) Cb))) (B6 (He Cb) (B6 OS (B6 (CL (B6 (B8 2) Cb)) Cb)))))))))))))) Cb))))
def G0:Fn:=fnB 3 Kz
def Dw (f:Fn):Sx:=
  Cq (sIf (tO (tNt (tV (Gf "tuple" (B8 2)))) (tO (tV (Ce eqD (Cd D5 (B6 (B8 2) Cb)) (eC (.int 0)))) (tO (tV (Ce eqD (B8 3) (eC (.int 0)))) (tV (Ce eqD (Cd Cp (B6 (B8 0) (B6 (eC (.int 7)) Cb))) (eC (.int 0))))))) (sRt (Cd G0 (B6 (B8 0) (B6 (B8 1) Cb)))) (sNx)) (Cq (NG 4 5 (B6 (Cd Cp (B6 (B8 0) (B6 (Cd D5 (B6 (B8 2) Cb)) Cb))) (B6 (Cd Cp (B6 (B8 0) (B6 (eC (.int 9)) Cb))) Cb))) (Cq (sIf (tV (Ce eqD (B8 5) (eC (.int 0)))) (sRt (Ce CH (eSl (B8 2) (pNo) (En (B8 4))) (eSl (B8 2) (En (Ce CH (B8 4) (eC (.int 1)))) (pNo)))) (sNx)) (Cq (sIf (tV (Ce eqD (B8 5) (eC (.int 1)))) (sRt (Ce CH (eSl (B8 2) (pNo) (En (Ce CH (B8 4) (eC (.int 1))))) (eSl (B8 2) (En (B8 4)) (pNo)))) (sNx)) (Cq (sIf (tV (Ce eqD (B8 5) (eC (.int 2)))) (sRt (Ce ixG (He (B6 (Cd LV (B6 (B8 2) Cb)) (B6 (e1 WT (B8 2)) (B6 (Ce CH (B8 2) (CL (B6 (Cd G0 (B6 (B8 0) (B6 (B8 1) Cb))) Cb))) Cb)))) (Cd Cp (B6 (B8 0) (B6 (eC (.int 3)) Cb))))) (sNx)) (Cq (CU (Cd f (B6 (B8 0) (B6 (B8 1) (B6 (Ce ixG (B8 2) (B8 4)) (B6 (Ce Mj (B8 3) (eC (.int 1))) Cb))))) (gNm 6)) (sRt (Ce CH (Ce CH (eSl (B8 2) (pNo) (En (B8 4))) (CL (B6 (B8 6) Cb))) (eSl (B8 2) (En (Ce CH (B8 4) (eC (.int 1)))) (pNo)))))))))
noncomputable def CJ:Nat->Fn
 | 0=>λ_ _=>none
 | n+1=>fnB 7 (Dw (CJ n))
def U4:Sx:=
  Cq (JC (iRg (B6 (Cd U1 (B6 (eC (.int 2)) (B6 (Cd OG (B6 (eC (.int 5)) (B6 (Cd D5 (B6 (B8 0) Cb)) Cb))) Cb))) Cb)) (gNm 1) (Cq (CU (Cd Fu (B6 (B8 0) (B6 (B8 1) Cb))) (gNm 2)) (Cq (CU (Cd EG (B6 (B8 2) (B6 (eC (.int 3)) (B6 (eC (.int 3)) (B6 (eC (.int 3)) Cb))))) (gNm 3)) (Cq (CU (Cd F6 (B6 (B8 2) (B6 (B8 3) (B6 (Cd CM (B6 (B8 2) (B6 (He (B6 (eC (.int 1)) (B6 (eC (.int 2)) (B6 (eC (.int 3)) (B6 (eC (.int 0)) (B6 (eC (.int 4)) (B6 (eC (.int 8)) Cb))))))) Cb))) Cb)))) (gNm 4)) (Cq (sIf (tV (Ce Sh (Cd D4 (B6 (B8 3) (B6 (B8 4) Cb))) (eC (.bl true)))) (sRt (eC (.bl false))) (sNx)) (Cq (CU (eLC (iRg (B6 (eC (.int 8)) Cb)) 1 [2,3,4] (gNm 0) (tY) (Cd (CJ 14) (B6 (B8 1) (B6 (B8 2) (B6 (B8 3) (B6 (eC (.int 5)) Cb)))))) (gNm 5)) (Cq (JC (DJ (eSl (B8 4) (pNo) (En (eC (.int 1))))) (gTp 2 (CD (gNm 6) (CD (gNm 7) EA))) (Cq (CU (Ce CH (B8 5) (He (B6 (Ce CH (B8 4) (CL (B6 (CL (B6 (B8 6) (B6 (B8 7) Cb))) Cb))) (B6 (Ce CH (B8 4) (CL (B6 (CL (B6 (Ce ixG (Ce ixG (B8 3) (eC (.int 0))) (eC (.int 0))) (B6 (B8 7) Cb))) Cb))) (B6 (Ce CH (CL (B6 (CL (B6 (eC (.str "y1")) (B6 (CL (B6 (eC (.str "of")) (B6 (eC (.str "y1")) Cb))) Cb))) Cb)) (B8 4)) Cb))))) (gNm 5)) (CU (Ce CH (B8 5) (He (B6 (Ce CH (CL (B6 (CL (B6 (eC (.str "y1")) (B6 (CL (B6 (eC (.str "of")) (B6 (B8 6) Cb))) Cb))) Cb)) (B8 4)) (B6 (Ce CH (B8 4) (CL (B6 (CL (B6 (eC (.str "y1")) (B6 (CL (B6 (eC (.str "of")) (B6 (B8 6) Cb))) Cb))) Cb))) (B6 (Ce Ux (CL (B6 (CL (B6 (B8 6) (B6 (B8 7) Cb))) Cb)) (eC (.int 9))) Cb))))) (gNm 5)))) (JC (DJ (Ce CH (B8 5) (He (B6 (eC .non) (B6 (eC (.bl true)) (B6 (eC (.int 0)) (B6 (eC (.str "")) (B6 (He Cb) (B6 OS (B6 (CL (B6 (CL Cb) Cb)) Cb)))))))))) (gNm 8) (Cq (CU (Cd D4 (B6 (B8 3) (B6 (B8 8) Cb))) (gNm 9)) (sIf (tO (tNt (tV (Gf "bool" (B8 9)))) (tV (Ce neD (B8 9) (Cd EL (B6 (B8 3) (B6 (B8 8) Cb)))))) (sRt (eC (.bl false))) (sNx))))))))))) (sRt (Ce isD (Cd D4 (B6 (CL (B6 (CL (B6 (eC (.str "t")) (B6 (CL (B6 (CL (B6 (eC (.str "x")) (B6 (CL (B6 (eC (.str "y")) Cb)) Cb))) Cb)) (B6 (eC (.int 1)) Cb)))) Cb)) (B6 (CL Cb) Cb))) (eC (.bl true))))
def Nh:Fn:=fnB 10 U4
noncomputable def top (i:Nat):Stmt:=PySem.Challenge.pw_lookback_k66_books_or_not.main.body.getD i (.Pass ⟨0,0,0,0⟩)
abbrev HC:Stmt:=top 3
abbrev Ii:Stmt:=top 4
abbrev DS:Stmt:=top 5
abbrev GL:Stmt:=top 7
abbrev Hg:Stmt:=top 6
abbrev Eh:Stmt:=top 12
abbrev FG:Stmt:=top 17
abbrev Jt:Stmt:=top 21
abbrev FE:Stmt:=top 20
abbrev Ez:Stmt:=top 22
abbrev HD:Stmt:=top 19
abbrev Gk:Stmt:=top 18
abbrev Ep:Stmt:=top 15
abbrev Ew:Stmt:=top 23
abbrev Eo:Stmt:=top 16
abbrev Ic:Stmt:=top 14
abbrev EW:Stmt:=top 13
abbrev JA:Stmt:=top 26
abbrev Ir:Stmt:=top 28
abbrev HZ:Stmt:=top 29
abbrev HQ:Stmt:=top 30
abbrev Gw:Stmt:=top 31
abbrev FO:Stmt:=top 32
abbrev Em:Stmt:=top 33
abbrev Hi:Stmt:=top 34
abbrev Im:Stmt:=top 35
abbrev Jx:Stmt:=top 36
abbrev Fq:Stmt:=top 37
abbrev Gv:Stmt:=top 38
abbrev G2:Stmt:=top 39
abbrev Fd:Stmt:=top 40
abbrev ER:Stmt:=top 41
abbrev EZ:Stmt:=top 42
abbrev DD:Stmt:=top 43
abbrev DO:Stmt:=top 44
abbrev G9:Stmt:=top 45
abbrev Ju:Stmt:=top 46
abbrev GN:Stmt:=top 47
abbrev Lp:Stmt:=top 48
structure Tx (K:PySem.W.Frag) (mg:Str->Option Value):Prop where
 b_all:mg "all"=none
 b_bool:mg "bool"=none
 b_dict:mg "dict"=none
 b_int:mg "int"=none
 b_isinstance:mg "isinstance"=none
 b_len:mg "len"=none
 b_list:mg "list"=none
 b_max:mg "max"=none
 b_min:mg "min"=none
 b_range:mg "range"=none
 b_set:mg "set"=none
 b_sorted:mg "sorted"=none
 b_str:mg "str"=none
 b_tuple:mg "tuple"=none
 g_DEEPEST:∃ t,mg "DEEPEST"=some (.int 8 t)
 g_LONGEST:∃ t,mg "LONGEST"=some (.int 8 t)
 g_MOST_LOOKS:∃ t,mg "MOST_LOOKS"=some (.int 8 t)
 g_MOST_TESTS:∃ t,mg "MOST_TESTS"=some (.int 4 t)
 g_PAIRED:Aa3 K mg "PAIRED" ["join","union","gap"]
 g_SIGNS:∃ t,mg "SIGNS"=some (.str "abcdefghijklmnopqrstuvwxyz0123456789" t)
def BO (P:Program)(w:World)(K:PySem.W.Frag)(mg:Str->Option Value)(base:Heap)(r:Nat)(x:Str)(st:Stmt)(f:Addr)(N:List Str)(m:Sx):Prop:=∀ (cdv:Value) (A:Around) (outer:List Env) (s:Shared) (H:Hp) (E:XK),Room r (A.deeper (envOfC x (Cf st) s.heap.objs.size f cdv))->SVB (MP CX0 P w K mg base N x (Cf st) f cdv A outer s H E).nox (Fo st) m
section
variable {P:Program} {w:World} {K:PySem.W.Frag} {mg:Str->Option Value} {base:Heap}
theorem P6:CB ["thing"] ["thing"] (Cf HC):=by rfl'
theorem Qo {f:Addr}{fd:FuncData}(F:Fun K "is_word" "is_word" HC f fd)(T:Tx K mg) :DM P w K mg base CX0 1 f fd ["thing"] (spF ⟨K,P,w⟩ Dk 1):=by
 have b:BO P w K mg base 0 "is_word" HC f ["thing"] Jv:=λcdv A outer s H E hr=>by
  exact Cc (CA (SVW.t (DI (CZ (CO (EM "str" (B7 0) T.b_isinstance T.b_str boot_str))) (D6 (CZ (KS GB GB Ca (Cr CC T.b_len Bh (B5 (B7 0) B9)) (LN T.g_LONGEST)))))) (Cg (Cj E6)) Cs) (Cg (Cj (Cr (Ea rfl) T.b_all boot_all (B5 (DG ["sign"] [] (by exact Ff (Cf HC) rfl rfl ⟨rfl,by symm,by symm,by symm⟩ True.intro) (CI (B7 0)) Cv (λ_ _ _ _ _=>Ck 0 (show (["sign"]:List Str).Nodup by symm)) (λ_ _ _ _ _=>Dd) (λ_ _ _ _ _=>E8 (Gd hr.units) (B7 0) (WV T.g_SIGNS))) B9))))
 have c:=Df 1 1 F P6 rfl rfl b
 exact c
theorem OY:CB ["thing","least","most"] ["thing","least","most"] (Cf Ii):=by rfl'
theorem Pf {f:Addr}{fd:FuncData}(F:Fun K "is_tuple" "is_tuple" Ii f fd)(T:Tx K mg) :DM P w K mg base CX0 1 f fd ["thing","least","most"] (spF ⟨K,P,w⟩ CY 3):=by
 have b:BO P w K mg base 0 "is_tuple" Ii f ["thing","least","most"] JS:=λcdv A outer s H E hr=>by
  exact Cg (Cj (FJ (EM "tuple" (B7 0) T.b_isinstance T.b_tuple A8) (Gz (Mi GB GB (B7 1) (Cr CC T.b_len Bh (B5 (B7 0) B9)) (B7 2)))))
 have c:=Df 3 3 F OY rfl rfl b
 exact c
theorem IS:CB ["thing"] ["thing"] (Cf DS):=by rfl'
theorem IP {f:Addr}{fd:FuncData}(F:Fun K "is_tuple_of_words" "is_tuple_of_words" DS f fd)(T:Tx K mg)(ES:Cal P w K mg base 1 "is_word" Dk 1):DM P w K mg base CX0 2 f fd ["thing"] (spF ⟨K,P,w⟩ DB 1):=by
 have b:BO P w K mg base 1 "is_tuple_of_words" DS f ["thing"] Er:=λcdv A outer s H E hr=>by
  have hr_is_word:Room 1 _:=hr.mono (by decide)
  exact Cg (Cj (FJ (EM "tuple" (B7 0) T.b_isinstance T.b_tuple A8) (Gz (Cr (Ea rfl) T.b_all boot_all (B5 (DG ["word"] [] (by exact Ff (Cf DS) rfl rfl ⟨rfl,by symm,by symm,by symm⟩ True.intro) (CI (B7 0)) Cv (λ_ _ _ _ _=>Ck 0 (show (["word"]:List Str).Nodup by symm)) (λ_ _ _ _ _=>Dd) (λ_ _ _ _ _=>Ci ES hr_is_word (B5 (B7 0) B9))) B9)))))
 have c:=Df 1 1 F IS rfl rfl b
 exact c
theorem MJ:CB ["things"] ["things"] (Cf GL):=by rfl'
theorem MQ {f:Addr}{fd:FuncData}(F:Fun K "are_unlike" "are_unlike" GL f fd)(T:Tx K mg) :DM P w K mg base CX0 1 f fd ["things"] (spF ⟨K,P,w⟩ Dm 1):=by
 have b:BO P w K mg base 0 "are_unlike" GL f ["things"] GQ:=λcdv A outer s H E hr=>by
  exact Cg (Cj (E8 (Dr hr.units) (Cr CC T.b_len Bh (B5 (CG (Jk rfl) T.b_set boot_set (B5 (B7 0) B9)) B9)) (Cr CC T.b_len Bh (B5 (B7 0) B9))))
 have c:=Df 1 1 F MJ rfl rfl b
 exact c
theorem NL:CB ["thing","least","most"] ["thing","least","most"] (Cf Hg):=by rfl'
theorem Ox {f:Addr}{fd:FuncData}(F:Fun K "are_words" "are_words" Hg f fd)(T:Tx K mg)(Dq:Cal P w K mg base 1 "is_tuple" CY 3)(JE:Cal P w K mg base 2 "is_tuple_of_words" DB 1)(FW:Cal P w K mg base 1 "are_unlike" Dm 1):DM P w K mg base CX0 3 f fd ["thing","least","most"] (spF ⟨K,P,w⟩ E1 3):=by
 have b:BO P w K mg base 2 "are_words" Hg f ["thing","least","most"] Hh:=λcdv A outer s H E hr=>by
  have hr_is_tuple:Room 1 _:=hr.mono (by decide)
  have hr_is_tuple_of_words:Room 2 _:=hr.mono (by decide)
  have hr_are_unlike:Room 1 _:=hr.mono (by decide)
  exact Cg (Cj (FJ (Ci Dq hr_is_tuple (B5 (B7 0) (B5 (B7 1) (B5 (B7 2) B9)))) (FJ (Ci JE hr_is_tuple_of_words (B5 (B7 0) B9)) (Gz (Ci FW hr_are_unlike (B5 (B7 0) B9))))))
 have c:=Df 3 3 F NL rfl rfl b
 exact c
theorem J4:CB ["schema"] ["schema"] (Cf Eh):=by rfl'
theorem JM {f:Addr}{fd:FuncData}(F:Fun K "columns_by_name" "columns_by_name" Eh f fd)(T:Tx K mg) :DM P w K mg base CX0 1 f fd ["schema"] (spF ⟨K,P,w⟩ Ec 1):=by
 have b:BO P w K mg base 0 "columns_by_name" Eh f ["schema"] FT:=λcdv A outer s H E hr=>by
  exact Cg (Cj (AaX ["table"] [] (Aal hr.units YX ["table"] [] (by exact Ff (Cf Eh) rfl rfl ⟨rfl,by symm,by symm,by symm⟩ True.intro) (CI (B7 0)) PJ (λ_ _ _ _ _=>Ck 0 (show (["table"]:List Str).Nodup by symm)) (λ_ _ _ _ _=>Dd) (λ_ _ _ _ _=>Cu (CK hr.units) (B7 0) Ca) (λ_ _ _ _ _=>CG Du T.b_tuple A8 (B5 (DG ["column"] [] (by exact Ry rfl rfl (by symm) (by symm) (by symm) (by symm)) (CI (Cu (CK hr.units) (B7 0) Ca)) Cv (λ_ _ _ _ _=>Ck 0 (show (["column"]:List Str).Nodup by symm)) (λ_ _ _ _ _=>Dd) (λ_ _ _ _ _=>Cu (CK hr.units) (B7 0) Ca)) B9))) rfl))
 have c:=Df 1 1 F J4 rfl rfl b
 exact c
theorem ML:CB ["columns","words"] ["columns","words"] (Cf FG):=by rfl'
theorem MF {f:Addr}{fd:FuncData}(F:Fun K "are_within" "are_within" FG f fd)(T:Tx K mg) :DM P w K mg base CX0 1 f fd ["columns","words"] (spF ⟨K,P,w⟩ DA 2):=by
 have b:BO P w K mg base 0 "are_within" FG f ["columns","words"] HP:=λcdv A outer s H E hr=>by
  exact Cg (Cj (Cr (Ea rfl) T.b_all boot_all (B5 (DG ["word"] [(0,"columns")] (by exact Ff (Cf FG) rfl rfl ⟨rfl,by symm,by symm,by symm⟩ ⟨⟨rfl,.inl rfl,.inl rfl⟩,True.intro⟩) (CI (B7 1)) Cv (λ_ _ _ _ _=>Ck 0 (show (["word","columns"]:List Str).Nodup by symm)) (λ_ _ _ _ _=>Dd) (λ_ _ _ _ _=>E8 (Gd hr.units) (B7 0) (B7 1))) B9)))
 have c:=Df 2 2 F ML rfl rfl b
 exact c
theorem PN:CB ["thing"] ["thing"] (Cf Jt):=by rfl'
theorem Qq {f:Addr}{fd:FuncData}(F:Fun K "is_pair" "is_pair" Jt f fd)(T:Tx K mg)(Dq:Cal P w K mg base 1 "is_tuple" CY 3)(ES:Cal P w K mg base 1 "is_word" Dk 1):DM P w K mg base CX0 2 f fd ["thing"] (spF ⟨K,P,w⟩ GS 1):=by
 have b:BO P w K mg base 1 "is_pair" Jt f ["thing"] KU:=λcdv A outer s H E hr=>by
  have hr_is_tuple:Room 1 _:=hr.mono (by decide)
  have hr_is_word:Room 1 _:=hr.mono (by decide)
  exact Cg (Cj (FJ (Ci Dq hr_is_tuple (B5 (B7 0) (B5 Ca (B5 Ca B9)))) (FJ (Ci ES hr_is_word (B5 (Cu (CK hr.units) (B7 0) Ca) B9)) (Gz (Ci ES hr_is_word (B5 (Cu (CK hr.units) (B7 0) Ca) B9))))))
 have c:=Df 1 1 F PN rfl rfl b
 exact c
theorem Ki:CB ["columns","thing","named"] ["columns","thing"] (Cf FE):=by rfl'
theorem NK {f:Addr}{fd:FuncData}(F:Fun K "are_pairs" "are_pairs" FE f fd)(T:Tx K mg)(Dq:Cal P w K mg base 1 "is_tuple" CY 3)(RT:Cal P w K mg base 2 "is_pair" GS 1)(FW:Cal P w K mg base 1 "are_unlike" Dm 1)(FQ:Cal P w K mg base 1 "are_within" DA 2):DM P w K mg base CX0 3 f fd ["columns","thing"] (spF ⟨K,P,w⟩ Gm 2):=by
 have b:BO P w K mg base 2 "are_pairs" FE f ["columns","thing","named"] IE:=λcdv A outer s H E hr=>by
  have hr_is_tuple:Room 1 _:=hr.mono (by decide)
  have hr_is_pair:Room 2 _:=hr.mono (by decide)
  have hr_are_unlike:Room 1 _:=hr.mono (by decide)
  have hr_are_within:Room 1 _:=hr.mono (by decide)
  exact Cc (CA (SVW.t (DI (CZ (CO (Ci Dq hr_is_tuple (B5 (B7 1) (B5 Ca (B5 (Cr CC T.b_len Bh (B5 (B7 0) B9)) B9)))))) (D6 (CZ (CO (Cr (Ea rfl) T.b_all boot_all (B5 (DG ["pair"] [] (by exact Ff (Cf FE) rfl rfl ⟨rfl,by symm,by symm,by symm⟩ True.intro) (CI (B7 1)) Cv (λ_ _ _ _ _=>Ck 0 (show (["pair"]:List Str).Nodup by symm)) (λ_ _ _ _ _=>Dd) (λ_ _ _ _ _=>Ci RT hr_is_pair (B5 (B7 0) B9))) B9))))))) (Cg (Cj E6)) Cs) (Cc (Gb 2 ["pair"] [] (by exact Ff (Cf FE) rfl rfl ⟨rfl,by symm,by symm,by symm⟩ True.intro) (CI (B7 1)) Cv (λ_ _ _ _ _=>Ck 0 (show (["pair"]:List Str).Nodup by symm)) (λ_ _ _ _ _=>Dd) (λ_ _ _ _ _=>Cu (CK hr.units) (B7 0) Ca) Ki.nd) (Cg (Cj (FJ (Ci FW hr_are_unlike (B5 (B7 2) B9)) (Gz (Ci FQ hr_are_within (B5 (B7 0) (B5 (B7 2) B9))))))))
 have c:=Df 3 2 F Ki rfl rfl b
 exact c
theorem Hl:CB ["columns","pairs","names"] ["columns","pairs"] (Cf Ez):=by rfl'
theorem Kt {f:Addr}{fd:FuncData}(F:Fun K "called_columns" "called_columns" Ez f fd)(T:Tx K mg) :DM P w K mg base CX0 1 f fd ["columns","pairs"] (spF ⟨K,P,w⟩ Es 2):=by
 have b:BO P w K mg base 0 "called_columns" Ez f ["columns","pairs","names"] F2:=λcdv A outer s H E hr=>by
  exact Cc (Cy 2 Hl.nd (CG (Le hr.units rfl) T.b_dict (by symm) (B5 (B7 1) B9))) (Cg (Cj (CG Du T.b_tuple A8 (B5 (DG ["column"] [(2,"names")] (by exact Ff (Cf Ez) rfl rfl ⟨rfl,by symm,by symm,by symm⟩ ⟨⟨rfl,.inl rfl,.inl rfl⟩,True.intro⟩) (CI (B7 0)) Cv (λ_ _ _ _ _=>Ck 0 (show (["column","names"]:List Str).Nodup by symm)) (λ_ _ _ _ _=>Dd) (λ_ _ _ _ _=>Ot hr.units (B7 1) (B5 (B7 0) (B5 (B7 0) B9)))) B9))))
 have c:=Df 3 2 F Hl rfl rfl b
 exact c
theorem Ie:CB ["columns","thing","word","column","other"] ["columns","thing"] (Cf HD):=by rfl'
theorem QP {f:Addr}{fd:FuncData}(F:Fun K "is_test" "is_test" HD f fd)(T:Tx K mg)(Dq:Cal P w K mg base 1 "is_tuple" CY 3)(ES:Cal P w K mg base 1 "is_word" Dk 1)(FQ:Cal P w K mg base 1 "are_within" DA 2):DM P w K mg base CX0 2 f fd ["columns","thing"] (spF ⟨K,P,w⟩ GW 2):=by
 have b:BO P w K mg base 1 "is_test" HD f ["columns","thing","word","column","other"] KJ:=λcdv A outer s H E hr=>by
  have hr_is_tuple:Room 1 _:=hr.mono (by decide)
  have hr_is_word:Room 1 _:=hr.mono (by decide)
  have hr_are_within:Room 1 _:=hr.mono (by decide)
  exact Cc (CA (SVW.t (DI (CZ (CO (Ci Dq hr_is_tuple (B5 (B7 1) (B5 Ca (B5 Ca B9)))))) (D6 (CZ (CO (Cr (Ea rfl) T.b_all boot_all (B5 (DG ["part"] [] (by exact Ff (Cf HD) rfl rfl ⟨rfl,by symm,by symm,by symm⟩ True.intro) (CI (B7 1)) Cv (λ_ _ _ _ _=>Ck 0 (show (["part"]:List Str).Nodup by symm)) (λ_ _ _ _ _=>Dd) (λ_ _ _ _ _=>Ci ES hr_is_word (B5 (B7 0) B9))) B9))))))) (Cg (Cj E6)) Cs) (Cc (Hf (B7 1) (Gi rfl (CW (Ck 2 Ie.nd) (CW (Ck 3 Ie.nd) (CW (Ck 4 Ie.nd) Fh))))) (Cc (CA (Cm (Gd hr.units) (B7 2) (Cw (B5 Ct (B5 Ct B9)))) (Cg (Cj (E8 (Gd hr.units) (B7 3) (B7 0)))) Cs) (Cg (Cj (FJ (E8 (Gd hr.units) (B7 2) (Cw (B5 Ct (B5 Ct B9)))) (Gz (Ci FQ hr_are_within (B5 (B7 0) (B5 (Cw (B5 (B7 3) (B5 (B7 4) B9))) B9)))))))))
 have c:=Df 5 2 F Ie rfl rfl b
 exact c
theorem N6:CB ["columns","thing"] ["columns","thing"] (Cf Gk):=by rfl'
theorem NZ {f:Addr}{fd:FuncData}(F:Fun K "are_tests" "are_tests" Gk f fd)(T:Tx K mg)(Dq:Cal P w K mg base 1 "is_tuple" CY 3)(SX:Cal P w K mg base 2 "is_test" GW 2):DM P w K mg base CX0 3 f fd ["columns","thing"] (spF ⟨K,P,w⟩ Gq 2):=by
 have b:BO P w K mg base 2 "are_tests" Gk f ["columns","thing"] IL:=λcdv A outer s H E hr=>by
  have hr_is_tuple:Room 1 _:=hr.mono (by decide)
  have hr_is_test:Room 2 _:=hr.mono (by decide)
  exact Cg (Cj (FJ (Ci Dq hr_is_tuple (B5 (B7 1) (B5 Ca (B5 (LN T.g_MOST_TESTS) B9)))) (Gz (Cr (Ea rfl) T.b_all boot_all (B5 (DG ["test"] [(0,"columns")] (by exact Ff (Cf Gk) rfl rfl ⟨rfl,by symm,by symm,by symm⟩ ⟨⟨rfl,.inl rfl,.inl rfl⟩,True.intro⟩) (CI (B7 1)) Cv (λ_ _ _ _ _=>Ck 0 (show (["test","columns"]:List Str).Nodup by symm)) (λ_ _ _ _ _=>Dd) (λ_ _ _ _ _=>Ci SX hr_is_test (B5 (B7 1) (B5 (B7 0) B9)))) B9)))))
 have c:=Df 2 2 F N6 rfl rfl b
 exact c
theorem Gp:CB ["columns","word","part","behind"] ["columns","word","part"] (Cf Ep):=by rfl'
theorem IT {f:Addr}{fd:FuncData}(F:Fun K "columns_if_single" "columns_if_single" Ep f fd)(T:Tx K mg)(O3:Cal P w K mg base 3 "are_tests" Gq 2)(OJ:Cal P w K mg base 3 "are_words" E1 3)(FQ:Cal P w K mg base 1 "are_within" DA 2)(Pu:Cal P w K mg base 3 "are_pairs" Gm 2)(KA:Cal P w K mg base 1 "called_columns" Es 2)(FW:Cal P w K mg base 1 "are_unlike" Dm 1):DM P w K mg base CX0 4 f fd ["columns","word","part"] (spF ⟨K,P,w⟩ DQ 3):=by
 have b:BO P w K mg base 3 "columns_if_single" Ep f ["columns","word","part","behind"] Fc:=λcdv A outer s H E hr=>by
  have hr_are_tests:Room 3 _:=hr.mono (by decide)
  have hr_are_words:Room 3 _:=hr.mono (by decide)
  have hr_are_within:Room 1 _:=hr.mono (by decide)
  have hr_are_pairs:Room 3 _:=hr.mono (by decide)
  have hr_called_columns:Room 1 _:=hr.mono (by decide)
  have hr_are_unlike:Room 1 _:=hr.mono (by decide)
  exact Cc (CA (Cm (Dr hr.units) (B7 1) Ct) (Cg (Cj (DK (CO (Ci O3 hr_are_tests (B5 (B7 0) (B5 (B7 2) B9)))) (B7 0) Dn))) Cs) (Cc (CA (Cm (Dr hr.units) (B7 1) Ct) (Cg (Cj (DK (SVW.t (Rk (CO (Ci OJ hr_are_words (B5 (B7 2) (B5 Ca (B5 (Cr CC T.b_len Bh (B5 (B7 0) B9)) B9))))) (OH (CO (Ci FQ hr_are_within (B5 (B7 0) (B5 (B7 2) B9))))))) (B7 2) Dn))) Cs) (Cc (CA (SVW.t (Rk (Cm (Dr hr.units) (B7 1) Ct) (OH (CO (Ci Pu hr_are_pairs (B5 (B7 0) (B5 (B7 2) B9))))))) (Cc (Cy 3 Gp.nd (Ci KA hr_called_columns (B5 (B7 0) (B5 (B7 2) B9)))) (Cg (Cj (DK (CO (Ci FW hr_are_unlike (B5 (B7 3) B9))) (B7 3) Dn)))) Cs) (Cg (Cj Dn))))
 have c:=Df 4 3 F Gp rfl rfl b
 exact c
theorem Kd:CB ["one","other"] ["one","other"] (Cf Ew):=by rfl'
theorem Kj {f:Addr}{fd:FuncData}(F:Fun K "joined_columns" "joined_columns" Ew f fd)(T:Tx K mg) :DM P w K mg base CX0 1 f fd ["one","other"] (spF ⟨K,P,w⟩ EE 2):=by
 have b:BO P w K mg base 0 "joined_columns" Ew f ["one","other"] F1:=λcdv A outer s H E hr=>by
  exact Cg (Cj (Cn Cz (B7 0) (CG Du T.b_tuple A8 (B5 (DG ["column"] [(0,"one")] (by exact Ff (Cf Ew) rfl rfl ⟨rfl,by symm,by symm,by symm⟩ ⟨⟨rfl,.inl rfl,.inl rfl⟩,True.intro⟩) (CI (B7 1)) Cv (λ_ _ _ _ _=>Ck 0 (show (["column","one"]:List Str).Nodup by symm)) (λ_ _ _ _ _=>HX (Cm (GP hr.units) (B7 0) (B7 1))) (λ_ _ _ _ _=>B7 0)) B9))))
 have c:=Df 2 2 F Kd rfl rfl b
 exact c
theorem IU:CB ["one","word","other"] ["one","word","other"] (Cf Eo):=by rfl'
theorem IX {f:Addr}{fd:FuncData}(F:Fun K "columns_if_paired" "columns_if_paired" Eo f fd)(T:Tx K mg)(Ky:Cal P w K mg base 1 "joined_columns" EE 2):DM P w K mg base CX0 2 f fd ["one","word","other"] (spF ⟨K,P,w⟩ DV 3):=by
 have b:BO P w K mg base 1 "columns_if_paired" Eo f ["one","word","other"] E7:=λcdv A outer s H E hr=>by
  have hr_joined_columns:Room 1 _:=hr.mono (by decide)
  exact Cc (CA (Cm (Dr hr.units) (B7 1) Ct) (Cg (Cj (Ci Ky hr_joined_columns (B5 (B7 0) (B5 (B7 2) B9))))) Cs) (Cg (Cj (DK (Cm (Dr hr.units) (B7 0) (B7 2)) (B7 0) Dn)))
 have c:=Df 3 3 F IU rfl rfl b
 exact c
theorem OZ:CB ["known","thing"] ["known","thing"] (Cf Ic):=by rfl'
theorem O7 {f:Addr}{fd:FuncData}(F:Fun K "is_named" "is_named" Ic f fd)(T:Tx K mg)(ES:Cal P w K mg base 1 "is_word" Dk 1):DM P w K mg base CX0 2 f fd ["known","thing"] (spF ⟨K,P,w⟩ Fp 2):=by
 have b:BO P w K mg base 1 "is_named" Ic f ["known","thing"] HK:=λcdv A outer s H E hr=>by
  have hr_is_word:Room 1 _:=hr.mono (by decide)
  exact Cg (Cj (FJ (E8 (Dr hr.units) (Cr CC T.b_len Bh (B5 (B7 1) B9)) Ca) (FJ (Ci ES hr_is_word (B5 (Cu (CK hr.units) (B7 1) Ca) B9)) (Gz (E8 (Gd hr.units) (Cu (CK hr.units) (B7 1) Ca) (B7 0))))))
 have c:=Df 2 2 F OZ rfl rfl b
 exact c
theorem Ft:CB ["known","thing","depth","one","other"] ["known","thing","depth"] (Cf EW):=by rfl'
theorem G8 {f:Addr}{fd:FuncData}(F:Fun K "columns_if_look" "columns_if_look" EW f fd)(hm:mg "columns_if_look"=some (.ref f))(hb:Binds K fd ["known","thing","depth"] [])(T:Tx K mg)(Dq:Cal P w K mg base 1 "is_tuple" CY 3)(Me:Cal P w K mg base 2 "is_named" Fp 2)(GI:Cal P w K mg base 4 "columns_if_single" DQ 3)(GJ:Cal P w K mg base 2 "columns_if_paired" DV 3):∀ n,DM P w K mg base CX0 (n+5) f fd ["known","thing","depth"] (spF ⟨K,P,w⟩ (CP n) 3)
 | 0=>⟨λvs H Q E h=>by obtain ⟨th,mu,ds,_,r,hl,_⟩:=h;rw [r.len];exact hl,λA outer s H args us vs Q E hr he hb hv h=>by obtain ⟨th,mu,ds,_,r,hl,t⟩:=h;exact t.no.elim⟩
 | n+1=>by
  have EV:Cal P w K mg base (n+5) "columns_if_look" (CP n) 3:=CQ F hm (G8 F hm hb T Dq Me GI GJ n) hb
  have b:BO P w K mg base (n+5) "columns_if_look" EW f ["known","thing","depth","one","other"] (EJ (CP n)):=λcdv A outer s H E hr=>by
   have hr_is_tuple:Room 1 _:=hr.mono (by ext)
   have hr_is_named:Room 2 _:=hr.mono (by ext)
   have hr_columns_if_single:Room 4 _:=hr.mono (by ext)
   have hr_columns_if_paired:Room 2 _:=hr.mono (by ext)
   have hr_columns_if_look:Room (n+5) _:=hr
   exact Cc (CA (SVW.t (DI (Cm (Dr hr.units) (B7 2) Ca) (DI (CZ (CO (Ci Dq hr_is_tuple (B5 (B7 1) (B5 Ca (B5 Ca B9)))))) (D6 (CZ (CO (EM "str" (Cu (CK hr.units) (B7 1) Ca) T.b_isinstance T.b_str boot_str))))))) (Cg (Cj Dn)) Cs) (Cc (CA (Cm (Dr hr.units) (Cu (CK hr.units) (B7 1) Ca) Ct) (Cg (Cj (DK (CO (Ci Me hr_is_named (B5 (B7 0) (B5 (B7 1) B9)))) (Cu (CK hr.units) (B7 0) (Cu (CK hr.units) (B7 1) Ca)) Dn))) Cs) (Cc (Cy 3 Ft.nd (DK (Cm (Dr hr.units) (Cr CC T.b_len Bh (B5 (B7 1) B9)) Ca) (Ci EV hr_columns_if_look (B5 (B7 0) (B5 (Cu (CK hr.units) (B7 1) Ca) (B5 (Cn GO (B7 2) Ca) B9)))) Dn)) (Cc (CA (Cm JT (B7 3) Dn) (Cg (Cj Dn)) Cs) (Cc (CA (Cm (GP hr.units) (Cu (CK hr.units) (B7 1) Ca) (VB T.g_PAIRED)) (Cg (Cj (Ci GI hr_columns_if_single (B5 (B7 3) (B5 (Cu (CK hr.units) (B7 1) Ca) (B5 (Cu (CK hr.units) (B7 1) Ca) B9)))))) Cs) (Cc (Cy 4 Ft.nd (Ci EV hr_columns_if_look (B5 (B7 0) (B5 (Cu (CK hr.units) (B7 1) Ca) (B5 (Cn GO (B7 2) Ca) B9))))) (Cg (Cj (DK (Cm JT (B7 4) Dn) Dn (Ci GJ hr_columns_if_paired (B5 (B7 3) (B5 (Cu (CK hr.units) (B7 1) Ca) (B5 (B7 4) B9))))))))))))
  have c:=Df 5 3 F Ft rfl rfl b
  exact c
theorem HW:CB ["schema","thing","known","pair","columns"] ["schema","thing"] (Cf JA):=by rfl'
theorem QJ {f:Addr}{fd:FuncData}(F:Fun K "is_book" "is_book" JA f fd)(T:Tx K mg)(Dq:Cal P w K mg base 1 "is_tuple" CY 3)(Ks:Cal P w K mg base 1 "columns_by_name" Ec 1)(ES:Cal P w K mg base 1 "is_word" Dk 1)(EV:Cal P w K mg base 15 "columns_if_look" (CP 10) 3):DM P w K mg base CX0 16 f fd ["schema","thing"] (spF ⟨K,P,w⟩ D4 2):=by
 have b:BO P w K mg base 15 "is_book" JA f ["schema","thing","known","pair","columns"] GX:=λcdv A outer s H E hr=>by
  have hr_is_tuple:Room 1 _:=hr.mono (by decide)
  have hr_columns_by_name:Room 1 _:=hr.mono (by decide)
  have hr_is_word:Room 1 _:=hr.mono (by decide)
  have hr_columns_if_look:Room 15 _:=hr.mono (by decide)
  exact Cc (CA (CZ (CO (Ci Dq hr_is_tuple (B5 (B7 1) (B5 Ca (B5 (LN T.g_MOST_LOOKS) B9)))))) (Cg (Cj E6)) Cs) (Cc (Cy 2 HW.nd (Ci Ks hr_columns_by_name (B5 (B7 0) B9))) (Cc (Gj BG rfl (CI (B7 1)) (Ck 3 HW.nd) (Cc (CA (SVW.t (DI (CZ (CO (Ci Dq hr_is_tuple (B5 (B7 3) (B5 Ca (B5 Ca B9)))))) (DI (CZ (CO (Ci ES hr_is_word (B5 (Cu (CK hr.units) (B7 3) Ca) B9)))) (D6 (Cm (Gd hr.units) (Cu (CK hr.units) (B7 3) Ca) (B7 2)))))) (Cg (Cj E6)) Cs) (Cc (Cy 4 HW.nd (Ci EV hr_columns_if_look (B5 (B7 2) (B5 (Cu (CK hr.units) (B7 3) Ca) (B5 (LN T.g_DEEPEST) B9))))) (Cc (CA (Cm JT (B7 4) Dn) (Cg (Cj E6)) Cs) (Cg (Hf (B7 4) (QA hr.units (B7 2) (Cu (CK hr.units) (B7 3) Ca)))))))) (Cg (Cj E6))))
 have c:=N7 5 2 F HW rfl rfl b
 exact c
theorem Jj:CB ["_law_script","_law_k","_law_cell"] ["_law_script","_law_k"] (Cf Ir):=by rfl'
theorem OB {f:Addr}{fd:FuncData}(F:Fun K "_law_hand" "_law_hand" Ir f fd)(T:Tx K mg) :DM P w K mg base CX0 1 f fd ["_law_script","_law_k"] (spF ⟨K,P,w⟩ Fu 2):=by
 have b:BO P w K mg base 0 "_law_hand" Ir f ["_law_script","_law_k","_law_cell"] Ib:=λcdv A outer s H E hr=>by
  exact Cc (Cy 2 Jj.nd Ca) (Cc (CA (Cm (Oj hr.units) (B7 1) (Cr CC T.b_len Bh (B5 (B7 0) B9))) (Cg (Cy 2 Jj.nd (Cu (CK hr.units) (B7 0) (B7 1)))) Cs) (Cg (Cj (LD (B5 (Cn E5 (B7 2) (CG S5 T.b_int boot_int (B5 (E8 XY (B7 2) (Cn Xe Ca Ca)) B9))) (B5 (Cn Cz (Cn Cz (Cn GK (B7 2) Ca) (Cn E5 Ca (B7 1))) Ca) (B5 Ca B9)))))))
 have c:=Df 3 2 F Jj rfl rfl b
 exact c
theorem Fw:CB ["_law_hand_here","_law_many","_law_digit","_law_turn","_law_mixed","_law_other"] ["_law_hand_here","_law_many"] (Cf HZ):=by rfl'
theorem OU {f:Addr}{fd:FuncData}(F:Fun K "_law_take" "_law_take" HZ f fd)(T:Tx K mg) :DM P w K mg base CX0 1 f fd ["_law_hand_here","_law_many"] (spF ⟨K,P,w⟩ Cp 2):=by
 have b:BO P w K mg base 0 "_law_take" HZ f ["_law_hand_here","_law_many","_law_digit","_law_turn","_law_mixed","_law_other"] HL:=λcdv A outer s H E hr=>by
  exact Cc (CA (Cm Oa (Cu (CK hr.units) (B7 0) Ca) Ca) (Cc (Cy 2 Fw.nd (Cn GK (Cu (CK hr.units) (B7 0) Ca) (B7 1))) (Cc (Hf (Cn MB (Cu (CK hr.units) (B7 0) Ca) (B7 1)) (QA hr.units (B7 0) Ca)) (Cg (Cj (B7 2))))) Cs) (Cc (Hf (Cn Cz (Cu (CK hr.units) (B7 0) Ca) Ca) (QA hr.units (B7 0) Ca)) (Cc (Cy 3 Fw.nd (Cu (CK hr.units) (B7 0) Ca)) (Cc (Cy 4 Fw.nd (Cn GK (Cn E5 (Cu (CK hr.units) (B7 0) Ca) (Cn Cz (Cn Cz Ca (Cn E5 (Cn E5 Ca (B7 3)) (B7 3))) (Cn E5 Ca (B7 3)))) Ca)) (Cc (Cy 5 Fw.nd (Cn Cz (Cn Cz (Cn GK (B7 4) Ca) (Cn E5 (B7 3) Ca)) Ca)) (Cc (Cy 4 Fw.nd (Cn GK (Cn E5 (B7 4) (B7 5)) Ca)) (Cg (Cj (Cn GK (Cn Cz (Cn MB (B7 4) Ca) (Cn MB (B7 4) Ca)) (B7 1)))))))))
 have c:=Df 6 2 F Fw rfl rfl b
 exact c
theorem O2:CB ["_law_hand_here","_law_some"] ["_law_hand_here","_law_some"] (Cf HQ):=by rfl'
theorem Pp {f:Addr}{fd:FuncData}(F:Fun K "_law_pick" "_law_pick" HQ f fd)(T:Tx K mg)(CF:Cal P w K mg base 1 "_law_take" Cp 2):DM P w K mg base CX0 2 f fd ["_law_hand_here","_law_some"] (spF ⟨K,P,w⟩ CM 2):=by
 have b:BO P w K mg base 1 "_law_pick" HQ f ["_law_hand_here","_law_some"] Ig:=λcdv A outer s H E hr=>by
  have hr_law_take:Room 1 _:=hr.mono (by decide)
  exact Cg (Cj (Cu (CK hr.units) (B7 1) (Ci CF hr_law_take (B5 (B7 0) (B5 (Cr CC T.b_len Bh (B5 (B7 1) B9)) B9)))))
 have c:=Df 2 2 F O2 rfl rfl b
 exact c
theorem E4:CB ["_law_hand_here","_law_many","_law_most","_law_signs","_law_first","_law_step","_law_stem","_law_at"] ["_law_hand_here","_law_many","_law_most"] (Cf Gw):=by rfl'
theorem NW {f:Addr}{fd:FuncData}(F:Fun K "_law_words" "_law_words" Gw f fd)(T:Tx K mg)(CF:Cal P w K mg base 1 "_law_take" Cp 2)(Dz:Cal P w K mg base 2 "_law_pick" CM 2):DM P w K mg base CX0 3 f fd ["_law_hand_here","_law_many","_law_most"] (spF ⟨K,P,w⟩ DZ 3):=by
 have b:BO P w K mg base 2 "_law_words" Gw f ["_law_hand_here","_law_many","_law_most","_law_signs","_law_first","_law_step","_law_stem","_law_at"] Jb:=λcdv A outer s H E hr=>by
  have hr_law_take:Room 1 _:=hr.mono (by decide)
  have hr_law_pick:Room 2 _:=hr.mono (by decide)
  exact Cc (Cy 3 E4.nd Ct) (Cc (Hf (Cw (B5 (Ci CF hr_law_take (B5 (B7 0) (B5 Ca B9))) (B5 (Ci Dz hr_law_pick (B5 (B7 0) (B5 (Fs (B5 Ca (B5 Ca (B5 Ca (B5 Ca (B5 Ca (B5 Ca B9))))))) B9))) B9))) (Gi rfl (CW (Ck 4 E4.nd) (CW (Ck 5 E4.nd) Fh)))) (Cc (Cy 6 E4.nd (Cn E5 (Cu (CK hr.units) (B7 3) (Ci CF hr_law_take (B5 (B7 0) (B5 Ca B9)))) (Cr (Nu rfl) T.b_min boot_min (B5 (Cn GO (B7 2) Ca) (B5 (Ci Dz hr_law_pick (B5 (B7 0) (B5 (Fs (B5 Ca (B5 Ca (B5 Ca (B5 Ca (B5 Ca B9)))))) B9))) B9))))) (Cc (Cy 7 E4.nd (Ci CF hr_law_take (B5 (B7 0) (B5 (Cn Cz (Cr CC T.b_len Bh (B5 (B7 6) B9)) Ca) B9)))) (Cg (Cj (DG ["_law_k"] [(6,"_law_stem"),(7,"_law_at"),(3,"_law_signs"),(4,"_law_first"),(5,"_law_step")] (by exact Ff (Cf Gw) rfl rfl ⟨rfl,by symm,by symm,by symm⟩ ⟨⟨rfl,.inl rfl,.inl rfl⟩,⟨rfl,.inl rfl,.inl rfl⟩,⟨rfl,.inl rfl,.inl rfl⟩,⟨rfl,.inl rfl,.inl rfl⟩,⟨rfl,.inl rfl,.inl rfl⟩,True.intro⟩) (GY T.b_range (B5 (B7 1) B9)) Cv (λ_ _ _ _ _=>Ck 0 (show (["_law_k","_law_stem","_law_at","_law_signs","_law_first","_law_step"]:List Str).Nodup by symm)) (λ_ _ _ _ _=>Dd) (λ_ _ _ _ _=>Cn Cz (Cn Cz (DR (B7 1) DT (DU (B7 2))) (Cu (CK hr.units) (B7 3) (Cn GK (Cn Cz (B7 4) (Cn E5 (B7 5) (B7 0))) Ca))) (DR (B7 1) (DU (B7 2)) DT))))))))
 have c:=Df 8 3 F E4 rfl rfl b
 exact c
theorem Dl:CB ["_law_hand_here","_law_tables","_law_columns_here","_law_values","_law_names","_law_words_here","_law_stock_here","_law_found","_law_name","_law_many","_law_shift","_law_row","_law_k","_law_some","_law_turn","_law_mine"] ["_law_hand_here","_law_tables","_law_columns_here","_law_values"] (Cf FO):=by rfl'
theorem ME {f:Addr}{fd:FuncData}(F:Fun K "_law_schema" "_law_schema" FO f fd)(T:Tx K mg)(Gr:Cal P w K mg base 3 "_law_words" DZ 3)(CF:Cal P w K mg base 1 "_law_take" Cp 2):DM P w K mg base CX0 4 f fd ["_law_hand_here","_law_tables","_law_columns_here","_law_values"] (spF ⟨K,P,w⟩ EG 4):=by
 have b:BO P w K mg base 3 "_law_schema" FO f ["_law_hand_here","_law_tables","_law_columns_here","_law_values","_law_names","_law_words_here","_law_stock_here","_law_found","_law_name","_law_many","_law_shift","_law_row","_law_k","_law_some","_law_turn","_law_mine"] HJ:=λcdv A outer s H E hr=>by
  have hr_law_words:Room 3 _:=hr.mono (by decide)
  have hr_law_take:Room 1 _:=hr.mono (by decide)
  exact Cc (Cy 4 Dl.nd (Cr (KY hr.units rfl) T.b_sorted boot_sorted (B5 (Ci Gr hr_law_words (B5 (B7 0) (B5 (Cn Cz Ca (Ci CF hr_law_take (B5 (B7 0) (B5 (B7 1) B9)))) (B5 Ca B9)))) B9))) (Cc (Hf (Cw (B5 (Ci Gr hr_law_words (B5 (B7 0) (B5 (Cn Cz (B7 2) Ca) (B5 Ca B9)))) (B5 (Ci Gr hr_law_words (B5 (B7 0) (B5 (Cn Cz (B7 3) Ca) (B5 Ca B9)))) B9))) (Gi rfl (CW (Ck 5 Dl.nd) (CW (Ck 6 Dl.nd) Fh)))) (Cc (Cy 7 Dl.nd (LD B9)) (Cc (Gj BG rfl (CI (B7 4)) (Ck 8 Dl.nd) (Cc (TL 9 10 11 rfl Dl.nd (B5 (Cn Cz Ca (Ci CF hr_law_take (B5 (B7 0) (B5 (B7 2) B9)))) (B5 (Ci CF hr_law_take (B5 (B7 0) (B5 Ca B9))) (B5 (LD B9) B9))) (by rfl)) (Cc (Gj BG rfl (GY T.b_range (B5 (B7 9) B9)) (Ck 12 Dl.nd) (Cc (Hf (Cw (B5 (Cn Cz Ca (Ci CF hr_law_take (B5 (B7 0) (B5 (B7 3) B9)))) (B5 (Ci CF hr_law_take (B5 (B7 0) (B5 Ca B9))) B9))) (Gi rfl (CW (Ck 13 Dl.nd) (CW (Ck 14 Dl.nd) Fh)))) (Cc (Cy 15 Dl.nd (CG Du T.b_tuple A8 (B5 (DG ["_law_j"] [(6,"_law_stock_here"),(14,"_law_turn")] (by exact Ff (Cf FO) rfl rfl ⟨rfl,by symm,by symm,by symm⟩ ⟨⟨rfl,.inl rfl,.inl rfl⟩,⟨rfl,.inl rfl,.inl rfl⟩,True.intro⟩) (GY T.b_range (B5 (B7 13) B9)) Cv (λ_ _ _ _ _=>Ck 0 (show (["_law_j","_law_stock_here","_law_turn"]:List Str).Nodup by symm)) (λ_ _ _ _ _=>Dd) (λ_ _ _ _ _=>Cu (CK hr.units) (B7 1) (Cn GK (Cn Cz (B7 0) (B7 2)) (Cr CC T.b_len Bh (B5 (B7 1) B9))))) B9))) (Cg (Kg (Lg (B7 11) (B5 (Cw (B5 (Cu (CK hr.units) (B7 5) (Cn GK (Cn Cz (B7 12) (B7 10)) (Cr CC T.b_len Bh (B5 (B7 5) B9)))) (B5 (B7 15) B9))) B9))))))) (Cg (Kg (Lg (B7 7) (B5 (Cw (B5 (B7 8) (B5 (CG Du T.b_tuple A8 (B5 (B7 11) B9)) (B5 (Cn Cz Ca (Ci CF hr_law_take (B5 (B7 0) (B5 (B7 9) B9)))) B9)))) B9))))))) (Cg (Cj (CG Du T.b_tuple A8 (B5 (B7 7) B9)))))))
 have c:=N7 16 4 F Dl rfl rfl b
 exact c
theorem Ha:CB ["_law_schema_here","_law_look_here","_law_one","_law_words_here"] ["_law_schema_here","_law_look_here"] (Cf Em):=by rfl'
theorem IZ {f:Addr}{fd:FuncData}(F:Fun K "_law_columns" "_law_columns" Em f fd)(hm:mg "_law_columns"=some (.ref f))(hb:Binds K fd ["_law_schema_here","_law_look_here"] [])(T:Tx K mg) :∀ n,DM P w K mg base CX0 (n+1) f fd ["_law_schema_here","_law_look_here"] (spF ⟨K,P,w⟩ (Dh n) 2)
 | 0=>⟨λvs H Q E h=>by obtain ⟨th,mu,ds,_,r,hl,_⟩:=h;rw [r.len];exact hl,λA outer s H args us vs Q E hr he hb hv h=>by obtain ⟨th,mu,ds,_,r,hl,t⟩:=h;exact t.no.elim⟩
 | n+1=>by
  have D2:Cal P w K mg base (n+1) "_law_columns" (Dh n) 2:=CQ F hm (IZ F hm hb T  n) hb
  have b:BO P w K mg base (n+1) "_law_columns" Em f ["_law_schema_here","_law_look_here","_law_one","_law_words_here"] (FK (Dh n)):=λcdv A outer s H E hr=>by
   have hr_law_columns:Room (n+1) _:=hr
   exact Cc (CA (Cm (Dr hr.units) (Cu (CK hr.units) (B7 1) Ca) Ct) (Cg (Cj (Cu (CK hr.units) (DG ["_law_table"] [(1,"_law_look_here")] (by exact Ff (Cf Em) rfl rfl ⟨rfl,by symm,by symm,by symm⟩ ⟨⟨rfl,.inl rfl,.inl rfl⟩,True.intro⟩) (CI (B7 0)) Cv (λ_ _ _ _ _=>Ck 0 (show (["_law_table","_law_look_here"]:List Str).Nodup by symm)) (λ_ _ _ _ _=>HX (Cm (Dr hr.units) (Cu (CK hr.units) (B7 0) Ca) (Cu (CK hr.units) (B7 1) Ca))) (λ_ _ _ _ _=>CG Du T.b_tuple A8 (B5 (DG ["_law_column","_law_values"] [] (by exact Ry rfl rfl (by symm) (by symm) (by symm) (by symm)) (CI (Cu (CK hr.units) (B7 0) Ca)) (PC (HU Cv (HU Cv M6))) (λ_ _ _ _ _=>Gi rfl (CW (Ck 0 (show (["_law_column","_law_values"]:List Str).Nodup by symm)) (CW (Ck 1 (show (["_law_column","_law_values"]:List Str).Nodup by symm)) Fh))) (λ_ _ _ _ _=>Dd) (λ_ _ _ _ _=>B7 0)) B9))) Ca))) Cs) (Cc (Cy 2 Ha.nd (Ci D2 hr_law_columns (B5 (B7 0) (B5 (Cu (CK hr.units) (B7 1) Ca) B9)))) (Cc (CA (Cm (Dr hr.units) (Cu (CK hr.units) (B7 1) Ca) Ct) (Cg (Cj (Cu (CK hr.units) (B7 1) Ca))) Cs) (Cc (CA (Cm (Dr hr.units) (Cu (CK hr.units) (B7 1) Ca) Ct) (Cc (Cy 3 Ha.nd (CG (Le hr.units rfl) T.b_dict (by symm) (B5 (CG Jy T.b_list boot_list (B5 (Cu (CK hr.units) (B7 1) Ca) B9)) B9))) (Cg (Cj (CG Du T.b_tuple A8 (B5 (DG ["_law_column"] [(3,"_law_words_here")] (by exact Ff (Cf Em) rfl rfl ⟨rfl,by symm,by symm,by symm⟩ ⟨⟨rfl,.inl rfl,.inl rfl⟩,True.intro⟩) (CI (B7 2)) Cv (λ_ _ _ _ _=>Ck 0 (show (["_law_column","_law_words_here"]:List Str).Nodup by symm)) (λ_ _ _ _ _=>Dd) (λ_ _ _ _ _=>Ot hr.units (B7 1) (B5 (B7 0) (B5 (B7 0) B9)))) B9))))) Cs) (Cc (CA (Cm (Dr hr.units) (Cu (CK hr.units) (B7 1) Ca) Ct) (Cg (Cj (Cn Cz (B7 2) (CG Du T.b_tuple A8 (B5 (DG ["_law_column"] [(2,"_law_one")] (by exact Ff (Cf Em) rfl rfl ⟨rfl,by symm,by symm,by symm⟩ ⟨⟨rfl,.inl rfl,.inl rfl⟩,True.intro⟩) (CI (Ci D2 hr_law_columns (B5 (B7 0) (B5 (Cu (CK hr.units) (B7 1) Ca) B9)))) Cv (λ_ _ _ _ _=>Ck 0 (show (["_law_column","_law_one"]:List Str).Nodup by symm)) (λ_ _ _ _ _=>HX (Cm (GP hr.units) (B7 0) (B7 1))) (λ_ _ _ _ _=>B7 0)) B9))))) Cs) (Cg (Cj (B7 2)))))))
  have c:=Df 4 2 F Ha rfl rfl b
  exact c
theorem EK:CB ["_law_schema_here","_law_found","_law_name","_law_columns_here","_law_keys","_law_column","_law_values"] ["_law_schema_here"] (Cf Hi):=by rfl'
theorem Oo {f:Addr}{fd:FuncData}(F:Fun K "_law_stock" "_law_stock" Hi f fd)(T:Tx K mg) :DM P w K mg base CX0 1 f fd ["_law_schema_here"] (spF ⟨K,P,w⟩ Gs 1):=by
 have b:BO P w K mg base 0 "_law_stock" Hi f ["_law_schema_here","_law_found","_law_name","_law_columns_here","_law_keys","_law_column","_law_values"] Jc:=λcdv A outer s H E hr=>by
  exact Cc (Cy 1 EK.nd (LD B9)) (Cc (Gj BG rfl (CI (B7 0)) (Gi rfl (CW (Ck 2 EK.nd) (CW (Ck 3 EK.nd) (CW (Ck 4 EK.nd) Fh)))) (Cg (Gj BG rfl (CI (B7 3)) (Gi rfl (CW (Ck 5 EK.nd) (CW (Ck 6 EK.nd) Fh))) (Cg (Kg (R6 (B7 1) (B5 (CG Jy T.b_list boot_list (B5 (B7 6) B9)) B9))))))) (Cg (Cj (Cr (KY hr.units rfl) T.b_sorted boot_sorted (B5 (CG (Jk rfl) T.b_set boot_set (B5 (B7 1) B9)) B9)))))
 have c:=N7 7 1 F EK rfl rfl b
 exact c
theorem Li:CB ["_law_hand_here","_law_columns_here","_law_stock_here","_law_word"] ["_law_hand_here","_law_columns_here","_law_stock_here"] (Cf Im):=by rfl'
theorem Pn {f:Addr}{fd:FuncData}(F:Fun K "_law_test" "_law_test" Im f fd)(T:Tx K mg)(Dz:Cal P w K mg base 2 "_law_pick" CM 2):DM P w K mg base CX0 3 f fd ["_law_hand_here","_law_columns_here","_law_stock_here"] (spF ⟨K,P,w⟩ EH 3):=by
 have b:BO P w K mg base 2 "_law_test" Im f ["_law_hand_here","_law_columns_here","_law_stock_here","_law_word"] HV:=λcdv A outer s H E hr=>by
  have hr_law_pick:Room 2 _:=hr.mono (by decide)
  exact Cc (Cy 3 Li.nd (Ci Dz hr_law_pick (B5 (B7 0) (B5 (Fs (B5 Ct (B5 Ct (B5 Ct (B5 Ct (B5 Ct B9)))))) B9)))) (Cg (Cj (Cw (B5 (B7 3) (B5 (Ci Dz hr_law_pick (B5 (B7 0) (B5 (B7 1) B9))) (B5 (Ci Dz hr_law_pick (B5 (B7 0) (B5 (DK (Cm (Gd hr.units) (B7 3) (Cw (B5 Ct (B5 Ct B9)))) (B7 2) (B7 1)) B9))) B9))))))
 have c:=Df 4 3 F Li rfl rfl b
 exact c
theorem QE:CB ["_law_look_here"] ["_law_look_here"] (Cf Jx):=by rfl'
theorem Mc {f:Addr}{fd:FuncData}(F:Fun K "_law_big" "_law_big" Jx f fd)(hm:mg "_law_big"=some (.ref f))(hb:Binds K fd ["_law_look_here"] [])(T:Tx K mg) :∀ n,DM P w K mg base CX0 (n+1) f fd ["_law_look_here"] (spF ⟨K,P,w⟩ (D3 n) 1)
 | 0=>⟨λvs H Q E h=>by obtain ⟨th,mu,ds,_,r,hl,_⟩:=h;rw [r.len];exact hl,λA outer s H args us vs Q E hr he hb hv h=>by obtain ⟨th,mu,ds,_,r,hl,t⟩:=h;exact t.no.elim⟩
 | n+1=>by
  have Fz:Cal P w K mg base (n+1) "_law_big" (D3 n) 1:=CQ F hm (Mc F hm hb T  n) hb
  have b:BO P w K mg base (n+1) "_law_big" Jx f ["_law_look_here"] (Fv (D3 n)):=λcdv A outer s H E hr=>by
   have hr_law_big:Room (n+1) _:=hr
   exact Cc (CA (Cm (Dr hr.units) (Cu (CK hr.units) (B7 0) Ca) Ct) (Cg (Cj Ca)) Cs) (Cc (CA (Cm (Dr hr.units) (Cu (CK hr.units) (B7 0) Ca) Ct) (Cg (Cj (Cn E5 (Ci Fz hr_law_big (B5 (Cu (CK hr.units) (B7 0) Ca) B9)) (Ci Fz hr_law_big (B5 (Cu (CK hr.units) (B7 0) Ca) B9))))) Cs) (Cg (Cj (Cn Cz (Ci Fz hr_law_big (B5 (Cu (CK hr.units) (B7 0) Ca) B9)) (DK (Cm (Dr hr.units) (Cu (CK hr.units) (B7 0) Ca) Ct) (Ci Fz hr_law_big (B5 (Cu (CK hr.units) (B7 0) Ca) B9)) Ca)))))
  have c:=Df 1 1 F QE rfl rfl b
  exact c
theorem D1:CB ["_law_hand_here","_law_schema_here","_law_deep","_law_way","_law_one","_law_columns_here","_law_stock_here","_law_at","_law_free","_law_pairs","_law_other"] ["_law_hand_here","_law_schema_here","_law_deep"] (Cf Fq):=by rfl'
theorem Lq {f:Addr}{fd:FuncData}(F:Fun K "_law_look" "_law_look" Fq f fd)(hm:mg "_law_look"=some (.ref f))(hb:Binds K fd ["_law_hand_here","_law_schema_here","_law_deep"] [])(T:Tx K mg)(CF:Cal P w K mg base 1 "_law_take" Cp 2)(Dz:Cal P w K mg base 2 "_law_pick" CM 2)(D2:Cal P w K mg base 11 "_law_columns" (Dh 10) 2)(Lm:Cal P w K mg base 1 "_law_stock" Gs 1)(JQ:Cal P w K mg base 3 "_law_test" EH 3)(Fz:Cal P w K mg base 11 "_law_big" (D3 10) 1):∀ n,DM P w K mg base CX0 (n+12) f fd ["_law_hand_here","_law_schema_here","_law_deep"] (spF ⟨K,P,w⟩ (EI n) 3)
 | 0=>⟨λvs H Q E h=>by obtain ⟨th,mu,ds,_,r,hl,_⟩:=h;rw [r.len];exact hl,λA outer s H args us vs Q E hr he hb hv h=>by obtain ⟨th,mu,ds,_,r,hl,t⟩:=h;exact t.no.elim⟩
 | n+1=>by
  have HN:Cal P w K mg base (n+12) "_law_look" (EI n) 3:=CQ F hm (Lq F hm hb T CF Dz D2 Lm JQ Fz n) hb
  have b:BO P w K mg base (n+12) "_law_look" Fq f ["_law_hand_here","_law_schema_here","_law_deep","_law_way","_law_one","_law_columns_here","_law_stock_here","_law_at","_law_free","_law_pairs","_law_other"] (Dj (EI n)):=λcdv A outer s H E hr=>by
   have hr_law_take:Room 1 _:=hr.mono (by ext)
   have hr_law_pick:Room 2 _:=hr.mono (by ext)
   have hr_law_columns:Room 11 _:=hr.mono (by ext)
   have hr_law_stock:Room 1 _:=hr.mono (by ext)
   have hr_law_test:Room 3 _:=hr.mono (by ext)
   have hr_law_big:Room 11 _:=hr.mono (by ext)
   have hr_law_look:Room (n+12) _:=hr
   exact Cc (Cy 3 D1.nd (Ci CF hr_law_take (B5 (B7 0) (B5 Ca B9)))) (Cc (CA (SVW.t (DI (Cm (Oj hr.units) (B7 2) Ca) (D6 (Cm (Dr hr.units) (B7 3) Ca)))) (Cg (Cj (Cw (B5 Ct (B5 (Cu (CK hr.units) (Ci Dz hr_law_pick (B5 (B7 0) (B5 (B7 1) B9))) Ca) B9))))) Cs) (Cc (Cy 4 D1.nd (Ci HN hr_law_look (B5 (B7 0) (B5 (B7 1) (B5 (Cn GO (B7 2) Ca) B9))))) (Cc (Hf (Cw (B5 (Ci D2 hr_law_columns (B5 (B7 1) (B5 (B7 4) B9))) (B5 (Ci Lm hr_law_stock (B5 (B7 1) B9)) B9))) (Gi rfl (CW (Ck 5 D1.nd) (CW (Ck 6 D1.nd) Fh)))) (Cc (CA (Cm (Oj hr.units) (B7 3) Ca) (Cg (Cj (Cw (B5 Ct (B5 (B7 4) (B5 (CG Du T.b_tuple A8 (B5 (DG ["_law_k"] [(0,"_law_hand_here"),(5,"_law_columns_here"),(6,"_law_stock_here")] (by exact Ff (Cf Fq) rfl rfl ⟨rfl,by symm,by symm,by symm⟩ ⟨⟨rfl,.inl rfl,.inl rfl⟩,⟨rfl,.inl rfl,.inl rfl⟩,⟨rfl,.inl rfl,.inl rfl⟩,True.intro⟩) (GY T.b_range (B5 (Cn Cz Ca (Ci CF hr_law_take (B5 (B7 0) (B5 Ca B9)))) B9)) Cv (λ_ _ _ _ _=>Ck 0 (show (["_law_k","_law_hand_here","_law_columns_here","_law_stock_here"]:List Str).Nodup by symm)) (λ_ _ _ _ _=>Dd) (λ_ _ _ _ _=>Ci JQ hr_law_test (B5 (B7 1) (B5 (B7 2) (B5 (B7 3) B9))))) B9)) B9)))))) Cs) (Cc (CA (Cm (Dr hr.units) (B7 3) Ca) (Cc (Cy 7 D1.nd (Ci CF hr_law_take (B5 (B7 0) (B5 (Cr CC T.b_len Bh (B5 (B7 5) B9)) B9)))) (Cg (Cj (Cw (B5 Ct (B5 (B7 4) (B5 (DR (Cn Cz (DR (B7 5) (DU (B7 7)) DT) (DR (B7 5) DT (DU (B7 7)))) DT (DU (Cn Cz Ca (Ci CF hr_law_take (B5 (B7 0) (B5 (Cr CC T.b_len Bh (B5 (B7 5) B9)) B9)))))) B9))))))) Cs) (Cc (CA (Cm (Dr hr.units) (B7 3) Ca) (Cc (Gb 8 ["_law_word"] [(5,"_law_columns_here")] (by exact Ff (Cf Fq) rfl rfl ⟨rfl,by symm,by symm,by symm⟩ ⟨⟨rfl,.inl rfl,.inl rfl⟩,True.intro⟩) (CI (Fs (B5 Ct (B5 Ct (B5 Ct (B5 Ct B9)))))) Cv (λ_ _ _ _ _=>Ck 0 (show (["_law_word","_law_columns_here"]:List Str).Nodup by symm)) (λ_ _ _ _ _=>HX (Cm (GP hr.units) (B7 0) (B7 1))) (λ_ _ _ _ _=>B7 0) D1.nd) (Cc (Gb 9 ["_law_word"] [(0,"_law_hand_here"),(5,"_law_columns_here")] (by exact Ff (Cf Fq) rfl rfl ⟨rfl,by symm,by symm,by symm⟩ ⟨⟨rfl,.inl rfl,.inl rfl⟩,⟨rfl,.inl rfl,.inl rfl⟩,True.intro⟩) (CI (DR (B7 8) DT (DU Ca))) Cv (λ_ _ _ _ _=>Ck 0 (show (["_law_word","_law_hand_here","_law_columns_here"]:List Str).Nodup by symm)) (λ_ _ _ _ _=>Dd) (λ_ _ _ _ _=>Cw (B5 (Ci Dz hr_law_pick (B5 (B7 1) (B5 (B7 2) B9))) (B5 (B7 0) B9))) D1.nd) (Cg (Cj (DK (Cm (JO hr.units) (B7 9) (Fs B9)) (Cw (B5 Ct (B5 (B7 4) (B5 (CG Du T.b_tuple A8 (B5 (B7 9) B9)) B9)))) (B7 4)))))) Cs) (Cc (Cy 10 D1.nd (Ci HN hr_law_look (B5 (B7 0) (B5 (B7 1) (B5 (Cn GO (B7 2) Ca) B9))))) (Cc (CA (Cm (Dr hr.units) (B7 3) Ca) (Cg (Cj (DK (Cm (Oj hr.units) (Cn E5 (Ci Fz hr_law_big (B5 (B7 4) B9)) (Ci Fz hr_law_big (B5 (B7 10) B9))) Ca) (Cw (B5 Ct (B5 (B7 4) (B5 (B7 10) B9)))) (B7 4)))) Cs) (Cc (CA (Cm (JO hr.units) (Ci D2 hr_law_columns (B5 (B7 1) (B5 (B7 10) B9))) (B7 5)) (Cg (Cy 10 D1.nd (DK (Cm Oa (B7 2) Ca) (Cw (B5 Ct (B5 (B7 4) (B5 (Cw (B5 (Ci JQ hr_law_test (B5 (B7 0) (B5 (B7 5) (B5 (B7 6) B9)))) B9)) B9)))) (B7 4)))) Cs) (Cg (Cj (Cw (B5 (Cu (CK hr.units) (Fs (B5 Ct (B5 Ct B9))) (Cn GO (B7 3) Ca)) (B5 (B7 4) (B5 (B7 10) B9)))))))))))))))
  have c:=Df 11 3 F D1 rfl rfl b
  exact c
theorem NJ:CB ["_law_schema_here","_law_word","_law_columns_here"] ["_law_schema_here","_law_word","_law_columns_here"] (Cf Gv):=by rfl'
theorem N9 {f:Addr}{fd:FuncData}(F:Fun K "_law_known" "_law_known" Gv f fd)(T:Tx K mg) :DM P w K mg base CX0 1 f fd ["_law_schema_here","_law_word","_law_columns_here"] (spF ⟨K,P,w⟩ Ef 3):=by
 have b:BO P w K mg base 0 "_law_known" Gv f ["_law_schema_here","_law_word","_law_columns_here"] IH:=λcdv A outer s H E hr=>by
  exact Cg (Cj (CG Du T.b_tuple A8 (B5 (Cr (KY hr.units rfl) T.b_sorted boot_sorted (B5 (Cn Cz (B7 0) (Cw (B5 (Cw (B5 (B7 1) (B5 (CG Du T.b_tuple A8 (B5 (DG ["_law_column"] [] (by exact Ff (Cf Gv) rfl rfl ⟨rfl,by symm,by symm,by symm⟩ True.intro) (CI (B7 2)) Cv (λ_ _ _ _ _=>Ck 0 (show (["_law_column"]:List Str).Nodup by symm)) (λ_ _ _ _ _=>Dd) (λ_ _ _ _ _=>Cw (B5 (B7 0) (B5 (Cw (B5 Ct B9)) B9)))) B9)) (B5 Ca B9)))) B9))) B9)) B9)))
 have c:=Df 3 3 F NJ rfl rfl b
 exact c
theorem Ei:CB ["_law_hand_here","_law_schema_here","_law_many","_law_words_here","_law_known_here","_law_book_here","_law_word","_law_look_here","_law_columns_here"] ["_law_hand_here","_law_schema_here","_law_many"] (Cf G2):=by rfl'
theorem Pd {f:Addr}{fd:FuncData}(F:Fun K "_law_book" "_law_book" G2 f fd)(T:Tx K mg)(Gr:Cal P w K mg base 3 "_law_words" DZ 3)(HN:Cal P w K mg base 22 "_law_look" (EI 10) 3)(CF:Cal P w K mg base 1 "_law_take" Cp 2)(D2:Cal P w K mg base 11 "_law_columns" (Dh 10) 2)(Jd:Cal P w K mg base 1 "_law_known" Ef 3):DM P w K mg base CX0 23 f fd ["_law_hand_here","_law_schema_here","_law_many"] (spF ⟨K,P,w⟩ F6 3):=by
 have b:BO P w K mg base 22 "_law_book" G2 f ["_law_hand_here","_law_schema_here","_law_many","_law_words_here","_law_known_here","_law_book_here","_law_word","_law_look_here","_law_columns_here"] JR:=λcdv A outer s H E hr=>by
  have hr_law_words:Room 3 _:=hr.mono (by decide)
  have hr_law_look:Room 22 _:=hr.mono (by decide)
  have hr_law_take:Room 1 _:=hr.mono (by decide)
  have hr_law_columns:Room 11 _:=hr.mono (by decide)
  have hr_law_known:Room 1 _:=hr.mono (by decide)
  exact Cc (Gb 3 ["_law_word"] [(1,"_law_schema_here")] (by exact Ff (Cf G2) rfl rfl ⟨rfl,by symm,by symm,by symm⟩ ⟨⟨rfl,.inl rfl,.inl rfl⟩,True.intro⟩) (CI (Ci Gr hr_law_words (B5 (B7 0) (B5 (Cn Cz (B7 2) Ca) (B5 Ca B9))))) Cv (λ_ _ _ _ _=>Ck 0 (show (["_law_word","_law_schema_here"]:List Str).Nodup by symm)) (λ_ _ _ _ _=>HX (Cm (GP hr.units) (B7 0) (DG ["_law_table"] [] (by exact Ry rfl rfl (by symm) (by symm) (by symm) (by symm)) (CI (B7 1)) Cv (λ_ _ _ _ _=>Ck 0 (show (["_law_table"]:List Str).Nodup by symm)) (λ_ _ _ _ _=>Dd) (λ_ _ _ _ _=>Cu (CK hr.units) (B7 0) Ca)))) (λ_ _ _ _ _=>B7 0) Ei.nd) (Cc (LQ 4 5 rfl Ei.nd (B5 (B7 1) (B5 (Cw B9) B9)) (by rfl)) (Cc (Gj BG rfl (CI (DR (B7 3) DT (DU (B7 2)))) (Ck 6 Ei.nd) (Cc (Cy 7 Ei.nd (Ci HN hr_law_look (B5 (B7 0) (B5 (B7 4) (B5 (Cn Cz Ca (Ci CF hr_law_take (B5 (B7 0) (B5 Ca B9)))) B9))))) (Cc (Cy 8 Ei.nd (Ci D2 hr_law_columns (B5 (B7 4) (B5 (B7 7) B9)))) (Cc (CA (Cm Oa (Cr CC T.b_len Bh (B5 (B7 8) B9)) Ca) (Cg (LQ 7 8 rfl Ei.nd (B5 (Cw (B5 Ct (B5 (B7 7) (B5 (DR (B7 8) DT (DU Ca)) B9)))) (B5 (DR (B7 8) DT (DU Ca)) B9)) (by rfl))) Cs) (Cc (Cy 5 Ei.nd (Cn Cz (B7 5) (Cw (B5 (Cw (B5 (B7 6) (B5 (B7 7) B9))) B9)))) (Cg (Cy 4 Ei.nd (Ci Jd hr_law_known (B5 (B7 4) (B5 (B7 6) (B5 (B7 8) B9))))))))))) (Cg (Cj (B7 5)))))
 have c:=Df 9 3 F Ei rfl rfl b
 exact c
theorem Mp:CB ["_law_thing"] ["_law_thing"] (Cf Fd):=by rfl'
theorem Mv {f:Addr}{fd:FuncData}(F:Fun K "_law_is_word" "_law_is_word" Fd f fd)(T:Tx K mg) :DM P w K mg base CX0 1 f fd ["_law_thing"] (spF ⟨K,P,w⟩ Dg 1):=by
 have b:BO P w K mg base 0 "_law_is_word" Fd f ["_law_thing"] Gh:=λcdv A outer s H E hr=>by
  exact Cc (CA (SVW.t (DI (CZ (CO (EM "str" (B7 0) T.b_isinstance T.b_str boot_str))) (D6 (CZ (KS GB GB Ca (Cr CC T.b_len Bh (B5 (B7 0) B9)) Ca))))) (Cg (Cj E6)) Cs) (Cg (Cj (Cr (Ea rfl) T.b_all boot_all (B5 (DG ["_law_sign"] [] (by exact Ff (Cf Fd) rfl rfl ⟨rfl,by symm,by symm,by symm⟩ True.intro) (CI (B7 0)) Cv (λ_ _ _ _ _=>Ck 0 (show (["_law_sign"]:List Str).Nodup by symm)) (λ_ _ _ _ _=>Dd) (λ_ _ _ _ _=>Aap (Mi GB GB Ct (B7 0) Ct) (Gz (Mi GB GB Ct (B7 0) Ct)))) B9))))
 have c:=Df 1 1 F Mp rfl rfl b
 exact c
theorem KC:CB ["_law_columns_here","_law_test_here"] ["_law_columns_here","_law_test_here"] (Cf ER):=by rfl'
theorem KZ {f:Addr}{fd:FuncData}(F:Fun K "_law_test_fits" "_law_test_fits" ER f fd)(T:Tx K mg)(Fg:Cal P w K mg base 1 "_law_is_word" Dg 1):DM P w K mg base CX0 2 f fd ["_law_columns_here","_law_test_here"] (spF ⟨K,P,w⟩ DP 2):=by
 have b:BO P w K mg base 1 "_law_test_fits" ER f ["_law_columns_here","_law_test_here"] Fi:=λcdv A outer s H E hr=>by
  have hr_law_is_word:Room 1 _:=hr.mono (by decide)
  exact Cc (CA (SVW.t (DI (CZ (CO (EM "tuple" (B7 1) T.b_isinstance T.b_tuple A8))) (DI (Cm (JO hr.units) (Cr CC T.b_len Bh (B5 (B7 1) B9)) Ca) (D6 (CZ (CO (Cr (Ea rfl) T.b_all boot_all (B5 (DG ["_law_one"] [] (by exact Ff (Cf ER) rfl rfl ⟨rfl,by symm,by symm,by symm⟩ True.intro) (CI (B7 1)) Cv (λ_ _ _ _ _=>Ck 0 (show (["_law_one"]:List Str).Nodup by symm)) (λ_ _ _ _ _=>Dd) (λ_ _ _ _ _=>EM "str" (B7 0) T.b_isinstance T.b_str boot_str)) B9)))))))) (Cg (Cj E6)) Cs) (Cc (CA (Cm (GP hr.units) (Cu (CK hr.units) (B7 1) Ca) (B7 0)) (Cg (Cj E6)) Cs) (Cc (CA (Cm (Gd hr.units) (Cu (CK hr.units) (B7 1) Ca) (Cw (B5 Ct (B5 Ct B9)))) (Cg (Cj (Ci Fg hr_law_is_word (B5 (Cu (CK hr.units) (B7 1) Ca) B9)))) Cs) (Cg (Cj (FJ (E8 (Gd hr.units) (Cu (CK hr.units) (B7 1) Ca) (Cw (B5 Ct (B5 Ct B9)))) (Gz (E8 (Gd hr.units) (Cu (CK hr.units) (B7 1) Ca) (B7 0))))))))
 have c:=Df 2 2 F KC rfl rfl b
 exact c
theorem LB:CB ["_law_columns_here","_law_thing"] ["_law_columns_here","_law_thing"] (Cf EZ):=by rfl'
theorem Lx {f:Addr}{fd:FuncData}(F:Fun K "_law_cut_fits" "_law_cut_fits" EZ f fd)(T:Tx K mg) :DM P w K mg base CX0 1 f fd ["_law_columns_here","_law_thing"] (spF ⟨K,P,w⟩ DL 2):=by
 have b:BO P w K mg base 0 "_law_cut_fits" EZ f ["_law_columns_here","_law_thing"] FL:=λcdv A outer s H E hr=>by
  exact Cc (CA (SVW.t (DI (CZ (CO (EM "tuple" (B7 1) T.b_isinstance T.b_tuple A8))) (D6 (Cm (GC hr.units) (B7 1) (Cw B9))))) (Cg (Cj E6)) Cs) (Cc (CA (CZ (CO (Cr (Ea rfl) T.b_all boot_all (B5 (DG ["_law_one"] [(0,"_law_columns_here")] (by exact Ff (Cf EZ) rfl rfl ⟨rfl,by symm,by symm,by symm⟩ ⟨⟨rfl,.inl rfl,.inl rfl⟩,True.intro⟩) (CI (B7 1)) Cv (λ_ _ _ _ _=>Ck 0 (show (["_law_one","_law_columns_here"]:List Str).Nodup by symm)) (λ_ _ _ _ _=>Dd) (λ_ _ _ _ _=>FJ (EM "str" (B7 0) T.b_isinstance T.b_str boot_str) (Gz (E8 (Gd hr.units) (B7 0) (B7 1))))) B9)))) (Cg (Cj E6)) Cs) (Cg (Cj (E8 (GC hr.units) (Cr CC T.b_len Bh (B5 (CG (Jk rfl) T.b_set boot_set (B5 (B7 1) B9)) B9)) (Cr CC T.b_len Bh (B5 (B7 1) B9))))))
 have c:=Df 2 2 F LB rfl rfl b
 exact c
theorem F8:CB ["_law_columns_here","_law_thing","_law_words_here","_law_made"] ["_law_columns_here","_law_thing"] (Cf DD):=by rfl'
theorem Ld {f:Addr}{fd:FuncData}(F:Fun K "_law_called_so" "_law_called_so" DD f fd)(T:Tx K mg)(FX:Cal P w K mg base 1 "_law_cut_fits" DL 2)(Fg:Cal P w K mg base 1 "_law_is_word" Dg 1):DM P w K mg base CX0 2 f fd ["_law_columns_here","_law_thing"] (spF ⟨K,P,w⟩ Eb 2):=by
 have b:BO P w K mg base 1 "_law_called_so" DD f ["_law_columns_here","_law_thing","_law_words_here","_law_made"] Fm:=λcdv A outer s H E hr=>by
  have hr_law_cut_fits:Room 1 _:=hr.mono (by decide)
  have hr_law_is_word:Room 1 _:=hr.mono (by decide)
  exact Cc (CA (SVW.t (DI (CZ (CO (EM "tuple" (B7 1) T.b_isinstance T.b_tuple A8))) (D6 (CZ (CO (Cr (Ea rfl) T.b_all boot_all (B5 (DG ["_law_one"] [] (by exact Ff (Cf DD) rfl rfl ⟨rfl,by symm,by symm,by symm⟩ True.intro) (CI (B7 1)) Cv (λ_ _ _ _ _=>Ck 0 (show (["_law_one"]:List Str).Nodup by symm)) (λ_ _ _ _ _=>Dd) (λ_ _ _ _ _=>FJ (EM "tuple" (B7 0) T.b_isinstance T.b_tuple A8) (Gz (E8 (Dr hr.units) (Cr CC T.b_len Bh (B5 (B7 0) B9)) Ca)))) B9))))))) (Cg (Cj Dn)) Cs) (Cc (CA (CZ (CO (Ci FX hr_law_cut_fits (B5 (B7 0) (B5 (CG Du T.b_tuple A8 (B5 (DG ["_law_one"] [] (by exact Ff (Cf DD) rfl rfl ⟨rfl,by symm,by symm,by symm⟩ True.intro) (CI (B7 1)) Cv (λ_ _ _ _ _=>Ck 0 (show (["_law_one"]:List Str).Nodup by symm)) (λ_ _ _ _ _=>Dd) (λ_ _ _ _ _=>Cu (CK hr.units) (B7 0) Ca)) B9)) B9))))) (Cg (Cj Dn)) Cs) (Cc (CA (CZ (CO (Cr (Ea rfl) T.b_all boot_all (B5 (DG ["_law_one"] [] (by exact Ff (Cf DD) rfl rfl ⟨rfl,by symm,by symm,by symm⟩ True.intro) (CI (B7 1)) Cv (λ_ _ _ _ _=>Ck 0 (show (["_law_one"]:List Str).Nodup by symm)) (λ_ _ _ _ _=>Dd) (λ_ _ _ _ _=>Ci Fg hr_law_is_word (B5 (Cu (CK hr.units) (B7 0) Ca) B9))) B9)))) (Cg (Cj Dn)) Cs) (Cc (Cy 2 F8.nd (CG (Le hr.units rfl) T.b_dict (by symm) (B5 (CG Jy T.b_list boot_list (B5 (B7 1) B9)) B9))) (Cc (Cy 3 F8.nd (CG Du T.b_tuple A8 (B5 (DG ["_law_column"] [(2,"_law_words_here")] (by exact Ff (Cf DD) rfl rfl ⟨rfl,by symm,by symm,by symm⟩ ⟨⟨rfl,.inl rfl,.inl rfl⟩,True.intro⟩) (CI (B7 0)) Cv (λ_ _ _ _ _=>Ck 0 (show (["_law_column","_law_words_here"]:List Str).Nodup by symm)) (λ_ _ _ _ _=>Dd) (λ_ _ _ _ _=>Ot hr.units (B7 1) (B5 (B7 0) (B5 (B7 0) B9)))) B9))) (Cg (Cj (DK (Cm (Dr hr.units) (Cr CC T.b_len Bh (B5 (CG (Jk rfl) T.b_set boot_set (B5 (B7 3) B9)) B9)) (Cr CC T.b_len Bh (B5 (B7 3) B9))) (B7 3) Dn)))))))
 have c:=Df 4 2 F F8 rfl rfl b
 exact c
theorem Et:CB ["_law_schema_here","_law_thing","_law_deep","_law_found","_law_columns_here","_law_good","_law_others"] ["_law_schema_here","_law_thing","_law_deep"] (Cf DO):=by rfl'
theorem Hx {f:Addr}{fd:FuncData}(F:Fun K "_law_look_fits" "_law_look_fits" DO f fd)(hm:mg "_law_look_fits"=some (.ref f))(hb:Binds K fd ["_law_schema_here","_law_thing","_law_deep"] [])(T:Tx K mg)(FX:Cal P w K mg base 1 "_law_cut_fits" DL 2)(Iw:Cal P w K mg base 2 "_law_called_so" Eb 2)(Iu:Cal P w K mg base 2 "_law_test_fits" DP 2):∀ n,DM P w K mg base CX0 (n+3) f fd ["_law_schema_here","_law_thing","_law_deep"] (spF ⟨K,P,w⟩ (C0 n) 3)
 | 0=>⟨λvs H Q E h=>by obtain ⟨th,mu,ds,_,r,hl,_⟩:=h;rw [r.len];exact hl,λA outer s H args us vs Q E hr he hb hv h=>by obtain ⟨th,mu,ds,_,r,hl,t⟩:=h;exact t.no.elim⟩
 | n+1=>by
  have Fj:Cal P w K mg base (n+3) "_law_look_fits" (C0 n) 3:=CQ F hm (Hx F hm hb T FX Iw Iu n) hb
  have b:BO P w K mg base (n+3) "_law_look_fits" DO f ["_law_schema_here","_law_thing","_law_deep","_law_found","_law_columns_here","_law_good","_law_others"] (ED (C0 n)):=λcdv A outer s H E hr=>by
   have hr_law_cut_fits:Room 1 _:=hr.mono (by ext)
   have hr_law_called_so:Room 2 _:=hr.mono (by ext)
   have hr_law_test_fits:Room 2 _:=hr.mono (by ext)
   have hr_law_look_fits:Room (n+3) _:=hr
   exact Cc (CA (SVW.t (DI (Cm (GC hr.units) (B7 2) Ca) (DI (CZ (CO (EM "tuple" (B7 1) T.b_isinstance T.b_tuple A8))) (DI (Cm (GP hr.units) (Cr CC T.b_len Bh (B5 (B7 1) B9)) (Cw (B5 Ca (B5 Ca B9)))) (D6 (CZ (CO (EM "str" (Cu (CK hr.units) (B7 1) Ca) T.b_isinstance T.b_str boot_str)))))))) (Cg (Cj Dn)) Cs) (Cc (CA (Cm (JO hr.units) (E8 (GC hr.units) (Cu (CK hr.units) (B7 1) Ca) Ct) (E8 (GC hr.units) (Cr CC T.b_len Bh (B5 (B7 1) B9)) Ca)) (Cg (Cj Dn)) Cs) (Cc (CA (Cm (GC hr.units) (Cu (CK hr.units) (B7 1) Ca) Ct) (Cc (Gb 3 ["_law_table"] [(1,"_law_thing")] (by exact Ff (Cf DO) rfl rfl ⟨rfl,by symm,by symm,by symm⟩ ⟨⟨rfl,.inl rfl,.inl rfl⟩,True.intro⟩) (CI (B7 0)) Cv (λ_ _ _ _ _=>Ck 0 (show (["_law_table","_law_thing"]:List Str).Nodup by symm)) (λ_ _ _ _ _=>HX (Cm (GC hr.units) (Cu (CK hr.units) (B7 0) Ca) (Cu (CK hr.units) (B7 1) Ca))) (λ_ _ _ _ _=>CG Du T.b_tuple A8 (B5 (DG ["_law_one","_law_values"] [] (by exact Ry rfl rfl (by symm) (by symm) (by symm) (by symm)) (CI (Cu (CK hr.units) (B7 0) Ca)) (PC (HU Cv (HU Cv M6))) (λ_ _ _ _ _=>Gi rfl (CW (Ck 0 (show (["_law_one","_law_values"]:List Str).Nodup by symm)) (CW (Ck 1 (show (["_law_one","_law_values"]:List Str).Nodup by symm)) Fh))) (λ_ _ _ _ _=>Dd) (λ_ _ _ _ _=>B7 0)) B9)) Et.nd) (Cg (Cj (DK (Cm (JO hr.units) (B7 3) (Fs B9)) (Cu (CK hr.units) (B7 3) Ca) Dn)))) Cs) (Cc (Cy 4 Et.nd (Ci Fj hr_law_look_fits (B5 (B7 0) (B5 (Cu (CK hr.units) (B7 1) Ca) (B5 (Cn GO (B7 2) Ca) B9))))) (Cc (CA (Cm JT (B7 4) Dn) (Cg (Cj Dn)) Cs) (Cc (CA (Cm (GC hr.units) (Cu (CK hr.units) (B7 1) Ca) Ct) (Cg (Cj (DK (CO (Ci FX hr_law_cut_fits (B5 (B7 4) (B5 (Cu (CK hr.units) (B7 1) Ca) B9)))) (Cu (CK hr.units) (B7 1) Ca) Dn))) Cs) (Cc (CA (Cm (GC hr.units) (Cu (CK hr.units) (B7 1) Ca) Ct) (Cg (Cj (Ci Iw hr_law_called_so (B5 (B7 4) (B5 (Cu (CK hr.units) (B7 1) Ca) B9))))) Cs) (Cc (CA (Cm (GC hr.units) (Cu (CK hr.units) (B7 1) Ca) Ct) (Cc (CA (SVW.t (DI (CZ (CO (EM "tuple" (Cu (CK hr.units) (B7 1) Ca) T.b_isinstance T.b_tuple A8))) (D6 (CZ (KS GB GB Ca (Cr CC T.b_len Bh (B5 (Cu (CK hr.units) (B7 1) Ca) B9)) Ca))))) (Cg (Cj Dn)) Cs) (Cc (Cy 5 Et.nd (Cr (Ea rfl) T.b_all boot_all (B5 (DG ["_law_test_here"] [(4,"_law_columns_here")] (by exact Ff (Cf DO) rfl rfl ⟨rfl,by symm,by symm,by symm⟩ ⟨⟨rfl,.inl rfl,.inl rfl⟩,True.intro⟩) (CI (Cu (CK hr.units) (B7 1) Ca)) Cv (λ_ _ _ _ _=>Ck 0 (show (["_law_test_here","_law_columns_here"]:List Str).Nodup by symm)) (λ_ _ _ _ _=>Dd) (λ_ _ _ _ _=>Ci Iu hr_law_test_fits (B5 (B7 1) (B5 (B7 0) B9)))) B9))) (Cg (Cj (DK (CO (B7 5)) (B7 4) Dn))))) Cs) (Cc (Cy 6 Et.nd (Ci Fj hr_law_look_fits (B5 (B7 0) (B5 (Cu (CK hr.units) (B7 1) Ca) (B5 (Cn GO (B7 2) Ca) B9))))) (Cc (CA (SVW.t (DI (Cm JT (B7 6) Dn) (D6 (Cm (GP hr.units) (Cu (CK hr.units) (B7 1) Ca) (Cw (B5 Ct (B5 Ct (B5 Ct B9)))))))) (Cg (Cj Dn)) Cs) (Cc (CA (Cm (GC hr.units) (Cu (CK hr.units) (B7 1) Ca) Ct) (Cg (Cj (Cn Cz (B7 4) (CG Du T.b_tuple A8 (B5 (DG ["_law_column"] [(4,"_law_columns_here")] (by exact Ff (Cf DO) rfl rfl ⟨rfl,by symm,by symm,by symm⟩ ⟨⟨rfl,.inl rfl,.inl rfl⟩,True.intro⟩) (CI (B7 6)) Cv (λ_ _ _ _ _=>Ck 0 (show (["_law_column","_law_columns_here"]:List Str).Nodup by symm)) (λ_ _ _ _ _=>HX (Cm (GP hr.units) (B7 0) (B7 1))) (λ_ _ _ _ _=>B7 0)) B9))))) Cs) (Cg (Cj (DK (Cm (GC hr.units) (B7 4) (B7 6)) (B7 4) Dn)))))))))))))
  have c:=Df 7 3 F Et rfl rfl b
  exact c
theorem Gn:CB ["_law_schema_here","_law_thing","_law_known_here","_law_names","_law_pair","_law_columns_here"] ["_law_schema_here","_law_thing"] (Cf G9):=by rfl'
theorem Pm {f:Addr}{fd:FuncData}(F:Fun K "_law_fits" "_law_fits" G9 f fd)(T:Tx K mg)(Fj:Cal P w K mg base 13 "_law_look_fits" (C0 10) 3)(Fg:Cal P w K mg base 1 "_law_is_word" Dg 1)(Jd:Cal P w K mg base 1 "_law_known" Ef 3):DM P w K mg base CX0 14 f fd ["_law_schema_here","_law_thing"] (spF ⟨K,P,w⟩ EL 2):=by
 have b:BO P w K mg base 13 "_law_fits" G9 f ["_law_schema_here","_law_thing","_law_known_here","_law_names","_law_pair","_law_columns_here"] F7:=λcdv A outer s H E hr=>by
  have hr_law_look_fits:Room 13 _:=hr.mono (by decide)
  have hr_law_is_word:Room 1 _:=hr.mono (by decide)
  have hr_law_known:Room 1 _:=hr.mono (by decide)
  exact Cc (CA (SVW.t (DI (CZ (CO (EM "tuple" (B7 1) T.b_isinstance T.b_tuple A8))) (D6 (Cm Oa (Cr CC T.b_len Bh (B5 (B7 1) B9)) Ca)))) (Cg (Cj E6)) Cs) (Cc (LQ 2 3 rfl Gn.nd (B5 (B7 0) (B5 (AaX ["_law_table"] [] (Uq Y0 ["_law_table"] [] (by exact Ff (Cf G9) rfl rfl ⟨rfl,by symm,by symm,by symm⟩ True.intro) (CI (B7 0)) PJ (λ_ _ _ _ _=>Ck 0 (show (["_law_table"]:List Str).Nodup by symm)) (λ_ _ _ _ _=>Dd) (λ_ _ _ _ _=>Cu (CK hr.units) (B7 0) Ca)) rfl) B9)) (by rfl)) (Cc (Gj BG rfl (CI (B7 1)) (Ck 4 Gn.nd) (Cc (CA (SVW.t (DI (CZ (CO (EM "tuple" (B7 4) T.b_isinstance T.b_tuple A8))) (DI (Cm (JO hr.units) (Cr CC T.b_len Bh (B5 (B7 4) B9)) Ca) (DI (CZ (CO (EM "str" (Cu (CK hr.units) (B7 4) Ca) T.b_isinstance T.b_str boot_str))) (D6 (Cm (Gd hr.units) (Cu (CK hr.units) (B7 4) Ca) (B7 3))))))) (Cg (Cj E6)) Cs) (Cc (Cy 5 Gn.nd (Ci Fj hr_law_look_fits (B5 (B7 2) (B5 (Cu (CK hr.units) (B7 4) Ca) (B5 Ca B9))))) (Cc (CA (SVW.t (DI (CZ (CO (Ci Fg hr_law_is_word (B5 (Cu (CK hr.units) (B7 4) Ca) B9)))) (D6 (Cm JT (B7 5) Dn)))) (Cg (Cj E6)) Cs) (Cc (Kg (Lg (B7 3) (B5 (Cu (CK hr.units) (B7 4) Ca) B9))) (Cg (Cy 2 Gn.nd (Ci Jd hr_law_known (B5 (B7 2) (B5 (Cu (CK hr.units) (B7 4) Ca) (B5 (B7 5) B9))))))))))) (Cg (Cj E6))))
 have c:=N7 6 2 F Gn rfl rfl b
 exact c
theorem Mk:CB ["_law_hand_here","_law_schema_here","_law_name"] ["_law_hand_here","_law_schema_here"] (Cf Ju):=by rfl'
theorem QS {f:Addr}{fd:FuncData}(F:Fun K "_law_odd" "_law_odd" Ju f fd)(T:Tx K mg)(Dz:Cal P w K mg base 2 "_law_pick" CM 2):DM P w K mg base CX0 3 f fd ["_law_hand_here","_law_schema_here"] (spF ⟨K,P,w⟩ G0 2):=by
 have b:BO P w K mg base 2 "_law_odd" Ju f ["_law_hand_here","_law_schema_here","_law_name"] Kz:=λcdv A outer s H E hr=>by
  have hr_law_pick:Room 2 _:=hr.mono (by decide)
  exact Cc (Cy 2 Mk.nd (Cu (CK hr.units) (Cu (CK hr.units) (B7 1) Ca) Ca)) (Cg (Cj (Ci Dz hr_law_pick (B5 (B7 0) (B5 (Fs (B5 Dn (B5 E6 (B5 Ca (B5 Ct (B5 Ct (B5 (B7 2) (B5 Ct (B5 (Cw B9) (B5 (Cw (B5 Ct (B5 (B7 2) B9))) (B5 (Cw (B5 Ct (B5 Ct B9))) (B5 (Fs B9) (B5 Q5 (B5 (Cw (B5 (B7 2) B9)) B9)))))))))))))) B9)))))
 have c:=Df 3 2 F Mk rfl rfl b
 exact c
theorem Ho:CB ["_law_hand_here","_law_schema_here","_law_thing","_law_deep","_law_at","_law_way","_law_new"] ["_law_hand_here","_law_schema_here","_law_thing","_law_deep"] (Cf GN):=by rfl'
theorem JG {f:Addr}{fd:FuncData}(F:Fun K "_law_put_in" "_law_put_in" GN f fd)(hm:mg "_law_put_in"=some (.ref f))(hb:Binds K fd ["_law_hand_here","_law_schema_here","_law_thing","_law_deep"] [])(T:Tx K mg)(CF:Cal P w K mg base 1 "_law_take" Cp 2)(K0:Cal P w K mg base 3 "_law_odd" G0 2):∀ n,DM P w K mg base CX0 (n+4) f fd ["_law_hand_here","_law_schema_here","_law_thing","_law_deep"] (spF ⟨K,P,w⟩ (CJ n) 4)
 | 0=>⟨λvs H Q E h=>by obtain ⟨th,mu,ds,_,r,hl,_⟩:=h;rw [r.len];exact hl,λA outer s H args us vs Q E hr he hb hv h=>by obtain ⟨th,mu,ds,_,r,hl,t⟩:=h;exact t.no.elim⟩
 | n+1=>by
  have Ip:Cal P w K mg base (n+4) "_law_put_in" (CJ n) 4:=CQ F hm (JG F hm hb T CF K0 n) hb
  have b:BO P w K mg base (n+4) "_law_put_in" GN f ["_law_hand_here","_law_schema_here","_law_thing","_law_deep","_law_at","_law_way","_law_new"] (Dw (CJ n)):=λcdv A outer s H E hr=>by
   have hr_law_take:Room 1 _:=hr.mono (by ext)
   have hr_law_odd:Room 3 _:=hr.mono (by ext)
   have hr_law_put_in:Room (n+4) _:=hr
   exact Cc (CA (SVW.t (DI (CZ (CO (EM "tuple" (B7 2) T.b_isinstance T.b_tuple A8))) (DI (Cm (Dr hr.units) (Cr CC T.b_len Bh (B5 (B7 2) B9)) Ca) (DI (Cm (Dr hr.units) (B7 3) Ca) (D6 (Cm (Dr hr.units) (Ci CF hr_law_take (B5 (B7 0) (B5 Ca B9))) Ca)))))) (Cg (Cj (Ci K0 hr_law_odd (B5 (B7 0) (B5 (B7 1) B9))))) Cs) (Cc (LQ 4 5 rfl Ho.nd (B5 (Ci CF hr_law_take (B5 (B7 0) (B5 (Cr CC T.b_len Bh (B5 (B7 2) B9)) B9))) (B5 (Ci CF hr_law_take (B5 (B7 0) (B5 Ca B9))) B9)) (by rfl)) (Cc (CA (Cm (Dr hr.units) (B7 5) Ca) (Cg (Cj (Cn Cz (DR (B7 2) DT (DU (B7 4))) (DR (B7 2) (DU (Cn Cz (B7 4) Ca)) DT)))) Cs) (Cc (CA (Cm (Dr hr.units) (B7 5) Ca) (Cg (Cj (Cn Cz (DR (B7 2) DT (DU (Cn Cz (B7 4) Ca))) (DR (B7 2) (DU (B7 4)) DT)))) Cs) (Cc (CA (Cm (Dr hr.units) (B7 5) Ca) (Cg (Cj (Cu (CK hr.units) (Fs (B5 (CG Jy T.b_list boot_list (B5 (B7 2) B9)) (B5 (Zs (B7 2)) (B5 (Cn Cz (B7 2) (Cw (B5 (Ci K0 hr_law_odd (B5 (B7 0) (B5 (B7 1) B9))) B9))) B9)))) (Ci CF hr_law_take (B5 (B7 0) (B5 Ca B9)))))) Cs) (Cc (Cy 6 Ho.nd (Ci Ip hr_law_put_in (B5 (B7 0) (B5 (B7 1) (B5 (Cu (CK hr.units) (B7 2) (B7 4)) (B5 (Cn GO (B7 3) Ca) B9)))))) (Cg (Cj (Cn Cz (Cn Cz (DR (B7 2) DT (DU (B7 4))) (Cw (B5 (B7 6) B9))) (DR (B7 2) (DU (Cn Cz (B7 4) Ca)) DT)))))))))
  have c:=Df 7 4 F Ho rfl rfl b
  exact c
theorem GA:CB ["_law_script","_law_k","_law_hand_here","_law_schema_here","_law_book_here","_law_some","_law_word","_law_look_here","_law_thing","_law_found"] ["_law_script"] (Cf Lp):=by rfl'
theorem X3 {f:Addr}{fd:FuncData}(F:Fun K "law" "law" Lp f fd)(T:Tx K mg)(Qz:Cal P w K mg base 1 "_law_hand" Fu 2)(Om:Cal P w K mg base 4 "_law_schema" EG 4)(QT:Cal P w K mg base 23 "_law_book" F6 3)(Dz:Cal P w K mg base 2 "_law_pick" CM 2)(KW:Cal P w K mg base 16 "is_book" D4 2)(Ip:Cal P w K mg base 18 "_law_put_in" (CJ 14) 4)(Qf:Cal P w K mg base 14 "_law_fits" EL 2):DM P w K mg base CX0 24 f fd ["_law_script"] (spF ⟨K,P,w⟩ Nh 1):=by
 have b:BO P w K mg base 23 "law" Lp f ["_law_script","_law_k","_law_hand_here","_law_schema_here","_law_book_here","_law_some","_law_word","_law_look_here","_law_thing","_law_found"] U4:=λcdv A outer s H E hr=>by
  have hr_law_hand:Room 1 _:=hr.mono (by decide)
  have hr_law_schema:Room 4 _:=hr.mono (by decide)
  have hr_law_book:Room 23 _:=hr.mono (by decide)
  have hr_law_pick:Room 2 _:=hr.mono (by decide)
  have hr_is_book:Room 16 _:=hr.mono (by decide)
  have hr_law_put_in:Room 18 _:=hr.mono (by decide)
  have hr_law_fits:Room 14 _:=hr.mono (by decide)
  exact Cc (Gj BG rfl (GY T.b_range (B5 (Cr (R9 rfl) T.b_max boot_max (B5 Ca (B5 (Cr (Nu rfl) T.b_min boot_min (B5 Ca (B5 (Cr CC T.b_len Bh (B5 (B7 0) B9)) B9))) B9))) B9)) (Ck 1 GA.nd) (Cc (Cy 2 GA.nd (Ci Qz hr_law_hand (B5 (B7 0) (B5 (B7 1) B9)))) (Cc (Cy 3 GA.nd (Ci Om hr_law_schema (B5 (B7 2) (B5 Ca (B5 Ca (B5 Ca B9)))))) (Cc (Cy 4 GA.nd (Ci QT hr_law_book (B5 (B7 2) (B5 (B7 3) (B5 (Ci Dz hr_law_pick (B5 (B7 2) (B5 (Fs (B5 Ca (B5 Ca (B5 Ca (B5 Ca (B5 Ca (B5 Ca B9))))))) B9))) B9))))) (Cc (CA (Cm Wm (Ci KW hr_is_book (B5 (B7 3) (B5 (B7 4) B9))) E6) (Cg (Cj E6)) Cs) (Cc (Gb 5 ["_law_turn"] [(2,"_law_hand_here"),(3,"_law_schema_here"),(4,"_law_book_here")] (by exact Ff (Cf Lp) rfl rfl ⟨rfl,by symm,by symm,by symm⟩ ⟨⟨rfl,.inl rfl,.inl rfl⟩,⟨rfl,.inl rfl,.inl rfl⟩,⟨rfl,.inl rfl,.inl rfl⟩,True.intro⟩) (GY T.b_range (B5 Ca B9)) Cv (λ_ _ _ _ _=>Ck 0 (show (["_law_turn","_law_hand_here","_law_schema_here","_law_book_here"]:List Str).Nodup by symm)) (λ_ _ _ _ _=>Dd) (λ_ _ _ _ _=>Ci Ip hr_law_put_in (B5 (B7 1) (B5 (B7 2) (B5 (B7 3) (B5 Ca B9))))) GA.nd) (Cc (Gj BG rfl (CI (DR (B7 4) DT (DU Ca))) (Gi rfl (CW (Ck 6 GA.nd) (CW (Ck 7 GA.nd) Fh))) (Cc (Cy 5 GA.nd (Cn Cz (B7 5) (Fs (B5 (Cn Cz (B7 4) (Cw (B5 (Cw (B5 (B7 6) (B5 (B7 7) B9))) B9))) (B5 (Cn Cz (B7 4) (Cw (B5 (Cw (B5 (Cu (CK hr.units) (Cu (CK hr.units) (B7 3) Ca) Ca) (B5 (B7 7) B9))) B9))) (B5 (Cn Cz (Cw (B5 (Cw (B5 Ct (B5 (Cw (B5 Ct (B5 Ct B9))) B9))) B9)) (B7 4)) B9)))))) (Cg (Cy 5 GA.nd (Cn Cz (B7 5) (Fs (B5 (Cn Cz (Cw (B5 (Cw (B5 Ct (B5 (Cw (B5 Ct (B5 (B7 6) B9))) B9))) B9)) (B7 4)) (B5 (Cn Cz (B7 4) (Cw (B5 (Cw (B5 Ct (B5 (Cw (B5 Ct (B5 (B7 6) B9))) B9))) B9))) (B5 (Cn V2 (Cw (B5 (Cw (B5 (B7 6) (B5 (B7 7) B9))) B9)) Ca) B9))))))))) (Cg (Gj BG rfl (CI (Cn Cz (B7 5) (Fs (B5 Dn (B5 E6 (B5 Ca (B5 Ct (B5 (Fs B9) (B5 Q5 (B5 (Cw (B5 (Cw B9) B9)) B9)))))))))) (Ck 8 GA.nd) (Cc (Cy 9 GA.nd (Ci KW hr_is_book (B5 (B7 3) (B5 (B7 8) B9)))) (Cg (CA (SVW.t (DI (CZ (CO (EM "bool" (B7 9) T.b_isinstance T.b_bool (by symm)))) (D6 (Cm (JO hr.units) (B7 9) (Ci Qf hr_law_fits (B5 (B7 3) (B5 (B7 8) B9))))))) (Cg (Cj E6)) Cs)))))))))))) (Cg (Cj (E8 JT (Ci KW hr_is_book (B5 (Cw (B5 (Cw (B5 Ct (B5 (Cw (B5 (Cw (B5 Ct (B5 (Cw (B5 Ct B9)) B9))) B9)) (B5 Ca B9)))) B9)) (B5 (Cw B9) B9))) E6)))
 have c:=Df 10 1 F GA rfl rfl b
 exact c
end
end PG
namespace PV
open PySem L2 PyProof.Rows
section
variable {α β:Type} {ro:Ro} {mu:Sto} {d e:D} {a b c:Ex} {i:Nat} {o:Option D}
@[simp] theorem Se {x:α}{m:Sto}{f:α->Sto->Rs β}:bM (some (x,m)) f=f x m:=rfl
@[simp] theorem Acg:B8 0 (some d::ro) mu=some (d,mu):=rfl
@[simp] theorem AbK {x1}:B8 1 (x1::some d::ro) mu=some (d,mu):=rfl
@[simp] theorem Acv {x1 x2}:B8 2 (x1::x2::some d::ro) mu=some (d,mu):=rfl
@[simp] theorem Acr {x1 x2 x3}:B8 3 (x1::x2::x3::some d::ro) mu=some (d,mu):=rfl
@[simp] theorem AbV {x1 x2 x3 x4}:B8 4 (x1::x2::x3::x4::some d::ro) mu=some (d,mu):=rfl
@[simp] theorem Ab1 {x1 x2 x3 x4 x5}:B8 5 (x1::x2::x3::x4::x5::some d::ro) mu=some (d,mu):=rfl
@[simp] theorem AcH {x1 x2 x3 x4 x5 x6}:B8 6 (x1::x2::x3::x4::x5::x6::some d::ro) mu=some (d,mu):=rfl
@[simp] theorem Ab4 {x1 x2 x3 x4 x5 x6 x7}:B8 7 (x1::x2::x3::x4::x5::x6::x7::some d::ro) mu=some (d,mu):=rfl
@[simp] theorem AbR {x1 x2 x3 x4 x5 x6 x7 x8}:B8 8 (x1::x2::x3::x4::x5::x6::x7::x8::some d::ro) mu=some (d,mu):=rfl
@[simp] theorem Acq {x1 x2 x3 x4 x5 x6 x7 x8 x9}:B8 9 (x1::x2::x3::x4::x5::x6::x7::x8::x9::some d::ro) mu=some (d,mu):=rfl
@[simp] theorem Aaw {x1 x2 x3 x4 x5 x6 x7 x8 x9 x10}:B8 10 (x1::x2::x3::x4::x5::x6::x7::x8::x9::x10::some d::ro) mu=some (d,mu):=rfl
@[simp] theorem AaP {x1 x2 x3 x4 x5 x6 x7 x8 x9 x10 x11}:B8 11 (x1::x2::x3::x4::x5::x6::x7::x8::x9::x10::x11::some d::ro) mu=some (d,mu):=rfl
@[simp] theorem Aa2 {x1 x2 x3 x4 x5 x6 x7 x8 x9 x10 x11 x12}:B8 12 (x1::x2::x3::x4::x5::x6::x7::x8::x9::x10::x11::x12::some d::ro) mu=some (d,mu):=rfl
@[simp] theorem Abb {x1 x2 x3 x4 x5 x6 x7 x8 x9 x10 x11 x12 x13}:B8 13 (x1::x2::x3::x4::x5::x6::x7::x8::x9::x10::x11::x12::x13::some d::ro) mu=some (d,mu):=rfl
@[simp] theorem Z3 {x1 x2 x3 x4 x5 x6 x7 x8 x9 x10 x11 x12 x13 x14}:B8 14 (x1::x2::x3::x4::x5::x6::x7::x8::x9::x10::x11::x12::x13::x14::some d::ro) mu=some (d,mu):=rfl
@[simp] theorem Aa8 {x1 x2 x3 x4 x5 x6 x7 x8 x9 x10 x11 x12 x13 x14 x15}:B8 15 (x1::x2::x3::x4::x5::x6::x7::x8::x9::x10::x11::x12::x13::x14::x15::some d::ro) mu=some (d,mu):=rfl
@[simp] theorem z_C:eC d ro mu=some (d,mu):=rfl
@[simp] theorem AaK {g:D->D->Sto->Rs D}:Ce g a b ro mu=bM (a ro mu) λx m1=>bM (b ro m1) λy m2=>g x y m2:=rfl
@[simp] theorem Aco {g:D->Sto->Rs D}:e1 g a ro mu=bM (a ro mu) λx m1=>g x m1:=rfl
@[simp] theorem Acn:tV a ro mu=bM (a ro mu) λx m1=>(asB x).map λb=>(b,m1):=rfl
@[simp] theorem Abu {x:Bool}:asB (.bl x)=some x:=rfl
@[simp] theorem Z0 {t:Tx}:tNt t ro mu=bM (t ro mu) λb m1=>some (!b,m1):=rfl
@[simp] theorem Z9 {t u:Tx}:tAn t u ro mu=bM (t ro mu) λx m1=>if x=true then u ro m1 else some (false,m1):=rfl
@[simp] theorem Acx {t u:Tx}:tO t u ro mu=bM (t ro mu) λx m1=>if x=true then some (true,m1) else u ro m1:=rfl
@[simp] theorem Yp:tY ro mu=some (true,mu):=rfl
noncomputable def anB (b:Ex)(ro:Ro):D->Sto->Rs D
 | .bl c,m1=>if c=true then b ro m1 else some (.bl false,m1)
 | _,_=>none
noncomputable def oB (b:Ex)(ro:Ro):D->Sto->Rs D
 | .bl c,m1=>if c=true then some (.bl true,m1) else b ro m1
 | _,_=>none
theorem AcC:eAn a b ro mu=bM (a ro mu) (anB b ro):=by
 unfold eAn
 congr 1
 funext x m
 cases x<;>rfl
theorem z_o:eO a b ro mu=bM (a ro mu) (oB b ro):=by
 unfold eO
 congr 1
 funext x m
 cases x<;>rfl
@[simp] theorem Aaa:eAn a b ro mu=bM (a ro mu) (anB b ro):=AcC
@[simp] theorem Ab0:eO a b ro mu=bM (a ro mu) (oB b ro):=z_o
@[simp] theorem ZW {x:Bool}:anB b ro (.bl x) mu=if x=true then b ro mu else some (.bl false,mu):=rfl
@[simp] theorem AbU {x:Bool}:oB b ro (.bl x) mu=if x=true then some (.bl true,mu) else b ro mu:=rfl
noncomputable def ntB:D->Sto->Rs D
 | .bl c,m1=>some (.bl (!c),m1)
 | _,_=>none
@[simp] theorem AcE:eNt a ro mu=bM (a ro mu) ntB:=by
 unfold eNt
 congr 1
 funext x m
 cases x<;>rfl
@[simp] theorem Z6 {x:Bool}:ntB (.bl x) mu=some (.bl (!x),mu):=rfl
@[simp] theorem Acz {t:Tx}:eIf t a b ro mu=bM (t ro mu) λx m1=>if x=true then a ro m1 else b ro m1:=rfl
@[simp] theorem XX:Cb ro mu=some ([],mu):=rfl
@[simp] theorem YA {r:Exs}:B6 a r ro mu=bM (a ro mu) λx m1=>bM (r ro m1) λxs m2=>some (x::xs,m2):=rfl
@[simp] theorem Aah {r:Exs}:CL r ro mu=bM (r ro mu) λxs m1=>some (.tup xs,m1):=rfl
@[simp] theorem Aai {r:Exs}:He r ro mu=bM (r ro mu) λxs m1=>some (.lst xs,m1):=rfl
@[simp] theorem Yq {r:Exs}:Ja r ro mu=bM (r ro mu) λxs m1=>some (.ref m1.length,m1++[.lst xs]):=rfl
@[simp] theorem Y8:OS ro mu=some (.dct [] [],mu):=rfl
@[simp] theorem Yw:AaF ro mu=some (.ref mu.length,mu++[.dct [] []]):=rfl
@[simp] theorem Yl {f:Fn}{r:Exs}:Cd f r ro mu=bM (r ro mu) λxs m1=>f xs m1:=rfl
@[simp] theorem Abq:sNx ro mu=some ((.nx,ro),mu):=rfl
noncomputable def Zv (b:Sx):Fl×Ro->Sto->Rs (Fl×Ro)
 | (.nx,ro),m1=>b ro m1
 | p,m1=>some (p,m1)
@[simp] theorem Aa1 {s t:Sx}:Cq s t ro mu=bM (s ro mu) (Zv t):=by
 unfold Cq
 congr 1
 funext p m
 obtain ⟨f,r⟩:=p
 cases f<;>rfl
@[simp] theorem Zy {t:Sx}:Zv t (.nx,ro) mu=t ro mu:=rfl
@[simp] theorem ZD {t:Sx}:Zv t (.rt d,ro) mu=some ((.rt d,ro),mu):=rfl
@[simp] theorem Acp:sRt a ro mu=bM (a ro mu) λd m1=>some ((.rt d,ro),m1):=rfl
@[simp] theorem AbT:sEx a ro mu=bM (a ro mu) λ_ m1=>some ((.nx,ro),m1):=rfl
@[simp] theorem AaE {t:Tx}{s u:Sx}:sIf t s u ro mu=bM (t ro mu) λx m1=>if x=true then s ro m1 else u ro m1:=rfl
@[simp] theorem AaH {i:Nat}:gNm i d ro mu=some (ro.set i (some d),mu):=rfl
@[simp] theorem Abj:EA [] ro mu=some (ro,mu):=rfl
@[simp] theorem Abf {g:Gx}{r:Gxs}{ds:List D}:CD g r (d::ds) ro mu=bM (g d ro mu) λro' m1=>r ds ro' m1:=rfl
@[simp] theorem YH {r:Gxs}{x y:D}:gTp 2 r (.tup [x,y]) ro mu=r [x,y] ro mu:=rfl
@[simp] theorem XI {r:Gxs}{x y z:D}:gTp 3 r (.tup [x,y,z]) ro mu=r [x,y,z] ro mu:=rfl
@[simp] theorem XG {r:Gxs}{x y z u:D}:gTp 4 r (.tup [x,y,z,u]) ro mu=r [x,y,z,u] ro mu:=rfl
@[simp] theorem AaN {g:Gx}:CU a g ro mu=bM (a ro mu) λd m1=>bM (g d ro m1) λro' m2=>some ((.nx,ro'),m2):=rfl
@[simp] theorem Ze {i j:Nat}{r:Exs}:NG i j r ro mu=bM (r ro mu) λds m1=>match ds with|[x,y]=>some ((.nx,(ro.set i (some x)).set j (some y)),m1)|_=>none:=rfl
@[simp] theorem Yb {i j k:Nat}{r:Exs}:QZ i j k r ro mu=bM (r ro mu) λds m1=>match ds with|[x,y,z]=>some ((.nx,((ro.set i (some x)).set j (some y)).set k (some z)),m1)|_=>none:=rfl
noncomputable def Yt:Fl×Ro->Sto->Rs D
 | (.rt d,_),m1=>some (d,m1)
 | (.nx,_),m1=>some (.non,m1)
 | _,_=>none
theorem Xf {n:Nat}{m:Sx}{ds:List D}:fnB n m ds mu=bM (m (ds.map some++List.replicate (n-ds.length) none) mu) Yt:=by
 unfold fnB
 congr 1
 funext p q
 obtain ⟨f,r⟩:=p
 cases f<;>rfl
@[simp] theorem YW:Yt (.rt d,ro) mu=some (d,mu):=rfl
@[simp] theorem YO:Yt (.nx,ro) mu=some (.non,mu):=rfl
def AaS (m0:Sto):Fl×Ro->Sto->Rs D
 | (.rt d,_),m1=>K5 m0 m1 d
 | (.nx,_),m1=>K5 m0 m1 .non
 | _,_=>none
theorem ZU {n:Nat}{m:Sx}{ds:List D}:fnG n m ds mu=bM (m (ds.map some++List.replicate (n-ds.length) none) mu) (AaS mu):=by
 unfold fnG
 congr 1
 funext p q
 obtain ⟨f,r⟩:=p
 cases f<;>rfl
@[simp] theorem Xb {m0:Sto}:AaS m0 (.rt d,ro) mu=K5 m0 mu d:=rfl
@[simp] theorem AaQ {x:Ix}{g:Gx}{s:Sx}:JC x g s ro mu=bM (x ro mu) λp m1=>EN p.2 m1 g s p.1 ro m1:=rfl
def Rp (m1:Sto):D->Rs (List D×Option Nat)
 | .tup ds=>some ((ds,none),m1)
 | .lst ds=>some ((ds,none),m1)
 | .str x=>some ((chars x,none),m1)
 | .ref k=>match m1[k]? with
  | some (.lst ds)=>some ((ds,some k),m1)
  | _=>none
 | _=>none
@[simp] theorem Ace:DJ a ro mu=bM (a ro mu) λd m1=>Rp m1 d:=by
 unfold DJ
 congr 1
@[simp] theorem Ab3 {ds:List D}:Rp mu (.tup ds)=some ((ds,none),mu):=rfl
@[simp] theorem AbJ {ds:List D}:Rp mu (.lst ds)=some ((ds,none),mu):=rfl
@[simp] theorem Aci {x:Str}:Rp mu (.str x)=some ((chars x,none),mu):=rfl
theorem Sn {r:Exs}{n:Int}{m:Sto}(h:r ro mu=some ([.int n],m))(h0:-(2 ^ 62)≤n)(h1:n≤(sizeLine:Int)):iRg r ro mu=some ((FY 0 n.toNat,none),m):=by
 unfold iRg
 rw [h]
 simp only [bM,TX]
 rw [if_pos ⟨h0,h1⟩]
@[simp] theorem Ab9 {x:Ix}{nc:Nat}{fv:List Nat}{g:Gx}{t:Tx}:eLC x nc fv g t a ro mu=bM (x ro mu) λp m1=>bM (FN p.2 m1 g t a (r0 nc fv ro) p.1 m1) λys m2=>some (.lst ys,m2):=rfl
@[simp] theorem AbS {nc:Nat}{fv:List Nat}:r0 nc fv ro=List.replicate nc none++fv.map λk=>ro.getD k none:=rfl
noncomputable def nR:D->Bool
 | .ref _=>false
 | _=>true
@[simp] theorem W7 {g g':D->D->Sto->Rs D}{c:Ex}:GG g g' a b c ro mu=bM (a ro mu) λx m1=>bM (b ro m1) λy m2=>bM (g x y m2) λz m3=>match asB z with|none=>none|some k=>if k=true then bM (c ro m3) λw' m4=>g' y w' m4 else some (.bl false,m3):=rfl
@[simp] theorem Aa4 {i j:Int}:leD (.int i) (.int j) mu=some (.bl (decide (i≤j)),mu):=rfl
@[simp] theorem Aas {i j:Str}:leD (.str i) (.str j) mu=some (.bl (!decide (j.cps.toList<i.cps.toList)),mu):=rfl
@[simp] theorem Aag {i j:Int}:geD (.int i) (.int j) mu=some (.bl (decide (j≤i)),mu):=rfl
@[simp] theorem AbE {i j:Int}:gtD (.int i) (.int j) mu=some (.bl (decide (j<i)),mu):=rfl
@[simp] theorem AbG {i j:Int}:ltG (.int i) (.int j) mu=some (.bl (decide (i<j)),mu):=by
 unfold ltG
 rw [if_pos (by simp [toPy,PyData.depth])]
 rfl
@[simp] theorem Abs {i j:Str}:ltG (.str i) (.str j) mu=some (.bl (decide (i.cps.toList<j.cps.toList)),mu):=by
 unfold ltG
 rw [if_pos (by simp [toPy,PyData.depth])]
 rfl
@[simp] theorem YQ {i j:Int}:CH (.int i) (.int j) mu=some (.int (i+j),mu):=rfl
@[simp] theorem YE {i j:Int}:Mj (.int i) (.int j) mu=some (.int (i-j),mu):=rfl
theorem Lf {i j:Int}(h:0<j):HA (.int i) (.int j) mu=some (.int (i % j),mu):=by unfold HA;dsimp only;rw [if_pos h]
@[simp] theorem UE {ds:List D}:D5 [.tup ds] mu=some (.int ds.length,mu):=rfl
@[simp] theorem XU {ds:List D}:D5 [.lst ds] mu=some (.int ds.length,mu):=rfl
@[simp] theorem Y9 {x:Str}:D5 [.str x] mu=some (.int x.length,mu):=rfl
@[simp] theorem X8 {ds:List D}:D5 [.set ds] mu=some (.int ds.length,mu):=rfl
@[simp] theorem ZC {ds:List D}:E9 [.lst ds] mu=some (.tup ds,mu):=rfl
@[simp] theorem YY {ds:List D}:E9 [.tup ds] mu=some (.tup ds,mu):=rfl
@[simp] theorem XD {ds:List D}:LV [.tup ds] mu=some (.lst ds,mu):=rfl
theorem Xj (h:eqB mu d e=some r):eqD d e mu=some (.bl r,mu):=by unfold eqD;rw [h];rfl
@[simp] theorem S9 {i j:Int}:eqD (.int i) (.int j) mu=some (.bl (decide (i=j)),mu):=by
 refine Xj ?_
 unfold eqB
 rw [if_pos (by simp [seen,Dc,toPy,PyData.depth])]
 simp only [seen,toPy,PyData.eqv]
 rfl
@[simp] theorem Aao {i j:Int}:neD (.int i) (.int j) mu=some (.bl (!decide (i=j)),mu):=by
 have:=@S9 mu i j
 unfold eqD at this
 unfold neD
 cases e:eqB mu (.int i) (.int j) with
 | none=>rw [e] at this;cases this
 | some r=>rw [e] at this;cases this;rfl
@[simp] theorem Aab {i j:Bool}:neD (.bl i) (.bl j) mu=some (.bl (i != j),mu):=by
 unfold neD eqB
 rw [if_pos (by simp [seen,Dc,toPy,PyData.depth])]
 simp only [seen,toPy,PyData.eqv]
 cases i<;>cases j<;>rfl
@[simp] theorem RE {i j:Str}:eqD (.str i) (.str j) mu=some (.bl (decide (i=j)),mu):=by
 refine Xj ?_
 unfold eqB
 rw [if_pos (by simp [seen,Dc,toPy,PyData.depth])]
 simp only [seen,toPy,PyData.eqv]
 rfl
@[simp] theorem Qv {ds:List D}:ixG (.tup (d::ds)) (.int 0) mu=some (d,mu):=by
 have:ixD (.tup (d::ds)) (.int 0) mu=some (d,mu):=by simp [ixD,atI,ixN]
 unfold ixG
 rw [this]
@[simp] theorem QN {ds:List D}{x:D}:ixG (.tup (x::d::ds)) (.int 1) mu=some (d,mu):=by
 have:ixD (.tup (x::d::ds)) (.int 1) mu=some (d,mu):=by
  have h:(1:Int)<((x::d::ds).length:Int):=by simp;ext
  simp only [ixD,atI,ixN,h,if_true]
  rfl
 unfold ixG
 rw [this]
@[simp] theorem Zf {ds:List D}{x y:D}:ixG (.tup (x::y::d::ds)) (.int 2) mu=some (d,mu):=by
 have:ixD (.tup (x::y::d::ds)) (.int 2) mu=some (d,mu):=by
  have h:(2:Int)<((x::y::d::ds).length:Int):=by simp;ext
  simp only [ixD,atI,ixN,h,if_true]
  rfl
 unfold ixG
 rw [this]
@[simp] theorem XW {ds:List D}:ixG (.lst (d::ds)) (.int 0) mu=some (d,mu):=by
 have:ixD (.lst (d::ds)) (.int 0) mu=some (d,mu):=by simp [ixD,atI,ixN,D8]
 unfold ixG
 rw [this]
theorem Aa9 {ds:List D}{j:Nat}(s:D)(hs:s=.lst ds∨s=.tup ds)(h:ds[j]? = some d):ixG s (.int j) mu=some (d,mu):=by
 obtain ⟨hl,e⟩:=Ah.mp h
 have a:atI ds (j:Int)=some d:=by
  unfold atI ixN
  rw [if_pos (by ext),if_pos (by ext)]
  simpa using h
 unfold ixG
 rcases hs with rfl|rfl<;>simp [ixD,D8,a]
theorem Aar {bs:List Bool}:IC [.lst (bs.map D.bl)] mu=some (.bl (bs.all id),mu):=by
 have:Lo (bs.map D.bl)=some bs:=by
  induction bs with
  | nil=>rfl
  | cons b bs ih=>simp [Lo,ih]
 simp [IC,quF,D8,this]
end
theorem Jq {m0:Sto}{tg:Gx}{tt:Tx}{el:Ex}{ro:Ro}{mu:Sto}(p:D->Bool)(g:D->D):∀ ds:List D,(∀ d∈ds,∃ ro1,tg d ro mu=some (ro1,mu)∧tt ro1 mu=some (p d,mu)∧(p d=true->el ro1 mu=some (g d,mu)))->FN none m0 tg tt el ro ds mu=some ((ds.filter p).map g,mu)
 | [],_=>rfl
 | d::ds,h=>by
  obtain ⟨ro1,e1,e2,e3⟩:=h d (.head _)
  have ih:=Jq (m0:=m0) p g ds λd' hd=>h d' (.tail _ hd)
  unfold FN
  rw [e1,CV,e2,CV]
  cases c:p d with
  | true=>rw [if_pos rfl,e3 c,CV,D9,if_pos (show gOk none m0 mu from True.intro),ih,CV,List.filter_cons_of_pos c,AO]
  | false=>rw [if_neg AJ,D9,if_pos (show gOk none m0 mu from True.intro),ih,List.filter_cons_of_neg (by simp [c])]
theorem GD {m0:Sto}{tg:Gx}{el:Ex}{ro:Ro}{mu:Sto}(g:D->D)(ds:List D)(h:∀ d∈ds,∃ ro1,tg d ro mu=some (ro1,mu)∧el ro1 mu=some (g d,mu)):FN none m0 tg tY el ro ds mu=some (ds.map g,mu):=by
 have:=Jq (m0:=m0) (tg:=tg) (tt:=tY) (el:=el) (ro:=ro) (mu:=mu) (λ_=>true) g ds λd hd=>by
  obtain ⟨ro1,e1,e2⟩:=h d hd
  exact ⟨ro1,e1,rfl,λ_=>e2⟩
 rw [this,List.filter_eq_self.mpr (λ_ _=>rfl)]
theorem Iy {m0:Sto}{tg:Gx}{el:Ex}{ro:Ro}{mu:Sto}(g:D->Bool)(ds:List D)(h:∀ d∈ds,∃ ro1,tg d ro mu=some (ro1,mu)∧el ro1 mu=some (.bl (g d),mu)):FN none m0 tg tY el ro ds mu=some ((ds.map g).map D.bl,mu):=by
 rw [GD (λd=>.bl (g d)) ds h,As]
 rfl
@[simp] theorem Ql {mu:Sto}{ds:List D}{g:D->Bool}:IC [.lst ((ds.map g).map D.bl)] mu=some (.bl (ds.all g),mu):=by
 rw [Aar,List.all_map]
 rfl
end PV
namespace K1
open PySem L2 PyProof.Rows
noncomputable abbrev Ek:Str:="abcdefghijklmnopqrstuvwxyz0123456789"
structure IsW (x:Str):Prop where
 lo:1≤x.length
 hi:x.length≤8
 al:∀ c∈x.cps.toList,c∈Ek.cps.toList
theorem HF:Ek.cps.toList.length=36:=by symm
theorem Vj:Ek.cps.toList.Nodup:=by symm
theorem AaC (c:Nat)(n:Int)(h0:0≤n)(h7:n≤7):MulOk ⟨#[c]⟩ n:=by
 have e:n=0∨n=1∨n=2∨n=3∨n=4∨n=5∨n=6∨n=7:=by ext
 have l:(⟨#[c]⟩:Str).length=1:=rfl
 unfold MulOk
 rw [l]
 rcases e with rfl|rfl|rfl|rfl|rfl|rfl|rfl|rfl<;>decide
theorem mul_list (c:Nat)(n:Int)(h0:0≤n)(h7:n≤7):(Txt.mul ⟨#[c]⟩ n).cps.toList=List.replicate n.toNat c:=by
 have e:n=0∨n=1∨n=2∨n=3∨n=4∨n=5∨n=6∨n=7:=by ext
 rcases e with rfl|rfl|rfl|rfl|rfl|rfl|rfl|rfl<;>rfl
theorem U9 {x:Str}{j:Int}(h0:0≤j)(h1:j≤x.length):(Txt.slice x none (some j)).cps.toList=x.cps.toList.take j.toNat:=by
 have h:=slice_closes_to (x:=x) (j:=j) ⟨h0,by simpa [Str.length] using h1⟩
 rw [eq_of_beq h]
 simp
theorem P8 {x:Str}{j:Int}(h0:0≤j)(h1:j≤x.length):(Txt.slice x (some j) none).cps.toList=x.cps.toList.drop j.toNat:=by
 rw [slice_from_eq h0 h1 rfl]
 apply B4
 simp [Str.length]
 ext
def wrd (A B:Str)(fi st:Int)(k:Nat):Str:=A++⟨#[Ek.cps.toList.getD ((fi+st*k) % 36).toNat 0]⟩++B
theorem Po (A B:Str)(fi st:Int)(k:Nat):(wrd A B fi st k).cps.toList=A.cps.toList++[Ek.cps.toList.getD ((fi+st*k) % 36).toNat 0]++B.cps.toList:=by
 unfold wrd
 rw [Str.cps_append,Str.cps_append,Array.toList_append,Array.toList_append]
theorem II {j:Int}(h0:0≤j)(h1:j<36):Ek.cps.toList[j.toNat]? = some (Ek.cps.toList.getD j.toNat 0):=by
 have h:j.toNat<Ek.cps.toList.length:=by rw [HF];ext
 rw [AM,Au h]
 rfl
def LW (st:Int):Prop:=st=1∨st=5∨st=7∨st=11∨st=13∨st=17
theorem Xc {A B:Str}{fi st:Int}{k:Nat}{c:Nat}(hc:c∈Ek.cps.toList)(hA:∀ x∈A.cps.toList,x=c)(hB:∀ x∈B.cps.toList,x=c)(hl:A.length+B.length≤7):IsW (wrd A B fi st k):=by
 have h:=Po A B fi st k
 have hl':(wrd A B fi st k).length=A.length+1+B.length:=by
  unfold wrd
  rw [PySem.Str.length_append,PySem.Str.length_append]
  rfl
 refine ⟨by ext,by ext,λx hx=>?_⟩
 rw [h] at hx
 rcases Aj.mp hx with hy|hy
 ·rcases Aj.mp hy with hz|hz
  ·rw [hA x hz];exact hc
  ·rw [Ag.mp hz]
   exact Ap (II (Bz (fi+st*k) (show (36:Int)≠0 by decide)) (Bp (fi+st*k) (show (0:Int)<36 by decide)))
 ·rw [hB x hy];exact hc
def O0 (A B:Str)(fi st:Int)(n:Nat):List Str:=(List.range n).map (wrd A B fi st)
end K1
namespace PV
open PySem L2 PyProof.Rows K1
theorem Ug {j:Int}{mu:Sto}(h0:0≤j)(h1:j<36):ixD (.str Ek) (.int j) mu=some (.str ⟨#[Ek.cps.toList.getD j.toNat 0]⟩,mu):=by
 unfold ixD
 dsimp only
 have h:j.toNat<Ek.cps.toList.length:=by rw [HF];ext
 have e:ixN Ek.cps.toList.length j=some j.toNat:=by unfold ixN;rw [if_pos h0,if_pos (by rw [HF];exact h1)]
 unfold atI
 rw [e,Option.bind_some,II h0 h1]
 rfl
theorem OF {j:Int}{mu:Sto}(h0:0≤j)(h1:j<36):ixG (.str Ek) (.int j) mu=some (.str ⟨#[Ek.cps.toList.getD j.toNat 0]⟩,mu):=by
 unfold ixG
 rw [Ug h0 h1]
section
variable {ro:Ro} {mu:Sto} {d e:D} {a b c:Ex}
def HM (T:String)(d:D)(m1:Sto):Rs D:=if E3 m1 d=true then some (.bl (isi T d),m1) else none
@[simp] theorem Abz {T:String}:Gf T a ro mu=bM (a ro mu) (HM T):=rfl
@[simp] theorem AbA {T:String}:HM T .non mu=some (.bl ("NoneType"==T),mu):=by simp [HM,E3,isi,tyN]
@[simp] theorem Aan {T:String}{x:Bool}:HM T (.bl x) mu=some (.bl ("bool"==T||T=="int"),mu):=by simp [HM,E3,isi,tyN]
@[simp] theorem Aat {T:String}{x:Int}:HM T (.int x) mu=some (.bl ("int"==T),mu):=by simp [HM,E3,isi,tyN]
@[simp] theorem Abp {T:String}{x:Str}:HM T (.str x) mu=some (.bl ("str"==T),mu):=by simp [HM,E3,isi,tyN]
@[simp] theorem ZY {T:String}{x:List D}:HM T (.tup x) mu=some (.bl ("tuple"==T),mu):=by simp [HM,E3,isi,tyN]
@[simp] theorem Abd {T:String}{x:List D}:HM T (.lst x) mu=some (.bl ("list"==T),mu):=by simp [HM,E3,isi,tyN]
@[simp] theorem Abm {T:String}{x y:List D}:HM T (.dct x y) mu=some (.bl ("dict"==T),mu):=by simp [HM,E3,isi,tyN]
@[simp] theorem Abe {T:String}{x:List D}:HM T (.set x) mu=some (.bl ("set"==T),mu):=by simp [HM,E3,isi,tyN]
@[simp] theorem Z4 {x y:Bool}:isD (.bl x) (.bl y) mu=some (.bl (decide (x=y)),mu):=by cases x<;>cases y<;>rfl
@[simp] theorem YL {x y:Bool}:Sh (.bl x) (.bl y) mu=some (.bl (!decide (x=y)),mu):=by cases x<;>cases y<;>rfl
@[simp] theorem Acw {P:Prop} [Decidable P]{q:Bool}:(if P then some (D.bl q,mu) else some (D.bl false,mu))=some (D.bl (decide P&&q),mu):=by
 by_cases c:P<;>simp [c]
@[simp] theorem Acs {P:Prop} [Decidable P]{q:Bool}:(if P then some (D.bl true,mu) else some (D.bl q,mu))=some (D.bl (decide P||q),mu):=by
 by_cases c:P<;>simp [c]
@[simp] theorem Aay {P:Prop} [Decidable P]{q:Bool}:(if P then some (q,mu) else some (false,mu))=some (decide P&&q,mu):=by
 by_cases c:P<;>simp [c]
@[simp] theorem AbD {P:Prop} [Decidable P]{q:Bool}:(if P then some (true,mu) else some (q,mu))=some (decide P||q,mu):=by
 by_cases c:P<;>simp [c]
@[simp] theorem Ab6 {p q:Px}:eSl a p q ro mu=bM (a ro mu) λd m1=>bM (p ro m1) λlo m2=>bM (q ro m2) λhi m3=>slD d lo hi m3:=rfl
@[simp] theorem Abo:pNo ro mu=some (none,mu):=rfl
noncomputable def pB:D->Sto->Rs (Option Int)
 | .int i,m1=>some (some i,m1)
 | _,_=>none
@[simp] theorem AbY:En a ro mu=bM (a ro mu) pB:=by
 unfold En
 congr 1
 funext x m
 cases x<;>rfl
@[simp] theorem Ack {i:Int}:pB (.int i) mu=some (some i,mu):=rfl
@[simp] theorem AaB {ds:List D}{lo hi:Option Int}:slD (.tup ds) lo hi mu=some (.tup (cutD ds lo hi),mu):=rfl
@[simp] theorem AaA {ds:List D}{lo hi:Option Int}:slD (.lst ds) lo hi mu=some (.lst (cutD ds lo hi),mu):=rfl
@[simp] theorem XF {α:Type}{xs:List α}:cutD xs (some 1) none=xs.drop 1:=by
 unfold cutD
 have:=HT.NB xs.length 0 1
 rw [show (some (1:Int))=some ((1:Nat):Int) from rfl,this,HT.Mz]
 cases xs with
 | nil=>rfl
 | cons a r=>simp
theorem Aaf {x:Str}{n:Nat}:inG (.str ⟨#[n]⟩) (.str x) mu=some (.bl (decide (n∈x.cps.toList)),mu):=by
 have:inD (.str ⟨#[n]⟩) (.str x) mu=some (.bl (decide (n∈x.cps.toList)),mu):=by
  unfold inD inB
  simp only [seen,Option.map_some]
  rw [PySem.StrLaws.found_one]
 unfold inG
 rw [this]
theorem VE {n:Nat}{ds:List D}:Hc n ds=true ↔ ∀ d∈ds,DW n d=true:=by
 induction ds with
 | nil=>simp [Hc]
 | cons d ds ih=>simp [Hc,ih]
mutual
theorem UD {n m:Nat}(h:n≤m):∀ {d:D},DW n d=true->DW m d=true
 | .non,_=>rfl
 | .bl _,_=>rfl
 | .int _,_=>rfl
 | .str _,_=>rfl
 | .ref k,e=>by
  simp only [DW,Ad] at e ⊢
  ext
 | .tup ds,e=>by
  simp only [DW] at e ⊢
  exact GR h e
 | .lst ds,e=>by
  simp only [DW] at e ⊢
  exact GR h e
 | .set ds,e=>by
  simp only [DW] at e ⊢
  exact GR h e
 | .dct ks ds,e=>by
  simp only [DW,Ab] at e ⊢
  exact ⟨GR h e.1,GR h e.2⟩
theorem GR {n m:Nat}(h:n≤m):∀ {ds:List D},Hc n ds=true->Hc m ds=true
 | [],_=>rfl
 | d::ds,e=>by
  simp only [Hc,Ab] at e ⊢
  exact ⟨UD h e.1,GR h e.2⟩
end
theorem Ds (h:DW 0 d=true):nR d=true:=by
 cases d<;>first|rfl|(simp [DW] at h)
end
end PV
namespace PV
open PySem L2 PyProof.Rows K1
variable {mu:Sto}
theorem strs_map (ss:List Str):strsOf (ss.map D.str)=some ss:=by
 induction ss with
 | nil=>rfl
 | cons x xs ih=>simp [strsOf,ih]
def ndB (ds:List D):Bool:=decide (ds.Nodup)
theorem Vm (ds:List D):∀ r:List D,(ds.foldl FA r).length≤r.length+ds.length∧((ds.foldl FA r).length=r.length+ds.length->(∀ d∈ds,d∉r)∧ds.Nodup):=by
 induction ds with
 | nil=>intro r;simp
 | cons d ds ih =>
  intro r
  rw [List.foldl_cons]
  by_cases c:d∈r
  ·rw [show FA r d=r by unfold FA;rw [if_pos c]]
   have:=(ih r).1
   refine ⟨by simp;ext,λh=>?_⟩
   simp at h
   ext
  ·rw [show FA r d=r++[d] by unfold FA;rw [if_neg c]]
   obtain ⟨h1,h2⟩:=ih (r++[d])
   simp only [Ai,List.length_cons,List.length_nil] at h1 h2 ⊢
   refine ⟨by ext,λh=>?_⟩
   obtain ⟨h3,h4⟩:=h2 (by ext)
   refine ⟨λe he=>?_,Bf.mpr ⟨λhd=>h3 d hd (by simp),h4⟩⟩
   rcases Am.mp he with rfl|he
   ·exact c
   ·exact λhr=>h3 e he (by simp [hr])
theorem RY (ds:List D):∀ r:List D,(∀ d∈ds,d∉r)->ds.Nodup->ds.foldl FA r=r++ds:=by
 induction ds with
 | nil=>intro r _ _;simp
 | cons d ds ih =>
  intro r h1 h2
  rw [List.foldl_cons,show FA r d=r++[d] by unfold FA;rw [if_neg (h1 d (.head _))]]
  rw [Bf] at h2
  rw [ih (r++[d]) (λe he hr=>?_) h2.2]
  ·simp
  ·rcases Aj.mp hr with hr|hr
   ·exact h1 e (.tail _ he) hr
   ·rw [Ag.mp hr] at he
    exact h2.1 he
theorem NF {ds:List D}(h:ds.Nodup):FR ds=ds:=by
 unfold FR
 rw [RY ds [] (λ_ _ h=>nomatch h) h]
 rfl
theorem OE {ds:List D}:(FR ds).length=ds.length ↔ ds.Nodup:=by
 constructor
 ·intro h
  refine ((Vm ds []).2 ?_).2
  rw [List.length_nil,Nat.zero_add]
  exact h
 ·intro h
  rw [NF h]
theorem PX {ss:List Str}(h:ss.length<4000):Lc [.tup (ss.map D.str)] mu=some (.set (FR (ss.map D.str)),mu):=by
 simp [Lc,sq1,Iz,Hk,strs_map,h]
theorem Yo {ss:List Str}(h:ss.length<4000):Lc [.lst (ss.map D.str)] mu=some (.set (FR (ss.map D.str)),mu):=by
 simp [Lc,sq1,Iz,Hk,D8,strs_map,h]
end PV
local macro_rules(kind:=Lean.Parser.Tactic.simpAutoUnfold)|s=>do
 let l:=s[4]
 let n:=@Lean.mkNullNode
 let f:=λb (s:String)=>#[.node .none `Lean.Parser.Tactic.simpLemma #[n b,n #[],Lean.mkIdent s.toName],.atom .none ","]
 return .node .none `Lean.Parser.Tactic.simp #[.atom .none "simp",s[1],s[2],n #[.atom .none "only"],l.setArg 1 (n (("Se Acg AbK Acv Acr AbV Ab1 AcH Ab4 AbR Acq Aaw AaP Aa2 Abb Z3 Aa8 z_C AaK Aco Acn Abu Z0 Z9 Acx Yp Aaa Ab0 ZW AbU AcE Z6 Acz XX YA Aah Aai Yq Y8 Yw Yl Abq Aa1 Zy ZD Acp AbT AaE AaH Abj Abf YH XI XG AaN Ze Yb YW YO Xb AaQ Ace Ab3 AbJ Aci Ab9 AbS W7 Aa4 Aas Aag AbE AbG Abs YQ YE UE XU Y9 X8 ZC YY XD S9 Aao Aab RE Qv QN Zf XW Ql Abz AbA Aan Aat Abp ZY Abd Abm Abe Z4 YL Acw Acs Aay AbD Ab6 Abo AbY Ack AaB AaA XF Xf ZU if_true AZ reduceIte AG Bool.true_eq_false List.set_cons_zero List.set_cons_succ AO List.map_nil List.length_cons List.length_nil Nat.reduceAdd Nat.reduceSub List.replicate_succ List.replicate_zero List.reduceReplicate List.cons_append List.nil_append Option.map_some Bool.not_true Bool.not_false List.getD_cons_zero List.getD_cons_succ Nat.zero_add decide_true decide_false Bool.decide_eq_true BI BJ Bool.true_or Bool.false_or Bool.or_false Bl String.reduceBEq".splitOn).foldr (λs a=>f #[] s++a) (f #[.node .none `Lean.Parser.Tactic.simpPre #[.atom .none "↓"]] "reduceIte"++l[1].getArgs))),s[5]]
namespace PG
open PySem L2 PV PyProof.Rows K1
variable {mu:Sto}
def sgB (c:Nat):Bool:=decide (c∈Ek.cps.toList)
def sgs (x:Str):Bool:=x.cps.toList.all sgB
def wB (x:Str):Bool:=(decide (1≤(x.length:Int))&&decide ((x.length:Int)≤8))&&sgs x
def CN:D->Bool
 | .str x=>wB x
 | _=>false
theorem De {x:Str}:wB x=true ↔ IsW x:=by
 unfold wB sgs
 simp only [Ab,Ad,Ao,sgB]
 constructor
 ·exact λ⟨⟨h1,h2⟩,h3⟩=>⟨by ext,by ext,h3⟩
 ·exact λh=>⟨⟨by have:=h.lo;ext,by have:=h.hi;ext⟩,h.al⟩
theorem Pr {f:D->Bool}{x:Str}(h:∀ c,f (.str ⟨#[c]⟩)=sgB c):(chars x).all f=sgs x:=by
 unfold chars sgs
 rw [List.all_map]
 congr 1
 funext c
 exact h c
theorem Jp (d:D)(h:nR d=true):Dk [d] mu=some (.bl (CN d),mu):=by
 cases d with
 | ref k=>cases h
 | str x =>
  have al:=Iy (m0:=mu) (tg:=gNm 0) (el:=Ce inG (B8 0) (eC (.str "abcdefghijklmnopqrstuvwxyz0123456789"))) (ro:=[none]) (mu:=mu) (λd=>match d with|.str y=>sgs y|_=>false) (chars x) (λd hd=>by
   unfold chars at hd
   obtain ⟨c,_,rfl⟩:=Ak.mp hd
   refine ⟨_,rfl,?_⟩
   have:=Aaf (mu:=mu) (x:=Ek) (n:=c)
   simp [sgB,sgs] at this ⊢
   exact this)
  have sg:=Pr (x:=x) (f:=(λd=>match d with|.str y=>sgs y|_=>false)) (λc=>by simp [sgs])
  have W:CN (.str x)=((decide (1≤(x.length:Int))&&decide ((x.length:Int)≤8))&&sgs x):=rfl
  rw [W]
  simp! [Dk,Jv]
  cases h1:(decide (1≤(x.length:Int))&&decide ((x.length:Int)≤8))
  ·simp! []
  ·simp! [al,sg]
 | _=>simp! [Dk,Jv,CN]
noncomputable def Di (lo hi:Int):D->Bool
 | .tup ds=>decide (lo≤(ds.length:Int))&&decide ((ds.length:Int)≤hi)
 | _=>false
theorem FP (d:D)(lo hi:Int)(h:nR d=true):CY [d,.int lo,.int hi] mu=some (.bl (Di lo hi d),mu):=by
 cases d with
 | ref k=>cases h
 | _=>simp! [CY,JS,Di]
def Od:D->Bool
 | .tup ds=>ds.all CN
 | _=>false
theorem lows {n:Nat}{ds:List D}(h:DW n (.tup ds)=true):∀ d∈ds,DW n d=true:=VE.mp (by simpa [DW] using h)
theorem nRs {ds:List D}(h:DW 0 (.tup ds)=true):∀ d∈ds,nR d=true:=λd hd=>Ds (lows h d hd)
theorem Vp (d:D)(h:DW 0 d=true):DB [d] mu=some (.bl (Od d),mu):=by
 cases d with
 | ref k=>cases Ds h
 | tup ds =>
  have al:=Iy (m0:=mu) (tg:=gNm 0) (el:=Cd Dk (B6 (B8 0) Cb)) (ro:=[none]) (mu:=mu) CN ds (λd hd=>⟨_,rfl,by simp! [Jp d (nRs h d hd)]⟩)
  simp! [DB,Er,Od,al]
 | _=>simp! [DB,Er,Od]
theorem Jz {ds:List D}(h:ds.all CN=true):∃ ss:List Str,ds=ss.map D.str∧∀ x∈ss,IsW x:=by
 induction ds with
 | nil=>exact ⟨[],rfl,λ_ h=>nomatch h⟩
 | cons d ds ih =>
  rw [List.all_cons,Ab] at h
  obtain ⟨ss,rfl,hs⟩:=ih h.2
  cases d with
  | str x =>
   refine ⟨x::ss,rfl,λy hy=>?_⟩
   rcases Am.mp hy with rfl|hy
   ·exact De.mp h.1
   ·exact hs y hy
  | _=>simp [CN] at h
open Classical in
theorem NQ {ds:List D}{m:Sto}:(some (D.bl (decide (((FR ds).length:Int)=(ds.length:Int))),m):Rs D)=some (D.bl (ndB ds),m):=by
 unfold ndB
 have:=@OE ds
 by_cases c:ds.Nodup
 ·rw [this.mpr c];simp [c]
 ·have c':¬ ((FR ds).length:Int)=(ds.length:Int):=λe=>c (this.mp (by ext))
  simp [c,c']
theorem Oy {ss:List Str}(h:ss.length<4000):Dm [.tup (ss.map D.str)] mu=some (.bl (ndB (ss.map D.str)),mu):=by
 simp! [Dm,GQ,PX h]
 exact NQ
theorem VY {ss:List Str}(h:ss.length<4000):Dm [.lst (ss.map D.str)] mu=some (.bl (ndB (ss.map D.str)),mu):=by
 simp! [Dm,GQ,Yo h]
 exact NQ
def Ih (d:D):Bool:=Di 1 4 d&&(Od d&&match d with|.tup ds=>ndB ds|_=>false)
theorem ZQ (d:D)(h:DW 0 d=true):E1 [d,.int 1,.int 4] mu=some (.bl (Ih d),mu):=by
 unfold Ih
 simp! [E1,Hh,FP d 1 4 (Ds h)]
 cases c:Di 1 4 d with
 | false=>simp! []
 | true =>
  simp! [Vp d h]
  cases c2:Od d with
  | false=>simp! []
  | true =>
   cases d with
   | tup ds =>
    obtain ⟨ss,rfl,_⟩:=Jz c2
    have l4:ss.length<4000:=by
     simp only [Di,Af,Ab,Ad] at c
     ext
    simp! [Oy l4]
   | _=>simp [Od] at c2
def Pt:D->Bool
 | .tup [a,b]=>CN a&&Ih b
 | _=>false
theorem Xz {d:D}(h:Di 2 2 d=true):∃ a b,d=.tup [a,b]:=by
 cases d with
 | tup ds =>
  simp only [Di,Ab,Ad] at h
  match ds,h with
  | [a,b],_=>exact ⟨a,b,rfl⟩
  | [],h=>simp at h
  | [a],h=>simp at h
  | a::b::c::ds,h=>simp at h;ext
 | _=>simp [Di] at h
theorem Acl {d:D}(h:Di 3 3 d=true):∃ a b c,d=.tup [a,b,c]:=by
 cases d with
 | tup ds =>
  simp only [Di,Ab,Ad] at h
  match ds,h with
  | [a,b,c],_=>exact ⟨a,b,c,rfl⟩
  | [],h=>simp at h
  | [a],h=>simp at h
  | [a,b],h=>simp at h
  | a::b::c::d::ds,h=>simp at h;ext
 | _=>simp [Di] at h
noncomputable def DF:D->D
 | .tup (a::_)=>a
 | _=>.non
def Xm:D->Bool
 | .tup ds=>(Di 1 4 (.tup ds)&&ds.all Pt)&&ndB (ds.map DF)
 | _=>false
theorem ZK {m0:Sto}{ds:List D}{f:D->Bool}(hf:∀ d,f d=true->∃ a ds,d=.tup (a::ds)∧CN a=true)(h:ds.all f=true):FN none m0 (gNm 0) tY (Ce ixG (B8 0) (eC (.int 0))) [none] ds mu=some (ds.map DF,mu):=by
 refine GD DF ds λd hd=>⟨_,rfl,?_⟩
 rw [Ao] at h
 obtain ⟨a,r,rfl,w⟩:=hf d (h d hd)
 simp! [DF]
noncomputable def Aac:D->Int
 | .tup ds=>ds.length
 | _=>0
def ZM (k c:D):Bool:=match k with
 | .int i=>decide (1≤i)&&decide (i≤Aac c)
 | _=>false
def MK:D->Bool
 | .tup [n,c,k]=>(CN n&&Xm c)&&ZM k c
 | _=>false
noncomputable def ltS:D->D->Bool
 | .str x,.str y=>decide (x.cps.toList<y.cps.toList)
 | _,_=>false
def Mb (ds:List D):Bool:=(ds.zip ds.tail).all λp=>ltS p.1 p.2
def VG:D->Bool
 | .tup ds=>(Di 1 4 (.tup ds)&&ds.all MK)&&Mb (ds.map DF)
 | _=>false
theorem YS (c:Nat):sgB c=((decide (97≤c)&&decide (c≤122))||(decide (48≤c)&&decide (c≤57))):=by
 have k:∀ c:Fin 128,sgB c.val=((decide (97≤c.val)&&decide (c.val≤122))||(decide (48≤c.val)&&decide (c.val≤57))):=by symm
 by_cases h:c<128
 ·exact k ⟨c,h⟩
 ·have a:Ek.cps.toList.all (λx=>decide (x<128))=true:=by symm
  have e:sgB c=false:=by
   unfold sgB
   rw [AV]
   intro hm
   exact h (by simpa using Ao.mp a c hm)
  rw [e,AV (show ¬ c≤122 by ext),AV (show ¬ c≤57 by ext),BV,BV]
  rfl
theorem AaM (a b:Nat):(!decide (([a]:List Nat)<[b]))=decide (b≤a):=by
 rw [Bool.eq_iff_iff]
 simp only [Bool.not_eq_true',decide_eq_false_iff_not,Ad,List.cons_lt_cons_iff,List.not_lt_nil,and_false,Bk]
 ext
theorem IG (d:D)(h:nR d=true):Dg [d] mu=some (.bl (CN d),mu):=by
 cases d with
 | ref k=>cases h
 | str x =>
  have al:=Iy (m0:=mu) (tg:=gNm 0) (el:=(eO (GG leD leD (eC (.str "a")) (B8 0) (eC (.str "z"))) (GG leD leD (eC (.str "0")) (B8 0) (eC (.str "9"))))) (ro:=[none]) (mu:=mu) (λd=>match d with|.str y=>sgs y|_=>false) (chars x) (λd hd=>by
   unfold chars at hd
   obtain ⟨c,_,rfl⟩:=Ak.mp hd
   refine ⟨_,rfl,?_⟩
   have ea:(Str.ofString "a").cps.toList=[97]:=rfl
   have ez:(Str.ofString "z").cps.toList=[122]:=rfl
   have e0:(Str.ofString "0").cps.toList=[48]:=rfl
   have e9:(Str.ofString "9").cps.toList=[57]:=rfl
   have ec:(⟨#[c]⟩:Str).cps.toList=[c]:=rfl
   have es:sgs ⟨#[c]⟩=sgB c:=by simp [sgs]
   simp! [ea,ez,e0,e9,ec,AaM,es,YS])
  have sg:=Pr (x:=x) (f:=(λd=>match d with|.str y=>sgs y|_=>false)) (λc=>by simp [sgs])
  have W:CN (.str x)=((decide (1≤(x.length:Int))&&decide ((x.length:Int)≤8))&&sgs x):=rfl
  rw [W]
  simp! [Dg,Gh]
  cases h1:(decide (1≤(x.length:Int))&&decide ((x.length:Int)≤8))
  ·simp! []
  ·simp! [al,sg]
 | _=>simp! [Dg,Gh,CN]
end PG
namespace PV
open PySem L2 PyProof.Rows K1
theorem Nl (ss:List Str):EB (ss.map D.str)=true:=by
 induction ss with
 | nil=>rfl
 | cons x xs ih=>simp [EB,Dc,ih]
theorem DX {ss:List Str}:(ss.map D.str).Nodup ↔ ss.Nodup:=by
 rw [AX,AX,List.pairwise_map]
 constructor
 ·exact λh=>h.imp λn e=>n (by rw [e])
 ·exact λh=>h.imp λn e=>n (by injection e)
end PV
namespace PG
open PySem L2 PV PyProof.Rows K1
variable {mu:Sto}
end PG
namespace PV
open PySem L2 PyProof.Rows K1
theorem OX (ss:List Str):HS (ss.map D.str)=true:=by
 induction ss with
 | nil=>rfl
 | cons x xs ih=>simp [HS,hsh,ih]
theorem Pa (ss:List Str):PyData.depthAll (CT (ss.map D.str))≤1:=by
 induction ss with
 | nil=>simp [CT,PyData.depthAll]
 | cons x xs ih=>simp [CT,toPy,PyData.depthAll,PyData.depth];ext
theorem RL (x y:Str):ltT (.str x) (.str y)=decide (x.cps.toList<y.cps.toList):=by
 unfold ltT
 rw [show Dp (.str x) (.str y)=IB x y from rfl,Bool.eq_iff_iff,beq_iff_eq,Hn,Ad]
theorem RR {ss:List Str}(h:ss.length<64):FF (ss.map D.str)=true:=by
 unfold FF
 simp only [Ab,Ad,Af,Ao,Bool.or_eq_true,Nf]
 refine ⟨⟨⟨h,λd hd=>?_⟩,λd hd e he=>?_⟩,.inl λd hd=>?_⟩
 ·obtain ⟨x,_,rfl⟩:=Ak.mp hd
  rfl
 ·obtain ⟨x,_,rfl⟩:=Ak.mp hd
  obtain ⟨y,_,rfl⟩:=Ak.mp he
  rfl
 ·obtain ⟨x,_,rfl⟩:=Ak.mp hd
  rfl
theorem Yz {ss:List Str}{mu:Sto}(h:ss.length<64):MN [.set (ss.map D.str)] mu=some (.lst (Hb (ss.map D.str)),mu):=by
 simp only [MN,Iz,SM,RR h,if_true]
theorem ZA {ss:List Str}{mu:Sto}(h:ss.length<64):MN [.lst (ss.map D.str)] mu=some (.lst (Hb (ss.map D.str)),mu):=by
 simp only [MN,Iz,SM,Hk,D8,RR h,if_true]
theorem WU {ss:List Str}{mu:Sto}(h:ss.length<64):MG [.lst (ss.map D.str)] mu=some (.lst (Hb (ss.map D.str)),mu):=by
 unfold MG
 rw [ZA h]
theorem MY {es:List D}{ss:List Str}(h:es.Perm (ss.map D.str)):∃ ts:List Str,es=ts.map D.str∧ts.Perm ss:=by
 have al:∀ d∈es,∃ x,d=D.str x:=λd hd=>by
  obtain ⟨x,_,e⟩:=Ak.mp (h.mem_iff.mp hd)
  exact ⟨x,e.symm⟩
 have:∃ ts:List Str,es=ts.map D.str:=by
  clear h
  induction es with
  | nil=>exact ⟨[],rfl⟩
  | cons d es ih =>
   obtain ⟨x,rfl⟩:=al d (.head _)
   obtain ⟨ts,rfl⟩:=ih λd hd=>al d (.tail _ hd)
   exact ⟨x::ts,rfl⟩
 obtain ⟨ts,rfl⟩:=this
 refine ⟨ts,rfl,?_⟩
 have:=h.map (λd=>match d with|.str x=>x|_=>(⟨#[]⟩:Str))
 simpa [As,Function.comp_def] using this
end PV
namespace PG
open PySem L2 PV PyProof.Rows K1
variable {mu:Sto}
theorem Qt:∀ (ss:List Str),Mb (ss.map D.str)=true ↔ ss.Pairwise λx y=>x.cps.toList<y.cps.toList
 | []=>by simp [Mb]
 | [x]=>by simp [Mb]
 | x::y::ss=>by
  have ih:=Qt (y::ss)
  have e:Mb ((x::y::ss).map D.str)=(decide (x.cps.toList<y.cps.toList)&&Mb ((y::ss).map D.str)):=rfl
  rw [e,Ab,ih,Ad]
  constructor
  ·intro ⟨h1,h2⟩
   refine List.pairwise_cons.mpr ⟨λz hz=>?_,h2⟩
   rcases Am.mp hz with rfl|hz
   ·exact h1
   ·exact List.lt_trans h1 ((List.pairwise_cons.mp h2).1 z hz)
  ·exact λh=>⟨(List.pairwise_cons.mp h).1 y (by simp),(List.pairwise_cons.mp h).2⟩
theorem Ua {ss:List Str}(h:ss.Pairwise λx y=>x.cps.toList<y.cps.toList):ss.Nodup:=by
 rw [AX]
 exact h.imp λl e=>by subst e;exact List.lt_irrefl _ l
theorem Wg (ss:List Str):decide (ss.map D.str=Hb (FR (ss.map D.str)))=Mb (ss.map D.str):=by
 have ord:∀ (ts:List Str),∀ d∈ts.map D.str,G5 d=true:=λts d hd=>by
  obtain ⟨x,_,rfl⟩:=Ak.mp hd
  rfl
 rw [Bool.eq_iff_iff,Ad,Qt]
 constructor
 ·intro h
  have p:=ET (FR (ss.map D.str))
  rw [← h] at p
  have nd:=OE.mp p.length_eq.symm
  have up:=NR (FR (ss.map D.str))
  rw [← h,List.pairwise_map] at up
  have ne:=AX.mp (DX.mp nd)
  refine (up.and ne).imp λ{x y} ⟨l,n⟩=>?_
  have l':¬ y.cps.toList<x.cps.toList:=by
   unfold leT at l
   rw [RL] at l
   simpa using l
  have c:=KG x y
  cases q:IB x y with
  | lt=>exact Hn.mp q
  | eq=>exact (n (Kk.mp q)).elim
  | gt=>exact (l' (LP.mp q)).elim
 ·intro h
  rw [NF (DX.mpr (Ua h))]
  refine LL (ord ss) (List.Perm.refl _) ?_
  rw [List.pairwise_map]
  refine h.imp λ{x y} l=>?_
  unfold leT
  rw [RL]
  have:=List.lt_asymm l
  simp [this]
end PG
namespace PV
open PySem L2 PyProof.Rows K1
variable {mu:Sto}
theorem LU {i j:Int}(h:CMul i j):GF (.int i) (.int j) mu=some (.int (i*j),mu):=by
 unfold GF
 dsimp only
 rw [if_pos h]
theorem UL {i j:Int}(h:Ov i j):MA (.int i) (.int j) mu=some (.int (i / j),mu):=by
 unfold MA
 dsimp only
 rw [if_pos h]
theorem Uv {o i:Ex}{d:D}{ro:Ro}:gIx o i d ro mu=bM (o ro mu) λx m1=>bM (i ro m1) λe m2=>bM (putG x e d m2) λ_ m3=>some (ro,m3):=rfl
theorem Xp {k:Nat}{ds:List D}{v:D}{j:Nat}(h:mu[k]? = some (.lst ds))(hj:j<ds.length):putG (.ref k) (.int j) v mu=some ((),mu.set k (.lst (ds.set j v))):=by
 have e:ixN ds.length (j:Int)=some j:=by
  unfold ixN
  rw [if_pos (by ext),if_pos (by ext),Int.toNat_natCast]
 simp only [putG,h,VZ,e]
theorem Q9 {k:Nat}{ds:List D}{d:D}{j:Nat}(h:mu[k]? = some (.lst ds))(hd:ds[j]? = some d):ixG (.ref k) (.int j) mu=some (d,mu):=by
 have:=(Ah.mp hd).1
 have e:ixN ds.length (j:Int)=some j:=by
  unfold ixN
  rw [if_pos (by ext),if_pos (by ext),Int.toNat_natCast]
 have:ixD (.ref k) (.int j) mu=some (d,mu):=by
  simp only [ixD,D8,h,atI,e,Option.bind_some,hd,Option.map_some]
 unfold ixG
 rw [this]
theorem Kb {k:Nat}{o o':MO}(h:mu[k]? = some o):(mu.set k o')[k]? = some o':=by
 have:=(Ah.mp h).1
 simp [this]
def HandOk (mu:Sto)(k n:Nat):Prop:=∃ a b c:Int,mu[k]? = some (.lst [.int a,.int b,.int c])∧(-(2 ^ 63)<b∧b<2 ^ 63)∧0≤c∧c+n<2 ^ 40
theorem HandOk.mono {mu:Sto}{k n n':Nat}(h:HandOk mu k n)(l:n'≤n):HandOk mu k n':=by
 obtain ⟨a,b,c,h1,h2,h3,h4⟩:=h
 exact ⟨a,b,c,h1,h2,h3,by ext⟩
theorem HandOk.lt {k n:Nat}(h:HandOk mu k n):k<mu.length:=by
 obtain ⟨a,b,c,h1,_⟩:=h
 exact (Ah.mp h1).1
def Flat (mu:Sto):Prop:=∀ (j:Nat) (o:MO),mu[j]? = some o->O9 0 o=true
structure Fr (k n:Nat) (mu mu':Sto):Prop where
 hand:HandOk mu' k n
 keep:∀ j,j≠k->mu'[j]? = mu[j]?
 len:mu'.length=mu.length
theorem Fr.refl {k n:Nat}{mu:Sto}(h:HandOk mu k n):Fr k n mu mu:=⟨h,λ_ _=>rfl,rfl⟩
theorem Fr.trans {k n n':Nat}{a b c:Sto}(x:Fr k n a b)(y:Fr k n' b c):Fr k n' a c:=⟨y.hand,λj hk=>(y.keep j hk).trans (x.keep j hk),y.len.trans x.len⟩
theorem Fr.mono {k n n':Nat}{a b:Sto}(x:Fr k n a b)(l:n'≤n):Fr k n' a b:=⟨x.hand.mono l,x.keep,x.len⟩
theorem Fr.flat {k n:Nat}{a b:Sto}(x:Fr k n a b)(h:Flat a):Flat b:=by
 intro j o e
 by_cases c:j=k
 ·subst c
  obtain ⟨_,_,_,h1,_⟩:=x.hand
  rw [h1] at e
  cases e
  rfl
 ·rw [x.keep j c] at e
  exact h j o e
def Run (r:Rs D)(k n:Nat)(mu:Sto)(P:D->Prop):Prop:=∃ d mu',r=some (d,mu')∧Fr k n mu mu'∧P d
theorem TY {ds:List D}{t:Int}(h0:0≤t)(h1:t<ds.length):∃ d,d∈ds∧ds[t.toNat]? = some d:=by
 have h:t.toNat<ds.length:=by ext
 exact ⟨ds[t.toNat],BQ h,Au h⟩
theorem Nw {ds:List D}{d:D}{t:Int}(s:D)(hs:s=.lst ds∨s=.tup ds)(h0:0≤t)(h:ds[t.toNat]? = some d):ixG s (.int t) mu=some (d,mu):=by
 have:=Aa9 (mu:=mu) s hs h
 rwa [Int.toNat_of_nonneg h0] at this
end PV
namespace PG
open PySem L2 PV PyProof.Rows K1
variable {mu:Sto}
theorem Dy {k n:Nat}{m:Int}(h:HandOk mu k (n+1))(m0:0<m)(m1:m<1073741824):Run (Cp [.ref k,.int m] mu) k n mu λd=>∃ t:Int,d=.int t∧0≤t∧t<m:=by
 obtain ⟨a,b,c,h1,h2,h3,h4⟩:=h
 have hk:k<mu.length:=(Ah.mp h1).1
 have fr:∀ a' c':Int,0≤c'->c'≤c+1->Fr k n mu (mu.set k (.lst [.int a',.int b,.int c'])):=λa' c' z1 z2=>⟨⟨a',b,c',Kb h1,h2,z1,by ext⟩,λj hj=>by rw [AB (Ne.symm hj)],by simp⟩
 have i0:ixG (.ref k) (.int 0) mu=some (.int a,mu):=Q9 (j:=0) h1 rfl
 by_cases ha:0<a
 ·refine ⟨.int (a % m),_,?_,fr (a / m) c h3 (by ext),a % m,rfl,Bz _ (by ext),Bp _ m0⟩
  have cd:Ov a m:=⟨m0,m1⟩
  have p0:∀ v,putG (.ref k) (.int 0) v mu=some ((),mu.set k (.lst [v,.int b,.int c])):=λv=>Xp (j:=0) h1 (by simp)
  have ha':decide (0<a)=true:=by simp [ha]
  simp! [Cp,HL,i0,ha',Lf m0,UL cd,Uv,p0]
 ·refine ⟨.int (((b*(48271+2*(c+1)*(c+1)+65537*(c+1)) % 2305843009213693921*(b*(48271+2*(c+1)*(c+1)+65537*(c+1)) % 2305843009213693921 % 1000003+(c+1)*99991+11) % 2305843009213693907) / 97+(b*(48271+2*(c+1)*(c+1)+65537*(c+1)) % 2305843009213693921*(b*(48271+2*(c+1)*(c+1)+65537*(c+1)) % 2305843009213693921 % 1000003+(c+1)*99991+11) % 2305843009213693907) / 1000033) % m),_,?_,fr a (c+1) (by ext) (by ext),_,rfl,Bz _ (by ext),Bp _ m0⟩
  have hs:∀ o,(mu.set k o)[k]? = some o:=λo=>Kb h1
  have c1:CMul 2 (c+1):=.inl ⟨by decide,by decide⟩
  have c2:CMul (2*(c+1)) (c+1):=.inl ⟨by ext,by ext⟩
  have c3:CMul 65537 (c+1):=.inl ⟨by decide,by decide⟩
  have c4:∀ z,CMul b z:=λz=>.inl ⟨by ext,by ext⟩
  have c5:CMul (c+1) 99991:=.inr ⟨by decide,by decide⟩
  have c6:∀ y z:Int,CMul (y % 2305843009213693921) z:=λy z=>.inl ⟨by ext,by ext⟩
  have c7:∀ y:Int,Ov y 97:=λy=>⟨by decide,by decide⟩
  have c8:∀ y:Int,Ov y 1000033:=λy=>⟨by decide,by decide⟩
  have i2:ixG (.ref k) (.int 2) mu=some (.int c,mu):=Q9 (j:=2) h1 rfl
  have p2:∀ v,putG (.ref k) (.int 2) v mu=some ((),mu.set k (.lst [.int a,.int b,v])):=λv=>Xp (j:=2) h1 (by simp)
  have j1:∀ v,ixG (.ref k) (.int 1) (mu.set k (.lst [.int a,.int b,v]))=some (.int b,mu.set k (.lst [.int a,.int b,v])):=λv=>Q9 (j:=1) (hs _) rfl
  have j2:∀ v,ixG (.ref k) (.int 2) (mu.set k (.lst [.int a,.int b,v]))=some (v,mu.set k (.lst [.int a,.int b,v])):=λv=>Q9 (j:=2) (hs _) rfl
  have ha':decide (0<a)=false:=by simp [ha]
  simp! [Cp,HL,i0,ha',Lf,Lf m0,UL,LU,Uv,i2,p2,j1,j2,c1,c2,c3,c4,c5,c6,c7,c8,Int.reduceLT]
theorem pick_run {k n:Nat}{s:D}{ds:List D}(hs:s=.lst ds∨s=.tup ds)(hn:ds≠[])(hl:ds.length<1073741824)(h:HandOk mu k (n+1)):Run (CM [.ref k,s] mu) k n mu λd=>d∈ds:=by
 have pos:0<ds.length:=List.length_pos_iff.mpr hn
 obtain ⟨_,mu',e,fr,t,rfl,t0,t1⟩:=Dy (m:=ds.length) h (by ext) (by ext)
 obtain ⟨d,hd,ed⟩:=TY t0 t1
 refine ⟨d,mu',?_,fr,hd⟩
 have ix:=Nw (mu:=mu') s hs t0 ed
 rcases hs with rfl|rfl
 ·simp! [CM,Ig,e,ix]
 ·simp! [CM,Ig,e,ix]
theorem U8:∀ c∈Ek.cps.toList,decide (c<0x110000)=true:=by symm
theorem Mm {x:Str}(h:∀ c∈x.cps.toList,c∈Ek.cps.toList):PyData.strOk x=true:=by
 unfold PyData.strOk
 rw [← Array.all_toList,Ao]
 exact λc hc=>U8 c (h c hc)
theorem Vv {x y:Str}(h:x.length+y.length≤sizeLine):CH (.str x) (.str y) mu=some (.str (x++y),mu):=by
 simp only [CH,h,if_true]
theorem Xx {x:Str}{lo hi:Option Int}(h:PyData.strOk (Txt.slice x lo hi)=true):slD (.str x) lo hi mu=some (.str (Txt.slice x lo hi),mu):=by
 simp only [slD,h,if_true]
theorem Qm {fi st:Int}{j k:Nat}(hs:LW st)(hj:j<13)(hk:k<13)(e:(fi+st*j) % 36=(fi+st*k) % 36):j=k:=by
 rcases hs with rfl|rfl|rfl|rfl|rfl|rfl<;>ext
theorem Sy {A B:Str}{fi st:Int}{j k:Nat}(hs:LW st)(hj:j<13)(hk:k<13)(e:wrd A B fi st j=wrd A B fi st k):j=k:=by
 have h:=congrArg (λs:Str=>s.cps.toList) e
 simp only [Po,List.append_cancel_right_eq,List.append_cancel_left_eq,List.cons.injEq,and_true] at h
 refine Qm (fi:=fi) hs hj hk ?_
 have a0:=Bz (fi+st*j) (show (36:Int)≠0 by decide)
 have a1:=Bp (fi+st*j) (show (0:Int)<36 by decide)
 have b0:=Bz (fi+st*k) (show (36:Int)≠0 by decide)
 have b1:=Bp (fi+st*k) (show (0:Int)<36 by decide)
 have e1:=II a0 a1
 have e2:=II b0 b1
 rw [h,← e2] at e1
 have l1:((fi+st*j) % 36).toNat<Ek.cps.toList.length:=by rw [HF];ext
 have l2:((fi+st*k) % 36).toNat<Ek.cps.toList.length:=by rw [HF];ext
 rw [Au l1,Au l2] at e1
 have:=(List.getElem_inj Vj).mp (AN e1)
 ext
theorem SG {A B:Str}{fi st:Int}{n:Nat}(hs:LW st)(hn:n≤13):(O0 A B fi st n).Nodup:=by
 unfold O0
 rw [AX,List.pairwise_map]
 refine List.Pairwise.imp_of_mem (λ{a b} ha hb hne e=>hne ?_) (AX.mp List.nodup_range)
 exact Sy hs (Az (BR.mp ha) hn) (Az (BR.mp hb) hn) e
theorem Jl {k n:Nat}{many:Int}(m0:0≤many)(m6:many≤13)(h:HandOk mu k (n+5)):Run (DZ [.ref k,.int many,.int 8] mu) k n mu λd=>∃ ws:List Str,d=.lst (ws.map D.str)∧(ws.length:Int)=many∧ws.Nodup∧∀ x∈ws,IsW x:=by
 obtain ⟨_,mu1,e1,f1,fi,rfl,a0,a1⟩:=Dy (m:=36) (n:=n+4) h (by decide) (by decide)
 obtain ⟨st,mu2,e2,f2,hst⟩:=pick_run (s:=.lst [.int 1,.int 5,.int 7,.int 11,.int 13,.int 17]) (n:=n+3) (.inl rfl) (by simp) (by decide) f1.hand
 obtain ⟨_,mu3,e3,f3,si,rfl,b0,b1⟩:=Dy (m:=36) (n:=n+2) f2.hand (by decide) (by decide)
 obtain ⟨mv,mu4,e4,f4,hmv⟩:=pick_run (s:=.lst [.int 0,.int 1,.int 0,.int 2,.int 7]) (n:=n+1) (.inl rfl) (by simp) (by decide) f3.hand
 obtain ⟨s',rfl,hs⟩:∃ s':Int,st=.int s'∧LW s':=by
  simp only [Am,AE,Bk] at hst
  unfold LW
  rcases hst with rfl|rfl|rfl|rfl|rfl|rfl<;>exact ⟨_,rfl,by decide⟩
 obtain ⟨v,rfl,v0,v7⟩:∃ v:Int,mv=.int v∧0≤v∧v≤7:=by
  simp only [Am,AE,Bk] at hmv
  rcases hmv with rfl|rfl|rfl|rfl|rfl<;>exact ⟨_,rfl,by decide,by decide⟩
 have hmin:OG [.int 7,.int v] mu4=some (.int v,mu4):=by
  have:(if v<7 then v else 7)=v:=by split<;>ext
  simp only [OG,PV.ints2,Option.map_some,this]
 obtain ⟨ch,hc,ix3⟩:∃ ch,ch∈Ek.cps.toList∧ixG (.str (Str.ofString "abcdefghijklmnopqrstuvwxyz0123456789")) (.int si) mu3=some (.str ⟨#[ch]⟩,mu3):=⟨_,Ap (II b0 b1),OF b0 b1⟩
 have len:(Txt.mul ⟨#[ch]⟩ v).length=v.toNat:=by
  have:=congrArg List.length (mul_list (ch) v v0 v7)
  simpa [Str.length] using this
 generalize hst:Txt.mul ⟨#[ch]⟩ v=stem at len
 have stl:stem.cps.toList=List.replicate v.toNat (ch):=by rw [← hst];exact mul_list _ v v0 v7
 have stAll:∀ x∈stem.cps.toList,x=ch:=λx hx=>by rw [stl] at hx;exact (List.mem_replicate.mp hx).2
 obtain ⟨_,mu5,e5,f5,at',rfl,c0,c1⟩:=Dy (m:=(stem.length:Int)+1) (n:=n) f4.hand (by ext) (by ext)
 have at2:at'≤stem.length:=by ext
 have sl1:=U9 (x:=stem) c0 at2
 have sl2:=P8 (x:=stem) c0 at2
 have allA:∀ x∈(Txt.slice stem none (some at')).cps.toList,x=ch:=λx hx=>stAll x (by rw [sl1] at hx;exact By hx)
 have allB:∀ x∈(Txt.slice stem (some at') none).cps.toList,x=ch:=λx hx=>stAll x (by rw [sl2] at hx;exact List.mem_of_mem_drop hx)
 have lens:(Txt.slice stem none (some at')).length+(Txt.slice stem (some at') none).length≤7:=by
  have l1:=congrArg List.length sl1
  have l2:=congrArg List.length sl2
  simp only [Array.length_toList,AQ,BH] at l1 l2
  have ls:stem.cps.size=v.toNat:=len
  unfold Str.length
  ext
 refine ⟨.lst ((O0 (Txt.slice stem none (some at')) (Txt.slice stem (some at') none) fi s' many.toNat).map D.str),mu5,?_,(((f1.trans f2).trans f3).trans f4).trans f5,_,rfl,by simp [O0];ext,SG hs (by ext),λx hx=>?_⟩
 ·have mo:MulOk ⟨#[ch]⟩ v:=AaC _ v v0 v7
  have okm:PyData.strOk stem=true:=Mm λc h=>by rw [stAll c h];exact hc
  have okA:PyData.strOk (Txt.slice stem none (some at'))=true:=Mm λc h=>by rw [allA c h];exact hc
  have okB:PyData.strOk (Txt.slice stem (some at') none)=true:=Mm λc h=>by rw [allB c h];exact hc
  have zl:stem.length≤sizeLine:=by rw [AD];ext
  have lc:FN none mu5 (gNm 0) tY (Ce CH (Ce CH (eSl (B8 1) pNo (En (B8 2))) (Ce ixG (B8 3) (Ce HA (Ce CH (B8 4) (Ce GF (B8 5) (B8 0))) (eC (.int 36))))) (eSl (B8 1) (En (B8 2)) pNo)) [none,some (.str stem),some (.int at'),some (.str Ek),some (.int fi),some (.int s')] (FY 0 many.toNat) mu5=some ((O0 (Txt.slice stem none (some at')) (Txt.slice stem (some at') none) fi s' many.toNat).map D.str,mu5):=by
   have ew:(O0 (Txt.slice stem none (some at')) (Txt.slice stem (some at') none) fi s' many.toNat).map D.str=(FY 0 many.toNat).map λd=>match d with|.int i=>.str (wrd (Txt.slice stem none (some at')) (Txt.slice stem (some at') none) fi s' i.toNat)|_=>.non:=by
    unfold O0 FY
    rw [As,As]
    refine List.map_congr_left λj _=>?_
    simp
   rw [ew]
   refine GD _ _ λd hd=>⟨_,rfl,?_⟩
   unfold FY at hd
   obtain ⟨j,hj,rfl⟩:=Ak.mp hd
   have i0:=Bz (fi+s'*(j:Int)) (show (36:Int)≠0 by decide)
   have i1:=Bp (fi+s'*(j:Int)) (show (0:Int)<36 by decide)
   have ix:=OF (mu:=mu5) i0 i1
   have cm:CMul s' (j:Int):=.inl (by rcases hs with rfl|rfl|rfl|rfl|rfl|rfl<;>exact ⟨by decide,by decide⟩)
   have z1:(Txt.slice stem none (some at')).length+(⟨#[Ek.cps.toList.getD ((fi+s'*(j:Int)) % 36).toNat 0]⟩:Str).length≤sizeLine:=by
    rw [AD,show (⟨#[Ek.cps.toList.getD ((fi+s'*(j:Int)) % 36).toNat 0]⟩:Str).length=1 from rfl]
    ext
   have z2:(Txt.slice stem none (some at')++(⟨#[Ek.cps.toList.getD ((fi+s'*(j:Int)) % 36).toNat 0]⟩:Str)).length+(Txt.slice stem (some at') none).length≤sizeLine:=by
    rw [AD,PySem.Str.length_append,show (⟨#[Ek.cps.toList.getD ((fi+s'*(j:Int)) % 36).toNat 0]⟩:Str).length=1 from rfl]
    ext
   simp! [Xx okA,Xx okB,LU cm,Lf,Int.reduceLT,Int.zero_add,ix,Vv z1,Vv z2,Int.toNat_natCast]
   rfl
  have mm:GF (.str ⟨#[ch]⟩) (.int v) mu4=some (.str stem,mu4):=by
   unfold GF
   dsimp only
   rw [hst,if_pos ⟨mo,zl,okm⟩]
  have rg:=Sn (mu:=mu5) (ro:=[some (.ref k),some (.int many),some (.int 8),some (.str Ek),some (.int fi),some (.int s'),some (.str stem),some (.int at')]) (r:=B6 (B8 1) Cb) (n:=many) (m:=mu5) rfl (by ext) (by rw [AD];ext)
  have rg':iRg (B6 (B8 1) Cb) [some (.ref k),some (.int many),some (.int 8),some (.str (Str.ofString "abcdefghijklmnopqrstuvwxyz0123456789")),some (.int fi),some (.int s'),some (.str stem),some (.int at')] mu5=some ((FY 0 many.toNat,none),mu5):=rg
  simp! [DZ,Jb,e1,e2,e3,ix3,Int.reduceSub,e4,hmin,mm,e5,rg',lc]
 ·unfold O0 at hx
  obtain ⟨j,_,rfl⟩:=Ak.mp hx
  exact Xc hc allA allB lens
theorem Tz {k n:Nat}{ns:List Int}(hk:k<64)(hn:n<2 ^ 39):∃ o,Fu [.lst (ns.map D.int),.int k] mu=some (.ref mu.length,mu++[o])∧HandOk (mu++[o]) mu.length n:=by
 have fin:∀ c:Int,∃ a b:Int,sRt (Ja (B6 (Ce GF (B8 2) (Cd Uw (B6 (Ce geD (B8 2) (Ce Tp (eC (.int 10)) (eC (.int 18)))) Cb))) (B6 (Ce CH (Ce CH (Ce HA (B8 2) (eC (.int 2305843009213693951))) (Ce GF (eC (.int 7919)) (B8 1))) (eC (.int 3))) (B6 (eC (.int 0)) Cb)))) [some (.lst (ns.map D.int)),some (.int k),some (.int c)] mu=some ((.rt (.ref mu.length),[some (.lst (ns.map D.int)),some (.int k),some (.int c)]),mu++[.lst [.int a,.int b,.int 0]])∧(-(2 ^ 63)<b∧b<2 ^ 63):=by
  intro c
  refine ⟨c*(if (1000000000000000000:Int)≤c then 1 else 0),c % 2305843009213693951+7919*(k:Int)+3,?_,?_⟩
  ·have p1:S4 10 18:=⟨by decide,by decide,by decide⟩
   have p3:CMul 7919 (k:Int):=.inl ⟨by decide,by decide⟩
   have p4:CMul c (if (1000000000000000000:Int)≤c then 1 else 0):=.inr (by split<;>exact ⟨by decide,by decide⟩)
   simp [sRt,Ja,B6,Cb,Ce,B8,Cd,eC,bM,geD,Uk,Tp,p1,Uw,intOf,GF,p3,CH,HA,p4]
  ·have:=Bz c (show (2305843009213693951:Int)≠0 by decide)
   have:=Bp c (show (0:Int)<2305843009213693951 by decide)
   ext
 have done:∀ (a b:Int),(-(2 ^ 63)<b∧b<2 ^ 63)->HandOk (mu++[.lst [.int a,.int b,.int 0]]) mu.length n:=λa b hb=>⟨a,b,0,by simp,hb,Int.le_refl _,by ext⟩
 by_cases c:k<ns.length
 ·have e:ixG (.lst (ns.map D.int)) (.int k) mu=some (.int ns[k],mu):=Aa9 _ (.inl rfl) (by simp [c])
  obtain ⟨a,b,e2,hb⟩:=fin ns[k]
  refine ⟨_,?_,done a b hb⟩
  have c':decide ((k:Int)<((ns.map D.int).length:Int))=true:=by simp [c]
  generalize hR:sRt (Ja _)=R at e2
  simp only [Fu,Ib,hR]
  simp! [c',e,e2]
 ·obtain ⟨a,b,e2,hb⟩:=fin 0
  refine ⟨_,?_,done a b hb⟩
  have c':decide ((k:Int)<((ns.map D.int).length:Int))=false:=by simp [c]
  generalize hR:sRt (Ja _)=R at e2
  simp only [Fu,Ib,hR]
  simp! [c',e2]
end PG
namespace PV
open PySem L2 PyProof.Rows K1
variable {mu:Sto}
theorem Ik {m0:Sto}{tg:Gx}{body:Sx}(Inv:Nat->Ro->Sto->Prop):∀ (ds:List D) (i:Nat) (ro:Ro) (mu:Sto),Inv i ro mu->(∀ j d ro mu,ds[j]? = some d->Inv (i+j) ro mu->∃ ro1 m1 ro2 m2,tg d ro mu=some (ro1,m1)∧body ro1 m1=some ((.nx,ro2),m2)∧Inv (i+j+1) ro2 m2) ->
  ∃ ro' mu',EN none m0 tg body ds ro mu=some ((.nx,ro'),mu')∧Inv (i+ds.length) ro' mu'
 | [],i,ro,mu,h,_=>⟨ro,mu,rfl,h⟩
 | d::ds,i,ro,mu,h,st=>by
  obtain ⟨ro1,m1,ro2,m2,e1,e2,h2⟩:=st 0 d ro mu rfl h
  obtain ⟨ro',mu',e3,h3⟩:=Ik (m0:=m0) (tg:=tg) (body:=body) Inv ds (i+1) ro2 m2 h2 λj d' ro mu ed hi=>by
   have:=st (j+1) d' ro mu (by simpa using ed) (by rw [show i+(j+1)=i+1+j by ext];exact hi)
   rw [show i+(j+1)+1=i+1+j+1 by ext] at this
   exact this
  refine ⟨ro',mu',?_,by rw [List.length_cons,show i+(ds.length+1)=i+1+ds.length by ext];exact h3⟩
  unfold EN
  rw [e1,CV,e2,CV]
  dsimp only
  rw [D9,if_pos (show gOk none m0 m2 from True.intro),e3]
theorem N4 {n j:Nat}{d:D}(h:(FY 0 n)[j]? = some d):d=.int j∧j<n:=by
 unfold FY at h
 rw [Av] at h
 cases q:(List.range n)[j]? with
 | none=>rw [q] at h;cases h
 | some k =>
  rw [q] at h
  obtain ⟨hj,e⟩:=Ah.mp q
  rw [List.length_range] at hj
  rw [List.getElem_range] at e
  subst e
  exact ⟨by simpa using h.symm,hj⟩
theorem Kl (n:Nat):(FY 0 n).length=n:=by simp [FY]
theorem append_at {mu':Sto}{r:Nat}{ds ds0:List D}{y:D}(h0:mu[r]? = some (.lst ds0))(h:mu'[r]? = some (.lst ds))(hl:ds.length<sizeLine){ro:Ro}{i:Nat}{e:Ex}(h1:B8 i ro mu=some (.ref r,mu))(h2:e ro mu=some (y,mu')):Oe (B8 i) (B6 e Cb) ro mu=some (.non,mu'.set r (.lst (ds++[y]))):=by
 have ok:E3 mu (.ref r)=true:=by simp [E3,h0]
 have a1:Iz [y]=some y:=rfl
 simp only [Oe,h1,Se,ok,if_true,YA,XX,h2,a1,h,hl]
theorem WZ {n x y:Int}(hn:0<n)(h:x % n=y % n)(h1:x-y<n)(h2:y-x<n):x=y:=by
 have e1:=Int.mul_ediv_add_emod x n
 have e2:=Int.mul_ediv_add_emod y n
 have e:n*(x / n-y / n)=x-y:=by rw [Int.mul_sub];ext
 rcases Int.lt_trichotomy (x / n-y / n) 0 with c|c|c
 ·have:n*(x / n-y / n)≤n*(-1):=Int.mul_le_mul_of_nonneg_left (by ext) (by ext)
  ext
 ·rw [c] at e
  ext
 ·have:n*1≤n*(x / n-y / n):=Int.mul_le_mul_of_nonneg_left (by ext) (by ext)
  ext
noncomputable def rot (ws:List Str)(t:Int)(s:Nat):List Str:=(List.range s).map λj:Nat=>ws.getD (((j:Int)+t) % (ws.length:Int)).toNat ⟨#[]⟩
theorem Mq {ws:List Str}(hw:0<ws.length)(x:Int):ws[(x % (ws.length:Int)).toNat]? = some (ws.getD (x % (ws.length:Int)).toNat ⟨#[]⟩):=by
 have h0:=Bz x (show (ws.length:Int)≠0 by ext)
 have h1:=Bp x (show (0:Int)<ws.length by ext)
 have h:(x % (ws.length:Int)).toNat<ws.length:=by ext
 rw [AM,Au h]
 rfl
theorem Q0 {ws:List Str}{t:Int}{s:Nat}(hw:0<ws.length):∀ x∈rot ws t s,x∈ws:=by
 intro x hx
 unfold rot at hx
 obtain ⟨j,_,rfl⟩:=Ak.mp hx
 exact Ap (Mq hw _)
theorem Vf {ws:List Str}{t:Int}{s:Nat}(hw:0<ws.length)(hd:ws.Nodup)(hs:s≤ws.length):(rot ws t s).Nodup:=by
 unfold rot
 rw [AX,List.pairwise_map]
 refine List.Pairwise.imp_of_mem (λ{a b} ha hb hne e=>hne ?_) (AX.mp List.nodup_range)
 rw [BR] at ha hb
 have a0:=Bz ((a:Int)+t) (show (ws.length:Int)≠0 by ext)
 have a1:=Bp ((a:Int)+t) (show (0:Int)<ws.length by ext)
 have b0:=Bz ((b:Int)+t) (show (ws.length:Int)≠0 by ext)
 have b1:=Bp ((b:Int)+t) (show (0:Int)<ws.length by ext)
 have e1:=Mq hw ((a:Int)+t)
 have e2:=Mq hw ((b:Int)+t)
 rw [e,← e2] at e1
 have l1:(((a:Int)+t) % (ws.length:Int)).toNat<ws.length:=by ext
 have l2:(((b:Int)+t) % (ws.length:Int)).toNat<ws.length:=by ext
 rw [Au l1,Au l2] at e1
 have h:=(List.getElem_inj hd).mp (AN e1)
 have:=WZ (n:=ws.length) (x:=(a:Int)+t) (y:=(b:Int)+t) (by ext) (by ext) (by ext) (by ext)
 ext
theorem NO (ws:List Str)(t:Int)(s:Nat):(rot ws t s).length=s:=by simp [rot]
theorem TN {ws:List Str}(hw:0<ws.length)(x:Int):ixG (.lst (ws.map D.str)) (.int (x % (ws.length:Int))) mu=some (.str (ws.getD (x % (ws.length:Int)).toNat ⟨#[]⟩),mu):=by
 have h0:=Bz x (show (ws.length:Int)≠0 by ext)
 refine Nw (ds:=ws.map D.str) _ (.inl rfl) h0 ?_
 rw [Av,Mq hw]
 rfl
mutual
noncomputable def okD:D->Bool
 | .ref _=>false
 | .tup ds=>decide (ds.length≤1000)&&okL ds
 | .lst ds=>okL ds
 | .dct ks ds=>okL ks&&okL ds
 | .set ds=>okL ds
 | _=>true
noncomputable def okL:List D->Bool
 | []=>true
 | d::ds=>okD d&&okL ds
end
mutual
theorem Tc:∀ {d:D},okD d=true->DW 0 d=true
 | .non,_=>rfl
 | .bl _,_=>rfl
 | .int _,_=>rfl
 | .str _,_=>rfl
 | .ref k,e=>by simp [okD] at e
 | .tup ds,e=>by
  simp only [okD,Ab] at e
  simp only [DW]
  exact HY e.2
 | .lst ds,e=>by
  simp only [okD] at e
  simp only [DW]
  exact HY e
 | .set ds,e=>by
  simp only [okD] at e
  simp only [DW]
  exact HY e
 | .dct ks ds,e=>by
  simp only [okD,Ab] at e
  simp only [DW,Ab]
  exact ⟨HY e.1,HY e.2⟩
theorem HY:∀ {ds:List D},okL ds=true->Hc 0 ds=true
 | [],_=>rfl
 | d::ds,e=>by
  simp only [okL,Ab] at e
  simp only [Hc,Ab]
  exact ⟨Tc e.1,HY e.2⟩
end
theorem Oz {ds:List D}:okL ds=true ↔ ∀ d∈ds,okD d=true:=by
 induction ds with
 | nil=>simp [okL]
 | cons d ds ih=>simp [okL,ih]
theorem Rm (ss:List Str):okL (ss.map D.str)=true:=by
 rw [Oz]
 intro d hd
 obtain ⟨x,_,rfl⟩:=Ak.mp hd
 rfl
end PV
namespace PG
open PySem L2 PV PyProof.Rows K1
variable {mu:Sto}
theorem Sv {ss:List Str}(h0:0<ss.length)(h4:ss.length≤4)(hd:ss.Nodup)(hw:∀ x∈ss,IsW x):Ih (.tup (ss.map D.str))=true:=by
 have W:Ih (.tup (ss.map D.str))=(Di 1 4 (.tup (ss.map D.str))&&((ss.map D.str).all CN&&ndB (ss.map D.str))):=rfl
 rw [W]
 simp only [Ab,Di,Af,Ad,Ao,ndB]
 refine ⟨⟨by ext,by ext⟩,λd hd=>?_,DX.mpr hd⟩
 obtain ⟨x,hx,rfl⟩:=Ak.mp hd
 exact De.mpr (hw x hx)
def Nt:Sx:=(Cq (CU (CL (B6 (Ce CH (eC (.int 1)) (Cd Cp (B6 (B8 0) (B6 (B8 3) Cb)))) (B6 (Cd Cp (B6 (B8 0) (B6 (eC (.int 2)) Cb))) Cb))) (gTp 2 (CD (gNm 13) (CD (gNm 14) EA)))) (Cq (CU (Cd E9 (B6 (eLC (iRg (B6 (B8 13) Cb)) 1 [6,14] (gNm 0) (tY) (Ce ixG (B8 1) (Ce HA (Ce CH (B8 0) (B8 2)) (Cd D5 (B6 (B8 1) Cb))))) Cb)) (gNm 15)) (sEx (Oe (B8 11) (B6 (CL (B6 (Ce ixG (B8 5) (Ce HA (Ce CH (B8 12) (B8 10)) (Cd D5 (B6 (B8 5) Cb)))) (B6 (B8 15) Cb))) Cb)))))
noncomputable def inS (cs:List Str):D->Bool
 | .str x=>decide (x∈cs)
 | _=>false
theorem S7 {k n R b c j:Nat}{sh:Int}{a nms fnd nm1 x9:D}{ws st:List Str}{cs:List D}{x13 x14 x15:Option D}(hc:1≤c)(hc4:c≤4)(hw:0<ws.length)(hs:st.length=c+1)(sd:st.Nodup)(sW:∀ x∈st,IsW x)(hR:mu[R]? = some (.lst cs))(hcs:cs.length<100)(hkR:R≠k)(h:HandOk mu k (n+2)) :
  ∃ y13 y14 y15 m' vs,Nt [some (.ref k),some a,some (.int b),some (.int c),some nms,some (.lst (ws.map D.str)),some (.lst (st.map D.str)),some fnd,some nm1,some x9,some (.int sh),some (.ref R),some (.int j),x13,x14,x15] mu=some ((.nx,[some (.ref k),some a,some (.int b),some (.int c),some nms,some (.lst (ws.map D.str)),some (.lst (st.map D.str)),some fnd,some nm1,some x9,some (.int sh),some (.ref R),some (.int j),y13,y14,y15]),m') ∧
   m'[R]? = some (.lst (cs++[.tup [.str (ws.getD (((j:Int)+sh) % (ws.length:Int)).toNat ⟨#[]⟩),.tup vs]]))∧Ih (.tup vs)=true∧(okD (.tup vs)=true∧vs.all (inS st)=true)∧HandOk m' k n∧(∀ i,i≠k->i≠R->m'[i]? = mu[i]?)∧m'.length=mu.length:=by
 obtain ⟨_,m1,e1,f1,t1,rfl,a0,a1⟩:=Dy (m:=c) (n:=n+1) h (by ext) (by ext)
 obtain ⟨_,m2,e2,f2,t2,rfl,b0,b1⟩:=Dy (m:=2) (n:=n) f1.hand (by decide) (by decide)
 have fr:=f1.trans f2
 have hR2:m2[R]? = some (.lst cs):=(fr.keep R hkR).trans hR
 have st0:0<st.length:=by ext
 obtain ⟨s,hs1⟩:∃ s:Nat,1+t1=(s:Int):=⟨(1+t1).toNat,by ext⟩
 have lc:FN none m2 (gNm 0) tY (Ce ixG (B8 1) (Ce HA (Ce CH (B8 0) (B8 2)) (Cd D5 (B6 (B8 1) Cb)))) [none,some (.lst (st.map D.str)),some (.int t2)] (FY 0 s) m2=some ((rot st t2 s).map D.str,m2):=by
  have e:(rot st t2 s).map D.str=(FY 0 s).map λd=>match d with|.int i=>.str (st.getD ((i+t2) % (st.length:Int)).toNat ⟨#[]⟩)|_=>.non:=by
   unfold rot FY
   rw [As,As]
   refine List.map_congr_left λj _=>?_
   simp
  rw [e]
  refine GD _ _ λd hd=>⟨_,rfl,?_⟩
  unfold FY at hd
  obtain ⟨i,_,rfl⟩:=Ak.mp hd
  have l0:(0:Int)<(st.length:Int):=by ext
  simp! [Af,Lf l0,TN st0,Int.zero_add]
 have rg:=Sn (mu:=m2) (ro:=[some (.ref k),some a,some (.int b),some (.int c),some nms,some (.lst (ws.map D.str)),some (.lst (st.map D.str)),some fnd,some nm1,some x9,some (.int sh),some (.ref R),some (.int j),some (.int s),some (.int t2),x15]) (r:=B6 (B8 13) Cb) (n:=s) (m:=m2) rfl (by ext) (by rw [AD];ext)
 rw [Int.toNat_natCast] at rg
 have l6:(0:Int)<(ws.length:Int):=by ext
 have ap:=append_at (ro:=[some (.ref k),some a,some (.int b),some (.int c),some nms,some (.lst (ws.map D.str)),some (.lst (st.map D.str)),some fnd,some nm1,some x9,some (.int sh),some (.ref R),some (.int j),some (.int s),some (.int t2),some (.tup ((rot st t2 s).map D.str))]) (i:=11) hR2 hR2 (y:=.tup [.str (ws.getD (((j:Int)+sh) % (ws.length:Int)).toNat ⟨#[]⟩),.tup ((rot st t2 s).map D.str)]) (by rw [AD];ext) rfl (e:=(CL (B6 (Ce ixG (B8 5) (Ce HA (Ce CH (B8 12) (B8 10)) (Cd D5 (B6 (B8 5) Cb)))) (B6 (B8 15) Cb)))) (by
  simp! [Af,Lf l6,TN hw])
 refine ⟨some (.int s),some (.int t2),some (.tup ((rot st t2 s).map D.str)),_,(rot st t2 s).map D.str,?_,Kb hR2,Sv (by rw [NO];ext) (by rw [NO];ext) (Vf st0 sd (by ext)) (λx hx=>sW x (Q0 st0 x hx)),?_,?_,?_,?_⟩
 ·unfold Nt
  simp! [e1,e2,hs1,rg,lc,ap]
 ·refine ⟨?_,?_⟩
  ·simp only [okD,Rm,Af,NO,Bl,Ad]
   ext
  ·rw [List.all_map,Ao]
   intro x hx
   simpa [inS] using Q0 st0 x hx
 ·obtain ⟨a,b,c',h1,h2⟩:=f2.hand
  exact ⟨a,b,c',by rw [AB hkR];exact h1,h2⟩
 ·intro i hik hiR
  rw [AB (Ne.symm hiR),fr.keep i hik]
 ·rw [List.length_set,fr.len]
end PG
namespace PV
open PySem L2 PyProof.Rows K1
variable {mu:Sto}
theorem UC (ws:List Str)(t:Int)(s:Nat):rot ws t (s+1)=rot ws t s++[ws.getD (((s:Int)+t) % (ws.length:Int)).toNat ⟨#[]⟩]:=by
 unfold rot
 rw [List.range_succ,AK]
 rfl
theorem HandOk.app {k n:Nat}{os:Sto}(h:HandOk mu k n):HandOk (mu++os) k n:=by
 have hk:=h.lt
 obtain ⟨a,b,c',q,r⟩:=h
 exact ⟨a,b,c',by rw [Aw hk];exact q,r⟩
theorem HandOk.set {k n j:Nat}{o:MO}(h:HandOk mu k n)(hj:j≠k):HandOk (mu.set j o) k n:=by
 obtain ⟨a,b,c',q,r⟩:=h
 exact ⟨a,b,c',by rw [AB hj];exact q,r⟩
theorem W9 {o:MO}{n:Nat}(h:O9 0 o=true):O9 n o=true:=by
 cases o with
 | lst ds=>exact GR (A0 _) h
 | dct ks ds =>
  simp only [O9,Ab] at h ⊢
  exact ⟨GR (A0 _) h.1,GR (A0 _) h.2⟩
theorem Jn {m:Sto}{d:D}(hd:DW 0 d=true)(hf:Flat (m.take mu.length)):K5 mu m d=some (d,m.take mu.length):=by
 have e:frz mu.length m 3 d=some d:=by
  unfold frz
  rw [if_pos (UD (A0 _) hd)]
 have al:(m.take mu.length).all (O9 mu.length)=true:=by
  rw [Ao]
  intro o ho
  obtain ⟨j,hj⟩:=AS.mp ho
  exact W9 (hf j o hj)
 unfold K5
 rw [e]
 dsimp only
 rw [if_pos al]
end PV
namespace PG
open PySem L2 PV PyProof.Rows K1
variable {mu:Sto}
def Tu (st:List Str):D->Bool
 | .tup [_,.tup vs]=>vs.all (inS st)
 | _=>false
def tabS (st:List Str):D->Bool
 | .tup [_,.tup cs,_]=>cs.all (Tu st)
 | _=>false
theorem Tg {k n R b c:Nat}{many:Nat}{sh:Int}{a nms fnd nm1:D}{ws st:List Str}(hc:1≤c)(hc4:c≤4)(hw:0<ws.length)(wW:∀ x∈ws,IsW x)(hs:st.length=c+1)(sd:st.Nodup)(sW:∀ x∈st,IsW x)(hm:many≤4)(hR:mu[R]? = some (.lst []))(hkR:R≠k)(h:HandOk mu k (n+2*many)){m0:Sto}{x12 x13 x14 x15:Option D} :
  ∃ (y12 y13 y14 y15:Option D) (mu':Sto) (cs:List D),EN none m0 (gNm 12) Nt (FY 0 many) [some (.ref k),some a,some (.int b),some (.int c),some nms,some (.lst (ws.map D.str)),some (.lst (st.map D.str)),some fnd,some nm1,some (.int many),some (.int sh),some (.ref R),x12,x13,x14,x15] mu=some ((.nx,[some (.ref k),some a,some (.int b),some (.int c),some nms,some (.lst (ws.map D.str)),some (.lst (st.map D.str)),some fnd,some nm1,some (.int many),some (.int sh),some (.ref R),y12,y13,y14,y15]),mu') ∧
   mu'[R]? = some (.lst cs)∧cs.length=many∧cs.all Pt=true∧(okL cs=true∧cs.all (Tu st)=true)∧cs.map DF=(rot ws sh many).map D.str∧HandOk mu' k n∧(∀ j,j≠k->j≠R->mu'[j]? = mu[j]?)∧mu'.length=mu.length:=by
 have key:=Ik (m0:=m0) (tg:=gNm 12) (body:=Nt) (λi ro m=>(∃ y12 y13 y14 y15,ro=[some (.ref k),some a,some (.int b),some (.int c),some nms,some (.lst (ws.map D.str)),some (.lst (st.map D.str)),some fnd,some nm1,some (.int many),some (.int sh),some (.ref R),y12,y13,y14,y15])∧(∃ cs:List D,m[R]? = some (.lst cs)∧cs.length=i∧cs.all Pt=true∧(okL cs=true∧cs.all (Tu st)=true)∧cs.map DF=(rot ws sh i).map D.str)∧i≤many∧HandOk m k (n+2*(many-i))∧(∀ j,j≠k->j≠R->m[j]? = mu[j]?)∧m.length=mu.length) (FY 0 many) 0 [some (.ref k),some a,some (.int b),some (.int c),some nms,some (.lst (ws.map D.str)),some (.lst (st.map D.str)),some fnd,some nm1,some (.int many),some (.int sh),some (.ref R),x12,x13,x14,x15] mu
  ⟨⟨x12,x13,x14,x15,rfl⟩,⟨[],hR,rfl,rfl,⟨rfl,rfl⟩,rfl⟩,A0 _,h,λ_ _ _=>rfl,rfl⟩ λj d ro m ed hi=>by
   obtain ⟨⟨y12,y13,y14,y15,rfl⟩,⟨cs,hR',hl,ha,⟨ho,hos⟩,hf⟩,hle,hh,hkeep,hlen⟩:=hi
   obtain ⟨rfl,hj⟩:=N4 ed
   obtain ⟨z13,z14,z15,m',vs,e,g1,g2,⟨g3,gs⟩,g4,g5,g6⟩:=S7 (n:=n+2*(many-(0+j+1))) (b:=b) (c:=c) (j:=j) (sh:=sh) (a:=a) (nms:=nms) (fnd:=fnd) (nm1:=nm1) (x9:=.int many) (x13:=y13) (x14:=y14) (x15:=y15) (ws:=ws) hc hc4 hw hs sd sW hR' (by ext) hkR (hh.mono (by ext))
   have wm:=wW _ (Ap (Mq hw ((j:Int)+sh)))
   refine ⟨_,m,_,m',rfl,e,⟨_,_,_,_,rfl⟩,⟨_,g1,by simp [hl],?_,?_,?_⟩,by ext,g4,λi hik hiR=>(g5 i hik hiR).trans (hkeep i hik hiR),g6.trans hlen⟩
   ·rw [List.all_append,ha]
    have:Pt (.tup [.str (ws.getD (((j:Int)+sh) % (ws.length:Int)).toNat ⟨#[]⟩),.tup vs])=(wB (ws.getD (((j:Int)+sh) % (ws.length:Int)).toNat ⟨#[]⟩)&&Ih (.tup vs)):=rfl
    rw [List.all_cons,this,De.mpr wm,g2]
    rfl
   ·refine ⟨?_,?_⟩
    ·rw [Oz] at ho ⊢
     intro d hd
     rcases Aj.mp hd with hd|hd
     ·exact ho d hd
     ·rw [Ag.mp hd]
      simp only [okD,okL,g3,List.length_cons,List.length_nil]
      simp only [okD] at g3
      rw [g3]
      rfl
    ·rw [List.all_append,hos,List.all_cons]
     simp only [Tu,gs,List.all_nil,Bd]
   ·rw [AK,hf,Nat.zero_add,UC,AK]
    rfl
 obtain ⟨ro',mu',e,⟨y12,y13,y14,y15,rfl⟩,⟨cs,a2,a3,a4,a5,a6⟩,_,a7,a8,a9⟩:=key
 rw [Kl] at a3 a6 a7
 refine ⟨y12,y13,y14,y15,mu',cs,e,a2,by ext,a4,a5,by rw [a6,Nat.zero_add],a7.mono (by ext),a8,a9⟩
def RK:Sx:=(Cq (QZ 9 10 11 (B6 (Ce CH (eC (.int 1)) (Cd Cp (B6 (B8 0) (B6 (B8 2) Cb)))) (B6 (Cd Cp (B6 (B8 0) (B6 (eC (.int 3)) Cb))) (B6 (Ja Cb) Cb)))) (Cq (JC (iRg (B6 (B8 9) Cb)) (gNm 12) Nt) (sEx (Oe (B8 7) (B6 (CL (B6 (B8 8) (B6 (Cd E9 (B6 (B8 11) Cb)) (B6 (Ce CH (eC (.int 1)) (Cd Cp (B6 (B8 0) (B6 (B8 9) Cb)))) Cb)))) Cb)))))
theorem Vq {R:Nat}{cs:List D}(h:mu[R]? = some (.lst cs)):E9 [.ref R] mu=some (.tup cs,mu):=by
 simp only [E9,sq1,Iz,Hk,D8,h,Option.map_some]
theorem UT {k n F b c:Nat}{nm:Str}{ws st:List Str}{a nms:D}{ts:List D}{x9 x10 x11 x12 x13 x14 x15:Option D}(hb:1≤b)(hb4:b≤4)(hc:1≤c)(hc4:c≤4)(hw:ws.length=b+2)(wd:ws.Nodup)(wW:∀ x∈ws,IsW x)(hs:st.length=c+1)(sd:st.Nodup)(sW:∀ x∈st,IsW x)(hW:IsW nm)(hF:mu[F]? = some (.lst ts))(hts:ts.length≤100)(hkF:F≠k)(h:HandOk mu k (n+11)) :
  ∃ y9 y10 y11 y12 y13 y14 y15 m2 cs,∃ q:Nat,RK [some (.ref k),some a,some (.int b),some (.int c),some nms,some (.lst (ws.map D.str)),some (.lst (st.map D.str)),some (.ref F),some (.str nm),x9,x10,x11,x12,x13,x14,x15] mu=some ((.nx,[some (.ref k),some a,some (.int b),some (.int c),some nms,some (.lst (ws.map D.str)),some (.lst (st.map D.str)),some (.ref F),some (.str nm),y9,y10,y11,y12,y13,y14,y15]),m2) ∧
   m2[F]? = some (.lst (ts++[.tup [.str nm,.tup cs,.int q]]))∧MK (.tup [.str nm,.tup cs,.int q])=true∧(okD (.tup [.str nm,.tup cs,.int q])=true∧tabS st (.tup [.str nm,.tup cs,.int q])=true)∧HandOk m2 k n∧(∀ j,j<mu.length->j≠k->j≠F->m2[j]? = mu[j]?)∧mu.length≤m2.length:=by
 obtain ⟨_,m1,e1,f1,t1,rfl,a0,a1⟩:=Dy (m:=b) (n:=n+10) h (by ext) (by ext)
 obtain ⟨_,m2,e2,f2,t2,rfl,b0,b1⟩:=Dy (m:=3) (n:=n+9) f1.hand (by decide) (by decide)
 have fr:=f1.trans f2
 have hkl:=h.lt
 have hFl:F<mu.length:=(Ah.mp hF).1
 obtain ⟨q,hq⟩:∃ q:Nat,1+t1=(q:Int):=⟨(1+t1).toNat,by ext⟩
 have hR:(m2++[MO.lst []])[m2.length]? = some (.lst []):=by simp
 have l2:=fr.len
 obtain ⟨y12,y13,y14,y15,m3,cs,e3,g1,g2,g3,⟨g4,gs⟩,g5,g6,g7,g8⟩:=Tg (mu:=m2++[MO.lst []]) (k:=k) (n:=n+1) (R:=m2.length) (b:=b) (c:=c) (many:=q) (sh:=t2) (a:=a) (nms:=nms) (fnd:=.ref F) (nm1:=.str nm) (ws:=ws) (st:=st) hc hc4 (by ext) wW hs sd sW (by ext) hR (by ext) (f2.hand.app.mono (by ext)) (m0:=m2++[MO.lst []]) (x12:=x12) (x13:=x13) (x14:=x14) (x15:=x15)
 have F3:m3[F]? = some (.lst ts):=by
  rw [g7 F hkF (by ext),Aw (by ext),fr.keep F hkF,hF]
 obtain ⟨_,m4,e4,f4,t4,rfl,c0,c1⟩:=Dy (m:=q) (n:=n) g6 (by ext) (by ext)
 have F4:m4[F]? = some (.lst ts):=(f4.keep F hkF).trans F3
 obtain ⟨p,hp⟩:∃ p:Nat,1+t4=(p:Int):=⟨(1+t4).toNat,by ext⟩
 have ap:=append_at (ro:=[some (.ref k),some a,some (.int b),some (.int c),some nms,some (.lst (ws.map D.str)),some (.lst (st.map D.str)),some (.ref F),some (.str nm),some (.int q),some (.int t2),some (.ref m2.length),y12,y13,y14,y15]) (i:=7) F3 F4 (y:=.tup [.str nm,.tup cs,.int p]) (by rw [AD];ext) rfl (e:=(CL (B6 (B8 8) (B6 (Cd E9 (B6 (B8 11) Cb)) (B6 (Ce CH (eC (.int 1)) (Cd Cp (B6 (B8 0) (B6 (B8 9) Cb)))) Cb))))) (by
  simp! [Vq g1,e4,hp])
 have rg:=Sn (mu:=m2++[MO.lst []]) (ro:=[some (.ref k),some a,some (.int b),some (.int c),some nms,some (.lst (ws.map D.str)),some (.lst (st.map D.str)),some (.ref F),some (.str nm),some (.int q),some (.int t2),some (.ref m2.length),x12,x13,x14,x15]) (r:=B6 (B8 9) Cb) (n:=q) (m:=m2++[MO.lst []]) rfl (by ext) (by rw [AD];ext)
 rw [Int.toNat_natCast] at rg
 refine ⟨some (.int q),some (.int t2),some (.ref m2.length),y12,y13,y14,y15,_,cs,p,?_,Kb F4,?_,?_,f4.hand.set hkF,?_,?_⟩
 ·unfold RK
  simp! [e1,e2,hq,rg,e3,ap]
 ·have T:MK (.tup [.str nm,.tup cs,.int p])=((wB nm&&((Di 1 4 (.tup cs)&&cs.all Pt)&&ndB (cs.map DF)))&&(decide ((1:Int)≤p)&&decide ((p:Int)≤cs.length))):=rfl
  rw [T,De.mpr hW,g3,g5]
  have nd:ndB ((rot ws t2 q).map D.str)=true:=by
   unfold ndB
   rw [Ad]
   exact DX.mpr (Vf (by ext) wd (by ext))
  rw [nd]
  simp only [Di,Bl,BI,Ab,Ad]
  ext
 ·refine ⟨?_,gs⟩
  simp only [okD,okL,g4,List.length_cons,List.length_nil,Bl,BI,Ab,Ad]
  ext
 ·intro i hi hik hiF
  rw [AB (Ne.symm hiF),f4.keep i hik,g7 i hik (by ext),Aw (by ext),fr.keep i hik]
 ·rw [List.length_set]
  have:=f4.len
  simp only [Ai,List.length_cons,List.length_nil] at g8
  ext
theorem QL {k n a b c:Nat}(ha:1≤a)(ha4:a≤4)(hb:1≤b)(hb4:b≤4)(hc:1≤c)(hc4:c≤4)(hfl:Flat mu)(h:HandOk mu k (n+60)):Run (EG [.ref k,.int a,.int b,.int c] mu) k n mu λd=>∃ ds,d=.tup ds∧VG d=true∧okD d=true∧∃ st:List Str,st.length≤5∧ds.all (tabS st)=true:=by
 obtain ⟨_,m1,e1,f1,t1,rfl,a0,a1⟩:=Dy (m:=a) (n:=n+59) h (by ext) (by ext)
 obtain ⟨_,m2,e2,f2,nm,rfl,nl,nd,nW⟩:=Jl (many:=1+t1) (n:=n+54) (by ext) (by ext) f1.hand
 obtain ⟨_,m3,e3,f3,ws,rfl,wl,wd,wW⟩:=Jl (many:=(b:Int)+2) (n:=n+49) (by ext) (by ext) f2.hand
 obtain ⟨_,m4,e4,f4,st,rfl,sl,sd,sW⟩:=Jl (many:=(c:Int)+1) (n:=n+44) (by ext) (by ext) f3.hand
 have fr:=((f1.trans f2).trans f3).trans f4
 have l4:=fr.len
 obtain ⟨us,ue,up⟩:=MY (ET (nm.map D.str))
 have ul:=up.length_eq
 have ud:us.Nodup:=up.nodup_iff.mpr nd
 have hkl:=f4.hand.lt
 have key:=Ik (m0:=m4++[MO.lst []]) (tg:=gNm 8) (body:=RK) (λi ro m=>(∃ y8 y9 y10 y11 y12 y13 y14 y15,ro=[some (.ref k),some (.int a),some (.int b),some (.int c),some (.lst (us.map D.str)),some (.lst (ws.map D.str)),some (.lst (st.map D.str)),some (.ref m4.length),y8,y9,y10,y11,y12,y13,y14,y15]) ∧
   (∃ ts:List D,m[m4.length]? = some (.lst ts)∧ts.length=i∧ts.all MK=true∧(okL ts=true∧ts.all (tabS st)=true)∧ts.map DF=(us.take i).map D.str)∧i≤us.length∧HandOk m k (n+11*(us.length-i))∧(∀ j,j<m4.length->j≠k->m[j]? = m4[j]?)∧m4.length<m.length) (us.map D.str) 0
   [some (.ref k),some (.int a),some (.int b),some (.int c),some (.lst (us.map D.str)),some (.lst (ws.map D.str)),some (.lst (st.map D.str)),some (.ref m4.length),none,none,none,none,none,none,none,none] (m4++[MO.lst []])
   ⟨⟨_,_,_,_,_,_,_,_,rfl⟩,⟨[],by simp,rfl,rfl,⟨rfl,rfl⟩,by simp⟩,A0 _,f4.hand.app.mono (by ext),λj hj _=>Aw hj,by simp⟩ λj d ro m ed hi=>by
  obtain ⟨⟨y8,y9,y10,y11,y12,y13,y14,y15,rfl⟩,⟨ts,hF,tl,ta,⟨to,tos⟩,tn⟩,hle,hh,hkeep,hlen⟩:=hi
  rw [Av] at ed
  cases q:us[j]? with
  | none=>rw [q] at ed;cases ed
  | some x =>
   rw [q] at ed
   have ed':D.str x=d:=by simpa using ed
   subst ed'
   obtain ⟨hj,ex⟩:=Ah.mp q
   have hxm:x∈nm:=up.mem_iff.mp (by rw [← ex];exact BQ hj)
   obtain ⟨z9,z10,z11,z12,z13,z14,z15,m',cs,p,g1,g2,g3,⟨g4,gs⟩,g5,g6,g7⟩:=UT (n:=n+11*(us.length-(0+j+1))) (a:=.int a) (b:=b) (c:=c) (nms:=.lst (us.map D.str)) (nm:=x) (x9:=y9) (x10:=y10) (x11:=y11) (x12:=y12) (x13:=y13) (x14:=y14) (x15:=y15) (ws:=ws) (st:=st) hb hb4 hc hc4 (by ext) wd wW (by ext) sd sW (nW x hxm) hF (by ext) (by ext) (hh.mono (by ext))
   refine ⟨_,m,_,m',rfl,g1,⟨_,_,_,_,_,_,_,_,rfl⟩,⟨_,g2,by simp [tl],?_,?_,?_⟩,by ext,g5,λi hi hik=>?_,by ext⟩
   ·rw [List.all_append,ta,List.all_cons,g3]
    rfl
   ·refine ⟨?_,?_⟩
    ·rw [Oz] at to ⊢
     intro d hd
     rcases Aj.mp hd with hd|hd
     ·exact to d hd
     ·rw [Ag.mp hd]
      exact g4
    ·rw [List.all_append,tos,List.all_cons,gs]
     rfl
   ·rw [AK,tn]
    have:=List.take_add_one (l:=us) (i:=0+j)
    rw [this,Nat.zero_add,q,AK]
    rfl
   ·rw [g6 i (by ext) hik (by ext),hkeep i hi hik]
 obtain ⟨ro',m5,e5,⟨_,_,_,_,_,_,_,_,rfl⟩,⟨ts,b1,b2,b3,⟨b4,bs⟩,b5⟩,_,b6,b7,b8⟩:=key
 rw [Af,Nat.zero_add] at b2 b5 b6
 rw [List.take_length] at b5
 have okT:okD (.tup ts)=true:=by
  simp only [okD,b4,Bl,Ad]
  ext
 have f5:Fr k n mu (m5.take mu.length):=by
  refine ⟨?_,λj hj=>?_,by rw [AQ];ext⟩
  ·obtain ⟨x,y,z,q,r1,r2,r3⟩:=b6
   exact ⟨x,y,z,by rw [Bs (by ext)];exact q,r1,r2,by ext⟩
  ·by_cases hj':j<mu.length
   ·rw [Bs hj',b7 j (by ext) hj,fr.keep j hj]
   ·rw [BB (by rw [AQ];ext),BB (by ext)]
 refine ⟨.tup ts,m5.take mu.length,?_,f5,ts,rfl,?_,okT,st,by ext,bs⟩
 ·have s64:nm.length<64:=by ext
  unfold RK Nt at e5
  simp! [EG,HJ,e1,e2,WU s64,ue,e3,e4,e5,Vq b1]
  exact Jn (Tc okT) (f5.flat hfl)
 ·have W:VG (.tup ts)=((Di 1 4 (.tup ts)&&ts.all MK)&&Mb (ts.map DF)):=rfl
  have rs:Mb (us.map D.str)=true:=by
   have r:=Wg us
   rw [NF (DX.mpr ud)] at r
   rw [← r,Ad]
   rw [← ue]
   exact (Nj (λd hd=>by
    obtain ⟨x,_,rfl⟩:=Ak.mp hd
    rfl) (ET (nm.map D.str))).symm
  rw [W,b3,b5,rs]
  simp only [Di,Bl,Ab,Ad]
  ext
end PG
namespace PV
open PySem L2 PyProof.Rows K1
variable {mu:Sto}
theorem Qg {m0:Sto}{tg:Gx}{el:Ex}{ro:Ro}(Inv:Nat->Sto->Prop)(P:Nat->D->Prop):∀ (ds:List D) (i:Nat) (mu:Sto),Inv i mu->(∀ j d mu,ds[j]? = some d->Inv (i+j) mu->∃ ro1 y m1,tg d ro mu=some (ro1,mu)∧el ro1 mu=some (y,m1)∧P (i+j) y∧Inv (i+j+1) m1) ->
  ∃ ys mu',FN none m0 tg tY el ro ds mu=some (ys,mu')∧Inv (i+ds.length) mu'∧ys.length=ds.length∧∀ j y,ys[j]? = some y->P (i+j) y
 | [],i,mu,h,_=>⟨[],mu,rfl,h,rfl,λj y e=>by simp at e⟩
 | d::ds,i,mu,h,st=>by
  obtain ⟨ro1,y,m1,e1,e2,p,h2⟩:=st 0 d mu rfl h
  obtain ⟨ys,mu',e3,h3,h4,h5⟩:=Qg (m0:=m0) (tg:=tg) (el:=el) (ro:=ro) Inv P ds (i+1) m1 h2 λj d' mu ed hi=>by
   have:=st (j+1) d' mu (by simpa using ed) (by rw [show i+(j+1)=i+1+j by ext];exact hi)
   rw [show i+(j+1)+1=i+1+j+1 by ext,show i+(j+1)=i+1+j by ext] at this
   exact this
  refine ⟨y::ys,mu',?_,by rw [List.length_cons,show i+(ds.length+1)=i+1+ds.length by ext];exact h3,by simp [h4],λj z e=>?_⟩
  ·unfold FN
   rw [e1,CV]
   simp only [Yp,Se,if_true]
   rw [e2,CV,D9,if_pos (show gOk none m0 m1 from True.intro),e3]
   rfl
  ·cases j with
   | zero=>cases e;exact p
   | succ j=>have:=h5 j z (by simpa using e);rw [show i+(j+1)=i+1+j by ext];exact this
theorem Aae {d e:D}(hd:EO d=true)(he:EO e=true):eqB mu d e=some (decide (d=e)):=by
 have a:=EY hd
 have b:=EY he
 have sd:seen mu d=d:=by cases d<;>first|rfl|(simp [EO,hsh] at hd)
 have se:seen mu e=e:=by cases e<;>first|rfl|(simp [EO,hsh] at he)
 unfold eqB
 rw [sd,se,Hs a.1,Hs b.1,if_pos,Hm a.1 b.1]
 rw [Kx a.1,Kx b.1]
 simp only [BI,Ad]
 ext
theorem Xs {d e:D}(hd:EO d=true)(he:EO e=true):eqD d e mu=some (.bl (decide (d=e)),mu):=by unfold eqD;rw [Aae hd he];rfl
theorem Aaj {d e:D}(hd:EO d=true)(he:EO e=true):neD d e mu=some (.bl (!decide (d=e)),mu):=by unfold neD;rw [Aae hd he];rfl
theorem MX (ss:List Str):Lu (ss.map D.str)≤1:=by
 rw [← NC (OX ss)]
 exact Pa ss
theorem GZ (ss:List Str):EO (.tup (ss.map D.str))=true:=by
 unfold EO
 rw [Ab,Ad]
 refine ⟨by unfold hsh;exact OX ss,?_⟩
 have:=MX ss
 unfold dpt
 ext
end PV
namespace PG
open PySem L2 PV PyProof.Rows K1
variable {mu:Sto}
structure Tb where
 nm:Str
 cs:List (Str×List Str)
 ks:Nat
noncomputable def clD (p:Str×List Str):D:=.tup [.str p.1,.tup (p.2.map D.str)]
def tbD (t:Tb):D:=.tup [.str t.nm,.tup (t.cs.map clD),.int t.ks]
structure Ab7 (t:Tb):Prop where
 c1:1≤t.cs.length
 c4:t.cs.length≤4
 k1:1≤t.ks
 k4:t.ks≤t.cs.length
 vs:∀ p∈t.cs,p.2≠[]∧p.2.length≤4
theorem IK {α:Type}{xs:List α}{j:Nat}(h:j≤xs.length):PV.cutD xs none (some (j:Int))=xs.take j:=by
 unfold PV.cutD
 rw [HT.Mz,HT.NB]
 simp [Nat.min_eq_left h]
theorem LS {α:Type}{xs:List α}{j:Nat}(h:j≤xs.length):PV.cutD xs (some (j:Int)) none=xs.drop j:=by
 unfold PV.cutD
 rw [HT.Mz,HT.NB]
 rw [Nat.min_eq_left h]
 apply B4
 simp
end PG
namespace PV
open PySem L2 PyProof.Rows K1
variable {mu:Sto}
theorem OC (x:Str)(ss:List Str):((CT (ss.map D.str)).any λy=>PyData.eqv y (toPy (.str x)))=decide (x∈ss):=by
 induction ss with
 | nil=>simp [CT]
 | cons y ys ih =>
  rw [AO,CT,List.any_cons,ih]
  simp only [toPy,PyData.eqv,Am]
  by_cases c:x=y
  ·subst c;simp
  ·have:(y==x)=false:=by simpa using λe:y=x=>c e.symm
   simp [c,this]
theorem LM {x:Str}{ss:List Str}{s:D}(hs:s=.tup (ss.map D.str)∨s=.lst (ss.map D.str)):inB mu (.str x) s=some (decide (x∈ss)):=by
 have p:=Nl ss
 have d:=Pa ss
 rcases hs with rfl|rfl
 ·simp only [inB,seen,Dc,p,Bd,BI]
  rw [if_pos (by rw [Ad];ext),OC]
 ·simp only [inB,seen,Dc,p,Bd,BI]
  rw [if_pos (by rw [Ad];ext),OC]
theorem PH {x:Str}{ss:List Str}:inG (.str x) (.tup (ss.map D.str)) mu=some (.bl (decide (x∈ss)),mu):=by simp only [inG,inD,LM (.inl rfl),Option.map_some]
theorem Qi {x:Str}{ss:List Str}:G7 (.str x) (.tup (ss.map D.str)) mu=some (.bl (!decide (x∈ss)),mu):=by simp only [G7,SY,LM (.inl rfl),Option.map_some]
theorem JW {x a b:Str}:inG (.str x) (.tup [.str a,.str b]) mu=some (.bl (decide (x∈[a,b])),mu):=PH (ss:=[a,b])
theorem RO {x a b c:Str}:G7 (.str x) (.tup [.str a,.str b,.str c]) mu=some (.bl (!decide (x∈[a,b,c])),mu):=Qi (ss:=[a,b,c])
theorem Hw (x:Str):EO (.str x)=true:=by simp [EO,hsh,dpt]
noncomputable def isN:D->Bool
 | .non=>true
 | _=>false
theorem Kv {d:D}:isD d .non mu=some (.bl (isN d),mu):=by cases d<;>rfl
noncomputable def prD (p:Str×Str):D:=.tup [.str p.1,.str p.2]
noncomputable def prK (p:Str×Str):D×D:=(.str p.1,.str p.2)
theorem OM (ps:List (Str×Str)):pairsOf (ps.map prD)=some (ps.map prK):=by
 induction ps with
 | nil=>rfl
 | cons p ps ih =>
  rw [AO,AO]
  unfold prD
  rw [pairsOf,if_pos (Hw _)]
  unfold prD at ih
  rw [ih]
  rfl
theorem La:∀ (ps:List (D×D)) (ks vs:List D),ks.length=vs.length->(ks++ps.map (·.1)).Nodup->putAll (ks,vs) ps=(ks++ps.map (·.1),vs++ps.map (·.2))
 | [],ks,vs,_,_=>by simp [putAll]
 | p::ps,ks,vs,l,n=>by
  have h1:p.1∉ks:=λh=>by
   rw [AO,Bb] at n
   exact n.2.2 p.1 h p.1 (.head _) rfl
  have:putAll (ks,vs) (p::ps)=putAll (ks++[p.1],vs++[p.2]) ps:=by
   unfold putAll
   rw [List.foldl_cons]
   congr 1
   unfold EF
   rw [if_neg h1]
  rw [this,La ps (ks++[p.1]) (vs++[p.2]) (by simp [l]) (by simpa using n)]
  simp
noncomputable def EU:List (Str×Str)->Str->Str
 | [],c=>c
 | p::r,c=>if p.1=c then p.2 else EU r c
theorem UU (ps:List (Str×Str))(c:Str):(F0 (.str c) ((ps.map prK).map (·.1)) ((ps.map prK).map (·.2))).getD (.str c)=.str (EU ps c):=by
 induction ps with
 | nil=>rfl
 | cons p ps ih =>
  rw [AO,AO,AO,F0]
  unfold EU prK
  dsimp only
  by_cases e:p.1=c
  ·rw [if_pos (by rw [e]),if_pos e]
   rfl
  ·rw [if_neg (λz=>e (by injection z)),if_neg e]
   exact ih
theorem VP {ps:List (Str×Str)}(h:(ps.map (·.1)).Nodup):(([]:List D)++(ps.map prK).map (·.1)).Nodup:=by
 have e:(ps.map prK).map (·.1)=(ps.map (·.1)).map D.str:=by
  rw [As,As]
  rfl
 rw [List.nil_append,e]
 exact DX.mpr h
theorem To {ps:List (Str×Str)}{s:D}(hs:s=.tup (ps.map prD)∨s=.lst (ps.map prD))(h:(ps.map (·.1)).Nodup):dctP [s] mu=some (.dct ((ps.map prK).map (·.1)) ((ps.map prK).map (·.2)),mu):=by
 have e:=La (ps.map prK) [] [] rfl (VP h)
 rw [List.nil_append,List.nil_append] at e
 rcases hs with rfl|rfl<;>simp only [dctP,sq1,Iz,Hk,D8,OM,e]
theorem QY {ps:List (Str×Str)}{o:Ex}{a:Exs}{ro:Ro}{c:Str}{m1 m2:Sto}(ho:o ro mu=some (.dct ((ps.map prK).map (·.1)) ((ps.map prK).map (·.2)),m1))(ha:a ro m1=some ([.str c,.str c],m2)):J9 o a ro mu=some (.str (EU ps c),m2):=by
 simp only [J9,ho,Se,FZ,Option.isSome_some,if_true,ha,Rl,Hw,UU]
end PV
namespace PG
open PySem L2 PV PyProof.Rows K1
variable {mu:Sto}
noncomputable def csD (cs:List Str):D:=.tup (cs.map D.str)
noncomputable def Ed (cs:List Str):D->Bool
 | .str x=>decide (x∈cs)
 | _=>false
theorem Ow (cs ws:List Str):(ws.map D.str).all (Ed cs)=ws.all λw=>decide (w∈cs):=by rw [List.all_map];rfl
theorem JU {cs ws:List Str}{s:D}(hs:s=.lst (ws.map D.str)∨s=.tup (ws.map D.str)):DA [csD cs,s] mu=some (.bl (ws.all λw=>decide (w∈cs)),mu):=by
 have al:=Iy (m0:=mu) (tg:=gNm 0) (el:=Ce inG (B8 0) (B8 1)) (ro:=[none,some (csD cs)]) (mu:=mu) (Ed cs) (ws.map D.str) (λd hd=>by
  obtain ⟨w,_,rfl⟩:=Ak.mp hd
  exact ⟨_,rfl,by simp! [csD,PH];rfl⟩)
 rcases hs with rfl|rfl<;>simp! [DA,HP,al,Ow]
def Fy:D->Bool
 | .tup [a,b]=>CN a&&CN b
 | _=>false
theorem Wd (d:D)(h:DW 0 d=true):GS [d] mu=some (.bl (Fy d),mu):=by
 simp! [GS,KU,FP d 2 2 (Ds h)]
 cases c:Di 2 2 d with
 | false =>
  have:Fy d=false:=by
   unfold Fy
   split
   ·simp [Di] at c
   ·rfl
  simp! [this]
 | true =>
  obtain ⟨a,b,rfl⟩:=Xz c
  have e:Fy (.tup [a,b])=(CN a&&CN b):=rfl
  simp! [Jp a (nRs h a (by simp)),e]
  cases c2:CN a with
  | false=>simp! []
  | true=>simp! [Jp b (nRs h b (by simp))]
theorem Eu {d:D}(h:CN d=true):∃ x,d=.str x∧IsW x:=by
 cases d with
 | str x=>exact ⟨x,rfl,De.mp h⟩
 | _=>cases h
theorem Nv {ds:List D}(h:ds.all Fy=true):∃ ps:List (Str×Str),ds=ps.map prD∧∀ p∈ps,IsW p.1∧IsW p.2:=by
 induction ds with
 | nil=>exact ⟨[],rfl,λ_ h=>nomatch h⟩
 | cons d ds ih =>
  rw [List.all_cons,Ab] at h
  obtain ⟨ps,rfl,hp⟩:=ih h.2
  have h1:=h.1
  unfold Fy at h1
  split at h1
  ·rename_i a b
   rw [Ab] at h1
   obtain ⟨x,rfl,hx⟩:=Eu h1.1
   obtain ⟨y,rfl,hy⟩:=Eu h1.2
   refine ⟨(x,y)::ps,rfl,λp hp'=>?_⟩
   rcases Am.mp hp' with rfl|hp'
   ·exact ⟨hx,hy⟩
   ·exact hp p hp'
  ·cases h1
theorem N1 (ps:List (Str×Str)):(ps.map prD).map DF=(ps.map (·.1)).map D.str:=by
 rw [As,As]
 rfl
def Km (cs:List Str):D->Bool
 | .tup ds=>(Di 1 cs.length (.tup ds)&&ds.all Fy)&&(ndB (ds.map DF)&&(ds.map DF).all (Ed cs))
 | _=>false
theorem TQ {d:D}(h:Fy d=true):∃ a ds,d=.tup (a::ds)∧CN a=true:=by
 unfold Fy at h
 split at h
 ·rename_i a b
  rw [Ab] at h
  exact ⟨a,[b],rfl,h.1⟩
 ·cases h
theorem ND {cs:List Str}:D5 [csD cs] mu=some (.int cs.length,mu):=by
 unfold csD
 rw [UE,Af]
theorem S0 (cs:List Str)(hc:cs.length≤2000)(d:D)(h:DW 0 d=true):Gm [csD cs,d] mu=some (.bl (Km cs d),mu):=by
 simp! [Gm,IE,ND,FP d 1 cs.length (Ds h)]
 cases d with
 | tup ds =>
  have e:Km cs (.tup ds)=((Di 1 cs.length (.tup ds)&&ds.all Fy)&&(ndB (ds.map DF)&&(ds.map DF).all (Ed cs))):=rfl
  rw [e]
  cases c:Di 1 cs.length (.tup ds) with
  | false=>simp! []
  | true =>
   have al:=Iy (m0:=mu) (tg:=gNm 0) (el:=Cd GS (B6 (B8 0) Cb)) (ro:=[none]) (mu:=mu) Fy ds (λd hd=>⟨_,rfl,by simp! [Wd d (lows h d hd)]⟩)
   simp! [al]
   cases c2:ds.all Fy with
   | false=>simp! []
   | true =>
    obtain ⟨ps,rfl,_⟩:=Nv c2
    have l4:(ps.map (·.1)).length<4000:=by
     simp only [Di,Af,Ab,Ad] at c
     rw [Af]
     ext
    simp! [ZK (λd=>TQ) c2,N1,VY l4]
    cases c3:ndB ((ps.map (·.1)).map D.str) with
    | false=>simp! []
    | true=>simp! [JU (.inl rfl),Ow]
 | ref k=>cases Ds h
 | _=>simp! [Di,Km]
theorem Qn {cs:List Str}{ps:List (Str×Str)}(h:(ps.map (·.1)).Nodup):Es [csD cs,.tup (ps.map prD)] mu=some (csD (cs.map (EU ps)),mu):=by
 have al:=GD (m0:=mu) (tg:=gNm 0) (el:=J9 (B8 1) (B6 (B8 0) (B6 (B8 0) Cb))) (ro:=[none,some (.dct ((ps.map prK).map (·.1)) ((ps.map prK).map (·.2)))]) (mu:=mu) (λd=>match d with|.str c=>.str (EU ps c)|_=>.non) (cs.map D.str) (λd hd=>by
  obtain ⟨c,_,rfl⟩:=Ak.mp hd
  exact ⟨_,rfl,QY rfl rfl⟩)
 have e:(cs.map D.str).map (λd=>match d with|.str c=>D.str (EU ps c)|_=>.non)=(cs.map (EU ps)).map D.str:=by
  rw [As,As]
  rfl
 rw [e] at al
 simp! [Es,F2,csD,To (.inl rfl) h,al]
def wsB (hi:Int)(d:D):Bool:=Di 1 hi d&&(Od d&&match d with|.tup ds=>ndB ds|_=>false)
theorem PZ (hi:Int)(h4:hi≤2000)(d:D)(h:DW 0 d=true):E1 [d,.int 1,.int hi] mu=some (.bl (wsB hi d),mu):=by
 unfold wsB
 simp! [E1,Hh,FP d 1 hi (Ds h)]
 cases c:Di 1 hi d with
 | false=>simp! []
 | true =>
  simp! [Vp d h]
  cases c2:Od d with
  | false=>simp! []
  | true =>
   cases d with
   | tup ds =>
    obtain ⟨ss,rfl,_⟩:=Jz c2
    have l4:ss.length<4000:=by
     simp only [Di,Af,Ab,Ad] at c
     ext
    simp! [Oy l4]
   | _=>simp [Od] at c2
def IA (cs:List Str):D->Bool
 | .tup [a,b,c]=>(CN a&&(CN b&&CN c))&&(if Ed ["is","not"] a=true then Ed cs b else Ed ["like","unlike"] a&&(Ed cs b&&Ed cs c))
 | _=>false
theorem WA (cs:List Str)(d:D)(h:DW 0 d=true):GW [csD cs,d] mu=some (.bl (IA cs d),mu):=by
 simp! [GW,KJ,FP d 3 3 (Ds h)]
 cases c:Di 3 3 d with
 | false =>
  have:IA cs d=false:=by
   unfold IA
   split
   ·simp [Di] at c
   ·rfl
  simp! [this]
 | true =>
  obtain ⟨a,b,e,rfl⟩:=Acl c
  have al:=Iy (m0:=mu) (tg:=gNm 0) (el:=Cd Dk (B6 (B8 0) Cb)) (ro:=[none]) (mu:=mu) CN [a,b,e] (λd hd=>⟨_,rfl,by simp! [Jp d (nRs h d hd)]⟩)
  have a3:IC [.lst [.bl (CN a),.bl (CN b),.bl (CN e)]] mu=some (.bl (CN a&&(CN b&&CN e)),mu):=by
   have:=Ql (mu:=mu) (ds:=[a,b,e]) (g:=CN)
   simpa using this
  have E:IA cs (.tup [a,b,e])=((CN a&&(CN b&&CN e))&&(if Ed ["is","not"] a=true then Ed cs b else Ed ["like","unlike"] a&&(Ed cs b&&Ed cs e))):=rfl
  rw [E]
  simp! [al,a3]
  cases c2:(CN a&&(CN b&&CN e)) with
  | false=>simp! []
  | true =>
   rw [Ab,Ab] at c2
   obtain ⟨x,rfl,_⟩:=Eu c2.1
   obtain ⟨y,rfl,_⟩:=Eu c2.2.1
   obtain ⟨z,rfl,_⟩:=Eu c2.2.2
   have wi:=JU (mu:=mu) (cs:=cs) (ws:=[y,z]) (.inr rfl)
   have wi':DA [csD cs,.tup [.str y,.str z]] mu=some (.bl (Ed cs (.str y)&&Ed cs (.str z)),mu):=by
    have:(Ed cs (.str y)&&Ed cs (.str z))=[y,z].all λw=>decide (w∈cs):=by simp [Ed]
    rw [this]
    exact wi
   have i1:inG (.str y) (csD cs) mu=some (.bl (Ed cs (.str y)),mu):=PH
   have i2:inG (.str x) (.tup [.str "is",.str "not"]) mu=some (.bl (Ed ["is","not"] (.str x)),mu):=JW
   have i3:inG (.str x) (.tup [.str "like",.str "unlike"]) mu=some (.bl (Ed ["like","unlike"] (.str x)),mu):=JW
   simp! [i2]
   cases c3:Ed ["is","not"] (.str x) with
   | true=>simp! [i1]
   | false =>
    simp! [i3]
    cases c4:Ed ["like","unlike"] (.str x) with
    | false=>simp! []
    | true=>simp! [wi']
def Mo (cs:List Str):D->Bool
 | .tup ds=>Di 1 4 (.tup ds)&&ds.all (IA cs)
 | _=>false
theorem R5 (cs:List Str)(d:D)(h:DW 0 d=true):Gq [csD cs,d] mu=some (.bl (Mo cs d),mu):=by
 simp! [Gq,IL,FP d 1 4 (Ds h)]
 cases d with
 | tup ds =>
  have e:Mo cs (.tup ds)=(Di 1 4 (.tup ds)&&ds.all (IA cs)):=rfl
  rw [e]
  cases c:Di 1 4 (.tup ds) with
  | false=>simp! []
  | true =>
   have al:=Iy (m0:=mu) (tg:=gNm 0) (el:=Cd GW (B6 (B8 1) (B6 (B8 0) Cb))) (ro:=[none,some (csD cs)]) (mu:=mu) (IA cs) ds (λd hd=>⟨_,rfl,by simp! [WA cs d (lows h d hd)]⟩)
   simp! [al]
 | ref k=>cases Ds h
 | _=>simp! [Di,Mo]
def Dx:Option (List Str)->D
 | none=>.non
 | some cs=>csD cs
def MH:D->List Str
 | .tup ds=>(strsOf ds).getD []
 | _=>[]
noncomputable def VM:List D->List (Str×Str)
 | .tup [.str a,.str b]::r=>(a,b)::VM r
 | _=>[]
theorem UK (ps:List (Str×Str)):VM (ps.map prD)=ps:=by
 induction ps with
 | nil=>rfl
 | cons p ps ih =>
  rw [AO]
  unfold prD
  unfold prD at ih
  rw [VM,ih]
def prT:D->List (Str×Str)
 | .tup ds=>VM ds
 | _=>[]
def GH (cs:List Str)(w:Str)(d:D):Option (List Str):=
 if w="rows" then (if Mo cs d=true then some cs else none)
 else if w="columns" then (if (wsB cs.length d&&(MH d).all λx=>decide (x∈cs))=true then some (MH d) else none)
 else if w="called" then (if Km cs d=true then (if (cs.map (EU (prT d))).Nodup then some (cs.map (EU (prT d))) else none) else none)
 else none
theorem J1 {hi:Int}{d:D}(h:wsB hi d=true):∃ ss:List Str,d=csD ss∧MH d=ss∧ss.Nodup∧1≤ss.length∧(ss.length:Int)≤hi∧∀ x∈ss,IsW x:=by
 unfold wsB at h
 rw [Ab,Ab] at h
 cases d with
 | tup ds =>
  obtain ⟨ss,rfl,hw⟩:=Jz (show ds.all CN=true from h.2.1)
  have:=h.1
  simp only [Di,Af,Ab,Ad] at this
  refine ⟨ss,rfl,by simp [MH,PV.strs_map],?_,by ext,by ext,hw⟩
  have n:=h.2.2
  simp only [ndB,Ad] at n
  exact DX.mp n
 | _=>simp [Di] at h
theorem J5 {cs:List Str}{d:D}(h:Km cs d=true):∃ ps:List (Str×Str),d=.tup (ps.map prD)∧prT d=ps∧(ps.map (·.1)).Nodup∧1≤ps.length∧(∀ p∈ps,IsW p.1∧IsW p.2)∧∀ p∈ps,p.1∈cs:=by
 cases d with
 | tup ds =>
  have e:((Di 1 cs.length (.tup ds)&&ds.all Fy)&&(ndB (ds.map DF)&&(ds.map DF).all (Ed cs)))=true:=h
  rw [Ab,Ab,Ab] at e
  obtain ⟨ps,rfl,hw⟩:=Nv e.1.2
  have l:=e.1.1
  simp only [Di,Af,Ab,Ad] at l
  have n:=e.2.1
  rw [N1] at n
  simp only [ndB,Ad] at n
  have al:=e.2.2
  rw [N1,Ow,Ao] at al
  refine ⟨ps,rfl,UK ps,DX.mp n,by ext,hw,λp hp=>?_⟩
  simpa using al p.1 (Ak.mpr ⟨p,hp,rfl⟩)
 | _=>simp [Km] at h
theorem QW {cs:List Str}(hc:cs.length≤2000){w:Str}{d:D}(h:DW 0 d=true):DQ [csD cs,.str w,d] mu=some (Dx (GH cs w d),mu):=by
 unfold GH
 simp! [DQ,Fc]
 by_cases c1:w="rows"
 ·simp! [c1,R5 cs d h]
  cases Mo cs d with
  | true=>simp! [Dx]
  | false=>simp! [Dx]
 ·simp! [c1]
  by_cases c2:w="columns"
  ·simp! [c2,ND,PZ cs.length (by ext) d h]
   cases c:wsB cs.length d with
   | false=>simp! [Dx]
   | true =>
    obtain ⟨ss,rfl,e,_⟩:=J1 c
    have wi:=JU (mu:=mu) (cs:=cs) (ws:=ss) (.inr rfl)
    have wi':DA [csD cs,csD ss] mu=some (.bl (ss.all λw=>decide (w∈cs)),mu):=wi
    simp! [wi',e]
    cases ss.all λw=>decide (w∈cs) with
    | true=>simp! [Dx]
    | false=>simp! [Dx]
  ·simp! [c2]
   by_cases c3:w="called"
   ·simp! [c3,S0 cs hc d h]
    cases c:Km cs d with
    | false=>simp! [Dx]
    | true =>
     obtain ⟨ps,rfl,e,nd,_⟩:=J5 c
     have ul:Dm [csD (cs.map (EU ps))] mu=some (.bl (ndB ((cs.map (EU ps)).map D.str)),mu):=Oy (by rw [Af];ext)
     simp! [Qn nd,e,ul]
     by_cases c4:(cs.map (EU ps)).Nodup
     ·have:ndB ((cs.map (EU ps)).map D.str)=true:=by simp only [ndB,Ad];exact DX.mpr c4
      simp! [this,c4,Dx]
     ·have:ndB ((cs.map (EU ps)).map D.str)=false:=by simp only [ndB,decide_eq_false_iff_not];exact λz=>c4 (DX.mp z)
      simp! [this,c4,Dx]
   ·simp! [c3,Dx]
noncomputable def J3 (one other:List Str):List Str:=one++other.filter λc=>!decide (c∈one)
theorem Of {m0:Sto}(one other:List Str):FN none m0 (gNm 0) (tV (Ce G7 (B8 0) (B8 1))) (B8 0) [none,some (csD one)] (other.map D.str) mu=some ((other.filter λc=>!decide (c∈one)).map D.str,mu):=by
 have:=Jq (m0:=m0) (tg:=gNm 0) (tt:=tV (Ce G7 (B8 0) (B8 1))) (el:=B8 0) (ro:=[none,some (csD one)]) (mu:=mu) (λd=>!Ed one d) id (other.map D.str) (λd hd=>by
  obtain ⟨c,_,rfl⟩:=Ak.mp hd
  refine ⟨_,rfl,?_,λ_=>rfl⟩
  have i:G7 (.str c) (csD one) mu=some (.bl (!Ed one (.str c)),mu):=Qi
  simp! [i])
 rw [this,List.map_id,List.filter_map]
 rfl
theorem Qj {one other:List Str}(h:one.length+other.length≤4000):EE [csD one,csD other] mu=some (csD (J3 one other),mu):=by
 have l:=List.length_filter_le (λc=>!decide (c∈one)) other
 have za:CH (.tup (one.map D.str)) (.tup ((other.filter λc=>!decide (c∈one)).map D.str)) mu=some (csD (J3 one other),mu):=by
  unfold CH
  dsimp only
  rw [if_pos (by simp only [Af,AD];ext)]
  simp [csD,J3]
 have lc:=Of (m0:=mu) (mu:=mu) one other
 unfold csD at lc ⊢
 unfold csD at za
 simp! [EE,F1,lc,za]
def Lw (one:List Str)(w:Str)(other:List Str):Option (List Str):=if w="join" then some (J3 one other) else if one=other then some one else none
theorem str_inj:∀ {a b:List Str},a.map D.str=b.map D.str->a=b
 | [],[],_=>rfl
 | [],_::_,h=>by cases h
 | _::_,[],h=>by cases h
 | x::a,y::b,h=>by
  rw [AO,AO] at h
  injection h with h1 h2
  injection h1 with h1
  rw [h1,str_inj h2]
theorem P7 {a b:List Str}:csD a=csD b ↔ a=b:=by
 unfold csD
 constructor
 ·intro h
  injection h with h
  exact str_inj h
 ·intro h;rw [h]
theorem QX {one other:List Str}{w:Str}(h:one.length+other.length≤4000):DV [csD one,.str w,csD other] mu=some (Dx (Lw one w other),mu):=by
 unfold Lw
 have eq:eqD (csD one) (csD other) mu=some (.bl (decide (csD one=csD other)),mu):=Xs (GZ one) (GZ other)
 simp! [DV,E7]
 by_cases c1:w="join"
 ·simp! [c1,Qj h,Dx]
 ·simp! [c1,eq]
  by_cases c2:one=other
  ·subst c2;simp! [Dx]
  ·have:¬ csD one=csD other:=λz=>c2 (P7.mp z)
   simp! [this,c2,Dx]
end PG
namespace PV
open PySem L2 PyProof.Rows K1
variable {mu:Sto}
theorem Xt {x:Str}{r:Nat}{ks ds:List D}(h:mu[r]? = some (.dct ks ds)):inG (.str x) (.ref r) mu=some (.bl (decide (D.str x∈ks)),mu):=by
 have:inD (.str x) (.ref r) mu=none:=by simp [inD,inB,seen,h]
 simp only [inG,this,inC,FZ,h,Hw,if_true]
 simp
theorem Ym {x:Str}{r:Nat}{ks ds:List D}{v:D}(h:mu[r]? = some (.dct ks ds))(hv:F0 (.str x) ks ds=some v):ixG (.ref r) (.str x) mu=some (v,mu):=by
 have:ixD (.ref r) (.str x) mu=none:=by simp [ixD,D8,h]
 simp only [ixG,this,ixC,FZ,h,Hw,if_true,hv,Option.map_some]
mutual
noncomputable def wds:D->List Str
 | .str x=>[x]
 | .tup ds=>JD ds
 | .lst ds=>JD ds
 | _=>[]
noncomputable def JD:List D->List Str
 | []=>[]
 | d::ds=>wds d++JD ds
end
theorem ID {ds:List D}{x:Str}:x∈JD ds ↔ ∃ d∈ds,x∈wds d:=by
 induction ds with
 | nil=>simp [JD]
 | cons d ds ih=>simp [JD,ih]
theorem FU {ds:List D}{d:D}(h:d∈ds){x:Str}(hx:x∈wds d):x∈wds (.tup ds):=by
 rw [wds]
 exact ID.mpr ⟨d,h,hx⟩
theorem LY {α:Type} [DecidableEq α]:∀ {a b:List α},a.Nodup->(∀ x∈a,x∈b)->a.length≤b.length
 | [],_,_,_=>A0 _
 | x::a,b,h,hs=>by
  rw [Bf] at h
  have ih:=LY (a:=a) (b:=b.erase x) h.2 λy hy=>by
   exact (List.mem_erase_of_ne (show y≠x from λe=>h.1 (e▸hy))).mpr (hs y (.tail _ hy))
  have:=List.length_erase_of_mem (hs x (.head _))
  have:=List.length_pos_of_mem (hs x (.head _))
  rw [List.length_cons]
  ext
end PV
namespace PG
open PySem L2 PV PyProof.Rows K1
variable {mu:Sto}
abbrev Kn:=List (Str×List Str)
noncomputable def DN:Kn->Str->Option (List Str)
 | [],_=>none
 | p::r,x=>if p.1=x then some p.2 else DN r x
theorem WR (kn:Kn)(x:Str):F0 (.str x) (kn.map λp=>.str p.1) (kn.map λp=>csD p.2)=(DN kn x).map csD:=by
 induction kn with
 | nil=>rfl
 | cons p r ih =>
  rw [AO,AO,F0,DN]
  by_cases c:p.1=x
  ·rw [if_pos (by rw [c]),if_pos c];rfl
  ·rw [if_neg (λz=>c (by injection z)),if_neg c,ih]
theorem Ku (kn:Kn)(x:Str):decide (D.str x∈kn.map λp=>D.str p.1)=(DN kn x).isSome:=by
 induction kn with
 | nil=>simp [DN]
 | cons p r ih =>
  rw [DN,AO]
  by_cases c:p.1=x
  ·rw [if_pos c];simp [c]
  ·rw [if_neg c,← ih]
   have:¬ D.str x=D.str p.1:=λz=>c (by injection z with z;exact z.symm)
   simp [this]
theorem Jr {kn:Kn}{x:Str}{cs:List Str}(h:DN kn x=some cs):(x,cs)∈kn:=by
 induction kn with
 | nil=>cases h
 | cons p r ih =>
  rw [DN] at h
  by_cases c:p.1=x
  ·rw [if_pos c] at h
   cases h
   rw [← c]
   exact .head _
  ·rw [if_neg c] at h
   exact .tail _ (ih h)
def ofC (kn:Kn)(w:Str)(b:D):Option (List Str):=if (decide (w="of")&&CN b)=true then (match b with|.str x=>DN kn x|_=>none) else none
noncomputable def Co (kn:Kn):Nat->D->Option (List Str)
 | 0,_=>none
 | n+1,d=>match d with
  | .tup [.str w,b]=>ofC kn w b
  | .tup [.str w,a,b]=>if w="of" then none else match Co kn n a with
   | none=>none
   | some one=>if w∈(["join","union","gap"]:List Str) then (match Co kn n b with
    | none=>none
    | some other=>Lw one w other) else GH one w b
  | _=>none
def KnAt (mu:Sto)(r:Nat)(kn:Kn):Prop:=mu[r]? = some (.dct (kn.map λp=>.str p.1) (kn.map λp=>csD p.2))
def KnV (V:List Str)(kn:Kn):Prop:=∀ p∈kn,p.2.Nodup∧∀ c∈p.2,c∈V
theorem XC {one other:List Str}(h1:one.Nodup)(h2:other.Nodup):(J3 one other).Nodup:=by
 unfold J3
 refine Bb.mpr ⟨h1,h2.filter _,λa ha b hb e=>?_⟩
 subst e
 have:=(BD.mp hb).2
 simp [ha] at this
theorem Wz (ps:List (Str×Str))(c:Str):EU ps c=c∨∃ p∈ps,EU ps c=p.2:=by
 induction ps with
 | nil=>exact .inl rfl
 | cons p ps ih =>
  unfold EU
  split
  ·exact .inr ⟨p,.head _,rfl⟩
  ·rcases ih with h|⟨q,hq,h⟩
   ·exact .inl h
   ·exact .inr ⟨q,.tail _ hq,h⟩
theorem Eg {kn:Kn}{V:List Str}(hk:KnV V kn):∀ (n:Nat) (d:D) (cs:List Str),(∀ x∈wds d,x∈V)->Co kn n d=some cs->cs.Nodup∧∀ c∈cs,c∈V
 | 0,_,_,_,h=>by cases h
 | n+1,d,cs,hd,h=>by
  unfold Co at h
  split at h
  ·unfold ofC at h
   split at h
   ·split at h
    ·exact hk _ (Jr h)
    ·cases h
   ·cases h
  ·rename_i w a b
   have ha:∀ x∈wds a,x∈V:=λx hx=>hd x (FU (by simp) hx)
   have hb:∀ x∈wds b,x∈V:=λx hx=>hd x (FU (by simp) hx)
   split at h
   ·cases h
   ·split at h
    ·cases h
    ·rename_i one e1
     have l1:=Eg hk n _ _ ha e1
     split at h
     ·split at h
      ·cases h
      ·rename_i other e2
       have l2:=Eg hk n _ _ hb e2
       unfold Lw at h
       split at h
       ·cases h
        refine ⟨XC l1.1 l2.1,λc hc=>?_⟩
        unfold J3 at hc
        rcases Aj.mp hc with hc|hc
        ·exact l1.2 c hc
        ·exact l2.2 c (BD.mp hc).1
       ·split at h
        ·cases h;exact l1
        ·cases h
     ·unfold GH at h
      split at h
      ·split at h
       ·cases h;exact l1
       ·cases h
      ·split at h
       ·split at h
        ·rename_i hh
         rw [Ab,Ao] at hh
         obtain ⟨ss,_,es,nd,_⟩:=J1 hh.1
         cases h
         rw [es] at hh ⊢
         exact ⟨nd,λc hc=>l1.2 c (by simpa using hh.2 c hc)⟩
        ·cases h
       ·split at h
        ·split at h
         ·rename_i hp
          split at h
          ·rename_i nd
           cases h
           obtain ⟨ps,ed,ep,_⟩:=J5 hp
           refine ⟨nd,λc hc=>?_⟩
           rw [ep] at hc
           obtain ⟨c0,h0,rfl⟩:=Ak.mp hc
           rcases Wz ps c0 with e|⟨p,hp',e⟩
           ·rw [e];exact l1.2 c0 h0
           ·rw [e]
            refine hb _ ?_
            rw [ed]
            refine FU (d:=prD p) (Ak.mpr ⟨p,hp',rfl⟩) ?_
            unfold prD
            simp [wds,JD]
          ·cases h
         ·cases h
        ·cases h
  ·cases h
theorem LC (o:Option (List Str)):isN (Dx o)=o.isNone:=by cases o<;>rfl
theorem RU {r:Nat}{kn:Kn}(hr:KnAt mu r kn){a b:D}(h:DW 0 b=true):Fp [.ref r,.tup [a,b]] mu=some (.bl (CN b&&match b with|.str x=>(DN kn x).isSome|_=>false),mu):=by
 simp! [Fp,HK,Jp b (Ds h)]
 cases c:CN b with
 | false=>simp [c]
 | true =>
  obtain ⟨x,rfl,_⟩:=Eu c
  have i:inG (.str x) (.ref r) mu=some (.bl (DN kn x).isSome,mu):=by rw [← Ku];exact Xt hr
  simp [c,i]
theorem Y6 {r:Nat}{a b c:D}:Fp [.ref r,.tup [a,b,c]] mu=some (.bl false,mu):=by
 simp [Fp,HK,Xf]
theorem Mh {kn:Kn}{V:List Str}(hV:V.length≤2000)(hk:KnV V kn){r:Nat}:∀ (f:Nat) {n:Nat} (d:D) {mu:Sto},KnAt mu r kn->n≤f->n≤8->DW 0 d=true->(∀ x∈wds d,x∈V)->CP (f+1) [.ref r,d,.int n] mu=some (Dx (Co kn n d),mu)
 | f,0,d,mu,_,_,_,_,_=>by
  simp! [CP,EJ,Int.natCast_zero,Co,Dx]
 | 0,n+1,_,_,_,h,_,_,_=>by ext
 | f+1,n+1,d,mu,hr,hf,h8,h,hw=>by
  have n0:¬ (((n+1:Nat):Int)=0):=by ext
  have n1:((n+1:Nat):Int)-1=(n:Int):=by ext
  rw [CP]
  simp! [EJ,n0,FP d 2 3 (Ds h)]
  cases c:Di 2 3 d with
  | false =>
   have:Co kn (n+1) d=none:=by
    unfold Co
    split
    ·simp [Di] at c
    ·simp [Di] at c
    ·rfl
   simp! [this,Dx]
  | true =>
   cases d with
   | tup ds =>
    simp only [Di,Ab,Ad] at c
    match ds,c,h,hw with
    | [],c,h,hw=>simp at c
    | [a],c,h,hw=>simp at c
    | a::b::e::g::r,c,h,hw=>simp at c;ext
    | [a,b],c,h,hw =>
     have hb:=lows h b (by simp)
     cases a with
     | str w =>
      simp! []
      by_cases cw:w="of"
      ·simp! [cw,RU hr hb]
       cases cb:CN b with
       | false =>
        have:Co kn (n+1) (.tup [.str "of",b])=none:=by
         simp only [Co,ofC,cb,BV,AG,AZ]
        simp! [this,Dx]
       | true =>
        obtain ⟨x,rfl,wx⟩:=Eu cb
        have e:Co kn (n+1) (.tup [.str "of",.str x])=DN kn x:=by
         have wb:CN (.str x)=true:=De.mpr wx
         simp only [Co,ofC,wb,decide_true,Bd,if_true]
        rw [e]
        cases el:DN kn x with
        | none=>simp! [el,Option.isSome_none,Dx]
        | some cs =>
         have ix:ixG (.ref r) (.str x) mu=some (csD cs,mu):=Ym hr (by rw [WR,el];rfl)
         simp! [el,Option.isSome_some,ix,Dx]
      ·have:Co kn (n+1) (.tup [.str w,b])=none:=by
        simp only [Co,ofC,cw,decide_false,BJ,AG,AZ]
       have d23:decide (((2:Nat):Int)=3)=false:=rfl
       simp! [cw,this,Dx,Kv,isN,d23]
     | ref k=>cases Ds (lows h (.ref k) (by simp))
     | _=>simp! [Co,Dx]
    | [a,b,e],c,h,hw =>
     have hb:=lows h b (by simp)
     have he:=lows h e (by simp)
     have wb:∀ x∈wds b,x∈V:=λx hx=>hw x (FU (by simp) hx)
     have we:∀ x∈wds e,x∈V:=λx hx=>hw x (FU (by simp) hx)
     cases a with
     | str w =>
      simp! []
      by_cases cw:w="of"
      ·have:Co kn (n+1) (.tup [.str "of",b,e])=none:=by
        simp only [Co,if_true]
       simp! [cw,Y6,this,Dx]
      ·have r1:=Mh hV hk f (n:=n) b (mu:=mu) hr (by ext) (by ext) hb wb
       have E:Co kn (n+1) (.tup [.str w,b,e])=match Co kn n b with
         | none=>none
         | some one=>if w∈(["join","union","gap"]:List Str) then (match Co kn n e with
          | none=>none
          | some other=>Lw one w other) else GH one w e:=by
        conv=>lhs;unfold Co
        dsimp only
        rw [if_neg cw]
       rw [E]
       have d33:decide (((3:Nat):Int)=3)=true:=rfl
       simp! [cw,n1,r1,d33,Kv,LC]
       cases eo:Co kn n b with
       | none=>simp! [Dx,Option.isNone_none]
       | some one =>
        have lo:=AL (LY (Eg hk n _ _ wb eo).1 (Eg hk n _ _ wb eo).2) hV
        simp! [Dx,Option.isNone_some,RO]
        by_cases cm:w∈(["join","union","gap"]:List Str)
        ·have r2:=Mh hV hk f (n:=n) e (mu:=mu) hr (by ext) (by ext) he we
         simp! [cm,n1,r2,Kv,LC]
         cases eo2:Co kn n e with
         | none=>simp! [Dx,Option.isNone_none]
         | some other =>
          have lo2:=AL (LY (Eg hk n _ _ we eo2).1 (Eg hk n _ _ we eo2).2) hV
          simp! [Dx,Option.isNone_some,QX (one:=one) (other:=other) (w:=w) (mu:=mu) (by ext)]
        ·simp! [cm,QW (cs:=one) (w:=w) (mu:=mu) (by ext) he]
         rfl
     | ref k=>cases Ds (lows h (.ref k) (by simp))
     | _=>simp! [Co,Dx]
   | _=>simp [Di] at c
end PG
namespace PV
open PySem L2 PyProof.Rows K1
variable {mu:Sto}
theorem AcI {β:Type}{i:Ix}{nc:Nat}{fvs:List Nat}{tg:Gx}{tt:Tx}{st:Mx β}{b0:β}{fin:β->Sto->D×Sto}{ro:Ro}:eCo i nc fvs tg tt st b0 fin ro mu=bM (i ro mu) λp m1=>bM (cGo p.2 m1 tg tt st (r0 nc fvs ro) p.1 b0 m1) λb m2=>some (fin b m2):=rfl
theorem Vt (k v:D)(ks ds:List D):(EF k v ks ds).1.length≤ks.length+1:=by
 unfold EF
 split
 ·exact Bx _
 ·rw [Ai];exact Al _
theorem OW {m0:Sto}{tg:Gx}{kk vv:Ex}{ro:Ro}(g:D->D×D):∀ (ds:List D) (p:List D×List D),(∀ d∈ds,∃ ro1,tg d ro mu=some (ro1,mu)∧kk ro1 mu=some ((g d).1,mu)∧vv ro1 mu=some ((g d).2,mu)∧EO (g d).1=true)->p.1.length+ds.length≤sizeLine->cGo none m0 tg tY (stD kk vv) ro ds p mu=some (putAll p (ds.map g),mu)
 | [],p,_,_=>rfl
 | d::ds,p,h,l=>by
  obtain ⟨ro1,e1,e2,e3,e4⟩:=h d (.head _)
  rw [List.length_cons] at l
  have ih:=OW (m0:=m0) (tg:=tg) (kk:=kk) (vv:=vv) (ro:=ro) g ds (EF (g d).1 (g d).2 p.1 p.2) (λd' hd=>h d' (.tail _ hd)) (by have:=Vt (g d).1 (g d).2 p.1 p.2;ext)
  unfold cGo
  rw [e1,CV]
  simp only [Yp,Se,if_true,stD,e2,e3]
  rw [if_pos ⟨e4,by ext⟩,CV,D9,if_pos (show gOk none m0 mu from True.intro),ih]
  rfl
end PV
namespace PG
open PySem L2 PV PyProof.Rows K1
variable {mu:Sto}
structure TbK (t:Tb):Prop where
 ok:Ab7 t
 nw:IsW t.nm
 cw:∀ p∈t.cs,IsW p.1
 cn:(t.cs.map (·.1)).Nodup
 vw:∀ p∈t.cs,∀ x∈p.2,IsW x
theorem PR {d:D}(h:Ih d=true):∃ ss:List Str,d=.tup (ss.map D.str)∧ss≠[]∧ss.length≤4∧∀ x∈ss,IsW x:=by
 unfold Ih at h
 rw [Ab,Ab] at h
 cases d with
 | tup ds =>
  obtain ⟨ss,rfl,hw⟩:=Jz (show ds.all CN=true from h.2.1)
  have:=h.1
  simp only [Di,Af,Ab,Ad] at this
  exact ⟨ss,rfl,λe=>by rw [e] at this;simp at this,by ext,hw⟩
 | _=>simp [Di] at h
theorem SR {ds:List D}(h:ds.all Pt=true):∃ cs:List (Str×List Str),ds=cs.map clD∧∀ p∈cs,(p.2≠[]∧p.2.length≤4)∧IsW p.1∧∀ x∈p.2,IsW x:=by
 induction ds with
 | nil=>exact ⟨[],rfl,λ_ h=>nomatch h⟩
 | cons d ds ih =>
  rw [List.all_cons,Ab] at h
  obtain ⟨cs,rfl,hc⟩:=ih h.2
  have h1:=h.1
  unfold Pt at h1
  split at h1
  ·rename_i a b
   rw [Ab] at h1
   obtain ⟨ss,rfl,l1,l2,l3⟩:=PR h1.2
   obtain ⟨x,rfl,hx⟩:=Eu h1.1
   refine ⟨(x,ss)::cs,rfl,λq hq=>?_⟩
   rcases Am.mp hq with rfl|hq
   ·exact ⟨⟨l1,l2⟩,hx,l3⟩
   ·exact hc q hq
  ·cases h1
theorem Tt {d:D}(h:MK d=true):∃ t,d=tbD t∧TbK t:=by
 unfold MK at h
 split at h
 ·rename_i n c k
  rw [Ab,Ab] at h
  obtain ⟨⟨h1,h2⟩,h3⟩:=h
  obtain ⟨x,rfl,hx⟩:=Eu h1
  cases c with
  | tup ds =>
   have h2':((Di 1 4 (.tup ds)&&ds.all Pt)&&ndB (ds.map DF))=true:=h2
   rw [Ab,Ab] at h2'
   obtain ⟨cs,rfl,hv⟩:=SR h2'.1.2
   have hl:=h2'.1.1
   simp only [Di,Af,Ab,Ad] at hl
   cases k with
   | int i =>
    simp only [ZM,Aac,Af,Ab,Ad] at h3
    have nd:=h2'.2
    have e:(cs.map clD).map DF=(cs.map (·.1)).map D.str:=by
     rw [As,As]
     rfl
    rw [e] at nd
    simp only [ndB,Ad] at nd
    refine ⟨⟨x,cs,i.toNat⟩,?_,⟨⟨by show 1≤cs.length;ext,by show cs.length≤4;ext,by show 1≤i.toNat;ext,by show i.toNat≤cs.length;ext,λp hp=>(hv p hp).1⟩,hx,λp hp=>(hv p hp).2.1,DX.mp nd,λp hp=>(hv p hp).2.2⟩⟩
    unfold tbD
    rw [Int.toNat_of_nonneg (by ext)]
   | _=>simp [ZM] at h3
  | _=>simp [Xm] at h2
 ·cases h
theorem RX {ds:List D}(h:ds.all MK=true):∃ ts:List Tb,ds=ts.map tbD∧∀ t∈ts,TbK t:=by
 induction ds with
 | nil=>exact ⟨[],rfl,λ_ h=>nomatch h⟩
 | cons d ds ih =>
  rw [List.all_cons,Ab] at h
  obtain ⟨ts,rfl,hc⟩:=ih h.2
  obtain ⟨t,rfl,h1⟩:=Tt h.1
  refine ⟨t::ts,rfl,λq hq=>?_⟩
  rcases Am.mp hq with rfl|hq
  ·exact h1
  ·exact hc q hq
structure SK (ts:List Tb):Prop where
 l1:1≤ts.length
 l4:ts.length≤12
 ok:∀ t∈ts,TbK t
 nd:(ts.map Tb.nm).Nodup
def scD (ts:List Tb):D:=.tup (ts.map tbD)
theorem Ur {d:D}(h:VG d=true):∃ ts,d=scD ts∧SK ts:=by
 cases d with
 | tup ds =>
  have h':((Di 1 4 (.tup ds)&&ds.all MK)&&Mb (ds.map DF))=true:=h
  rw [Ab,Ab] at h'
  obtain ⟨ts,rfl,ho⟩:=RX h'.1.2
  have hl:=h'.1.1
  simp only [Di,Af,Ab,Ad] at hl
  refine ⟨ts,rfl,by ext,by ext,ho,?_⟩
  have e:(ts.map tbD).map DF=(ts.map Tb.nm).map D.str:=by
   rw [As,As]
   rfl
  have r:=h'.2
  rw [e,Qt] at r
  exact Ua r
 | _=>simp [VG] at h
noncomputable def tcs (t:Tb):List Str:=t.cs.map (·.1)
def CS (ts:List Tb):Kn:=ts.map λt=>(t.nm,tcs t)
theorem QO {ts:List Tb}(h:SK ts):∀ p∈CS ts,p.2.length≤4:=by
 intro p hp
 obtain ⟨t,ht,rfl⟩:=Ak.mp hp
 show (t.cs.map (·.1)).length≤4
 rw [Af]
 exact (h.ok t ht).ok.c4
theorem Wr {ts:List Tb}(h:SK ts):∀ p∈CS ts,IsW p.1∧p.2≠[]∧p.2.Nodup∧∀ x∈p.2,IsW x:=by
 intro p hp
 obtain ⟨t,ht,rfl⟩:=Ak.mp hp
 have k:=h.ok t ht
 refine ⟨k.nw,λe=>?_,k.cn,λx hx=>?_⟩
 ·have:=congrArg List.length e
  have c1:=k.ok.c1
  simp [tcs] at this
  rw [this] at c1
  simp at c1
 ·obtain ⟨q,hq,rfl⟩:=Ak.mp hx
  exact k.cw q hq
theorem Qk {ts:List Tb}(h:SK ts):Ec [scD ts] mu=some (.ref mu.length,mu++[.dct ((CS ts).map λp=>.str p.1) ((CS ts).map λp=>csD p.2)]):=by
 have lc:∀ t:Tb,FN none mu (gNm 0) tY (Ce ixG (B8 0) (eC (.int 0))) [none] (t.cs.map clD) mu=some ((tcs t).map D.str,mu):=λt=>by
  have:=GD (m0:=mu) (tg:=gNm 0) (el:=Ce ixG (B8 0) (eC (.int 0))) (ro:=[none]) (mu:=mu) DF (t.cs.map clD) (λd hd=>by
   obtain ⟨p,_,rfl⟩:=Ak.mp hd
   exact ⟨_,rfl,by simp! [clD,DF]⟩)
  rw [this,As]
  unfold tcs
  rw [As]
  rfl
 have cg:=OW (m0:=mu) (mu:=mu) (tg:=gNm 0) (kk:=Ce ixG (B8 0) (eC (.int 0))) (vv:=Cd E9 (B6 (eLC (DJ (Ce ixG (B8 0) (eC (.int 1)))) 1 [] (gNm 0) (tY) (Ce ixG (B8 0) (eC (.int 0)))) Cb)) (ro:=[none]) (λd=>match d with
   | .tup [.str n,.tup cs,_]=>(.str n,.tup (cs.map DF))
   | _=>(.non,.non)) (ts.map tbD) ([],[]) (λd hd=>by
  obtain ⟨t,_,rfl⟩:=Ak.mp hd
  refine ⟨_,rfl,by simp! [tbD],?_,Hw _⟩
  have e:(t.cs.map clD).map DF=(tcs t).map D.str:=by
   unfold tcs
   rw [As,As]
   rfl
  simp! [tbD,lc,e]) (by rw [Af,AD];have:=h.l4;simp;ext)
 have ee:(ts.map tbD).map (λd=>match d with
   | .tup [.str n,.tup cs,_]=>(.str n,.tup (cs.map DF))
   | _=>((.non:D),(.non:D)))=(CS ts).map λp=>(.str p.1,csD p.2):=by
  unfold CS
  rw [As,As]
  refine List.map_congr_left λt _=>?_
  have e:(t.cs.map clD).map DF=(tcs t).map D.str:=by
   unfold tcs
   rw [As,As]
   rfl
  show (D.str t.nm,D.tup ((t.cs.map clD).map DF))=_
  rw [e]
  rfl
 rw [ee] at cg
 have nd:(([]:List D)++((CS ts).map λp=>(D.str p.1,csD p.2)).map (·.1)).Nodup:=by
  have e:((CS ts).map λp=>(D.str p.1,csD p.2)).map (·.1)=(ts.map Tb.nm).map D.str:=by
   unfold CS
   rw [As,As,As]
   rfl
  rw [List.nil_append,e]
  exact DX.mpr h.nd
 rw [La _ [] [] rfl nd] at cg
 unfold scD
 simp! [Ec,FT,AcI,cg,Q2,As]
 rfl
end PG
namespace PV
open PySem L2 PyProof.Rows K1
variable {mu:Sto}
mutual
noncomputable def okB (n:Nat):D->Bool
 | .ref _=>false
 | .set _=>false
 | .tup ds=>decide (ds.length≤n)&&Ij n ds
 | .lst ds=>Ij n ds
 | .dct ks ds=>Ij n ks&&Ij n ds
 | _=>true
noncomputable def Ij (n:Nat):List D->Bool
 | []=>true
 | d::ds=>okB n d&&Ij n ds
end
theorem G6 {n:Nat}{ds:List D}:Ij n ds=true ↔ ∀ d∈ds,okB n d=true:=by
 induction ds with
 | nil=>simp [Ij]
 | cons d ds ih=>simp [Ij,ih]
mutual
theorem Gg {n:Nat}:∀ {d:D},okB n d=true->DW 0 d=true
 | .non,_=>rfl
 | .bl _,_=>rfl
 | .int _,_=>rfl
 | .str _,_=>rfl
 | .ref k,e=>by simp [okB] at e
 | .set k,e=>by simp [okB] at e
 | .tup ds,e=>by
  simp only [okB,Ab] at e
  simp only [DW]
  exact IM e.2
 | .lst ds,e=>by
  simp only [okB] at e
  simp only [DW]
  exact IM e
 | .dct ks ds,e=>by
  simp only [okB,Ab] at e
  simp only [DW,Ab]
  exact ⟨IM e.1,IM e.2⟩
theorem IM {n:Nat}:∀ {ds:List D},Ij n ds=true->Hc 0 ds=true
 | [],_=>rfl
 | d::ds,e=>by
  simp only [Ij,Ab] at e
  simp only [Hc,Ab]
  exact ⟨Gg e.1,IM e.2⟩
end
mutual
theorem Io {n m:Nat}(h:n≤m):∀ {d:D},okB n d=true->okB m d=true
 | .non,_=>rfl
 | .bl _,_=>rfl
 | .int _,_=>rfl
 | .str _,_=>rfl
 | .ref k,e=>by simp [okB] at e
 | .set k,e=>by simp [okB] at e
 | .tup ds,e=>by
  simp only [okB,Ab,Ad] at e ⊢
  exact ⟨by ext,Kr h e.2⟩
 | .lst ds,e=>by
  simp only [okB] at e ⊢
  exact Kr h e
 | .dct ks ds,e=>by
  simp only [okB,Ab] at e ⊢
  exact ⟨Kr h e.1,Kr h e.2⟩
theorem Kr {n m:Nat}(h:n≤m):∀ {ds:List D},Ij n ds=true->Ij m ds=true
 | [],_=>rfl
 | d::ds,e=>by
  simp only [Ij,Ab] at e ⊢
  exact ⟨Io h e.1,Kr h e.2⟩
end
theorem FV {n:Nat}{ds:List D}(h:okB n (.tup ds)=true):∀ d∈ds,okB n d=true:=by
 simp only [okB,Ab] at h
 exact G6.mp h.2
theorem OL (n:Nat)(ss:List Str):Ij n (ss.map D.str)=true:=by
 rw [G6]
 intro d hd
 obtain ⟨x,_,rfl⟩:=Ak.mp hd
 rfl
noncomputable def eqS (x:Str):D->Bool
 | .str y=>decide (x=y)
 | _=>false
theorem ZH {n:Nat}{x:Str}{d:D}(h:okB n d=true):eqG (.str x) d mu=some (.bl (eqS x d),mu):=by
 have pu:∀ e:D,Dc e=true->seen mu e=e->PyData.eqv (toPy (.str x)) (toPy e)=eqS x e->eqG (.str x) e mu=some (.bl (eqS x e),mu):=λe p s q=>by
  have:eqB mu (.str x) e=some (eqS x e):=by
   unfold eqB
   rw [s,p]
   simp only [seen,Dc,Bd,BI]
   rw [if_pos (by simp [toPy,PyData.depth]),q]
  unfold eqG eqD
  rw [this]
  rfl
 cases d with
 | non=>exact pu _ rfl rfl rfl
 | bl b=>exact pu _ rfl rfl rfl
 | int i=>exact pu _ rfl rfl rfl
 | str y=>exact pu _ rfl rfl rfl
 | tup ds =>
  by_cases p:Dc (.tup ds)=true
  ·exact pu _ p rfl rfl
  ·have:eqD (.str x) (.tup ds) mu=none:=by
    unfold eqD eqB
    simp only [seen,p,BV,BJ,AG,AZ]
    rfl
   unfold eqG
   rw [this]
   rfl
 | lst ds =>
  by_cases p:Dc (.lst ds)=true
  ·exact pu _ p rfl rfl
  ·have:eqD (.str x) (.lst ds) mu=none:=by
    unfold eqD eqB
    simp only [seen,p,BV,BJ,AG,AZ]
    rfl
   unfold eqG
   rw [this]
   rfl
 | dct ks ds =>
  have:eqD (.str x) (.dct ks ds) mu=none:=by
   unfold eqD eqB
   simp only [seen,Dc,BV,BJ,AG,AZ]
   rfl
  unfold eqG
  rw [this]
  rfl
 | _=>simp [okB] at h
theorem XA {ds:List D}:eqG (.tup ds) (.tup []) mu=some (.bl (ds.length==0),mu):=by
 by_cases p:Dc (.tup ds)=true
 ·have:eqB mu (.tup ds) (.tup [])=some (ds.length==0):=by
   unfold eqB
   simp only [seen,p,Dc,EB,Bd,BI]
   rw [if_pos (by simp [toPy,CT,PyData.depth,PyData.depthAll])]
   cases ds with
   | nil=>rfl
   | cons d ds=>rfl
  unfold eqG eqD
  rw [this]
  rfl
 ·have:eqD (.tup ds) (.tup []) mu=none:=by
   unfold eqD eqB
   simp only [seen,p,BV,BJ,AG,AZ]
   rfl
  unfold eqG
  rw [this]
  rfl
theorem K6 {i j:Int}:eqG (.int i) (.int j) mu=some (.bl (decide (i=j)),mu):=by unfold eqG;rw [S9]
theorem NP {d e:D}{r:D×Sto}(h:eqD d e mu=some r):eqG d e mu=some r:=by unfold eqG;rw [h]
theorem N3:∀ {ss cs:List Str},ss.Nodup->(∀ x∈ss,x∈cs)->ss.length≤cs.length
 | [],_,_,_=>A0 _
 | x::ss,cs,n,h=>by
  rw [Bf] at n
  have hx:x∈cs:=h x (.head _)
  have ih:=N3 (ss:=ss) (cs:=cs.erase x) n.2 (λy hy=>(List.mem_erase_of_ne (λe:y=x=>n.1 (by rw [← e];exact hy))).mpr (h y (.tail _ hy)))
  rw [List.length_erase_of_mem hx] at ih
  have:=List.length_pos_of_mem hx
  rw [List.length_cons]
  ext
end PV
namespace PG
open PySem L2 PV PyProof.Rows K1
variable {mu:Sto}
def CsW (cs:List Str):Prop:=∀ x∈cs,IsW x
noncomputable def ltB (cs:List Str):D->Bool
 | .tup [.str a,.str b,.str c]=>decide (b∈cs)&&(if a∈(["is","not"]:List Str) then wB c else decide (a∈(["like","unlike"]:List Str))&&decide (c∈cs))
 | _=>false
theorem Ui:IsW "is":=De.mp (by symm)
theorem Rh:IsW "not":=De.mp (by symm)
theorem OA:IsW "like":=De.mp (by symm)
theorem Mn:IsW "unlike":=De.mp (by symm)
theorem Th {cs:List Str}(hw:CsW cs)(d:D):ltB cs d=IA cs d:=by
 by_cases c:∃ a b e,d=.tup [.str a,.str b,.str e]
 ·obtain ⟨a,b,e,rfl⟩:=c
  have E:IA cs (.tup [.str a,.str b,.str e])=((wB a&&(wB b&&wB e))&&(if decide (a∈(["is","not"]:List Str))=true then decide (b∈cs) else decide (a∈(["like","unlike"]:List Str))&&(decide (b∈cs)&&decide (e∈cs)))):=rfl
  have E2:ltB cs (.tup [.str a,.str b,.str e])=(decide (b∈cs)&&(if a∈(["is","not"]:List Str) then wB e else decide (a∈(["like","unlike"]:List Str))&&decide (e∈cs))):=rfl
  rw [E,E2]
  by_cases hb:b∈cs
  ·have wb:wB b=true:=De.mpr (hw b hb)
   by_cases h1:a∈(["is","not"]:List Str)
   ·have wa:wB a=true:=by
     simp only [Am,AE,Bk] at h1
     rcases h1 with rfl|rfl
     ·exact De.mpr Ui
     ·exact De.mpr Rh
    simp [h1,hb,wa,wb]
   ·by_cases h2:a∈(["like","unlike"]:List Str)
    ·have wa:wB a=true:=by
      simp only [Am,AE,Bk] at h2
      rcases h2 with rfl|rfl
      ·exact De.mpr OA
      ·exact De.mpr Mn
     by_cases he:e∈cs
     ·have we:wB e=true:=De.mpr (hw e he)
      simp [h1,h2,hb,he,wa,wb,we]
     ·simp [h1,h2,hb,he]
    ·simp [h1,h2]
  ·by_cases h1:a∈(["is","not"]:List Str)
   ·simp [h1,hb]
   ·simp [h1,hb]
 ·have e1:ltB cs d=false:=by
   unfold ltB
   split
   ·exact absurd ⟨_,_,_,rfl⟩ c
   ·rfl
  rw [e1]
  unfold IA
  split
  ·rename_i a b e
   by_cases w:(CN a&&(CN b&&CN e))=true
   ·rw [Ab,Ab] at w
    obtain ⟨x,rfl,_⟩:=Eu w.1
    obtain ⟨y,rfl,_⟩:=Eu w.2.1
    obtain ⟨z,rfl,_⟩:=Eu w.2.2
    exact absurd ⟨_,_,_,rfl⟩ c
   ·rw [Bool.not_eq_true] at w
    rw [w]
    rfl
  ·rfl
noncomputable def K3:D->Bool
 | .str _=>true
 | _=>false
theorem Rc (d:D)(h:nR d=true):HM "str" d mu=some (.bl (K3 d),mu):=by
 cases d<;>first|(cases h;done)|simp [K3]
theorem US {ds:List D}(h:ds.all K3=true):∃ ss:List Str,ds=ss.map D.str:=by
 induction ds with
 | nil=>exact ⟨[],rfl⟩
 | cons d ds ih =>
  rw [List.all_cons,Ab] at h
  obtain ⟨ss,rfl⟩:=ih h.2
  cases d with
  | str x=>exact ⟨x::ss,rfl⟩
  | _=>simp [K3] at h
theorem MD {cs:List Str}(d:D)(h:DW 0 d=true):DP [csD cs,d] mu=some (.bl (ltB cs d),mu):=by
 cases d with
 | tup ds =>
  simp! [DP,Fi]
  by_cases l3:(ds.length:Int)=3
  ·match ds,l3,h with
   | [a,b,e],_,h =>
    have al:=Iy (m0:=mu) (tg:=gNm 0) (el:=Gf "str" (B8 0)) (ro:=[none]) (mu:=mu) K3 [a,b,e] (λd hd=>⟨_,rfl,by simp! [Rc d (nRs h d hd)]⟩)
    have a3:IC [.lst [.bl (K3 a),.bl (K3 b),.bl (K3 e)]] mu=some (.bl ([a,b,e].all K3),mu):=by
     have:=Ql (mu:=mu) (ds:=[a,b,e]) (g:=K3)
     simpa using this
    have d33:decide (((3:Nat):Int)=3)=true:=rfl
    simp! [d33,al,a3]
    cases c:[a,b,e].all K3 with
    | false =>
     have:ltB cs (.tup [a,b,e])=false:=by
      cases q:ltB cs (.tup [a,b,e]) with
      | false=>rfl
      | true =>
       unfold ltB at q
       split at q
       ·rename_i e1
        simp only [D.tup.injEq,List.cons.injEq,and_true] at e1
        obtain ⟨rfl,rfl,rfl⟩:=e1
        simp [K3] at c
       ·cases q
     simp! [this]
    | true =>
     obtain ⟨ss,es⟩:=US c
     match ss,es with
     | [x,y,z],es =>
      simp only [AO,List.map_nil,List.cons.injEq,and_true] at es
      obtain ⟨rfl,rfl,rfl⟩:=es
      have i1:G7 (.str y) (csD cs) mu=some (.bl (!decide (y∈cs)),mu):=Qi
      have i4:inG (.str z) (csD cs) mu=some (.bl (decide (z∈cs)),mu):=PH
      have E2:ltB cs (.tup [.str x,.str y,.str z])=(decide (y∈cs)&&(if x∈(["is","not"]:List Str) then wB z else decide (x∈(["like","unlike"]:List Str))&&decide (z∈cs))):=rfl
      rw [E2]
      simp! [i1]
      by_cases hy:y∈cs
      ·simp! [hy,JW]
       by_cases hx:x∈(["is","not"]:List Str)
       ·simp! [hx,IG (.str z) rfl,CN]
       ·simp! [hx]
        by_cases hx2:x∈(["like","unlike"]:List Str)
        ·simp! [JW,hx2,i4]
        ·simp! [JW,hx2]
      ·simp! [hy]
     | [],es=>simp at es
     | [_],es=>simp at es
     | [_,_],es=>simp at es
     | _::_::_::_::_,es=>simp at es
   | [],l3,_=>simp at l3
   | [_],l3,_=>simp at l3
   | [_,_],l3,_=>simp at l3
   | _::_::_::_::_,l3,_=>simp at l3;ext
  ·have:ltB cs (.tup ds)=false:=by
    unfold ltB
    split
    ·rename_i e
     injection e with e
     subst e
     simp at l3
    ·rfl
   simp! [l3,this]
 | ref k=>cases Ds h
 | _=>simp! [DP,Fi,ltB]
def Pz (cs:List Str):D->Bool
 | .tup ds=>!(ds.length==0)&&(ds.all (Ed cs)&&ndB ds)
 | _=>false
theorem QC {cs:List Str}{ds:List D}(h:ds.all (Ed cs)=true):∃ ss:List Str,ds=ss.map D.str∧∀ x∈ss,x∈cs:=by
 induction ds with
 | nil=>exact ⟨[],rfl,λ_ h=>nomatch h⟩
 | cons d ds ih =>
  rw [List.all_cons,Ab] at h
  obtain ⟨ss,rfl,hs⟩:=ih h.2
  cases d with
  | str x =>
   refine ⟨x::ss,rfl,λy hy=>?_⟩
   rcases Am.mp hy with rfl|hy
   ·simpa [Ed] using h.1
   ·exact hs y hy
  | _=>simp [Ed] at h
theorem Rn (d:D)(h:nR d=true):HM "tuple" d mu=some (.bl (match d with|.tup _=>true|_=>false),mu):=by
 cases d<;>first|(cases h;done)|simp
theorem Kf {cs:List Str}(d:D)(h:okB 1002 d=true):DL [csD cs,d] mu=some (.bl (Pz cs d),mu):=by
 have hl:=Gg h
 cases d with
 | tup ds =>
  have E:Pz cs (.tup ds)=(!(ds.length==0)&&(ds.all (Ed cs)&&ndB ds)):=rfl
  rw [E]
  simp! [DL,FL,XA]
  cases c:(ds.length==0) with
  | true=>simp! []
  | false =>
   have al:=Iy (m0:=mu) (tg:=gNm 0) (el:=eAn (Gf "str" (B8 0)) (Ce inG (B8 0) (B8 1))) (ro:=[none,some (csD cs)]) (mu:=mu) (Ed cs) ds (λd hd=>⟨_,rfl,by
    have hn:=nRs hl d hd
    cases d with
    | str x =>
     have i:inG (.str x) (csD cs) mu=some (.bl (Ed cs (.str x)),mu):=PH
     simp! [i]
    | ref k=>cases hn
    | _=>simp! [Ed]⟩)
   simp! [al]
   cases c2:ds.all (Ed cs) with
   | false=>simp! []
   | true =>
    obtain ⟨ss,rfl,_⟩:=QC c2
    have l4:ss.length<4000:=by
     simp only [okB,Af,Ab,Ad] at h
     ext
    simp! [PX l4,K6]
    exact NQ
 | ref k=>cases Ds hl
 | _=>simp! [DL,FL,Pz]
theorem Uh {cs:List Str}(hw:CsW cs)(d:D):Pz cs d=(wsB cs.length d&&(MH d).all λx=>decide (x∈cs)):=by
 cases d with
 | tup ds =>
  have E:Pz cs (.tup ds)=(!(ds.length==0)&&(ds.all (Ed cs)&&ndB ds)):=rfl
  rw [E]
  by_cases c:ds.all (Ed cs)=true
  ·obtain ⟨ss,rfl,hs⟩:=QC c
   have e2:MH (.tup (ss.map D.str))=ss:=by simp [MH,PV.strs_map]
   have e3:(ss.all λx=>decide (x∈cs))=true:=by rw [Ao];intro x hx;simpa using hs x hx
   have e4:(ss.map D.str).all CN=true:=by
    rw [List.all_map,Ao]
    intro x hx
    exact De.mpr (hw x (hs x hx))
   have W:wsB cs.length (.tup (ss.map D.str))=(Di 1 cs.length (.tup (ss.map D.str))&&((ss.map D.str).all CN&&ndB (ss.map D.str))):=rfl
   rw [c,e2,e3,W,e4]
   simp only [BI,Bl]
   by_cases n:ss.Nodup
   ·have l:=N3 n hs
    have nb:ndB (ss.map D.str)=true:=by simp only [ndB,Ad];exact DX.mpr n
    rw [nb]
    simp only [Bl,Di,Af]
    cases ss with
    | nil=>simp
    | cons x xs =>
     simp only [List.length_cons] at l ⊢
     have a1:decide ((1:Int)≤((xs.length+1:Nat):Int))=true:=by rw [Ad];ext
     have a2:decide (((xs.length+1:Nat):Int)≤(cs.length:Int))=true:=by rw [Ad];ext
     rw [a1,a2]
     rfl
   ·have nb:ndB (ss.map D.str)=false:=by simp only [ndB,decide_eq_false_iff_not];exact λz=>n (DX.mp z)
    rw [nb]
    simp
  ·rw [Bool.not_eq_true] at c
   rw [c]
   simp only [BJ,BV]
   cases w:wsB cs.length (.tup ds) with
   | false=>rfl
   | true =>
    obtain ⟨ss,e,e2,_,_,_,hw'⟩:=J1 w
    rw [e2]
    unfold csD at e
    injection e with e
    subst e
    rw [Ow] at c
    rw [c]
    rfl
 | _=>rfl
end PG
namespace PV
open PySem L2 PyProof.Rows K1
variable {mu:Sto}
theorem XR {i:Int}:G7 (.int i) (.tup [.int 2,.int 3]) mu=some (.bl (!(decide (i=2)||decide (i=3))),mu):=by
 have:inB mu (.int i) (.tup [.int 2,.int 3])=some (decide (i=2)||decide (i=3)):=by
  simp only [inB,seen,Dc,EB,Bd,BI]
  rw [if_pos (by simp [toPy,CT,PyData.depth,PyData.depthAll])]
  simp only [CT,toPy,List.any_cons,List.any_nil,Bool.or_false,PyData.eqv]
  congr 2
  ·by_cases c:i=2
   ·subst c;rfl
   ·have:((2:Int)==i)=false:=by simpa using λe:2=i=>c e.symm
    rw [this];simp [c]
  ·by_cases c:i=3
   ·subst c;rfl
   ·have:((3:Int)==i)=false:=by simpa using λe:3=i=>c e.symm
    rw [this];simp [c]
 simp only [G7,SY,this,Option.map_some]
theorem Qs {xs:List D}(h:EB xs=true):neD (.lst xs) (.lst []) mu=some (.bl (!(xs.length==0)),mu):=by
 have:eqB mu (.lst xs) (.lst [])=some (xs.length==0):=by
  unfold eqB
  simp only [seen,Dc,EB,h,Bd,BI]
  rw [if_pos (by simp [toPy,CT,PyData.depth,PyData.depthAll])]
  cases xs<;>rfl
 unfold neD
 rw [this]
 rfl
end PV
namespace PG
open PySem L2 PV PyProof.Rows K1
variable {mu:Sto}
def Abh (cs:List Str)(d:D):Option (List Str):=if Km cs d=true then (if (cs.map (EU (prT d))).Nodup then some (cs.map (EU (prT d))) else none) else none
noncomputable def p2B:D->Bool
 | .tup ds=>decide ((ds.length:Int)=2)
 | _=>false
noncomputable def RS:D->D
 | .tup [_,b]=>b
 | _=>.non
theorem L9 {d:D}(h:p2B d=true):∃ a b,d=.tup [a,b]:=by
 cases d with
 | tup ds =>
  match ds,h with
  | [a,b],_=>exact ⟨a,b,rfl⟩
  | [],h=>simp [p2B] at h
  | [_],h=>simp [p2B] at h
  | _::_::_::_,h=>simp [p2B] at h;ext
 | _=>simp [p2B] at h
theorem Pj {cs:List Str}(hw:CsW cs)(ds:List D):Km cs (.tup ds)=(ds.all p2B&&(Pz cs (.tup (ds.map DF))&&ds.all λd=>CN (RS d))):=by
 have E:Km cs (.tup ds)=((Di 1 cs.length (.tup ds)&&ds.all Fy)&&(ndB (ds.map DF)&&(ds.map DF).all (Ed cs))):=rfl
 have C:Pz cs (.tup (ds.map DF))=(!((ds.map DF).length==0)&&((ds.map DF).all (Ed cs)&&ndB (ds.map DF))):=rfl
 rw [E,C]
 rw [Bool.eq_iff_iff]
 simp only [Ab,Ao,Bool.not_eq_true',BY,Di,Ad,Af]
 constructor
 ·rintro ⟨⟨⟨l1,l2⟩,pa⟩,nd,al⟩
  refine ⟨λd hd=>?_,⟨⟨by ext,al,nd⟩,λd hd=>?_⟩⟩
  ·have:=pa d hd
   unfold Fy at this
   split at this
   ·simp [p2B]
   ·cases this
  ·have:=pa d hd
   unfold Fy at this
   split at this
   ·rw [Ab] at this;exact this.2
   ·cases this
 ·rintro ⟨p2,⟨l0,al,nd⟩,ws⟩
  have fw:∀ d∈ds,CN (DF d)=true:=λd hd=>by
   have:=al (DF d) (Ak.mpr ⟨d,hd,rfl⟩)
   cases e:DF d with
   | str x=>rw [e] at this;exact De.mpr (hw x (by simpa [Ed] using this))
   | _=>rw [e] at this;simp [Ed] at this
  have pa:∀ d∈ds,Fy d=true:=λd hd=>by
   obtain ⟨a,b,rfl⟩:=L9 (p2 d hd)
   have h1:=fw _ hd
   have h2:=ws _ hd
   simp only [DF] at h1
   simp only [RS] at h2
   simp [Fy,h1,h2]
  obtain ⟨ss,es,hs⟩:=QC (cs:=cs) (ds:=ds.map DF) (Ao.mpr al)
  have n2:ss.Nodup:=by
   simp only [ndB,Ad] at nd
   rw [es] at nd
   exact DX.mp nd
  have l:=N3 n2 hs
  have l':=congrArg List.length es
  simp only [Af] at l'
  exact ⟨⟨⟨by ext,by ext⟩,pa⟩,nd,al⟩
theorem Tn {n:Nat}{ds:List D}(h:okB n (.tup ds)=true)(p:ds.all p2B=true):okB n (.tup (ds.map DF))=true∧∀ d∈ds,okB n (RS d)=true:=by
 rw [Ao] at p
 have hm:=FV h
 simp only [okB,Ab,Ad] at h
 refine ⟨?_,λd hd=>?_⟩
 ·simp only [okB,Ab,Ad,Af]
  refine ⟨h.1,G6.mpr λx hx=>?_⟩
  obtain ⟨d,hd,rfl⟩:=Ak.mp hx
  obtain ⟨a,b,rfl⟩:=L9 (p d hd)
  exact FV (hm _ hd) a (by simp)
 ·obtain ⟨a,b,rfl⟩:=L9 (p d hd)
  exact FV (hm _ hd) b (by simp)
theorem MC {cs:List Str}(hw:CsW cs)(hc:cs.length≤2000)(d:D)(h:okB 1002 d=true):Eb [csD cs,d] mu=some (Dx (Abh cs d),mu):=by
 have hl:=Gg h
 unfold Abh
 cases d with
 | tup ds =>
  have al:=Iy (m0:=mu) (tg:=gNm 0) (el:=eAn (Gf "tuple" (B8 0)) (Ce eqD (Cd D5 (B6 (B8 0) Cb)) (eC (.int 2)))) (ro:=[none]) (mu:=mu) p2B ds (λd hd=>⟨_,rfl,by
   have hn:=nRs hl d hd
   cases d with
   | ref k=>cases hn
   | _=>simp! [p2B]⟩)
  rw [Pj hw]
  simp! [Eb,Fm,al]
  cases c:ds.all p2B with
  | false=>simp! [Dx]
  | true =>
   obtain ⟨ok1,ok2⟩:=Tn h c
   have c':=Ao.mp c
   have lf:=GD (m0:=mu) (tg:=gNm 0) (el:=Ce ixG (B8 0) (eC (.int 0))) (ro:=[none]) (mu:=mu) DF ds (λd hd=>by
    obtain ⟨a,b,rfl⟩:=L9 (c' d hd)
    exact ⟨_,rfl,by simp! [DF]⟩)
   simp! [lf,Kf (cs:=cs) (mu:=mu) _ ok1]
   cases c2:Pz cs (.tup (ds.map DF)) with
   | false=>simp! [Dx]
   | true =>
    have lw:=Iy (m0:=mu) (tg:=gNm 0) (el:=Cd Dg (B6 (Ce ixG (B8 0) (eC (.int 1))) Cb)) (ro:=[none]) (mu:=mu) (λd=>CN (RS d)) ds (λd hd=>by
     have:=ok2 d hd
     obtain ⟨a,b,rfl⟩:=L9 (c' d hd)
     exact ⟨_,rfl,by simp! [RS,IG b (Ds (Gg this))]⟩)
    simp! [lw]
    cases c3:ds.all λd=>CN (RS d) with
    | false=>simp! [Dx]
    | true =>
     have P:Km cs (.tup ds)=true:=by rw [Pj hw,c,c2,c3];rfl
     obtain ⟨ps,e,e2,nd,_⟩:=J5 P
     injection e with e
     subst e
     have ga:=GD (m0:=mu) (tg:=gNm 0) (el:=J9 (B8 1) (B6 (B8 0) (B6 (B8 0) Cb))) (ro:=[none,some (.dct ((ps.map prK).map (·.1)) ((ps.map prK).map (·.2)))]) (mu:=mu) (λd=>match d with|.str c=>.str (EU ps c)|_=>.non) (cs.map D.str) (λd hd=>by
      obtain ⟨c,_,rfl⟩:=Ak.mp hd
      exact ⟨_,rfl,QY rfl rfl⟩)
     have e4:(cs.map D.str).map (λd=>match d with|.str c=>D.str (EU ps c)|_=>.non)=(cs.map (EU ps)).map D.str:=by
      rw [As,As]
      rfl
     rw [e4] at ga
     have st:=PX (mu:=mu) (ss:=cs.map (EU ps)) (by rw [Af];ext)
     have zl:LV [.tup (ps.map prD)] mu=some (.lst (ps.map prD),mu):=rfl
     simp! [zl,To (.inr rfl) nd,csD,ga,st,NQ,e2]
     by_cases c4:(cs.map (EU ps)).Nodup
     ·have:ndB ((cs.map (EU ps)).map D.str)=true:=by simp only [ndB,Ad];exact DX.mpr c4
      simp! [this,c4,Dx,csD]
     ·have:ndB ((cs.map (EU ps)).map D.str)=false:=by simp only [ndB,decide_eq_false_iff_not];exact λz=>c4 (DX.mp z)
      simp! [this,c4,Dx,csD]
 | ref k=>cases Ds hl
 | _=>simp! [Eb,Fm,Km,Dx]
structure KO (cs:List Str):Prop where
 w:CsW cs
 ne:cs≠[]
 nd:cs.Nodup
def VV (kn:Kn):Prop:=∀ p∈kn,KO p.2
theorem Vx {ts:List Tb}(h:SK ts):VV (CS ts):=λp hp=>by
 obtain ⟨_,b,c,d⟩:=Wr h p hp
 exact ⟨d,b,c⟩
theorem ZO {one other:List Str}(a:KO one)(b:KO other):KO (J3 one other):=by
 unfold J3
 refine ⟨λx hx=>?_,λe=>a.ne (List.append_eq_nil_iff.mp e).1,Bb.mpr ⟨a.nd,b.nd.filter _,λx hx y hy e=>?_⟩⟩
 ·rcases Aj.mp hx with hx|hx
  ·exact a.w x hx
  ·exact b.w x (BD.mp hx).1
 ·subst e
  have:=(BD.mp hy).2
  simp [hx] at this
theorem Vo (ps:List (Str×Str))(c:Str):EU ps c=c∨∃ p∈ps,EU ps c=p.2:=by
 induction ps with
 | nil=>exact .inl rfl
 | cons p ps ih =>
  unfold EU
  by_cases e:p.1=c
  ·rw [if_pos e];exact .inr ⟨p,.head _,rfl⟩
  ·rw [if_neg e]
   rcases ih with h|⟨q,hq,h⟩
   ·exact .inl h
   ·exact .inr ⟨q,.tail _ hq,h⟩
theorem ZL {one:List Str}(a:KO one){w:Str}{d:D}{cs:List Str}(h:GH one w d=some cs):KO cs:=by
 unfold GH at h
 split at h
 ·split at h
  ·cases h;exact a
  ·cases h
 ·split at h
  ·split at h
   ·rename_i c
    cases h
    rw [Ab] at c
    obtain ⟨ss,_,e,nd,l,_,hw⟩:=J1 c.1
    rw [e]
    exact ⟨hw,λz=>by rw [z] at l;simp at l,nd⟩
   ·cases h
  ·split at h
   ·split at h
    ·rename_i c
     split at h
     ·rename_i n
      cases h
      obtain ⟨ps,_,e,_,_,hw,_⟩:=J5 c
      rw [e] at n ⊢
      refine ⟨λx hx=>?_,λz=>a.ne (List.map_eq_nil_iff.mp z),n⟩
      obtain ⟨y,hy,rfl⟩:=Ak.mp hx
      rcases Vo ps y with q|⟨p,hp,q⟩
      ·rw [q];exact a.w y hy
      ·rw [q];exact (hw p hp).2
     ·cases h
    ·cases h
   ·cases h
theorem Jo {kn:Kn}(hk:VV kn):∀ (n:Nat) (d:D) (cs:List Str),Co kn n d=some cs->KO cs
 | 0,_,_,h=>by cases h
 | n+1,d,cs,h=>by
  unfold Co at h
  split at h
  ·unfold ofC at h
   split at h
   ·split at h
    ·exact hk _ (Jr h)
    ·cases h
   ·cases h
  ·split at h
   ·cases h
   ·split at h
    ·cases h
    ·rename_i one e1
     have l1:=Jo hk n _ _ e1
     split at h
     ·split at h
      ·cases h
      ·rename_i other e2
       have l2:=Jo hk n _ _ e2
       unfold Lw at h
       split at h
       ·cases h;exact ZO l1 l2
       ·split at h
        ·cases h;exact l1
        ·cases h
     ·exact ZL l1 h
  ·cases h
def fnd (ts:List Tb)(b:D):List (List Str):=(ts.filter λt=>eqS t.nm b).map tcs
theorem TF {ts:List Tb}(h:∀ t∈ts,IsW t.nm)(b:D):ofC (CS ts) "of" b=(fnd ts b).head?:=by
 induction ts with
 | nil =>
  unfold ofC fnd CS
  simp only [List.map_nil,List.filter_nil,List.head?_nil]
  split
  ·cases b<;>rfl
  ·rfl
 | cons t ts ih =>
  have ih':=ih λt ht=>h t (.tail _ ht)
  unfold ofC fnd at ih' ⊢
  unfold CS at ih' ⊢
  rw [AO]
  by_cases e:eqS t.nm b=true
  ·simp only [List.filter_cons,e,if_true]
   cases b with
   | str y =>
    have e':t.nm=y:=by simpa [eqS] using e
    subst e'
    have w:CN (.str t.nm)=true:=De.mpr (h t (.head _))
    simp only [w,decide_true,Bd,if_true,AO,List.head?_cons,DN]
   | _=>simp [eqS] at e
  ·rw [List.filter_cons,if_neg e,← ih']
   cases b with
   | str y =>
    have e':¬ t.nm=y:=by simpa [eqS] using e
    simp only [DN,e',AZ]
   | _=>rfl
theorem Us (xs:List (List Str)):EB (xs.map csD)=true:=by
 induction xs with
 | nil=>rfl
 | cons x xs ih =>
  rw [AO,EB,ih,Bl]
  unfold csD Dc
  exact Nl x
theorem TR {m0:Sto}(t:Tb):FN none m0 (gTp 2 (CD (gNm 0) (CD (gNm 1) EA))) tY (B8 0) [none,none] (t.cs.map clD) mu=some ((tcs t).map D.str,mu):=by
 have:=GD (m0:=m0) (tg:=gTp 2 (CD (gNm 0) (CD (gNm 1) EA))) (el:=B8 0) (ro:=[none,none]) (mu:=mu) DF (t.cs.map clD) (λd hd=>by
  obtain ⟨p,_,rfl⟩:=Ak.mp hd
  exact ⟨_,rfl,rfl⟩)
 rw [this,As]
 unfold tcs
 rw [As]
 rfl
noncomputable def UG:D->Str
 | .tup (.str n::_)=>n
 | _=>""
def W8:D->D
 | .tup [_,.tup cs,_]=>.tup (cs.map DF)
 | _=>.non
theorem N5 (t:Tb):W8 (tbD t)=csD (tcs t):=by
 have e:(t.cs.map clD).map DF=(tcs t).map D.str:=by
  unfold tcs
  rw [As,As]
  rfl
 show D.tup ((t.cs.map clD).map DF)=_
 rw [e]
 rfl
theorem Rt (ts:List Tb)(b:D):((ts.map tbD).filter λd=>eqS (UG d) b).map W8=(fnd ts b).map csD:=by
 unfold fnd
 rw [List.filter_map,As,As]
 refine List.map_congr_left λt _=>?_
 exact N5 t
theorem Z8 {ts:List Tb}{a b:D}(h:okB 1002 b=true):FN none mu (gNm 0) (tV (Ce eqG (Ce ixG (B8 0) (eC (.int 0))) (Ce ixG (B8 1) (eC (.int 1))))) (Cd E9 (B6 (eLC (DJ (Ce ixG (B8 0) (eC (.int 1)))) 2 [] (gTp 2 (CD (gNm 0) (CD (gNm 1) EA))) (tY) (B8 0)) Cb)) [none,some (.tup [a,b])] (ts.map tbD) mu=some ((fnd ts b).map csD,mu):=by
 have:=Jq (m0:=mu) (tg:=gNm 0) (tt:=tV (Ce eqG (Ce ixG (B8 0) (eC (.int 0))) (Ce ixG (B8 1) (eC (.int 1))))) (el:=Cd E9 (B6 (eLC (DJ (Ce ixG (B8 0) (eC (.int 1)))) 2 [] (gTp 2 (CD (gNm 0) (CD (gNm 1) EA))) (tY) (B8 0)) Cb)) (ro:=[none,some (.tup [a,b])]) (mu:=mu) (λd=>eqS (UG d) b) W8 (ts.map tbD) (λd hd=>by
  obtain ⟨t,_,rfl⟩:=Ak.mp hd
  refine ⟨_,rfl,?_,λ_=>?_⟩
  ·simp! [tbD,ZH h,UG]
  ·rw [N5]
   simp! [tbD,TR,csD])
 rw [this,Rt]
theorem S3 {cs:List Str}(hw:CsW cs)(ds:List D):ds.all (ltB cs)=ds.all (IA cs):=by
 congr 1
 funext d
 exact Th hw d set_option maxHeartbeats 1000000 in
theorem KR {ts:List Tb}(hnw:∀ t∈ts,IsW t.nm)(hko:VV (CS ts)){V:List Str}(hV:V.length≤2000)(hk:KnV V (CS ts)):∀ (f:Nat) {n:Nat} (d:D) {mu:Sto},n≤f->n≤8->okB 1002 d=true->(∀ x∈wds d,x∈V)->C0 (f+1) [scD ts,d,.int n] mu=some (Dx (Co (CS ts) n d),mu)
 | f,0,d,mu,_,_,_,_=>by
  simp! [C0,ED,K6,Int.natCast_zero,Co,Dx]
 | 0,n+1,_,_,h,_,_,_=>by ext
 | f+1,n+1,d,mu,hf,h8,h,hw=>by
  have n0:¬ (((n+1:Nat):Int)=0):=by ext
  have n1:((n+1:Nat):Int)-1=(n:Int):=by ext
  have hl:=Gg h
  rw [C0]
  cases d with
  | tup ds =>
   simp! [ED,K6,n0,XR]
   by_cases l:(decide ((ds.length:Int)=2)||decide ((ds.length:Int)=3))=true
   ·rw [Bool.or_eq_true,Ad,Ad] at l
    match ds,l,h,hl,hw with
    | [],l,_,_,_=>simp at l
    | [a],l,_,_,_=>simp at l
    | a::b::e::g::r,l,_,_,_=>simp at l;ext
    | [a,b],l,h,hl,hw =>
     have hb:=FV h b (by simp)
     have d22:decide (((2:Nat):Int)=2)=true:=rfl
     have d22':decide ((2:Int)=2)=true:=rfl
     cases a with
     | str w =>
      have ew:eqG (.str w) (.str "of") mu=some (.bl (decide (w="of")),mu):=NP RE
      simp! [d22,ew,K6,d22']
      by_cases cw:w="of"
      ·have e:Co (CS ts) (n+1) (.tup [.str "of",b])=(fnd ts b).head?:=TF hnw b
       have lc:=Z8 (mu:=mu) (ts:=ts) (a:=.str "of") hb
       subst cw
       rw [e]
       have ew':∀ m:Sto,eqG (.str (Str.ofString "of")) (.str (Str.ofString "of")) m=some (.bl true,m):=λm=>by
        have:=NP (RE (mu:=m) (i:="of") (j:="of"))
        simpa using this
       simp! [bne_self_eq_false,ew',scD,lc,Qs (Us _),Af]
       cases fnd ts b with
       | nil=>simp [Dx]
       | cons x xs =>
        have:(xs.length+1==0)=false:=by simp
        simp! [this,Dx,List.head?_cons]
      ·have:Co (CS ts) (n+1) (.tup [.str w,b])=none:=by
        simp only [Co,ofC,cw,decide_false,BJ,AG,AZ]
       simp! [cw,ew,this,Dx]
       rfl
     | ref k=>cases Ds (lows hl (.ref k) (by simp))
     | _=>simp! [d22,Co,Dx]
    | [a,b,e],l,h,hl,hw =>
     have hb:=FV h b (by simp)
     have he:=FV h e (by simp)
     have hle:=Gg he
     have wb:∀ x∈wds b,x∈V:=λx hx=>hw x (FU (by simp) hx)
     have we:∀ x∈wds e,x∈V:=λx hx=>hw x (FU (by simp) hx)
     have d32:decide (((3:Nat):Int)=2)=false:=rfl
     have d32':decide ((3:Int)=2)=false:=rfl
     have d33:decide (((3:Nat):Int)=3)=true:=rfl
     cases a with
     | str w =>
      have ew:∀ x:Str,eqG (.str w) (.str x) mu=some (.bl (decide (w=x)),mu):=λx=>NP RE
      simp! [d32,d33,ew,K6,d32']
      by_cases cw:w="of"
      ·have:Co (CS ts) (n+1) (.tup [.str "of",b,e])=none:=by
        simp only [Co,if_true]
       simp! [cw,ew,this,Dx]
       rfl
      ·have r1:=KR hnw hko hV hk f (n:=n) b (mu:=mu) (by ext) (by ext) hb wb
       have E:Co (CS ts) (n+1) (.tup [.str w,b,e])=match Co (CS ts) n b with
         | none=>none
         | some one=>if w∈(["join","union","gap"]:List Str) then (match Co (CS ts) n e with
          | none=>none
          | some other=>Lw one w other) else GH one w e:=by
        conv=>lhs;unfold Co
        dsimp only
        rw [if_neg cw]
        all_goals rfl
       rw [E]
       have b0:((false != false):Bool)=false:=rfl
       simp! [cw,ew,b0,n1,r1,Kv,LC]
       cases eo:Co (CS ts) n b with
       | none=>simp! [Dx,Option.isNone_none]
       | some one =>
        have lo:=AL (LY (Eg hk n _ _ wb eo).1 (Eg hk n _ _ wb eo).2) hV
        have oo:=Jo hko n _ _ eo
        simp! [ew,Dx,Option.isNone_some]
        by_cases c1:w="columns"
        ·subst c1
         have nm:¬ ((Str.ofString "columns")∈(["join","union","gap"]:List Str)):=by symm
         have nr:¬ (Str.ofString "columns"=Str.ofString "rows"):=by symm
         simp! [ew,Kf (cs:=one) (mu:=mu) e (Io (by decide) he),nm,GH,nr,Uh oo.w]
         cases c:(wsB one.length e&&(MH e).all λx=>decide (x∈one)) with
         | false=>simp! []
         | true =>
          rw [Ab] at c
          obtain ⟨ss,rfl,e2,_⟩:=J1 c.1
          simp! [e2]
        ·by_cases c2:w="called"
         ·subst c2
          have nm:¬ ((Str.ofString "called")∈(["join","union","gap"]:List Str)):=by symm
          have nr:¬ (Str.ofString "called"=Str.ofString "rows"):=by symm
          have nc:¬ (Str.ofString "called"=Str.ofString "columns"):=by symm
          simp! [ew,nc,MC oo.w (by ext) e (Io (by decide) he),nm,GH,nr]
          rfl
         ·by_cases c3:w="rows"
          ·subst c3
           have nm:¬ ((Str.ofString "rows")∈(["join","union","gap"]:List Str)):=by symm
           simp! [ew,c1,c2,nm,GH]
           cases e with
           | tup es =>
            have al:=Iy (m0:=mu) (tg:=gNm 0) (el:=Cd DP (B6 (B8 1) (B6 (B8 0) Cb))) (ro:=[none,some (csD one)]) (mu:=mu) (ltB one) es (λd hd=>⟨_,rfl,by simp! [MD d (lows hle d hd)]⟩)
            have T:Mo one (.tup es)=(Di 1 4 (.tup es)&&es.all (IA one)):=rfl
            have T2:Di 1 4 (.tup es)=(decide ((1:Int)≤es.length)&&decide ((es.length:Int)≤4)):=rfl
            rw [T,T2,← S3 oo.w]
            simp! []
            cases c:(decide ((1:Int)≤es.length)&&decide ((es.length:Int)≤4)) with
            | false=>simp! []
            | true =>
             simp! [al]
             cases es.all (ltB one) with
             | false=>simp! []
             | true=>simp! []
           | ref k=>cases Ds hle
           | _=>simp! [Mo]
          ·have r2:=KR hnw hko hV hk f (n:=n) e (mu:=mu) (by ext) (by ext) he we
           simp! [ew,c1,c2,c3,n1,r2,Kv,LC,RO]
           by_cases cm:w∈(["join","union","gap"]:List Str)
           ·cases eo2:Co (CS ts) n e with
            | none=>simp! [cm,Dx,Option.isNone_none]
            | some other =>
             have lo2:=AL (LY (Eg hk n _ _ we eo2).1 (Eg hk n _ _ we eo2).2) hV
             simp! [ew,cm,Dx,Option.isNone_some,Lw]
             by_cases cj:w="join"
             ·have l:=List.length_filter_le (λc=>!decide (c∈one)) other
              have za:CH (.tup (one.map D.str)) (.tup ((other.filter λc=>!decide (c∈one)).map D.str)) mu=some (csD (J3 one other),mu):=by
               unfold CH
               dsimp only
               rw [if_pos (by simp only [Af,AD];ext)]
               simp [csD,J3]
              have lc:=Of (m0:=mu) (mu:=mu) one other
              unfold csD at lc ⊢
              unfold csD at za
              simp! [ew,cj,lc,za]
             ·have eq:eqG (csD one) (csD other) mu=some (.bl (decide (csD one=csD other)),mu):=NP (Xs (GZ one) (GZ other))
              simp! [ew,cj,eq]
              by_cases c2:one=other
              ·subst c2;simp! []
              ·have:¬ csD one=csD other:=λz=>c2 (P7.mp z)
               simp! [this,c2]
           ·have:GH one w e=none:=by simp only [GH,c1,c2,c3,AZ]
            cases eo2:Co (CS ts) n e with
            | none=>simp! [cm,Dx,Option.isNone_none,this]
            | some other=>simp! [cm,Dx,Option.isNone_some,this]
     | ref k=>cases Ds (lows hl (.ref k) (by simp))
     | _=>simp! [d32,d33,Co,Dx]
   ·have:Co (CS ts) (n+1) (.tup ds)=none:=by
     unfold Co
     split
     ·rename_i e;injection e with e;subst e;simp at l
     ·rename_i e;injection e with e;subst e;simp at l
     ·rfl
    rw [Bool.not_eq_true] at l
    simp! [l,this,Dx]
  | ref k=>cases Ds hl
  | _=>simp! [ED,K6,n0,Co,Dx]
end PG
namespace PV
open PySem L2 PyProof.Rows K1
variable {mu:Sto}
theorem Ya {r:Nat}{ds ys:List D}(h:mu[r]? = some (.lst ds))(hl:ds.length+ys.length≤sizeLine){ro:Ro}{i:Nat}{e:Ex}(h1:B8 i ro mu=some (.ref r,mu))(h2:e ro mu=some (.lst ys,mu)):UI (B8 i) (B6 e Cb) ro mu=some (.non,mu.set r (.lst (ds++ys))):=by
 have ok:E3 mu (.ref r)=true:=by simp [E3,h]
 have sq:sq1 [.lst ys] mu=some ys:=rfl
 simp only [UI,h1,Se,ok,if_true,YA,XX,h2,sq,h,hl]
theorem Sm (L:List Str):∃ L':List Str,FR (L.map D.str)=L'.map D.str∧L'.Nodup∧∀ x,x∈L' ↔ x∈L:=by
 have e:=KQ L []
 refine ⟨L.foldl HH [],e.symm,?_,λx=>?_⟩
 ·have:=O1 (L.map D.str) [] List.nodup_nil
  rw [← show (L.foldl HH []).map D.str=(L.map D.str).foldl FA [] from e] at this
  exact DX.mp this
 ·have:=M0 (L.map D.str) [] (.str x)
  rw [← show (L.foldl HH []).map D.str=(L.map D.str).foldl FA [] from e] at this
  simp only [Ak,D.str.injEq,exists_eq_right,AE,false_or] at this
  exact this
theorem Wl {ss:List Str}(h:ss.length<64):MG [.set (ss.map D.str)] mu=some (.lst (Hb (ss.map D.str)),mu):=by
 unfold MG
 rw [Yz h]
end PV
namespace PG
open PySem L2 PV PyProof.Rows K1
variable {mu:Sto}
theorem IQ {kn:Kn}(hk:∀ p∈kn,p.2.length≤4):∀ (n:Nat) (d:D) (cs:List Str),Co kn n d=some cs->cs.length≤4*2 ^ n
 | 0,_,_,h=>by cases h
 | n+1,d,cs,h=>by
  have two:2 ^ (n+1)=2*2 ^ n:=by rw [Nat.pow_succ];ext
  have pos:0<2 ^ n:=Nat.two_pow_pos n
  unfold Co at h
  split at h
  ·unfold ofC at h
   split at h
   ·split at h
    ·have:=hk _ (Jr h)
     dsimp only at this
     ext
    ·cases h
   ·cases h
  ·split at h
   ·cases h
   ·split at h
    ·cases h
    ·rename_i one e1
     have l1:=IQ hk n _ _ e1
     split at h
     ·split at h
      ·cases h
      ·rename_i other e2
       have l2:=IQ hk n _ _ e2
       unfold Lw at h
       split at h
       ·cases h
        unfold J3
        have:=List.length_filter_le (λc=>!decide (c∈one)) other
        rw [Ai]
        ext
       ·split at h
        ·cases h;ext
        ·cases h
     ·unfold GH at h
      split at h
      ·split at h
       ·cases h;ext
       ·cases h
      ·split at h
       ·split at h
        ·rename_i c
         cases h
         rw [Ab] at c
         obtain ⟨ss,_,e,_,_,l,_⟩:=J1 c.1
         rw [e]
         ext
        ·cases h
       ·split at h
        ·split at h
         ·split at h
          ·cases h;rw [Af];ext
          ·cases h
         ·cases h
        ·cases h
  ·cases h
noncomputable def cns:List Str:=["of","rows","columns","called","join","union","gap","is","not","like","unlike","z9","y8","x7","w6","v"]
structure Sch (V:List Str) (ts:List Tb):Prop where
 k:SK ts
 st:∃ st:List Str,st.length≤6∧(∀ t∈ts,∀ p∈t.cs,∀ x∈p.2,x∈st)∧∀ x∈st,x∈V
 cv:∀ x∈cns,x∈V
 tv:∀ t∈ts,t.nm∈V∧∀ p∈t.cs,p.1∈V
theorem TH {st:List Str}{ts:List Tb}(h:(ts.map tbD).all (tabS st)=true):∀ t∈ts,∀ p∈t.cs,∀ x∈p.2,x∈st:=by
 rw [List.all_map,Ao] at h
 intro t ht p hp x hx
 have h1:(t.cs.map clD).all (Tu st)=true:=h t ht
 rw [List.all_map,Ao] at h1
 have h2:(p.2.map D.str).all (inS st)=true:=h1 p hp
 rw [List.all_map,Ao] at h2
 simpa [inS] using h2 x hx
def O6:Sx:=(sEx (UI (B8 1) (B6 (Cd LV (B6 (B8 6) Cb)) Cb)))
theorem Uj {st:List Str}{t:Tb}(hk:TbK t)(hs:∀ p∈t.cs,∀ x∈p.2,x∈st){m0:Sto}{sc a b c:D}{x5 x6:Option D}{L:List Str}(hL:L.length≤1000)(hLs:∀ x∈L,x∈st∧IsW x) :
  ∃ y5 y6,∃ L':List Str,EN none m0 (gTp 2 (CD (gNm 5) (CD (gNm 6) EA))) O6 (t.cs.map clD) [some sc,some (.ref mu.length),some a,some b,some c,x5,x6] (mu++[.lst (L.map D.str)])=some ((.nx,[some sc,some (.ref mu.length),some a,some b,some c,y5,y6]),mu++[.lst (L'.map D.str)])∧L'.length≤L.length+16∧(∀ x∈L',x∈st∧IsW x)∧L'≠[]:=by
 obtain ⟨ro',m',e,⟨y5,y6,rfl⟩,L',rfl,b1,b2,b3⟩:=Ik (m0:=m0) (tg:=gTp 2 (CD (gNm 5) (CD (gNm 6) EA))) (body:=O6) (λi ro m=>(∃ y5 y6,ro=[some sc,some (.ref mu.length),some a,some b,some c,y5,y6])∧∃ L':List Str,m=mu++[.lst (L'.map D.str)]∧L'.length≤L.length+4*i∧(∀ x∈L',x∈st∧IsW x)∧(i≠0->L'≠[])) (t.cs.map clD) 0 _ _
  ⟨⟨x5,x6,rfl⟩,L,rfl,by ext,hLs,λh=>absurd rfl h⟩ λj d ro m ed hi=>by
   obtain ⟨⟨y5,y6,rfl⟩,L',rfl,b1,b2,b3⟩:=hi
   rw [Av] at ed
   cases q:t.cs[j]? with
   | none=>rw [q] at ed;cases ed
   | some p =>
    rw [q] at ed
    have ed':clD p=d:=AN ed
    subst ed'
    have hj:=(Ah.mp q).1
    have hm:p∈t.cs:=Ap q
    have c4:=hk.ok.c4
    have v4:=hk.ok.vs p hm
    have ex:=Ya (mu:=mu++[.lst (L'.map D.str)]) (r:=mu.length) (ds:=L'.map D.str) (ys:=p.2.map D.str) (by simp) (by simp only [Af,AD];ext) (ro:=[some sc,some (.ref mu.length),some a,some b,some c,some (.str p.1),some (.tup (p.2.map D.str))]) (i:=1) (e:=Cd LV (B6 (B8 6) Cb)) rfl rfl
    refine ⟨[some sc,some (.ref mu.length),some a,some b,some c,some (.str p.1),some (.tup (p.2.map D.str))],mu++[.lst (L'.map D.str)],_,mu++[.lst ((L'++p.2).map D.str)],?_,?_,⟨some (.str p.1),some (.tup (p.2.map D.str)),rfl⟩,L'++p.2,rfl,?_,?_,?_⟩
    ·simp! [clD]
    ·unfold O6
     simp! [ex,AK]
     simp
    ·rw [Ai];ext
    ·intro x hx
     rcases Aj.mp hx with hx|hx
     ·exact b2 x hx
     ·exact ⟨hs p hm x hx,hk.vw p hm x hx⟩
    ·intro _ z
     exact v4.1 (List.append_eq_nil_iff.mp z).2
 have c1:=hk.ok.c1
 have c4:=hk.ok.c4
 rw [Af] at b1 b3
 exact ⟨y5,y6,L',e,by ext,b2,b3 (by ext)⟩
theorem SI {V:List Str}{ts:List Tb}(H:Sch V ts)(hf:Flat mu):∃ ws:List Str,Gs [scD ts] mu=some (.lst (ws.map D.str),mu)∧ws≠[]∧ws.length≤6∧(∀ x∈ws,IsW x)∧∀ x∈ws,x∈V:=by
 obtain ⟨st,s5,hs,sv⟩:=H.st
 obtain ⟨ro',m',e,⟨y2,y3,y4,y5,y6,rfl⟩,L,rfl,b1,b2,b3⟩:=Ik (m0:=mu++[.lst []]) (tg:=gTp 3 (CD (gNm 2) (CD (gNm 3) (CD (gNm 4) EA)))) (body:=JC (DJ (B8 3)) (gTp 2 (CD (gNm 5) (CD (gNm 6) EA))) O6) (λi ro m=>(∃ y2 y3 y4 y5 y6,ro=[some (scD ts),some (.ref mu.length),y2,y3,y4,y5,y6])∧∃ L:List Str,m=mu++[.lst (L.map D.str)]∧L.length≤16*i∧(∀ x∈L,x∈st∧IsW x)∧(i≠0->L≠[])) (ts.map tbD) 0 [some (scD ts),some (.ref mu.length),none,none,none,none,none] (mu++[.lst []])
  ⟨⟨_,_,_,_,_,rfl⟩,[],rfl,by simp,(λ_ h=>nomatch h),λh=>absurd rfl h⟩ λj d ro m ed hi=>by
   obtain ⟨⟨y2,y3,y4,y5,y6,rfl⟩,L,rfl,b1,b2,b3⟩:=hi
   rw [Av] at ed
   cases q:ts[j]? with
   | none=>rw [q] at ed;cases ed
   | some t =>
    rw [q] at ed
    have ed':tbD t=d:=AN ed
    subst ed'
    have hj:=(Ah.mp q).1
    have ht:t∈ts:=Ap q
    have l4:=H.k.l4
    obtain ⟨z5,z6,L',e,l1,l2,l3⟩:=Uj (mu:=mu) (H.k.ok t ht) (hs t ht) (m0:=mu++[.lst (L.map D.str)]) (sc:=scD ts) (a:=.str t.nm) (b:=.tup (t.cs.map clD)) (c:=.int t.ks) (x5:=y5) (x6:=y6) (L:=L) (by ext) b2
    refine ⟨[some (scD ts),some (.ref mu.length),some (.str t.nm),some (.tup (t.cs.map clD)),some (.int t.ks),y5,y6],mu++[.lst (L.map D.str)],[some (scD ts),some (.ref mu.length),some (.str t.nm),some (.tup (t.cs.map clD)),some (.int t.ks),z5,z6],mu++[.lst (L'.map D.str)],?_,?_,⟨_,_,_,_,_,rfl⟩,L',rfl,by ext,l2,λ_=>l3⟩
    ·simp! [tbD]
    ·simp! [e]
 have l1:=H.k.l1
 have l4:=H.k.l4
 rw [Af] at b1 b3
 obtain ⟨L',o1,o2,o3⟩:=Sm L
 have l5:L'.length≤6:=AL (N3 o2 λx hx=>(b2 x ((o3 x).mp hx)).1) s5
 obtain ⟨us,ue,up⟩:=MY (ET (L'.map D.str))
 refine ⟨us,?_,λz=>?_,by rw [up.length_eq];exact l5,λx hx=>(b2 x ((o3 x).mp (up.mem_iff.mp hx))).2,λx hx=>sv x (b2 x ((o3 x).mp (up.mem_iff.mp hx))).1⟩
 ·have sf:Lc [.ref mu.length] (mu++[.lst (L.map D.str)])=some (.set (L'.map D.str),mu++[.lst (L.map D.str)]):=by
   have g:(mu++[MO.lst (L.map D.str)])[mu.length]? = some (.lst (L.map D.str)):=by simp
   have l:(L.map D.str).length<4000:=by rw [Af];ext
   simp only [Lc,sq1,Iz,Hk,D8,g,PV.strs_map,l,if_true,o1]
  have so:=Wl (mu:=mu++[.lst (L.map D.str)]) (ss:=L') (by ext)
  unfold scD at e ⊢
  unfold O6 at e
  simp! [Gs,Jc,e,sf,so,ue]
  have ok:DW 0 (.lst (us.map D.str))=true:=by
   simp only [DW]
   exact HY (Rm us)
  have ft:Flat ((mu++[MO.lst (L.map D.str)]).take mu.length):=by
   rw [List.take_left']
   ·exact hf
   ·rfl
  rw [Jn ok ft,List.take_left']
  rfl
 ·have:L=[]:=by
   cases L with
   | nil=>rfl
   | cons x r =>
    have:x∈us:=up.mem_iff.mpr ((o3 x).mpr (.head _))
    rw [z] at this
    cases this
  exact b3 (by ext) this
theorem IJ {k n:Nat}{s:D}{ss:List Str}(hs:s=.lst (ss.map D.str)∨s=.tup (ss.map D.str))(hn:ss≠[])(hl:ss.length<5000)(h:HandOk mu k (n+1)):∃ x mu',CM [.ref k,s] mu=some (.str x,mu')∧Fr k n mu mu'∧x∈ss:=by
 obtain ⟨d,mu',e,fr,hd⟩:=pick_run (ds:=ss.map D.str) hs (by simpa using hn) (by rw [Af];ext) h
 obtain ⟨x,hx,rfl⟩:=Ak.mp hd
 exact ⟨x,mu',e,fr,hx⟩
theorem Pw {k n:Nat}{V cs ws:List Str}(hcv:∀ x∈cns,x∈V)(hcs:∀ x∈cs,x∈V)(hwv:∀ x∈ws,x∈V)(hc:KO cs)(hl:cs.length≤2000)(hw:ws≠[])(hwl:ws.length≤6)(hww:∀ x∈ws,IsW x)(h:HandOk mu k (n+3)):Run (EH [.ref k,csD cs,.lst (ws.map D.str)] mu) k n mu λd=>IA cs d=true∧okB 10 d=true∧∀ x∈wds d,x∈V:=by
 have av:∀ a∈(["is","not","like","unlike","is"]:List Str),a∈V:=λa ha=>hcv a (by
  simp only [Am,AE,Bk] at ha
  unfold cns
  rcases ha with rfl|rfl|rfl|rfl|rfl<;>symm)
 have w3:∀ a b c:Str,a∈V->b∈V->c∈V->∀ x∈wds (.tup [.str a,.str b,.str c]),x∈V:=λa b c h1 h2 h3 x hx=>by
  simp only [wds,JD,BE,List.cons_append,List.nil_append,Am,AE,Bk] at hx
  rcases hx with rfl|rfl|rfl
  ·exact h1
  ·exact h2
  ·exact h3
 obtain ⟨a,m1,e1,f1,ha⟩:=IJ (s:=.lst ((["is","not","like","unlike","is"]:List Str).map D.str)) (n:=n+2) (.inl rfl) (by simp) (by decide) h
 obtain ⟨b,m2,e2,f2,hb⟩:=IJ (s:=csD cs) (n:=n+1) (.inr rfl) hc.ne (by ext) f1.hand
 have wb:=De.mpr (hc.w b hb)
 have e1':CM [.ref k,.lst [.str "is",.str "not",.str "like",.str "unlike",.str "is"]] mu=some (.str a,m1):=e1
 have E:∀ c,IA cs (.tup [.str a,.str b,.str c])=((wB a&&(wB b&&wB c))&&(if decide (a∈(["is","not"]:List Str))=true then decide (b∈cs) else decide (a∈(["like","unlike"]:List Str))&&(decide (b∈cs)&&decide (c∈cs)))):=λc=>rfl
 by_cases c1:a∈(["is","not"]:List Str)
 ·obtain ⟨c,m3,e3,f3,hc3⟩:=IJ (s:=.lst (ws.map D.str)) (n:=n) (.inl rfl) hw (by ext) f2.hand
  refine ⟨.tup [.str a,.str b,.str c],m3,?_,(f1.trans f2).trans f3,?_,rfl,w3 a b c (av a ha) (hcs b hb) (hwv c hc3)⟩
  ·simp! [EH,HV,e1',e2,JW,c1,e3]
  ·have wa:wB a=true:=by
    simp only [Am,AE,Bk] at c1
    rcases c1 with rfl|rfl
    ·exact De.mpr Ui
    ·exact De.mpr Rh
   rw [E,wa,wb,De.mpr (hww c hc3)]
   simp [c1,hb]
 ·obtain ⟨c,m3,e3,f3,hc3⟩:=IJ (s:=csD cs) (n:=n) (.inr rfl) hc.ne (by ext) f2.hand
  have c2:a∈(["like","unlike"]:List Str):=by
   simp only [Am,AE,Bk,not_or] at ha c1 ⊢
   rcases ha with h|h|h|h|h
   ·exact absurd h c1.1
   ·exact absurd h c1.2
   ·exact .inl h
   ·exact .inr h
   ·exact absurd h c1.1
  refine ⟨.tup [.str a,.str b,.str c],m3,?_,(f1.trans f2).trans f3,?_,rfl,w3 a b c (av a ha) (hcs b hb) (hcs c hc3)⟩
  ·simp! [EH,HV,e1',e2,JW,c1,e3]
  ·have wa:wB a=true:=by
    simp only [Am,AE,Bk] at c2
    rcases c2 with rfl|rfl
    ·exact De.mpr OA
    ·exact De.mpr Mn
   rw [E,wa,wb,De.mpr (hc.w c hc3)]
   simp [c1,c2,hb,hc3]
theorem KH {kn:Kn}:∀ (n:Nat) (d:D) (cs:List Str),Co kn n d=some cs->Co kn (n+1) d=some cs
 | 0,_,_,h=>by cases h
 | n+1,d,cs,h=>by
  unfold Co at h ⊢
  split at h
  ·exact h
  ·rename_i w a b
   split at h
   ·cases h
   ·rename_i cw
    rw [if_neg cw]
    split at h
    ·cases h
    ·rename_i one e1
     rw [KH n _ _ e1]
     dsimp only
     split at h
     ·rename_i cm
      rw [if_pos cm]
      split at h
      ·cases h
      ·rename_i other e2
       rw [KH n _ _ e2]
       exact h
     ·rename_i cm
      rw [if_neg cm]
      exact h
  ·cases h
theorem Kc {kn:Kn}{n m:Nat}{d:D}{cs:List Str}(h:Co kn n d=some cs)(l:n≤m):Co kn m d=some cs:=by
 induction m with
 | zero =>
  have:n=0:=by ext
  subst this
  exact h
 | succ m ih =>
  by_cases c:n=m+1
  ·subst c;exact h
  ·exact KH m d cs (ih (by ext))
theorem ZI {ts:List Tb}{a:D}{x:Str}:FN none mu (gNm 0) (tV (Ce eqD (Ce ixG (B8 0) (eC (.int 0))) (Ce ixG (B8 1) (eC (.int 1))))) (Cd E9 (B6 (eLC (DJ (Ce ixG (B8 0) (eC (.int 1)))) 2 [] (gTp 2 (CD (gNm 0) (CD (gNm 1) EA))) (tY) (B8 0)) Cb)) [none,some (.tup [a,.str x])] (ts.map tbD) mu=some ((fnd ts (.str x)).map csD,mu):=by
 have:=Jq (m0:=mu) (tg:=gNm 0) (tt:=tV (Ce eqD (Ce ixG (B8 0) (eC (.int 0))) (Ce ixG (B8 1) (eC (.int 1))))) (el:=Cd E9 (B6 (eLC (DJ (Ce ixG (B8 0) (eC (.int 1)))) 2 [] (gTp 2 (CD (gNm 0) (CD (gNm 1) EA))) (tY) (B8 0)) Cb)) (ro:=[none,some (.tup [a,.str x])]) (mu:=mu) (λd=>eqS (UG d) (.str x)) W8 (ts.map tbD) (λd hd=>by
  obtain ⟨t,_,rfl⟩:=Ak.mp hd
  refine ⟨_,rfl,?_,λ_=>?_⟩
  ·simp! [tbD,UG,eqS]
   first|rfl|(congr;done)|trace_state
  ·rw [N5]
   simp! [tbD,TR,csD])
 rw [this,Rt]
theorem Wk {kn:Kn}{w:Str}{b:D}{cs:List Str}(h:ofC kn w b=some cs):w="of"∧∃ x,b=.str x:=by
 unfold ofC at h
 split at h
 ·rename_i c
  rw [Ab,Ad] at c
  split at h
  ·exact ⟨c.1,_,rfl⟩
  ·cases h
 ·cases h
theorem HB {ts:List Tb}(H:SK ts):∀ (f:Nat) {n:Nat} {d:D} {cs:List Str} {mu:Sto},n≤f->n≤8->Co (CS ts) n d=some cs->Dh f [scD ts,d] mu=some (csD cs,mu)
 | f,0,d,cs,mu,_,_,h=>by cases h
 | 0,n+1,_,_,_,h,_,_=>by ext
 | f+1,n+1,d,cs,mu,hf,h8,h=>by
  rw [Dh]
  unfold Co at h
  split at h
  ·rename_i w b
   obtain ⟨rfl,x,rfl⟩:=Wk h
   have lc:=ZI (mu:=mu) (ts:=ts) (a:=.str "of") (x:=x)
   rw [TF (λt ht=>(H.ok t ht).nw)] at h
   unfold scD
   simp! [FK,lc]
   cases e:fnd ts (.str x) with
   | nil=>rw [e] at h;cases h
   | cons y ys =>
    rw [e] at h
    cases h
    simp! []
  ·rename_i w a b
   split at h
   ·cases h
   ·rename_i cw
    split at h
    ·cases h
    ·rename_i one e1
     have r1:=HB H f (mu:=mu) (by ext) (by ext) e1
     have lo:=IQ (QO H) n _ _ e1
     have p8:2 ^ n≤2 ^ 7:=Nat.pow_le_pow_right (by decide) (by ext)
     simp! [FK,cw,r1]
     split at h
     ·rename_i cm
      split at h
      ·cases h
      ·rename_i other e2
       have r2:=HB H f (mu:=mu) (by ext) (by ext) e2
       have lo2:=IQ (QO H) n _ _ e2
       have n1:¬ (w="columns"):=by rintro rfl;revert cm;symm
       have n2:¬ (w="called"):=by rintro rfl;revert cm;symm
       unfold Lw at h
       split at h
       ·rename_i cj
        cases h
        subst cj
        have l:=List.length_filter_le (λc=>!decide (c∈one)) other
        have za:CH (.tup (one.map D.str)) (.tup ((other.filter λc=>!decide (c∈one)).map D.str)) mu=some (csD (J3 one other),mu):=by
         unfold CH
         dsimp only
         rw [if_pos (by simp only [Af,AD];ext)]
         simp [csD,J3]
        have lc:=Of (m0:=mu) (mu:=mu) one other
        unfold csD at lc r2 ⊢
        unfold csD at za
        simp! [n1,n2,r2,lc,za]
       ·rename_i cj
        split at h
        ·cases h
         simp! [n1,n2,cj]
        ·cases h
     ·rename_i cm
      unfold GH at h
      split at h
      ·rename_i c1
       split at h
       ·cases h
        have n1:¬ (w="columns"):=by rw [c1];symm
        have n2:¬ (w="called"):=by rw [c1];symm
        have n3:¬ (w="join"):=by rw [c1];symm
        simp! [n1,n2,n3]
       ·cases h
      ·split at h
       ·rename_i c1 c2
        split at h
        ·rename_i c
         cases h
         rw [Ab] at c
         obtain ⟨ss,rfl,e,_⟩:=J1 c.1
         rw [e]
         simp! [c2]
        ·cases h
       ·split at h
        ·rename_i c1 c2 c3
         split at h
         ·rename_i c
          split at h
          ·cases h
           obtain ⟨ps,rfl,e2,nd,_⟩:=J5 c
           rw [e2]
           have ga:=GD (m0:=mu) (tg:=gNm 0) (el:=J9 (B8 1) (B6 (B8 0) (B6 (B8 0) Cb))) (ro:=[none,some (.dct ((ps.map prK).map (·.1)) ((ps.map prK).map (·.2)))]) (mu:=mu) (λd=>match d with|.str c=>.str (EU ps c)|_=>.non) (one.map D.str) (λd hd=>by
            obtain ⟨c,_,rfl⟩:=Ak.mp hd
            exact ⟨_,rfl,QY rfl rfl⟩)
           have e4:(one.map D.str).map (λd=>match d with|.str c=>D.str (EU ps c)|_=>.non)=(one.map (EU ps)).map D.str:=by
            rw [As,As]
            rfl
           rw [e4] at ga
           have zl:LV [.tup (ps.map prD)] mu=some (.lst (ps.map prD),mu):=rfl
           subst c3
           simp! [c2,zl,To (.inr rfl) nd,csD,ga]
          ·cases h
         ·cases h
        ·cases h
  ·cases h
structure Bg (n:Nat) (d:D) (b:Int):Prop where
 lo:0≤b
 hi:b≤300*2 ^ n
 run:∀ (m:Nat) (mu:Sto),n≤m->D3 m [d] mu=some (.int b,mu)
structure Good (V:List Str) (kn:Kn) (n:Nat) (d:D):Prop where
 wv:∀ x∈wds d,x∈V
 ok:okB 1000 d=true
 cs:∃ cs,Co kn n d=some cs
 bg:∃ b,Bg n d b
theorem Oh {n m:Nat}(l:n≤m):(2:Int) ^ n≤2 ^ m:=by
 have:=Nat.pow_le_pow_right (n:=2) (by decide) l
 exact_mod_cast this
theorem Good.up {V:List Str}{kn:Kn}{n m:Nat}{d:D}(h:Good V kn n d)(l:n≤m):Good V kn m d:=by
 obtain ⟨wv,a,⟨cs,b⟩,⟨x,c1,c2,c3⟩⟩:=h
 refine ⟨wv,a,⟨cs,Kc b l⟩,x,c1,?_,λm' mu h=>c3 m' mu (by ext)⟩
 have:=Oh l
 ext
theorem Wy {V:List Str}{kn:Kn}{x:Str}{cs:List Str}(h1:Str.ofString "of"∈V)(h2:x∈V)(h:DN kn x=some cs)(hx:IsW x):Good V kn 1 (.tup [.str "of",.str x]):=by
 refine ⟨λy hy=>?_,rfl,⟨cs,?_⟩,6,by decide,by decide,λm mu l=>?_⟩
 ·simp only [wds,JD,BE,List.cons_append,List.nil_append,Am,AE,Bk] at hy
  rcases hy with rfl|rfl
  ·exact h1
  ·exact h2
 ·have wb:CN (.str x)=true:=De.mpr hx
  simp only [Co,ofC,wb,decide_true,Bd,if_true,h]
 ·match m,l with
  | m+1,_=>simp! [D3,Fv]
theorem wd3 {V:List Str}{w:Str}{a b:D}(hw:w∈V)(ha:∀ x∈wds a,x∈V)(hb:∀ x∈wds b,x∈V):∀ x∈wds (.tup [.str w,a,b]),x∈V:=λx hx=>by
 simp only [wds,JD,BE,List.cons_append,List.nil_append,Am,Aj] at hx
 rcases hx with rfl|hx|hx
 ·exact hw
 ·exact ha x hx
 ·exact hb x hx
theorem ok3 {w:Str}{a b:D}(ha:okB 1000 a=true)(hb:okB 1000 b=true):okB 1000 (.tup [.str w,a,b])=true:=by
 simp only [okB,Ij,ha,hb,List.length_cons,List.length_nil,Bl,Bd]
 rfl
theorem Ko {V:List Str}{kn:Kn}{n:Nat}{w:Str}{a b:D}{one cs:List Str}(h:Good V kn n a)(e:Co kn n a=some one)(hb:okB 1000 b=true)(hw:w="rows"∨w="columns"∨w="called")(hs:GH one w b=some cs)(hwV:w∈V)(hbV:∀ x∈wds b,x∈V):Good V kn (n+1) (.tup [.str w,a,b]):=by
 obtain ⟨b0,c1,c2,c3⟩:=h.bg
 have n1:¬ (w="of"):=by rcases hw with rfl|rfl|rfl<;>symm
 have n2:¬ (w="join"):=by rcases hw with rfl|rfl|rfl<;>symm
 have n3:¬ (w="union"):=by rcases hw with rfl|rfl|rfl<;>symm
 have n4:¬ (w∈(["join","union","gap"]:List Str)):=by rcases hw with rfl|rfl|rfl<;>symm
 refine ⟨wd3 hwV h.wv hbV,ok3 h.ok hb,⟨cs,?_⟩,b0,c1,?_,λm mu l=>?_⟩
 ·simp only [Co,n1,AZ,e,n4,hs]
 ·have:=Oh (Bx n)
  have h2:(2:Int) ^ (n+1)=2 ^ n*2:=Int.pow_succ 2 n
  have h3:(0:Int)<2 ^ n:=Int.pow_pos (by decide)
  ext
 ·match m,l with
  | m+1,l=>simp! [D3,Fv,n1,n2,n3,c3 m mu (by ext),Int.add_zero]
theorem Ms {V:List Str}{kn:Kn}{n:Nat}{w:Str}{a b:D}{cs:List Str}(h:Good V kn n a)(h':Good V kn n b)(e:Co kn n a=some cs)(e':Co kn n b=some cs)(hw:w="union"∨w="gap")(hwV:w∈V):Good V kn (n+1) (.tup [.str w,a,b]):=by
 obtain ⟨b0,c1,c2,c3⟩:=h.bg
 obtain ⟨b1,d1,d2,d3⟩:=h'.bg
 have n1:¬ (w="of"):=by rcases hw with rfl|rfl<;>symm
 have n2:¬ (w="join"):=by rcases hw with rfl|rfl<;>symm
 have n4:w∈(["join","union","gap"]:List Str):=by rcases hw with rfl|rfl<;>symm
 have h2:(2:Int) ^ (n+1)=2 ^ n*2:=Int.pow_succ 2 n
 have h3:(0:Int)<2 ^ n:=Int.pow_pos (by decide)
 have hc:∃ cs,Co kn (n+1) (.tup [.str w,a,b])=some cs:=⟨cs,by simp only [Co,n1,AZ,e,n4,if_true,e',Lw,n2]⟩
 by_cases u:w="union"
 ·refine ⟨wd3 hwV h.wv h'.wv,ok3 h.ok h'.ok,hc,b0+b1,by ext,by ext,λm mu l=>?_⟩
  match m,l with
  | m+1,l =>
   subst u
   simp! [D3,Fv,n1,n2,c3 m mu (by ext),d3 m mu (by ext)]
 ·refine ⟨wd3 hwV h.wv h'.wv,ok3 h.ok h'.ok,hc,b0,by ext,by ext,λm mu l=>?_⟩
  match m,l with
  | m+1,l=>simp! [D3,Fv,n1,n2,u,c3 m mu (by ext),Int.add_zero]
theorem SE {V:List Str}{kn:Kn}{n:Nat}{a b:D}{c1 c2:Int}(h:Good V kn n a)(h':Good V kn n b)(hn:n≤12)(g:Bg n a c1)(g':Bg n b c2)(l:c1*c2<300)(hwV:Str.ofString "join"∈V):Good V kn (n+1) (.tup [.str "join",a,b]):=by
 obtain ⟨x1,e1⟩:=h.cs
 obtain ⟨x2,e2⟩:=h'.cs
 have n1:¬ (Str.ofString "join"=Str.ofString "of"):=by symm
 have n4:(Str.ofString "join")∈(["join","union","gap"]:List Str):=by symm
 have h2:(2:Int) ^ (n+1)=2 ^ n*2:=Int.pow_succ 2 n
 have h3:(0:Int)<2 ^ n:=Int.pow_pos (by decide)
 have t12:=Oh hn
 refine ⟨wd3 hwV h.wv h'.wv,ok3 h.ok h'.ok,⟨J3 x1 x2,?_⟩,c1*c2,Int.mul_nonneg g.lo g'.lo,by ext,λm mu l=>?_⟩
 ·simp only [Co,n1,AZ,e1,n4,if_true,e2,Lw]
 ·have cm:CMul c1 c2:=.inl ⟨by have:=g.lo;ext,by have:=g.hi;have:(2:Int) ^ 12=4096:=(by decide);ext⟩
  match m,l with
  | m+1,l=>simp! [D3,Fv,n1,g.run m mu (by ext),g'.run m mu (by ext),LU cm]
noncomputable def dB (deep:Nat):Nat:=if deep≤2 then deep else 2*deep-2
theorem Xy {hi:Int}{ss:List Str}(h0:ss≠[])(h4:(ss.length:Int)≤hi)(hd:ss.Nodup)(hw:∀ x∈ss,IsW x):wsB hi (csD ss)=true:=by
 have W:wsB hi (csD ss)=(Di 1 hi (.tup (ss.map D.str))&&((ss.map D.str).all CN&&ndB (ss.map D.str))):=rfl
 have p:0<ss.length:=List.length_pos_iff.mpr h0
 rw [W]
 simp only [Ab,Di,Af,Ad,Ao,ndB]
 refine ⟨⟨by ext,by ext⟩,λd hd=>?_,DX.mpr hd⟩
 obtain ⟨x,hx,rfl⟩:=Ak.mp hd
 exact De.mpr (hw x hx)
theorem XN {ts:List Tb}{t:Tb}(ht:t∈ts):∃ cs,DN (CS ts) t.nm=some cs:=by
 induction ts with
 | nil=>cases ht
 | cons u ts ih =>
  unfold CS
  rw [AO,DN]
  by_cases c:u.nm=t.nm
  ·rw [if_pos c];exact ⟨_,rfl⟩
  ·rw [if_neg c]
   rcases Am.mp ht with rfl|ht
   ·exact absurd rfl c
   ·exact ih ht
theorem SF {k n:Nat}{V cs ws:List Str}(hcv:∀ x∈cns,x∈V)(hcs:∀ x∈cs,x∈V)(hwv:∀ x∈ws,x∈V)(hc:KO cs)(hl:cs.length≤2000)(hw:ws≠[])(hwl:ws.length≤6)(hww:∀ x∈ws,IsW x){j:Nat}(hj:j≤2)(h:HandOk mu k (n+6)){m0:Sto}:∃ ys mu',FN none m0 (gNm 0) tY (Cd EH (B6 (B8 1) (B6 (B8 2) (B6 (B8 3) Cb)))) [none,some (.ref k),some (csD cs),some (.lst (ws.map D.str))] (FY 0 j) mu=some (ys,mu')∧Fr k n mu mu'∧ys.length=j∧∀ d∈ys,IA cs d=true∧okB 10 d=true∧∀ x∈wds d,x∈V:=by
 obtain ⟨ys,mu',e,fr,l,hp⟩:=Qg (m0:=m0) (tg:=gNm 0) (el:=Cd EH (B6 (B8 1) (B6 (B8 2) (B6 (B8 3) Cb)))) (ro:=[none,some (.ref k),some (csD cs),some (.lst (ws.map D.str))]) (λi m=>Fr k (n+6-3*i) mu m) (λ_ d=>IA cs d=true∧okB 10 d=true∧∀ x∈wds d,x∈V) (FY 0 j) 0 mu (.refl h) λi d m ed fr=>by
  obtain ⟨rfl,hi⟩:=N4 ed
  obtain ⟨y,m1,e1,f1,hy⟩:=Pw (n:=n+6-3*(0+i+1)) hcv hcs hwv hc hl hw hwl hww (fr.hand.mono (by ext))
  exact ⟨_,y,m1,rfl,by simp! [e1],hy,fr.trans f1⟩
 rw [Kl] at l
 refine ⟨ys,mu',e,fr.mono (by rw [Kl];ext),l,λd hd=>?_⟩
 obtain ⟨i,hi⟩:=AS.mp hd
 exact hp i d hi
theorem Uc {cs:List Str}{ys:List D}(l1:1≤ys.length)(l4:ys.length≤4)(h:∀ d∈ys,IA cs d=true):Mo cs (.tup ys)=true:=by
 have e:Mo cs (.tup ys)=(Di 1 4 (.tup ys)&&ys.all (IA cs)):=rfl
 rw [e]
 simp only [Di,Ab,Ad,Ao]
 exact ⟨⟨by ext,by ext⟩,h⟩
theorem Zw {cs:List Str}{c w:Str}(nd:cs.Nodup)(hw:w∉cs):(cs.map (EU [(c,w)])).Nodup:=by
 rw [AX,List.pairwise_map]
 refine List.Pairwise.imp_of_mem (λ{a b} ha hb hne e=>hne ?_) (AX.mp nd)
 unfold EU EU at e
 dsimp only at e
 by_cases c1:c=a
 ·by_cases c2:c=b
  ·rw [← c1,← c2]
  ·rw [if_pos c1,if_neg c2] at e
   rw [e] at hw
   exact absurd hb hw
 ·by_cases c2:c=b
  ·rw [if_neg c1,if_pos c2] at e
   rw [← e] at hw
   exact absurd ha hw
  ·rw [if_neg c1,if_neg c2] at e
   exact e
theorem UX (ps:List (Str×Str)):EB (ps.map prD)=true:=by
 induction ps with
 | nil=>rfl
 | cons p ps ih=>rw [AO,EB,ih];rfl
theorem Rr (ss:List Str):MH (csD ss)=ss:=by simp [MH,csD,PV.strs_map]
noncomputable def frees:List Str:=["z9","y8","x7","w6"]
theorem Xd:∀ x∈frees,IsW x:=by
 intro x hx
 have:frees.all wB=true:=by symm
 exact De.mp (Ao.mp this x hx)
set_option maxHeartbeats 4000000 in
theorem WW:∀ x∈frees,x∈cns:=by
 unfold frees cns
 symm
theorem Vh {V ss:List Str}(h:∀ x∈ss,x∈V):∀ x∈wds (csD ss),x∈V:=λx hx=>by
 unfold csD at hx
 rw [wds] at hx
 obtain ⟨d,hd,hx⟩:=ID.mp hx
 obtain ⟨y,hy,rfl⟩:=Ak.mp hd
 rw [wds,Ag] at hx
 rw [hx]
 exact h y hy
theorem Sch.knv {V:List Str}{ts:List Tb}(H:Sch V ts):KnV V (CS ts):=λp hp=>by
 obtain ⟨t,ht,rfl⟩:=Ak.mp hp
 refine ⟨(H.k.ok t ht).cn,λc hc=>?_⟩
 obtain ⟨q,hq,rfl⟩:=Ak.mp hc
 exact (H.tv t ht).2 q hq
theorem Lh {V:List Str}{ts:List Tb}(H:Sch V ts){k:Nat}:∀ (f:Nat) {n deep:Nat} {mu:Sto},1≤deep->deep≤f->deep≤5->Flat mu->HandOk mu k (n+20*3 ^ deep)->Run (EI f [.ref k,scD ts,.int deep] mu) k n mu λd=>Good V (CS ts) (dB deep) d
 | 0,n,deep,mu,h1,hf,_,_,_=>by ext
 | f+1,n,deep,mu,h1,hf,h5,hfl,hh=>by
  have p3:20≤20*3 ^ deep:=by have:=Nat.pos_of_ne_zero (n:=3 ^ deep) (by simp);ext
  have p3':60≤20*3 ^ deep:=by
   have:=Nat.pow_le_pow_right (n:=3) (by decide) h1
   ext
  obtain ⟨_,m1,e1,f1,way,rfl,a0,a1⟩:=Dy (m:=8) (n:=n+20*3 ^ deep-1) (hh.mono (by ext)) (by decide) (by decide)
  have mk:∀ d:D,Good V (CS ts) 1 d->Good V (CS ts) (dB deep) d:=λd g=>g.up (by unfold dB;split<;>ext)
  have uV:∀ {u:Str},(u="union"∨u="gap")->u∈V:=λ{u} h=>by
   rcases h with rfl|rfl
   ·exact H.cv _ (by symm)
   ·exact H.cv _ (by symm)
  rw [EI]
  by_cases c0:(decide ((deep:Int)<2)||decide (way=0))=true
  ·obtain ⟨d,m2,e2,f2,hd⟩:=pick_run (s:=scD ts) (ds:=ts.map tbD) (n:=n) (.inr rfl) (λz=>by have l:=congrArg List.length z;rw [Af,List.length_nil] at l;have:=H.k.l1;ext) (by rw [Af];have:=H.k.l4;ext) (f1.hand.mono (by ext))
   obtain ⟨t,ht,rfl⟩:=Ak.mp hd
   obtain ⟨cs,hcs⟩:=XN ht
   refine ⟨_,m2,?_,f1.trans f2,mk _ (Wy (H.cv _ (by symm)) (H.tv t ht).1 hcs (H.k.ok t ht).nw)⟩
   rw [Bool.or_eq_true,Ad,Ad] at c0
   rcases c0 with c0|c0
   ·simp! [Dj,e1,c0,e2,tbD]
   ·by_cases c:(deep:Int)<2
    ·simp! [Dj,e1,c,e2,tbD]
    ·simp! [Dj,e1,c,c0,e2,tbD]
  ·rw [Bool.or_eq_true,Ad,Ad,not_or] at c0
   obtain ⟨c1,c2⟩:=c0
   have d2:2≤deep:=by ext
   have dd:(deep:Int)-1=((deep-1:Nat):Int):=by ext
   have pw:3 ^ deep=3*3 ^ (deep-1):=by
    have:deep=(deep-1)+1:=by ext
    rw [this,Nat.pow_succ]
    simp
    ext
   have p1:1≤3 ^ (deep-1):=Nat.pos_of_ne_zero (by simp)
   obtain ⟨one,m2,e2,f2,g1⟩:=Lh H f (n:=n+20*3 ^ (deep-1)+15) (deep:=deep-1) (mu:=m1) (by ext) (by ext) (by ext) (f1.flat hfl) (f1.hand.mono (by ext))
   have fr2:=f1.trans f2
   obtain ⟨cs,ec⟩:=g1.cs
   have dl:dB (deep-1)+1≤dB deep:=by unfold dB;split<;>split<;>ext
   have d7:dB (deep-1)≤6:=by unfold dB;split<;>ext
   have lc:=HB H.k 10 (n:=dB (deep-1)) (mu:=m2) (by ext) (by ext) ec
   obtain ⟨ws,es,w1,w2,w3,wsv⟩:=SI H (fr2.flat hfl)
   have co:=Jo (Vx H.k) _ _ _ ec
   have csv:=(Eg (H.knv) _ _ _ g1.wv ec).2
   have cl:=IQ (QO H.k) _ _ _ ec
   have c6:2 ^ dB (deep-1)≤2 ^ 6:=Nat.pow_le_pow_right (by decide) d7
   have cl2:cs.length≤2000:=by ext
   have cp:0<cs.length:=List.length_pos_iff.mpr co.ne
   have up1:∀ d:D,Good V (CS ts) (dB (deep-1)+1) d->Good V (CS ts) (dB deep) d:=λd g=>g.up dl
   by_cases w3':way<3
   ·-- rows
    obtain ⟨_,m3,e3,f3,t3,rfl,b0,b1⟩:=Dy (m:=2) (n:=n+20*3 ^ (deep-1)+14) f2.hand (by decide) (by decide)
    obtain ⟨j,hj⟩:∃ j:Nat,1+t3=(j:Int):=⟨(1+t3).toNat,by ext⟩
    obtain ⟨ys,m4,e4,f4,l4,hy⟩:=SF (m0:=m3) (n:=n) (k:=k) (mu:=m3) (j:=j) H.cv csv wsv co cl2 w1 w2 w3 (by ext) (f3.hand.mono (by ext))
    have ts1:Mo cs (.tup ys)=true:=Uc (by ext) (by ext) λd hd=>(hy d hd).1
    have oy:okB 1000 (.tup ys)=true:=by
     simp only [okB,Ab,Ad]
     exact ⟨by ext,G6.mpr λd hd=>Io (by decide) (hy d hd).2.1⟩
    refine ⟨.tup [.str "rows",one,.tup ys],m4,?_,(fr2.trans f3).trans f4,up1 _ (Ko (cs:=cs) g1 ec oy (.inl rfl) (by simp only [GH,if_true,ts1]) (H.cv _ (by symm)) λx hx=>by
     rw [wds] at hx
     obtain ⟨d,hd,hx⟩:=ID.mp hx
     exact (hy d hd).2.2 x hx)⟩
    have rg:=Sn (mu:=m2) (ro:=[some (.ref k),some (scD ts),some (.int deep),some (.int way),some one,some (csD cs),some (.lst (ws.map D.str)),none,none,none,none]) (r:=B6 (Ce CH (eC (.int 1)) (Cd Cp (B6 (B8 0) (B6 (eC (.int 2)) Cb)))) Cb) (n:=j) (m:=m3) (by simp! [e3,hj]) (by ext) (by rw [AD];ext)
    rw [Int.toNat_natCast] at rg
    simp! [Dj,e1,c1,c2,dd,e2,lc,es,w3',rg,e4]
   ·by_cases w3e:way=3
    ·-- columns
     subst w3e
     obtain ⟨_,m3,e3,f3,at',rfl,b0,b1⟩:=Dy (m:=cs.length) (n:=n+20*3 ^ (deep-1)+14) f2.hand (by ext) (by ext)
     obtain ⟨_,m4,e4,f4,t4,rfl,b2,b3⟩:=Dy (m:=cs.length) (n:=n) (f3.hand.mono (by ext)) (by ext) (by ext)
     obtain ⟨a,ha⟩:∃ a:Nat,at'=(a:Int):=⟨at'.toNat,by ext⟩
     obtain ⟨j,hj⟩:∃ j:Nat,1+t4=(j:Int):=⟨(1+t4).toNat,by ext⟩
     subst ha
     have pm:(cs.drop a++cs.take a).Perm cs:=by
      have:=List.perm_append_comm (l₁:=cs.drop a) (l₂:=cs.take a)
      rw [List.take_append_drop] at this
      exact this
     have sub:((cs.drop a++cs.take a).take j).Sublist (cs.drop a++cs.take a):=List.take_sublist _ _
     have ndS:((cs.drop a++cs.take a).take j).Nodup:=(pm.nodup_iff.mpr co.nd).sublist sub
     have inS':∀ x∈(cs.drop a++cs.take a).take j,x∈cs:=λx hx=>pm.mem_iff.mp (sub.subset hx)
     have lenS:((cs.drop a++cs.take a).take j).length=j:=by
      rw [AQ,pm.length_eq]
      ext
     have neS:(cs.drop a++cs.take a).take j≠[]:=λz=>by rw [z] at lenS;simp at lenS;ext
     have sg:GH cs "columns" (csD ((cs.drop a++cs.take a).take j))=some ((cs.drop a++cs.take a).take j):=by
      have nr:¬ (Str.ofString "columns"=Str.ofString "rows"):=by symm
      have e2:=Rr ((cs.drop a++cs.take a).take j)
      have w:=Xy (hi:=cs.length) neS (by ext) ndS (λx hx=>co.w x (inS' x hx))
      have al:(((cs.drop a++cs.take a).take j).all λx=>decide (x∈cs))=true:=by
       rw [Ao]
       intro x hx
       simpa using inS' x hx
      simp only [GH,nr,AZ,if_true,e2,w,al,Bd]
     refine ⟨.tup [.str "columns",one,csD ((cs.drop a++cs.take a).take j)],m4,?_,(fr2.trans f3).trans f4,up1 _ (Ko g1 ec ?_ (.inr (.inl rfl)) sg (H.cv _ (by symm)) (Vh λx hx=>csv x (inS' x hx)))⟩
     ·have s1:cutD (cs.map D.str) (some (a:Int)) none=(cs.drop a).map D.str:=by rw [LS (by rw [Af];ext),List.map_drop]
      have s2:cutD (cs.map D.str) none (some (a:Int))=(cs.take a).map D.str:=by rw [IK (by rw [Af];ext),List.map_take]
      have za:CH (.tup ((cs.drop a).map D.str)) (.tup ((cs.take a).map D.str)) m3=some (csD (cs.drop a++cs.take a),m3):=by
       unfold CH
       dsimp only
       have l1:(cs.drop a).length≤cs.length:=by rw [BH];ext
       have l2:(cs.take a).length≤cs.length:=by rw [AQ];ext
       rw [if_pos (by simp only [Af,AD];ext)]
       simp [csD]
      have s3:cutD ((cs.drop a++cs.take a).map D.str) none (some (j:Int))=((cs.drop a++cs.take a).take j).map D.str:=by
       rw [IK (by rw [Af,pm.length_eq];ext),List.map_take]
      unfold csD at za lc ⊢
      simp! [Dj,e1,c1,c2,dd,e2,lc,es,w3',Af,e3,s1,s2,za,e4,hj,s3]
     ·simp only [csD,okB,OL,Bl,Ad,Af]
      ext
    ·by_cases w4:way=4
     ·-- called
      subst w4
      have lf:=Of (m0:=m2) (mu:=m2) cs frees
      have lf':FN none m2 (gNm 0) (tV (Ce G7 (B8 0) (B8 1))) (B8 0) [none,some (csD cs)] [.str "z9",.str "y8",.str "x7",.str "w6"] m2=some ((frees.filter λc=>!decide (c∈cs)).map D.str,m2):=lf
      cases ef:(frees.filter λc=>!decide (c∈cs)) with
      | nil =>
       refine ⟨one,m2,?_,fr2.mono (by ext),up1 _ (g1.up (Bx _))⟩
       have n0:=Qs (mu:=m2) (xs:=[]) rfl
       have ct:cutD ([]:List D) none (some 1)=[]:=rfl
       have l0:((0:Nat)==0)=true:=rfl
       have lz:FN none m2 (gNm 0) tY (CL (B6 (Cd CM (B6 (B8 1) (B6 (B8 2) Cb))) (B6 (B8 0) Cb))) [none,some (.ref k),some (csD cs)] [] m2=some ([],m2):=rfl
       simp! [Dj,e1,c1,c2,dd,e2,lc,es,w3',w3e,lf',ef,ct,lz,n0,l0]
      | cons w r =>
       have hw:w∈frees.filter λc=>!decide (c∈cs):=by rw [ef];exact .head _
       have hw1:=Xd w (BD.mp hw).1
       have hw2:w∉cs:=by simpa using (BD.mp hw).2
       obtain ⟨c,m3,e3,f3,hc3⟩:=IJ (s:=csD cs) (n:=n) (.inr rfl) co.ne (by ext) (f2.hand.mono (by ext))
       have ct:cutD (D.str w::r.map D.str) none (some 1)=[.str w]:=by
        have:=IK (xs:=D.str w::r.map D.str) (j:=1) (by simp)
        simpa using this
       have lz:FN none m2 (gNm 0) tY (CL (B6 (Cd CM (B6 (B8 1) (B6 (B8 2) Cb))) (B6 (B8 0) Cb))) [none,some (.ref k),some (csD cs)] [.str w] m2=some ([prD (c,w)],m3):=by
        unfold FN
        simp! [e3,QM,FN,prD]
       have n0:=Qs (mu:=m3) (xs:=[prD (c,w)]) (UX [(c,w)])
       have l0:((1:Nat)==0)=false:=rfl
       have P:Km cs (.tup [prD (c,w)])=true:=by
        have E:Km cs (.tup [prD (c,w)])=((Di 1 cs.length (.tup [prD (c,w)])&&[prD (c,w)].all Fy)&&(ndB ([prD (c,w)].map DF)&&([prD (c,w)].map DF).all (Ed cs))):=rfl
        have p1:Fy (prD (c,w))=(wB c&&wB w):=rfl
        rw [E]
        simp only [Di,List.all_cons,List.all_nil,p1,De.mpr (co.w c hc3),De.mpr hw1,Bd,Bl,AO,List.map_nil,ndB,Ab,Ad,List.length_cons,List.length_nil]
        refine ⟨⟨by ext,by ext⟩,by simp,?_⟩
        simpa [Ed,prD,DF] using hc3
       have T:prT (.tup [prD (c,w)])=[(c,w)]:=rfl
       have sg:GH cs "called" (.tup [prD (c,w)])=some (cs.map (EU [(c,w)])):=by
        have nr:¬ (Str.ofString "called"=Str.ofString "rows"):=by symm
        have nc:¬ (Str.ofString "called"=Str.ofString "columns"):=by symm
        simp only [GH,nr,nc,AZ,if_true,P,T,Zw co.nd hw2]
       refine ⟨.tup [.str "called",one,.tup [prD (c,w)]],m3,?_,fr2.trans f3,up1 _ (Ko g1 ec rfl (.inr (.inr rfl)) sg (H.cv _ (by symm)) λx hx=>by
        simp only [prD,wds,JD,BE,List.cons_append,List.nil_append,Am,AE,Bk] at hx
        rcases hx with rfl|rfl
        ·exact csv _ hc3
        ·exact H.cv _ (WW _ (BD.mp hw).1))⟩
       simp! [Dj,e1,c1,c2,dd,e2,lc,es,w3',w3e,lf',ef,ct,lz,n0,l0]
     ·-- two looks
      obtain ⟨other,m3,e3,f3,g2⟩:=Lh H f (n:=n+3) (deep:=deep-1) (mu:=m2) (by ext) (by ext) (by ext) (fr2.flat hfl) (f2.hand.mono (by ext))
      have fr3:=fr2.trans f3
      by_cases w5:way=5
      ·subst w5
       obtain ⟨b1,B1⟩:=g1.bg
       obtain ⟨b2,B2⟩:=g2.bg
       have r1:=B1.run 10 m3 (by ext)
       have r2:=B2.run 10 m3 (by ext)
       have t6:=Oh d7
       have e64:(2:Int) ^ 6=64:=by decide
       have h0:=B1.lo
       have h9:=B1.hi
       have cm:CMul b1 b2:=.inl ⟨by ext,by ext⟩
       by_cases lt:b1*b2<300
       ·refine ⟨.tup [.str "join",one,other],m3,?_,fr3.mono (by ext),up1 _ (SE g1 g2 (by ext) B1 B2 lt (H.cv _ (by symm)))⟩
        simp! [Dj,e1,c1,c2,dd,e2,lc,es,w3',w3e,w4,e3,r1,r2,LU cm,lt]
       ·refine ⟨one,m3,?_,fr3.mono (by ext),up1 _ (g1.up (Bx _))⟩
        simp! [Dj,e1,c1,c2,dd,e2,lc,es,w3',w3e,w4,e3,r1,r2,LU cm,lt]
      ·obtain ⟨cs2,ec2⟩:=g2.cs
       have lc3:=HB H.k 10 (n:=dB (deep-1)) (mu:=m3) (by ext) (by ext) ec2
       have ne:neD (csD cs2) (csD cs) m3=some (.bl (!decide (csD cs2=csD cs)),m3):=Aaj (GZ cs2) (GZ cs)
       obtain ⟨u,hu,eu⟩:∃ u:Str,(u="union"∨u="gap")∧∀ m:Sto,ixG (.lst [.str "union",.str "gap"]) (.int (way-6)) m=some (.str u,m):=by
        have:way=6∨way=7:=by ext
        rcases this with rfl|rfl
        ·exact ⟨"union",.inl rfl,λm=>Nw (ds:=[.str "union",.str "gap"]) _ (.inl rfl) (by decide) rfl⟩
        ·exact ⟨"gap",.inr rfl,λm=>Nw (ds:=[.str "union",.str "gap"]) _ (.inl rfl) (by decide) rfl⟩
       by_cases same:cs2=cs
       ·subst same
        refine ⟨.tup [.str u,one,other],m3,?_,fr3.mono (by ext),up1 _ (Ms g1 g2 ec ec2 hu (uV hu))⟩
        simp! [Dj,e1,c1,c2,dd,e2,lc,es,w3',w3e,w4,w5,e3,lc3,ne,eu]
       ·have sm:¬ csD cs2=csD cs:=λz=>same (P7.mp z)
        by_cases d3:(2:Int)<deep
        ·obtain ⟨y,m4,e4,f4,hy⟩:=Pw (n:=n) H.cv csv wsv co cl2 w1 w2 w3 (f3.hand.mono (by ext))
         have ts1:Mo cs (.tup [y])=true:=Uc (by simp) (by simp) λd hd=>by rw [Ag.mp hd];exact hy.1
         have oy:okB 1000 (.tup [y])=true:=by
          simp only [okB,Ij,Io (show 10≤1000 by decide) hy.2.1,List.length_cons,List.length_nil,Bd]
          rfl
         have sg:GH cs "rows" (.tup [y])=some cs:=by simp only [GH,if_true,ts1]
         have g3:=Ko g1 ec oy (.inl rfl) sg (H.cv _ (by symm)) (λx hx=>hy.2.2 x (by simpa [wds,JD] using hx))
         obtain ⟨x3,ec3⟩:=g3.cs
         have ec3':Co (CS ts) (dB (deep-1)+1) (.tup [.str "rows",one,.tup [y]])=some cs:=by
          have n1:¬ (Str.ofString "rows"=Str.ofString "of"):=by symm
          have n4:¬ (Str.ofString "rows"∈(["join","union","gap"]:List Str)):=by symm
          simp only [Co,n1,AZ,ec,n4,sg]
         have g4:=Ms (g1.up (Bx _)) g3 (Kc ec (Bx _)) ec3' hu (uV hu)
         refine ⟨.tup [.str u,one,.tup [.str "rows",one,.tup [y]]],m4,?_,fr3.trans f4,g4.up (by unfold dB;split<;>split<;>ext)⟩
         simp! [Dj,e1,c1,c2,dd,e2,lc,es,w3',w3e,w4,w5,e3,lc3,ne,sm,d3,e4,eu]
        ·refine ⟨.tup [.str u,one,one],m3,?_,fr3.mono (by ext),up1 _ (Ms g1 g1 ec ec hu (uV hu))⟩
         simp! [Dj,e1,c1,c2,dd,e2,lc,es,w3',w3e,w4,w5,e3,lc3,ne,sm,d3,eu]
noncomputable def bkB:Kn->List D->Bool
 | _,[]=>true
 | kn,d::ds=>match d with
  | .tup [.str x,l]=>if (CN (.str x)&&!(DN kn x).isSome)=true then (match Co kn 8 l with
   | none=>false
   | some cs=>bkB (kn++[(x,cs)]) ds) else false
  | _=>false
def Gu (ts:List Tb)(d:D):Bool:=match d with
 | .tup ds=>decide (ds.length≤8)&&bkB (CS ts) ds
 | _=>false
def JI:Sx:=(Cq (sIf (tO (tNt (tV (Cd CY (B6 (B8 3) (B6 (eC (.int 2)) (B6 (eC (.int 2)) Cb)))))) (tO (tNt (tV (Cd Dk (B6 (Ce ixG (B8 3) (eC (.int 0))) Cb)))) (tV (Ce inG (Ce ixG (B8 3) (eC (.int 0))) (B8 2))))) (sRt (eC (.bl false))) (sNx)) (Cq (CU (Cd (CP 10) (B6 (B8 2) (B6 (Ce ixG (B8 3) (eC (.int 1))) (B6 (eC (.int 8)) Cb)))) (gNm 4)) (Cq (sIf (tV (Ce isD (B8 4) (eC .non))) (sRt (eC (.bl false))) (sNx)) (CU (B8 4) (gIx (B8 2) (Ce ixG (B8 3) (eC (.int 0))))))))
theorem Yu {k:Nat}{ks ds:List D}{e v:D}(h:mu[k]? = some (.dct ks ds))(he:EO e=true)(hl:ks.length<sizeLine):putG (.ref k) e v mu=some ((),mu.set k (.dct (EF e v ks ds).1 (EF e v ks ds).2)):=by
 simp only [putG,h,he,hl,and_self,if_true]
theorem Mr {kn:Kn}{d:D}{ds:List D}(h:∀ x l,d≠.tup [.str x,l]):bkB kn (d::ds)=false:=by
 unfold bkB
 split
 ·exact absurd rfl (h _ _)
 ·rfl
theorem KnAt.put {r:Nat}{kn:Kn}(h:KnAt mu r kn){x:Str}{cs:List Str}(hx:DN kn x=none):KnAt (mu.set r (.dct (EF (.str x) (csD cs) (kn.map λp=>.str p.1) (kn.map λp=>csD p.2)).1 (EF (.str x) (csD cs) (kn.map λp=>.str p.1) (kn.map λp=>csD p.2)).2)) r (kn++[(x,cs)]):=by
 have nm:D.str x∉kn.map λp=>D.str p.1:=λz=>by
  have:=Ku kn x
  rw [Bw z,hx] at this
  cases this
 unfold KnAt
 rw [Bn (Ah.mp h).1]
 unfold EF
 rw [if_neg nm]
 simp
theorem KnV.put {V:List Str}{kn:Kn}(h:KnV V kn){x:Str}{cs:List Str}(hc:cs.Nodup∧∀ c∈cs,c∈V):KnV V (kn++[(x,cs)]):=λp hp=>by
 rcases Aj.mp hp with hp|hp
 ·exact h p hp
 ·rw [Ag.mp hp]
  exact hc
theorem Nd {V:List Str}(hV:V.length≤2000){r:Nat}{sc th:D}{m0:Sto}:∀ (ds:List D) (kn:Kn) (mu:Sto) (x3 x4:Option D),KnAt mu r kn->KnV V kn->kn.length+ds.length≤100->(∀ d∈ds,DW 0 d=true∧∀ x∈wds d,x∈V) ->
  ∃ y3 y4 m',EN none m0 (gNm 3) JI ds [some sc,some th,some (.ref r),x3,x4] mu=some ((if bkB kn ds=true then .nx else .rt (.bl false),[some sc,some th,some (.ref r),y3,y4]),m')∧m'.length=mu.length∧∀ j,j≠r->m'[j]? = mu[j]?
 | [],kn,mu,x3,x4,_,_,_,_=>⟨x3,x4,mu,rfl,rfl,λ_ _=>rfl⟩
 | d::ds,kn,mu,x3,x4,hr,hk,hl,hd=>by
  obtain ⟨low,hw⟩:=hd d (.head _)
  have it:=FP (mu:=mu) d 2 2 (Ds low)
  have tg:gNm 3 d [some sc,some th,some (.ref r),x3,x4] mu=some ([some sc,some th,some (.ref r),some d,x4],mu):=rfl
  have no:∀ y4,bkB kn (d::ds)=false->JI [some sc,some th,some (.ref r),some d,x4] mu=some ((.rt (.bl false),[some sc,some th,some (.ref r),some d,y4]),mu) ->
    ∃ y3 y4 m',EN none m0 (gNm 3) JI (d::ds) [some sc,some th,some (.ref r),x3,x4] mu=some ((if bkB kn (d::ds)=true then .nx else .rt (.bl false),[some sc,some th,some (.ref r),y3,y4]),m')∧m'.length=mu.length∧∀ j,j≠r->m'[j]? = mu[j]?:=λy4 h1 h2=>by
   refine ⟨some d,y4,mu,?_,rfl,λ_ _=>rfl⟩
   unfold EN
   rw [tg,CV,h2,CV,h1]
   rfl
  cases c:Di 2 2 d with
  | false =>
   rw [c] at it
   refine no x4 (Mr λx l e=>by rw [e] at c;cases c) ?_
   unfold JI
   simp! [it]
  | true =>
   rw [c] at it
   obtain ⟨a,b,rfl⟩:=Xz c
   have iw:=Jp (mu:=mu) a (Ds (lows low a (by simp)))
   have i0:ixG (.tup [a,b]) (.int 0) mu=some (a,mu):=Qv
   have i1:ixG (.tup [a,b]) (.int 1) mu=some (b,mu):=QN
   cases cw:CN a with
   | false =>
    rw [cw] at iw
    refine no x4 ?_ ?_
    ·cases a with
     | str x =>
      rw [bkB,cw]
      rfl
     | _=>exact Mr λ_ _ e=>by cases e
    ·unfold JI
     simp! [it,i0,iw]
   | true =>
    rw [cw] at iw
    obtain ⟨x,rfl,wx⟩:=Eu cw
    have i:inG (.str x) (.ref r) mu=some (.bl (DN kn x).isSome,mu):=by rw [← Ku];exact Xt hr
    cases cl:DN kn x with
    | some cs =>
     rw [cl] at i
     refine no x4 ?_ ?_
     ·rw [bkB,cw,cl]
      rfl
     ·unfold JI
      simp! [it,i0,iw,i,Option.isSome_some]
    | none =>
     rw [cl] at i
     have wb:∀ y∈wds b,y∈V:=λy hy=>hw y (FU (by simp) hy)
     have lr:=Mh hV hk 9 (n:=8) b (mu:=mu) hr (by ext) (by ext) (lows low b (by simp)) wb
     have lr':CP 10 [.ref r,b,.int 8] mu=some (Dx (Co kn 8 b),mu):=lr
     have E:bkB kn (.tup [.str x,b]::ds)=match Co kn 8 b with
       | none=>false
       | some cs=>bkB (kn++[(x,cs)]) ds:=by
      rw [bkB,cw,cl]
      rfl
     cases cc:Co kn 8 b with
     | none =>
      rw [cc] at lr' E
      refine no (some .non) E ?_
      unfold JI
      simp! [it,i0,i1,iw,i,Option.isSome_none,lr',Dx,Kv,isN]
     | some cs =>
      rw [cc] at lr' E
      have sub:=Eg hk 8 b cs wb cc
      have hz:=Yu (mu:=mu) (v:=csD cs) hr (Hw x) (by rw [Af,AD];ext)
      have hr':=hr.put (x:=x) (cs:=cs) cl
      generalize hm:mu.set r (.dct (EF (.str x) (csD cs) (kn.map λp=>.str p.1) (kn.map λp=>csD p.2)).1 (EF (.str x) (csD cs) (kn.map λp=>.str p.1) (kn.map λp=>csD p.2)).2)=m1 at hz hr'
      obtain ⟨y3,y4,m',e,el,ek⟩:=Nd hV (sc:=sc) (th:=th) (m0:=m0) ds (kn++[(x,cs)]) m1 (some (.tup [.str x,b])) (some (csD cs)) hr' (hk.put sub) (by rw [Ai,List.length_singleton];rw [List.length_cons] at hl;ext) (λd hd'=>hd d (.tail _ hd'))
      have b1:JI [some sc,some th,some (.ref r),some (.tup [.str x,b]),x4] mu=some ((.nx,[some sc,some th,some (.ref r),some (.tup [.str x,b]),some (csD cs)]),m1):=by
       unfold JI
       have nn:isN (csD cs)=false:=rfl
       simp! [it,i0,i1,iw,i,Option.isSome_none,lr',Dx,Kv,nn,Uv,hz]
      refine ⟨y3,y4,m',?_,by rw [el,← hm,List.length_set],λj hj=>by rw [ek j hj,← hm,AB (Ne.symm hj)]⟩
      rw [E]
      dsimp only
      unfold EN
      rw [tg,CV,b1,CV]
      dsimp only
      rw [D9,if_pos (show gOk none m0 m1 from True.intro)]
      exact e
theorem NV {ts:List Tb}(H:SK ts){V:List Str}(hV:V.length≤2000)(hk:KnV V (CS ts))(hf:Flat mu){d:D}(hd:DW 0 d=true)(hw:∀ x∈wds d,x∈V):D4 [scD ts,d] mu=some (.bl (Gu ts d),mu):=by
 have it:=FP (mu:=mu) d 0 8 (Ds hd)
 have cut:∀ m:Sto,m.length=(mu++[MO.dct ((CS ts).map λp=>.str p.1) ((CS ts).map λp=>csD p.2)]).length->(∀ j,j≠mu.length->m[j]? = (mu++[MO.dct ((CS ts).map λp=>.str p.1) ((CS ts).map λp=>csD p.2)])[j]?)->∀ b:Bool,K5 mu m (.bl b)=some (.bl b,mu):=λm h1 h2 b=>by
  have e:m.take mu.length=mu:=by
   apply A7
   intro j
   by_cases hj:j<mu.length
   ·rw [Bs hj,h2 j (by ext),Aw hj]
   ·rw [BB (by rw [AQ];ext),BB (by ext)]
  have:=Jn (mu:=mu) (m:=m) (d:=.bl b) rfl (by rw [e];exact hf)
  rw [e] at this
  exact this
 have cut0:∀ b:Bool,K5 mu mu (.bl b)=some (.bl b,mu):=λb=>by
  have:=Jn (mu:=mu) (m:=mu) (d:=.bl b) rfl (by rw [List.take_length];exact hf)
  rw [List.take_length] at this
  exact this
 have by':=Qk (mu:=mu) H
 cases d with
 | tup ds =>
  by_cases c:ds.length≤8
  ·have tb:Di 0 8 (.tup ds)=true:=by simp [Di];ext
   rw [tb] at it
   have l4:=H.l4
   obtain ⟨y3,y4,m',e,el,ek⟩:=Nd hV (r:=mu.length) (sc:=scD ts) (th:=.tup ds) (m0:=mu++[MO.dct ((CS ts).map λp=>.str p.1) ((CS ts).map λp=>csD p.2)]) ds (CS ts) _ none none (show KnAt (mu++[MO.dct ((CS ts).map λp=>.str p.1) ((CS ts).map λp=>csD p.2)]) mu.length (CS ts) by unfold KnAt;simp) hk (by unfold CS;rw [Af];ext) (λd h=>⟨lows hd d h,λx hx=>hw x (FU h hx)⟩)
   unfold JI at e
   have E:Gu ts (.tup ds)=bkB (CS ts) ds:=by simp [Gu,c]
   rw [E]
   cases cb:bkB (CS ts) ds with
   | true =>
    rw [cb] at e
    simp! [D4,GX,it,by',e,cut m' el ek]
   | false =>
    rw [cb] at e
    simp! [D4,GX,it,by',e,cut m' el ek]
  ·have tb:Di 0 8 (.tup ds)=false:=by simp [Di];ext
   rw [tb] at it
   have E:Gu ts (.tup ds)=false:=by simp [Gu,c]
   rw [E]
   simp! [D4,GX,it,cut0]
 | ref k=>cases Ds hd
 | _ =>
  simp only [Di] at it
  simp! [D4,GX,it,Gu,cut0]
end PG
namespace PV
open PySem L2 PyProof.Rows K1
variable {mu:Sto}
theorem OP:∀ xs:List D,HS xs=true->(Hq xs xs).isSome=true
 | [],_=>rfl
 | x::xs,h=>by
  rw [HS,Ab] at h
  have p:=Hs h.1
  have ih:=OP xs h.2
  have e:PyData.eqv (toPy x) (toPy x)=true:=by rw [Hm h.1 h.1];simp
  rw [Hq,p,e]
  exact ih
theorem Pg {α β:Type}{f:α->β}{es m:List β}(h:es.Perm m):∀ {l:List α},m=l.map f->∃ l':List α,es=l'.map f∧l'.Perm l:=by
 induction h with
 | nil =>
  intro l e
  cases l with
  | nil=>exact ⟨[],rfl,.refl _⟩
  | cons a l=>cases e
 | cons x _ ih =>
  intro l e
  cases l with
  | nil=>cases e
  | cons a l =>
   injection e with e1 e2
   obtain ⟨l',e',p⟩:=ih e2
   exact ⟨a::l',by rw [e',e1];rfl,p.cons a⟩
 | swap x y m =>
  intro l e
  match l,e with
  | [],e=>cases e
  | [_],e=>cases e
  | a::b::l,e =>
   injection e with e1 e2
   injection e2 with e2 e3
   exact ⟨b::a::l,by rw [e1,e2,e3];rfl,.swap a b l⟩
 | trans _ _ ih1 ih2 =>
  intro l e
  obtain ⟨l2,e2,p2⟩:=ih2 e
  obtain ⟨l1,e1,p1⟩:=ih1 e2
  exact ⟨l1,e1,p1.trans p2⟩
theorem XJ {ds:List D}(ok:FF ds=true):MG [.tup ds] mu=some (.lst (Hb ds),mu):=by
 have e:MN [.tup ds] mu=some (.lst (Hb ds),mu):=by simp only [MN,Iz,SM,Hk,ok,if_true]
 unfold MG
 rw [e]
theorem Ia {xs ys:List D}(h:xs.length+ys.length≤sizeLine):CH (.tup xs) (.tup ys) mu=some (.tup (xs++ys),mu):=by
 simp only [CH,h,if_true]
theorem XQ {x:Str}{r:Nat}{ss:List Str}(h:mu[r]? = some (.lst (ss.map D.str))):inG (.str x) (.ref r) mu=some (.bl (decide (x∈ss)),mu):=by
 have e:inB mu (.str x) (.ref r)=some (decide (x∈ss)):=by
  have:=LM (mu:=mu) (x:=x) (ss:=ss) (s:=.lst (ss.map D.str)) (.inr rfl)
  simp only [inB,seen,h] at this ⊢
  exact this
 simp only [inG,inD,e,Option.map_some]
end PV
namespace PG
open PySem L2 PV PyProof.Rows K1
variable {mu:Sto}
theorem Qy (ss:List Str):G3 (ss.map D.str)=true:=by
 induction ss with
 | nil=>rfl
 | cons x xs ih=>simp [G3,G5,ih]
theorem M4 (cs:List (Str×List Str)):G3 (cs.map clD)=true:=by
 induction cs with
 | nil=>rfl
 | cons p cs ih=>simp [G3,G5,ih,clD,Qy]
theorem QI (t:Tb):G5 (tbD t)=true:=by simp [tbD,G5,G3,M4]
theorem Vg (cs:List (Str×List Str)):Lu (cs.map clD)≤3:=by
 induction cs with
 | nil=>simp [Lu]
 | cons p cs ih =>
  have:=MX p.2
  simp only [AO,Lu,clD,dpt]
  ext
theorem Y3 (t:Tb):tupS (tbD t)=true:=by
 have h:=Js (QI t)
 have h2:hsh (.tup (t.cs.map clD))=true:=Js (by simp [G5,M4])
 have p:EB (t.cs.map clD)=true:=by have:=Hs h2;simpa only [Dc] using this
 have d:=Kx h2
 have c:=Vg t.cs
 unfold tbD tupS
 dsimp only
 rw [Ab,Ad]
 refine ⟨by simp only [EB,p,Dc,Bd],?_⟩
 simp only [CT,PyData.depthAll]
 have e:dpt (.tup (t.cs.map clD))≤4:=by unfold dpt;ext
 have i:(toPy (.int (t.ks:Int))).depth≤1:=by simp [toPy,PyData.depth]
 ext
theorem Vy {ts:List Tb}(l:ts.length<64)(nd:(ts.map Tb.nm).Nodup):FF (ts.map tbD)=true:=by
 unfold FF Nf
 simp only [Ab,Ad,Af,Ao,Bool.or_eq_true]
 refine ⟨⟨⟨l,λd hd=>?_⟩,λd hd e he=>?_⟩,.inr λd hd=>?_⟩
 ·obtain ⟨t,_,rfl⟩:=Ak.mp hd
  exact QI t
 ·obtain ⟨t,ht,rfl⟩:=Ak.mp hd
  obtain ⟨u,hu,rfl⟩:=Ak.mp he
  by_cases c:t.nm=u.nm
  ·have:t=u:=by
    obtain ⟨i,hi⟩:=AS.mp ht
    obtain ⟨j,hj⟩:=AS.mp hu
    have e1:(ts.map Tb.nm)[i]? = some t.nm:=by rw [Av,hi];rfl
    have e2:(ts.map Tb.nm)[j]? = some t.nm:=by rw [Av,hj,c];rfl
    have il:=(Ah.mp e1).1
    have ij:=(List.getElem?_inj il nd).mp (e1.trans e2.symm)
    subst ij
    rw [hi] at hj
    exact AN hj
   subst this
   have h:=Js (QI t)
   unfold tbD at h ⊢
   unfold hsh at h
   exact OP _ h
  ·unfold tbD PV.ltB PV.Hq
   have e:PyData.eqv (toPy (.str t.nm)) (toPy (.str u.nm))=false:=by
    rw [Hm rfl rfl]
    simp [c]
   simp only [Dc,Bd,if_true,e,AG,AZ]
   rfl
 ·obtain ⟨t,_,rfl⟩:=Ak.mp hd
  exact Y3 t
noncomputable def nwT (x:Str)(cs:List Str):Tb:=⟨x,cs.map λc=>(c,["v"]),1⟩
theorem PY (x:Str)(cs:List Str):tcs (nwT x cs)=cs:=by
 unfold tcs nwT
 rw [As]
 exact List.map_id _
theorem Nr {ts:List Tb}{x:Str}{cs:List Str}(l:ts.length<60)(nd:((ts++[nwT x cs]).map Tb.nm).Nodup):∃ ts':List Tb,Ef [scD ts,.str x,csD cs] mu=some (scD ts',mu)∧ts'.Perm (ts++[nwT x cs]):=by
 have ok:=Vy (ts:=ts++[nwT x cs]) (by rw [Ai,List.length_singleton];ext) nd
 obtain ⟨ts',e,p⟩:=Pg (ET ((ts++[nwT x cs]).map tbD)) rfl
 have lc:=GD (m0:=mu) (tg:=gNm 0) (el:=(CL (B6 (B8 0) (B6 (CL (B6 (eC (.str "v")) Cb)) Cb)))) (ro:=[none]) (mu:=mu) (λd=>.tup [d,.tup [.str "v"]]) (cs.map D.str) (λd hd=>⟨[some d],rfl,by simp! []⟩)
 have em:(cs.map D.str).map (λd=>D.tup [d,.tup [.str "v"]])=(nwT x cs).cs.map clD:=by
  unfold nwT
  rw [As,As]
  rfl
 rw [em] at lc
 have za:CH (.tup (ts.map tbD)) (.tup [.tup [.str x,.tup ((nwT x cs).cs.map clD),.int 1]]) mu=some (.tup ((ts++[nwT x cs]).map tbD),mu):=by
  rw [Ia (by rw [Af,List.length_singleton,AD];ext),AK]
  rfl
 have st:=XJ (mu:=mu) ok
 rw [e] at st
 have tf:E9 [.lst (ts'.map tbD)] mu=some (.tup (ts'.map tbD),mu):=rfl
 have tf2:E9 [.lst ((nwT x cs).cs.map clD)] mu=some (.tup ((nwT x cs).cs.map clD),mu):=rfl
 refine ⟨ts',?_,p⟩
 unfold scD csD
 simp! [Ef,IH,lc,tf2,za,st,tf]
theorem RD {kn:Kn}(nd:(kn.map (·.1)).Nodup){x:Str}{cs:List Str}(h:(x,cs)∈kn):DN kn x=some cs:=by
 induction kn with
 | nil=>cases h
 | cons p r ih =>
  rw [AO,Bf] at nd
  rw [DN]
  rcases Am.mp h with h|h
  ·rw [← h,if_pos rfl]
  ·have:p.1≠x:=λe=>nd.1 (e▸Ak.mpr ⟨(x,cs),h,rfl⟩)
   rw [if_neg this]
   exact ih nd.2 h
theorem Nx {kn kn':Kn}(p:kn.Perm kn')(nd:(kn.map (·.1)).Nodup)(x:Str):DN kn x=DN kn' x:=by
 have nd':=(p.map (·.1)).nodup_iff.mp nd
 cases e:DN kn x with
 | some cs=>exact (RD nd' (p.mem_iff.mp (Jr e))).symm
 | none =>
  cases e':DN kn' x with
  | none=>rfl
  | some cs =>
   rw [RD nd (p.mem_iff.mpr (Jr e'))] at e
   cases e
theorem J0 {kn kn':Kn}(h:∀ x,DN kn x=DN kn' x):∀ n,Co kn n=Co kn' n
 | 0=>by funext d;rfl
 | n+1=>by
  have ih:=J0 h n
  have o:ofC kn=ofC kn':=by
   funext w b
   unfold ofC
   simp only [h]
  funext d
  unfold Co
  simp only [ih,o]
theorem LZ (kn:Kn)(x:Str):decide (x∈kn.map (·.1))=(DN kn x).isSome:=by
 rw [← Ku]
 have e:(kn.map λp=>D.str p.1)=(kn.map (·.1)).map D.str:=by rw [As];rfl
 rw [Bool.eq_iff_iff,Ad,Ad,e]
 refine ⟨λh=>Ak.mpr ⟨x,h,rfl⟩,λh=>?_⟩
 obtain ⟨y,h,z⟩:=Ak.mp h
 injection z with z
 rw [← z]
 exact h
def fBody:Sx:=(Cq (sIf (tO (tNt (tV (Gf "tuple" (B8 4)))) (tO (tV (Ce neD (Cd D5 (B6 (B8 4) Cb)) (eC (.int 2)))) (tO (tNt (tV (Gf "str" (Ce ixG (B8 4) (eC (.int 0)))))) (tV (Ce inG (Ce ixG (B8 4) (eC (.int 0))) (B8 3)))))) (sRt (eC (.bl false))) (sNx)) (Cq (CU (Cd (C0 10) (B6 (B8 2) (B6 (Ce ixG (B8 4) (eC (.int 1))) (B6 (eC (.int 8)) Cb)))) (gNm 5)) (Cq (sIf (tO (tNt (tV (Cd Dg (B6 (Ce ixG (B8 4) (eC (.int 0))) Cb)))) (tV (Ce isD (B8 5) (eC .non)))) (sRt (eC (.bl false))) (sNx)) (Cq (sEx (Oe (B8 3) (B6 (Ce ixG (B8 4) (eC (.int 0))) Cb))) (CU (Cd Ef (B6 (B8 2) (B6 (Ce ixG (B8 4) (eC (.int 0))) (B6 (B8 5) Cb)))) (gNm 2))))))
theorem Nn {V:List Str}(hV:V.length≤2000){r:Nat}{sc th:D}{m0:Sto}:∀ (ds:List D) (kn:Kn) (ts:List Tb) (mu:Sto) (x4 x5:Option D),mu[r]? = some (.lst ((kn.map (·.1)).map D.str))->(CS ts).Perm kn->(kn.map (·.1)).Nodup->(∀ t∈ts,IsW t.nm)->VV (CS ts)->KnV V (CS ts)->ts.length+ds.length≤50->(∀ d∈ds,okB 1002 d=true∧∀ x∈wds d,x∈V) ->
  ∃ y2 y4 y5 m',EN none m0 (gNm 4) fBody ds [some sc,some th,some (scD ts),some (.ref r),x4,x5] mu=some ((if bkB kn ds=true then .nx else .rt (.bl false),[some sc,some th,y2,some (.ref r),y4,y5]),m')∧m'.length=mu.length∧∀ j,j≠r->m'[j]? = mu[j]?
 | [],kn,ts,mu,x4,x5,_,_,_,_,_,_,_,_=>⟨some (scD ts),x4,x5,mu,rfl,rfl,λ_ _=>rfl⟩
 | d::ds,kn,ts,mu,x4,x5,hr,hp,hn,hnw,hko,hk,hl,hd=>by
  obtain ⟨okd,hw⟩:=hd d (.head _)
  have low:=Gg okd
  have it:=Rn (mu:=mu) d (Ds low)
  have tg:gNm 4 d [some sc,some th,some (scD ts),some (.ref r),x4,x5] mu=some ([some sc,some th,some (scD ts),some (.ref r),some d,x5],mu):=rfl
  have no:∀ y5,bkB kn (d::ds)=false->fBody [some sc,some th,some (scD ts),some (.ref r),some d,x5] mu=some ((.rt (.bl false),[some sc,some th,some (scD ts),some (.ref r),some d,y5]),mu) ->
    ∃ y2 y4 y5 m',EN none m0 (gNm 4) fBody (d::ds) [some sc,some th,some (scD ts),some (.ref r),x4,x5] mu=some ((if bkB kn (d::ds)=true then .nx else .rt (.bl false),[some sc,some th,y2,some (.ref r),y4,y5]),m')∧m'.length=mu.length∧∀ j,j≠r->m'[j]? = mu[j]?:=λy5 h1 h2=>by
   refine ⟨some (scD ts),some d,y5,mu,?_,rfl,λ_ _=>rfl⟩
   unfold EN
   rw [tg,CV,h2,CV,h1]
   rfl
  cases d with
  | tup es =>
   match es,okd,low,hw,it,tg,no,hd with
   | [],okd,low,hw,it,tg,no,hd =>
    refine no x5 (Mr λx l e=>by cases e) ?_
    unfold fBody
    simp! [it]
    rfl
   | [_],okd,low,hw,it,tg,no,hd =>
    refine no x5 (Mr λx l e=>by cases e) ?_
    unfold fBody
    simp! [it]
    rfl
   | _::_::_::es,okd,low,hw,it,tg,no,hd =>
    refine no x5 (Mr λx l e=>by cases e) ?_
    have c1:(!decide (((es.length+1+1+1:Nat):Int)=2))=true:=by simp;ext
    unfold fBody
    simp! [it,List.length_cons,c1]
   | [a,b],okd,low,hw,it,tg,no,hd =>
    have is:=Rc (mu:=mu) a (Ds (lows low a (by simp)))
    have i0:∀ m,ixG (.tup [a,b]) (.int 0) m=some (a,m):=λm=>Qv
    have i1:∀ m,ixG (.tup [a,b]) (.int 1) m=some (b,m):=λm=>QN
    have d2:(!decide (((2:Nat):Int)=2))=false:=rfl
    cases cs':K3 a with
    | false =>
     rw [cs'] at is
     refine no x5 (Mr λx l e=>by cases e;cases cs') ?_
     unfold fBody
     simp! [it,d2,i0,is]
    | true =>
     rw [cs'] at is
     obtain ⟨x,rfl⟩:∃ x,a=.str x:=by
      cases a with
      | str x=>exact ⟨x,rfl⟩
      | _=>cases cs'
     have i:=XQ (mu:=mu) (x:=x) hr
     rw [LZ] at i
     cases cl:DN kn x with
     | some cs =>
      rw [cl] at i
      refine no x5 ?_ ?_
      ·rw [bkB,cl]
       simp
      ·unfold fBody
       simp! [it,d2,i0,is,i,Option.isSome_some]
     | none =>
      rw [cl] at i
      have wb:∀ y∈wds b,y∈V:=λy hy=>hw y (FU (by simp) hy)
      have cg:=J0 (Nx hp ((hp.map (·.1)).nodup_iff.mpr hn)) 8
      have lr:=KR hnw hko hV hk 9 (n:=8) b (mu:=mu) (by ext) (by ext) (FV okd b (by simp)) wb
      rw [cg] at lr
      have lr':C0 10 [scD ts,b,.int 8] mu=some (Dx (Co kn 8 b),mu):=lr
      have iw:=IG (mu:=mu) (.str x) rfl
      cases cw:CN (.str x) with
      | false =>
       rw [cw] at iw
       refine no (some (Dx (Co kn 8 b))) ?_ ?_
       ·rw [bkB,cw]
        rfl
       ·unfold fBody
        simp! [it,d2,i0,i1,is,i,Option.isSome_none,lr',iw]
      | true =>
       rw [cw] at iw
       have E:bkB kn (.tup [.str x,b]::ds)=match Co kn 8 b with
         | none=>false
         | some cs=>bkB (kn++[(x,cs)]) ds:=by
        rw [bkB,cw,cl]
        rfl
       cases cc:Co kn 8 b with
       | none =>
        rw [cc] at lr' E
        refine no (some .non) E ?_
        unfold fBody
        simp! [it,d2,i0,i1,is,i,Option.isSome_none,lr',iw,Dx,Kv,isN]
       | some cs =>
        rw [cc] at lr' E
        have cc':Co (CS ts) 8 b=some cs:=by rw [cg];exact cc
        have sub:=Eg hk 8 b cs wb cc'
        have cok:=Jo hko 8 b cs cc'
        have xn:x∉kn.map (·.1):=λz=>by
         have:=LZ kn x
         rw [Bw z,cl] at this
         cases this
        have nmk:(CS ts).map (·.1)=ts.map Tb.nm:=by unfold CS;rw [As];rfl
        have tn:(ts.map Tb.nm).Perm (kn.map (·.1)):=by rw [← nmk];exact hp.map (·.1)
        have nd1:((ts++[nwT x cs]).map Tb.nm).Nodup:=by
         rw [AK]
         refine Bb.mpr ⟨tn.nodup_iff.mpr hn,by simp,λy hy z hz e=>?_⟩
         rw [List.map_singleton] at hz
         rw [Ag.mp hz] at e
         subst e
         exact xn (tn.mem_iff.mp hy)
        have ap:=append_at (mu:=mu) (mu':=mu) (r:=r) (y:=.str x) hr hr (by rw [Af,Af,AD];have:=hp.length_eq;unfold CS at this;rw [Af] at this;rw [List.length_cons] at hl;ext) (ro:=[some sc,some th,some (scD ts),some (.ref r),some (.tup [.str x,b]),some (csD cs)]) (i:=3) (e:=Ce ixG (B8 4) (eC (.int 0))) rfl (by simp! [i0])
        have es':(kn.map (·.1)).map D.str++[D.str x]=((kn++[(x,cs)]).map (·.1)).map D.str:=by simp
        rw [es'] at ap
        have hr':(mu.set r (.lst (((kn++[(x,cs)]).map (·.1)).map D.str)))[r]? = some (.lst (((kn++[(x,cs)]).map (·.1)).map D.str)):=Bn (Ah.mp hr).1
        generalize hm:mu.set r (.lst (((kn++[(x,cs)]).map (·.1)).map D.str))=m1 at ap hr'
        obtain ⟨ts',ek,pk⟩:=Nr (mu:=m1) (ts:=ts) (x:=x) (cs:=cs) (by rw [List.length_cons] at hl;ext) nd1
        have kp:(CS ts').Perm (CS ts++[(x,cs)]):=by
         have:=pk.map λt:Tb=>(t.nm,tcs t)
         rw [AK,List.map_singleton,PY] at this
         exact this
        obtain ⟨y2,y4,y5,m',e,el,ek'⟩:=Nn hV (r:=r) (sc:=sc) (th:=th) (m0:=m0) ds (kn++[(x,cs)]) ts' m1 (some (.tup [.str x,b])) (some (csD cs)) hr' (kp.trans (hp.append_right _))
         (by
          rw [AK]
          refine Bb.mpr ⟨hn,by simp,λy hy z hz e=>?_⟩
          rw [List.map_singleton] at hz
          rw [Ag.mp hz] at e
          subst e
          exact xn hy)
         (λt ht=>by
          rcases Aj.mp (pk.mem_iff.mp ht) with ht|ht
          ·exact hnw t ht
          ·rw [Ag.mp ht]
           exact De.mp cw)
         (λp hp'=>by
          rcases Aj.mp (kp.mem_iff.mp hp') with hp'|hp'
          ·exact hko p hp'
          ·rw [Ag.mp hp']
           exact cok)
         (λp hp'=>by
          rcases Aj.mp (kp.mem_iff.mp hp') with hp'|hp'
          ·exact hk p hp'
          ·rw [Ag.mp hp']
           exact sub)
         (by rw [pk.length_eq,Ai,List.length_singleton];rw [List.length_cons] at hl;ext) (λd hd'=>hd d (.tail _ hd'))
        have b1:fBody [some sc,some th,some (scD ts),some (.ref r),some (.tup [.str x,b]),x5] mu=some ((.nx,[some sc,some th,some (scD ts'),some (.ref r),some (.tup [.str x,b]),some (csD cs)]),m1):=by
         unfold fBody
         have nn:isN (csD cs)=false:=rfl
         simp! [it,d2,i0,i1,is,i,Option.isSome_none,lr',iw,Dx,Kv,nn,ap,ek]
        refine ⟨y2,y4,y5,m',?_,by rw [el,← hm,List.length_set],λj hj=>by rw [ek' j hj,← hm,AB (Ne.symm hj)]⟩
        rw [E]
        dsimp only
        unfold EN
        rw [tg,CV,b1,CV]
        dsimp only
        rw [D9,if_pos (show gOk none m0 m1 from True.intro)]
        exact e
  | ref k=>cases Ds low
  | _ =>
   refine no x5 (Mr λx l e=>by cases e) ?_
   unfold fBody
   simp! [it]
theorem O5 {m0:Sto}{tg:Gx}{el:Ex}{ro:Ro}(g:D->D):∀ (ds b:List D),(∀ d∈ds,∃ ro1,tg d ro mu=some (ro1,mu)∧el ro1 mu=some (g d,mu))->b.length+ds.length≤sizeLine->cGo none m0 tg tY (stL el) ro ds b mu=some (b++ds.map g,mu)
 | [],b,_,_=>by simp [cGo]
 | d::ds,b,h,hl=>by
  obtain ⟨ro1,e1,e2⟩:=h d (.head _)
  rw [List.length_cons] at hl
  have ih:=O5 (m0:=m0) (tg:=tg) (el:=el) (ro:=ro) g ds (b++[g d]) (λd' hd=>h d' (.tail _ hd)) (by rw [Ai,List.length_singleton];ext)
  have t:tY ro1 mu=some (true,mu):=rfl
  have e3:stL el b ro1 mu=some (b++[g d],mu):=by
   unfold stL
   rw [e2,CV,if_pos (by ext)]
  unfold cGo
  rw [e1,CV,t,CV,if_pos rfl,e3,CV,D9,if_pos (show gOk none m0 mu from True.intro),ih]
  simp
theorem Vl {ts:List Tb}(H:SK ts){V:List Str}(hV:V.length≤2000)(hk:KnV V (CS ts))(hf:Flat mu){d:D}(hd:okB 1002 d=true)(hw:∀ x∈wds d,x∈V):EL [scD ts,d] mu=some (.bl (Gu ts d),mu):=by
 have low:=Gg hd
 have it:=Rn (mu:=mu) d (Ds low)
 have nmk:(CS ts).map (·.1)=ts.map Tb.nm:=by unfold CS;rw [As];rfl
 have l4:=H.l4
 have cut:∀ m:Sto,m.length=(mu++[MO.lst (((CS ts).map (·.1)).map D.str)]).length->(∀ j,j≠mu.length->m[j]? = (mu++[MO.lst (((CS ts).map (·.1)).map D.str)])[j]?)->∀ b:Bool,K5 mu m (.bl b)=some (.bl b,mu):=λm h1 h2 b=>by
  have e:m.take mu.length=mu:=by
   apply A7
   intro j
   by_cases hj:j<mu.length
   ·rw [Bs hj,h2 j (by ext),Aw hj]
   ·rw [BB (by rw [AQ];ext),BB (by ext)]
  have:=Jn (mu:=mu) (m:=m) (d:=.bl b) rfl (by rw [e];exact hf)
  rw [e] at this
  exact this
 have cut0:∀ b:Bool,K5 mu mu (.bl b)=some (.bl b,mu):=λb=>by
  have:=Jn (mu:=mu) (m:=mu) (d:=.bl b) rfl (by rw [List.take_length];exact hf)
  rw [List.take_length] at this
  exact this
 cases d with
 | tup ds =>
  by_cases c:ds.length≤8
  ·have c1:decide ((ds.length:Int) > 8)=false:=by simp;ext
   have cg:=O5 (mu:=mu) (m0:=mu) (tg:=gNm 0) (el:=Ce ixG (B8 0) (eC (.int 0))) (ro:=[none]) DF (ts.map tbD) [] (λd hd=>by
    obtain ⟨t,_,rfl⟩:=Ak.mp hd
    exact ⟨_,rfl,by simp! [tbD,DF]⟩) (by rw [Af,AD];simp;ext)
   have e0:[]++(ts.map tbD).map DF=((CS ts).map (·.1)).map D.str:=by
    rw [nmk,List.nil_append,As,As]
    rfl
   rw [e0] at cg
   have co:∀ x2 x3 x4 x5:Option D,eCo (DJ (B8 0)) 1 [] (gNm 0) (tY) (stL (Ce ixG (B8 0) (eC (.int 0)))) [] RN [some (scD ts),some (.tup ds),x2,x3,x4,x5] mu=some (.ref mu.length,mu++[MO.lst (((CS ts).map (·.1)).map D.str)]):=λx2 x3 x4 x5=>by
    have iv:DJ (B8 0) [some (scD ts),some (.tup ds),x2,x3,x4,x5] mu=some ((ts.map tbD,none),mu):=rfl
    have r:r0 1 [] [some (scD ts),some (.tup ds),x2,x3,x4,x5]=[none]:=rfl
    unfold eCo
    rw [iv,CV]
    dsimp only
    rw [r,cg,CV]
    rfl
   obtain ⟨y2,y4,y5,m',e,el,ek⟩:=Nn hV (r:=mu.length) (sc:=scD ts) (th:=.tup ds) (m0:=mu++[MO.lst (((CS ts).map (·.1)).map D.str)]) ds (CS ts) ts (mu++[MO.lst (((CS ts).map (·.1)).map D.str)]) none none (by simp) (.refl _) (by rw [nmk];exact H.nd) (λt ht=>(H.ok t ht).nw) (Vx H) hk (by ext) (λd h=>⟨FV hd d h,λx hx=>hw x (FU h hx)⟩)
   unfold fBody at e
   have E:Gu ts (.tup ds)=bkB (CS ts) ds:=by simp [Gu,c]
   rw [E]
   cases cb:bkB (CS ts) ds with
   | true =>
    rw [cb] at e
    simp! [EL,F7,it,c1,co,e,cut m' el ek]
   | false =>
    rw [cb] at e
    simp! [EL,F7,it,c1,co,e,cut m' el ek]
  ·have c1:decide ((ds.length:Int) > 8)=true:=by simp;ext
   have E:Gu ts (.tup ds)=false:=by simp [Gu,c]
   rw [E]
   simp! [EL,F7,it,c1,cut0]
 | ref k=>cases Ds low
 | _=>simp! [EL,F7,it,Gu,cut0]
def Q6:Sx:=(Cq (CU (Cd (EI 10) (B6 (B8 0) (B6 (B8 4) (B6 (Ce CH (eC (.int 1)) (Cd Cp (B6 (B8 0) (B6 (eC (.int 3)) Cb)))) Cb)))) (gNm 7)) (Cq (CU (Cd (Dh 10) (B6 (B8 4) (B6 (B8 7) Cb))) (gNm 8)) (Cq (sIf (tV (Ce gtD (Cd D5 (B6 (B8 8) Cb)) (eC (.int 4)))) (NG 7 8 (B6 (CL (B6 (eC (.str "columns")) (B6 (B8 7) (B6 (eSl (B8 8) (pNo) (En (eC (.int 4)))) Cb)))) (B6 (eSl (B8 8) (pNo) (En (eC (.int 4)))) Cb))) (sNx)) (Cq (CU (Ce CH (B8 5) (CL (B6 (CL (B6 (B8 6) (B6 (B8 7) Cb))) Cb))) (gNm 5)) (CU (Cd Ef (B6 (B8 4) (B6 (B8 6) (B6 (B8 8) Cb)))) (gNm 4))))))
theorem ZS:IsW "v":=De.mp (by symm)
theorem Abx {x:Str}{cs:List Str}(hx:IsW x)(hc:KO cs)(l:cs.length≤4):TbK (nwT x cs):=by
 have c1:1≤cs.length:=List.length_pos_iff.mpr hc.ne
 refine ⟨⟨by unfold nwT;simpa using c1,by unfold nwT;simpa using l,Al _,by unfold nwT;simpa using c1,λp hp=>?_⟩,hx,λp hp=>?_,?_,λp hp y hy=>?_⟩
 ·obtain ⟨c,_,rfl⟩:=Ak.mp hp
  simp
 ·obtain ⟨c,h,rfl⟩:=Ak.mp hp
  exact hc.w c h
 ·have:=PY x cs
  unfold tcs at this
  rw [this]
  exact hc.nd
 ·obtain ⟨c,_,rfl⟩:=Ak.mp hp
  rw [Ag.mp hy]
  exact ZS
theorem VT {cs:List Str}(hc:KO cs):GH cs "columns" (csD (cs.take 4))=some (cs.take 4):=by
 have nr:¬ (Str.ofString "columns"=Str.ofString "rows"):=by symm
 have ne:cs.take 4≠[]:=λe=>by
  have:=congrArg List.length e
  have:=List.length_pos_iff.mpr hc.ne
  rw [AQ,List.length_nil] at *
  ext
 have sub:∀ x∈cs.take 4,x∈cs:=λx hx=>By hx
 have w:=Xy (hi:=cs.length) ne (by rw [AQ];ext) (hc.nd.sublist (List.take_sublist _ _)) (λx hx=>hc.w x (sub x hx))
 have al:((cs.take 4).all λx=>decide (x∈cs))=true:=by
  rw [Ao]
  intro x hx
  simpa using sub x hx
 simp only [GH,nr,AZ,if_true,Rr,w,al,Bd]
theorem UQ {kn:Kn}{n:Nat}{d:D}{cs:List Str}(e:Co kn n d=some cs)(co:KO cs):Co kn (n+1) (.tup [.str "columns",d,csD (cs.take 4)])=some (cs.take 4):=by
 have n1:¬ (Str.ofString "columns"=Str.ofString "of"):=by symm
 have n4:¬ (Str.ofString "columns"∈(["join","union","gap"]:List Str)):=by symm
 simp only [Co,n1,AZ,e,n4,VT co]
theorem Nm {V st:List Str}(hcv:∀ x∈cns,x∈V)(hs6:st.length≤6)(hsv:Str.ofString "v"∈st)(hsV:∀ x∈st,x∈V){kn0:Kn}{k n:Nat}{sc many wd:D}{m0:Sto}:∀ (us:List Str) (ts:List Tb) (kn:Kn) (bs:List D) (mu:Sto) (x6 x7 x8:Option D),us.Nodup->(∀ u∈us,IsW u∧u∈V∧u∉kn.map (·.1))->SK ts->ts.length+us.length≤12->(∀ t∈ts,∀ p∈t.cs,∀ x∈p.2,x∈st)->(∀ t∈ts,t.nm∈V∧∀ p∈t.cs,p.1∈V)->(CS ts).Perm kn->(kn.map (·.1)).Nodup->(∀ tail,bkB kn0 (bs++tail)=bkB kn tail)->(∀ d∈bs,okB 1000 d=true∧∀ x∈wds d,x∈V)->bs.length+us.length≤20->Flat mu->HandOk mu k (n+600*us.length) ->
  ∃ y4 y6 y7 y8 bs' m',EN none m0 (gNm 6) Q6 (us.map D.str) [some (.ref k),some sc,some many,some wd,some (scD ts),some (.tup bs),x6,x7,x8] mu=some ((.nx,[some (.ref k),some sc,some many,some wd,y4,some (.tup bs'),y6,y7,y8]),m')∧Fr k n mu m'∧bkB kn0 bs'=true∧bs'.length≤bs.length+us.length∧∀ d∈bs',okB 1000 d=true∧∀ x∈wds d,x∈V
 | [],ts,kn,bs,mu,x6,x7,x8,_,_,_,_,_,_,_,_,hpre,hbs,_,_,hh=>by
  refine ⟨some (scD ts),x6,x7,x8,bs,mu,rfl,.refl (hh.mono (by simp)),?_,by simp,hbs⟩
  have:=hpre []
  rw [BE] at this
  rw [this]
  rfl
 | u::us,ts,kn,bs,mu,x6,x7,x8,hnd,hus,hsk,hl,hvs,htv,hp,hn,hpre,hbs,hbl,hfl,hh=>by
  rw [List.length_cons] at hl hbl hh
  obtain ⟨uw,uV,un⟩:=hus u (.head _)
  have S:Sch V ts:=⟨hsk,⟨st,hs6,hvs,hsV⟩,hcv,htv⟩
  obtain ⟨_,m1,e1,f1,t1,rfl,a0,a1⟩:=Dy (mu:=mu) (k:=k) (m:=3) (n:=n+600*us.length+599) (hh.mono (by ext)) (by decide) (by decide)
  obtain ⟨deep,hq,d1,d3⟩:∃ deep:Nat,(1:Int)+t1=deep∧1≤deep∧deep≤3:=⟨(1+t1).toNat,by ext,by ext,by ext⟩
  have p3:20*3 ^ deep≤540:=by
   have:=Nat.pow_le_pow_right (n:=3) (by decide) d3
   ext
  have fl1:=f1.flat hfl
  obtain ⟨l,m2,e2,f2,gl⟩:=Lh S (k:=k) 10 (n:=n+600*us.length) (deep:=deep) d1 (by ext) (by ext) fl1 (f1.hand.mono (by ext))
  obtain ⟨cs,ec⟩:=gl.cs
  have d4:dB deep≤4:=by unfold dB;split<;>ext
  have lc:=HB hsk 10 (n:=dB deep) (mu:=m2) (by ext) (by ext) ec
  have co:=Jo (Vx hsk) _ _ _ ec
  have csv:=(Eg S.knv _ _ _ gl.wv ec).2
  have cg:=J0 (Nx hp ((hp.map (·.1)).nodup_iff.mpr hn)) 8
  have ul:DN kn u=none:=by
   cases e:DN kn u with
   | none=>rfl
   | some z=>exact absurd (Ak.mpr ⟨_,Jr e,rfl⟩) un
  have nmk:(CS ts).map (·.1)=ts.map Tb.nm:=by unfold CS;rw [As];rfl
  have tn:(ts.map Tb.nm).Perm (kn.map (·.1)):=by rw [← nmk];exact hp.map (·.1)
  obtain ⟨l',cs',eb,e8,co',cl',okl,wvl,csv'⟩:∃ l' cs',(sIf (tV (Ce gtD (Cd D5 (B6 (B8 8) Cb)) (eC (.int 4)))) (NG 7 8 (B6 (CL (B6 (eC (.str "columns")) (B6 (B8 7) (B6 (eSl (B8 8) (pNo) (En (eC (.int 4)))) Cb)))) (B6 (eSl (B8 8) (pNo) (En (eC (.int 4)))) Cb))) (sNx)) [some (.ref k),some sc,some many,some wd,some (scD ts),some (.tup bs),some (.str u),some l,some (csD cs)] m2=some ((.nx,[some (.ref k),some sc,some many,some wd,some (scD ts),some (.tup bs),some (.str u),some l',some (csD cs')]),m2)∧Co (CS ts) 8 l'=some cs'∧KO cs'∧cs'.length≤4∧okB 1000 l'=true∧(∀ x∈wds l',x∈V)∧∀ x∈cs',x∈V:=by
   by_cases c:cs.length≤4
   ·refine ⟨l,cs,?_,Kc ec (by ext),co,c,gl.ok,gl.wv,csv⟩
    have c1:decide ((cs.length:Int) > 4)=false:=by simp;ext
    simp! [ND,c1]
   ·have sub:∀ x∈cs.take 4,x∈cs:=λx hx=>By hx
    refine ⟨.tup [.str "columns",l,csD (cs.take 4)],cs.take 4,?_,?_,⟨λx hx=>co.w x (sub x hx),?_,co.nd.sublist (List.take_sublist _ _)⟩,by rw [AQ];ext,ok3 gl.ok ?_,wd3 (hcv _ (by symm)) gl.wv (Vh λx hx=>csv x (sub x hx)),λx hx=>csv x (sub x hx)⟩
    ·have c1:decide ((cs.length:Int) > 4)=true:=by simp;ext
     have ct:cutD (cs.map D.str) none (some 4)=(cs.take 4).map D.str:=by
      have:=IK (xs:=cs.map D.str) (j:=4) (by rw [Af];ext)
      rw [List.map_take]
      exact this
     have zl:=ND (mu:=m2) (cs:=cs)
     unfold csD at zl ⊢
     simp! [zl,c1,ct]
    ·refine Kc (n:=5) ?_ (by ext)
     exact UQ (Kc ec (m:=4) (by ext)) co
    ·intro e
     have:=congrArg List.length e
     rw [AQ,List.length_nil] at this
     ext
    ·simp only [csD,okB,OL,Bl,Ad,Af,AQ]
     ext
  have nd1:((ts++[nwT u cs']).map Tb.nm).Nodup:=by
   rw [AK]
   refine Bb.mpr ⟨tn.nodup_iff.mpr hn,by simp,λy hy z hz e=>?_⟩
   rw [List.map_singleton] at hz
   rw [Ag.mp hz] at e
   subst e
   exact un (tn.mem_iff.mp hy)
  obtain ⟨ts',ek,pk⟩:=Nr (mu:=m2) (ts:=ts) (x:=u) (cs:=cs') (by ext) nd1
  have kp:(CS ts').Perm (CS ts++[(u,cs')]):=by
   have:=pk.map λt:Tb=>(t.nm,tcs t)
   rw [AK,List.map_singleton,PY] at this
   exact this
  have tm:∀ t∈ts',t∈ts∨t=nwT u cs':=λt ht=>by
   rcases Aj.mp (pk.mem_iff.mp ht) with h|h
   ·exact .inl h
   ·exact .inr (Ag.mp h)
  have e8':Co kn 8 l'=some cs':=by rw [← cg];exact e8
  have wu:CN (.str u)=true:=De.mpr uw
  obtain ⟨y4,y6,y7,y8,bs',m',e,fr,r1,r2,r3⟩:=Nm hcv hs6 hsv hsV (kn0:=kn0) (k:=k) (n:=n) (sc:=sc) (many:=many) (wd:=wd) (m0:=m0) us ts' (kn++[(u,cs')]) (bs++[.tup [.str u,l']]) m2 (some (.str u)) (some l') (some (csD cs')) (Bf.mp hnd).2
   (λv hv=>by
    obtain ⟨a,b,c⟩:=hus v (.tail _ hv)
    refine ⟨a,b,λz=>?_⟩
    rw [AK] at z
    rcases Aj.mp z with z|z
    ·exact c z
    ·rw [List.map_singleton,Ag] at z
     rw [z] at hv
     exact (Bf.mp hnd).1 hv)
   ⟨by rw [pk.length_eq,Ai,List.length_singleton];ext,by rw [pk.length_eq,Ai,List.length_singleton];ext,λt ht=>by
    rcases tm t ht with h|rfl
    ·exact hsk.ok t h
    ·exact Abx uw co' cl',(pk.map Tb.nm).nodup_iff.mpr nd1⟩
   (by rw [pk.length_eq,Ai,List.length_singleton];ext)
   (λt ht p hp' x hx=>by
    rcases tm t ht with h|rfl
    ·exact hvs t h p hp' x hx
    ·obtain ⟨c,_,rfl⟩:=Ak.mp hp'
     rw [Ag.mp hx]
     exact hsv)
   (λt ht=>by
    rcases tm t ht with h|rfl
    ·exact htv t h
    ·refine ⟨uV,λp hp'=>?_⟩
     obtain ⟨c,hc,rfl⟩:=Ak.mp hp'
     exact csv' c hc)
   (kp.trans (hp.append_right _))
   (by
    rw [AK]
    refine Bb.mpr ⟨hn,by simp,λy hy z hz e=>?_⟩
    rw [List.map_singleton] at hz
    rw [Ag.mp hz] at e
    subst e
    exact un hy)
   (λtail=>by
    rw [List.append_assoc,hpre]
    show bkB kn (.tup [.str u,l']::tail)=_
    rw [bkB,wu,ul,e8']
    rfl)
   (λd hd=>by
    rcases Aj.mp hd with h|h
    ·exact hbs d h
    ·rw [Ag.mp h]
     refine ⟨by simp only [okB,Ij,okl,List.length_cons,List.length_nil,Bl,Bd];rfl,λx hx=>?_⟩
     simp only [wds,JD,BE,List.cons_append,List.nil_append,Am] at hx
     rcases hx with rfl|hx
     ·exact uV
     ·exact wvl x hx)
   (by rw [Ai,List.length_singleton];ext) (f2.flat fl1) f2.hand
  refine ⟨y4,y6,y7,y8,bs',m',?_,(f1.trans f2).trans fr,r1,by rw [Ai,List.length_singleton] at r2;rw [List.length_cons];ext,r3⟩
  have tg:gNm 6 (.str u) [some (.ref k),some sc,some many,some wd,some (scD ts),some (.tup bs),x6,x7,x8] mu=some ([some (.ref k),some sc,some many,some wd,some (scD ts),some (.tup bs),some (.str u),x7,x8],mu):=rfl
  have za:CH (.tup bs) (.tup [.tup [.str u,l']]) m2=some (.tup (bs++[.tup [.str u,l']]),m2):=Ia (by rw [List.length_singleton,AD];ext)
  have b1:Q6 [some (.ref k),some sc,some many,some wd,some (scD ts),some (.tup bs),some (.str u),x7,x8] mu=some ((.nx,[some (.ref k),some sc,some many,some wd,some (scD ts'),some (.tup (bs++[.tup [.str u,l']])),some (.str u),some l',some (csD cs')]),m2):=by
   unfold Q6
   generalize hB:(sIf (tV (Ce gtD (Cd D5 (B6 (B8 8) Cb)) (eC (.int 4)))) (NG 7 8 (B6 (CL (B6 (eC (.str "columns")) (B6 (B8 7) (B6 (eSl (B8 8) (pNo) (En (eC (.int 4)))) Cb)))) (B6 (eSl (B8 8) (pNo) (En (eC (.int 4)))) Cb))) (sNx))=B at eb
   simp! [e1,hq,e2,lc,eb,za,ek]
  rw [AO]
  unfold EN
  rw [tg,CV,b1,CV]
  dsimp only
  rw [D9,if_pos (show gOk none m0 m2 from True.intro)]
  exact e
noncomputable def exs:List Str:=["","A","nobody","y1"]
structure Uni (V:List Str) (ts:List Tb):Prop where
 len:V.length≤100
 cv:∀ x∈cns,x∈V
 ev:∀ x∈exs,x∈V
 tv:∀ t∈ts,t.nm∈V∧∀ p∈t.cs,p.1∈V
theorem Zx {x:Str}{ss:List Str}:G7 (.str x) (.lst (ss.map D.str)) mu=some (.bl (!decide (x∈ss)),mu):=by simp only [G7,SY,LM (.inr rfl),Option.map_some]
theorem Ss {m0:Sto}(ts:List Tb):FN none m0 (gNm 0) tY (Ce ixG (B8 0) (eC (.int 0))) [none] (ts.map tbD) mu=some ((ts.map Tb.nm).map D.str,mu):=by
 have:=GD (m0:=m0) (tg:=gNm 0) (el:=(Ce ixG (B8 0) (eC (.int 0)))) (ro:=[none]) (mu:=mu) DF (ts.map tbD) (λd hd=>by
  obtain ⟨t,_,rfl⟩:=Ak.mp hd
  refine ⟨_,rfl,?_⟩
  simp! [tbD,DF])
 rw [this,As,As]
 rfl
theorem Tv {ts:List Tb}(H:SK ts)(l3:ts.length≤4){st:List Str}(hs5:st.length≤5)(hvs:∀ t∈ts,∀ p∈t.cs,∀ x∈p.2,x∈st){k n many:Nat}(hm:many≤8)(hfl:Flat mu)(h:HandOk mu k (n+5000)):Run (F6 [.ref k,scD ts,.int many] mu) k n mu λd=>∃ bs V,d=.tup bs∧Uni V ts∧bs.length≤8∧bkB (CS ts) bs=true∧∀ d∈bs,okB 1000 d=true∧∀ x∈wds d,x∈V:=by
 obtain ⟨_,m1,e1,f1,ws,rfl,wl,wn,ww⟩:=Jl (mu:=mu) (k:=k) (many:=(many:Int)+5) (n:=n+4900) (by ext) (by ext) (h.mono (by ext))
 have e1':DZ [.ref k,.int ((many:Int)+5),.int 8] mu=some (.lst (ws.map D.str),m1):=e1
 have lp:=Jq (m0:=m1) (tg:=gNm 0) (tt:=(tV (Ce G7 (B8 0) (eLC (DJ (B8 1)) 1 [] (gNm 0) (tY) (Ce ixG (B8 0) (eC (.int 0))))))) (el:=B8 0) (ro:=[none,some (scD ts)]) (mu:=m1) (λd=>match d with|.str x=>!decide (x∈ts.map Tb.nm)|_=>false) id (ws.map D.str) (λd hd=>by
  obtain ⟨x,_,rfl⟩:=Ak.mp hd
  refine ⟨_,rfl,?_,λ_=>rfl⟩
  have nr:=Ss (mu:=m1) (m0:=m1) ts
  unfold scD
  simp! [nr,Zx])
 have ef:((ws.map D.str).filter (λd=>match d with|.str x=>!decide (x∈ts.map Tb.nm)|_=>false)).map id=(ws.filter λx=>!decide (x∈ts.map Tb.nm)).map D.str:=by
  rw [List.map_id,List.filter_map]
  rfl
 rw [ef] at lp
 generalize hu:(ws.filter λx=>!decide (x∈ts.map Tb.nm))=us0 at lp
 have u0:∀ u∈us0,u∈ws∧u∉ts.map Tb.nm:=λu hu'=>by
  rw [← hu] at hu'
  obtain ⟨a,b⟩:=BD.mp hu'
  exact ⟨a,by simpa using b⟩
 have un:us0.Nodup:=by rw [← hu];exact wn.filter _
 have ct:PV.cutD (us0.map D.str) none (some (many:Int))=(us0.take many).map D.str:=by
  by_cases c:many≤us0.length
  ·rw [IK (by rw [Af];exact c),List.map_take]
  ·rw [B4 (by ext)]
   unfold PV.cutD
   simp only [HT.sIx,Af]
   rw [if_neg (by ext)]
   rw [B4 (by simp;ext)]
   simp
 have nmk:(CS ts).map (·.1)=ts.map Tb.nm:=by unfold CS;rw [As];rfl
 have ul:(us0.take many).length≤many:=by rw [AQ];ext
 have V0:Uni (cns++exs++ts.map Tb.nm++(ts.map tcs).flatten++(st++[Str.ofString "v"])++ws) ts:=by
  refine ⟨?_,λx hx=>by simp [hx],λx hx=>by simp [hx],λt ht=>⟨?_,λp hp=>?_⟩⟩
  ·have fl:∀ us:List Tb,(∀ t∈us,TbK t)->((us.map tcs).flatten).length≤4*us.length:=by
    intro us
    induction us with
    | nil=>simp
    | cons u us ih =>
     intro hk
     have:=ih λt ht=>hk t (.tail _ ht)
     have c4:=(hk u (.head _)).ok.c4
     rw [AO,List.flatten_cons,Ai,List.length_cons]
     have:(tcs u).length=u.cs.length:=by unfold tcs;rw [Af]
     ext
   have:=fl ts H.ok
   have c1:cns.length=16:=rfl
   have c2:exs.length=4:=rfl
   simp only [Ai,Af,List.length_cons,List.length_nil,c1,c2] at *
   ext
  ·have:t.nm∈ts.map Tb.nm:=Ak.mpr ⟨t,ht,rfl⟩
   simp only [Aj,this,or_true,true_or]
  ·have:p.1∈(ts.map tcs).flatten:=List.mem_flatten.mpr ⟨tcs t,Ak.mpr ⟨t,ht,rfl⟩,Ak.mpr ⟨p,hp,rfl⟩⟩
   simp only [Aj,this,or_true,true_or]
 have wV:∀ x∈ws,x∈cns++exs++ts.map Tb.nm++(ts.map tcs).flatten++(st++[Str.ofString "v"])++ws:=λx hx=>by simp only [Aj,hx,or_true]
 have sV:∀ x∈st++[Str.ofString "v"],x∈cns++exs++ts.map Tb.nm++(ts.map tcs).flatten++(st++[Str.ofString "v"])++ws:=λx hx=>by rw [Aj];left;rw [Aj];right;exact hx
 generalize cns++exs++ts.map Tb.nm++(ts.map tcs).flatten++(st++[Str.ofString "v"])++ws=V at V0 wV sV
 obtain ⟨y4,y6,y7,y8,bs,m2,e2,f2,r1,r2,r3⟩:=Nm (V:=V) (st:=st++[Str.ofString "v"]) V0.cv (by rw [Ai,List.length_singleton];ext) (by simp) sV (kn0:=CS ts) (k:=k) (n:=n) (sc:=scD ts) (many:=.int many) (wd:=.lst (us0.map D.str)) (m0:=m1) (us0.take many) ts (CS ts) [] m1 none none none (un.sublist (List.take_sublist _ _)) (λu hu'=>by
   obtain ⟨a,b⟩:=u0 u (By hu')
   exact ⟨ww u a,wV u a,by rw [nmk];exact b⟩) H (by ext) (λt ht p hp x hx=>Bc _ (hvs t ht p hp x hx)) V0.tv (.refl _) (by rw [nmk];exact H.nd) (λtail=>rfl) (λ_ h=>nomatch h) (by rw [List.length_nil];ext) (f1.flat hfl) (f1.hand.mono (by ext))
 refine ⟨.tup bs,m2,?_,f1.trans f2,bs,V,rfl,V0,by rw [List.length_nil] at r2;ext,r1,r3⟩
 unfold Q6 at e2
 simp! [F6,JR,e1',lp,ct,e2]
end PG
namespace PV
open PySem L2 PyProof.Rows K1
variable {mu:Sto}
theorem AaL {ds:List D}:WT (.tup ds) mu=some (.tup ds.reverse,mu):=rfl
end PV
namespace PG
open PySem L2 PV PyProof.Rows K1
variable {mu:Sto}
theorem okT {n:Nat}{ds:List D}(l:ds.length≤n)(h:∀ d∈ds,okB n d=true):okB n (.tup ds)=true:=by
 rw [okB,G6.mpr h,Bl,Ad]
 exact l
theorem J2 {V:List Str}{ds:List D}(h:∀ d∈ds,∀ x∈wds d,x∈V):∀ x∈wds (.tup ds),x∈V:=λx hx=>by
 rw [wds] at hx
 obtain ⟨d,hd,hx⟩:=ID.mp hx
 exact h d hd x hx
theorem NU {V:List Str}{ts:List Tb}(H:SK ts)(U:Uni V ts){k n:Nat}(h:HandOk mu k (n+1)):Run (G0 [.ref k,scD ts] mu) k n mu λd=>okB 1000 d=true∧∀ x∈wds d,x∈V:=by
 obtain ⟨t,r,rfl⟩:∃ t r,ts=t::r:=by
  cases ts with
  | nil=>have:=H.l1;simp at this
  | cons t r=>exact ⟨t,r,rfl⟩
 have sc:scD (t::r)=.tup (.tup [.str t.nm,.tup (t.cs.map clD),.int t.ks]::r.map tbD):=rfl
 have tV:=(U.tv t (.head _)).1
 obtain ⟨d,m',e,fr,hd⟩:=pick_run (mu:=mu) (s:=.lst [.non,.bl true,.int 0,.str "",.str "of",.str t.nm,.str "A",.tup [],.tup [.str "of",.str t.nm],.tup [.str "of",.str "nobody"],.lst [],.dct [] [],.tup [.str t.nm]]) (n:=n) (.inl rfl) (by simp) (by simp) h
 refine ⟨d,m',?_,fr,?_,?_⟩
 ·rw [sc]
  simp! [G0,Kz,e]
 ·have:Ij 1000 [.non,.bl true,.int 0,.str "",.str "of",.str t.nm,.str "A",.tup [],.tup [.str "of",.str t.nm],.tup [.str "of",.str "nobody"],.lst [],.dct [] [],.tup [.str t.nm]]=true:=by
   simp only [Ij,okB,List.length_cons,List.length_nil]
   rfl
  exact G6.mp this d hd
 ·have all:∀ x∈JD [.non,.bl true,.int 0,.str "",.str "of",.str t.nm,.str "A",.tup [],.tup [.str "of",.str t.nm],.tup [.str "of",.str "nobody"],.lst [],.dct [] [],.tup [.str t.nm]],x∈V:=by
   intro x hx
   simp only [JD,wds,List.nil_append,BE,List.cons_append,Am,AE,Bk] at hx
   have h1:Str.ofString ""∈V:=U.ev _ (by symm)
   have h2:Str.ofString "of"∈V:=U.cv _ (by symm)
   have h3:Str.ofString "A"∈V:=U.ev _ (by symm)
   have h4:Str.ofString "nobody"∈V:=U.ev _ (by symm)
   rcases hx with rfl|rfl|rfl|rfl|rfl|rfl|rfl|rfl|rfl
   ·exact h1
   ·exact h2
   ·exact tV
   ·exact h3
   ·exact h2
   ·exact tV
   ·exact h2
   ·exact h4
   ·exact tV
  exact λx hx=>all x (ID.mpr ⟨d,hd,hx⟩)
theorem Rx {V:List Str}{ts:List Tb}(H:SK ts)(U:Uni V ts){k:Nat}:∀ (f:Nat) {n deep:Nat} {mu:Sto} {d:D},deep≤f->Flat mu->HandOk mu k (n+5*(f+1))->okB 1000 d=true->(∀ x∈wds d,x∈V)->Run (CJ (f+1) [.ref k,scD ts,d,.int deep] mu) k n mu λz=>okB 1001 z=true∧∀ x∈wds z,x∈V
 | f,n,deep,mu,d,hf,fl,h,ok,hw=>by
  have u:∀ d,okB 1000 d=true->okB 1001 d=true:=λd h=>Io (by decide) h
  obtain ⟨od,mo,eo,fo,ho⟩:=NU H U (mu:=mu) (n:=n) (h.mono (by ext))
  cases d with
  | tup ds =>
   have ok1:=Io (m:=1001) (by decide) ok
   have okm:=FV ok1
   have hl:ds.length≤1000:=by
    rw [okB,Ab,Ad] at ok
    exact ok.1
   have dw:∀ d∈ds,∀ x∈wds d,x∈V:=λd hd x hx=>hw x (FU hd hx)
   by_cases c0:(ds.length:Int)=0
   ·refine ⟨od,mo,?_,fo,u _ ho.1,ho.2⟩
    simp! [CJ,Dw,c0,eo]
   by_cases c1:(deep:Int)=0
   ·refine ⟨od,mo,?_,fo,u _ ho.1,ho.2⟩
    simp! [CJ,Dw,c0,c1,eo]
   obtain ⟨_,m1,e1,f1,t1,rfl,a0,a1⟩:=Dy (m:=7) (n:=n+5*f+4) (h.mono (by ext)) (by decide) (by decide)
   by_cases c2:t1=0
   ·obtain ⟨od,mo,eo,fo,ho⟩:=NU H U (mu:=m1) (n:=n) (f1.hand.mono (by ext))
    refine ⟨od,mo,?_,f1.trans fo,u _ ho.1,ho.2⟩
    simp! [CJ,Dw,c0,c1,e1,c2,eo]
   obtain ⟨_,m2,e2,f2,at',rfl,b0,b1⟩:=Dy (m:=ds.length) (n:=n+5*f+3) f1.hand (by ext) (by ext)
   obtain ⟨i,rfl⟩:∃ i:Nat,at'=(i:Int):=⟨at'.toNat,by ext⟩
   have il:i<ds.length:=by ext
   obtain ⟨_,m3,e3,f3,way,rfl,w0,w1⟩:=Dy (m:=9) (n:=n+5*f+2) f2.hand (by decide) (by decide)
   have fr:=(f1.trans f2).trans f3
   have i1:(i:Int)+1=((i+1:Nat):Int):=by ext
   have ct0:=IK (xs:=ds) (j:=i) (by ext)
   have ct1:=IK (xs:=ds) (j:=i+1) (by ext)
   have cf0:=LS (xs:=ds) (j:=i) (by ext)
   have cf1:=LS (xs:=ds) (j:=i+1) (by ext)
   have tl:∀ j,(ds.take j).length≤ds.length:=λj=>by rw [AQ];ext
   have dl:∀ j,(ds.drop j).length≤ds.length:=λj=>by rw [BH];ext
   have tm:∀ j,∀ d∈ds.take j,okB 1001 d=true:=λj d hd=>okm d (By hd)
   have dm:∀ j,∀ d∈ds.drop j,okB 1001 d=true:=λj d hd=>okm d (List.mem_of_mem_drop hd)
   by_cases c3:way=0
   ·refine ⟨.tup (ds.take i++ds.drop (i+1)),m3,?_,fr.mono (by ext),okT (by rw [Ai,AQ,BH];ext) λd hd=>(Aj.mp hd).elim (tm _ d) (dm _ d),J2 λd hd=>dw d ((Aj.mp hd).elim By List.mem_of_mem_drop)⟩
    have za:CH (.tup (ds.take i)) (.tup (ds.drop (i+1))) m3=some (.tup (ds.take i++ds.drop (i+1)),m3):=Ia (by rw [AD];have:=tl i;have:=dl (i+1);ext)
    simp! [CJ,Dw,c0,c1,e1,c2,e2,e3,c3,i1,ct0,cf1,za]
   by_cases c4:way=1
   ·refine ⟨.tup (ds.take (i+1)++ds.drop i),m3,?_,fr.mono (by ext),okT (by rw [Ai,AQ,BH];ext) λd hd=>(Aj.mp hd).elim (tm _ d) (dm _ d),J2 λd hd=>dw d ((Aj.mp hd).elim By List.mem_of_mem_drop)⟩
    have za:CH (.tup (ds.take (i+1))) (.tup (ds.drop i)) m3=some (.tup (ds.take (i+1)++ds.drop i),m3):=Ia (by rw [AD];have:=tl (i+1);have:=dl i;ext)
    simp! [CJ,Dw,c0,c1,e1,c2,e2,e3,c3,c4,Int.reduceEq,i1,ct1,cf0,za]
   by_cases c5:way=2
   ·obtain ⟨od,mo,eo,fo,ho⟩:=NU H U (mu:=m3) (n:=n+1) (f3.hand.mono (by ext))
    obtain ⟨_,m4,e4,f4,t4,rfl,d0,d1⟩:=Dy (m:=3) (n:=n) fo.hand (by decide) (by decide)
    obtain ⟨x,hx,ex⟩:=TY (ds:=[.lst ds,.tup ds.reverse,.tup (ds++[od])]) d0 (by simpa using d1)
    have ix:=Nw (mu:=m4) (.lst [.lst ds,.tup ds.reverse,.tup (ds++[od])]) (.inl rfl) d0 ex
    have za:CH (.tup ds) (.tup [od]) mo=some (.tup (ds++[od]),mo):=Ia (by rw [AD];simp;ext)
    refine ⟨x,m4,?_,(fr.trans fo).trans f4,?_⟩
    ·simp! [CJ,Dw,c0,c1,e1,c2,e2,e3,c3,c4,c5,Int.reduceEq,AaL,eo,za,e4,ix]
    ·simp only [Am,AE,Bk] at hx
     rcases hx with rfl|rfl|rfl
     ·refine ⟨?_,λx hx=>hw x (by simpa only [wds] using hx)⟩
      rw [okB]
      exact G6.mpr okm
     ·exact ⟨okT (by rw [List.length_reverse];ext) λd hd=>okm d (List.mem_reverse.mp hd),J2 λd hd=>dw d (List.mem_reverse.mp hd)⟩
     ·exact ⟨okT (by rw [Ai,List.length_singleton];ext) λd hd=>(Aj.mp hd).elim (okm d) λh=>by rw [Ag.mp h];exact u _ ho.1,J2 λd hd=>(Aj.mp hd).elim (dw d) λh=>by rw [Ag.mp h];exact ho.2⟩
   ·have ey:ds[i]? = some ds[i]:=Au il
    have ix:=Nw (mu:=m3) (t:=(i:Int)) (.tup ds) (.inr rfl) (by ext) (by rw [Int.toNat_natCast];exact ey)
    have hy:ds[i]∈ds:=BQ il
    generalize ds[i]=y at ey ix hy
    match f,hf with
    | 0,hf=>ext
    | g+1,hf =>
     obtain ⟨z,m4,e4,f4,lz,wz⟩:=Rx H U (k:=k) g (n:=n) (deep:=deep-1) (mu:=m3) (d:=y) (by ext) (fr.flat fl) (f3.hand.mono (by ext)) (FV ok y hy) (dw y hy)
     have dd:(deep:Int)-1=((deep-1:Nat):Int):=by ext
     have z1:CH (.tup (ds.take i)) (.tup [z]) m4=some (.tup (ds.take i++[z]),m4):=Ia (by
      rw [AD,List.length_singleton]
      have:=tl i
      ext)
     have z2:CH (.tup (ds.take i++[z])) (.tup (ds.drop (i+1))) m4=some (.tup (ds.take i++[z]++ds.drop (i+1)),m4):=Ia (by
      rw [AD,Ai,List.length_singleton]
      have:=tl i
      have:=dl (i+1)
      ext)
     refine ⟨.tup (ds.take i++[z]++ds.drop (i+1)),m4,?_,fr.trans f4,okT (by rw [Ai,Ai,List.length_singleton,AQ,BH];ext) λd hd=>(Aj.mp hd).elim (λhd=>(Aj.mp hd).elim (tm _ d) λh=>by rw [Ag.mp h];exact lz) (dm _ d),J2 λd hd=>(Aj.mp hd).elim (λhd=>(Aj.mp hd).elim (λh=>dw d (By h)) λh=>by rw [Ag.mp h];exact wz) λh=>dw d (List.mem_of_mem_drop h)⟩
     rw [CJ]
     simp! [Dw,c0,c1,e1,c2,e2,e3,c3,c4,c5,ix,dd,e4,i1,ct0,cf1,z1,z2]
  | ref k=>simp [okB] at ok
  | set _=>simp [okB] at ok
  | _ =>
   refine ⟨od,mo,?_,fo,u _ ho.1,ho.2⟩
   simp! [CJ,Dw,eo]
def Rq:Sx:=(Cq (CU (Ce CH (B8 5) (He (B6 (Ce CH (B8 4) (CL (B6 (CL (B6 (B8 6) (B6 (B8 7) Cb))) Cb))) (B6 (Ce CH (B8 4) (CL (B6 (CL (B6 (Ce ixG (Ce ixG (B8 3) (eC (.int 0))) (eC (.int 0))) (B6 (B8 7) Cb))) Cb))) (B6 (Ce CH (CL (B6 (CL (B6 (eC (.str "y1")) (B6 (CL (B6 (eC (.str "of")) (B6 (eC (.str "y1")) Cb))) Cb))) Cb)) (B8 4)) Cb))))) (gNm 5)) (CU (Ce CH (B8 5) (He (B6 (Ce CH (CL (B6 (CL (B6 (eC (.str "y1")) (B6 (CL (B6 (eC (.str "of")) (B6 (B8 6) Cb))) Cb))) Cb)) (B8 4)) (B6 (Ce CH (B8 4) (CL (B6 (CL (B6 (eC (.str "y1")) (B6 (CL (B6 (eC (.str "of")) (B6 (B8 6) Cb))) Cb))) Cb))) (B6 (Ce Ux (CL (B6 (CL (B6 (B8 6) (B6 (B8 7) Cb))) Cb)) (eC (.int 9))) Cb))))) (gNm 5)))
def PK:Sx:=(Cq (CU (Cd D4 (B6 (B8 3) (B6 (B8 8) Cb))) (gNm 9)) (sIf (tO (tNt (tV (Gf "bool" (B8 9)))) (tV (Ce neD (B8 9) (Cd EL (B6 (B8 3) (B6 (B8 8) Cb)))))) (sRt (eC (.bl false))) (sNx)))
def RI:Sx:=(Cq (CU (Cd Fu (B6 (B8 0) (B6 (B8 1) Cb))) (gNm 2)) (Cq (CU (Cd EG (B6 (B8 2) (B6 (eC (.int 3)) (B6 (eC (.int 3)) (B6 (eC (.int 3)) Cb))))) (gNm 3)) (Cq (CU (Cd F6 (B6 (B8 2) (B6 (B8 3) (B6 (Cd CM (B6 (B8 2) (B6 (He (B6 (eC (.int 1)) (B6 (eC (.int 2)) (B6 (eC (.int 3)) (B6 (eC (.int 0)) (B6 (eC (.int 4)) (B6 (eC (.int 8)) Cb))))))) Cb))) Cb)))) (gNm 4)) (Cq (sIf (tV (Ce Sh (Cd D4 (B6 (B8 3) (B6 (B8 4) Cb))) (eC (.bl true)))) (sRt (eC (.bl false))) (sNx)) (Cq (CU (eLC (iRg (B6 (eC (.int 8)) Cb)) 1 [2,3,4] (gNm 0) (tY) (Cd (CJ 14) (B6 (B8 1) (B6 (B8 2) (B6 (B8 3) (B6 (eC (.int 5)) Cb)))))) (gNm 5)) (Cq (JC (DJ (eSl (B8 4) (pNo) (En (eC (.int 1))))) (gTp 2 (CD (gNm 6) (CD (gNm 7) EA))) Rq) (JC (DJ (Ce CH (B8 5) (He (B6 (eC .non) (B6 (eC (.bl true)) (B6 (eC (.int 0)) (B6 (eC (.str "")) (B6 (He Cb) (B6 OS (B6 (CL (B6 (CL Cb) Cb)) Cb)))))))))) (gNm 8) PK)))))))
theorem Qd {xs ys:List D}(h:xs.length+ys.length≤sizeLine):CH (.lst xs) (.lst ys) mu=some (.lst (xs++ys),mu):=by
 simp only [CH,D8,h,if_true]
def Thg (V:List Str)(z:D):Prop:=okB 1001 z=true∧∀ x∈wds z,x∈V
theorem PU {V:List Str}{ts:List Tb}(H:SK ts)(U:Uni V ts):KnV V (CS ts):=λp hp=>by
 obtain ⟨t,ht,rfl⟩:=Ak.mp hp
 refine ⟨(H.ok t ht).cn,λc hc=>?_⟩
 obtain ⟨q,hq,rfl⟩:=Ak.mp hc
 exact (U.tv t ht).2 q hq
theorem RW {V:List Str}{ts:List Tb}(H:SK ts)(U:Uni V ts)(hf:Flat mu){x0 x1 x2 x4 x5 x6 x7 x8 x9:Option D}{m0:Sto}{zs:List D}(hz:∀ z∈zs,Thg V z) :
  ∃ y8 y9,EN none m0 (gNm 8) PK zs [x0,x1,x2,some (scD ts),x4,x5,x6,x7,x8,x9] mu=some ((.nx,[x0,x1,x2,some (scD ts),x4,x5,x6,x7,y8,y9]),mu):=by
 obtain ⟨ro',m',e,⟨y8,y9,rfl⟩,rfl⟩:=Ik (m0:=m0) (tg:=gNm 8) (body:=PK) (λi ro m=>(∃ y8 y9,ro=[x0,x1,x2,some (scD ts),x4,x5,x6,x7,y8,y9])∧m=mu) zs 0 _ mu ⟨⟨x8,x9,rfl⟩,rfl⟩ λj d ro m ed ⟨⟨y8,y9,er⟩,em⟩=>by
   subst er
   subst em
   obtain ⟨o,w⟩:=hz d (Ap ed)
   have i1:=NV H (V:=V) (by have:=U.len;ext) (PU H U) hf (Gg o) w
   have i2:=Vl H (V:=V) (by have:=U.len;ext) (PU H U) hf (Io (show 1001≤1002 by decide) o) w
   have ne:neD (.bl (Gu ts d)) (.bl (Gu ts d)) m=some (.bl false,m):=by
    cases Gu ts d<;>rfl
   refine ⟨_,m,[x0,x1,x2,some (scD ts),x4,x5,x6,x7,some d,some (.bl (Gu ts d))],m,rfl,?_,⟨_,_,rfl⟩,rfl⟩
   unfold PK
   simp! [i1,i2,ne]
 exact ⟨y8,y9,e⟩
theorem UN {V:List Str}{ts:List Tb}(H:SK ts)(U:Uni V ts){k n:Nat}{d:D}(hf:Flat mu)(h:HandOk mu k (n+800))(ok:okB 1000 d=true)(hw:∀ x∈wds d,x∈V){m0:Sto} :
  ∃ zs m',FN none m0 (gNm 0) tY (Cd (CJ 14) (B6 (B8 1) (B6 (B8 2) (B6 (B8 3) (B6 (eC (.int 5)) Cb))))) [none,some (.ref k),some (scD ts),some d] (FY 0 8) mu=some (zs,m')∧Fr k n mu m'∧zs.length=8∧∀ z∈zs,Thg V z:=by
 obtain ⟨ys,mu',e,fr,l,hp⟩:=Qg (m0:=m0) (tg:=gNm 0) (el:=(Cd (CJ 14) (B6 (B8 1) (B6 (B8 2) (B6 (B8 3) (B6 (eC (.int 5)) Cb)))))) (ro:=[none,some (.ref k),some (scD ts),some d]) (λi m=>Fr k (n+800-100*i) mu m) (λ_ z=>Thg V z) (FY 0 8) 0 mu (.refl h) λi x m ed fr=>by
  obtain ⟨rfl,hi⟩:=N4 ed
  obtain ⟨y,m1,e1,f1,hy⟩:=Rx H U (k:=k) 13 (n:=n+800-100*(0+i+1)) (deep:=5) (mu:=m) (d:=d) (by decide) (fr.flat hf) (fr.hand.mono (by ext)) ok hw
  have e1':CJ 14 [.ref k,scD ts,d,.int 5] m=some (y,m1):=e1
  exact ⟨_,y,m1,rfl,by simp! [e1'],hy,fr.trans f1⟩
 rw [Kl] at l
 refine ⟨ys,mu',e,fr.mono (by rw [Kl];ext),l,λd hd=>?_⟩
 obtain ⟨i,hi⟩:=AS.mp hd
 exact hp i d hi
theorem Wh {kn:Kn}{d:D}{ds:List D}(h:bkB kn (d::ds)=true):∃ x l,d=.tup [.str x,l]:=by
 unfold bkB at h
 split at h
 ·exact ⟨_,_,rfl⟩
 ·cases h
theorem LF {V:List Str}{ds:List D}(l:ds.length≤1001)(h:∀ d∈ds,Thg V d):Thg V (.tup ds):=⟨okT l λd hd=>(h d hd).1,J2 λd hd=>(h d hd).2⟩
theorem LG {V:List Str}{x:Str}(h:x∈V):Thg V (.str x):=⟨rfl,λy hy=>by rw [wds,Ag] at hy;rw [hy];exact h⟩
theorem Il {V:List Str}{a b:D}(ha:Thg V a)(hb:Thg V b):Thg V (.tup [a,b]):=LF (by simp) λd hd=>by
 simp only [Am,AE,Bk] at hd
 rcases hd with rfl|rfl
 ·exact ha
 ·exact hb
theorem IW {V:List Str}{bs:List D}{a:D}(l:bs.length≤8)(h:∀ d∈bs,Thg V d)(ha:Thg V a):Thg V (.tup (bs++[a]))∧Thg V (.tup ([a]++bs)):=by
 refine ⟨LF (by simp;ext) λd hd=>?_,LF (by simp;ext) λd hd=>?_⟩
 ·rcases Aj.mp hd with hd|hd
  ·exact h d hd
  ·rw [Ag.mp hd];exact ha
 ·rcases Aj.mp hd with hd|hd
  ·rw [Ag.mp hd];exact ha
  ·exact h d hd
theorem Tf {V:List Str}{ts:List Tb}(H:SK ts)(U:Uni V ts){bs zs:List D}(hb:bkB (CS ts) bs=true)(hl:bs.length≤8)(hB:∀ d∈bs,Thg V d)(hz:∀ z∈zs,Thg V z)(zl:zs.length≤100){x0 x1 x2 x6 x7 x8 x9:Option D}{m0:Sto} :
  ∃ zs' y6 y7,EN none m0 (gTp 2 (CD (gNm 6) (CD (gNm 7) EA))) Rq (bs.take 1) [x0,x1,x2,some (scD ts),some (.tup bs),some (.lst zs),x6,x7,x8,x9] mu=some ((.nx,[x0,x1,x2,some (scD ts),some (.tup bs),some (.lst zs'),y6,y7,x8,x9]),mu)∧(∀ z∈zs',Thg V z)∧zs'.length≤200:=by
 cases bs with
 | nil=>exact ⟨zs,x6,x7,rfl,hz,by ext⟩
 | cons b br =>
  obtain ⟨x,l,rfl⟩:=Wh hb
  obtain ⟨t,r,rfl⟩:∃ t r,ts=t::r:=by
   cases ts with
   | nil=>have:=H.l1;simp at this
   | cons t r=>exact ⟨t,r,rfl⟩
  have sc:scD (t::r)=.tup (.tup [.str t.nm,.tup (t.cs.map clD),.int t.ks]::r.map tbD):=rfl
  generalize hbs:(D.tup [.str x,l]::br)=bs at hb hl hB
  have t1:bs.take 1=[.tup [.str x,l]]:=by rw [← hbs];rfl
  have hb0:Thg V (.tup [.str x,l]):=hB _ (by rw [← hbs];exact .head _)
  have hxl:Thg V (.str x)∧Thg V l:=⟨⟨rfl,λy hy=>hb0.2 y (FU (by simp) hy)⟩,⟨FV hb0.1 l (by simp),λy hy=>hb0.2 y (FU (by simp) hy)⟩⟩
  have hn:Thg V (.str t.nm):=LG (U.tv t (.head _)).1
  have hy1:Thg V (.str "y1"):=LG (U.ev _ (by symm))
  have hof:Thg V (.str "of"):=LG (U.cv _ (by symm))
  have A1:=(IW hl hB hb0).1
  have A2:=(IW hl hB (Il hn hxl.2)).1
  have A3:=(IW hl hB (Il hy1 (Il hof hy1))).2
  have A4:=(IW hl hB (Il hy1 (Il hof hxl.1))).2
  have A5:=(IW hl hB (Il hy1 (Il hof hxl.1))).1
  have A6:Thg V (.tup (List.replicate 9 [D.tup [.str x,l]]).flatten):=LF (by simp) λd hd=>by
   have:d=.tup [.str x,l]:=by simpa using hd
   rw [this];exact hb0
  have s1:∀ a:D,CH (.tup bs) (.tup [a]) mu=some (.tup (bs++[a]),mu):=λa=>Ia (by rw [List.length_singleton,AD];ext)
  have s2:∀ a:D,CH (.tup [a]) (.tup bs) mu=some (.tup ([a]++bs),mu):=λa=>Ia (by rw [List.length_singleton,AD];ext)
  have m9:Ux (.tup [.tup [.str x,l]]) (.int 9) mu=some (.tup (List.replicate 9 [D.tup [.str x,l]]).flatten,mu):=by
   have e1:GF (.tup [.tup [.str x,l]]) (.int 9) mu=none:=rfl
   unfold Ux
   rw [e1]
   rfl
  have z1:∀ a b c:D,CH (.lst zs) (.lst [a,b,c]) mu=some (.lst (zs++[a,b,c]),mu):=λa b c=>Qd (by rw [AD];simp;ext)
  have z2:∀ (a b c a' b' c':D),CH (.lst (zs++[a,b,c])) (.lst [a',b',c']) mu=some (.lst (zs++[a,b,c]++[a',b',c']),mu):=λa b c a' b' c'=>Qd (by rw [AD];simp;ext)
  refine ⟨zs++[.tup (bs++[.tup [.str x,l]]),.tup (bs++[.tup [.str t.nm,l]]),.tup ([.tup [.str "y1",.tup [.str "of",.str "y1"]]]++bs)]++[.tup ([.tup [.str "y1",.tup [.str "of",.str x]]]++bs),.tup (bs++[.tup [.str "y1",.tup [.str "of",.str x]]]),.tup (List.replicate 9 [D.tup [.str x,l]]).flatten],some (.str x),some l,?_,λz h=>?_,by simp;ext⟩
  ·rw [t1,sc]
   unfold EN
   have tg:gTp 2 (CD (gNm 6) (CD (gNm 7) EA)) (.tup [.str x,l]) [x0,x1,x2,some (.tup (.tup [.str t.nm,.tup (t.cs.map clD),.int t.ks]::r.map tbD)),some (.tup bs),some (.lst zs),x6,x7,x8,x9] mu=some ([x0,x1,x2,some (.tup (.tup [.str t.nm,.tup (t.cs.map clD),.int t.ks]::r.map tbD)),some (.tup bs),some (.lst zs),some (.str x),some l,x8,x9],mu):=rfl
   rw [tg,CV]
   unfold Rq
   simp! [s1,s2,m9,z1,z2]
   rw [D9,if_pos (show gOk none m0 mu from True.intro)]
   rfl
  ·rcases Aj.mp h with h|h
   ·rcases Aj.mp h with h|h
    ·exact hz z h
    ·simp only [Am,AE,Bk] at h
     rcases h with rfl|rfl|rfl
     ·exact A1
     ·exact A2
     ·exact A3
   ·simp only [Am,AE,Bk] at h
    rcases h with rfl|rfl|rfl
    ·exact A4
    ·exact A5
    ·exact A6
theorem XS {i:Nat}{ns:List Int}{x2 x3 x4 x5 x6 x7 x8 x9:Option D}(hi:i<64)(hfl:Flat mu) :
  ∃ y2 y3 y4 y5 y6 y7 y8 y9 m',RI [some (.lst (ns.map D.int)),some (.int i),x2,x3,x4,x5,x6,x7,x8,x9] mu=some ((.nx,[some (.lst (ns.map D.int)),some (.int i),y2,y3,y4,y5,y6,y7,y8,y9]),m')∧Flat m':=by
 obtain ⟨o,e1,h1⟩:=Tz (mu:=mu) (k:=i) (n:=8000) (ns:=ns) hi (by decide)
 have fl1:Flat (mu++[o]):=by
  intro j q hq
  by_cases c:j=mu.length
  ·subst c
   obtain ⟨_,_,_,h,_⟩:=h1
   rw [h] at hq
   cases hq
   rfl
  ·have:j<(mu++[o]).length:=(Ah.mp hq).1
   simp at this
   rw [Aw (by ext)] at hq
   exact hfl j q hq
 obtain ⟨_,m2,e2,f2,ds,rfl,sb,ok,st,s5,sa⟩:=QL (n:=7900) (a:=3) (b:=3) (c:=3) (by decide) (by decide) (by decide) (by decide) (by decide) (by decide) fl1 (h1.mono (by decide))
 obtain ⟨ts,et,H⟩:=Ur sb
 have ed:ds=ts.map tbD:=by unfold scD at et;injection et
 subst ed
 have l4:ts.length≤4:=by
  have h':((Di 1 4 (.tup (ts.map tbD))&&(ts.map tbD).all MK)&&Mb ((ts.map tbD).map DF))=true:=sb
  rw [Ab,Ab] at h'
  have:=h'.1.1
  simp only [Di,Af,Ab,Ad] at this
  ext
 have e2':EG [.ref mu.length,.int 3,.int 3,.int 3] (mu++[o])=some (scD ts,m2):=e2
 have fl2:=f2.flat fl1
 obtain ⟨mv,mp,ep,fp,hmv⟩:=pick_run (mu:=m2) (k:=mu.length) (s:=.lst [.int 1,.int 2,.int 3,.int 0,.int 4,.int 8]) (n:=7899) (.inl rfl) (by simp) (by decide) f2.hand
 obtain ⟨many,rfl,m8⟩:∃ many:Nat,mv=.int many∧many≤8:=by
  simp only [Am,AE,Bk] at hmv
  rcases hmv with rfl|rfl|rfl|rfl|rfl|rfl
  ·exact ⟨1,rfl,by decide⟩
  ·exact ⟨2,rfl,by decide⟩
  ·exact ⟨3,rfl,by decide⟩
  ·exact ⟨0,rfl,by decide⟩
  ·exact ⟨4,rfl,by decide⟩
  ·exact ⟨8,rfl,by decide⟩
 have flp:=fp.flat fl2
 obtain ⟨_,m3,e3,f3,bs,V,rfl,U,bl,bk,bw⟩:=Tv (mu:=mp) H l4 s5 (TH sa) (k:=mu.length) (n:=2000) m8 flp (fp.hand.mono (by decide))
 have fl3:=f3.flat flp
 have okb:okB 1000 (.tup bs)=true:=okT (by ext) λd hd=>(bw d hd).1
 have wb:∀ x∈wds (.tup bs),x∈V:=J2 λd hd=>(bw d hd).2
 have ib:=NV (mu:=m3) H (V:=V) (by have:=U.len;ext) (PU H U) fl3 (Gg okb) wb
 have eb:Gu ts (.tup bs)=true:=by
  show (decide (bs.length≤8)&&bkB (CS ts) bs)=true
  rw [bk,Bw bl]
  rfl
 rw [eb] at ib
 obtain ⟨zs,m4,e4,f4,zl,hz⟩:=UN (mu:=m3) H U (k:=mu.length) (n:=100) (d:=.tup bs) fl3 (f3.hand.mono (by decide)) okb wb (m0:=m3)
 have fl4:=f4.flat fl3
 obtain ⟨zs',y6,y7,e5,hz',zl'⟩:=Tf (mu:=m4) (m0:=m4) H U bk bl (λd hd=>⟨Io (by decide) (bw d hd).1,(bw d hd).2⟩) hz (by ext) (x0:=some (.lst (ns.map D.int))) (x1:=some (.int i)) (x2:=some (.ref mu.length)) (x6:=x6) (x7:=x7) (x8:=x8) (x9:=x9)
 have hz2:∀ z∈zs'++[.non,.bl true,.int 0,.str "",.lst [],.dct [] [],.tup [.tup []]],Thg V z:=λz h=>by
  rcases Aj.mp h with h|h
  ·exact hz' z h
  ·simp only [Am,AE,Bk] at h
   have no:∀ {z:D},okB 1001 z=true->wds z=[]->Thg V z:=λh1 h2=>⟨h1,λx hx=>by rw [h2] at hx;cases hx⟩
   rcases h with rfl|rfl|rfl|rfl|rfl|rfl|rfl
   ·exact no rfl rfl
   ·exact no rfl rfl
   ·exact no rfl rfl
   ·exact LG (U.ev _ (by symm))
   ·exact no rfl rfl
   ·exact no rfl rfl
   ·exact no rfl rfl
 obtain ⟨y8,y9,e6⟩:=RW (mu:=m4) (m0:=m4) H U fl4 hz2 (x0:=some (.lst (ns.map D.int))) (x1:=some (.int i)) (x2:=some (.ref mu.length)) (x4:=some (.tup bs)) (x5:=some (.lst zs')) (x6:=y6) (x7:=y7) (x8:=x8) (x9:=x9)
 have rg1:∀ (ro:Ro) (m:Sto),iRg (B6 (eC (.int 8)) Cb) ro m=some ((FY 0 8,none),m):=λro m=>Sn (n:=8) rfl (by decide) (by rw [AD];decide)
 have ct:PV.cutD bs none (some 1)=bs.take 1:=by
  cases bs with
  | nil=>rfl
  | cons b br=>exact IK (xs:=b::br) (j:=1) (by simp)
 have za:CH (.lst zs') (.lst [.non,.bl true,.int 0,.str "",.lst [],.dct [] [],.tup [.tup []]]) m4=some (.lst (zs'++[.non,.bl true,.int 0,.str "",.lst [],.dct [] [],.tup [.tup []]]),m4):=Qd (by rw [AD];simp;ext)
 have isn:Sh (.bl true) (.bl true) m3=some (.bl false,m3):=rfl
 refine ⟨some (.ref mu.length),some (scD ts),some (.tup bs),some (.lst zs'),y6,y7,y8,y9,m4,?_,fl4⟩
 unfold RI
 simp! [e1,e2',ep,e3,ib,isn,rg1,e4,ct,e5,za,e6]
noncomputable def ts1:List Tb:=[⟨"t",[("x",["y"])],1⟩]
theorem sk1:SK ts1:=by
 have w:∀ s:Str,wB s=true->IsW s:=λs h=>De.mp h
 refine ⟨by decide,by decide,λt ht=>?_,by unfold ts1;simp⟩
 unfold ts1 at ht
 rw [Ag.mp ht]
 refine ⟨⟨by decide,by decide,by decide,by decide,λp hp=>?_⟩,w _ (by symm),λp hp=>?_,by simp,λp hp x hx=>?_⟩
 ·rw [Ag.mp hp];simp
 ·rw [Ag.mp hp];exact w _ (by symm)
 ·rw [Ag.mp hp] at hx
  rw [Ag.mp hx]
  exact w _ (by symm)
theorem Wx (ns:List Int):∃ mu',Nh [.lst (ns.map .int)] []=some (.bl true,mu'):=by
 obtain ⟨N,hN,h2,h5⟩:∃ N:Nat,(if (if (ns.length:Int)<5 then (ns.length:Int) else 5) > 2 then (if (ns.length:Int)<5 then (ns.length:Int) else 5) else 2)=(N:Int)∧2≤N∧N≤5:=by
  refine ⟨(if (if (ns.length:Int)<5 then (ns.length:Int) else 5) > 2 then (if (ns.length:Int)<5 then (ns.length:Int) else 5) else 2).toNat,?_,?_,?_⟩<;>split<;>split<;>ext
 obtain ⟨ro',mu',e,⟨y1,y2,y3,y4,y5,y6,y7,y8,y9,rfl⟩,fl⟩:=Ik (m0:=[]) (tg:=gNm 1) (body:=RI) (λi ro m=>(∃ y1 y2 y3 y4 y5 y6 y7 y8 y9,ro=[some (.lst (ns.map D.int)),y1,y2,y3,y4,y5,y6,y7,y8,y9])∧Flat m) (FY 0 N) 0 [some (.lst (ns.map D.int)),none,none,none,none,none,none,none,none,none] [] ⟨⟨_,_,_,_,_,_,_,_,_,rfl⟩,λj o h=>by simp at h⟩ λj d ro m ed ⟨⟨y1,y2,y3,y4,y5,y6,y7,y8,y9,er⟩,fl⟩=>by
   subst er
   obtain ⟨rfl,hj⟩:=N4 ed
   obtain ⟨z2,z3,z4,z5,z6,z7,z8,z9,m',e,fl'⟩:=XS (mu:=m) (i:=j) (ns:=ns) (x2:=y2) (x3:=y3) (x4:=y4) (x5:=y5) (x6:=y6) (x7:=y7) (x8:=y8) (x9:=y9) (by ext) fl
   exact ⟨_,m,_,m',rfl,e,⟨_,_,_,_,_,_,_,_,_,rfl⟩,fl'⟩
 refine ⟨mu',?_⟩
 have mn:OG [.int 5,.int (ns.length:Int)] []=some (.int (if (ns.length:Int)<5 then (ns.length:Int) else 5),[]):=rfl
 have mx:U1 [.int 2,.int (if (ns.length:Int)<5 then (ns.length:Int) else 5)] []=some (.int N,[]):=by
  rw [← hN]
  rfl
 have rg:=Sn (mu:=[]) (ro:=[some (.lst (ns.map D.int)),none,none,none,none,none,none,none,none,none]) (r:=(B6 (Cd U1 (B6 (eC (.int 2)) (B6 (Cd OG (B6 (eC (.int 5)) (B6 (Cd D5 (B6 (B8 0) Cb)) Cb))) Cb))) Cb)) (n:=N) (m:=[]) (by simp! [Af,mn,mx]) (by ext) (by rw [AD];ext)
 rw [Int.toNat_natCast] at rg
 have ib:=NV (mu:=mu') sk1 (V:=[Str.ofString "x"]) (by decide) (λp hp=>by
  have:p=(Str.ofString "t",[Str.ofString "x"]):=by simpa [ts1,CS,tcs] using hp
  rw [this]
  exact ⟨by simp,λc hc=>hc⟩) fl (d:=.tup []) rfl (λx hx=>by simp [wds,JD] at hx)
 have ib':D4 [.tup [.tup [.str "t",.tup [.tup [.str "x",.tup [.str "y"]]],.int 1]],.tup []] mu'=some (.bl true,mu'):=ib
 have is1:isD (.bl true) (.bl true) mu'=some (.bl true,mu'):=rfl
 unfold RI Rq PK at e
 simp! [Nh,U4,rg,e,ib',is1]
end PG
namespace PG
open PySem L2 PV PyProof.Rows
@[elab_as_elim] theorem O4 {P:List Value->Prop}(us:List Value)(hl:us.length=1)(h:∀ a0,P [a0]):P us:=by
 match us,hl with
 | [_],_=>exact h _
@[elab_as_elim] theorem Je {P:List Value->Prop}(us:List Value)(hl:us.length=2)(h:∀ a0 a1,P [a0,a1]):P us:=by
 match us,hl with
 | [_,_],_=>exact h _ _
@[elab_as_elim] theorem LX {P:List Value->Prop}(us:List Value)(hl:us.length=3)(h:∀ a0 a1 a2,P [a0,a1,a2]):P us:=by
 match us,hl with
 | [_,_,_],_=>exact h _ _ _
@[elab_as_elim] theorem Aaq {P:List Value->Prop}(us:List Value)(hl:us.length=4)(h:∀ a0 a1 a2 a3,P [a0,a1,a2,a3]):P us:=by
 match us,hl with
 | [_,_,_,_],_=>exact h _ _ _ _
def FH (K:PySem.W.Frag)(x:Str)(st:Stmt):Prop:=∃ (f:Addr) (oc kV dc pm cd ct:Value) (od an:Option Addr) (sl:Array (Option Value)),PySem.W.nsIn K mainGlobals x=some (some (.ref f))∧K.lookup f=some ⟨oc,od,.func (PySem.W.fnOf x x (Iq st) (Fo st) (Cf st) .none kV dc pm an cd ct),sl⟩∧PySem.W.codeIn K cd x=true∧PySem.W.keepIn K (.ref f)=true
theorem fh {K:PySem.W.Frag}{x:Str}{st:Stmt}{f:Addr}{oc kV dc pm cd ct:Value}{od an:Option Addr}{sl:Array (Option Value)}(a:PySem.W.nsIn K mainGlobals x=some (some (.ref f)))(l:K.lookup f=some ⟨oc,od,.func (PySem.W.fnOf x x (Iq st) (Fo st) (Cf st) .none kV dc pm an cd ct),sl⟩)(c:PySem.W.codeIn K cd x=true)(k:PySem.W.keepIn K (.ref f)=true):FH K x st:=⟨f,oc,kV,dc,pm,cd,ct,od,an,sl,a,l,c,k⟩
theorem FH.go {K:PySem.W.Frag}{x:Str}{st:Stmt}{h:Heap}{mg:Str->Option Value}(H:FH K x st)(X:K.In h)(G:h.Ns mainGlobals mg):∃ f fd,Fun K x x st f fd∧mg x=some (.ref f):=by
 obtain ⟨_,_,_,_,_,_,_,_,_,_,a,l,c,k⟩:=H
 exact ⟨_,_,T1 l c k,PySem.W.mg_of X G a⟩
set_option maxHeartbeats 0 in
theorem all_mk {l:PySem.W.OpenLaw}{w:World}{K:PySem.W.Frag}{h:Heap}{mg:Str->Option Value}{fa:Addr}(X:K.In h)(G:h.Ns mainGlobals mg)(hfa:mg "law"=some (.ref fa)){t1 t2 t3 t4 t5:Tok}{p1:Addr}{pn1:Nat}{ps1:Array (Option Value)}{pt1_0 pt1_1 pt1_2:Tok}
  (h1:FH K "is_word" HC) (h2:FH K "is_tuple" Ii) (h3:FH K "is_tuple_of_words" DS) (h4:FH K "are_unlike" GL) (h5:FH K "are_words" Hg) (h6:FH K "columns_by_name" Eh) (h7:FH K "are_within" FG) (h8:FH K "is_pair" Jt) (h9:FH K "are_pairs" FE) (h10:FH K "called_columns" Ez) (h11:FH K "is_test" HD) (h12:FH K "are_tests" Gk) (h13:FH K "columns_if_single" Ep) (h14:FH K "joined_columns" Ew) (h15:FH K "columns_if_paired" Eo) (h16:FH K "is_named" Ic) (h17:FH K "columns_if_look" EW) (h18:FH K "is_book" JA) (h19:FH K "_law_hand" Ir) (h20:FH K "_law_take" HZ) (h21:FH K "_law_pick" HQ) (h22:FH K "_law_words" Gw) (h23:FH K "_law_schema" FO) (h24:FH K "_law_columns" Em) (h25:FH K "_law_stock" Hi) (h26:FH K "_law_test" Im) (h27:FH K "_law_big" Jx) (h28:FH K "_law_look" Fq) (h29:FH K "_law_known" Gv) (h30:FH K "_law_book" G2) (h31:FH K "_law_is_word" Fd) (h32:FH K "_law_test_fits" ER) (h33:FH K "_law_cut_fits" EZ) (h34:FH K "_law_called_so" DD) (h35:FH K "_law_look_fits" DO) (h36:FH K "_law_fits" G9) (h37:FH K "_law_odd" Ju) (h38:FH K "_law_put_in" GN) (h39:FH K "law" Lp)
  (z1:PySem.W.nsIn K mainGlobals "all"=some none) (z2:PySem.W.nsIn K mainGlobals "bool"=some none) (z3:PySem.W.nsIn K mainGlobals "dict"=some none) (z4:PySem.W.nsIn K mainGlobals "int"=some none) (z5:PySem.W.nsIn K mainGlobals "isinstance"=some none) (z6:PySem.W.nsIn K mainGlobals "len"=some none) (z7:PySem.W.nsIn K mainGlobals "list"=some none) (z8:PySem.W.nsIn K mainGlobals "max"=some none) (z9:PySem.W.nsIn K mainGlobals "min"=some none) (z10:PySem.W.nsIn K mainGlobals "range"=some none) (z11:PySem.W.nsIn K mainGlobals "set"=some none) (z12:PySem.W.nsIn K mainGlobals "sorted"=some none) (z13:PySem.W.nsIn K mainGlobals "str"=some none) (z14:PySem.W.nsIn K mainGlobals "tuple"=some none)
  (g1:PySem.W.nsIn K mainGlobals "DEEPEST"=some (some (.int 8 t1))) (g2:PySem.W.nsIn K mainGlobals "LONGEST"=some (some (.int 8 t2))) (g3:PySem.W.nsIn K mainGlobals "MOST_LOOKS"=some (some (.int 8 t3))) (g4:PySem.W.nsIn K mainGlobals "MOST_TESTS"=some (some (.int 4 t4))) (g5:PySem.W.nsIn K mainGlobals "SIGNS"=some (some (.str "abcdefghijklmnopqrstuvwxyz0123456789" t5))) (q1:PySem.W.nsIn K mainGlobals "PAIRED"=some (some (.ref p1))) (m1:K.lookup p1=some ⟨.type "tuple",none,.seq #[.str "join" pt1_0,.str "union" pt1_1,.str "gap" pt1_2] pn1,ps1⟩) :
  ∃ fd:FuncData,(∀ (s:Shared) (v:Value),BindsTo s fd ⟨[v],[]⟩ [("_law_script",v)])∧∀ base:Heap,K.In base->base.Ns mainGlobals mg->DM l.prog w K mg base CX0 24 fa fd ["_law_script"] (spF ⟨K,l.prog,w⟩ Nh 1):=by
 have T:Tx K mg:=⟨A9 X G z1,A9 X G z2,A9 X G z3,A9 X G z4,A9 X G z5,A9 X G z6,A9 X G z7,A9 X G z8,A9 X G z9,A9 X G z10,A9 X G z11,A9 X G z12,A9 X G z13,A9 X G z14,⟨t1,PySem.W.mg_of X G g1⟩,⟨t2,PySem.W.mg_of X G g2⟩,⟨t3,PySem.W.mg_of X G g3⟩,⟨t4,PySem.W.mg_of X G g4⟩,⟨p1,_,_,_,PySem.W.mg_of X G q1,m1,rfl,rfl,rfl,(show (3:Nat)≤sizeLine by rw [AD];decide),.cons ⟨pt1_0,rfl⟩ (.cons ⟨pt1_1,rfl⟩ (.cons ⟨pt1_2,rfl⟩ (.nil)))⟩,⟨t5,PySem.W.mg_of X G g5⟩⟩
 obtain ⟨_,_,kV,dc,pm,cd,ct,_,an,_,a,lk,c,k⟩:=h39
 cases hfa.symm.trans (PySem.W.mg_of X G a)
 refine ⟨PySem.W.fnOf "law" "law" (Iq Lp) (Fo Lp) (Cf Lp) .none kV dc pm an cd ct,λs v=>.of_eq rfl,λbase _ _=>?_⟩
 obtain ⟨_,_,F,m⟩:=h1.go X G
 have C1:=CQ (P:=l.prog) (w:=w) (base:=base) F m (Qo F T ) (F.binds λ_ _ _ _ _ _ us hl=>O4 us hl λ_=>rfl)
 obtain ⟨_,_,F,m⟩:=h2.go X G
 have C2:=CQ (P:=l.prog) (w:=w) (base:=base) F m (Pf F T ) (F.binds λ_ _ _ _ _ _ us hl=>LX us hl λ_ _ _=>rfl)
 obtain ⟨_,_,F,m⟩:=h3.go X G
 have C3:=CQ (P:=l.prog) (w:=w) (base:=base) F m (IP F T C1) (F.binds λ_ _ _ _ _ _ us hl=>O4 us hl λ_=>rfl)
 obtain ⟨_,_,F,m⟩:=h4.go X G
 have C4:=CQ (P:=l.prog) (w:=w) (base:=base) F m (MQ F T ) (F.binds λ_ _ _ _ _ _ us hl=>O4 us hl λ_=>rfl)
 obtain ⟨_,_,F,m⟩:=h5.go X G
 have C5:=CQ (P:=l.prog) (w:=w) (base:=base) F m (Ox F T C2 C3 C4) (F.binds λ_ _ _ _ _ _ us hl=>LX us hl λ_ _ _=>rfl)
 obtain ⟨_,_,F,m⟩:=h6.go X G
 have C6:=CQ (P:=l.prog) (w:=w) (base:=base) F m (JM F T ) (F.binds λ_ _ _ _ _ _ us hl=>O4 us hl λ_=>rfl)
 obtain ⟨_,_,F,m⟩:=h7.go X G
 have C7:=CQ (P:=l.prog) (w:=w) (base:=base) F m (MF F T ) (F.binds λ_ _ _ _ _ _ us hl=>Je us hl λ_ _=>rfl)
 obtain ⟨_,_,F,m⟩:=h8.go X G
 have C8:=CQ (P:=l.prog) (w:=w) (base:=base) F m (Qq F T C2 C1) (F.binds λ_ _ _ _ _ _ us hl=>O4 us hl λ_=>rfl)
 obtain ⟨_,_,F,m⟩:=h9.go X G
 have C9:=CQ (P:=l.prog) (w:=w) (base:=base) F m (NK F T C2 C8 C4 C7) (F.binds λ_ _ _ _ _ _ us hl=>Je us hl λ_ _=>rfl)
 obtain ⟨_,_,F,m⟩:=h10.go X G
 have C10:=CQ (P:=l.prog) (w:=w) (base:=base) F m (Kt F T ) (F.binds λ_ _ _ _ _ _ us hl=>Je us hl λ_ _=>rfl)
 obtain ⟨_,_,F,m⟩:=h11.go X G
 have C11:=CQ (P:=l.prog) (w:=w) (base:=base) F m (QP F T C2 C1 C7) (F.binds λ_ _ _ _ _ _ us hl=>Je us hl λ_ _=>rfl)
 obtain ⟨_,_,F,m⟩:=h12.go X G
 have C12:=CQ (P:=l.prog) (w:=w) (base:=base) F m (NZ F T C2 C11) (F.binds λ_ _ _ _ _ _ us hl=>Je us hl λ_ _=>rfl)
 obtain ⟨_,_,F,m⟩:=h13.go X G
 have C13:=CQ (P:=l.prog) (w:=w) (base:=base) F m (IT F T C12 C5 C7 C9 C10 C4) (F.binds λ_ _ _ _ _ _ us hl=>LX us hl λ_ _ _=>rfl)
 obtain ⟨_,_,F,m⟩:=h14.go X G
 have C14:=CQ (P:=l.prog) (w:=w) (base:=base) F m (Kj F T ) (F.binds λ_ _ _ _ _ _ us hl=>Je us hl λ_ _=>rfl)
 obtain ⟨_,_,F,m⟩:=h15.go X G
 have C15:=CQ (P:=l.prog) (w:=w) (base:=base) F m (IX F T C14) (F.binds λ_ _ _ _ _ _ us hl=>LX us hl λ_ _ _=>rfl)
 obtain ⟨_,_,F,m⟩:=h16.go X G
 have C16:=CQ (P:=l.prog) (w:=w) (base:=base) F m (O7 F T C1) (F.binds λ_ _ _ _ _ _ us hl=>Je us hl λ_ _=>rfl)
 obtain ⟨_,_,F,m⟩:=h17.go X G
 have b:=F.binds (ps:=["known","thing","depth"]) λ_ _ _ _ _ _ us hl=>LX us hl λ_ _ _=>rfl
 have C17:=CQ (P:=l.prog) (w:=w) (base:=base) F m (G8 F m b T C2 C16 C13 C15 10) b
 obtain ⟨_,_,F,m⟩:=h18.go X G
 have C18:=CQ (P:=l.prog) (w:=w) (base:=base) F m (QJ F T C2 C6 C1 C17) (F.binds λ_ _ _ _ _ _ us hl=>Je us hl λ_ _=>rfl)
 obtain ⟨_,_,F,m⟩:=h19.go X G
 have C19:=CQ (P:=l.prog) (w:=w) (base:=base) F m (OB F T ) (F.binds λ_ _ _ _ _ _ us hl=>Je us hl λ_ _=>rfl)
 obtain ⟨_,_,F,m⟩:=h20.go X G
 have C20:=CQ (P:=l.prog) (w:=w) (base:=base) F m (OU F T ) (F.binds λ_ _ _ _ _ _ us hl=>Je us hl λ_ _=>rfl)
 obtain ⟨_,_,F,m⟩:=h21.go X G
 have C21:=CQ (P:=l.prog) (w:=w) (base:=base) F m (Pp F T C20) (F.binds λ_ _ _ _ _ _ us hl=>Je us hl λ_ _=>rfl)
 obtain ⟨_,_,F,m⟩:=h22.go X G
 have C22:=CQ (P:=l.prog) (w:=w) (base:=base) F m (NW F T C20 C21) (F.binds λ_ _ _ _ _ _ us hl=>LX us hl λ_ _ _=>rfl)
 obtain ⟨_,_,F,m⟩:=h23.go X G
 have C23:=CQ (P:=l.prog) (w:=w) (base:=base) F m (ME F T C22 C20) (F.binds λ_ _ _ _ _ _ us hl=>Aaq us hl λ_ _ _ _=>rfl)
 obtain ⟨_,_,F,m⟩:=h24.go X G
 have b:=F.binds (ps:=["_law_schema_here","_law_look_here"]) λ_ _ _ _ _ _ us hl=>Je us hl λ_ _=>rfl
 have C24:=CQ (P:=l.prog) (w:=w) (base:=base) F m (IZ F m b T  10) b
 obtain ⟨_,_,F,m⟩:=h25.go X G
 have C25:=CQ (P:=l.prog) (w:=w) (base:=base) F m (Oo F T ) (F.binds λ_ _ _ _ _ _ us hl=>O4 us hl λ_=>rfl)
 obtain ⟨_,_,F,m⟩:=h26.go X G
 have C26:=CQ (P:=l.prog) (w:=w) (base:=base) F m (Pn F T C21) (F.binds λ_ _ _ _ _ _ us hl=>LX us hl λ_ _ _=>rfl)
 obtain ⟨_,_,F,m⟩:=h27.go X G
 have b:=F.binds (ps:=["_law_look_here"]) λ_ _ _ _ _ _ us hl=>O4 us hl λ_=>rfl
 have C27:=CQ (P:=l.prog) (w:=w) (base:=base) F m (Mc F m b T  10) b
 obtain ⟨_,_,F,m⟩:=h28.go X G
 have b:=F.binds (ps:=["_law_hand_here","_law_schema_here","_law_deep"]) λ_ _ _ _ _ _ us hl=>LX us hl λ_ _ _=>rfl
 have C28:=CQ (P:=l.prog) (w:=w) (base:=base) F m (Lq F m b T C20 C21 C24 C25 C26 C27 10) b
 obtain ⟨_,_,F,m⟩:=h29.go X G
 have C29:=CQ (P:=l.prog) (w:=w) (base:=base) F m (N9 F T ) (F.binds λ_ _ _ _ _ _ us hl=>LX us hl λ_ _ _=>rfl)
 obtain ⟨_,_,F,m⟩:=h30.go X G
 have C30:=CQ (P:=l.prog) (w:=w) (base:=base) F m (Pd F T C22 C28 C20 C24 C29) (F.binds λ_ _ _ _ _ _ us hl=>LX us hl λ_ _ _=>rfl)
 obtain ⟨_,_,F,m⟩:=h31.go X G
 have C31:=CQ (P:=l.prog) (w:=w) (base:=base) F m (Mv F T ) (F.binds λ_ _ _ _ _ _ us hl=>O4 us hl λ_=>rfl)
 obtain ⟨_,_,F,m⟩:=h32.go X G
 have C32:=CQ (P:=l.prog) (w:=w) (base:=base) F m (KZ F T C31) (F.binds λ_ _ _ _ _ _ us hl=>Je us hl λ_ _=>rfl)
 obtain ⟨_,_,F,m⟩:=h33.go X G
 have C33:=CQ (P:=l.prog) (w:=w) (base:=base) F m (Lx F T ) (F.binds λ_ _ _ _ _ _ us hl=>Je us hl λ_ _=>rfl)
 obtain ⟨_,_,F,m⟩:=h34.go X G
 have C34:=CQ (P:=l.prog) (w:=w) (base:=base) F m (Ld F T C33 C31) (F.binds λ_ _ _ _ _ _ us hl=>Je us hl λ_ _=>rfl)
 obtain ⟨_,_,F,m⟩:=h35.go X G
 have b:=F.binds (ps:=["_law_schema_here","_law_thing","_law_deep"]) λ_ _ _ _ _ _ us hl=>LX us hl λ_ _ _=>rfl
 have C35:=CQ (P:=l.prog) (w:=w) (base:=base) F m (Hx F m b T C33 C34 C32 10) b
 obtain ⟨_,_,F,m⟩:=h36.go X G
 have C36:=CQ (P:=l.prog) (w:=w) (base:=base) F m (Pm F T C35 C31 C29) (F.binds λ_ _ _ _ _ _ us hl=>Je us hl λ_ _=>rfl)
 obtain ⟨_,_,F,m⟩:=h37.go X G
 have C37:=CQ (P:=l.prog) (w:=w) (base:=base) F m (QS F T C21) (F.binds λ_ _ _ _ _ _ us hl=>Je us hl λ_ _=>rfl)
 obtain ⟨_,_,F,m⟩:=h38.go X G
 have b:=F.binds (ps:=["_law_hand_here","_law_schema_here","_law_thing","_law_deep"]) λ_ _ _ _ _ _ us hl=>Aaq us hl λ_ _ _ _=>rfl
 have C38:=CQ (P:=l.prog) (w:=w) (base:=base) F m (JG F m b T C20 C37 14) b
 exact X3 (T1 lk c k) T C19 C23 C30 C21 C18 C38 C36
theorem Pk {K:Zc}{th:List Addr}{H:Hp}:∀ ns:List Int,RepL K th H (ns.map D.int) (ns.map V.int)
 | []=>.nil
 | i::ns=>.cons rfl (Pk ns)
theorem walk {l:PySem.W.OpenLaw}{q:Program}{loose:List Str}{XP:(Str->Option Value)->Heap->Prop}{YP:World->Heap->Prop}{d:DefRec}{K:Params->PySem.W.Frag}(hn:l.most=some 63)(hdf:d.params.defaults=[])
  (hY:∀ (w:World) (h:Heap),YP w h->(K w.params).In h)
  (F:∀ (w:World) (mg:Str->Option Value) (fa:Addr) (h:Heap),(K w.params).In h->h.Ns mainGlobals mg->mg d.name=some (.ref fa) ->
   ∃ fd:FuncData,(∀ (s:Shared) (u:Value),BindsTo s fd ⟨[u],[]⟩ [("_law_script",u)])∧∀ base:Heap,(K w.params).In base->base.Ns mainGlobals mg->DM l.prog w (K w.params) mg base CX0 24 fa fd ["_law_script"] (spF ⟨K w.params,l.prog,w⟩ Nh 1)) :
  PySem.W.WalkO q loose XP YP l.row.toRowW d [] (λf vs=>PySem.call f vs):=
 L2.Wi (n:=63) (k:=24) (x:="_law_script") (CX:=λ_=>CX0) (sp:=λw=>spF ⟨K w.params,l.prog,w⟩ Nh 1) hn (by decide) hdf ⟨rfl,by decide,by decide,rfl⟩ hY F (λw H a ns hl _ hS=>by
  obtain ⟨mu',e⟩:=Wx ns
  refine ⟨[],[],[.lst (ns.map D.int)],⟨rfl,List.nodup_nil,λk a o e=>by simp at e⟩,.cons ?_ .nil,rfl,.bl true,mu',e,λth' H' _ _ v rv=>rv⟩
  unfold Rep
  refine ⟨a,ns.map V.int,rfl,?_,Pk ns,by rw [Af];exact AL hl (by decide)⟩
  rcases hS with hS|hS
  ·exact .inl ⟨by simp,hS⟩
  ·exact .inr hS) λ_ _ _ _ _ z=>z
end PG
local macro_rules(kind:=Lean.Parser.Term.structInst)|s=>do
 let g:=s[2][0]
 let x:=g[10]
 let y:=x[1]
 if x[0][0].getId.eraseMacroScopes != `frame||y[2][2].getNumArgs<1 then Lean.Macro.throwUnsupported
 return s.setArg 2 (s[2].setArg 0 (g.setArg 10 (x.setArg 1 (y.setArg 2 (y[2].setArg 2 (Lean.mkIdent `none))))))
open PySem PySem.W PyProof.Rows
set_option maxRecDepth 100000 in
set_option maxHeartbeats 0 in
theorem PySem.Challenge.cw_lookback_k66_books_or_not_holds : PySem.Challenge.rw_lookback_k66_books_or_not.Holds := by
 w_on;o_law;k_head;(case hw=>w_witness2)
 k_fill
 refine PG.walk (l:=PySem.Challenge.rw_lookback_k66_books_or_not) rfl rfl (λw h Y=>PySem.W.kIn_of Y) ?F
 case F =>
  intro w mg fa h KX G hmg
  refine' PG.all_mk KX G hmg ?h1 ?h2 ?h3 ?h4 ?h5 ?h6 ?h7 ?h8 ?h9 ?h10 ?h11 ?h12 ?h13 ?h14 ?h15 ?h16 ?h17 ?h18 ?h19 ?h20 ?h21 ?h22 ?h23 ?h24 ?h25 ?h26 ?h27 ?h28 ?h29 ?h30 ?h31 ?h32 ?h33 ?h34 ?h35 ?h36 ?h37 ?h38 ?h39 ?z1 ?z2 ?z3 ?z4 ?z5 ?z6 ?z7 ?z8 ?z9 ?z10 ?z11 ?z12 ?z13 ?z14 ?g1 ?g2 ?g3 ?g4 ?g5 ?q1 ?m1
  case h1|h2|h3|h4|h5|h6|h7|h8|h9|h10|h11|h12|h13|h14|h15|h16|h17|h18|h19|h20|h21|h22|h23|h24|h25|h26|h27|h28|h29|h30|h31|h32|h33|h34|h35|h36|h37|h38|h39=>(refine' PG.fh ?a ?l ?c ?k;(case a=>k_is);(case l=>k_is);(case c=>k_is);(case k=>k_is))
  (case z1=>k_is);(case z2=>k_is);(case z3=>k_is);(case z4=>k_is);(case z5=>k_is);(case z6=>k_is)
  (case z7=>k_is);(case z8=>k_is);(case z9=>k_is);(case z10=>k_is);(case z11=>k_is);(case z12=>k_is)
  (case z13=>k_is);(case z14=>k_is);(case g1=>k_is);(case g2=>k_is);(case g3=>k_is);(case g4=>k_is)
  (case g5=>k_is);(case q1=>k_is);(case m1=>k_is)
