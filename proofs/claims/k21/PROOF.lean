import PyProof.Rows.All
import Wide.All
import OpenK.AllK
import Wide.FinOn
import Lean
import PyProof.EqAt
import PyProof.EqKinds
import PyProof.TupleCall
import PyProof.FactsAll.tuple_2
import PySem.Syntax
import PySem.Builtin.Str.Common
import PyProof.ReprReads
import PyProof.TupleKey
import PyProof.DictRoadsH
import PyProof.Rows.TupTab
import PyProof.RaisesMany
import PyProof.NeKinds
import PyProof.StrLaws
import PyProof.ReprRoads
import PyProof.FitsInt
import KE.KIsAll
import OpenK.KOwn
import PyProof.RulesDel
import PyProof.RulesAs
import PyProof.ExcArgsOwn
import PyProof.ExcAttrAll.ValueError
import PyProof.InstStoreFacts
import OpenK.KDescr
import PyProof.Rows.SetFrom
import PyProof.SetRoads
import PyProof.PureStr
import PyProof.ZipIter
import PyProof.StrWalks
import PyProof.EnumFor
import PyProof.EnumStmt
import PyProof.DictTable
import PyProof.ListNew
import PyProof.AutoListH
import PyProof.AttrMissHeap
import KE.KDictOf
import PySem.Challenge.RW_handpromise_k21_weavings_woven
set_option genSizeOf false
set_option genInjectivity false
set_option bootstrap.genMatcherCode false
set_option Elab.async false
set_option linter.all false
def Aa:=@PySem.wpAny_bind
def Ab:=@PySem.Heap.get?_push_of_some
def Ac:=@List.getElem?_set_ne.{0}
def Ad:=@List.getElem?_eq_getElem.{0}
def Ae:=@List.size_toArray.{0}
def Af:=@List.getD_eq_getElem?_getD.{0}
def Ag:=@PySem.Heap.lt_size
def Ah:=@Option.some.inj.{0}
def Ai:=@Nat.le_refl
def Aj:=@decide_eq_true
def Ak:=@List.mem_cons_of_mem.{0}
def Al:=@PySem.wpAny_pure
def Am:=@decide_eq_true_eq
def An:=@decide_eq_false
def Ao:=@PySem.Heap.get?_push_size
def Ap:=@Nat.lt_of_lt_of_le
def Aq:=@PySem.Heap.get?_update_other
def Ar:=@List.getElem?_set_self.{0}
def As:=@List.mem_cons_self.{0}
def Au:=@of_decide_eq_true
def Av:=@List.mem_map.{0,0}
def Aw:=@List.length_set.{0}
def Ax:=@List.mem_append_right.{0}
def Ay:=@List.getElem?_eq_some_iff.{0}
def Az:=@List.all_eq_true.{0}
def A0:=@Nat.ne_of_lt
def A1:=@Nat.le_trans
def A2:=@Array.getElem?_eq_some_iff.{0}
def A3:=@List.mem_cons.{0}
def A4:=@List.length_take.{0}
def A5:=@List.getElem?_map.{0,0}
def A6:=@PySem.wpAny_field
def A7:=@List.getElem_mem.{0}
def A8:=@Nat.lt_irrefl
def A9:=@Bool.or_eq_true
def Ba:=@List.length_replicate.{0}
def Bb:=@beq_eq_false_iff_ne.{0}
def Bc:=@Nat.add_sub_cancel_left
def Bd:=@List.zip_cons_cons.{0,0}
def Be:=@Int.emod_lt_of_pos
def Bf:=@Option.map_eq_some_iff.{0,0}
def Bg:=@List.getElem?_append_right.{0}
def Bh:=@PySem.Obj.data_mapFields
def Bj:=@List.map_map.{0,0,0}
def Bk:=@List.replicate_succ.{0}
def Bl:=@Int.emod_nonneg
def Bm:=@List.mem_append_left.{0}
def Bo:=@PySem.wpAny_mono
def Bp:=@PySem.wpAny_setField_rec
def Bq:=@PyProof.Rows.slot_tuple_getitem
def Br:=@PySem.Heap.get?_update_self
def Bs:=@Int.toNat_of_nonneg
def Bt:=@PySem.wpAny_callSpecial?_slot
def Bu:=@beq_self_eq_true.{0}
def Bv:=@List.getElem?_append_left.{0}
def Bw:=@List.mem_singleton.{0}
def Bx:=@List.map_append.{0,0}
def Bz:=@PySem.sizeLine_eq
def B0:=@PySem.mem_of_lookup
def B1:=@PySem.wpAny_loadPart_at
def B2:=@List.foldl_cons.{0,0}
def B3:=@Nat.ne_of_gt
def B4:=@PySem.wpAny_newObj_type
def B5:=@PySem.Obj.isFreed_of_fields
def B6:=@PySem.Heap.size_push
def B7:=@List.mem_append.{0}
def B8:=@List.append_nil.{0}
def B9:=@PySem.wpAny_Call_Name_kw
def Cc:=@List.getElem?_replicate.{0}
def Cd:=@List.length_drop.{0}
def Ce:=@Nat.lt_succ_self
def Cf:=@PyProof.Rows.callWith_type1
def Cg:=@PySem.wpAny_truthy_bool
def Ch:=@List.flatten_cons.{0}
def Ci:=@beq_iff_eq.{0}
def Cj:=@List.take_succ_eq_append_getElem.{0}
def Ck:=@Array.length_toList.{0}
def Cm:=@List.map_congr_left.{0,0}
def Co:=@PySem.W.kia_one
def Cp:=@PySem.wpAny_call_entry
def Cq:=@PySem.wpAny_standAt
def Cr:=@Bool.not_eq_true'
def Cs:=@Option.some.injEq.{0}
def Cu:=@List.length_range
def Cv:=@List.nodup_cons.{0}
def Cw:=@List.filterMap_cons.{0,0}
def Cy:=@Bool.false_ne_true
def Cz:=@List.mem_filterMap.{0,0}
def C0:=@PySem.wpAny_setField
def C3:=@PySem.F.slot_tuple_iterator_next
def C4:=@PySem.wpAny_seqItems
def C5:=@List.length_singleton.{0}
def C6:=@List.nil_append.{0}
def C7:=@PySem.wpAny_holding
def C8:=@List.mem_range
def C9:=@PyProof.Rows.callWith_builtin1
def Da:=@List.take_length.{0}
def Db:=@PySem.AutoSeq1.wpAny_loadPart'
def Dc:=@List.cons_append.{0}
def Dd:=@Nat.zero_le
def De:=@PySem.Calls.spliced_cons
def Df:=@List.length_append.{0}
def Dg:=@PySem.F.attrBase_ValueError
def Dh:=@PySem.F.slot_enumerate_next
def Di:=@List.append_assoc.{0}
def Dj:=@Nat.lt_succ_of_lt
def Dk:=@PySem.F.excBase_ValueError
def Dl:=@List.mem_flatMap.{0,0}
def Dm:=@PySem.W.looks_findIn
def Dn:=@List.getElem_map.{0,0}
def Dp:=@PySem.wpAny_isSubtype_exc
def Dq:=@PySem.F.args_tuple_add_2
def Dr:=@List.all_cons.{0}
def Ds:=@Bool.not_true
def Dt:=@PySem.wpAny_passesOwn
def Du:=@List.of_mem_zip.{0,0}
def Dv:=@Option.map_some.{0,0}
def Dw:=@PySem.call_meets
def Dy:=@Nat.not_lt
def Dz:=@List.getElem_range
def D1:=@PySem.F.entry_tuple_add
def D2:=@List.length_eq_zero_iff.{0}
def D3:=@PySem.F.plainAttrs_list
def D4:=@PySem.W.cellsFrom_some
def D5:=@PySem.F.slot_tuple_add
def D6:=@List.range_succ_eq_map
def D7:=@Int.toNat_natCast
def D8:=@List.map_inj_left.{0,0}
def D9:=@List.zip_nil_left.{0,0}
theorem nf{p:Prop}(h:false=true):p:=absurd h Cy
def gS:=@List.getElem?_cons_succ.{0}
def gZ:=@List.getElem?_cons_zero.{0}
def lS:=@List.set_cons_succ.{0}
def lZ:=@List.set_cons_zero.{0}
def bF:=@Bool.false_eq_true
def lC:=@List.length_cons.{0}
def lN:=@List.length_nil.{0}
def lA:=@List.length_append.{0}
def mC:=@List.map_cons.{0,0}
def mN:=@List.map_nil.{0,0}
def lM:=@List.length_map.{0,0}
def mG:=@List.mem_of_getElem?.{0}
def bN:=@Bool.false_ne_true
def bA:=@Bool.and_eq_true
noncomputable section
set_option maxRecDepth 100000
namespace L2
open PySem PySem.Spec PyProof.Rows
abbrev Key:=Sum Int Str
def vF:Key->Value->Bool
 | .inl k,v=>Value.isInt k v|.inr x,v=>Value.isStrOf x v
def aNg(w:World):Key->Int
 | .inl k=>hashInt k|.inr x=>hashStr w x
theorem keyIs_shape:∀{k:Key} {v:Value},vF k v=true->(∃i t,k=Sum.inl i/\v=Value.int i t)\/(∃x t,k=Sum.inr x/\v=Value.str x t)
 | .inl i,v,h=>by obtain⟨t,e⟩:=Value.isInt_shape (k:=i) (v:=v) h;exact .inl ⟨i,t,rfl,e⟩|.inr x,v,h=>by obtain⟨t,e⟩:=Value.isStrOf_shape (x:=x) (v:=v) h;exact .inr ⟨x,t,rfl,e⟩
theorem aBC(x:Str)(t:Tok):vF (.inr x) (.str x t)=true:=by simp[vF,Value.isStrOf]
theorem aHD(a b:Int):decide ((Sum.inl a:Key)=Sum.inl b)=(a==b):=by by_cases e:a=b;subst e;simp;have h:¬ (Sum.inl a:Key)=Sum.inl b:=λq=>e (Sum.inl.inj q);rw[An h];exact(Bb.mpr e).symm
theorem aHE(a b:Str):decide ((Sum.inr a:Key)=Sum.inr b)=decide (a=b):=by by_cases e:a=b;subst e;simp;have h:¬ (Sum.inr a:Key)=Sum.inr b:=λq=>e (Sum.inr.inj q);rw[An h,An e]
theorem aHF(a:Int)(b:Str):decide ((Sum.inl a:Key)=Sum.inr b)=false:=An (λq=>nomatch q)
theorem aHG(a:Str)(b:Int):decide ((Sum.inr a:Key)=Sum.inl b)=false:=An (λq=>nomatch q)
def gM(prog:Program)(w:World):PySem.KeyKind prog w Key where
 is:=vF
 hash:=aNg w
 inj:=λv a b ha hb=>by
  rcases keyIs_shape ha with⟨i,t,rfl,rfl⟩|⟨x,t,rfl,rfl⟩
  rcases keyIs_shape hb with⟨j,u,rfl,e⟩|⟨y,u,rfl,e⟩
  injection e with e1 _;rw[e1]
  exact nomatch e;rcases keyIs_shape hb with⟨j,u,rfl,e⟩|⟨y,u,rfl,e⟩
  exact nomatch e;injection e with e1 _;rw[e1]
 byValue:=λk v h=>by rcases keyIs_shape h with⟨i,t,rfl,rfl⟩|⟨x,t,rfl,rfl⟩ <;> rfl
 pyHash:=λhv h=>by
  rcases keyIs_shape hv with⟨i,t,rfl,rfl⟩|⟨x,t,rfl,rfl⟩
  exact wpAny_pyHash_int h;exact wpAny_pyHash_str h
 eqBool:=λhu hv h=>by
  rcases keyIs_shape hu with⟨i,t,rfl,rfl⟩|⟨x,t,rfl,rfl⟩
  rcases keyIs_shape hv with⟨j,u,rfl,rfl⟩|⟨y,u,rfl,rfl⟩
  rw[aHD] at h;exact wpAny_eqBool_int h;rw[aHF] at h;exact SeqAt.EqAt.int_str i t y u _ _ _ _ h;rcases keyIs_shape hv with⟨j,u,rfl,rfl⟩|⟨y,u,rfl,rfl⟩
  rw[aHG] at h;exact SeqAt.EqAt.str_int x t j u _ _ _ _ h;rw[aHE] at h;exact wpAny_eqBool_str h
 «strs»:=λk x t v h=>by
  rcases keyIs_shape h with⟨i,u,rfl,e⟩|⟨y,u,rfl,e⟩
  exact nomatch e;injection e with e1 _
  subst e1;cases v <;> rfl
end L2
namespace L2
open PySem PySem.Spec PyProof.Rows
inductive V where
 | non|bl (b:Bool)|int (i:Int)|str (x:Str)|byt (b:Array UInt8)|flt (b:UInt64)|ref (a:Addr)|ty (n:String)
 deriving DecidableEq
def bI:V->Value->Prop
 | .non,u=>u=Value.none|.bl b,u=>u=Value.bool b|.int i,u=>∃t,u=Value.int i t|.str x,u=>∃t,u=Value.str x t|.byt b,u=>∃t,u=Value.bytes b t|.flt b,u=>∃t,u=Value.float b t|.ref a,u=>u=Value.ref a|.ty n,u=>u=Value.type n
abbrev bC:List V->List Value->Prop:=Paired bI
theorem bC.length{xs:List V}{us:List Value}(r:bC xs us):xs.length=us.length:=Paired.length r
theorem bC.get:∀{xs:List V} {us:List Value} {i:Nat} {x:V},bC xs us->xs[i]? = some x->∃u,us[i]? = some u/\bI x u
 | _,_,_,_,.nil,e=>by simp at e|_,_,0,_,.cons r _,e=>by simp at e;subst e;exact⟨_,rfl,r⟩|_,_,i+1,x,.cons _ t,e=>by obtain⟨u,h1,h2⟩:=bC.get (i:=i) (x:=x) t (by simpa using e);exact⟨u,by simpa using h1,h2⟩
theorem bC.set(r:bI x u):∀{xs:List V} {us:List Value} (i:Nat),bC xs us->bC (xs.set i x) (us.set i u)
 | _,_,_,.nil=>.nil|_,_,0,.cons _ t=>.cons r t|_,_,i+1,.cons q t=>.cons q (bC.set r i t)
theorem bC.append:∀{xs ys:List V} {us ws:List Value},bC xs us->bC ys ws->bC (xs++ys) (us++ws)
 | _,_,_,_,.nil,s=>s|_,_,_,_,.cons r t,s=>.cons r (bC.append t s)
theorem bC.take:∀{xs:List V} {us:List Value} (n:Nat),bC xs us->bC (xs.take n) (us.take n)
 | _,_,0,_=>.nil|_,_,_+1,.nil=>.nil|_,_,n+1,.cons r t=>.cons r (bC.take n t)
theorem bC.drop:∀{xs:List V} {us:List Value} (n:Nat),bC xs us->bC (xs.drop n) (us.drop n)
 | _,_,0,r=>r|_,_,_+1,.nil=>.nil|_,_,n+1,.cons _ t=>bC.drop n t
def aCF:Option V->Option Value->Prop
 | some v,some u=>bI v u|none,none=>True|_,_=>False
def KV{κ:Type}:List (κ×V)->List (κ×Value)->Prop:=Paired λ(p:κ×V) (q:κ×Value)=>p.1=q.1/\bI p.2 q.2
def kV:Key->V
 | .inl i=>.int i|.inr x=>.str x
set_option genInjectivity true in
inductive HO where
 | lst (xs:List V)
 | tup (xs:List V)
 | dK (kvs:List (Key×V))|dT (kvs:List (List Key×V))
 | set (S:Int->Bool) (n:Nat)
 | ins (C dx:Addr) (fs:List (Str×V))
 | own (x:Addr)
 | xd (fs:List (Str×V))
 | met (f x:Addr)
 | rng (lo hi:Int)
 | frz (o:Obj) (u:HO)
 | tbl (ps:Array Value)
 | ext (φ:Heap->Prop)
abbrev Hp:=Addr->Option HO
def upd(H:Hp)(a:Addr)(o:HO):Hp:=λb=>if b=a then some o else H b
theorem aS:upd H a o a=some o:=by unfold upd;rw[if_pos rfl]
theorem aF(h:b≠a):upd H a o b=H b:=by unfold upd;rw[if_neg h]
theorem bG{H:Hp}{a b:Addr}{o:HO}(h:H a=some o)(h':H b=none):a≠b:=by intro e;subst e;rw[h] at h';cases h'
section
variable (P:Program) (w:World)
def cV(H:Hp)(h:Heap)(a:Addr):HO->Prop
 | .lst xs=>xs.length<=sizeLine/\∃(its:List Value) (n:Nat),bC xs its/\h.get? a=some { cls:=.type "list",data:=.seq its.toArray n }|.tup xs=>xs.length<=sizeLine/\∃its:List Value,bC xs its/\IsTup h a its.toArray|.dK kvs=>kvs.length<=sizeLine/\(a==sysModules)=false/\∃vs,KV kvs vs/\h.DictOf (gM P w) a vs|.dT kvs=>kvs.length<=sizeLine/\(a==sysModules)=false/\∃xs:List (List Key×Addr×Value),
  Paired (λ(p:List Key×V) (q:List Key×Addr×Value)=>p.1=q.1/\H q.2.1=some (.tup (p.1.map kV))/\bI p.2 q.2.2) kvs xs /\
  ∃o es ep,h.get? a=some o/\o.ExactDict/\o.data=.dict es ep/\es.toList=xs.map (entryOfKey (tupleKind (gM P w)))/\(xs.map (·.1)).Nodup
 | .set S n=>h.SetOf (intKind P w) a S n|.ins C dx fs=>H dx=some (.own a)/\fs.length<=1000/\dx≠a/\h.get? a=some (PySem.W.instObj C dx) /\
  ∃mA,h.Ns1 dx mA/\(∀f,aCF (fs.lookup f) (mA f))/\PySem.Within mA (fs.map (·.1))
 | .own _=>∃o,h.get? a=some o|.xd fs=>∃mA,h.Ns1 a mA/\∀f,aCF (fs.lookup f) (mA f)|.rng lo hi=>∃t u v,h.get? a=some { cls:=.type "range",data:=.fields #[.int lo t,.int hi u,.int 1 v] }|.frz o u=>h.get? a=some o/\cV H h a u|.tbl ps=>h.get? a=some { cls:=.none,data:=.fields ps }|.met f x=>h.get? a=some (PySem.W.methodObj (.ref f) (.ref x))|.ext φ=>φ h/\(∃o,h.get? a=some o)/\∀h1 h2:Heap,φ h1->(∀o,h1.get? a=some o->h2.get? a=some o)->φ h2
def HOk(H:Hp)(h:Heap):Prop:=∀a o,H a=some o->cV P w H h a o
end
section
variable {P:Program} {w:World} {H H':Hp} {h h':Heap} {a:Addr} {o:HO}
theorem cV.lt(x:cV P w H h a o):a<h.objs.size:=by
 cases o with
 | lst xs=>obtain⟨_,_,_,_,e⟩:=x;exact Ag e|tup xs=>obtain⟨_,_,_,p⟩:=x;exact p.lt|dK kvs=>obtain⟨_,_,_,_,o,_,_,e,_⟩:=x;exact Ag e|dT kvs=>obtain⟨_,_,_,_,o,_,_,e,_⟩:=x;exact Ag e|set S n=>obtain⟨o,_,_,_,e,_⟩:=x;exact Ag e|ins C dx fs=>obtain⟨_,_,_,e,_⟩:=x;exact Ag e|own y=>obtain⟨_,e⟩:=x;exact Ag e|xd fs=>obtain⟨_,⟨_,_,_,e,_⟩,_⟩:=x;exact Ag e|rng lo hi=>obtain⟨_,_,_,e⟩:=x;exact Ag e|frz ob u=>obtain⟨e,_⟩:=x;exact Ag e|tbl ps=>exact Ag (show h.get? a=some _ from x)|met f y=>exact Ag (show h.get? a=some _ from x)|ext φ=>obtain⟨_,⟨_,e⟩,_⟩:=x;exact Ag e
theorem Paired.mapP{α β:Type}{F G:α->β->Prop}:∀{l₁:List α} {l₂:List β},Paired F l₁ l₂->(∀a b,F a b->G a b)->Paired G l₁ l₂
 | _,_,.nil,_=>.nil|_,_,.cons r t,f=>.cons (f _ _ r) (Paired.mapP t f)
theorem cV.stay(x:cV P w H h a o)(k:∀b u,(b=a\/H b=some (.own a))->h.get? b=some u->h'.get? b=some u)
 (ho:∀b,H b=some (.own a)->H' b=some (.own a)) (ht:∀b xs,H b=some (.tup xs)->H' b=some (.tup xs)):cV P w H' h' a o:=by
 induction o with
 | lst xs=>obtain⟨z,its,n,r,e⟩:=x;exact⟨z,its,n,r,k _ _ (.inl rfl) e⟩|tup xs=>obtain⟨z,its,r,ob,e,c⟩:=x;exact⟨z,its,r,ob,k _ _ (.inl rfl) e,c⟩|dK kvs=>obtain⟨z,y,vs,r,ob,es,ep,e,c⟩:=x;exact⟨z,y,vs,r,ob,es,ep,k _ _ (.inl rfl) e,c⟩|dT kvs=>obtain⟨z,y,xs,r,ob,es,ep,e,c⟩:=x;exact⟨z,y,xs,Paired.mapP r λp q z=>⟨z.1,ht _ _ z.2.1,z.2.2⟩,ob,es,ep,k _ _ (.inl rfl) e,c⟩|set S n=>obtain⟨ob,es,ep,t,e,c⟩:=x;exact⟨ob,es,ep,t,k _ _ (.inl rfl) e,c⟩|ins C dx fs=>obtain⟨d,z,ne,e,mA,⟨od,es,ep,e2,c⟩,r⟩:=x;exact⟨ho _ d,z,ne,k _ _ (.inl rfl) e,mA,⟨od,es,ep,k _ _ (.inr d) e2,c⟩,r⟩|own y=>obtain⟨ob,e⟩:=x;exact⟨ob,k _ _ (.inl rfl) e⟩|xd fs=>obtain⟨mA,⟨od,es,ep,e,c⟩,r⟩:=x;exact⟨mA,⟨od,es,ep,k _ _ (.inl rfl) e,c⟩,r⟩|rng lo hi=>obtain⟨t,u,v,e⟩:=x;exact⟨t,u,v,k _ _ (.inl rfl) e⟩|frz ob u ih=>obtain⟨e,q⟩:=x;exact⟨k _ _ (.inl rfl) e,ih q⟩|tbl ps=>have e:h.get? a=some { cls:=.none,data:=.fields ps }:=x;show h'.get? a=some { cls:=.none,data:=.fields ps };exact k a _ (.inl rfl) e|met f y=>have e:h.get? a=some (PySem.W.methodObj (.ref f) (.ref y)):=x;show h'.get? a=some (PySem.W.methodObj (.ref f) (.ref y));exact k a _ (.inl rfl) e|ext φ=>obtain⟨p,⟨o,e⟩,st⟩:=x;exact⟨st _ _ p λo q=>k _ _ (.inl rfl) q,⟨o,k _ _ (.inl rfl) e⟩,st⟩
theorem HOk.lt(x:HOk P w H h)(e:H a=some o):a<h.objs.size:=(x a o e).lt
theorem HOk.fresh(x:HOk P w H h)(e:h.objs.size<=a):H a=none:=by
 cases q:H a with
 | none=>rfl|some u=>exact absurd (Ap (x.lt q) e) (A8 _)
theorem HOk.kept(x:HOk P w H h)(k:∀b u,h.get? b=some u->h'.get? b=some u):HOk P w H h':=λa o e=>(x a o e).stay (λb u _ q=>k b u q) (λ_ q=>q) λ_ _ q=>q
theorem HOk.laid(x:HOk P w H h)(k:∀b u,h.get? b=some u->h'.get? b=some u)(hp:h.objs.size<=a)(new:cV P w (upd H a o) h' a o):HOk P w (upd H a o) h':=λb u e=>by have hn:=x.fresh hp;by_cases hb:b=a;subst hb;rw[aS] at e;cases e;exact new;rw[aF hb] at e;exact(x b u e).stay (λc v _ q=>k c v q) (λc q=>by rw[aF (bG q hn)];exact q) λc xs q=>by rw[aF (bG q hn)];exact q
end
def Rd(H:Hp)(a:Addr)(u:HO):Prop:=H a=some u\/∃o,H a=some (.frz o u)
theorem Rd.ok(r:Rd H a u)(x:HOk P w H h):cV P w H h a u:=by
 rcases r with r|⟨o,r⟩
 exact x a u r;obtain⟨_,q⟩:=x a _ r;exact q
def Mut:Option HO->Prop
 | some (.lst _)=>True|some (.dK _)=>True|some (.dT _)=>True|some (.set _ _)=>True|some (.ins _ _ _)=>True|some (.ext _)=>True|_=>False
section
variable {P:Program} {w:World} {H:Hp} {h h':Heap} {x e:Addr} {o':HO}
theorem HOk.write(ok:HOk P w H h)(mu:Mut (H x))(he:e=x\/H e=some (.own x))(k:∀b u,b≠e->h.get? b=some u->h'.get? b=some u)(heo:∃u,h'.get? e=some u)
 (new:cV P w (upd H x o') h' x o'):HOk P w (upd H x o') h':=λb u q=>by
 have nown:∀c y,H c=some (.own y)->c≠x:=λc y r z=>by subst z;rw[r] at mu;exact mu
 have ntup:∀c xs,H c=some (.tup xs)->c≠x:=λc xs r z=>by subst z;rw[r] at mu;exact mu
 by_cases hb:b=x;subst hb;rw[aS] at q;cases q;exact new;rw[aF hb] at q;by_cases hbe:b=e;have q':H b=some (.own x):=by rcases he with z|z;exact absurd (hbe.trans z) hb;rw[hbe];exact z
 rw[q] at q';cases q';obtain⟨v,hv⟩:=heo;exact⟨v,by rw[hbe];exact hv⟩;refine(ok b u q).stay (λc v hc r=>k c v ?_ r) (λc r=>by rw[aF (nown c b r)];exact r) λc xs r=>by rw[aF (ntup c xs r)];exact r
 rcases hc with rfl|hc;exact hbe;rintro rfl;rcases he with z|z;exact nown c b hc z;rw[hc] at z;cases z;exact hb rfl
end
structure Un (fs ex:List Addr) (H H':Hp) (h h':Heap):Prop where
 keep:∀b o,h.get? b=some o->H b=none->b∉fs->b∉ex->h'.get? b=some o
 slot:∀b o,h.get? b=some o->H b=none->b∈fs->b∉ex->∃sl,h'.get? b=some { o with slots:=sl }
 free:∀b o,h.get? b=some o->H b=none->b∉ex->H' b=none
 there:∀b o,h.get? b=some o->b∉ex->∃o',h'.get? b=some o'
 tups:∀b xs,H b=some (.tup xs)->H' b=some (.tup xs)
 frzs:∀b o u,H b=some (.frz o u)->H' b=some (.frz o u)
 tbls:∀b ps,H b=some (.tbl ps)->∃more,H' b=some (.tbl (ps++more))
section
variable {fs fs' ex ex':List Addr} {H H1 H2:Hp} {h h1 h2 h':Heap} {a x e:Addr} {o:HO}
theorem Un.any(u:Un fs ex H H1 h h1)(q:h.get? b=some ob)(n:H b=none)(hx:b∉ex):∃sl,h1.get? b=some { ob with slots:=sl }:=by by_cases hb:b∈fs;exact u.slot b ob q n hb hx;exact⟨ob.slots,u.keep b ob q n hb hx⟩
theorem Un.kept(k:∀b u,h.get? b=some u->h'.get? b=some u):Un fs ex H H h h':=
 ⟨λb ob q _ _ _=>k b ob q,λb ob q _ _ _=>⟨ob.slots,k b ob q⟩,λ_ _ _ n _=>n,λb ob q _=>⟨ob,k b ob q⟩,λ_ _ q=>q,λ_ _ _ q=>q,λ_ ps q=>⟨#[],by rw[q];simp⟩⟩
theorem Un.refl:Un fs ex H H h h:=Un.kept λ_ _ q=>q
theorem Un.laid(k:∀b u,h.get? b=some u->h'.get? b=some u)(hp:h.objs.size<=a)(hn:H a=none):Un fs ex H (upd H a o) h h' where
 keep:=λb u q _ _ _=>k b u q
 slot:=λb u q _ _ _=>⟨u.slots,k b u q⟩
 free:=λb u q n _=>by rw[aF (A0 (Ap (Ag q) hp))];exact n
 there:=λb u q _=>⟨u,k b u q⟩
 tups:=λb xs q=>by rw[aF (bG q hn)];exact q
 frzs:=λb u xs q=>by rw[aF (bG q hn)];exact q
 tbls:=λb ps q=>⟨#[],by rw[aF (bG q hn),q];simp⟩
theorem Un.write(mu:Mut (H x))(he:e=x\/H e=some (.own x))(k:∀b u,b≠e->h.get? b=some u->h'.get? b=some u)(heo:∃u,h'.get? e=some u):Un fs ex H (upd H x o) h h':=by
 have hx:∀b,H b=none->b≠x:=λb n z=>by subst z;rw[n] at mu;exact mu
 have hb:∀b,H b=none->b≠e:=λb n z=>by subst z;rcases he with r|r;exact hx b n r;rw[n] at r;cases r
 have hm:∀b u,H b=some u->¬ Mut (some u)->b≠x:=λb u q nm z=>by subst z;rw[q] at mu;exact nm mu
 refine⟨λb u q n _ _=>k b u (hb b n) q,λb u q n _ _=>⟨u.slots,k b u (hb b n) q⟩,λb u q n _=>by rw[aF (hx b n)];exact n,λb u q _=>?_,
  λb xs q=>by rw[aF (hm b _ q λz=>z)];exact q,λb u xs q=>by rw[aF (hm b _ q λz=>z)];exact q,λb ps q=>⟨#[],by rw[aF (hm b _ q λz=>z),q];simp⟩⟩
 by_cases hbe:b=e;subst hbe;exact heo;exact⟨u,k b u hbe q⟩
end
def trk(h:Heap)(H:Hp):List Addr:=(List.range h.objs.size).filter λa=>(H a).isSome
def sQ(h:Heap)(H:Hp):Heap:=PySem.W.hideAll h (trk h H)
theorem aBD(h:Heap)(H:Hp):(sQ h H).objs.size=h.objs.size:=PySem.W.hideAll_size _ _
theorem aCG{h:Heap}(e:h.get? b=some o)(n:H b=none):(sQ h H).get? b=some o:=
 PySem.W.hideAll_get _ e λhm=>by have q:(H b).isSome=true:=(List.mem_filter.mp hm).2;rw[n] at q;simp at q
theorem aFq{h:Heap}(e:(sQ h H).get? b=some o):h.get? b=some o/\H b=none:=by
 have e':h.get? b=some o:=PySem.W.of_hideAll (trk h H) e;refine⟨e',?_⟩;cases q:H b with
 | none=>rfl|some x=>have hm:b∈trk h H:=List.mem_filter.mpr ⟨C8.mpr (Ag e'),by simp[q]⟩;have z:(sQ h H).get? b=none:=PySem.W.hideAll_none (trk h H) hm;rw[z] at e;cases e
def aFr(g h:Heap)(L:Addr):List (Addr×Obj):=(List.range h.objs.size).filterMap λa=>if a=L\/(g.get? a).isSome=true then none else (h.get? a).map λo=>(a,o)
def rest(g h:Heap)(L d:Addr):List (Addr×Obj):=(aFr g h L).filter λp=>decide (p.1≠d)
end L2
namespace L2
open PySem PySem.Spec PyProof.Rows
structure Mod (K:PySem.W.Frag) (mg:Str->Option Value) (base:Heap):Prop where
 kin:K.In base
 glob:base.Ns mainGlobals mg
 blt:∃mb,base.Ns builtinsNs mb/\∀x:Str,x ≠ "__name__" -> mb x=bootBuiltins x
 nolimit:base.NoLimit
set_option genInjectivity true in
structure Cx where
 prog:Program
 w:World
 K:PySem.W.Frag
 mg:Str->Option Value
 base:Heap
 A:Around
 N:List Str
 s₀:Shared
 H₀:Hp
 env:Env
 outer:List Env
 stack:List Env
 ex:List Addr
 fn:Str->Bool
 calm:Bool
 pn:List (Addr×Obj)
 xe:Value->Shared->Prop
def frs(l:List Env):List Addr:=l.filterMap (·.frame)
abbrev Cx.fs(X:Cx):List Addr:=frs X.outer
def Vis(sc:Scope)(x:Str):Prop:=sc.names.lookup x=some .local\/sc.names.lookup x=some .cell\/sc.names.lookup x=some .free
def Loc(sc:Scope)(x:Str):Prop:=sc.names.lookup x=some .local\/sc.names.lookup x=some .cell
def aNh(env:Env)(h:Heap)(m:Str->Option Value)(x:Str)(u:Value):Prop:=
 (env.kindOf x=some .local/\m x=some u)\/((env.kindOf x=some .cell\/env.kindOf x=some .free)/\∃c,env.cells.lookup x=some c/\h.IsCell c (some u))
structure Cx.Ok (X:Cx):Prop where
 mod:Mod X.K X.mg X.base
 kind:X.env.scope.kind=.function
 glob:X.env.globals=mainGlobals
 blt:X.env.builtins=builtinsNs
 above:X.s₀.heap.objs.size<=X.env.locals
 inj:∀x y c,X.env.cells.lookup x=some c->X.env.cells.lookup y=some c->x=y
 has:∀x,(X.env.kindOf x=some .cell\/X.env.kindOf x=some .free)->∃c,X.env.cells.lookup x=some c
 cab:∀x c,X.fn x=true->X.env.cells.lookup x=some c->X.s₀.heap.objs.size<=c
 hd:X.calm=true->X.A.handled=none
 frames:X.A.frames=some X.stack
 stk:X.stack=X.outer\/(X.stack=X.env::X.outer/\X.env.frame=some X.env.locals)
 exf:∀b∈X.ex,b≠X.env.locals/\∀x c,X.env.cells.lookup x=some c->c≠b
 bs:∀b o,X.base.get? b=some o->X.s₀.heap.get? b=some o/\X.H₀ b=none
 bsz:X.base.objs.size<=X.s₀.heap.objs.size
 noex:∀b o,X.base.get? b=some o->b∉X.ex
 exfs:∀b∈X.ex,b∉X.fs
 funs:X.s₀.heap.FunFrames X.base X.outer
 frf:∀b∈X.fs,X.H₀ b=none
structure Inv (X:Cx) (pins:List (Addr×Obj)) (σ:List (Option V)) (H:Hp) (s:Shared):Prop where
 ok:X.Ok
 os:s.os=X.s₀.os
 bare:AllBare s.gens
 base:Un X.fs X.ex X.H₀ H X.s₀.heap s.heap
 loc:∃m,s.heap.Ns X.env.locals m/\∀(i:Nat) (x:Str) (v:V),X.N[i]? = some x->σ[i]? = some (some v)->Vis X.env.scope x->∃u,bI v u/\aNh X.env s.heap m x u
 cell:∀x c,X.env.cells.lookup x=some c->∃v,s.heap.IsCell c v
 free:H X.env.locals=none
 freeC:∀x c,X.env.cells.lookup x=some c->H c=none
 pin:∀p∈X.pn++pins,s.heap.get? p.1=some p.2/\H p.1=none/\p.1≠X.env.locals/\p.1∉X.fs/\∀v,p.2.data≠.cell v
 hok:HOk X.prog X.w H s.heap
 len:σ.length=X.N.length
section
variable {X:Cx} {pins:List (Addr×Obj)} {σ:List (Option V)} {H H':Hp} {s:Shared} {h':Heap}
theorem Cx.Ok.nofr(ok:X.Ok)(e:X.base.get? b=some o):b∉X.fs:=λhb=>by have:=(ok.funs.mem hb).1;rw[e] at this;cases this
theorem Inv.bs(I:Inv X pins σ H s):∀b o,X.base.get? b=some o->s.heap.get? b=some o/\H b=none:=λb o e=>⟨I.base.keep b o (I.ok.bs b o e).1 (I.ok.bs b o e).2 (I.ok.nofr e) (I.ok.noex b o e),I.base.free b o (I.ok.bs b o e).1 (I.ok.bs b o e).2 (I.ok.noex b o e)⟩
theorem Inv.bk(I:Inv X pins σ H s):∀b o,X.base.get? b=some o->s.heap.get? b=some o:=λb o e=>(I.bs b o e).1
theorem Inv.mod(I:Inv X pins σ H s):Mod X.K X.mg X.base:=I.ok.mod
theorem Inv.kIn(I:Inv X pins σ H s):X.K.In s.heap:=I.ok.mod.kin.keeps I.bk
theorem Inv.lt(I:Inv X pins σ H s):X.env.locals<s.heap.objs.size:=let ⟨_,hn,_⟩:=I.loc;hn.lt
theorem Inv.sz(I:Inv X pins σ H s):X.s₀.heap.objs.size<=s.heap.objs.size:=A1 I.ok.above (Nat.le_of_lt I.lt)
theorem Inv.nofs(I:Inv X pins σ H s)(h:s.heap.objs.size<=a):a∉X.fs:=λhb=>by obtain⟨_,o,ho,_⟩:=I.ok.funs.mem hb;exact absurd (Ap (Ag ho) (A1 I.sz h)) (A8 _)
theorem Inv.cne(I:Inv X pins σ H s):∀x c,X.env.cells.lookup x=some c->c≠X.env.locals:=λx c e z=>by obtain⟨v,o,ho,hd⟩:=I.cell x c e;obtain⟨m,⟨o',es,ep,ho',hd',_⟩,_⟩:=I.loc;rw[z,ho'] at ho;cases ho;rw[hd'] at hd;cases hd
theorem Inv.funs(I:Inv X pins σ H s):s.heap.FunFrames X.base X.outer:=by
 have all:∀(l:List Env),(∀b∈frs l,b∈X.fs)->X.s₀.heap.FunFrames X.base l->s.heap.FunFrames X.base l:=by
  intro l
  induction l with
  | nil=>intro _ _;trivial|cons env r ih=>intro hs hl;obtain⟨hk,⟨L,o,hf,hn,ho,hd⟩,hr⟩:=hl;have hL:L∈X.fs:=hs L (by unfold frs;rw[Cw,hf];exact As);obtain⟨sl,e⟩:=I.base.slot L o ho (I.ok.frf L hL) hL λz=>I.ok.exfs L z hL;exact⟨hk,⟨L,_,hf,hn,e,hd⟩,ih (λb hb=>hs b (by unfold frs;rw[Cw,hf];exact Ak _ hb)) hr⟩
 exact all X.outer (λ_ hb=>hb) I.ok.funs
theorem Inv.stack(I:Inv X pins σ H s):s.heap.FunFrames X.base X.stack:=by
 rcases I.ok.stk with e|⟨e,hf⟩
 rw[e];exact I.funs;rw[e];obtain⟨m,hn,_⟩:=I.loc;refine .cons (by rw[I.ok.kind];decide) hf hn ?_ I.funs;exact Heap.get?_none_of_le (A1 I.ok.bsz I.ok.above)
theorem Inv.stkSub(I:Inv X pins σ H s):∀b∈frs X.stack,b∈X.env.locals::X.fs:=λb hb=>by
 rcases I.ok.stk with e|⟨e,hf⟩
 rw[e] at hb;exact Ak _ hb;rw[e] at hb;unfold frs at hb;rw[Cw,hf] at hb;exact hb
theorem Inv.stkFree(I:Inv X pins σ H s):∀b∈frs X.stack,H b=none:=λb hb=>by rcases A3.mp (I.stkSub b hb) with e|hb;rw[e];exact I.free;obtain⟨_,o,ho,_⟩:=I.ok.funs.mem hb;exact I.base.free b o ho (I.ok.frf b hb) λz=>I.ok.exfs b z hb
theorem Inv.step{g':Array GenState}{t':Nat}{d':Drawn}{ch:List Addr}(I:Inv X pins σ H s)
 (hch:∀b∈ch,(b∈X.ex\/X.s₀.heap.objs.size<=b)/\b≠X.env.locals/\(∀x c,X.env.cells.lookup x=some c->c≠b)/\∀p∈X.pn++pins,p.1≠b)
 (keep:∀b o,b≠X.env.locals->b∉X.fs->b∉ch->s.heap.get? b=some o->H b=none->h'.get? b=some o)
 (slot:∀b o,b≠X.env.locals->b∈X.fs->b∉ch->s.heap.get? b=some o->H b=none->∃sl,h'.get? b=some { o with slots:=sl }) (free:∀b o,b∉ch->s.heap.get? b=some o->H b=none->H' b=none)
 (there:∀b o,b∉ch->s.heap.get? b=some o->∃o',h'.get? b=some o')
 (tups:∀b xs,H b=some (.tup xs)->H' b=some (.tup xs)) (frzs:∀b o u,H b=some (.frz o u)->H' b=some (.frz o u)) (tbls:∀b ps,H b=some (.tbl ps)->∃more,H' b=some (.tbl (ps++more)))
 (ns:∀m,s.heap.Ns X.env.locals m->h'.Ns X.env.locals m) (hok:HOk X.prog X.w H' h') (hg:AllBare g') :
 Inv X pins σ H' { s with heap:=h',gens:=g',drawn:=d',toks:=t' }:=by
 have neL:∀b o,X.s₀.heap.get? b=some o->b≠X.env.locals:=λb o e=>A0 (Ap (Ag e) I.ok.above);have neC:∀b o,X.s₀.heap.get? b=some o->b∉X.ex->b∉ch:=λb o e hx hb=>by rcases(hch b hb).1 with z|z;exact hx z;exact absurd (Ap (Ag e) z) (A8 _)
 have cellK:∀x c,X.env.cells.lookup x=some c->∀v,s.heap.IsCell c v->h'.IsCell c v:=λx c e v ⟨o,ho,hd⟩=>by have nch:c∉ch:=λz=>(hch c z).2.2.1 x c e rfl;by_cases hc:c∈X.fs;obtain⟨sl,q⟩:=slot c o (I.cne x c e) hc nch ho (I.freeC x c e);exact⟨_,q,hd⟩;exact⟨o,keep c o (I.cne x c e) hc nch ho (I.freeC x c e),hd⟩
 refine⟨I.ok,I.os,hg,⟨λb o e n hb hx=>?_,λb o e n hb hx=>?_,λb o e n hx=>?_,λb o e hx=>?_,λb xs e=>tups b xs (I.base.tups b xs e),λb o xs e=>frzs b o xs (I.base.frzs b o xs e),λb ps e=>?_⟩,?_,λx c e=>?_,?_,λx c e=>?_,λp hp=>?_,hok,I.len⟩;exact keep b o (neL b o e) hb (neC b o e hx) (I.base.keep b o e n hb hx) (I.base.free b o e n hx);obtain⟨sl,e1⟩:=I.base.slot b o e n hb hx;obtain⟨sl',e2⟩:=slot b _ (neL b o e) hb (neC b o e hx) e1 (I.base.free b o e n hx);exact⟨sl',e2⟩;obtain⟨o',e1⟩:=I.base.there b o e hx;exact free b o' (neC b o e hx) e1 (I.base.free b o e n hx);obtain⟨o',e1⟩:=I.base.there b o e hx;exact there b o' (neC b o e hx) e1;obtain⟨m1,e1⟩:=I.base.tbls b ps e;obtain⟨m2,e2⟩:=tbls b _ e1;exact⟨m1++m2,by rw[e2,Array.append_assoc]⟩;obtain⟨m,hn,hl⟩:=I.loc;refine⟨m,ns m hn,λi x v e1 e2 e3=>?_⟩;obtain⟨u,r,l⟩:=hl i x v e1 e2 e3;refine⟨u,r,?_⟩;rcases l with l|⟨k,c,e,z⟩
 exact .inl l;exact .inr ⟨k,c,e,cellK x c e _ z⟩;obtain⟨v,z⟩:=I.cell x c e;exact⟨v,cellK x c e v z⟩;obtain⟨m,⟨o,_,_,ho,_⟩,_⟩:=I.loc;exact free _ o (λz=>(hch _ z).2.1 rfl) ho I.free;obtain⟨v,o,ho,hd⟩:=I.cell x c e;exact free c o (λz=>(hch c z).2.2.1 x c e rfl) ho (I.freeC x c e);obtain⟨e,n,ne,nf,d⟩:=I.pin p hp;have nch:p.1∉ch:=λz=>(hch p.1 z).2.2.2 p hp rfl;exact⟨keep p.1 p.2 ne nf nch e n,free p.1 p.2 nch e n,ne,nf,d⟩
theorem Inv.un{t':Nat}(I:Inv X pins σ H s)(u:Un X.fs [] H H' s.heap h')(hok:HOk X.prog X.w H' h'):Inv X pins σ H' { s with heap:=h',toks:=t' }:=by
 obtain⟨m,⟨o,es,ep,ho,r⟩,_⟩:=id I.loc;obtain⟨sl,hL⟩:=u.any ho I.free (by simp);exact I.step (g':=s.gens) (d':=s.drawn) (ch:=[]) (λ_ z=>nomatch z) (λb o _ hb _ e n=>u.keep b o e n hb (by simp)) (λb o _ hb _ e n=>u.slot b o e n hb (by simp)) (λb o _ e n=>u.free b o e n (by simp)) (λb o _ e=>u.there b o e (by simp)) u.tups u.frzs u.tbls (λm' hm=>by
  obtain⟨o',es',ep',ho',r'⟩:=hm;rw[ho] at ho';cases ho';exact⟨_,es',ep',hL,r'⟩) hok I.bare
theorem Inv.call{g':Array GenState}{t':Nat}{d':Drawn}{ch:List Addr}(I:Inv X pins σ H s)(u:Un (frs X.stack) ch H H' s.heap h')(hok:HOk X.prog X.w H' h')(hg:AllBare g')
 (hch:∀b∈ch,(b∈X.ex\/X.s₀.heap.objs.size<=b)/\b≠X.env.locals/\(∀x c,X.env.cells.lookup x=some c->c≠b)/\∀p∈X.pn++pins,p.1≠b) :
 Inv X pins σ H' { s with heap:=h',gens:=g',drawn:=d',toks:=t' }:=by
 obtain⟨m,⟨o,es,ep,ho,r⟩,_⟩:=id I.loc;obtain⟨sl,hL⟩:=u.any ho I.free λz=>(hch _ z).2.1 rfl;exact I.step (ch:=ch) hch (λb o hL hb hc e n=>u.keep b o e n (λz=>(A3.mp (I.stkSub b z)).elim hL hb) hc) (λb o _ _ hc e n=>u.any e n hc) (λb o hc e n=>u.free b o e n hc) (λb o hc e=>u.there b o e hc) u.tups u.frzs u.tbls (λm' hm=>by
  obtain⟨o',es',ep',ho',r'⟩:=hm;rw[ho] at ho';cases ho';exact⟨_,es',ep',hL,r'⟩) hok hg
theorem Inv.turned{t':Nat}{it:Addr}(I:Inv X pins σ H s)(k:∀b o,b≠it->s.heap.get? b=some o->h'.get? b=some o)(hn:H it=none)(hL:it≠X.env.locals)
 (h1:it∈X.ex\/X.s₀.heap.objs.size<=it) (h2:∀x c,X.env.cells.lookup x=some c->c≠it) (h3:∀p∈X.pn++pins,p.1≠it):Inv X pins σ H { s with heap:=h',toks:=t' }:=by
 have nit:∀b u,H b=some u->b≠it:=λb u e z=>by rw[z,hn] at e;cases e
 refine I.step (g':=s.gens) (d':=s.drawn) (ch:=[it]) (λb hb=>?_) (λb o _ _ hc e _=>k b o (λz=>hc (by simp[z])) e) (λb o _ _ hc e _=>⟨o.slots,k b o (λz=>hc (by simp[z])) e⟩) (λ_ _ _ _ n=>n)
  (λb o hc e=>⟨o,k b o (λz=>hc (by simp[z])) e⟩) (λ_ _ e=>e) (λ_ _ _ e=>e) (λb ps e=>⟨#[],by rw[e];simp⟩) (λm hm=>?_) (λb u e=>?_) I.bare
 have e:b=it:=by simpa using hb
 subst e;exact⟨h1,hL,h2,h3⟩;obtain⟨o,es,ep,ho,r⟩:=hm;exact⟨o,es,ep,k _ o (Ne.symm hL) ho,r⟩;refine(I.hok b u e).stay (λc v hc q=>k c v ?_ q) (λ_ q=>q) λ_ _ q=>q;rcases hc with z|z;rw[z];exact nit b u e;exact nit c _ z
theorem Inv.tok(I:Inv X pins σ H s)(t:Nat):Inv X pins σ H { s with toks:=t }:=I.un (h':=s.heap) (t':=t) Un.refl I.hok
theorem Inv.kept{t':Nat}(I:Inv X pins σ H s)(k:∀b u,s.heap.get? b=some u->h'.get? b=some u):Inv X pins σ H { s with heap:=h',toks:=t' }:=I.un (Un.kept k) (I.hok.kept k)
theorem Inv.laid{t':Nat}(I:Inv X pins σ H s)(k:∀b u,s.heap.get? b=some u->h'.get? b=some u)(hp:s.heap.objs.size<=a)(new:cV X.prog X.w (upd H a o) h' a o) :
 Inv X pins σ (upd H a o) { s with heap:=h',toks:=t' }:=I.un (Un.laid k hp (I.hok.fresh hp)) (I.hok.laid k hp new)
theorem Inv.write{t':Nat}(I:Inv X pins σ H s)(mu:Mut (H x))(he:e=x\/H e=some (.own x))(k:∀b u,b≠e->s.heap.get? b=some u->h'.get? b=some u)(heo:∃u,h'.get? e=some u)
 (new:cV X.prog X.w (upd H x o) h' x o):Inv X pins σ (upd H x o) { s with heap:=h',toks:=t' }:=I.un (Un.write mu he k heo) (I.hok.write mu he k heo new)
theorem Inv.pins_of(I:Inv X pins σ H s)(h:∀p∈pins',s.heap.get? p.1=some p.2/\H p.1=none/\p.1≠X.env.locals/\p.1∉X.fs/\∀v,p.2.data≠.cell v):Inv X pins' σ H s:=
 ⟨I.ok,I.os,I.bare,I.base,I.loc,I.cell,I.free,I.freeC,λp hp=>(B7.mp hp).elim (λz=>I.pin p (Bm _ z)) (h p),I.hok,I.len⟩
theorem oE{N:List Str}(hN:N.Nodup){i j:Nat}{x:Str}(a:N[i]? = some x)(b:N[j]? = some x):i=j:=by obtain⟨h1,e1⟩:=Ay.mp a;obtain⟨h2,e2⟩:=Ay.mp b;exact(List.getElem_inj hN).mp (e1.trans e2.symm)
theorem qY{M:Model}{A:Around}{E:Value->Shared->Prop}{i:Nat}{x:Str}{v:V}{u:Value}{Q:Unit->Shared->Prop}(I:Inv X pins σ H s)(hN:X.N.Nodup)(hi:X.N[i]? = some x)(hx:Loc X.env.scope x)(r:bI v u)
 (h:∀s',Inv X pins (σ.set i (some v)) H s'->(∃a,Heap.SameBut a s.heap s'.heap/\(a=X.env.locals\/X.env.cells.lookup x=some a))->Q () s') (hf:X.fn x=true\/X.env.scope.names.lookup x=some .local:=by first|exact .inl rfl|exact .inr rfl|assumption):wpAny M A (storeName X.env x u) Q E s:=by
 obtain⟨m,hn,hl⟩:=id I.loc;have hcls:(X.env.scope.kind==.class||(X.env.scope.kind==.module&&X.env.locals != X.env.globals))=false:=by rw[I.ok.kind];rfl
 have hiσ:i<σ.length:=by rw[I.len];exact(Ay.mp hi).1
 have cne:=I.cne;have tracked:∀{a:Addr} {h':Heap},(∃o,s.heap.get? a=some o/\H a=none)->Heap.SameBut a s.heap h'->HOk X.prog X.w H h':=λ{a h'} ha hs b ob e=>by obtain⟨_,_,hfree⟩:=ha;refine(I.hok b ob e).stay (λc w' hc q=>(hs.2 c ?_).trans q) (λ_ q=>q) λ_ _ q=>q;rintro rfl;rcases hc with rfl|hc;rw[hfree] at e;cases e;rw[hfree] at hc;cases hc
 rcases hx with hk|hk;refine wpAny_storeName_local hk hn (λh' hn' hs=>?_) hcls;obtain⟨oL,_,_,hoL,_⟩:=id hn;refine h _ ⟨I.ok,I.os,I.bare,⟨λb o e n hb hx=>?_,λb o e n hb hx=>?_,I.base.free,λb o e hx=>?_,I.base.tups,I.base.frzs,I.base.tbls⟩,⟨_,hn',λj y v' e1 e2 e3=>?_⟩,λy c e=>?_,I.free,I.freeC,λp hp=>?_,tracked ⟨oL,hoL,I.free⟩ hs,by simpa using I.len⟩ ⟨_,hs,.inl rfl⟩;exact(hs.2 b (A0 (Ap (Ag e) I.ok.above))).trans (I.base.keep b o e n hb hx);obtain⟨sl,e1⟩:=I.base.slot b o e n hb hx;exact⟨sl,(hs.2 b (A0 (Ap (Ag e) I.ok.above))).trans e1⟩;obtain⟨o',e1⟩:=I.base.there b o e hx;exact⟨o',(hs.2 b (A0 (Ap (Ag e) I.ok.above))).trans e1⟩;by_cases hj:j=i;subst hj;rw[hi] at e1;cases e1;rw[Ar hiσ] at e2;cases e2;exact⟨u,r,.inl ⟨hk,by simp⟩⟩;rw[Ac (Ne.symm hj)] at e2;obtain⟨u',r',q⟩:=hl j y v' e1 e2 e3;refine⟨u',r',?_⟩;rcases q with⟨k,e⟩|⟨k,c,e,z⟩
 refine .inl ⟨k,?_⟩;have:y≠x:=λe=>hj (oE hN e1 (e▸hi));simp[this,e];exact .inr ⟨k,c,e,z.sameBut hs (cne y c e)⟩;obtain⟨w',z⟩:=I.cell y c e;exact⟨w',z.sameBut hs (cne y c e)⟩;obtain⟨e,n,ne,nf,d⟩:=I.pin p hp;exact⟨(hs.2 p.1 ne).trans e,n,ne,nf,d⟩;have hfn:X.fn x=true:=by rcases hf with z|z;exact z;rw[z] at hk;cases hk
 obtain⟨c,hc⟩:=I.ok.has x (.inl hk);obtain⟨w',z⟩:=I.cell x c hc;refine wpAny_storeName_cell I.ok.kind hk hc z (λh' hc' hs=>?_);obtain⟨oc,hoc,hocd⟩:=id z;refine h { s with heap:=h' } ⟨I.ok,I.os,I.bare,⟨λb o e n hb hx=>?_,λb o e n hb hx=>?_,I.base.free,λb o e hx=>?_,I.base.tups,I.base.frzs,I.base.tbls⟩,⟨m,hn.sameBut hs (Ne.symm (cne x c hc)),λj y v' e1 e2 e3=>?_⟩,λy c' e=>?_,I.free,I.freeC,λp hp=>?_,tracked ⟨oc,hoc,I.freeC x c hc⟩ hs,by simpa using I.len⟩ ⟨c,hs,.inr hc⟩;exact(hs.2 b (A0 (Ap (Ag e) (I.ok.cab x c hfn hc)))).trans (I.base.keep b o e n hb hx);obtain⟨sl,e1⟩:=I.base.slot b o e n hb hx;exact⟨sl,(hs.2 b (A0 (Ap (Ag e) (I.ok.cab x c hfn hc)))).trans e1⟩;obtain⟨o',e1⟩:=I.base.there b o e hx;exact⟨o',(hs.2 b (A0 (Ap (Ag e) (I.ok.cab x c hfn hc)))).trans e1⟩;by_cases hj:j=i;subst hj;rw[hi] at e1;cases e1;rw[Ar hiσ] at e2;cases e2;exact⟨u,r,.inr ⟨.inl hk,c,hc,hc'⟩⟩;rw[Ac (Ne.symm hj)] at e2;obtain⟨u',r',q⟩:=hl j y v' e1 e2 e3;refine⟨u',r',?_⟩;rcases q with q|⟨k,c',e,z'⟩
 exact .inl q;refine .inr ⟨k,c',e,z'.sameBut hs ?_⟩;rintro rfl;exact hj (oE hN e1 (I.ok.inj _ _ _ e hc▸hi));by_cases hcc:c'=c;subst hcc;exact⟨_,hc'⟩;obtain⟨w2,z2⟩:=I.cell y c' e;exact⟨w2,z2.sameBut hs hcc⟩;obtain⟨e,n,ne,nf,d⟩:=I.pin p hp;refine⟨(hs.2 p.1 ?_).trans e,n,ne,nf,d⟩;intro q;rw[q,hoc] at e;have q':oc=p.2:=Ah e;exact d w' (by rw[<-q'];exact hocd)
theorem kR{E:Value->Shared->Prop}{Q:Unit->Shared->Prop}(I:Inv X pins σ H s)(hN:X.N.Nodup)(hi:X.N[i]? = some x)(hx:Loc X.env.scope x)(r:bI v u)
 (h:∀s',Inv X pins (σ.set i (some v)) H s'->Q () s') (hf:X.fn x=true\/X.env.scope.names.lookup x=some .local:=by first|exact .inl rfl|exact .inr rfl|assumption):wpAny M A (storeName X.env x u) Q E s:=
 qY I hN hi hx r (λs' I' _=>h s' I') hf
theorem Inv.call'{s':Shared}(I:Inv X pins σ H s)(ho:s'.os=s.os)(u:Un (frs X.stack) ch H H' s.heap s'.heap)(hok:HOk X.prog X.w H' s'.heap)(hg:AllBare s'.gens)
 (hch:∀b∈ch,(b∈X.ex\/X.s₀.heap.objs.size<=b)/\b≠X.env.locals/\(∀x c,X.env.cells.lookup x=some c->c≠b)/\∀p∈X.pn++pins,p.1≠b):Inv X pins σ H' s':=by obtain⟨h',g',d',t',o'⟩:=s';have e:o'=s.os:=ho;subst e;exact I.call (g':=g') (t':=t') (d':=d') u hok hg hch
end
abbrev XK:=Value->Option Addr->Hp->Prop
abbrev St:=List (Option V)
abbrev VK:=V->Hp->Prop
abbrev TE:=St->Hp->VK->Prop
abbrev TT:=St->Hp->(Bool->Hp->Prop)->Prop
abbrev TA:=St->Hp->(List V->Hp->Prop)->Prop
structure Ends where
 nx:St->Hp->Prop
 rt:VK
 bk:St->Hp->Prop:=λ_ _=>False
 ct:St->Hp->Prop:=λ_ _=>False
abbrev TS:=Ends->St->Hp->Prop
def EP(X:Cx)(pins:List (Addr×Obj))(σ:St)(Q:VK)(u:Value)(s':Shared):Prop:=∃v H',Inv X pins σ H' s'/\bI v u/\Q v H'
def TP(X:Cx)(pins:List (Addr×Obj))(σ:St)(Q:Bool->Hp->Prop)(b:Bool)(s':Shared):Prop:=∃H',Inv X pins σ H' s'/\Q b H'
def AP(X:Cx)(pins:List (Addr×Obj))(σ:St)(Q:List V->Hp->Prop)(us:List Value)(s':Shared):Prop:=∃vs H',Inv X pins σ H' s'/\bC vs us/\Q vs H'
def SP(X:Cx)(pins:List (Addr×Obj))(D:Ends)(f:Flow)(s':Shared):Prop:=
 match f with
 | .next=>∃σ' H',Inv X pins σ' H' s'/\D.nx σ' H'|.brk=>∃σ' H',Inv X pins σ' H' s'/\D.bk σ' H'|.cont=>∃σ' H',Inv X pins σ' H' s'/\D.ct σ' H'|.ret u=>∃v σ' H',Inv X pins σ' H' s'/\bI v u/\D.rt v H'
def PE(X:Cx)(e:Expr)(t:TE):Prop:=
 ∀(pins:List (Addr×Obj)) (s:Shared) (σ:St) (H:Hp) (Q:VK),Inv X pins σ H s->t σ H Q->wpAny (model X.prog X.w) X.A (eval e X.env) (EP X pins σ Q) X.xe s
def PT(X:Cx)(e:Expr)(t:TT):Prop:=
 ∀(pins:List (Addr×Obj)) (s:Shared) (σ:St) (H:Hp) (Q:Bool->Hp->Prop),Inv X pins σ H s->t σ H Q->wpAny (model X.prog X.w) X.A (isTrue e X.env (eval e X.env)) (TP X pins σ Q) X.xe s
def PW(X:Cx)(e:Expr)(t:TT):Prop:=
 ∀(whole:Sem Value) (pins:List (Addr×Obj)) (s:Shared) (σ:St) (H:Hp) (Q:Bool->Hp->Prop),Inv X pins σ H s->t σ H Q->wpAny (model X.prog X.w) X.A (isTrue e X.env whole) (TP X pins σ Q) X.xe s
theorem PW.pt(h:PW X e t):PT X e t:=h _
def PA(X:Cx)(es:List Expr)(t:TA):Prop:=
 ∀(pos:Pos) (pins:List (Addr×Obj)) (s:Shared) (σ:St) (H:Hp) (Q:List V->Hp->Prop),Inv X pins σ H s->t σ H Q->wpAny (model X.prog X.w) X.A (spliced (backTo pos (starEach es X.env))) (AP X pins σ Q) X.xe s
def PS(X:Cx)(st:Stmt)(t:TS):Prop:=
 ∀(pins:List (Addr×Obj)) (s:Shared) (σ:St) (H:Hp) (D:Ends),Inv X pins σ H s->t D σ H->wpAny (model X.prog X.w) X.A (exec st X.env) (SP X pins D) X.xe s
def PSs(X:Cx)(st:List Stmt)(t:TS):Prop:=
 ∀(pins:List (Addr×Obj)) (s:Shared) (σ:St) (H:Hp) (D:Ends),Inv X pins σ H s->t D σ H->wpAny (model X.prog X.w) X.A (execs st X.env) (SP X pins D) X.xe s
theorem thn{α:Type}{t:Sem α}{Q Q':α->Shared->Prop}{M:Model}{A:Around}{E:Value->Shared->Prop}{s:Shared}(h:wpAny M A t Q E s)(hQ:∀a s,Q a s->Q' a s):wpAny M A t Q' E s:=Bo h hQ λ_ _ x=>x
end L2
namespace L2
open PySem PySem.Spec PyProof.Rows
section
variable {X:Cx}
def sR(i:Nat):TE:=λσ H Q=>∃v,σ[i]? = some (some v)/\Q v H
def tC(v:V):TE:=λ_ H Q=>Q v H
theorem lX(hN:X.N[i]? = some x)(hv:Vis X.env.scope x)(hd:(x==("__debug__" : Str))=false:=by decide)(hcd:(x==("__classdict__" : Str))=false:=by decide):PE X (.Name x pos) (sR i):=by
 intro pins s σ H Q I h;obtain⟨v,e,h⟩:=h;obtain⟨m,hn,hl⟩:=I.loc;obtain⟨u,r,l⟩:=hl i x v hN e hv;have fin:EP X pins σ Q u s:=⟨v,H,I,r,h⟩
 rcases l with⟨hk,hm⟩|⟨hk,c,hc,hcell⟩
 exact wpAny_Name (wpAny_loadName_local I.ok.kind hk hn hm fin) hd;rcases hk with hk|hk;exact wpAny_Name (wpAny_loadName_cell I.ok.kind hk hc hcell fin) hd;exact wpAny_Name (wpAny_loadName_free I.ok.kind hk hc hcell fin hcd) hd
theorem aHH{i j pos}:PE X (.Constant (.int i) j pos) (tC (.int i)):=λ_ _ _ H _ I h=>wpAny_Constant_int ⟨.int i,H,I.tok _,⟨_,rfl⟩,h⟩
theorem aJU{b j pos}:PE X (.Constant (.bool b) j pos) (tC (.bl b)):=λ_ _ _ H _ I h=>Constant_bool ⟨.bl b,H,I,rfl,h⟩
theorem aHI{j pos}:PE X (.Constant .none j pos) (tC .non):=λ_ _ _ H _ I h=>Constant_none ⟨.non,H,I,rfl,h⟩
theorem aHJ{x j pos}:PE X (.Constant (.str x) j pos) (tC (.str x)):=λ_ _ _ H _ I h=>Calls.Constant_str ⟨.str x,H,I.tok _,⟨_,rfl⟩,h⟩
def Gl(X:Cx)(x:Str):Prop:=X.env.kindOf x=some .globalImplicit
theorem fV{E:Value->Shared->Prop}{Q:Value->Shared->Prop}(I:Inv X pins σ H s)(hg:Gl X x)(hm:X.mg x=some u)(h:Q u s)
 (hd:(x==("__debug__" : Str))=false:=by decide):wpAny (model X.prog X.w) X.A (eval (.Name x pos) X.env) Q E s:=
 Calls.Name_function_global I.ok.kind hg (Calls.loadGlobal_global (by rw[I.ok.glob];exact I.mod.glob.keeps I.bk) hm h) hd
theorem gE{E:Value->Shared->Prop}{Q:Value->Shared->Prop}(I:Inv X pins σ H s)(hg:Gl X x)(hm:X.mg x=none)(hv:bootBuiltins x=some u)(h:Q u s)
 (hn:x ≠ "__name__" := by decide) (hd:(x==("__debug__" : Str))=false:=by decide):wpAny (model X.prog X.w) X.A (eval (.Name x pos) X.env) Q E s:=by obtain⟨mb,h1,h2⟩:=I.mod.blt;exact Calls.Name_function_global I.ok.kind hg (Calls.loadGlobal_builtin (by rw[I.ok.glob];exact I.mod.glob.keeps I.bk) hm (by rw[I.ok.blt];exact h1.keeps I.bk) ((h2 x hn).trans hv) h) hd
theorem sU(hg:Gl X x)(hm:X.mg x=some u)(r:bI v u)(hd:(x==("__debug__" : Str))=false:=by decide):PE X (.Name x pos) (tC v):=
 λ_ _ _ H _ I h=>fV I hg hm ⟨v,H,I,r,h⟩ hd
theorem aFs(hg:Gl X x)(hm:X.mg x=none)(hv:bootBuiltins x=some u)(r:bI v u)(hn:x ≠ "__name__" := by decide)(hd:(x==("__debug__" : Str))=false:=by decide):PE X (.Name x pos) (tC v):=
 λ_ _ _ H _ I h=>gE I hg hm hv ⟨v,H,I,r,h⟩ hn hd
variable {a b:Expr} {ta tb:TE} {pos:Pos}
variable {tA tB':TT} {rest:List Expr}
def aNi(t u:TT):TT:=λσ H Q=>t σ H λc H1=>if c=true then u σ H1 Q else Q false H1
def tOr(t u:TT):TT:=λσ H Q=>t σ H λc H1=>if c=true then Q true H1 else u σ H1 Q
def aNj(t:TT):TT:=λσ H Q=>t σ H λc H1=>Q (!c) H1
theorem aFt(ha:PT X a tA):PW X (.BoolOp .And [a] pos) tA:=by
 intro wh pins s σ H Q I h;refine isTrue_and (thn (ha pins s σ H Q I h) λc s1 e=>?_);cases c with
 | true=>exact isTrue_and_nil e|false=>exact e
theorem aHK(ha:PT X a tA):PW X (.BoolOp .Or [a] pos) tA:=by
 intro wh pins s σ H Q I h;refine isTrue_or (thn (ha pins s σ H Q I h) λc s1 e=>?_);cases c with
 | false=>exact isTrue_or_nil e|true=>exact e
theorem aHL(ha:PT X a tA)(hb:PW X (.BoolOp .And (b::rest) pos) tB'):PW X (.BoolOp .And (a::b::rest) pos) (aNi tA tB'):=by
 intro wh pins s σ H Q I h;refine isTrue_and (thn (ha pins s σ H _ I h) λc s1 ⟨H1,I1,q1⟩=>?_);cases c with
 | true=>exact hb wh pins s1 σ H1 Q I1 q1|false=>exact⟨H1,I1,q1⟩
theorem aJV(ha:PT X a tA)(hb:PW X (.BoolOp .Or (b::rest) pos) tB'):PW X (.BoolOp .Or (a::b::rest) pos) (tOr tA tB'):=by
 intro wh pins s σ H Q I h;refine isTrue_or (thn (ha pins s σ H _ I h) λc s1 ⟨H1,I1,q1⟩=>?_);cases c with
 | true=>exact⟨H1,I1,q1⟩|false=>exact hb wh pins s1 σ H1 Q I1 q1
theorem aHM(ha:PT X a tA):PT X (.UnaryOp .Not a pos) (aNj tA):=by intro pins s σ H Q I h;exact isTrue_not (ha pins s σ H (λc H1=>Q (!c) H1) I h)
def aJW(ta tb:TE):TE:=λσ H Q=>ta σ H λx H1=>∃c,x=.bl c/\if c=true then tb σ H1 Q else Q (.bl false) H1
def aNk(ta tb:TE):TE:=λσ H Q=>ta σ H λx H1=>∃c,x=.bl c/\if c=true then Q (.bl true) H1 else tb σ H1 Q
theorem aCH{op}(h:PE X a t):PE X (.BoolOp op [a] pos) t:=λpins s σ H Q I hw=>BoolOp_one (h pins s σ H Q I hw)
theorem aHN(ha:PE X a ta)(hb:PE X (.BoolOp .And (b::rest) pos) tb):PE X (.BoolOp .And (a::b::rest) pos) (aJW ta tb):=by
 intro pins s σ H Q I h;refine BoolOp_and (thn (ha pins s σ H _ I h) λv s1 ⟨x,H1,I1,r1,q1⟩=>?_);obtain⟨c,rfl,q1⟩:=q1;cases r1;refine Cg ?_;cases c with
 | true=>exact hb pins s1 σ H1 Q I1 q1|false=>exact⟨.bl false,H1,I1,rfl,q1⟩
theorem aJX(ha:PE X a ta)(hb:PE X (.BoolOp .Or (b::rest) pos) tb):PE X (.BoolOp .Or (a::b::rest) pos) (aNk ta tb):=by
 intro pins s σ H Q I h;refine BoolOp_or (thn (ha pins s σ H _ I h) λv s1 ⟨x,H1,I1,r1,q1⟩=>?_);obtain⟨c,rfl,q1⟩:=q1;cases r1;refine Cg ?_;cases c with
 | false=>exact hb pins s1 σ H1 Q I1 q1|true=>exact⟨.bl true,H1,I1,rfl,q1⟩
def tIf(t:TT)(ta tb:TE):TE:=λσ H Q=>t σ H λc H1=>if c=true then ta σ H1 Q else tb σ H1 Q
theorem aCI(hc:PT X c tA)(ha:PE X a ta)(hb:PE X b tb):PE X (.IfExp c a b pos) (tIf tA ta tb):=by
 intro pins s σ H Q I h;refine wpAny_IfExp (thn (hc pins s σ H _ I h) λd s1 ⟨H1,I1,q1⟩=>?_);cases d with
 | true=>exact ha pins s1 σ H1 Q I1 q1|false=>exact hb pins s1 σ H1 Q I1 q1
end
end L2
namespace L2
open PySem PySem.Spec PyProof.Rows
def SqL(K:PySem.W.Frag)(H:Hp)(a:Addr)(xs:List V):Prop:=
 Rd H a (.lst xs) \/
  ∃(o:Obj) (its:Array Value) (n:Nat),K.lookup a=some o/\o.cls=.type "list" /\ o.dict=none/\o.data=.seq its n/\its.size<=sizeLine/\bC xs its.toList
def SqT(K:PySem.W.Frag)(H:Hp)(a:Addr)(xs:List V):Prop:=
 Rd H a (.tup xs) \/
  ∃(o:Obj) (its:Array Value) (n:Nat),K.lookup a=some o/\o.cls=.type "tuple" /\ o.data=.seq its n/\its.size<=sizeLine/\bC xs its.toList
noncomputable def aNl:Value->Option V
 | .none=>some .non|.bool b=>some (.bl b)|.int i _=>some (.int i)|.str x _=>some (.str x)|.bytes b _=>some (.byt b)|.float b _=>some (.flt b)|.ref a=>some (.ref a)|.type n=>some (.ty n)|_=>none
theorem bI.abs(r:bI x u):aNl u=some x:=by
 cases x with
 | non=>cases r;rfl|bl _=>cases r;rfl|int _=>obtain⟨t,rfl⟩:=r;rfl|str _=>obtain⟨t,rfl⟩:=r;rfl|byt _=>obtain⟨t,rfl⟩:=r;rfl|flt _=>obtain⟨t,rfl⟩:=r;rfl|ref _=>cases r;rfl|ty _=>cases r;rfl
theorem bI.inj(r:bI x u)(q:bI y u):x=y:=Ah (r.abs.symm.trans q.abs)
theorem bC.inj:∀{xs ys:List V} {us:List Value},bC xs us->bC ys us->xs=ys
 | _,_,_,.nil,.nil=>rfl|_,_,_,.cons r t,.cons r' t'=>by rw[r.inj r',bC.inj t t']
section
variable {X:Cx} {pins:List (Addr×Obj)} {σ:St} {H:Hp} {s:Shared} {a:Addr} {xs ys:List V}
theorem SqL.of{K:PySem.W.Frag}(h:H a=some (.lst xs)):SqL K H a xs:=.inl (.inl h)
theorem SqT.of{K:PySem.W.Frag}(h:H a=some (.tup xs)):SqT K H a xs:=.inl (.inl h)
theorem Inv.list(I:Inv X pins σ H s)(h:SqL X.K H a xs):∃its:List Value,bC xs its/\PlainL s.heap a its.toArray/\xs.length<=sizeLine:=by
 rcases h with h|⟨o,its,n,hk,hc,hd,hs,hz,r⟩
 obtain⟨z,its,n,r,e⟩:=h.ok I.hok;exact⟨its,r,⟨_,n,e,rfl,rfl,rfl⟩,z⟩;refine⟨its.toList,r,⟨o,n,I.kIn a o hk,hc,hd,by simpa using hs⟩,?_⟩;have e:=r.length;simp only[Ck] at e;omega
theorem Inv.tuple(I:Inv X pins σ H s)(h:SqT X.K H a xs):∃its:List Value,bC xs its/\IsTup s.heap a its.toArray/\xs.length<=sizeLine:=by
 rcases h with h|⟨o,its,n,hk,hc,hs,hz,r⟩
 obtain⟨z,its,r,p⟩:=h.ok I.hok;exact⟨its,r,p,z⟩;refine⟨its.toList,r,⟨o,I.kIn a o hk,hc,n,by simpa using hs⟩,?_⟩;have e:=r.length;simp only[Ck] at e;omega
theorem Inv.list_inj(I:Inv X pins σ H s)(h:SqL X.K H a xs)(h':SqL X.K H a ys):xs=ys:=by
 obtain⟨its,r,⟨o,n,e,_,_,d⟩,_⟩:=I.list h;obtain⟨its',r',⟨o',n',e',_,_,d'⟩,_⟩:=I.list h';rw[e] at e';cases e';rw[d] at d';injection d' with d1 _
 have:its=its':=by simpa using congrArg Array.toList d1
 subst this;exact r.inj r'
theorem Inv.tuple_inj(I:Inv X pins σ H s)(h:SqT X.K H a xs)(h':SqT X.K H a ys):xs=ys:=by
 obtain⟨its,r,⟨o,e,_,n,d⟩,_⟩:=I.tuple h;obtain⟨its',r',⟨o',e',_,n',d'⟩,_⟩:=I.tuple h';rw[e] at e';cases e';rw[d] at d';injection d' with d1 _
 have:its=its':=by simpa using congrArg Array.toList d1
 subst this;exact r.inj r'
end
section
variable {X:Cx} {pins:List (Addr×Obj)} {σ:St} {H:Hp} {s:Shared} {E:Value->Shared->Prop}
end
section
variable {X:Cx} {st:Stmt} {rest:List Stmt} {t u:TS} {e:Expr} {te:TE} {pos:Pos}
def aHb:TS:=λD σ H=>D.nx σ H
def aNm(t u:TS):TS:=λD σ H=>t { D with nx:=u D } σ H
theorem aFu:PSs X [] aHb:=λ_ _ σ H _ I h=>wpAny_execs_nil ⟨σ,H,I,h⟩
theorem vG(h1:PS X st t)(h2:PSs X rest u):PSs X (st::rest) (aNm t u):=by
 intro pins s σ H D I h;refine wpAny_execs_cons (thn (h1 pins s σ H { D with nx:=u D } I h) λf s1 q=>?_);cases f with
 | next=>obtain⟨σ',H',I',q⟩:=q;exact h2 pins s1 σ' H' D I' q|ret v=>exact q|brk=>exact q|cont=>exact q
theorem sV(h1:PS X st t):PSs X [st] t:=by
 intro pins s σ H D I h;refine wpAny_execs_cons (thn (h1 pins s σ H D I h) λf s1 q=>?_);cases f with
 | next=>exact wpAny_execs_nil q|ret v=>exact q|brk=>exact q|cont=>exact q
def aHO:TS:=λD σ H=>D.bk σ H
def aJY:TS:=λD σ H=>D.ct σ H
theorem aFv:PS X (.Pass pos) aHb:=λ_ _ σ H _ I h=>wpAny_Pass ⟨σ,H,I,h⟩
theorem aCJ:PS X (.Break pos) aHO:=λ_ _ σ H _ I h=>wpAny_Break ⟨σ,H,I,h⟩
theorem vH:PS X (.Continue pos) aJY:=λ_ _ σ H _ I h=>wpAny_Continue ⟨σ,H,I,h⟩
theorem Inv.quiet(I:Inv X pins σ H s):interactive X.env=false:=by simp[interactive,I.ok.kind]
def aJZ(te:TE):TS:=λD σ H=>te σ H λ_ H1=>D.nx σ H1
theorem nQ(he:PE X e te)(hs:swapsWith e none pos.line X.env=pure false:=by rfl):PS X (.Expr e pos) (aJZ te):=by intro pins s σ H D I h;exact wpAny_Expr_any (thn (he pins s σ H _ I h) λv s1 ⟨x,H1,I1,r1,q1⟩=>⟨σ,H1,I1,q1⟩) I.quiet hs
def aNn(te:TE):TS:=λD σ H=>te σ H D.rt
theorem aCK(he:PE X e te):PS X (.Return (some e) pos) (aNn te):=by intro pins s σ H D I h;exact wpAny_Return_some (thn (he pins s σ H _ I h) λv s1 ⟨x,H1,I1,r1,q1⟩=>⟨x,σ,H1,I1,r1,q1⟩)
def aKa:TS:=λD _ H=>D.rt .non H
theorem aFw:PS X (.Return none pos) aKa:=λ_ _ σ H _ I h=>wpAny_Return_none ⟨.non,σ,H,I,rfl,h⟩
def aNo(c:TT)(t u:TS):TS:=λD σ H=>c σ H λb H1=>if b=true then t D σ H1 else u D σ H1
theorem aKb(hc:PT X c tc)(ha:PSs X a t)(hb:PSs X b u):PS X (.If c a b pos) (aNo tc t u):=by
 intro pins s σ H D I h;refine wpAny_If (thn (hc pins s σ H _ I h) λd s1 ⟨H1,I1,q1⟩=>?_);cases d with
 | true=>exact ha pins s1 σ H1 D I1 q1|false=>exact hb pins s1 σ H1 D I1 q1
def aHP:TS:=λ_ _ _=>False
theorem aCL:PS X st aHP:=λ_ _ _ _ _ _ h=>h.elim
end
abbrev TG:=V->St->Hp->(St->Hp->Prop)->Prop
abbrev TGs:=List V->St->Hp->(St->Hp->Prop)->Prop
def PG(X:Cx)(target:Expr)(t:TG):Prop:=
 ∀(pins:List (Addr×Obj)) (s:Shared) (σ:St) (H:Hp) (v:V) (u:Value) (Q:St->Hp->Prop),Inv X pins σ H s->bI v u->t v σ H Q ->
  wpAny (model X.prog X.w) X.A (assign target X.env u) (λ_ s'=>∃σ' H',Inv X pins σ' H' s'/\Q σ' H') X.xe s
def PGs(X:Cx)(ts:List Expr)(t:TGs):Prop:=
 ∀(pins:List (Addr×Obj)) (s:Shared) (σ:St) (H:Hp) (vs:List V) (us:List Value) (Q:St->Hp->Prop),Inv X pins σ H s->bC vs us->t vs σ H Q ->
  wpAny (model X.prog X.w) X.A (assignInOrder ((assignEach ts X.env).map (·.2)) us) (λ_ s'=>∃σ' H',Inv X pins σ' H' s'/\Q σ' H') X.xe s
abbrev aKc:=V->V->V->Hp->(Hp->Prop)->Prop
def aKd(X:Cx)(t:aKc):Prop:=
 ∀(pins:List (Addr×Obj)) (s:Shared) (σ:St) (H:Hp) (o i v:V) (ov iv u:Value) (Q:Hp->Prop),Inv X pins σ H s->bI o ov->bI i iv->bI v u->t o i v H Q ->
  wpAny (model X.prog X.w) X.A (setItem ov iv u) (λ_ s'=>∃H',Inv X pins σ H' s'/\Q H') X.xe s
section
variable {X:Cx} {pos:Pos}
def qZ(i:Nat):TG:=λv σ H Q=>Q (σ.set i (some v)) H
theorem aAq(hN:X.N.Nodup)(hi:X.N[i]? = some x)(hx:Loc X.env.scope x)(hf:X.fn x=true\/X.env.scope.names.lookup x=some .local:=by first|exact .inl rfl|exact .inr rfl|assumption):PG X (.Name x pos) (qZ i):=by intro pins s σ H v u Q I r h;exact wpAny_assign_Name (kR I hN hi hx r (λs' I'=>⟨_,H,I',h⟩) hf)
def aKe:TGs:=λvs σ H Q=>vs=[]/\Q σ H
def aHc(t:TG)(u:TGs):TGs:=λvs σ H Q=>∃v r,vs=v::r/\t v σ H λσ' H'=>u r σ' H' Q
theorem aFx:PGs X [] aKe:=by intro pins s σ H vs us Q I r h;obtain⟨e,h⟩:=h;subst e;cases r;exact assignInOrder_nil ⟨σ,H,I,h⟩
theorem aCM(h1:PG X e t)(h2:PGs X es u)
 (hs:(assignEach (e::es) X.env).map (·.2)=assign e X.env::(assignEach es X.env).map (·.2):=by rfl):PGs X (e::es) (aHc t u):=by
 intro pins s σ H vs us Q I r h;obtain⟨v,vr,e1,h⟩:=h;subst e1;cases r with
 | cons r rr=>rw[hs];refine assignInOrder_cons (thn (h1 pins s σ H _ _ _ I r h) λ_ s1 ⟨σ1,H1,I1,q1⟩=>?_);exact h2 pins s1 σ1 H1 _ _ Q I1 rr q1
def aKf(K:PySem.W.Frag)(n:Nat)(t:TGs):TG:=λv σ H Q=>∃a xs,v=.ref a/\SqT K H a xs/\xs.length=n/\t xs σ H Q
theorem aHQ(hc:X.calm=true)(h:PGs X es t)
 (hn:(assignEach es X.env).length=n:=by rfl) (hst:(assignEach es X.env).findIdx? (·.1)=none:=by rfl):PG X (.Tuple es k pos) (aKf X.K n t):=by intro pins s σ H v u Q I r hw;obtain⟨a,xs,e1,hq,hl,hw⟩:=hw;subst e1;cases r;obtain⟨its,rv,ht,hz⟩:=I.tuple hq;refine assign_Tuple_tuple (I.ok.hd hc) ht (by simp[hn,<-hl,rv.length]) hst λh' hx=>?_;have I1:Inv X pins σ H { s with heap:=h' }:=I.kept (t':=s.toks) λb o e=>hx b o (A0 (Ag e)) e;exact h pins _ σ H xs _ Q I1 (by simpa using rv) hw
def aNp(to ti:TE)(t:aKc):TG:=λv σ H Q=>to σ H λo H1=>ti σ H1 λi H2=>t o i v H2 λH3=>Q σ H3
theorem aHR(ho:PE X o to)(hi:PE X i ti)(hs:aKd X t)
 (ha:∀v,assign (.Subscript o i pos) X.env v=(do
  let ov<-holding [v] (eval o X.env)
  let iv<-holding [v,ov] (eval i X.env)
  standAt pos
  holding [v,ov,iv] (setItem ov iv v)
  release [v,ov,iv] []):=by intro _;rfl):PG X (.Subscript o i pos) (aNp to ti t):=by intro pins s σ H v u Q I r h;rw[ha];refine Aa (C7 (thn (ho pins s σ H _ I h) λov s1 ⟨x,H1,I1,r1,q1⟩=>?_));refine Aa (C7 (thn (hi pins s1 σ H1 _ I1 q1) λiv s2 ⟨y,H2,I2,r2,q2⟩=>?_));refine Aa (Cq (Aa (C7 (thn (hs pins s2 σ H2 x y v ov iv u _ I2 r1 r2 r q2) λ_ s3 ⟨H3,I3,q3⟩=>?_))));exact wpAny_release ⟨σ,H3,I3,q3⟩
def aHS(te:TE)(g:TG):TS:=λD σ H=>te σ H λx H1=>g x σ H1 D.nx
theorem aCN(he:PE X e te)(hg:PG X tg g)(hs:swapsWithSole [tg] e pos.line X.env=pure false:=by rfl)(hw:swappedStores [tg] e X.env=pure none:=by rfl)
 (h1:(assignEach [tg] X.env).map (·.2)=[assign tg X.env]:=by rfl):PS X (.Assign [tg] e pos) (aHS te g):=by intro pins s σ H D I h;refine wpAny_Assign_stores (thn (he pins s σ H _ I h) λv s1 ⟨x,H1,I1,r1,q1⟩=>?_) hs hw;rw[h1];exact thn (hg pins s1 σ H1 x v _ I1 r1 q1) λ_ s2 q=>q
theorem lY(hN:X.N.Nodup)(hi:X.N[i]? = some x)(hx:Loc X.env.scope x)(he:PE X e te)(hs:swapsWith e (some (.Name x pos')) pos.line X.env=pure false:=by rfl)(hf:X.fn x=true\/X.env.scope.names.lookup x=some .local:=by first|exact .inl rfl|exact .inr rfl|assumption) :
 PS X (.Assign [.Name x pos'] e pos) (aHS te (qZ i)):=by intro pins s σ H D I h;refine wpAny_Assign_Name (thn (he pins s σ H _ I h) λv s1 ⟨y,H1,I1,r1,q1⟩=>?_) hs;exact kR I1 hN hi hx r1 (λs2 I2=>⟨_,H1,I2,q1⟩) hf
end
section
variable {X:Cx} {pos:Pos}
end
structure It where
 go:Nat->Hp->Prop
 yld:Nat->Hp->V->Hp->Prop
 stop:Nat->Hp->Prop
def kT(X:Cx)(pins:List (Addr×Obj))(H:Hp)(b:Addr):Prop:=
 H b=none/\b≠X.env.locals/\b∉X.fs/\(b∈X.ex\/X.s₀.heap.objs.size<=b)/\(∀x c,X.env.cells.lookup x=some c->c≠b)/\∀p∈X.pn++pins,p.1≠b
theorem Inv.fpOk{s:Shared}(I:Inv X pins σ H s)(hb:s.heap.objs.size<=b)(hn:H' b=none):kT X pins H' b:=by refine⟨hn,B3 (Ap I.lt hb),I.nofs hb,.inr (A1 I.sz hb),λx c e z=>?_,λp hp z=>?_⟩;obtain⟨v,q⟩:=I.cell x c e;exact absurd (Ap q.lt (by rw[z];exact hb)) (A8 _);exact absurd (Ap (Ag (I.pin p hp).1) (by rw[z];exact hb)) (A8 _)
structure vI (P:Program) (w:World) (K:PySem.W.Frag) (tg:Expr) (J:It) (fp:List Addr) (it:Addr) (tn:Nat->Heap->Prop):Prop where
 mem:it∈fp
 obj:∀i h,tn i h->∀b∈fp,∃o,h.get? b=some o/\∀v,o.data≠.cell v
 keep:∀i h h',tn i h->(∀b∈fp,∀o,h.get? b=some o->h'.get? b=some o)->tn i h'
 item:∀(X:Cx),X.prog=P->X.w=w->X.K=K->X.calm=true->∀(i:Nat) (pins:List (Addr×Obj)) (s:Shared) (σ:St) (H:Hp) (E:Value->Shared->Prop),Inv X pins σ H s->(∀b∈fp,kT X pins H b)->tn i s.heap->J.go i H ->
  wpAny (model P w) X.A (pyNext (.ref it)) (λr s1=>∃u,r=some u /\
   wpAny (model P w) X.A (letOwnedTupleGo tg (.ref it) u) (λ_ s2=>∃x H',Inv X pins σ H' s2/\bI x u/\J.yld i H x H'/\tn (i+1) s2.heap/\∀b∈fp,H' b=none) E s1) E s
 done:∀(X:Cx),X.prog=P->X.w=w->X.K=K->X.calm=true->∀(i:Nat) (pins:List (Addr×Obj)) (s:Shared) (σ:St) (H:Hp) (E:Value->Shared->Prop),Inv X pins σ H s->(∀b∈fp,kT X pins H b)->tn i s.heap->J.stop i H ->
  wpAny (model P w) X.A (pyNext (.ref it)) (λr s1=>r=none/\Inv X pins σ H s1) E s
 self:∀(A:Around) (i:Nat) (s:Shared) (Q:Value->Shared->Prop) (E:Value->Shared->Prop),tn i s.heap->Q (.ref it) s->wpAny (model P w) A (pyIter (.ref it)) Q E s
abbrev TI:=St->Hp->(It->Hp->Prop)->Prop
def PIE(X:Cx)(pins:List (Addr×Obj))(σ:St)(tg:Expr)(R:It->Hp->Prop)(itv:Value)(s2:Shared):Prop:=
 ∃(it:Addr) (fp:List Addr) (tn:Nat->Heap->Prop) (J:It) (H':Hp),itv=.ref it/\Inv X pins σ H' s2/\vI X.prog X.w X.K tg J fp it tn/\tn 0 s2.heap/\(∀b∈fp,kT X pins H' b)/\R J H'
def PI(X:Cx)(tg iter:Expr)(wi:TI):Prop:=
 ∀(pins:List (Addr×Obj)) (s:Shared) (σ:St) (H:Hp) (R:It->Hp->Prop),Inv X pins σ H s->wi σ H R ->
  wpAny (model X.prog X.w) X.A (eval iter X.env) (λv s1=>wpAny (model X.prog X.w) X.A (pyIter v) (PIE X pins σ tg R) X.xe s1) X.xe s
theorem oF{E:Value->Shared->Prop}{s:Shared}{o:Obj}{Q:Unit->Shared->Prop}(ho:s.heap.get? it=some o)(hc:o.cls=.type n)(hd:o.data=.fields vs)
 (hn:["enumerate", "zip", "dict_itemiterator", "dict_reverseitemiterator", "odict_iterator", "itertools.zip_longest", "itertools.pairwise"].contains n=false) (hQ:Q () s):wpAny M A (letOwnedTupleGo tg (.ref it) u) Q E s:=by
 unfold letOwnedTupleGo;cases tg <;> first
  | exact Al hQ
  | (cases u <;> first
   | exact Al hQ
   | (refine Aa (wpAny_load ho ?_)
      rw[hc,hd];show wpAny M A (if (["enumerate", "zip", "dict_itemiterator", "dict_reverseitemiterator", "odict_iterator", "itertools.zip_longest", "itertools.pairwise"].contains n&&vs[0]?==some (rawInt _))=true then _ else _) Q E s;rw[if_neg (by intro h;rw[hn,Bool.false_and] at h;cases h)];exact Al hQ))
def Itl(K:PySem.W.Frag)(a:Addr):It:=
 ⟨λi H=>∃xs x,SqL K H a xs/\xs[i]? = some x,λi H x H'=>H'=H/\∀xs,SqL K H a xs->xs[i]? = some x,λi H=>∃xs,SqL K H a xs/\xs.length<=i⟩
def Itt(K:PySem.W.Frag)(a:Addr):It:=
 ⟨λi H=>∃xs x,SqT K H a xs/\xs[i]? = some x,λi H x H'=>H'=H/\∀xs,SqT K H a xs->xs[i]? = some x,λi H=>∃xs,SqT K H a xs/\xs.length<=i⟩
def Itr(lo:Int)(n:Nat):It:=⟨λi _=>i<n,λi H x H'=>H'=H/\x=.int (lo+i),λi _=>n<=i⟩
theorem aBE{P:Program}{w:World}{K:PySem.W.Frag}{tg:Expr}(a it:Addr):vI P w K tg (Itl K a) [it] it (λi h=>h.IsListIter it a i) where
 mem:=by simp
 obj:=λi h st b hb=>by
  have e:b=it:=by simpa using hb
  subst e;obtain⟨o,e,c,d⟩:=st;exact⟨o,e,λv z=>by rw[d] at z;cases z⟩
 keep:=λi h h' st k=>st.at λo e=>k it (by simp) o e
 item:=by intro X hP hw hK hc i pins s σ H E I hf st hg;subst hP hw hK;obtain⟨xs,x,hq,hx⟩:=hg;obtain⟨its,rv,p,hz⟩:=I.list hq;obtain⟨u,hu,ru⟩:=rv.get hx;obtain⟨f0,f1,f2,f3,f4,f5⟩:=hf it (by simp);refine wpAny_pyNext_list_item st p.isList (x:=u) (by simpa using hu) λh' st' sb=>?_;have I1:Inv X pins σ H { s with heap:=h' }:=I.turned (t':=s.toks) (λb o hb e=>(sb.2 b hb).trans e) f0 f1 f3 f4 f5;obtain⟨o,e,c,d⟩:=id st';exact⟨u,rfl,oF (s:={ s with heap:=h' }) e c d (by decide) ⟨x,H,I1,ru,⟨rfl,λys hy=>by rw[I.list_inj hy hq];exact hx⟩,st',λb hb=>(hf b hb).1⟩⟩
 done:=by intro X hP hw hK hc i pins s σ H E I hf st hg;subst hP hw hK;obtain⟨xs,hq,hx⟩:=hg;obtain⟨its,rv,p,hz⟩:=I.list hq;obtain⟨f0,f1,f2,f3,f4,f5⟩:=hf it (by simp);have hl:=rv.length;exact wpAny_pyNext_list_end (I.ok.hd hc) st p.isList (by simp;omega) λh' eb=>⟨rfl,I.turned (t':=s.toks) (λb o hb e=>eb b o hb e) f0 f1 f3 f4 f5⟩
 self:=λ_ _ _ _ _ st h=>wpAny_pyIter_listiter st h
theorem yI{P:Program}{w:World}{K:PySem.W.Frag}{tg:Expr}(a it:Addr):vI P w K tg (Itt K a) [it] it (λi h=>h.IsTupleIter it a i) where
 mem:=by simp
 obj:=λi h st b hb=>by
  have e:b=it:=by simpa using hb
  subst e;obtain⟨o,e,c,d⟩:=st;exact⟨o,e,λv z=>by rw[d] at z;cases z⟩
 keep:=λi h h' st k=>st.at λo e=>k it (by simp) o e
 item:=by intro X hP hw hK hc i pins s σ H E I hf st hg;subst hP hw hK;obtain⟨xs,x,hq,hx⟩:=hg;obtain⟨its,rv,p,hz⟩:=I.tuple hq;obtain⟨u,hu,ru⟩:=rv.get hx;obtain⟨f0,f1,f2,f3,f4,f5⟩:=hf it (by simp);refine wpAny_pyNext_tuple_item st (show s.heap.IsTuple a its.toArray from p) (x:=u) (by simpa using hu) λh' st' sb=>?_;have I1:Inv X pins σ H { s with heap:=h' }:=I.turned (t':=s.toks) (λb o hb e=>(sb.2 b hb).trans e) f0 f1 f3 f4 f5;obtain⟨o,e,c,d⟩:=id st';exact⟨u,rfl,oF (s:={ s with heap:=h' }) e c d (by decide) ⟨x,H,I1,ru,⟨rfl,λys hy=>by rw[I.tuple_inj hy hq];exact hx⟩,st',λb hb=>(hf b hb).1⟩⟩
 done:=by intro X hP hw hK hc i pins s σ H E I hf st hg;subst hP hw hK;obtain⟨xs,hq,hx⟩:=hg;obtain⟨its,rv,p,hz⟩:=I.tuple hq;obtain⟨f0,f1,f2,f3,f4,f5⟩:=hf it (by simp);have hl:=rv.length;exact wpAny_pyNext_tuple_end (I.ok.hd hc) st (show s.heap.IsTuple a its.toArray from p) (by simp;omega) λh' eb=>⟨rfl,I.turned (t':=s.toks) (λb o hb e=>eb b o hb e) f0 f1 f3 f4 f5⟩
 self:=λ_ _ _ _ _ st h=>wpAny_pyIter_tupleiter st h
theorem yJ{P:Program}{w:World}{K:PySem.W.Frag}{tg:Expr}(it:Addr)(lo:Int)(n:Nat):vI P w K tg (Itr lo n) [it] it (λi h=>IsRangeIter h it (lo+(i:Nat)*1) ((n:Int)-(i:Nat)) 1) where
 mem:=by simp
 obj:=λi h st b hb=>by
  have e:b=it:=by simpa using hb
  subst e;exact⟨_,st,λv z=>by
   have z':Data.fields _=Data.cell v:=z;cases z'⟩
 keep:=λi h h' st k=>k it (by simp) _ st
 item:=by intro X hP hw hK hc i pins s σ H E I hf st hg;subst hP hw hK;obtain⟨f0,f1,f2,f3,f4,f5⟩:=hf it (by simp);have W:=Walks.range (prog:=X.prog) (w:=X.w) (I.ok.hd hc) it lo 1 n;refine W.item i s _ _ hg st λv h' tk hv st' kk=>?_;obtain⟨t,rfl⟩:=hv;have I1:Inv X pins σ H { s with heap:=h',toks:=tk }:=I.turned (λb o hb e=>kk b o (by simpa using hb) e) f0 f1 f3 f4 f5;refine⟨_,rfl,oF (s:={ s with heap:=h',toks:=tk }) (n:= "range_iterator") st' rfl rfl (by decide) ⟨.int (lo+i),H,I1,⟨t,?_⟩,⟨rfl,rfl⟩,st',λb hb=>(hf b hb).1⟩⟩;rw[Int.mul_one]
 done:=by intro X hP hw hK hc i pins s σ H E I hf st hg;subst hP hw hK;obtain⟨f0,f1,f2,f3,f4,f5⟩:=hf it (by simp);exact wpAny_pyNext_range_end (I.ok.hd hc) st (by have:n<=i:=hg;omega) λh' eb=>⟨rfl,I.turned (t':=s.toks) (λb o hb e=>eb b o hb e) f0 f1 f3 f4 f5⟩
 self:=λ_ _ _ _ _ st h=>wpAny_pyIter_rangeiter st h
end L2
namespace L2
open PySem PySem.Spec PyProof.Rows
section
variable {X:Cx} {tg:Expr}
theorem vJ{pins:List (Addr×Obj)}{σ:St}{H:Hp}{s:Shared}{R:It->Hp->Prop}{E:Value->Shared->Prop}{lo hi:Int}{t u v:Tok}{tk:Nat}(I:Inv X pins σ H s)(h1:-(2 ^ 62)<=lo)(h2:lo<2 ^ 62)(h3:-(2 ^ 62)<=hi)(h4:hi<2 ^ 62)
 (q:R (Itr lo (hi-lo).toNat) H):wpAny (model X.prog X.w) X.A (pyIter (.ref s.heap.objs.size)) (PIE X pins σ tg R) E { s with heap:=s.heap.push { cls:=.type "range",data:=.fields #[.int lo t,.int hi u,.int 1 v] },toks:=tk }:=by
 refine wpAny_pyIter_range (IsRange.new ..) (small_one h1 h2 h3 h4) ?_;have I1:Inv X pins σ H { s with heap:=s.heap.push { cls:=.type "range",data:=.fields #[.int lo t,.int hi u,.int 1 v] },toks:=tk }:=I.kept λb o e=>Ab _ e;refine⟨(s.heap.push { cls:=.type "range",data:=.fields #[.int lo t,.int hi u,.int 1 v] }).objs.size,[(s.heap.push { cls:=.type "range",data:=.fields #[.int lo t,.int hi u,.int 1 v] }).objs.size],_,_,H,rfl,
  I1.kept (t':=tk) λb o e=>Ab _ e,yJ _ lo (hi-lo).toNat,?_,λb hb=>?_,q⟩
 have e1:lo+((0:Nat):Int)*1=lo:=by simp
 have e2:(((hi-lo).toNat:Nat):Int)-((0:Nat):Int)=Builtin.Range.rangeSize lo hi 1:=by rw[rangeSize_one];split <;> omega
 show IsRangeIter _ _ (lo+((0:Nat):Int)*1) ((((hi-lo).toNat:Nat):Int)-((0:Nat):Int)) 1;rw[e1,e2];exact Ao _ rfl;have e:b=(s.heap.push { cls:=.type "range",data:=.fields #[.int lo t,.int hi u,.int 1 v] }).objs.size:=by simpa using hb
 subst e;exact I1.fpOk (Ai _) (I1.hok.fresh (Ai _))
def aKg(ta:TA):TI:=λσ H R=>ta σ H λvs H1=>∃j:Int,vs=[.int j]/\-(2 ^ 62)<=j/\j<2 ^ 62/\R (Itr 0 j.toNat) H1
def aKh(ta:TA):TI:=λσ H R=>ta σ H λvs H1=>∃i j:Int,vs=[.int i,.int j]/\(-(2 ^ 62)<=i/\i<2 ^ 62/\-(2 ^ 62)<=j/\j<2 ^ 62)/\R (Itr i (j-i).toNat) H1
theorem aBF{a:Expr}{ta:TA}{p pos:Pos}(hg:Gl X "range")(hm:X.mg "range" = none)(ha:PA X [a] ta)(hs:starEach [a] X.env=[(false,eval a X.env)]:=by rfl):PI X tg (.Call (.Name "range" p) [a] [] pos) (aKg ta):=by
 intro pins s σ H R I h;refine Call_ (gE I hg hm boot_range (Cf (thn (ha pos pins s σ H _ I h) λus s1 ⟨vs,H1,I1,r1,q1⟩=>?_) hs rfl));obtain⟨j,e,q1,q2,q⟩:=q1;subst e;cases r1 with
 | cons r rr=>cases rr;obtain⟨t,rfl⟩:=r;exact call_range_1 (vJ I1 (by omega) (by omega) q1 q2 (by simpa using q))
theorem aBG(hg:Gl X "range")(hm:X.mg "range" = none)(ha:PA X [a,b] ta)(hs:starEach [a,b] X.env=[(false,eval a X.env),(false,eval b X.env)]:=by rfl)(hs2:starEach [b] X.env=[(false,eval b X.env)]:=by rfl) :
 PI X tg (.Call (.Name "range" p) [a,b] [] pos) (aKh ta):=by
 intro pins s σ H R I h;refine Call_ (gE I hg hm boot_range (Cf (thn (ha pos pins s σ H _ I h) λus s1 ⟨vs,H1,I1,r1,q1⟩=>?_) (by rw[hs,hs2]) (by rw[hs2];rfl)));obtain⟨i,j,e,⟨q1,q2,q3,q4⟩,q⟩:=q1;subst e;cases r1 with
 | cons r rr=>
  cases rr with
  | cons r' rr=>cases rr;obtain⟨t,rfl⟩:=r;obtain⟨t',rfl⟩:=r';exact call_range_2 (vJ I1 q1 q2 q3 q4 q)
def aNq(wi:TI)(g:TG)(tb:TS):TS:=λD σ H=>wi σ H λJ H1=>∃W:Nat->Nat->St->Hp->Prop,(∃m,W 0 m σ H1)/\∀i m σ H,W i m σ H ->
 (J.stop i H/\D.nx σ H)\/(J.go i H/\∃N:St->Hp->Prop,(∀σ' H',N σ' H'->∃m',m'<m/\W (i+1) m' σ' H')/\∀x H',J.yld i H x H'->g x σ H' λσ2 H2=>tb { D with nx:=N,ct:=N,bk:=D.nx } σ2 H2)
def mB(fp:List Addr)(h:Heap):List (Addr×Obj):=fp.filterMap λb=>(h.get? b).map λo=>(b,o)
theorem fH{h:Heap}(hb:b∈fp)(e:h.get? b=some o):(b,o)∈mB fp h:=Cz.mpr ⟨b,hb,by rw[e];rfl⟩
theorem aBH{h:Heap}{p:Addr×Obj}(hp:p∈mB fp h):p.1∈fp/\h.get? p.1=some p.2:=by
 obtain⟨b,hb,e⟩:=Cz.mp hp;cases q:h.get? b with
 | none=>rw[q] at e;cases e|some o=>rw[q] at e;have e':(b,o)=p:=Ah e;subst e';exact⟨hb,q⟩
theorem Inv.pinned{s:Shared}(I:Inv X pins σ H s)(hf:∀b∈fp,kT X pins H b)(ho:∀b∈fp,∃o,s.heap.get? b=some o/\∀v,o.data≠.cell v):Inv X (pins++mB fp s.heap) σ H s:=
 I.pins_of λp hp=>(B7.mp hp).elim (λz=>I.pin p (Ax _ z)) λz=>by obtain⟨hb,e⟩:=aBH z;obtain⟨f0,f1,f2,_⟩:=hf p.1 hb;obtain⟨o,e',d⟩:=ho p.1 hb;rw[e] at e';cases e';exact⟨e,f0,f1,f2,d⟩
theorem Inv.unpinned(I:Inv X (pins++pl) σ H s):Inv X pins σ H s:=I.pins_of λp hp=>I.pin p (Ax _ (Bm _ hp))
theorem aHT(hp:PassesOwn (model X.prog X.w) X.A X.env X.xe)(hc:X.calm=true)(hi:PI X tg iter wi)(hg:PG X tg g)(hb:PSs X body tb)
 (hs:∀x,foldedSetIterable iter X.env x=pure x:=by intro _;rfl):PS X (.For tg iter body [] pos) (aNq wi g tb):=by
 intro pins s σ H D I h;refine wpAny_For (thn (hi pins s σ H _ I h) λv s1 h1=>thn h1 λitv s2 h2=>?_) hs;obtain⟨it,fp,tn,J,H2,e,I2,T,st2,f2,W,⟨m0,w0⟩,turn⟩:=h2;subst e;have stat:∀{H':Hp},(∀b∈fp,H' b=none)->∀b∈fp,kT X pins H' b:=λhn b hb=>⟨hn b hb,(f2 b hb).2⟩
 refine codeAny_forLoop_any (λn s'=>∃i σ' H',Inv X pins σ' H' s'/\tn i s'.heap/\(∀b∈fp,H' b=none)/\W i n σ' H') ?_ m0 ⟨0,σ,H2,I2,st2,λb hb=>(f2 b hb).1,w0⟩;rintro n s3 ⟨i,σ3,H3,I3,st3,fr3,w3⟩;rcases turn i n σ3 H3 w3 with⟨stop,qn⟩|⟨go,N,hN,step⟩
 refine Dt hp (thn (T.done X rfl rfl rfl hc i pins s3 σ3 H3 X.xe I3 (stat fr3) st3 stop) λr s4 ⟨hr,I4⟩=>?_);subst hr;exact wpAny_execs_nil ⟨σ3,H3,I4,qn⟩;refine Dt hp (thn (T.item X rfl rfl rfl hc i pins s3 σ3 H3 X.xe I3 (stat fr3) st3 go) λr s4 ⟨u,hr,h4⟩=>?_);subst hr;refine Dt hp (thn h4 λ_ s5 ⟨x,H5,I5,r5,y5,st5,fr5⟩=>?_);have I5':=I5.pinned (stat fr5) (T.obj _ _ st5);refine Dt hp (thn (hg _ s5 σ3 H5 x u _ I5' r5 (step x H5 y5)) λ_ s6 ⟨σ6,H6,I6,q6⟩=>?_);refine Dt hp (thn (hb _ s6 σ6 H6 _ I6 q6) λf s7 q7=>?_);have again:∀{σ7:St} {H7:Hp},Inv X (pins++mB fp s5.heap) σ7 H7 s7->N σ7 H7->∃m,m<n/\∃i σ' H',Inv X pins σ' H' s7/\tn i s7.heap/\(∀b∈fp,H' b=none)/\W i m σ' H':=λ{σ7 H7} I7 n7=>by obtain⟨m',hm,w7⟩:=hN σ7 H7 n7;refine⟨m',hm,i+1,σ7,H7,I7.unpinned,T.keep _ _ _ st5 λb hb o e=>(I7.pin (b,o) (Ax _ (Ax _ (fH hb e)))).1,λb hb=>?_,w7⟩;obtain⟨o,e,d⟩:=T.obj _ _ st5 b hb;exact(I7.pin (b,o) (Ax _ (Ax _ (fH hb e)))).2.1
 cases f with
 | next=>obtain⟨σ7,H7,I7,n7⟩:=q7;exact again I7 n7|cont=>obtain⟨σ7,H7,I7,n7⟩:=q7;exact again I7 n7|brk=>obtain⟨σ7,H7,I7,q7⟩:=q7;exact⟨σ7,H7,I7.unpinned,q7⟩|ret v=>obtain⟨x7,σ7,H7,I7,r7,q7⟩:=q7;exact⟨x7,σ7,H7,I7.unpinned,r7,q7⟩
end
end L2
namespace L2
open PySem PySem.Spec PyProof.Rows
abbrev R2:=V->V->Hp->VK->Prop
def OpR(X:Cx)(f:Value->Value->Sem Value)(r:R2):Prop:=
 ∀(pins:List (Addr×Obj)) (s:Shared) (σ:St) (H:Hp) (x y:V) (v u:Value) (Q:VK),Inv X pins σ H s->bI x v->bI y u->r x y H Q ->
  wpAny (model X.prog X.w) X.A (f v u) (EP X pins σ Q) X.xe s
def UnR(X:Cx)(f:Value->Sem Value)(r:V->Hp->VK->Prop):Prop:=
 ∀(pins:List (Addr×Obj)) (s:Shared) (σ:St) (H:Hp) (x:V) (v:Value) (Q:VK),Inv X pins σ H s->bI x v->r x H Q ->
  wpAny (model X.prog X.w) X.A (f v) (EP X pins σ Q) X.xe s
def fW(X:Cx)(f:Value)(r:List V->Hp->VK->Prop):Prop:=
 ∀(pins:List (Addr×Obj)) (s:Shared) (σ:St) (H:Hp) (xs:List V) (us:List Value) (Q:VK),Inv X pins σ H s->bC xs us->r xs H Q ->
  wpAny (model X.prog X.w) X.A (call f us) (EP X pins σ Q) X.xe s
def aNr(X:Cx)(r:V->Hp->(Bool->Hp->Prop)->Prop):Prop:=
 ∀(pins:List (Addr×Obj)) (s:Shared) (σ:St) (H:Hp) (x:V) (v:Value) (Q:Bool->Hp->Prop),Inv X pins σ H s->bI x v->r x H Q ->
  wpAny (model X.prog X.w) X.A (truthy v) (TP X pins σ Q) X.xe s
def tOp(r:R2)(ta tb:TE):TE:=λσ H Q=>ta σ H λx H1=>tb σ H1 λy H2=>r x y H2 Q
def tUn(r:V->Hp->VK->Prop)(ta:TE):TE:=λσ H Q=>ta σ H λx H1=>r x H1 Q
def rI(C:Int->Int->Prop)(g:Int->Int->V):R2:=λx y H Q=>∃i j,x=.int i/\y=.int j/\C i j/\Q (g i j) H
def rI0(g:Int->Int->V):R2:=λx y H Q=>∃i j,x=.int i/\y=.int j/\Q (g i j) H
def rU(g:Int->V):V->Hp->VK->Prop:=λx H Q=>∃i,x=.int i/\Q (g i) H
section
variable {X:Cx} {a b c:Expr} {ta tb tc:TE} {pos:Pos}
theorem aKi(ha:PE X a ta)(hb:PE X b tb){R:V->V->Hp->Prop}(I:Inv X pins σ H s)
 (h:ta σ H λx H1=>tb σ H1 λy H2=>R x y H2) {Q:Value->Shared->Prop} {f:Value->Value->Sem Value}
 (hf:∀v u s2 x y H2,Inv X pins σ H2 s2->bI x v->bI y u->R x y H2->wpAny (model X.prog X.w) X.A (f v u) Q X.xe s2) :
 wpAny (model X.prog X.w) X.A (eval a X.env) (λv s₁=>wpAny (model X.prog X.w) X.A (eval b X.env) (λu s₂=>wpAny (model X.prog X.w) X.A (f v u) Q X.xe s₂) X.xe s₁) X.xe s:=by refine thn (ha pins s σ H _ I h) λv s1 ⟨x,H1,I1,r1,q1⟩=>?_;refine thn (hb pins s1 σ H1 _ I1 q1) λu s2 ⟨y,H2,I2,r2,q2⟩=>?_;exact hf v u s2 x y H2 I2 r1 r2 q2
theorem aKj{r:V->Hp->VK->Prop}(ho:UnR X (unaryOp op) r)(ha:PE X a ta):PE X (.UnaryOp op a pos) (tUn r ta):=by intro pins s σ H Q I h;exact UnaryOp_ (thn (ha pins s σ H _ I h) λv s1 ⟨x,H1,I1,r1,q1⟩=>ho pins s1 σ H1 x v Q I1 r1 q1)
theorem opI{f:Value->Value->Sem Value}{C:Int->Int->Prop}{g:Int->Int->Int}
 (rule:∀(i j:Int) (t u:Tok) (s:Shared) (Q:Value->Shared->Prop) (E:Value->Shared->Prop),C i j->Q (.int (g i j) s.toks) { s with toks:=s.toks+1 }->wpAny (model X.prog X.w) X.A (f (.int i t) (.int j u)) Q E s) :
 OpR X f (rI C λi j=>.int (g i j)):=by intro pins s σ H x y v u Q I rx ry h;obtain⟨i,j,rfl,rfl,hc,q⟩:=h;obtain⟨t,rfl⟩:=rx;obtain⟨t',rfl⟩:=ry;exact rule i j t t' s _ _ hc ⟨.int (g i j),H,I.tok _,⟨_,rfl⟩,q⟩
theorem aKk{f:Value->Value->Sem Value}{g:Int->Int->Int}
 (rule:∀(i j:Int) (t u:Tok) (s:Shared) (Q:Value->Shared->Prop) (E:Value->Shared->Prop),Q (.int (g i j) s.toks) { s with toks:=s.toks+1 }->wpAny (model X.prog X.w) X.A (f (.int i t) (.int j u)) Q E s) :
 OpR X f (rI0 λi j=>.int (g i j)):=by intro pins s σ H x y v u Q I rx ry h;obtain⟨i,j,rfl,rfl,q⟩:=h;obtain⟨t,rfl⟩:=rx;obtain⟨t',rfl⟩:=ry;exact rule i j t t' s _ _ ⟨.int (g i j),H,I.tok _,⟨_,rfl⟩,q⟩
theorem aFy{f:Value->Value->Sem Value}{g:Int->Int->Bool}
 (rule:∀(i j:Int) (t u:Tok) (s:Shared) (Q:Value->Shared->Prop) (E:Value->Shared->Prop),Q (.bool (g i j)) s->wpAny (model X.prog X.w) X.A (f (.int i t) (.int j u)) Q E s) :
 OpR X f (rI0 λi j=>.bl (g i j)):=by intro pins s σ H x y v u Q I rx ry h;obtain⟨i,j,rfl,rfl,q⟩:=h;obtain⟨t,rfl⟩:=rx;obtain⟨t',rfl⟩:=ry;exact rule i j t t' s _ _ ⟨.bl (g i j),H,I,rfl,q⟩
def aNs(i j:Int):Prop:=0<j/\j<1073741824
def aNt(i j:Int):Prop:=0<=j/\j<=1000000/\i.natAbs<2 ^ 64
def aHU(i j:Int):Prop:=(-(2 ^ 64)<i/\i<2 ^ 64)\/(-(2 ^ 64)<j/\j<2 ^ 64)
theorem aHU.ok(h:aHU i j):IntMulOk i j:=by
 rcases h with⟨h1,h2⟩|⟨h1,h2⟩
 exact .of_left (intBits_le_64 h1 h2);exact .of_right (intBits_le_64 h1 h2)
theorem aHV:OpR X (binaryOp .Add) (rI0 λi j=>.int (i+j)):=aKk λ_ _ _ _ _ _ _ q=>add_int q
theorem aHW:OpR X (binaryOp .Sub) (rI0 λi j=>.int (i-j)):=aKk λ_ _ _ _ _ _ _ q=>sub_int q
theorem aHX:OpR X (binaryOp .Mult) (rI aHU λi j=>.int (i*j)):=opI λ_ _ _ _ _ _ _ hc q=>mul_int q hc.ok
theorem aFz:OpR X (binaryOp .FloorDiv) (rI aNs λi j=>.int (i / j)):=opI λi j _ _ _ _ _ hc q=>by have h1:(0:Int)<j:=hc.1;have h2:j<1073741824:=hc.2;exact floordiv_int (by omega) (by rw[Int.fdiv_eq_ediv_of_nonneg i (by omega)];exact q) (.inl (PyProof.noPylong_small (by omega)))
theorem aHY:OpR X (binaryOp .Mod) (rI (λ_ j=>0<j) λi j=>.int (i % j)):=opI λi j _ _ _ _ _ hc q=>by have h1:(0:Int)<j:=hc;exact mod_int' (by omega) (by rw[Int.fmod_eq_emod_of_nonneg i (by omega)];exact q)
theorem aHZ:OpR X (binaryOp .Pow) (rI aNt λi j=>.int (i ^ j.toNat)):=opI λ_ _ _ _ _ _ _ hc q=>pow_int_small hc.1 hc.2.1 hc.2.2 q
theorem unI{f:Value->Sem Value}{g:Int->Int}
 (rule:∀(i:Int) (t:Tok) (s:Shared) (Q:Value->Shared->Prop) (E:Value->Shared->Prop),Q (.int (g i) s.toks) { s with toks:=s.toks+1 }->wpAny (model X.prog X.w) X.A (f (.int i t)) Q E s) :
 UnR X f (rU λi=>.int (g i)):=by intro pins s σ H x v Q I rx h;obtain⟨i,rfl,q⟩:=h;obtain⟨t,rfl⟩:=rx;exact rule i t s _ _ ⟨.int (g i),H,I.tok _,⟨_,rfl⟩,q⟩
theorem aIa:UnR X (unaryOp .USub) (rU λi=>.int (-i)):=unI λ_ _ _ _ _ q=>neg_int q
end
section
variable {X:Cx} {a b c:Expr} {ta tb tc:TE} {pos:Pos}
theorem yK(I:Inv X pins σ H s)(q:Q (.bl k) H)(e:k=k'):EP X pins σ Q (.bool k') s:=by subst e;exact⟨.bl k,H,I,rfl,q⟩
theorem aKl:OpR X (compareOp .Lt) (rI0 λi j=>.bl (decide (i<j))):=aFy λ_ _ _ _ _ _ _ q=>lt_int q
theorem aKm:OpR X (compareOp .LtE) (rI0 λi j=>.bl (decide (i<=j))):=aFy λ_ _ _ _ _ _ _ q=>le_int q
theorem aKn:OpR X (compareOp .Gt) (rI0 λi j=>.bl (decide (j<i))):=aFy λ_ _ _ _ _ _ _ q=>gt_int q
theorem aKo:OpR X (compareOp .GtE) (rI0 λi j=>.bl (decide (j<=i))):=aFy λ_ _ _ _ _ _ _ q=>ge_int q
theorem aBI:OpR X (compareOp .In) (λx y H Q=>∃i j,x=.str i/\y=.str j/\Q (.bl (!(Builtin.Str.occurrences j i 0 j.length 1).isEmpty)) H):=by intro pins s σ H x y v u Q I rx ry h;obtain⟨i,j,rfl,rfl,q⟩:=h;obtain⟨t,rfl⟩:=rx;obtain⟨t',rfl⟩:=ry;exact in_str (yK I q rfl)
theorem aIb:OpR X (compareOp .Is) (λx y H Q=>y=.non/\Q (.bl (decide (x=.non))) H):=by
 intro pins s σ H x y v u Q I rx ry h;obtain⟨rfl,q⟩:=h;cases ry;refine is_none_gen (yK I q ?_);cases x <;> first
  | (cases rx;rfl)
  | (obtain⟨t,rfl⟩:=rx;rfl)
theorem aFA:OpR X (compareOp .IsNot) (λx y H Q=>y=.non/\Q (.bl (!decide (x=.non))) H):=by
 intro pins s σ H x y v u Q I rx ry h;obtain⟨rfl,q⟩:=h;cases ry;refine isnot_none_gen (yK I q ?_);cases x <;> first
  | (cases rx;rfl)
  | (obtain⟨t,rfl⟩:=rx;rfl)
theorem aFB(ho:OpR X (compareOp op) r)(ha:PE X a ta)(hb:PE X b tb)(hm:behindInMarks op b=false):PE X (.Compare a [op] [b] pos) (tOp r ta tb):=by intro pins s σ H Q I h;exact wpAny_Compare1 (aKi ha hb I h λv u s2 x y H2 I2 rx ry q=>ho pins s2 σ H2 x y v u Q I2 rx ry q) hm
def aHd(t:TE):TT:=λσ H Q=>t σ H λx H'=>∃k,x=.bl k/\Q k H'
theorem aFC(ho:OpR X (compareOp op) r)(ha:PE X a ta)(hb:PE X b tb)(hm:behindInMarks op b=false):PT X (.Compare a [op] [b] pos) (aHd (tOp r ta tb)):=by
 intro pins s σ H Q I h;refine wpAny_isTrue_Compare1 (thn (ha pins s σ H _ I h) λv s1 ⟨x,H1,I1,r1,q1⟩=>thn (hb pins s1 σ H1 _ I1 q1) λu s2 ⟨y,H2,I2,r2,q2⟩=>
  thn (ho pins s2 σ H2 x y v u _ I2 r1 r2 q2) λc s3 ⟨z,H3,I3,r3,k,e,q3⟩=>?_) hm
 subst e;cases r3;exact Cg ⟨H3,I3,q3⟩
def aCO(r r':R2)(ta tb tc:TE):TE:=λσ H Q=>ta σ H λx H1=>tb σ H1 λy H2=>r x y H2 λz H3=>∃k,z=.bl k /\
 (if k=true then tc σ H3 λw' H4=>r' y w' H4 Q else Q (.bl false) H3)
theorem aCP(ho:OpR X (compareOp op) r)(ho':OpR X (compareOp op') r')(ha:PE X a ta)(hb:PE X b tb)(hc:PE X c tc)
 (hm:lastMarks [op,op'] [b,c]=false:=by with_unfolding_all rfl):PE X (.Compare a [op,op'] [b,c] pos) (aCO r r' ta tb tc):=by
 intro pins s σ H Q I h;refine Compare_chain (thn (ha pins s σ H _ I h) λv s1 ⟨x,H1,I1,r1,q1⟩=>chain_link (thn (hb pins s1 σ H1 _ I1 q1) λu s2 ⟨y,H2,I2,r2,q2⟩=>
  thn (ho pins s2 σ H2 x y v u _ I2 r1 r2 q2) λd s3 ⟨z,H3,I3,r3,k,e,q3⟩=>?_)) hm
 subst e;cases r3;refine Cg ?_;cases k with
 | false=>exact ite_ff ⟨.bl false,H3,I3,rfl,q3⟩|true=>exact ite_tt (chain_last (thn (hc pins s3 σ H3 _ I3 q3) λw' s4 ⟨z',H4,I4,r4,q4⟩=>ho' pins s4 σ H4 y z' u w' Q I4 r2 r4 q4))
theorem aCQ(ho:OpR X (compareOp op) r)(ho':OpR X (compareOp op') r')(ha:PE X a ta)(hb:PE X b tb)(hc:PE X c tc)
 (hm:lastMarks [op,op'] [b,c]=false:=by with_unfolding_all rfl):PT X (.Compare a [op,op'] [b,c] pos) (aHd (aCO r r' ta tb tc)):=by
 intro pins s σ H Q I h;refine isTrue_chain (thn (ha pins s σ H _ I h) λv s1 ⟨x,H1,I1,r1,q1⟩=>test_link (thn (hb pins s1 σ H1 _ I1 q1) λu s2 ⟨y,H2,I2,r2,q2⟩=>
  thn (ho pins s2 σ H2 x y v u _ I2 r1 r2 q2) λd s3 ⟨z,H3,I3,r3,k,e,q3⟩=>?_)) hm
 subst e;cases r3;refine Cg ?_;cases k with
 | false=>obtain⟨k',e',q'⟩:=q3;cases e';exact ite_ff ⟨H3,I3,q'⟩|true=>refine ite_tt (test_last (thn (hc pins s3 σ H3 _ I3 q3) λw' s4 ⟨z',H4,I4,r4,q4⟩=>thn (ho' pins s4 σ H4 y z' u w' _ I4 r2 r4 q4) λd' s5 ⟨z2,H5,I5,r5,k2,e2,q5⟩=>?_));subst e2;cases r5;exact Cg ⟨H5,I5,q5⟩
def aFD(K:PySem.W.Frag)(x:V)(H:Hp)(k:Bool):Prop:=
 match x with
 | .non=>k=false|.bl b=>k=b|.int i=>k=(i != 0)
 | .str y=>y.length<=sizeLine/\k=((y.length:Int) != 0)
 | .byt y=>y.size<=sizeLine/\k=((y.size:Int) != 0)
 | .ref p=>(∃xs,SqL K H p xs/\k=!xs.isEmpty)\/(∃xs,SqT K H p xs/\k=!xs.isEmpty)\/∃kvs,H p=some (.dK kvs)/\k=!kvs.isEmpty|_=>False
theorem yL{κ:Type}{kvs:List (κ×V)}{vs:List (κ×Value)}(r:KV kvs vs):(!vs.isEmpty)=!kvs.isEmpty:=by cases r <;> rfl
theorem oG{xs:List V}{its:List Value}(r:bC xs its):(!its.toArray.isEmpty)=!xs.isEmpty:=by cases r <;> simp
theorem kB:(sizeLine:Nat)<2 ^ 63:=by rw[Bz];decide
theorem aCR:aNr X (λx H Q=>∃k,aFD X.K x H k/\Q k H):=by
 intro pins s σ H x v Q I rx h;obtain⟨k,e,q⟩:=h;have hl:=kB;have hs:sizeLine=16777216:=Bz;cases x with
 | non=>cases rx;have e':k=false:=e;subst e';exact truthy_none ⟨H,I,q⟩|bl b=>cases rx;have e':k=b:=e;subst e';exact Cg ⟨H,I,q⟩|int i=>obtain⟨t,rfl⟩:=rx;have e':k=(i != 0):=e;subst e';exact PySem.P.truthy_int ⟨H,I,q⟩|str y=>obtain⟨t,rfl⟩:=rx;obtain⟨hy,e'⟩:y.length<=sizeLine/\k=((y.length:Int) != 0):=e;subst e';exact PySem.P.truthy_str (by omega) ⟨H,I.tok _,q⟩|byt y=>obtain⟨t,rfl⟩:=rx;obtain⟨hy,e'⟩:y.size<=sizeLine/\k=((y.size:Int) != 0):=e;subst e';exact PySem.W.truthy_bytes (by omega) ⟨H,I.tok _,q⟩|ref p=>
  cases rx;have e':(∃xs,SqL X.K H p xs/\k=!xs.isEmpty)\/(∃xs,SqT X.K H p xs/\k=!xs.isEmpty)\/∃kvs,H p=some (.dK kvs)/\k=!kvs.isEmpty:=e;rcases e' with⟨xs,hx,e'⟩|⟨xs,hx,e'⟩|⟨kvs,hx,e'⟩
  subst e';obtain⟨its,r,pl,hz⟩:=I.list hx;have hlen:=r.length;exact wpAny_truthy_list pl.isList (by simp only[Ae];omega) ⟨H,I.tok _,by rw[oG r];exact q⟩;subst e';obtain⟨its,r,pl,hz⟩:=I.tuple hx;have hlen:=r.length;exact truthy_tuple pl (by simp only[Ae];omega) ⟨H,I.tok _,by rw[oG r];exact q⟩;subst e';obtain⟨hz,hS,vs,r,m⟩:kvs.length<=sizeLine/\(p==sysModules)=false/\∃vs,KV kvs vs/\s.heap.DictOf (gM X.prog X.w) p vs:=I.hok p _ hx;have hlen:kvs.length=vs.length:=Paired.length r;exact wpAny_truthy_dict hS m (by omega) ⟨H,I.tok _,by rw[yL r];exact q⟩
 | _=>exact(show False from e).elim
theorem aCS(ha:PE X a ta)(he:∀whole,isTrue a X.env whole=(do let v<-whole;standAt a.pos;holding [v] (truthy v))) :
 PT X a (λσ H Q=>ta σ H λx H'=>∃k,aFD X.K x H' k/\Q k H'):=by intro pins s σ H Q I h;exact isTrue_plain (thn (ha pins s σ H _ I h) λv s1 ⟨x,H1,I1,r1,q1⟩=>aCR pins s1 σ H1 x v Q I1 r1 q1) (he _)
theorem yM:OpR X (binaryOp .Add) (λx y H Q=>∃i j,x=.str i/\y=.str j/\i.length+j.length<=sizeLine/\Q (.str (i++j)) H):=by intro pins s σ H x y v u Q I rx ry h;obtain⟨i,j,rfl,rfl,hz,q⟩:=h;obtain⟨t,rfl⟩:=rx;obtain⟨t',rfl⟩:=ry;exact add_str (λt' tk=>⟨.str (i++j),H,I.tok _,⟨_,rfl⟩,q⟩) hz
theorem oH(r:bC [x] us):∃u,us=[u]/\bI x u:=by
 cases r with
 | cons r1 r2=>cases r2;exact⟨_,rfl,r1⟩
theorem aBJ:fW X (.type "int") (λxs H Q=>(∃i,xs=[.int i]/\Q (.int i) H)\/∃k,xs=[.bl k]/\Q (.int (if k then 1 else 0)) H):=by
 intro pins s σ H xs us Q I r h;rcases h with⟨i,rfl,q⟩|⟨k,rfl,q⟩
 obtain⟨u,rfl,t,rfl⟩:=oH r;exact call_int_int ⟨.int i,H,I,⟨_,rfl⟩,q⟩;obtain⟨u,rfl,r1⟩:=oH r;cases r1;exact call_int_bool ⟨.int (if k then 1 else 0),H,I.tok _,⟨_,rfl⟩,q⟩
end
end L2
namespace L2
open PySem PySem.Spec PyProof.Rows
theorem aBK{h:Heap}{mA:Str->Option Value}(n:h.Ns1 dx mA):∃od,h.get? dx=some od/\∀name,PySem.W.lookIn name od=some (mA name):=by
 obtain⟨o,es,ep,ho,hd,hk,_,hm⟩:=n;refine⟨o,ho,λname=>?_⟩;have e:=hm name;unfold nsFind findBy at e;rw[<-Array.find?_toList] at e;unfold PySem.W.lookIn;rw[hd];dsimp only;split;rename_i y q;rw[q] at e;exact congrArg some e;rename_i q;rw[q] at e;have a:es.toList.any (·.refKey)=false:=by rw[List.any_eq_false];intro y hy;obtain⟨z,t,hkey⟩:=hk y (Array.mem_toList_iff.mp hy);simp[DictEntry.refKey,hkey]
 have a':¬ es.toList.any (·.refKey)=true:=by rw[a];exact Cy
 rw[if_neg a'];exact congrArg some e
section
variable {prog:Program} {w:World} {A:Around} {E:Value->Shared->Prop} {s:Shared} {K:PySem.W.Frag} {x dx C f:Addr} {mA:Str->Option Value} {name:Str} {v:Value}
end
noncomputable def sW(f:Str)(v:V):List (Str×V)->List (Str×V)
 | []=>[(f,v)]
 | (g,x)::r=>if g=f then (g,v)::r else (g,x)::sW f v r
theorem aCF.some_of(r:aCF (some v) o):∃u,o=some u/\bI v u:=by
 cases o with
 | none=>exact(show False from r).elim|some u=>exact⟨u,rfl,r⟩
theorem aBL(r:bI v u):PySem.W.handedIn u=true:=by
 cases v with
 | non=>cases(show u=Value.none from r);rfl|bl b=>cases(show u=Value.bool b from r);rfl|int i=>obtain⟨t,e⟩:=(show ∃t,u=Value.int i t from r);cases e;rfl|str x=>obtain⟨t,e⟩:=(show ∃t,u=Value.str x t from r);cases e;rfl|byt b=>obtain⟨t,e⟩:=(show ∃t,u=Value.bytes b t from r);cases e;rfl|flt b=>obtain⟨t,e⟩:=(show ∃t,u=Value.float b t from r);cases e;rfl|ref a=>cases(show u=Value.ref a from r);rfl|ty n=>cases(show u=Value.type n from r);rfl
section
variable {P:Program} {w:World} {H H':Hp} {h h':Heap} {a C dx:Addr} {fs fs':List (Str×V)}
end
section
variable {X:Cx} {pins:List (Addr×Obj)} {σ:St} {H:Hp} {s:Shared} {a C dx:Addr} {fs:List (Str×V)} {f:Str} {v:V} {A:Around} {E:Value->Shared->Prop}
theorem aFE{Q:Value->Shared->Prop}(hb:attributeBase e f env (eval e env)=eval e env)
 (h:wpAny (model prog w) A (eval e env) (λo s₁=>wpAny (model prog w) A (getAttr o f true) Q E s₁) E s):wpAny (model prog w) A (eval (.Attribute e f pos) env) Q E s:=
 Attribute_any_ h (by rw[arm_eval_Attribute,hb])
end
section
variable {X:Cx} {o e value:Expr} {f:Str} {pos pos' tpos:Pos} {ta tv:TE}
end
section
variable {X:Cx} {pins:List (Addr×Obj)} {σ:St} {H:Hp} {s:Shared} {A:Around} {E:Value->Shared->Prop} {Q:Value->Shared->Prop} {c:Value} {b:Bool}
end
end L2
namespace L2
open PySem PySem.Spec PyProof.Rows
structure jT (k:Nat) (A:Around):Prop where
 hd:A.handled=none
 gd:A.guards=some []
 dp:A.depth+3*k+5<recursionLimit
 un:A.units+16*k+200<cLine
theorem jT.mono(r:jT k A)(h:j<=k):jT j A:=⟨r.hd,r.gd,by have:=r.dp;omega,by have:=r.un;omega⟩
theorem jT.deeper{A:Around}(r:jT (k+1) A)(env:Env):jT k (A.deeper env):=
 ⟨r.hd,r.gd,by have:=r.dp;show A.depth+1+3*k+5<_;omega,by have:=r.un;show A.units+3+16*k+200<_;omega⟩
theorem yN{A:Around}:(A.under (.builtin "type.__call__" ⟨.ref C::us,kw⟩)).depth=A.depth+1:=by
 first|rfl|simp[Around.under,Code.weight,Code.isCreation,Code.isGuard,Code.isCaller,Code.frames,Code.isFrame,guardIds]
theorem jT.depth{A:Around}(r:jT k A):A.depth<recursionLimit:=by have:=r.dp;omega
def aNu:TA:=λ_ H Q=>Q [] H
def aHe(ta:TE)(tr:TA):TA:=λσ H Q=>ta σ H λx H1=>tr σ H1 λxs H2=>Q (x::xs) H2
section
variable {X:Cx} {e:Expr} {es:List Expr} {te:TE} {t:TA} {pos:Pos}
theorem kE:PA X [] aNu:=λ_ _ _ _ H Q I h=>Calls.spliced_nil ⟨[],H,I,.nil,h⟩
theorem fX(ha:PE X e te)(hr:PA X es t)(hs:starEach (e::es) X.env=(false,eval e X.env)::starEach es X.env:=by rfl):PA X (e::es) (aHe te t):=by intro pos pins s σ H Q I h;rw[hs];show wpAny _ _ (spliced ((false,eval e X.env)::backTo pos (starEach es X.env))) _ _ s;refine De (thn (ha pins s σ H _ I h) λu s1 ⟨x,H1,I1,r1,q1⟩=>?_);exact thn (hr pos pins s1 σ H1 _ I1 q1) λus s2 ⟨xs,H2,I2,r2,q2⟩=>⟨x::xs,H2,I2,.cons r1 r2,q2⟩
def aNv(t:TA):TE:=λσ H Q=>t σ H λxs H1=>xs.length<=sizeLine/\∀p,H1 p=none->Q (.ref p) (upd H1 p (.tup xs))
def aNw(t:TA):TE:=λσ H Q=>t σ H λxs H1=>xs.length<=sizeLine/\∀p,H1 p=none->Q (.ref p) (upd H1 p (.lst xs))
theorem aCT{x1}(h:PA X es t):PE X (.Tuple es x1 pos) (aNv t):=by intro pins s σ H Q I hq;refine wpAny_Tuple_spliced (thn (h pos pins s σ H _ I hq) λus s1 ⟨xs,H1,I1,r,z,q⟩=>⟨by rw[<-r.length];exact z,?_⟩);have hf:H1 s1.heap.objs.size=none:=I1.hok.fresh (Ai _);refine⟨.ref s1.heap.objs.size,upd H1 s1.heap.objs.size (.tup xs),I1.laid (t':=s1.toks) (λb u e=>Ab _ e) (Ai _) ?_,rfl,q _ hf⟩;exact⟨z,us,r,⟨_,Ao _ rfl,rfl,_,rfl⟩⟩
theorem aIc(h:PA X es t):PE X (.List es pos) (aNw t):=by intro pins s σ H Q I hq;refine wpAny_List_spliced (thn (h pos pins s σ H _ I hq) λus s1 ⟨xs,H1,I1,r,z,q⟩=>⟨by rw[<-r.length];exact z,?_⟩);have hf:H1 s1.heap.objs.size=none:=I1.hok.fresh (Ai _);refine⟨.ref s1.heap.objs.size,upd H1 s1.heap.objs.size (.lst xs),I1.laid (t':=s1.toks) (λb u e=>Ab _ e) (Ai _) ?_,rfl,q _ hf⟩;exact⟨z,us,0,r,Ao _ rfl⟩
end
abbrev Sp:=List V->Hp->VK->XK->Prop
abbrev CXT:=List Env->Hp->Shared->XK->Value->Shared->Prop
structure vK (P:Program) (w:World) (K:PySem.W.Frag) (mg:Str->Option Value) (base:Heap) (A:Around) (outer:List Env) (s:Shared) (H:Hp):Prop where
 frames:A.frames=some outer
 mod:Mod K mg base
 bs:∀b o,base.get? b=some o->s.heap.get? b=some o/\H b=none
 bsz:base.objs.size<=s.heap.objs.size
 funs:s.heap.FunFrames base outer
 frf:∀b∈frs outer,H b=none
 hok:HOk P w H s.heap
 bare:AllBare s.gens
def CE(outer:List Env)(P:Program)(w:World)(H:Hp)(s:Shared)(Q:VK)(u:Value)(s':Shared):Prop:=
 ∃v H',s'.os=s.os/\AllBare s'.gens/\Un (frs outer) [] H H' s.heap s'.heap/\HOk P w H' s'.heap/\bI v u/\Q v H'
def CR(CX:CXT)(outer:List Env)(P:Program)(w:World)(H:Hp)(s:Shared)(Q:VK)(E:XK)(r:Result)(s':Shared):Prop:=
 match r with
 | .ok (.ret u)=>CE outer P w H s Q u s'|.ok _=>False|.error e=>CX outer H s E e s'
structure sX (P:Program) (w:World) (K:PySem.W.Frag) (mg:Str->Option Value) (base:Heap) (CX:CXT) (k:Nat) (f:Addr) (fd:FuncData) (ps:List Str) (sp:Sp):Prop where
 len:∀vs H Q E,sp vs H Q E->vs.length=ps.length
 run:∀(A:Around) (outer:List Env) (s:Shared) (H:Hp) (args:Args) (us:List Value) (vs:List V) (Q:VK) (E:XK),jT k A->vK P w K mg base A outer s H->BindsTo s fd args (ps.zip us)->bC vs us->sp vs H Q E ->
  codeAny (model P w) A (.call (.ref f) args) (CR CX outer P w H s Q E) s
theorem vK.make{P:Program}{w:World}{K:PySem.W.Frag}{mg:Str->Option Value}{base:Heap}{A:Around}{outer:List Env}{s:Shared}{H:Hp}(e:vK P w K mg base A outer s H)(C:Addr)(us:List Value)(kw:List (Str×Value)) :
 vK P w K mg base (A.under (.builtin "type.__call__" ⟨.ref C::us,kw⟩)) outer s H:=⟨by first|exact e.frames|(simpa[Around.under,Code.envs,Code.isFrame,pushEnvs] using e.frames),e.mod,e.bs,e.bsz,e.funs,e.frf,e.hok,e.bare⟩
section
variable {X:Cx} {pins:List (Addr×Obj)} {σ:St} {H:Hp} {s s':Shared}
theorem Inv.env0(I:Inv X pins σ H s):vK X.prog X.w X.K X.mg X.base X.A X.stack s H:=
 ⟨I.ok.frames,I.ok.mod,I.bs,A1 I.ok.bsz I.sz,I.stack,I.stkFree,I.hok,I.bare⟩
theorem Inv.after(I:Inv X pins σ H s)(h:CE X.stack X.prog X.w H s Q u s'):EP X pins σ Q u s':=by obtain⟨v,H',os,bare,un,hok,r,q⟩:=h;obtain⟨hh,g,d,t,os'⟩:=s';obtain rfl:os'=s.os:=os;exact⟨v,H',I.call (h':=hh) (g':=g) (d':=d) (t':=t) (ch:=[]) un hok bare (λb z=>absurd z (by simp)),r,q⟩
end
def iJ(K:PySem.W.Frag)(fd:FuncData)(ps:List Str)(ds:List Value):Prop:=
 ∀(s:Shared) (us:List Value),K.In s.heap->(us++ds).length=ps.length->BindsTo s fd ⟨us,[]⟩ (ps.zip (us++ds))
theorem iJ.all{K:PySem.W.Frag}{fd:FuncData}{ps:List Str}(h:∀us:List Value,us.length=ps.length->bindArgs fd ⟨us,[]⟩=pure (ps.zip us)):iJ K fd ps []:=λs us _ hl=>by rw[B8] at hl ⊢;exact .of_eq (h us hl)
section
variable {X:Cx} {CX:CXT} {k:Nat} {f C:Addr} {fd:FuncData} {ps:List Str} {sp:Sp} {dvs:List V} {ds:List Value} {E:XK} {x m:Str} {p pos apos:Pos} {e o:Expr} {es:List Expr} {ta:TE} {t:TA}
end
section
variable {X:Cx} {CX:CXT} {k:Nat} {f C:Addr} {fd:FuncData} {ps ks:List Str} {sp:Sp} {E:XK} {x m:Str} {p pos apos kpos:Pos} {e o:Expr} {es:List Expr} {kws:List Keyword} {te ta:TE} {t tk:TA} {nm:Option Str}
variable {g:List Value->List Value->List Value} {gV:List V->List V->List V}
end
structure nR (N P:List Str) (sc:Scope):Prop where
 kind:sc.kind=.function
 co:sc.isCoroutine=false
 gen:sc.isGenerator=false
 nd:N.Nodup
 pre:N.take P.length=P
 par:∀x∈P,sc.names.lookup x=some .local\/sc.names.lookup x=some .cell
 nofree:∀y∈sc.names,y.2≠.free
theorem rA{kindOf:Str->Option NameKind}:∀{binds:List (Str×Value)} {m:Str->Option Value},(∀v,(x,v)∉binds)->bindL kindOf binds m x=m x
 | [],_,_=>rfl|(n,v)::r,m,h=>by
  unfold bindL;rw[rA λw hw=>h w (Ak _ hw)];split;have:x≠n:=by rintro rfl;exact h v As
  simp[this];rfl
theorem rB{kindOf:Str->Option NameKind}:∀{binds:List (Str×Value)} {m:Str->Option Value},(∀v,(x,v)∉binds)->bindC kindOf binds m x=m x
 | [],_,_=>rfl|(n,v)::r,m,h=>by
  unfold bindC;rw[rB λw hw=>h w (Ak _ hw)];split;rfl;have:x≠n:=by rintro rfl;exact h v As
  simp[this]
theorem rC{kindOf:Str->Option NameKind}:∀{P:List Str} {vs:List Value} {i:Nat} {m:Str->Option Value},P.Nodup->P[i]? = some x->vs[i]? = some v->kindOf x=some .local ->
 bindL kindOf (P.zip vs) m x=some v
 | [],_,_,_,_,h,_,_=>by simp at h|_::_,[],_,_,_,_,h,_=>by simp at h|p::P,w::vs,0,m,nd,h1,h2,hk=>by simp at h1 h2;subst h1;subst h2;show bindL kindOf ((p,w)::P.zip vs) m p=_;unfold bindL;rw[rA λv hv=>(Cv.mp nd).1 (Du hv).1,if_pos hk];simp|p::P,w::vs,i+1,m,nd,h1,h2,hk=>by show bindL kindOf ((p,w)::P.zip vs) m x=_;unfold bindL;exact rC (i:=i) (Cv.mp nd).2 (by simpa using h1) (by simpa using h2) hk
theorem rD{kindOf:Str->Option NameKind}:∀{P:List Str} {vs:List Value} {i:Nat} {m:Str->Option Value},P.Nodup->P[i]? = some x->vs[i]? = some v->kindOf x≠some .local ->
 bindC kindOf (P.zip vs) m x=some v
 | [],_,_,_,_,h,_,_=>by simp at h|_::_,[],_,_,_,_,h,_=>by simp at h|p::P,w::vs,0,m,nd,h1,h2,hk=>by simp at h1 h2;subst h1;subst h2;show bindC kindOf ((p,w)::P.zip vs) m p=_;unfold bindC;rw[rB λv hv=>(Cv.mp nd).1 (Du hv).1,if_neg hk];simp|p::P,w::vs,i+1,m,nd,h1,h2,hk=>by show bindC kindOf ((p,w)::P.zip vs) m x=_;unfold bindC;exact rD (i:=i) (Cv.mp nd).2 (by simpa using h1) (by simpa using h2) hk
def start(N:List Str)(vs:List V):St:=vs.map some++List.replicate (N.length-vs.length) none
noncomputable def oJ(CX:CXT)(P:Program)(w:World)(K:PySem.W.Frag)(mg:Str->Option Value)(base:Heap)(N:List Str)(qual:Str)(scope:Scope)(f:Addr)(cd:Value)(A:Around)(outer:List Env)(s:Shared)(H:Hp)(E:XK):Cx where
 prog:=P
 w:=w
 K:=K
 mg:=mg
 base:=base
 A:=A.deeper (envOfC qual scope s.heap.objs.size f cd)
 N:=N
 s₀:=s
 H₀:=H
 env:=envOfC qual scope s.heap.objs.size f cd
 outer:=outer
 stack:=envOfC qual scope s.heap.objs.size f cd::outer
 ex:=[]
 calm:=true
 fn:=λ_=>true
 pn:=[]
 xe:=λe s'=>wpAny (model P w) (A.deeper (envOfC qual scope s.heap.objs.size f cd)) (leaving (envOfC qual scope s.heap.objs.size f cd) e) (λ_ s''=>CX outer H s E e s'') (λe' s''=>CX outer H s E e' s'') s'
theorem vL{sc:Scope}(h:sc.names.lookup x=some .cell):∃c,(cellsFrom n sc.names []).lookup x=some c:=by have q:=D4 sc.names n [] (.inl h);exact Option.isSome_iff_exists.mp q
theorem rE{CX:CXT}{P:Program}{w:World}{K:PySem.W.Frag}{mg:Str->Option Value}{base:Heap}{N ps:List Str}{qual:Str}{scope:Scope}{f:Addr}{cd:Value}{A:Around}{outer:List Env}{s s1:Shared}{H:Hp}{E:XK}{us:List Value}{vs:List V}
 (S:nR N ps scope) (hd:A.handled=none) (e0:vK P w K mg base A outer s H) (hl:vs.length=ps.length) (r:bC vs us)
 (x:InCallC s s.heap.objs.size (bindL (envOfC qual scope s.heap.objs.size f cd).kindOf (ps.zip us) λ_=>none) (cellsFrom (s.heap.objs.size+1) scope.names []) (bindC (envOfC qual scope s.heap.objs.size f cd).kindOf (ps.zip us) λ_=>none) s1) :
 Inv (oJ CX P w K mg base N qual scope f cd A outer s H E) [] (start N vs) H s1:=by
 have hpl:ps.length<=N.length:=by have:=congrArg List.length S.pre;rw[A4] at this;omega
 obtain⟨h1,tk,rfl,hk⟩:=x.done;have noA:∀b:Addr,b∉(oJ CX P w K mg base N qual scope f cd A outer s H E).ex:=λb z=>absurd (show b∈([]:List Addr) from z) (by simp);refine⟨⟨e0.mod,S.kind,rfl,rfl,Ai _,λy z c h1 h2=>?_,λy hy=>?_,λy c _ h=>?_,λ_=>hd,Around.frames_deeper e0.frames,.inr ⟨rfl,rfl⟩,λb z=>absurd z (noA b),e0.bs,e0.bsz,λb _ _=>noA b,λb z=>absurd z (noA b),e0.funs,e0.frf⟩,
  rfl,e0.bare,Un.kept hk,⟨_,x.toInCall.ns,λi y v h1 h2 h3=>?_⟩,λy c h=>⟨_,x.cell y c h⟩,e0.hok.fresh (Ai _),λy c h=>?_,λp hp=>absurd (show p∈([]:List (Addr×Obj)) from hp) (by simp),e0.hok.kept hk,?_⟩
 exact name_of_addr x.apart (B0 h1) (B0 h2);have hy:scope.names.lookup y=some .cell\/scope.names.lookup y=some .free:=hy;rcases hy with hy|hy;exact vL hy;exact absurd rfl (S.nofree _ (B0 hy));exact Nat.le_of_lt (x.above y c (B0 h));have hi:i<vs.length:=by unfold start at h2;by_cases hi:i<vs.length;exact hi;rw[Bg (by simpa using hi)] at h2;rw[Cc] at h2;split at h2 <;> cases h2
 have ha:vs[i]? = some v:=by
  unfold start at h2;rw[Bv (by simpa using hi),A5] at h2;cases e:vs[i]? with
  | none=>rw[e] at h2;cases h2|some a=>rw[e] at h2;cases h2;rfl
 obtain⟨u,hu,rv⟩:=r.get ha;have hp:ps[i]? = some y:=by rw[<-S.pre,List.getElem?_take_of_lt (by omega)];exact h1
 have ndP:ps.Nodup:=by rw[<-S.pre];exact S.nd.sublist (List.take_sublist _ _)
 refine⟨u,rv,?_⟩;rcases S.par y (List.mem_of_getElem? hp) with k|k;exact .inl ⟨k,rC ndP hp hu k⟩;obtain⟨c,e⟩:=vL (n:=s.heap.objs.size+1) k;refine .inr ⟨.inl k,c,e,?_⟩;have q:=x.cell y c e;rw[rD ndP hp hu (by show scope.names.lookup y≠_;rw[k];decide)] at q;exact q;exact e0.hok.fresh (Nat.le_of_lt (x.above y c (B0 h)));unfold start;show _=N.length;rw[Df,List.length_map,Ba];omega
theorem aKp{CX:CXT}{P:Program}{w:World}{K:PySem.W.Frag}{mg:Str->Option Value}{base:Heap}{k:Nat}{f:Addr}{name qual:Str}{params:Arguments}{body:List Stmt}{scope:Scope}{dV kV doc pm cdv ct oc:Value}{an od:Option Addr}
 {osl:Array (Option Value)} {N ps:List Str} {sp:Sp} (lk:K.lookup f=some ⟨oc,od,.func (PySem.W.fnOf name qual params body scope dV kV doc pm an cdv ct),osl⟩) (hcd:PySem.W.codeIn K cdv qual=true) (S:nR N ps scope)
 (len:∀vs H Q E,sp vs H Q E->vs.length=ps.length)
 (hbody:∀(A:Around) (outer:List Env) (s:Shared) (H:Hp) (vs:List V) (Q:VK) (E:XK),jT k (A.deeper (envOfC qual scope s.heap.objs.size f cdv))->sp vs H Q E ->
  ∃t,PSs (oJ CX P w K mg base N qual scope f cdv A outer s H E) body t/\t { nx:=λ_ H'=>Q .non H',rt:=Q } (start N vs) H) :
 sX P w K mg base CX (k+1) f (PySem.W.fnOf name qual params body scope dV kV doc pm an cdv ct) ps sp:=by
 refine⟨len,λA outer s H args us vs Q E hr e0 hb r hsp=>?_⟩;have hl:=len _ _ _ _ hsp;have KX:K.In s.heap:=e0.mod.kin.keeps λb o e=>(e0.bs b o e).1;have lim:s.heap.NoLimit:=e0.mod.nolimit.keeps λb o e=>(e0.bs b o e).1;have hkind:∀y∈ps.zip us,scope.names.lookup y.1=some .local\/(scope.names.lookup y.1=some .cell/\((cellsFrom (s.heap.objs.size+1) scope.names []).lookup y.1).isSome=true):=λ⟨n,v⟩ hy=>by rcases S.par n (Du hy).1 with q|q;exact .inl q;exact .inr ⟨q,D4 _ _ _ (.inl q)⟩
 refine codeAny_call_function hr.depth (KX _ _ lk) rfl S.co S.gen rfl (PySem.W.codeRec_of KX hcd) (hb _ _ _ _ ?_);refine wpAny_newFunctionEnv_cells S.kind hkind λenv he s1 x=>?_;subst he;refine⟨lim.keeps x.toInCall.keep,codeAny_func ?_⟩;obtain⟨t,ht,hq⟩:=hbody A outer s H vs Q E (hr.deeper _) hsp;have I:Inv (oJ CX P w K mg base N qual scope f cdv A outer s H E) [] (start N vs) H s1:=rE S hr.hd e0 hl r x;refine Bo (ht [] s1 (start N vs) H _ I hq) (λfl s' hs=>?_) λe s' hs=>hs;have fin:∀{σ':St} {H':Hp} {v:V} {u:Value},Inv (oJ CX P w K mg base N qual scope f cdv A outer s H E) [] σ' H' s'->bI v u->Q v H'->CE outer P w H s Q u s':=
  λ{σ' H' v u} J rv q=>⟨v,H',J.os,J.bare,J.base,J.hok,rv,q⟩
 cases fl with
 | ret u=>obtain⟨v,σ',H',J,rv,q⟩:=hs;exact fin J rv q|next=>obtain⟨σ',H',J,q⟩:=hs;exact fin (v:=V.non) (u:=Value.none) J rfl q|brk=>obtain⟨_,_,_,q⟩:=hs;exact False.elim q|cont=>obtain⟨_,_,_,q⟩:=hs;exact False.elim q
end L2
namespace L2
open PySem PySem.Spec PyProof.Rows
section
variable {X:Cx} {x:Str} {p pos:Pos} {e:Expr} {es:List Expr} {t:TA} {id T:String} {r:List V->Hp->VK->Prop}
def tCB(r:List V->Hp->VK->Prop)(t:TA):TE:=λσ H Q=>t σ H λvs H1=>r vs H1 Q
theorem oK(hc:fW X (.builtin id) r)(hg:Gl X x)(hm:X.mg x=none)(hv:bootBuiltins x=some (.builtin id))(ha:PA X (e::es) t)(hn:x ≠ "__name__" := by decide)(hdb:(x==("__debug__" : Str))=false:=by decide)
 (he:starEach (e::es) X.env=(false,eval e X.env)::starEach es X.env:=by rfl) (hpl:(backTo pos (starEach es X.env)).any (·.1)=false:=by rfl):PE X (.Call (.Name x p) (e::es) [] pos) (tCB r t):=by intro pins s σ H Q I h;refine B9 (gE I hg hm hv ?_ hn hdb);exact C9 (thn (ha pos pins s σ H _ I h) λus s1 ⟨vs,H1,I1,r1,q1⟩=>hc pins s1 σ H1 vs us Q I1 r1 q1) he hpl
theorem mD(hc:fW X (.type T) r)(hg:Gl X x)(hm:X.mg x=none)(hv:bootBuiltins x=some (.type T))(ha:PA X (e::es) t)(hn:x ≠ "__name__" := by decide)(hdb:(x==("__debug__" : Str))=false:=by decide)
 (he:starEach (e::es) X.env=(false,eval e X.env)::starEach es X.env:=by rfl) (hpl:(backTo pos (starEach es X.env)).any (·.1)=false:=by rfl):PE X (.Call (.Name x p) (e::es) [] pos) (tCB r t):=by intro pins s σ H Q I h;refine B9 (gE I hg hm hv ?_ hn hdb);exact Cf (thn (ha pos pins s σ H _ I h) λus s1 ⟨vs,H1,I1,r1,q1⟩=>hc pins s1 σ H1 vs us Q I1 r1 q1) he hpl
end
end L2
namespace HT
open PySem PyProof.Rows
section
open PySem.SeqAt
open PySem.AutoSeq1 (wpAny_loadPart')
open PySem.MeetsSeq PySem.MeetsSeq2 PySem.MeetsSeq3
end
section
variable {prog:Program} {w:World} {A:Around} {E:Value->Shared->Prop} {s:Shared}
theorem cat_tup{vs ws:List Value}{Q:Value->Shared->Prop}(ht:IsTup s.heap t vs.toArray)(hb:IsTup s.heap b ws.toArray)(hv:vs≠[])
 (h1:ws=[]->Q (.ref t) s) (h2:ws≠[]->Q (.ref s.heap.objs.size) { s with heap:=s.heap.push { cls:=.type "tuple",data:=.seq (vs++ws).toArray } })
 (hsz:vs.length+ws.length<=sizeLine):wpAny (model prog w) A (binaryOp .Add (.ref t) (.ref b)) Q E s:=by
 obtain⟨⟨cls,dd,data,sl⟩,ho,hc,n,hd⟩:=id ht;obtain⟨⟨cls2,dd2,data2,sl2⟩,ho2,hc2,n2,hd2⟩:=id hb;simp only at hc hd hc2 hd2;subst hc hd hc2 hd2;have e:vs.toArray++ws.toArray=(vs++ws).toArray:=by simp
 by_cases hw:ws=[]
 exact concat_meets ⟨_,ho,rfl⟩ ⟨_,ho2,rfl⟩ noFill_tuple_add seq_tuple_add D5 D1 (Dq _ _)
  (tuple_addW1 t b vs.toArray ws.toArray n n2 dd dd2 sl sl2 (by simpa using hv) (by simp[hw])) ⟨ho,ho2,h1 hw⟩
 refine concat_meets ⟨_,ho,rfl⟩ ⟨_,ho2,rfl⟩ noFill_tuple_add seq_tuple_add D5 D1 (Dq _ _)
  (tuple_addW2 t b vs.toArray ws.toArray n n2 dd dd2 sl sl2 (by simpa using hv) (by simpa using hw) (by rw[Ae,Ae];exact hsz)) ⟨ho,ho2,?_⟩
 rw[e];exact h2 hw
def sIx(n d:Nat):Option Int->Nat
 | none=>d|some v=>if v<0 then (v+(n:Int)).toNat else min v.toNat n
theorem aId(n d:Nat)(hd:d<=n)(o:Option Int):sIx n d o<=n:=by
 cases o with
 | none=>exact hd|some v=>show(if v<0 then (v+(n:Int)).toNat else min v.toNat n)<=n;by_cases hv:v<0;rw[if_pos hv];omega;rw[if_neg hv];exact Nat.min_le_right _ _
theorem aAr(v:Int)(n d:Nat):(if v<0 then max (v+(n:Int)) 0 else min v (n:Int))=((sIx n d (some v):Nat):Int):=by
 show(if v<0 then max (v+(n:Int)) 0 else min v (n:Int))=(((if v<0 then (v+(n:Int)).toNat else min v.toNat n):Nat):Int)
 by_cases hv:v<0;simp only[if_pos hv];omega;simp only[if_neg hv];omega
theorem yO(lo hi:Option Int)(n:Nat):Builtin.Slice.sliceAdjust lo hi 1 (n:Int)=(((sIx n 0 lo:Nat):Int),((sIx n n hi:Nat):Int)):=by
 have h1:¬ ((1:Int)<0):=by omega
 unfold Builtin.Slice.sliceAdjust;simp only[h1,if_false];refine Prod.ext ?_ ?_;cases lo with
 | none=>rfl|some v=>exact aAr v n 0
 cases hi with
 | none=>rfl|some v=>exact aAr v n n
theorem yP(i j:Nat):Builtin.Slice.slicePlaces (i:Int) (j:Int) 1=j-i:=by
 unfold Builtin.Slice.slicePlaces;have h1:(1:Int)>0:=by omega
 simp only[h1,if_true,Int.ediv_one];split <;> omega
theorem oM{Q:Option Int->Shared->Prop}(p:IsPart v o)(h:Q o s):wpAny (model prog w) A (Builtin.Slice.slicePartIndex v) Q E s:=by
 cases p with
 | none=>exact slicePart_none h|int i t=>exact slicePart_int h
theorem sliceApplied_gen{sl:Addr}{vl vu:Value}{lo hi:Option Int}{n:Nat}{Q:Int×Int×Nat->Shared->Prop}(hs:s.heap.IsSliceOf sl vl vu .none)(pl:IsPart vl lo)(pu:IsPart vu hi)
 (h:Q (((sIx n 0 lo:Nat):Int),1,sIx n n hi-sIx n 0 lo) s):wpAny (model prog w) A (Builtin.Slice.sliceApplied (.ref sl) (pure (n:Int))) Q E s:=by obtain⟨os,hos,hcs,hds⟩:=id hs;unfold Builtin.Slice.sliceApplied Builtin.Slice.sliceFields;refine Aa (Aa (A6 hos hds (x:=vl) rfl (Aa (A6 hos hds (x:=vu) rfl (Aa (A6 hos hds (x:=.none) rfl (Al ?_)))))));refine Aa (slicePart_none ?_);show wpAny _ _ (if ((1:Int)==0)=true then _ else _) _ _ s;rw[if_neg (by decide)];refine Aa (oM pl (Aa (oM pu (Aa (Al ?_)))));show wpAny _ _ (match Builtin.Slice.sliceAdjust lo hi 1 (n:Int) with|(lo,hi)=>pure (lo,(1:Int),Builtin.Slice.slicePlaces lo hi 1)) _ _ s;rw[yO lo hi n];show wpAny _ _ (pure (((sIx n 0 lo:Nat):Int),(1:Int),Builtin.Slice.slicePlaces ((sIx n 0 lo:Nat):Int) ((sIx n n hi:Nat):Int) 1)) _ _ s;rw[yP];exact Al h
theorem aCU(xs:Array Value)(i k:Nat):((List.range k).filterMap λ(m:Nat)=>xs[((i:Int)+(m:Int)*1).toNat]?).toArray=((xs.toList.drop i).take k).toArray:=by
 have e:(λ(m:Nat)=>xs[((i:Int)+(m:Int)*1).toNat]?)=λm=>xs[i+m]? := by
  funext m
  have:((i:Int)+(m:Int)*1).toNat=i+m:=by omega
  rw[this]
 rw[e];have:=pick_run xs i k;rw[List.filterMap_map] at this;have e2:((λx=>xs[x]?)∘λx=>i+x)=λm=>xs[i+m]? := rfl;rw[e2] at this;rw[this]
theorem getItem_tuple_cut{t sl:Addr}{items:Array Value}{vl vu:Value}{lo hi:Option Int}{Q:Value->Shared->Prop}(ht:IsTup s.heap t items)(hs:s.heap.IsSliceOf sl vl vu .none)(pl:IsPart vl lo)(pu:IsPart vu hi)
 (hw:¬ (sIx items.size 0 lo=0/\sIx items.size items.size hi=items.size))
 (h:Q (.ref s.heap.objs.size) { s with heap:=s.heap.push { cls:=.type "tuple",data:=.seq ((items.toList.drop (sIx items.size 0 lo)).take (sIx items.size items.size hi-sIx items.size 0 lo)).toArray } })
 (hsz:items.size<=sizeLine):wpAny (model prog w) A (getItem (.ref t) (.ref sl)) Q E s:=by
 have htake:sizeOk (.seq ((items.toList.drop (sIx items.size 0 lo)).take (sIx items.size items.size hi-sIx items.size 0 lo)).toArray):=by show((items.toList.drop (sIx items.size 0 lo)).take (sIx items.size items.size hi-sIx items.size 0 lo)).toArray.size<=sizeLine;rw[Ae,A4,Cd,Ck];omega
 have hj:sIx items.size items.size hi<=items.size:=aId _ _ (Ai _) hi;obtain⟨os,hos,hcs,hds⟩:=id hs;have hTs:s.TypeIs (.ref sl) "slice" := ⟨os,hos,hcs⟩
 unfold getItem
 try with_reducible refine C7 ?_
 first|refine Aa (Al ?_)|skip
 refine Aa (wpAny_sequenceKey ht.typeIs (by decide) ?_);refine Aa (Bt (name:=Str.ofString "__getitem__") ht.typeIs Bq
  (Cp Bq ht.typeIs entry_tuple_getitem ?_ (args_tuple_getitem _ _)))
 show wpAny _ _ (Builtin.Tuple.tupleItemsOf (.ref t) >>= _) _ _ s;refine Aa (tupleItemsOf_ ht ?_);refine Aa (wpAny_typeOf hTs ?_);rw[if_pos (by decide)];refine Aa (sliceApplied_gen hs pl pu ?_);have hno:¬ ((((sIx items.size 0 lo:Nat):Int)==0&&(1:Int)==1&&(sIx items.size items.size hi-sIx items.size 0 lo)==items.size)=true):=by intro q;rw[Bool.and_eq_true,Bool.and_eq_true] at q;have q1:((sIx items.size 0 lo:Nat):Int)=0:=eq_of_beq q.1.1;have q2:sIx items.size items.size hi-sIx items.size 0 lo=items.size:=eq_of_beq q.2;exact hw ⟨by omega,by omega⟩
 show wpAny _ _ (if (((sIx items.size 0 lo:Nat):Int)==0&&(1:Int)==1&&(sIx items.size items.size hi-sIx items.size 0 lo)==items.size)=true then _ else _) _ _ s;rw[if_neg hno,aCU]
 first
  | exact Aa (m:=Builtin.Tuple.tupleExact _) (B4 (Al ⟨_,rfl,Al h⟩) htake)
  | exact Aa (m:=Builtin.Tuple.tupleExact _) (B4 (Aa (Al (Al ⟨_,rfl,Al h⟩))) htake)
  | exact Aa (Aa (m:=Builtin.Tuple.tupleExact _) (B4 (Al (Al ⟨_,rfl,Al h⟩)) htake))
  | exact Aa (Aa (m:=Builtin.Tuple.tupleExact _) (B4 (Al ⟨_,rfl,Al h⟩) htake))
end
end HT
namespace L2
open PySem PySem.Spec PyProof.Rows
abbrev TO:=St->Hp->(Option Int->Hp->Prop)->Prop
def PO(X:Cx)(e:Option Expr)(t:TO):Prop:=
 ∀(pins:List (Addr×Obj)) (s:Shared) (σ:St) (H:Hp) (Q:Option Int->Hp->Prop),Inv X pins σ H s->t σ H Q ->
  wpAny (model X.prog X.w) X.A (evalPart e X.env) (λu s'=>∃o H',Inv X pins σ H' s'/\IsPart u o/\Q o H') X.xe s
def aFF:TO:=λ_ H Q=>Q none H
def aKq(t:TE):TO:=λσ H Q=>t σ H λx H1=>∃i,x=.int i/\Q (some i) H1
section
variable {X:Cx} {e:Expr} {te:TE} {lo hi:Option Expr} {tl th:TO} {pos p2:Pos}
theorem aFG:PO X none aFF:=by intro pins s σ H Q I h;rw[evalPart_none];exact Al ⟨none,H,I,.none,h⟩
theorem aFH(h:PE X e te):PO X (some e) (aKq te):=by intro pins s σ H Q I hw;rw[evalPart_some];refine thn (h pins s σ H _ I hw) λu s1 ⟨x,H1,I1,r1,q1⟩=>?_;obtain⟨i,rfl,q⟩:=q1;obtain⟨t,rfl⟩:=r1;exact⟨some i,H1,I1,.int i t,q⟩
def SlR(X:Cx)(r:V->Option Int->Option Int->Hp->VK->Prop):Prop:=
 ∀(pins:List (Addr×Obj)) (s:Shared) (σ:St) (H:Hp) (x:V) (v vl vu:Value) (lo hi:Option Int) (sl:Addr) (Q:VK),Inv X pins σ H s->bI x v->s.heap.IsSliceOf sl vl vu .none->IsPart vl lo->IsPart vu hi->r x lo hi H Q ->
  ∃T id,typeLookup (.type T) "__getitem__" = pure (some (.builtin id))/\s.TypeIs v T/\wpAny (model X.prog X.w) X.A (getItem v (.ref sl)) (EP X pins σ Q) X.xe s
theorem SlR.or{r r':V->Option Int->Option Int->Hp->VK->Prop}(h:SlR X r)(h':SlR X r'):SlR X (λx lo hi H Q=>r x lo hi H Q\/r' x lo hi H Q):=by intro pins s σ H x v vl vu lo hi sl Q I rx hs pl pu q;rcases q with q|q;exact h pins s σ H x v vl vu lo hi sl Q I rx hs pl pu q;exact h' pins s σ H x v vl vu lo hi sl Q I rx hs pl pu q
def tSl(r:V->Option Int->Option Int->Hp->VK->Prop)(te:TE)(tl th:TO):TE:=λσ H Q=>te σ H λx H1=>tl σ H1 λl H2=>th σ H2 λu H3=>r x l u H3 Q
theorem aCV{r:V->Option Int->Option Int->Hp->VK->Prop}(hr:SlR X r)(he:PE X e te)(hl:PO X lo tl)(hu:PO X hi th):PE X (.Subscript e (.Slice lo hi none p2) pos) (tSl r te tl th):=by intro pins s σ H Q I h;refine Subscript_ (thn (he pins s σ H _ I h) λv s1 ⟨x,H1,I1,r1,q1⟩=>?_);refine wpAny_Slice (thn (hl pins s1 σ H1 _ I1 q1) λvl s2 ⟨l,H2,I2,pl,q2⟩=>thn (hu pins s2 σ H2 _ I2 q2) λvu s3 ⟨u,H3,I3,pu,q3⟩=>?_);rw[evalPart_none];refine Al ?_;have I4:Inv X pins σ H3 { s3 with heap:=s3.heap.push { cls:=.type "slice",data:=.fields #[vl,vu,.none] } }:=I3.kept (t':=s3.toks) λb ob q=>Ab _ q;obtain⟨T,id,hT,ht,hg⟩:=hr pins { s3 with heap:=s3.heap.push { cls:=.type "slice",data:=.fields #[vl,vu,.none] } } σ H3 x v vl vu l u s3.heap.objs.size Q I4 r1 (Heap.IsSliceOf.new ..) pl pu q3;show wpAny (model X.prog X.w) X.A (subscriptTail e (.Slice lo hi none p2) v (.ref s3.heap.objs.size)) (EP X pins σ Q) X.xe { s3 with heap:=s3.heap.push { cls:=.type "slice",data:=.fields #[vl,vu,.none] } };exact tail_any (ops:=[.ref s3.heap.objs.size,v]) ht hT hg (by with_unfolding_all rfl)
def vM(xs:List V)(lo hi:Option Int):List V:=(xs.drop (HT.sIx xs.length 0 lo)).take (HT.sIx xs.length xs.length hi-HT.sIx xs.length 0 lo)
theorem nA(xs:List V)(lo hi:Option Int):(vM xs lo hi).length<=xs.length:=by unfold vM;rw[A4,Cd];omega
def aCW(K:PySem.W.Frag):V->Option Int->Option Int->Hp->VK->Prop:=λx lo hi H Q=>∃a xs,x=.ref a/\SqT K H a xs /\
 ¬ (HT.sIx xs.length 0 lo=0/\HT.sIx xs.length xs.length hi=xs.length)/\∀p,H p=none->Q (.ref p) (upd H p (.tup (vM xs lo hi)))
theorem aIe:SlR X (aCW X.K):=by
 intro pins s σ H x v vl vu lo hi sl Q I rx hs pl pu h;obtain⟨a,xs,rfl,hx,hw,q⟩:=h;cases rx;obtain⟨its,r,ht,hz⟩:=I.tuple hx;have hlen:its.toArray.size=xs.length:=by rw[Ae];exact r.length.symm
 refine⟨"tuple",_,Bq.lookup,ht.typeIs,?_⟩;refine HT.getItem_tuple_cut ht hs pl pu (by rw[hlen];exact hw) ?_ (by rw[hlen];exact hz);rw[hlen];refine⟨.ref s.heap.objs.size,_,I.laid (t':=s.toks) (o:=.tup (vM xs lo hi)) (λb ob q=>Ab _ q) (Ai _) ?_,rfl,q _ (I.hok.fresh (Ai _))⟩;exact⟨A1 (nA xs lo hi) hz,_,(r.drop (HT.sIx xs.length 0 lo)).take (HT.sIx xs.length xs.length hi-HT.sIx xs.length 0 lo),IsTup.new _ _⟩
def aKr(K:PySem.W.Frag):R2:=λx y H Q=>∃a b xs ys,x=.ref a/\y=.ref b/\SqT K H a xs/\SqT K H b ys/\xs≠[]/\xs.length+ys.length<=sizeLine /\
 (ys=[]->Q (.ref a) H)/\(ys≠[]->∀p,H p=none->Q (.ref p) (upd H p (.tup (xs++ys))))
theorem bC.nil_iff(r:bC xs us):us=[]↔xs=[]:=by
 cases r with
 | nil=>simp|cons _ _=>simp
theorem aFI:OpR X (binaryOp .Add) (aKr X.K):=by intro pins s σ H x y v u Q I rx ry h;obtain⟨a,b,xs,ys,rfl,rfl,ha,hb,hx,hz,q1,q2⟩:=h;cases rx;cases ry;obtain⟨its,r1,p1,_⟩:=I.tuple ha;obtain⟨its2,r2,p2,_⟩:=I.tuple hb;refine HT.cat_tup p1 p2 (λz=>hx (r1.nil_iff.mp z)) (λz=>⟨.ref a,H,I,rfl,q1 (r2.nil_iff.mp z)⟩) (λz=>?_) (by rw[<-r1.length,<-r2.length];exact hz);refine⟨.ref s.heap.objs.size,_,I.laid (t':=s.toks) (o:=.tup (xs++ys)) (λb ob q=>Ab _ q) (Ai _) ?_,rfl,q2 (λw=>z (r2.nil_iff.mpr w)) _ (I.hok.fresh (Ai _))⟩;exact⟨by rw[Df];exact hz,_,r1.append r2,IsTup.new _ _⟩
end
end L2
namespace L2
open PySem PySem.Spec PyProof.Rows
noncomputable def ixN(n:Nat)(i:Int):Option Nat:=if 0<=i then (if i<n then some i.toNat else none) else if -(n:Int)<=i then some (i+n).toNat else none
def atI{α:Type}(xs:List α)(i:Int):Option α:=(ixN xs.length i).bind λj=>xs[j]?
theorem aAs(h:ixN n i=some j):seqIndex? i n=some j/\j<n/\-(n:Int)<=i/\i<n:=by unfold ixN at h;by_cases h0:0<=i;rw[if_pos h0] at h;by_cases h1:i<n;rw[if_pos h1] at h;have e:i.toNat=j:=Ah h;exact⟨by rw[seqIndex_of h0 h1,e],by omega,by omega,h1⟩;rw[if_neg h1] at h;cases h;rw[if_neg h0] at h;by_cases h1:-(n:Int)<=i;rw[if_pos h1] at h;have e:(i+n).toNat=j:=Ah h;exact⟨by rw[seqIndex_neg (by omega) h1,e],by omega,h1,by omega⟩;rw[if_neg h1] at h;cases h
theorem sY{α:Type}{xs:List α}{i:Int}{v:α}(h:atI xs i=some v):∃j,seqIndex? i xs.length=some j/\xs[j]? = some v/\j<xs.length/\-(xs.length:Int)<=i/\i<xs.length:=by
 unfold atI at h;cases e:ixN xs.length i with
 | none=>rw[e] at h;cases h|some j=>rw[e] at h;obtain⟨h1,h2,h3,h4⟩:=aAs e;exact⟨j,h1,h,h2,h3,h4⟩
def aAt(b:Expr):Prop:=∀o i,subscripted b false o i=operate [o,i] (getItem o i)
def IxR(X:Cx)(r:R2):Prop:=
 ∀(value slice:Expr) (pins:List (Addr×Obj)) (s:Shared) (σ:St) (H:Hp) (x y:V) (v u:Value) (Q:VK),Inv X pins σ H s->bI x v->bI y u->r x y H Q ->
  subscripted slice false v u=operate [v,u] (getItem v u)->wpAny (model X.prog X.w) X.A (subscriptTail value slice v u) (EP X pins σ Q) X.xe s
def MtR(X:Cx)(id:String)(r:V->List V->Hp->VK->Prop):Prop:=
 ∀(pins:List (Addr×Obj)) (s:Shared) (σ:St) (H:Hp) (x:V) (xs:List V) (v:Value) (us:List Value) (Q:VK),Inv X pins σ H s->bI x v->bC xs us->r x xs H Q ->
  wpAny (model X.prog X.w) X.A (call (.builtin id) (v::us)) (EP X pins σ Q) X.xe s
section
variable {X:Cx} {a b:Expr} {ta tb:TE} {pos:Pos}
theorem IxR.or(h:IxR X r)(h':IxR X r'):IxR X (λx y H Q=>r x y H Q\/r' x y H Q):=by intro value slice pins s σ H x y v u Q I rx ry q hs;rcases q with q|q;exact h value slice pins s σ H x y v u Q I rx ry q hs;exact h' value slice pins s σ H x y v u Q I rx ry q hs
theorem aAu(hr:IxR X r)(ha:PE X a ta)(hb:PE X b tb)(hs:aAt b):PE X (.Subscript a b pos) (tOp r ta tb):=by intro pins s σ H Q I h;exact Subscript_ (aKi ha hb I h λv u s2 x y H2 I2 rx ry q=>hr a b pins s2 σ H2 x y v u Q I2 rx ry q (hs _ _))
def aFJ(K:PySem.W.Frag):R2:=λx y H Q=>∃p xs i v,x=.ref p/\y=.int i/\SqL K H p xs/\atI xs i=some v/\Q v H
def aKs(K:PySem.W.Frag):R2:=λx y H Q=>∃p xs i v,x=.ref p/\y=.int i/\SqT K H p xs/\atI xs i=some v/\Q v H
def aKt:R2:=λx y H Q=>∃z i c,x=.str z/\y=.int i/\z.length<=sizeLine/\atI z.cps.toList i=some c/\Q (.str ⟨#[c]⟩) H
theorem nT:IxR X (aFJ X.K):=by
 intro value slice pins s σ H x y v u Q I rx ry h hs;obtain⟨p,xs,i,z,rfl,rfl,hq,he,q⟩:=h;cases rx;obtain⟨t,rfl⟩:=ry;obtain⟨its,r,pl,hz⟩:=I.list hq;obtain⟨j,h1,h2,h3,h4,h5⟩:=sY he;obtain⟨w,ew,rw'⟩:=r.get h2;have hl:=r.length;have hn:=kB;have fin:EP X pins σ Q w s:=⟨z,H,I,rw',q⟩
 by_cases h0:0<=i;have hj:i.toNat=j:=by rw[seqIndex_of h0 h5] at h1;exact Ah h1
 exact item_listR pl.isList h0 (by omega) (by rw[hj];simpa using ew) fin hs;have hj:(i+(its.toArray.size:Int)).toNat=j:=by rw[seqIndex_neg (by omega) h4] at h1;rw[Ae,<-hl];exact Ah h1
 exact subscriptTail_builtinR (x:=w) pl.isList.typeIs slot_list_getitem.lookup
  (wpAny_getItem_list_neg (Q:=λr s'=>r=w/\EP X pins σ Q r s') pl.isList (by omega) (by rw[Ae] <;> omega) (by omega) (by rw[hj];simpa using ew) ⟨rfl,fin⟩) hs
theorem aIf:IxR X (aKs X.K):=by
 intro value slice pins s σ H x y v u Q I rx ry h hs;obtain⟨p,xs,i,z,rfl,rfl,hq,he,q⟩:=h;cases rx;obtain⟨t,rfl⟩:=ry;obtain⟨its,r,pl,hz⟩:=I.tuple hq;obtain⟨j,h1,h2,h3,h4,h5⟩:=sY he;obtain⟨w,ew,rw'⟩:=r.get h2;have hl:=r.length;have hn:=kB;have fin:EP X pins σ Q w s:=⟨z,H,I,rw',q⟩
 exact subscriptTail_builtinR (x:=w) pl.typeIs slot_tuple_getitem.lookup
  (getItem_tuple (j:=j) (Q:=λr s'=>r=w/\EP X pins σ Q r s') pl (by omega) (by omega) (by rw[Ae,<-hl];exact h1) (by simpa using ew) ⟨rfl,fin⟩) hs
theorem aIg:IxR X aKt:=by
 intro value slice pins s σ H x y v u Q I rx ry h hs;obtain⟨z,i,c,rfl,rfl,hz,he,q⟩:=h;obtain⟨t,rfl⟩:=rx;obtain⟨t',rfl⟩:=ry;obtain⟨j,h1,h2,h3,h4,h5⟩:=sY he;have hl:z.cps.toList.length=z.length:=by simp[Str.length]
 rw[hl] at h1 h4 h5;have hn:=kB;exact tail_any (typeIs_str s z t) slot_str_getitem.lookup (getItem_str (c:=c) (by
  have e1:decide (i < -(2 ^ 63:Int))=false:=An (by omega);have e2:decide (i ≥ 2 ^ 63)=false:=An (by omega);rw[e1,e2,Bool.or_false]) (by rw[h1];simpa using h2) ⟨.str ⟨#[c]⟩,H,I.tok _,⟨_,rfl⟩,q⟩) hs
def rIx(K:PySem.W.Frag):R2:=λx y H Q=>aFJ K x y H Q\/aKs K x y H Q\/aKt x y H Q
theorem aIh:IxR X (rIx X.K):=nT.or (aIf.or aIg)
theorem yQ(its:List Value)(n j:Nat)(u:Value):Obj.mapSeq (·.setIfInBounds j u) { cls:=.type "list",data:=.seq its.toArray n }={ cls:=.type "list",data:=.seq (its.set j u).toArray n }:=by simp[Obj.mapSeq]
theorem Inv.lst{s:Shared}(I:Inv X pins σ H s)(h:H p=some (.lst xs)) :
 ∃(its:List Value) (n:Nat),bC xs its/\s.heap.get? p=some { cls:=.type "list",data:=.seq its.toArray n }/\xs.length<=sizeLine:=by obtain⟨z,its,n,r,e⟩:=I.hok p _ h;exact⟨its,n,r,e,z⟩
theorem Inv.lstUpd{s:Shared}{xs ys:List V}{its its':List Value}{f:Obj->Obj}(I:Inv X pins σ H s)(h:H p=some (.lst xs))
 (ho:s.heap.get? p=some { cls:=.type "list",data:=.seq its.toArray n }) (hf:f { cls:=.type "list",data:=.seq its.toArray n }={ cls:=.type "list",data:=.seq its'.toArray n' }) (r:bC ys its') (hz:ys.length<=sizeLine) (t:Nat) :
 Inv X pins σ (upd H p (.lst ys)) { s with heap:=s.heap.update p f,toks:=t }:=by
 have e:(s.heap.update p f).get? p=some { cls:=.type "list",data:=.seq its'.toArray n' }:=by rw[Br f ho (by rw[hf] <;> rfl),hf]
 refine I.write (x:=p) (e:=p) (by rw[h];trivial) (.inl rfl) (λb u hb q=>(Aq _ _ (Ne.symm hb)).trans q) ⟨_,e⟩ ?_;exact⟨hz,its',n',r,e⟩
def aKu:V->V->V->Hp->(Hp->Prop)->Prop:=λo i v H Q=>∃p xs k j,o=.ref p/\i=.int k/\H p=some (.lst xs)/\ixN xs.length k=some j/\Q (upd H p (.lst (xs.set j v)))
theorem aCX:aKd X aKu:=by
 intro pins s σ H o i v ov iv u Q I ro ri rv h;obtain⟨p,xs,k,j,rfl,rfl,hp,hj,q⟩:=h;cases ro;obtain⟨t,rfl⟩:=ri;obtain⟨its,n,r,ho,hz⟩:=I.lst hp;obtain⟨h1,h2,h3,h4⟩:=aAs hj;have hl:=r.length;have hn:=kB;have I':Inv X pins σ (upd H p (.lst (xs.set j v))) { s with heap:=s.heap.update p (Obj.mapSeq (·.setIfInBounds j u)) }:=
  I.lstUpd hp ho (yQ its n j u) (r.set rv j) (by rw[Aw];exact hz) s.toks
 by_cases h0:0<=k;have hk:k.toNat=j:=by rw[seqIndex_of h0 h4] at h1;exact Ah h1
 exact PySem.W.ki_setAt ho h0 (by omega) (by rw[Ae,<-hl];exact h4) (by rw[hk];exact⟨_,I',q⟩);have hk:(k+(its.toArray.size:Int)).toNat=j:=by rw[seqIndex_neg (by omega) h3] at h1;rw[Ae,<-hl];exact Ah h1
 exact PySem.W.ki_setBack ho (by omega) (by rw[Ae,<-hl];exact h3) (by omega) (by rw[hk];exact⟨_,I',q⟩)
theorem sZ(lo hi:Option Int)(n:Nat):(sliceBounds lo hi none n).1=((HT.sIx n 0 lo:Nat):Int)/\(sliceBounds lo hi none n).2.1=((HT.sIx n n hi:Nat):Int)/\(sliceBounds lo hi none n).2.2=1:=by
 refine⟨?_,?_,rfl⟩;cases lo with
 | none=>simp[sliceBounds,HT.sIx]|some i=>simp only[sliceBounds,HT.sIx,Option.getD_none,show(1:Int)>0 by decide,if_true];by_cases h:i<0;simp only[h,if_true] <;> omega;simp only[h,if_false] <;> omega
 cases hi with
 | none=>simp[sliceBounds,HT.sIx]|some i=>simp only[sliceBounds,HT.sIx,Option.getD_none,show(1:Int)>0 by decide,if_true];by_cases h:i<0;simp only[h,if_true] <;> omega;simp only[h,if_false] <;> omega
theorem qT(its:List Value)(lo hi:Option Int):slicePick its.toArray lo hi none=((its.drop (HT.sIx its.length 0 lo)).take (HT.sIx its.length its.length hi-HT.sIx its.length 0 lo)).toArray:=by obtain⟨h1,h2,h3⟩:=sZ lo hi its.toArray.size;unfold slicePick;rw[h1,h2,h3];simp only[sliceRange_one,pick_run,Ae] <;> rfl
def aCY(K:PySem.W.Frag):V->Option Int->Option Int->Hp->VK->Prop:=λx lo hi H Q=>∃a xs,x=.ref a/\SqL K H a xs/\∀p,H p=none->Q (.ref p) (upd H p (.lst (vM xs lo hi)))
theorem aFK:SlR X (aCY X.K):=by intro pins s σ H x v vl vu lo hi sl Q I rx hs pl pu h;obtain⟨a,xs,rfl,hx,q⟩:=h;cases rx;obtain⟨its,r,ht,hz⟩:=I.list hx;have hlen:=r.length;refine⟨"list",_,slot_list_getitem.lookup,ht.isList.typeIs,?_⟩;refine wpAny_getItem_list_slice ht.isList hs pl pu .none (by simp) ?_ (by rw[Ae] <;> omega);rw[qT,<-hlen];refine⟨.ref s.heap.objs.size,_,I.laid (t':=s.toks) (o:=.lst (vM xs lo hi)) (λb ob q=>Ab _ q) (Ai _) ?_,rfl,q _ (I.hok.fresh (Ai _))⟩;exact⟨A1 (nA xs lo hi) hz,_,0,(r.drop (HT.sIx xs.length 0 lo)).take (HT.sIx xs.length xs.length hi-HT.sIx xs.length 0 lo),Ao _ rfl⟩
theorem tB:OpR X (compareOp .NotIn) (λx y H Q=>∃i j,x=.str i/\y=.str j/\Q (.bl (!(!(Builtin.Str.occurrences j i 0 j.length 1).isEmpty))) H):=by intro pins s σ H x y v u Q I rx ry h;obtain⟨i,j,rfl,rfl,q⟩:=h;obtain⟨t,rfl⟩:=rx;obtain⟨t',rfl⟩:=ry;exact notIn_str ⟨.bl _,H,I,rfl,q⟩
theorem tD:fW X (.builtin "len") (λxs H Q=>∃p ys,xs=[.ref p]/\(SqL X.K H p ys\/SqT X.K H p ys)/\Q (.int ys.length) H):=by intro pins s σ H xs us Q I r h;obtain⟨p,ys,rfl,hq,q⟩:=h;obtain⟨u,rfl,rx⟩:=oH r;cases rx;have hn:=kB;rcases hq with hq|hq;obtain⟨its,r',pl,hz⟩:=I.list hq;have hlen:=r'.length;exact Calls.call_len_list pl.isList (by simp only[Ae] <;> omega) ⟨.int ys.length,H,I.tok _,⟨s.toks+1,by rw[Ae,hlen]⟩,q⟩;obtain⟨its,r',pl,hz⟩:=I.tuple hq;have hlen:=r'.length;exact len_tuple pl (by simp only[Ae] <;> omega) ⟨.int ys.length,H,I.tok _,⟨s.toks+1,by rw[Ae,hlen]⟩,q⟩
theorem tE:fW X (.builtin "len") (λxs H Q=>∃z,xs=[.str z]/\z.length<=sizeLine/\Q (.int z.length) H):=by intro pins s σ H xs us Q I r h;obtain⟨z,rfl,hz,q⟩:=h;obtain⟨u,rfl,t,rfl⟩:=oH r;have hn:=kB;exact len_str (by omega) ⟨.int z.length,H,I.tok _,⟨_,rfl⟩,q⟩
theorem fW.or{r r':List V->Hp->VK->Prop}(h:fW X f r)(h':fW X f r'):fW X f (λxs H Q=>r xs H Q\/r' xs H Q):=by intro pins s σ H xs us Q I rs q;rcases q with q|q;exact h pins s σ H xs us Q I rs q;exact h' pins s σ H xs us Q I rs q
theorem tF:fW X (.type "list") (λxs H Q=>∃p ys,xs=[.ref p]/\(SqL X.K H p ys\/SqT X.K H p ys)/\∀l,H l=none->Q (.ref l) (upd H l (.lst ys))):=by
 intro pins s σ H xs us Q I r h;obtain⟨p,ys,rfl,hq,q⟩:=h;obtain⟨u,rfl,rx⟩:=oH r;cases rx;have fin:∀(its:List Value),bC ys its->ys.length<=sizeLine->∀(h':Heap) (c':Nat),(∀b o',s.heap.get? b=some o'->h'.get? b=some o') ->
  h'.get? s.heap.objs.size=some { cls:=.type "list",dict:=none,data:=.seq its.toArray c',slots:=#[] }->EP X pins σ Q (.ref s.heap.objs.size) { s with heap:=h' }:=λits r' hz h' c' kp e=>
  ⟨.ref s.heap.objs.size,_,I.laid (t':=s.toks) kp (Ai _) (show cV X.prog X.w _ h' _ (.lst ys) from⟨hz,its,c',r',e⟩),rfl,q _ (I.hok.fresh (Ai _))⟩
 rcases hq with hq|hq;obtain⟨its,r',pl,hz⟩:=I.list hq;have hlen:=r'.length;obtain⟨o,ho,hc,n,hd⟩:=pl.isList;exact call_list_seq p (.inl rfl) ho hc hd (λh' c' kp e=>fin its r' hz h' c' kp e) (by simp only[Ae] <;> omega);obtain⟨its,r',pl,hz⟩:=I.tuple hq;have hlen:=r'.length;obtain⟨o,ho,hc,n,hd⟩:=pl;exact call_list_seq p (.inr rfl) ho hc hd (λh' c' kp e=>fin its r' hz h' c' kp e) (by simp only[Ae] <;> omega)
theorem qU:fW X (.type "tuple") (λxs H Q=>∃p ys,xs=[.ref p]/\((SqL X.K H p ys/\∀l,H l=none->Q (.ref l) (upd H l (.tup ys)))\/(SqT X.K H p ys/\Q (.ref p) H))):=by
 intro pins s σ H xs us Q I r h;obtain⟨p,ys,rfl,h⟩:=h;obtain⟨u,rfl,rx⟩:=oH r;cases rx;rcases h with⟨hq,q⟩|⟨hq,q⟩
 obtain⟨its,r',pl,hz⟩:=I.list hq;have hlen:=r'.length;refine call_tuple_list pl.isList (λh' kp=>?_) (by simp only[Ae] <;> omega);have I1:Inv X pins σ H { s with heap:=h' }:=I.kept (t':=s.toks) kp;have I2:Inv X pins σ (upd H h'.objs.size (.tup ys)) { s with heap:=h'.push { cls:=.type "tuple",data:=.seq its.toArray } }:=
  I1.laid (t':=s.toks) (λb o e=>Ab _ e) (Ai _) (show cV X.prog X.w _ _ _ (.tup ys) from⟨hz,its,r',IsTup.new _ _⟩)
 exact⟨.ref h'.objs.size,_,I2,rfl,q _ (I1.hok.fresh (Ai _))⟩;obtain⟨its,r',pl,hz⟩:=I.tuple hq;exact call_tuple_same pl ⟨.ref p,H,I,rfl,q⟩
def tyV(K:PySem.W.Frag)(T:String)(x:V)(H:Hp):Prop:=match x with
 | .str _=>T = "str"|.int _=>T = "int"|.ref p=>(T = "list" /\ ∃xs,SqL K H p xs)\/(T = "tuple" /\ ∃o,K.lookup p=some o/\o.cls=.type "tuple" /\ o.dict=none) \/
  (T = "dict" /\ ((∃kvs,H p=some (.dK kvs))\/∃kvs,H p=some (.dT kvs)))\/(T = "set" /\ ∃S n,H p=some (.set S n))
 | _=>False
theorem aCZ{s:Shared}(I:Inv X pins σ H s)(r:bI x v)(ty:tyV X.K T x H) :
 s.TypeIs v T/\∀a,v=.ref a->∃ob,s.heap.get? a=some ob/\ob.dict=none:=by
 cases x with
 | str z=>obtain⟨t,rfl⟩:=r;cases(show T = "str" from ty);exact⟨typeIs_str s z t,λ_ e=>nomatch e⟩|int i=>obtain⟨t,rfl⟩:=r;cases(show T = "int" from ty);exact⟨typeIs_int s i t,λ_ e=>nomatch e⟩|ref p=>
  cases r;rcases ty with⟨rfl,xs,hq⟩|⟨rfl,o,hk,hc,hd⟩|⟨rfl,hk⟩|⟨rfl,S,n,hk⟩
  obtain⟨its,_,pl,_⟩:=I.list hq;refine⟨pl.isList.typeIs,λa e=>?_⟩;cases e;obtain⟨o,n,e,c,hd,_⟩:=pl;exact⟨o,e,hd⟩;refine⟨⟨o,I.kIn p o hk,hc⟩,λa e=>?_⟩;cases e;exact⟨o,I.kIn _ o hk,hd⟩;have z:∃o,s.heap.get? p=some o/\o.ExactDict:=by
   rcases hk with⟨kvs,hk⟩|⟨kvs,hk⟩
   obtain⟨_,_,_,_,o,_,_,e,ex,_⟩:=I.hok p _ hk;exact⟨o,e,ex⟩;obtain⟨_,_,_,_,o,_,_,e,ex,_⟩:=I.hok p _ hk;exact⟨o,e,ex⟩
  obtain⟨o,e,ex⟩:=z;refine⟨⟨o,e,ex.1⟩,λa e2=>?_⟩;cases e2;exact⟨o,e,ex.2.1⟩;obtain⟨o,_,_,_,e,ex,_⟩:=I.hok p _ hk;refine⟨⟨o,e,ex.1⟩,λa e2=>?_⟩;cases e2;exact⟨o,e,ex.2.1⟩
 | _=>exact False.elim ty
def aNx(K:PySem.W.Frag)(T:String)(r:V->List V->Hp->VK->Prop)(to:TE):TE:=λσ H Q=>to σ H λx H1=>tyV K T x H1/\r x [] H1 Q
def tBM(K:PySem.W.Frag)(T:String)(r:V->List V->Hp->VK->Prop)(to:TE)(t:TA):TE:=λσ H Q=>to σ H λx H1=>tyV K T x H1/\t σ H1 λxs H2=>r x xs H2 Q
variable {o e:Expr} {es:List Expr} {to:TE} {t:TA} {name:Str} {apos cpos:Pos} {T id:String} {r:V->List V->Hp->VK->Prop}
theorem aIi(pa:PlainAttrs T)(slot:Slot T name id)(hty:typeOf (.builtin id)=pure (.type "method_descriptor"))(hm:MtR X id r)(ho:PE X o to)
 (hbase:attributeBase o name X.env (eval o X.env)=eval o X.env:=by rfl) (hline:(apos.endLine==cpos.line)=true:=by rfl):PE X (.Call (.Attribute o name apos) [] [] cpos) (aNx X.K T r to):=by intro pins s σ H Q I h;refine wpAny_Call_method0_late hbase hline (thn (ho pins s σ H _ I h) λv s1 ⟨x,H1,I1,r1,ty,q1⟩=>?_);obtain⟨h1,h2⟩:=aCZ I1 r1 ty;exact⟨T,id,pa,slot,hty,h1,h2,Calls.callWith_builtin rfl (PySem.evalArgs_none (hm pins s1 σ H1 x [] v [] Q I1 r1 .nil q1))⟩
theorem aAv(pa:PlainAttrs T)(slot:Slot T name id)(hty:typeOf (.builtin id)=pure (.type "method_descriptor"))(hm:MtR X id r)(ho:PE X o to)(ha:PA X (e::es) t)
 (hbase:attributeBase o name X.env (eval o X.env)=eval o X.env:=by rfl)
 (hfew:((backTo cpos (starEach (e::es) X.env)).all (λx=>!x.1)&&(backToKw cpos (keywordEach [] X.env)).all (λx=>x.1.isSome)
  && decide ((e::es).length+([]:List Keyword).length+(if ([]:List Keyword).isEmpty then 0 else 1)<30))=true:=by rfl)
 (hline:(apos.endLine==cpos.line)=true:=by rfl) (hs:starEach (e::es) X.env=(false,eval e X.env)::starEach es X.env:=by rfl) (hplain:(backTo cpos (starEach es X.env)).any (·.1)=false:=by rfl) :
 PE X (.Call (.Attribute o name apos) (e::es) [] cpos) (tBM X.K T r to t):=by intro pins s σ H Q I h;refine wpAny_Call_method_late hbase hfew hline rfl (thn (ho pins s σ H _ I h) λv s1 ⟨x,H1,I1,r1,ty,q1⟩=>?_);obtain⟨h1,h2⟩:=aCZ I1 r1 ty;refine⟨T,id,pa,slot,hty,h1,h2,?_⟩;have hA:=ha cpos pins s1 σ H1 _ I1 q1;rw[hs] at hA ⊢;refine Calls.callWith_builtin (by show(false||(backTo cpos (starEach es X.env)).any (·.1))=false;rw[hplain] <;> rfl) (Calls.evalArgs_plain ?_);exact thn hA λus s2 ⟨vs,H2,I2,r2,q2⟩=>hm pins s2 σ H2 x vs v us Q I2 r1 r2 q2
end
end L2
namespace L2
open PySem PySem.Spec PyProof.Rows
def MtM(X:Cx)(id:String)(r:V->List V->Hp->VK->Prop):Prop:=
 ∀(pins:List (Addr×Obj)) (s:Shared) (σ:St) (H:Hp) (x:V) (xs:List V) (v:Value) (us:List Value) (Q:VK),Inv X pins σ H s->bI x v->bC xs us->r x xs H Q ->
  wpAny (model X.prog X.w) X.A (call (.builtin id) (v::us)) (EP X pins σ Q) X.xe s
theorem bC.one:∀{x:V} {us:List Value},bC [x] us->∃u,us=[u]/\bI x u:=by intro x us h;cases h with|cons r t=>cases t;exact⟨_,rfl,r⟩
theorem bC.zero:∀{us:List Value},bC [] us->us=[]
 | _,.nil=>rfl
theorem bC.rep(h:bC xs us):∀k:Nat,bC (List.replicate k xs).flatten (List.replicate k us).flatten
 | 0=>.nil|k+1=>by rw[Bk,Bk,Ch,Ch];exact bC.append h (bC.rep h k)
theorem mE(its:List Value):∀(k:Nat) (acc:List Value),
 List.foldl (λx1 x2=>x1++x2) acc.toArray (List.replicate k its.toArray)=(acc++(List.replicate k its).flatten).toArray
 | 0,acc=>by simp|k+1,acc=>by
  have e:acc.toArray++its.toArray=(acc++its).toArray:=by simp
  have e2:(acc++its)++(List.replicate k its).flatten=acc++(List.replicate (k+1) its).flatten:=by rw[Bk,Ch,Di]
  rw[<-e2,<-mE its k (acc++its),<-e,Bk,B2]
section
variable {X:Cx} {pins:List (Addr×Obj)} {σ:St} {H:Hp} {s:Shared} {l b:Addr} {xs ys zs:List V}
theorem Inv.lset{its its':List Value}{f:Array Value->Array Value}{t':Nat}(I:Inv X pins σ H s)(hH:H l=some (.lst xs))
 (e:s.heap.get? l=some { cls:=.type "list",data:=.seq its.toArray n }) (hf:f its.toArray=its'.toArray) (hv:bC ys its') (hz:ys.length<=sizeLine) :
 Inv X pins σ (upd H l (.lst ys)) { s with heap:=s.heap.update l (Obj.mapSeq f),toks:=t' }:=by have q:=PySem.IsL.update e f;rw[hf] at q;refine I.write (x:=l) (e:=l) (by rw[hH];exact trivial) (.inl rfl) (λb' u hb hu=>(Aq s.heap (Obj.mapSeq f) (Ne.symm hb)).trans hu) ⟨_,q⟩ ?_;exact⟨hz,its',_,hv,q⟩
theorem Inv.lnew{t':Nat}(I:Inv X pins σ H s)(hv:bC ys its)(hz:ys.length<=sizeLine) :
 Inv X pins σ (upd H s.heap.objs.size (.lst ys)) { s with heap:=s.heap.push { cls:=.type "list",data:=.seq its.toArray },toks:=t' }:=
 I.laid (λ_ _ q=>Ab _ q) (Ai _) ⟨hz,its,0,hv,Ao _ rfl⟩
theorem Inv.fresh(I:Inv X pins σ H s):H s.heap.objs.size=none:=I.hok.fresh (Ai _)
theorem Inv.lstM(I:Inv X pins σ H s)(hH:H l=some (.lst xs)):xs.length<=sizeLine/\∃(its:List Value) (n:Nat),bC xs its/\xs.length=its.length/\s.heap.get? l=some { cls:=.type "list",data:=.seq its.toArray n }:=by obtain⟨z,its,n,r,e⟩:=I.hok l _ hH;exact⟨z,its,n,r,r.length,e⟩
theorem vN(h:n<=sizeLine):Builtin.List.listTooLong n=false:=by unfold Builtin.List.listTooLong;exact An (by omega)
end
section
variable {X:Cx}
def aFL:V->List V->Hp->VK->Prop:=λx vs H Q=>∃l xs y,x=.ref l/\vs=[y]/\H l=some (.lst xs)/\xs.length<sizeLine/\Q .non (upd H l (.lst (xs++[y])))
theorem rF:MtM X "list.append" aFL:=by intro pins s σ H x vs v us Q I rx rv h;obtain⟨l,xs,y,rfl,rfl,hH,hz,q⟩:=h;cases rx;obtain⟨u,rfl,ru⟩:=rv.one;obtain⟨z,its,n,r,hl,e⟩:=I.lstM hH;refine Dw F.slot_list_append ⟨_,e,rfl⟩ F.entry_list_append (F.args_list_append_2 _ _) (PySem.list_append l its.toArray n u (by rw[Ae];omega)) ⟨e,?_⟩;refine⟨.non,_,I.lset (its':=its++[u]) hH e (by simp) (r.append (.cons ru .nil)) ?_,rfl,q⟩;rw[Df,C5];omega
def aFM:V->List V->Hp->VK->Prop:=λx vs H Q=>∃l b xs zs,x=.ref l/\vs=[.ref b]/\H l=some (.lst xs)/\H b=some (.lst zs)/\xs.length+zs.length<=sizeLine/\Q .non (upd H l (.lst (xs++zs)))
theorem aBM:MtM X "list.extend" aFM:=by
 intro pins s σ H x vs v us Q I rx rv h;obtain⟨l,b,xs,zs,rfl,rfl,hH,hB,hz,q⟩:=h;cases rx;obtain⟨u,rfl,ru⟩:=rv.one;cases ru;obtain⟨z,its,n,r,hl,e⟩:=I.lstM hH;obtain⟨z2,its2,n2,r2,hl2,e2⟩:=I.lstM hB;have hsz:its.toArray.size+its2.toArray.size<=sizeLine:=by rw[Ae,Ae];omega
 have hlong:¬ (!its.toArray.isEmpty&&Builtin.List.listTooLong (its.toArray.size+its2.toArray.size))=true:=by rw[vN hsz,Bool.and_false];exact Cy
 refine Dw F.slot_list_extend ⟨_,e,rfl⟩ F.entry_list_extend (F.args_list_extend_2 _ _)
  (AutoSeq1.list_extend_list_list_0 l its.toArray n b its2.toArray n2 hlong (by rw[Ae];omega) (by omega)) ⟨e,e2,?_⟩
 refine⟨.non,_,I.lset (its':=its++its2) hH e (by simp) (r.append r2) ?_,rfl,q⟩;rw[Df];omega
def aNy:R2:=λx y H Q=>∃l k xs,x=.ref l/\y=.int k/\H l=some (.lst xs)/\-(2 ^ 63)<=k/\k<2 ^ 63/\xs.length*k.toNat<=sizeLine /\
 ∀p,H p=none->Q (.ref p) (upd H p (.lst (List.replicate k.toNat xs).flatten))
theorem tG{α:Type}(xs:List α)(k:Nat):(List.replicate k xs).flatten.length=k*xs.length:=by
 induction k with
 | zero=>simp|succ k ih=>rw[Bk,Ch,Df,ih,Nat.succ_mul,Nat.add_comm]
theorem aIj:OpR X (binaryOp .Mult) aNy:=by
 intro pins s σ H x y v u Q I rx ry h;obtain⟨l,k,xs,rfl,rfl,hH,h1,h2,hz,q⟩:=h;cases rx;obtain⟨t,rfl⟩:=ry;obtain⟨z,its,n,r,hl,e⟩:=I.lstM hH;have hlen:its.toArray.size*k.toNat<=sizeLine:=by rw[Ae,<-hl];exact hz
 have hcap:¬ its.toArray.size*k.toNat>(2 ^ 63-1) / 8:=by
  have:(sizeLine:Nat)<=(2 ^ 63-1) / 8:=by decide
  omega
 have hfit:¬ (!Builtin.List.listFitsIndex k)=true:=by rw[fitsIndex_both h1 h2];exact Cy
 have hlong:¬ Builtin.List.listTooLong (its.toArray.size*k.toNat)=true:=by rw[vN hlen];exact Cy
 have hnew:List.foldl (λx1 x2=>x1++x2) #[] (List.replicate (if its.toArray.isEmpty=true then 0 else k.toNat) its.toArray)=(List.replicate k.toNat its).flatten.toArray:=by
  have f0:∀m:Nat,List.foldl (λx1 x2=>x1++x2) #[] (List.replicate m its.toArray)=(List.replicate m its).flatten.toArray:=λm=>by have:=mE its m [];rw[C6] at this;exact this
  rw[f0];cases its with
  | nil=>simp|cons a r'=>rw[if_neg (by simp)]
 refine wpAny_binaryOp_repeat_ref (T:= "list") (U:= "int") (by decide) ⟨_,e,rfl⟩ (λs'=>typeIs_int s' k t) noFill_list_mul F.fills_int_mul F.slot_int_rmul repeat_list F.slot_int_index.lookup
  (Dw F.slot_int_rmul (typeIs_int s k t) F.entry_int_rmul (F.args_int_rmul_2 _ _) (int___rmul___int_list k t l its.toArray n)
   ⟨e,rfl,⟨_,e,rfl⟩,Dw F.slot_list_mul ⟨_,e,rfl⟩ F.entry_list_mul (F.args_list_mul_2 _ _) (AutoListH.list___mul___list_int_3 l its.toArray n k t hfit hcap hlong) ⟨e,?_⟩⟩)
 rw[hnew];exact⟨.ref _,_,I.lnew (t':=s.toks) (r.rep k.toNat) (by rw[tG,Nat.mul_comm];exact hz),rfl,q _ I.fresh⟩
end
section
variable {prog:Program} {w:World} {A:Around} {E:Value->Shared->Prop} {s:Shared}
end
section
variable {X:Cx}
end
end L2
namespace Att
open PySem PySem.W PySem.Calls PyProof.Rows
theorem nI:∀(ns:List Int) (vs:List Value),WellAll P h vs (ns.map WData.int)->IntsAre vs ns:=by
 intro ns
 induction ns with
 | nil=>intro vs w;rw[List.map_nil] at w;cases w;exact .nil|cons n ns ih=>
  intro vs w;rw[List.map_cons] at w;cases w with
  | cons a b=>cases a;exact .cons _ _ (ih _ b)
theorem aBN{l:OpenLaw}(hn:l.most=some n){h:Heap}
 (hpre:l.row.toRowW.claim.pre args=true) (hwl:WellAll P h vals args) :
 ∃a vs ns,vals=[Value.ref a]/\args=[WData.list (ns.map WData.int)]/\h.get? a=some { cls:=.type "list",data:=.seq vs.toArray }/\IntsAre vs ns/\ns.length<=n:=by
 have hsh:WShape.hasAll [] args [.list .int]=true:=(pre_splitW hpre).1;have hc:l.pre.holds [] { args:=args }=true:=(pre_splitW hpre).2;obtain⟨d,r,rfl,h1,h2⟩:=hasAllW_cons hsh;obtain rfl:=hasAllW_nil h2;obtain⟨xs,rfl,h3⟩:=hasW_list h1;obtain⟨ns,rfl⟩:=items_int h3;have hlen:ns.length<=n:=by
  unfold OpenLaw.pre at hc;have h4:(WTm.not (.lt (.lit (.int (n:Int))) (.len (.arg 0)))).holds [] { args:=[.list (ns.map .int)] }=true:=by have h4:=(holds_andW hc).1;rw[hn] at h4;exact h4
  have h5:=condW_of h4 (w_not (w_lt w_lit (w_len_list (w_arg rfl))));rw[List.length_map] at h5;refine Nat.le_of_not_lt λq=>?_;have q':(n:Int)<((ns.length:Nat):Int):=by omega
  first
   | (rw[Aj q'] at h5;exact absurd h5 (by decide))
   | (simp at h5;omega)
 cases hwl with
 | cons w1 w2=>
  cases w2;cases w1 with
  | list ho hall=>exact⟨_,_,ns,rfl,rfl,ho,nI ns _ hall,hlen⟩
theorem aBO(l:OpenLaw)(args:List WData):l.row.toRowW.claim.post args (.bool true) args=true:=
 postW_of (r:=l.row.toRowW) (X:=(true==true))
  (show WShape.has [] (.bool true) .bool=true by first|rfl|decide|simp[WShape.has,WShape.arms,WShape.armsAll])
  (show(WTm.eq .res (.lit (.bool true))).value [] { args:=args,res:=some (.bool true),after:=args }=some (.bool (true==true)) from w_eq_bool (w_res rfl) w_lit) rfl
theorem attach_call{l:OpenLaw}{XP:(Str->Option Value)->Heap->Prop}{YP:World->Heap->Prop}{d:DefRec}
 (hn:l.most=some n) (hdf:d.params.defaults=[])
 (call:∀(w:World) (s₀ s₁:Shared) (mg mb:Str->Option Value) (fa:Addr) (o:Obj) (pm cd doc:Value) (a:Addr) (vs:List Value) (ns:List Int),
  Ground q loose [] XP w s₀ mg mb s₁.heap->YP w s₁.heap ->
  s₁.heap.get? fa=some o->o.data=.func (docDef d.name d.params d.body d.scope pm cd doc)->s₁.heap.CodeRec cd d.name->mg d.name=some (.ref fa) ->
  s₁.heap.get? a=some { cls:=.type "list",data:=.seq vs.toArray }->IntsAre vs ns->ns.length<=n->s₁.gens=#[] ->
  codeAny (model l.prog w) callerA (.call (.ref fa) ⟨[.ref a],[]⟩) (λr s'=>r=.ok (.ret (.bool true))/\OldK s₁.heap s'.heap/\s'.os=s₁.os/\AllBare s'.gens) s₁) :
 WalkO q loose XP YP l.row.toRowW d [] (λf vs=>PySem.call f vs):=by intro w s₀ s₁ mg mb G Y fa o pm cd doc dV kV ho hd hcd hD hmg hg args vals as hpre hlay hrd hwl hlo;obtain rfl:dV=.none:=Dflts.none hD hdf;obtain rfl:kV=.none:=Dflts.noKw hD;obtain⟨a,vs,ns,rfl,rfl,hobj,hints,hlen⟩:=aBN hn hpre hwl;refine enter_call (codeAny_mono (call w s₀ s₁ mg mb fa o pm cd doc a vs ns G Y ho (fd_plain hd) hcd hmg hobj hints hlen hg) λr s' hq=>?_);obtain⟨rfl,h2,h3,h4⟩:=hq;exact⟨.inl ⟨.bool true,.bool true,[],rfl,λ_=>rfl,.bool true,aBO l _,λ_=>⟨List.Pairwise.nil,λ_ hm=>(nomatch hm)⟩⟩,h2,h3,h4⟩
section
variable {prog:Program} {w:World} {A:Around} {E:Value->Shared->Prop} {s:Shared} {K:Frag}
end
end Att
namespace L2
open PySem PySem.Spec PyProof.Rows
theorem rG:∀{vs:List Value} {ns:List Int},IntsAre vs ns->bC (ns.map V.int) vs
 | _,_,.nil=>.nil|_,_,.cons n t h=>.cons ⟨t,rfl⟩ (rG h)
def aFN(H:Hp):Prop:=∀b,H b=none\/∃o xs,H b=some (.frz o (.lst xs))
theorem aDa{K:PySem.W.Frag}{mg mb:Str->Option Value}{s₁:Shared}{vs:List Value}{ns:List Int}
 (KX:K.In s₁.heap) (hns:s₁.heap.Ns mainGlobals mg) (hb:s₁.heap.Ns builtinsNs mb) (hbb:∀x:Str,x ≠ "__name__" -> mb x=bootBuiltins x) (hlim:s₁.heap.NoLimit) (hg:s₁.gens=#[])
 (ha:s₁.heap.get? a=some { cls:=.type "list",data:=.seq vs.toArray }) (hi:IntsAre vs ns) (hl:ns.length<=sizeLine) (hr:jT k callerA)
 (F:∀base:Heap,K.In base->base.Ns mainGlobals mg->sX P w K mg base CX k fa fd [x] sp) (hbind:∀(s:Shared) (u:Value),BindsTo s fd ⟨[u],[]⟩ [(x,u)])
 (hsp:∀H:Hp,aFN H->SqL K H a (ns.map V.int)->sp [.ref a] H (λv _=>v=.bl true) λ_ _ _=>False)
 (hCX:∀H e s',CX [] H s₁ (λ_ _ _=>False) e s'->False) :
 codeAny (model P w) callerA (.call (.ref fa) ⟨[.ref a],[]⟩) (λr s'=>r=.ok (.ret (.bool true))/\OldK s₁.heap s'.heap/\s'.os=s₁.os/\AllBare s'.gens) s₁:=by
 have rv:=rG hi;have lenV:=hi.length;have core:∀H:Hp,aFN H->SqL K H a (ns.map V.int)->HOk P w H s₁.heap->(∀b,H b≠none->b=a)->(H a≠none->K.lookup a=none) ->
  codeAny (model P w) callerA (.call (.ref fa) ⟨[.ref a],[]⟩) (λr s'=>r=.ok (.ret (.bool true))/\OldK s₁.heap s'.heap/\s'.os=s₁.os/\AllBare s'.gens) s₁:=by
  intro H hO hS hok hA hK;have base_of:∀{b:Addr} {o:Obj},s₁.heap.get? b=some o->H b=none->(sQ s₁.heap H).get? b=some o:=λe n=>aCG e n;have noA:∀{b:Addr} {o:Obj} {es:Array DictEntry} {ep:Nat},s₁.heap.get? b=some o->o.data=.dict es ep->H b=none:=λ{b o es ep} e d=>by
   cases q:H b with
   | none=>rfl|some u=>have e':b=a:=hA b (by rw[q];simp);subst e';rw[ha] at e;cases e;have d':Data.seq vs.toArray _=Data.dict es ep:=d;cases d'
  have nsK:∀{b:Addr} {m:Str->Option Value},s₁.heap.Ns b m->(sQ s₁.heap H).Ns b m:=λ{b m} ⟨o,es,ep,e,d,r⟩=>⟨o,es,ep,base_of e (noA e d),d,r⟩
  have hKb:K.In (sQ s₁.heap H):=λb o e=>base_of (KX b o e) (by
   cases q:H b with
   | none=>rfl|some u=>
    have e':b=a:=hA b (by rw[q];simp);subst e';rw[hK (by rw[q];simp)] at e;cases e)
  have hM:Mod K mg (sQ s₁.heap H):=⟨hKb,nsK hns,⟨mb,nsK hb,hbb⟩,let ⟨mc,h1,h2⟩:=hlim;⟨mc,nsK h1,h2⟩⟩
  have e0:vK P w K mg (sQ s₁.heap H) callerA [] s₁ H:=⟨rfl,hM,λb o e=>aFq e,Nat.le_of_eq (aBD _ _),trivial,λb hb=>absurd (show b∈([]:List Addr) from hb) (by simp),hok,.of_eq hg⟩
  refine codeAny_mono ((F _ hKb (nsK hns)).run callerA [] s₁ H ⟨[.ref a],[]⟩ [.ref a] [.ref a] _ _ hr e0 (hbind s₁ (.ref a)) (.cons rfl .nil) (hsp H hO hS)) λr s' h=>?_;cases r with
  | error e=>exact(hCX H e s' h).elim|ok fl=>
   cases fl with
   | next=>exact False.elim h|brk=>exact False.elim h|cont=>exact False.elim h|ret u=>
    obtain⟨v,H',os,bare,un,hok',r',q⟩:=h;have q':v=.bl true:=q;subst q';obtain rfl:u=Value.bool true:=r';refine⟨rfl,OldK.of_keep λb o e=>?_,os,bare⟩;cases q:H b with
    | none=>exact un.keep b o e q (by intro z;exact absurd (show b∈([]:List Addr) from z) (by simp)) (by simp)|some u=>
     rcases hO b with z|⟨ob,xs,z⟩
     rw[q] at z;cases z;have z2:=un.frzs b ob _ z;obtain⟨e1,_⟩:=hok b _ z;obtain⟨e2,_⟩:=hok' b _ z2;rw[e] at e1;cases e1;exact e2
 cases hk:K.lookup a with
 | some o=>have e:=KX a o hk;rw[ha] at e;cases e;refine core (λ_=>none) (λ_=>.inl rfl) (.inr ⟨_,vs.toArray,_,hk,rfl,rfl,rfl,by rw[Ae,lenV];exact hl,by simpa using rv⟩) (λb u z=>by have z':(none:Option HO)=some u:=z;cases z') (λb z=>absurd rfl z) λz=>absurd rfl z|none=>refine core (λb=>if b=a then some (.frz { cls:=.type "list",data:=.seq vs.toArray } (.lst (ns.map V.int))) else none) (λb=>?_) (.inl (.inr ⟨{ cls:=.type "list",data:=.seq vs.toArray },if_pos rfl⟩)) (λb u z=>?_) (λb z=>?_) λ_=>hk;by_cases hb:b=a;exact .inr ⟨_,_,if_pos hb⟩;exact .inl (if_neg hb);by_cases hb:b=a;have z':=(if_pos hb).symm.trans z;cases z';subst hb;exact⟨ha,by rw[List.length_map];exact hl,vs,_,rv,ha⟩;have z':=(if_neg hb).symm.trans z;cases z';by_cases hb:b=a;exact hb;exact absurd (if_neg hb) z
end L2
namespace L2
open PySem PySem.Spec PyProof.Rows
end L2
namespace L2
open PySem PySem.Spec PyProof.Rows
def eP(s:Stmt):Arguments:=match s with|.FunctionDef _ a _ _ _ _ _ _ _ _=>a|_=>{ posonlyargs:=[],args:=[],vararg:=none,kwonlyargs:=[],kw_defaults:=[],kwarg:=none,defaults:=[] }
def gN(s:Stmt):List Stmt:=match s with|.FunctionDef _ _ b _ _ _ _ _ _ _=>b|_=>[]
def aW(s:Stmt):Scope:=match s with|.FunctionDef _ _ _ _ _ _ sc _ _ _=>sc|_=>{ kind:=.function,names:=[],isGenerator:=false,isCoroutine:=false }
structure Fun (K:PySem.W.Frag) (x qual:Str) (st:Stmt) (f:Addr) (fd:FuncData):Prop where
 ex:∃(oc:Value) (od:Option Addr) (kV doc pm:Value) (an:Option Addr) (cdv ct:Value) (osl:Array (Option Value)),
  fd=PySem.W.fnOf x qual (eP st) (gN st) (aW st) .none kV doc pm an cdv ct/\K.lookup f=some ⟨oc,od,.func fd,osl⟩/\PySem.W.codeIn K cdv qual=true
 kp:PySem.W.keepIn K (.ref f)=true
section
variable {P:Program} {w:World} {K:PySem.W.Frag} {mg:Str->Option Value} {base:Heap}
theorem Fun.binds{x qual:Str}{st:Stmt}{f:Addr}{fd:FuncData}{ps:List Str}(F:Fun K x qual st f fd)
 (h:∀(kV doc pm:Value) (an:Option Addr) (cdv ct:Value) (us:List Value),us.length=ps.length->bindArgs (PySem.W.fnOf x qual (eP st) (gN st) (aW st) .none kV doc pm an cdv ct) ⟨us,[]⟩=pure (ps.zip us)):iJ K fd ps []:=by obtain⟨oc,od,kV,doc,pm,an,cdv,ct,osl,rfl,lk,hcd⟩:=F.ex;exact .all (h kV doc pm an cdv ct)
end
section
variable {X:Cx}
end
theorem aKv{A B:Prop}(h:B):if false=true then A else B:=by rw[if_neg Cy];exact h
theorem aNz{A B:Prop}(h:A):if true=true then A else B:=by rw[if_pos rfl];exact h
def aP(H H':Hp):Prop:=∀b o,H b=some o->H' b=some o
theorem aP.refl(H:Hp):aP H H:=λ_ _ h=>h
theorem aP.trans(a:aP H H1)(b:aP H1 H2):aP H H2:=λc o h=>b c o (a c o h)
theorem aP.free(e:aP H H')(h:H' l=Option.none):H l=Option.none:=by
 cases q:H l with
 | none=>rfl|some o=>rw[e l o q] at h;cases h
theorem aP.seq{K:PySem.W.Frag}{H H':Hp}{a:Addr}{xs:List V}(e:aP H H')(h:SqL K H a xs):SqL K H' a xs:=by rcases h with(h|⟨o,h⟩)|h;exact .inl (.inl (e _ _ h));exact .inl (.inr ⟨o,e _ _ h⟩);exact .inr h
end L2
end
noncomputable section
namespace L2
open PySem PySem.Spec PyProof.Rows PySem.Builtin
set_option maxRecDepth 100000 in
theorem mF:fillsNumberSlot (.type "tuple") "mul" = pure false:=
 PySem.fillsNumberSlot_seq (id:= "tuple.__mul__") (r:=some (.builtin "tuple.__rmul__")) F.slot_tuple_mul.lookup (by decide +kernel) F.slot_tuple_rmul.lookup (by decide +kernel)
theorem tH:seqRepeat? (.type "tuple")=pure (some (.builtin "tuple.__mul__")):=by unfold seqRepeat?;rw[PySem.seqSlot_of (T:= "tuple") (name:= "__mul__") (id:= "tuple.__mul__") F.slot_tuple_mul.lookup (by decide +kernel),PySem.seqSlot_of (T:= "tuple") (name:= "__rmul__") (id:= "tuple.__rmul__") F.slot_tuple_rmul.lookup (by decide +kernel)];rfl
theorem oN(a:Int)(t:Tok)(l:Addr)(od:Option Addr)(items:Array Value)(n:Nat)(sl:Array (Option Value)):Meets (Builtin.«int.__rmul__» ⟨[.int a t,.ref l],[]⟩) (λ_ R s=>s.heap.get? l=some { cls:=.type "tuple",dict:=od,data:=.seq items n,slots:=sl }/\R (.ok (.ret Value.notImplemented)) s):=
 .of_wp λprog w A R s h=>by obtain⟨hp,g,d,tk,os⟩:=s;obtain⟨hl,h⟩:=h;wp_walk;exact⟨_,rfl,h⟩
theorem vO(l:Addr)(t:Tok)(od:Option Addr)(items:Array Value)(n:Nat)(sl:Array (Option Value)):Meets (Builtin.«tuple.__mul__» ⟨[.ref l,.int 1 t],[]⟩) (λ_ R s=>s.heap.get? l=some { cls:=.type "tuple",dict:=od,data:=.seq items n,slots:=sl }/\R (.ok (.ret (.ref l))) s):=
 .of_wp λprog w A R s h=>by obtain⟨hp,g,d,tk,os⟩:=s;obtain⟨hl,h⟩:=h;wp_walk;exact⟨_,rfl,h⟩
theorem vP(l:Addr)(t:Tok)(k:Int)(od:Option Addr)(items:Array Value)(n:Nat)(sl:Array (Option Value))(h1:1<k)(h2:k<2 ^ 63)(h0:items.isEmpty=false)(hz:items.size*k.toNat<=sizeLine)(hs:((List.replicate k.toNat items).foldl (·++·) #[]).size<=sizeLine):Meets (Builtin.«tuple.__mul__» ⟨[.ref l,.int k t],[]⟩) (λ_ R s=>s.heap.get? l=some { cls:=.type "tuple",dict:=od,data:=.seq items n,slots:=sl }/\R (.ok (.ret (.ref s.heap.objs.size))) { s with heap:=s.heap.push { cls:=.type "tuple",data:=.seq ((List.replicate k.toNat items).foldl (·++·) #[]) } }):=
 .of_wp λprog w A R s h=>by
  obtain⟨hp,g,d,tk,os⟩:=s;obtain⟨hl,h⟩:=h;wp_walk;have k1:(decide (k < -2 ^ 63)||decide (k ≥ 2 ^ 63))=false:=by rw[An (by omega),An (by omega)];rfl
  have k2:(items.isEmpty||k==1)=false:=by rw[h0,Bb.mpr (by omega)];rfl
  have k3:(decide (k<=0)||items.isEmpty)=false:=by rw[h0,An (by omega)];rfl
  have e:((items.size*k.toNat:Nat):Int)=(items.size:Int)*k:=by rw[Int.natCast_mul,Bs (by omega)]
  have k4:Tuple.tupleTooMany ((items.size:Int)*k)=false:=by unfold Tuple.tupleTooMany;rw[<-e];exact An (by omega)
  have k5:¬ (items.size:Int)*k>(2 ^ 63-1) / 8:=by
   have:(sizeLine:Nat)<=(2 ^ 63-1) / 8:=by decide
   rw[<-e];omega
  rw[if_neg (by rw[k1];exact bN)]
  wp_walk
  rw[if_neg (by rw[k2];exact bN),if_neg (by rw[k3];exact bN),if_neg k5,if_neg (by rw[k4];exact bN)];unfold Tuple.tupleExact newObj;simp only[if_neg (Dy.mpr hs)]
  wp_walk
  exact⟨_,rfl,h⟩
section
variable {X:Cx}
theorem aFO:OpR X (binaryOp .Mult) (λx y H Q=>∃a k xs,x=.ref a/\y=.int k/\SqT X.K H a xs/\xs≠[]/\1<=k/\k<2 ^ 63/\xs.length*k.toNat<=sizeLine /\
 (k=1->Q (.ref a) H)/\(1<k->∀p,H p=none->Q (.ref p) (upd H p (.tup (List.replicate k.toNat xs).flatten)))):=by
 intro pins s σ H x y v u Q I rx ry h;obtain⟨a,k,xs,rfl,rfl,ha,hx,h1,h2,hz,q1,q2⟩:=h;cases rx;obtain⟨t,rfl⟩:=ry;obtain⟨its,r,⟨o,ho,hc,n,hd⟩,_⟩:=I.tuple ha;obtain⟨oc,od,dt,sl⟩:=o;have hc:oc=.type "tuple" := hc;have hd:dt=.seq its.toArray n:=hd;subst hc hd;have lz:=r.length;have road:=λQ' (hq:wpAny (model X.prog X.w) X.A (call (.builtin "tuple.__mul__") [.ref a,.int k t]) Q' X.xe s)=>wpAny_binaryOp_repeat_ref (Q:=Q') (T:= "tuple") (U:= "int") (by decide) (show s.TypeIs (.ref a) "tuple" from⟨_,ho,rfl⟩) (λs'=>typeIs_int s' k t) mF F.fills_int_mul F.slot_int_rmul tH F.slot_int_index.lookup
  (Dw F.slot_int_rmul (typeIs_int s k t) F.entry_int_rmul (F.args_int_rmul_2 _ _) (oN k t a od its.toArray n sl) ⟨ho,rfl,⟨_,ho,rfl⟩,hq⟩)
 refine road _ ?_;by_cases hk:k=1;subst hk;exact Dw F.slot_tuple_mul ⟨_,ho,rfl⟩ F.entry_tuple_mul (F.args_tuple_mul_2 _ _) (vO a t od its.toArray n sl) ⟨ho,.ref a,H,I,rfl,q1 rfl⟩;have e0:its.toArray.isEmpty=false:=by
  cases its with
  | nil=>exact absurd (r.nil_iff.mp rfl) hx|cons _ _=>rfl
 have f0:=mE its k.toNat [];rw[C6] at f0;have f1:List.foldl (λx1 x2=>x1++x2) #[] (List.replicate k.toNat its.toArray)=(List.replicate k.toNat its).flatten.toArray:=f0;refine Dw F.slot_tuple_mul ⟨_,ho,rfl⟩ F.entry_tuple_mul (F.args_tuple_mul_2 _ _) (vP a t k od its.toArray n sl (by omega) h2 e0 (by rw[Ae,<-lz];exact hz) (by rw[f1,Ae,tG,<-lz,Nat.mul_comm];exact hz)) ⟨ho,?_⟩;rw[f1];refine⟨.ref s.heap.objs.size,_,I.laid (t':=s.toks) (o:=.tup (List.replicate k.toNat xs).flatten) (λb ob q=>Ab _ q) (Ai _) ?_,rfl,q2 (by omega) _ (I.hok.fresh (Ai _))⟩;exact⟨by rw[tG,Nat.mul_comm];exact hz,_,r.rep k.toNat,IsTup.new _ _⟩
end
end L2
end
noncomputable section
namespace Hp
open PySem (Str Operator CmpOp)
inductive D where
 | non|bl (b:Bool)|int (i:Int)|str (x:Str)
 | tup (ds:List D)|lst (ds:List D)
 | dic (kvs:List (D×D))
 | err (c:Str) (fs:List D)
 deriving Inhabited
mutual
def noL:D->Bool
 | .tup ds=>noLs ds|.lst _=>false|.dic _=>false|.err _ _=>false|_=>true
def noLs:List D->Bool
 | []=>true|d::ds=>noL d&&noLs ds
end
mutual
def eY:D->Bool
 | .tup ds=>noDics ds|.lst ds=>noDics ds|.dic _=>false|.err _ _=>false|_=>true
def noDics:List D->Bool
 | []=>true|d::ds=>eY d&&noDics ds
end
def lim:Nat:=1000000
def b2i(b:Bool):Int:=if b then 1 else 0
def eqL(f:D->D->Option Bool):List D->List D->Option Bool
 | [],[]=>some true|a::as,b::bs=>match f a b,eqL f as bs with|some x,some y=>some (x&&y)|_,_=>none
 | _,_=>some false
noncomputable def eqF:Nat->D->D->Option Bool
 | 0,_,_=>none|n+1,a,b=>match a,b with|.non,.non=>some true|.bl a,.bl b=>some (a==b)|.int a,.int b=>some (a==b)|.str a,.str b=>some (a==b)|.bl a,.int b=>some (b2i a==b)|.int a,.bl b=>some (a==b2i b)|.tup as,.tup bs=>eqL (eqF n) as bs|.lst as,.lst bs=>if as.length=bs.length then eqL (eqF n) as bs else some false|.dic _,_=>none|_,.dic _=>none|.err _ _,_=>none|_,.err _ _=>none|_,_=>some false
def fJ(n:Nat):List D->List D->Option Bool
 | [],[]=>some true|a::as,b::bs=>match eqF n a b,fJ n as bs with|some x,some y=>some (x&&y)|_,_=>none
 | _,_=>some false
@[simp] theorem tJ (n:Nat):∀as bs:List D,eqL (eqF n) as bs=fJ n as bs
 | [],[]=>rfl|[],_::_=>rfl|_::_,[]=>rfl|a::as,b::bs=>by rw[eqL,fJ,tJ n as bs]
def kU:Nat:=120
def eqD(a b:D):Option Bool:=eqF kU a b
set_option genInjectivity true in
inductive R (α:Type) where
 | ok (a:α)|exc (x:D)|bad
 deriving Inhabited
def R.bind{α β:Type}(x:R α)(f:α->R β):R β:=match x with|.ok a=>f a|.exc e=>.exc e|.bad=>.bad
instance:Monad R where
 pure:=.ok
 bind:=.bind
def R.of{α:Type}:Option α->R α
 | some a=>.ok a|none=>.bad
def R.calm{α:Type}:R α->R α
 | .exc _=>.bad|x=>x
def R.iff{α:Type}(c:Bool)(x:R α):R α:=if c then x else .bad
structure Vl where
 d:D
 fr:Bool:=false
 pa:Bool:=false
 al:List Nat:=[]
 deriving Inhabited
def Vl.cl(d:D):Vl:=⟨d,false,false,[]⟩
def Vl.sub(v:Vl)(d:D):Vl:=if noL d then .cl d else ⟨d,false,v.pa,v.al⟩
inductive Sl where
 | x|sh (pa:Bool) (d:D)|own (pa:Bool) (ds:List D)|dct (ks:List (List (List Int)×D))|par (ds es:List D)
 deriving Inhabited
abbrev Sg:=List Sl
def Sl.val(i:Nat):Sl->R Vl
 | .x=>.bad|.sh pa d=>.ok ⟨d,false,pa&&!noL d,[]⟩|.own pa ds=>.ok ⟨.lst ds,false,pa,[i]⟩|.dct _=>.bad|.par _ _=>.bad
def bB(σ:Sg)(i:Nat):R Vl:=match σ[i]? with|some s=>s.val i|none=>.bad
def Sl.freeze:Sl->Sl
 | .own pa ds=>.sh pa (.lst ds)|s=>s
def freeze(σ:Sg):List Nat->Sg
 | []=>σ|i::is=>freeze (match σ[i]? with|some s=>σ.set i s.freeze|none=>σ) is
def Vl.slot(v:Vl):Sl:=match v.fr,v.d with|true,.lst ds=>.own v.pa ds|_,d=>.sh v.pa d
inductive Bi where
 | len|list|tuple|min|max|abs|int|str|sum|all|any|sorted|bool|repr
 deriving DecidableEq,Inhabited
inductive Mt where
 | join|upper|lower|get|startswith|endswith|index|count|copy|isdigit|find|replace|split|strip
 deriving DecidableEq,Inhabited
inductive Cl where
 | tInt|tBool|tStr|tList|tTuple|tDict|own (c:Str)|tValueError
 deriving DecidableEq,Inhabited
inductive T where
 | n (i:Nat)
 | t (ts:List Nat)
 deriving Inhabited
mutual
inductive E where
 | c (d:D)
 | v (i:Nat)
 | op (o:Operator) (a b:E)
 | neg (a:E)
 | nt (a:E)
 | an (a b:E)
 | orr (a b:E)
 | ife (t a b:E)
 | cmp (o:CmpOp) (a b:E)
 | cmp2 (o o':CmpOp) (a b c:E)
 | idx (a b:E)
 | sli (a:E) (lo hi:Es)
 | tup (es:Es)
 | lst (es:Es)
 | dic (ks vs:Es)
 | call (f:Nat) (es:Es)
 | bi (b:Bi) (es:Es)
 | mth (m:Mt) (o:E) (es:Es)
 | isi (a:E) (cs:List Cl)
 | isx (a:E) (cs:List Cl)
 | comp (k:Nat) (caps:List Nat) (t:T) (it:It) (cond:Es) (elt:E)
 | numset (a:E)   -- len(set(a))
 | tget (i:Nat) (a:E)   -- a dict of the module,.get(a)
 | lzip (a b:E)   -- list(zip(a,b))
 | dnin (a:E) (j:Nat)   -- a not in a dict of one's own
 | dget (j:Nat) (a:E)   -- the value at a key in a dict of one's own
 | dlen (j:Nat)   -- len of a dict of one's own
 | callP (f i:Nat) (es:Es)   -- f(x[1],..),x a new list of a plain thing and a new list
 | pix (i:Nat)   -- x[0],x a new list of a plain thing and a new list
inductive Es where
 | z|k (e:E) (es:Es)
inductive It where
 | seq (e:E)|rng (a b:E)|zip (a b:E)|enum (a:E)|rev (a:E)
end
instance:Inhabited E:=⟨.c .non⟩
inductive Arg where
 | e (a:E)|pop (i:Nat)
 deriving Inhabited
mutual
inductive S where
 | set (t:T) (e:E)
 | mov (i j:Nat)
 | setIx (i:Nat) (k e:E)
 | app (i:Nat) (e:E)
 | ext (i:Nat) (e:E)
 | pop (t:Option T) (i:Nat) (at':Option E)
 | clr (i:Nat)
 | ins (i:Nat) (k e:E)
 | rev (i:Nat)
 | appCall (i:Nat) (f:Nat) (as:List Arg)
 | ret (e:E)
 | retv (i:Nat)
 | retN
 | iff (c:E) (a b:Ss)
 | for (t:T) (it:It) (b:Ss)
 | whl (c:E) (b:Ss)
 | brk|cnt|pass|off
 | ex (e:E)
 | dnew (i:Nat)   -- {}
 | dput (i:Nat) (e:E)   -- i[e]=True
 | dfrom (i:Nat) (e:E)   -- dict(e),e pairs of a key and a plain value
 | tld (i f:Nat) (es:Es)   -- i=f(..),a new list of a plain thing and a new list
 | appP (i:Nat) (e:E)   -- i[1].append(e)
 | rse (c:Str) (keep:Bool) (es:Es)
 | tryF (b:Ss) (c1 c2:Str) (i j z:Nat)   -- try: b except c1 as j: i=j;z=j.place except c2 as j: i=j
inductive Ss where
 | z|k (s:S) (ss:Ss)
end
structure Fn where
 np:Nat
 ns:Nat
 body:Ss
structure Pg where
 fns:List Fn
 above:List (Str×List Cl)
 tabs:List (List (Str×D)):=[]
abbrev Rt:=D×Bool×Bool
abbrev Caller:=Nat->List D->R Rt
def eZ(i j:Int):Bool:=(decide (-(2 ^ 64)<i)&&decide (i<2 ^ 64))||(decide (-(2 ^ 64)<j)&&decide (j<2 ^ 64))
def aHf(i j:Int):Bool:=decide (0<=j)&&decide (j<=1000)&&decide (i.natAbs<2 ^ 64)
def aAw(j:Int):Bool:=decide (0<j)&&decide (j<1073741824)
def aK(k:Int):Bool:=decide (-(2 ^ 62)<=k)&&decide (k<2 ^ 62)
def Str.rep(x:Str)(k:Nat):Str:=⟨(List.replicate k x.cps).foldl (·++·) #[]⟩
@[simp] noncomputable def aFP (x y:Vl):R Vl:=match x.d,y.d with|.int i,.int j=>.ok (.cl (.int (i+j)))|.str a,.str b=>.iff (decide (a.length+b.length<=lim)) (.ok (.cl (.str (a++b))))|.tup a,.tup b=>.iff (decide (a.length+b.length<=lim)) (.ok ⟨.tup (a++b),false,x.pa||y.pa,x.al++y.al⟩)|.lst a,.lst b=>.iff (decide (a.length+b.length<=lim)) (.ok ⟨.lst (a++b),true,(x.pa&&!noLs a)||(y.pa&&!noLs b),(if noLs a then [] else x.al)++(if noLs b then [] else y.al)⟩)|_,_=>.bad
@[simp] noncomputable def yR (x y:Vl):R Vl:=match x.d,y.d with|.int i,.int j=>.iff (eZ i j) (.ok (.cl (.int (i*j))))|.str a,.int k=>.iff (aK k&&decide (a.length*k.toNat<=lim)) (.ok (.cl (.str (Str.rep a k.toNat))))|.lst a,.int k=>.iff (x.fr&&aK k&&decide (a.length*k.toNat<=lim)&&noLs a) (.ok ⟨.lst (List.replicate k.toNat a).flatten,true,false,[]⟩)|.tup a,.int k=>.iff (decide (1<=k)&&aK k&&!a.isEmpty&&decide (a.length*k.toNat<=lim)&&noLs a) (.ok (.cl (.tup (List.replicate k.toNat a).flatten)))|_,_=>.bad
@[simp] def tK (f:Int->Int->R Vl) (x y:Vl):R Vl:=match x.d,y.d with|.int i,.int j=>f i j|_,_=>.bad
noncomputable def opD(o:Operator)(x y:Vl):R Vl:=match o with|.Add=>aFP x y|.Mult=>yR x y|.Sub=>tK (λi j=>.ok (.cl (.int (i-j)))) x y|.FloorDiv=>tK (λi j=>.iff (aAw j) (.ok (.cl (.int (i / j))))) x y|.Mod=>tK (λi j=>.iff (decide (0<j)) (.ok (.cl (.int (i % j))))) x y|.Pow=>tK (λi j=>.iff (aHf i j) (.ok (.cl (.int (i ^ j.toNat))))) x y|_=>.bad
noncomputable def aDb:D->Option Bool
 | .non=>some false|.bl b=>some b|.int i=>some (i != 0)|.str x=>if x.length<=lim then some (x.length != 0) else none|.tup ds=>some (!ds.isEmpty)|.lst ds=>some (!ds.isEmpty)|_=>none
def eD(x:Vl):R Bool:=.of (aDb x.d)
def aDc:List D->Option (List Int)
 | []=>some []|.int a::ds=>match aDc ds with|some ns=>some (a::ns)|none=>none
 | _=>none
def ltD:D->D->Option Bool
 | .int a,.int b=>some (decide (a<b))|_,_=>none
def leD:D->D->Option Bool
 | .int a,.int b=>some (decide (a<=b))|_,_=>none
def isNone:D->Bool
 | .non=>true|_=>false
def nJ(x:D):List D->Option Bool
 | []=>some false|y::ys=>match eqD y x,nJ x ys with|some a,some b=>some (a||b)|_,_=>none
def inD(x y:D):Option Bool:=match x,y with|x,.lst ys=>if noDics ys then nJ x ys else none|x,.tup ys=>if noDics ys then nJ x ys else none|.str a,.str b=>some (!(PySem.Builtin.Str.occurrences b a 0 b.length 1).isEmpty)|_,_=>none
def dD(o:CmpOp)(x y:D):Option Bool:=match o with
 | .Eq=>eqD x y|.NotEq=>(eqD x y).map (!·)|.Lt=>ltD x y|.Gt=>match x,y with|.int a,.int b=>some (decide (b<a))|_,_=>none
 | .LtE=>leD x y|.GtE=>match x,y with|.int a,.int b=>some (decide (b<=a))|_,_=>none
 | .Is=>match y with|.non=>some (isNone x)|_=>none
 | .IsNot=>match y with|.non=>some (!isNone x)|_=>none
 | .In=>inD x y|.NotIn=>(inD x y).map (!·)
noncomputable def ixN(n:Nat)(k:Int):Option Nat:=
 if 0<=k then (if k<n then some k.toNat else none) else (if -(n:Int)<=k then some (k+n).toNat else none)
noncomputable def bK(x y:Vl):R Vl:=match x.d,y.d with
 | .lst ds,.int k=>match ixN ds.length k with
  | some j=>match ds[j]? with|some d=>.ok (x.sub d)|none=>.bad
  | none=>.bad
 | .tup ds,.int k=>match ixN ds.length k with
  | some j=>match ds[j]? with|some d=>.ok (x.sub d)|none=>.bad
  | none=>.bad
 | .str a,.int k=>.iff (decide (a.length<=lim)) (match ixN a.length k with
  | some j=>match a.cps.toList[j]? with|some c=>.ok (.cl (.str ⟨#[c]⟩))|none=>.bad
  | none=>.bad)
 | _,_=>.bad
def sIx(n d:Nat):Option Int->Nat
 | none=>d|some v=>if v<0 then (v+(n:Int)).toNat else min v.toNat n
def cut{α:Type}(xs:List α)(lo hi:Option Int):List α:=(xs.drop (sIx xs.length 0 lo)).take (sIx xs.length xs.length hi-sIx xs.length 0 lo)
def yS(x:Str)(lo hi:Option Int):Str:=⟨(cut x.cps.toList lo hi).toArray⟩
noncomputable def eG(x:Vl)(lo hi:Option Int):R Vl:=match x.d with|.lst ds=>.ok ⟨.lst (cut ds lo hi),true,x.pa&&!noLs ds,if noLs ds then [] else x.al⟩|.tup ds=>.ok ⟨.tup (cut ds lo hi),false,x.pa&&!noLs ds,if noLs ds then [] else x.al⟩|.str a=>.iff (decide (a.length<=lim)) (.ok (.cl (.str (yS a lo hi))))|_=>.bad
noncomputable def isI(cs:List Cl)(P:Pg):D->Option Bool
 | .non=>some false|.bl _=>some (cs.contains .tBool||cs.contains .tInt)|.int _=>some (cs.contains .tInt)|.str _=>some (cs.contains .tStr)|.tup _=>some (cs.contains .tTuple)|.lst _=>some (cs.contains .tList)|.dic _=>some (cs.contains .tDict)|.err _ _=>none
noncomputable def isX(cs:List Cl)(P:Pg):D->Option Bool
 | .non=>match cs with|[.tValueError]=>some false|_=>none
 | .err c _=>match P.above.lookup c with|some ab=>some (cs.any λa=>ab.contains a)|none=>none
 | _=>none
def aKw:List D->Int->Option Int
 | [],a=>some a|.int i::ds,a=>aKw ds (a+i)|.bl b::ds,a=>aKw ds (a+b2i b)|_,_=>none
def cM:List D->Option (List Bool)
 | []=>some []|.bl a::ds=>match cM ds with|some bs=>some (a::bs)|none=>none
 | _=>none
noncomputable def tL:List D->Option (List (Sum Int Str))
 | []=>some []|.int a::ds=>match tL ds with|some ks=>some (.inl a::ks)|none=>none
 | .str a::ds=>match tL ds with|some ks=>some (.inr a::ks)|none=>none
 | _=>none
def aDd(ks:List (Sum Int Str)):List (Sum Int Str):=ks.foldl (λσ v=>if σ.any (·==v) then σ else σ++[v]) []
noncomputable def aKx(x:D):List D->Option (List D)
 | []=>some [x]|y::ys=>match ltD x y with
  | some true=>some (x::y::ys)|some false=>match aKx x ys with|some r=>some (y::r)|none=>none
  | none=>none
def aKy:List D->Option (List D)
 | []=>some []|d::ds=>match aKy ds with|some r=>aKx d r|none=>none
def tM(x:Str):Bool:=x.cps.all λc=>decide (97<=c)&&decide (c<=122)
mutual
def wt:D->Nat
 | .non=>4|.bl _=>5|.int i=>if i.natAbs<1000000000 then 10 else lim|.str x=>if tM x then x.length+2 else lim|.tup ds=>3+wts ds|.lst ds=>2+wts ds|.dic _=>lim|.err _ _=>lim
def wts:List D->Nat
 | []=>0|d::ds=>wt d+2+wts ds
end
mutual
def dpt:D->Nat
 | .tup ds=>dpts ds+1|.lst ds=>dpts ds+1|.non=>0|.bl _=>0|.int _=>0|.str _=>0|.dic _=>0|.err _ _=>0
def dpts:List D->Nat
 | []=>0|d::ds=>max (dpt d) (dpts ds)
end
mutual
noncomputable def gO:D->PySem.PyData
 | .non=>.none|.bl b=>.bool b|.int i=>.int i|.str x=>.str x|.tup ds=>.tuple (toPys ds)|.lst ds=>.list (toPys ds)|.dic _=>.none|.err _ _=>.none
noncomputable def toPys:List D->List PySem.PyData
 | []=>[]
 | d::ds=>gO d::toPys ds
end
def fK(d:D):Str:=(gO d).shown
@[simp] noncomputable def vQ (b:Bi) (x:Vl):R Vl:=match b with
 | .len=>match x.d with|.lst ds=>.ok (.cl (.int ds.length))|.tup ds=>.ok (.cl (.int ds.length))|.str a=>.iff (decide (a.length<=lim)) (.ok (.cl (.int a.length)))|_=>.bad
 | .list=>match x.d with|.lst ds=>.ok ⟨.lst ds,true,x.pa&&!noLs ds,if noLs ds then [] else x.al⟩|.tup ds=>.ok ⟨.lst ds,true,x.pa&&!noLs ds,if noLs ds then [] else x.al⟩|_=>.bad
 | .tuple=>match x.d with|.lst ds=>.ok ⟨.tup ds,false,x.pa&&!noLs ds,if noLs ds then [] else x.al⟩|.tup ds=>.ok ⟨.tup ds,false,x.pa,x.al⟩|_=>.bad
 | .int=>match x.d with|.int i=>.ok (.cl (.int i))|.bl b=>.ok (.cl (.int (b2i b)))|_=>.bad
 | .repr=>match x.d with|.tup ds=>.iff (decide (wt (.tup ds)<lim)&&decide (dpt (.tup ds)<=60)) (.ok (.cl (.str (fK (.tup ds)))))|_=>.bad
 | .all=>match x.d with
  | .lst ds=>match cM ds with|some bs=>.ok (.cl (.bl (bs.all id)))|none=>.bad
  | _=>.bad
 | .any=>match x.d with
  | .lst ds=>match cM ds with|some bs=>.ok (.cl (.bl (bs.any id)))|none=>.bad
  | _=>.bad
 | _=>.bad
@[simp] noncomputable def aNA (b:Bi) (x y:Vl):R Vl:=match b with
 | .min=>match x.d,y.d with|.int i,.int j=>.ok (.cl (.int (if j<i then j else i)))|_,_=>.bad
 | .max=>match x.d,y.d with|.int i,.int j=>.ok (.cl (.int (if j>i then j else i)))|_,_=>.bad
 | _=>.bad
def biD(b:Bi)(xs:List Vl):R Vl:=match xs with|[x]=>vQ b x|[x,y]=>aNA b x y|_=>.bad
def gP:List D->Option (List Str)
 | []=>some []|.str x::ds=>match gP ds with|some r=>some (x::r)|none=>none
 | _=>none
def aKz:D->D->Bool
 | .int a,.int b=>a==b|.str a,.str b=>a==b|_,_=>false
def aKA:D->Bool
 | .int _=>true|.str _=>true|_=>false
def aHg(k:D):List (D×D)->Option D
 | []=>none|(a,d)::r=>if aKz a k then some d else aHg k r
def upC(n:Nat):Nat:=if 97<=n/\n<=122 then n-32 else n
noncomputable def mtD(m:Mt)(x:Vl)(ys:List Vl):R Vl:=match m,x.d,ys with
 | .join,.str a,[y]=>match y.d with
  | .lst ds=>match gP ds with|some xs=>.iff (decide ((xs.map (·.length)).sum+xs.length*a.length<=lim)) (.ok (.cl (.str (PySem.Str.join a xs))))|none=>.bad
  | _=>.bad
 | .get,.dic kvs,[y]=>.iff (aKA y.d) (match aHg y.d kvs with
  | some d=>.ok (x.sub d)|none=>.ok (.cl .non))
 | .upper,.str a,[]=>.iff (a.cps.all (·<128)&&decide (a.length<=lim)) (.ok (.cl (.str ⟨a.cps.map upC⟩)))|_,_,_=>.bad
def cN(vs:List Vl):List Nat:=vs.flatMap (·.al)
def fA(vs:List Vl):Bool:=vs.any (·.pa)
def kW(vs:List Vl):Vl:=⟨.tup (vs.map (·.d)),false,fA vs,cN vs⟩
def nB(vs:List Vl):Vl:=⟨.lst (vs.map (·.d)),true,fA vs,cN vs⟩
def iH(args:List Vl)(r:Rt):Vl:=if r.2.2 then ⟨r.1,r.2.1,fA args,cN args⟩ else ⟨r.1,r.2.1,false,[]⟩
def fL(a b:Int):List D:=(List.range (b-a).toNat).map λ(k:Nat)=>.int (a+(k:Int))
def eE:Int->List D->List D
 | _,[]=>[]
 | k,d::ds=>.tup [.int k,d]::eE (k+1) ds
def iI:List D->List D->List D
 | a::as,b::bs=>.tup [a,b]::iI as bs|_,_=>[]
noncomputable def bT(σ:Sg)(v:Vl):T->R Sg
 | .n i=>.ok (σ.set i v.slot)|.t is=>match v.d with|.tup ds=>if ds.length=is.length then .ok ((is.zip ds).foldl (λσ p=>σ.set p.1 (v.sub p.2).slot) σ) else .bad|_=>.bad
noncomputable def eH(f:Vl->R (Option Vl)):List Vl->R (List Vl)
 | []=>.ok []|x::xs=>do
  let y<-f x
  let ys<-eH f xs
  match y with
  | some y=>.ok (y::ys)|none=>.ok ys
def gQ:D->Option (List D)
 | .lst ds=>some ds|.tup ds=>some ds|_=>none
def items(x:Vl)(ds:List D):List Vl:=ds.map x.sub
noncomputable def aHh:List D->Option (List (List Int))
 | []=>some []|.tup as::ds=>match aDc as,aHh ds with|some a,some r=>some (a::r)|_,_=>none
 | _=>none
def aDe:D->Option (List (List Int))
 | .tup ds=>aHh ds|_=>none
noncomputable def aKB(ks:List (List (List Int)×D))(k:List (List Int)×D):List (List (List Int)×D):=if k.1∈ks.map (·.1) then ks.map (λx=>if x.1=k.1 then (x.1,k.2) else x) else ks++[k]
def aKC:D->Bool
 | .int _|.bl _=>true|_=>false
def aKD(ks:List (List (List Int)×D))(k:List (List Int)):Option D:=(ks.find? λx=>decide (x.1=k)).map (·.2)
noncomputable def aDf:List D->Option (List (List (List Int)×D))
 | []=>some []|.tup [k,v]::ds=>match aDe k,aKC v,aDf ds with|some a,true,some r=>some ((a,v)::r)|_,_,_=>none
 | _=>none
def fB(k:Nat)(caps al:List Nat)(vs:List Vl):Vl:=
 if noLs (vs.map (·.d)) then ⟨.lst (vs.map (·.d)),true,false,[]⟩
 else ⟨.lst (vs.map (·.d)),true,fA vs,al++(cN vs).filterMap λj=>caps[j-k]?⟩
def vR(σ:Sg)(i:Nat):R D:=match σ[i]? with|some (.par ds _)=>.ok (.lst ds)|_=>.bad
def yT(σ:Sg)(i:Nat):R D:=match σ[i]? with|some (.par _ [x])=>.ok x|_=>.bad
def iK(r:Rt):R Vl:=.iff (noL r.1&&!r.2.1) (.ok (.cl r.1))
def aAx(σ:Sg):Bool:=σ.all λs=>match s with|.par _ _=>false|_=>true
noncomputable def aDg(σ:Sg)(r:Rt):Option Sl:=match r.1,r.2.1,r.2.2 with|.lst [x,.lst ds],true,false=>if noL x&&noLs ds&&aAx σ then some (.par ds [x]) else none|_,_,_=>none
def aHi(x y:Vl)(ds:List D):Vl:=if noLs ds then ⟨.lst ds,true,false,[]⟩ else ⟨.lst ds,true,x.pa||y.pa,x.al++y.al⟩
section
variable (P:Pg) (cl:Caller)
mutual
noncomputable def ev(σ:Sg):E->R Vl
 | .c d=>.ok (.cl d)|.v i=>bB σ i|.op o a b=>do let x<-ev σ a;let y<-ev σ b;opD o x y
 | .neg a=>do
  let x<-ev σ a
  match x.d with
  | .int i=>.ok (.cl (.int (-i)))|_=>.bad
 | .nt a=>do let x<-ev σ a;let k<-eD x;.ok (.cl (.bl (!k)))
 | .an a b=>do
  let x<-ev σ a
  match x.d with
  | .bl true=>ev σ b|.bl false=>.ok (.cl (.bl false))|_=>.bad
 | .orr a b=>do
  let x<-ev σ a
  match x.d with
  | .bl true=>.ok (.cl (.bl true))|.bl false=>ev σ b|_=>.bad
 | .ife t a b=>do
  let x<-tst σ t
  if x then ev σ a else ev σ b
 | .cmp o a b=>do
  let x<-ev σ a
  let y<-ev σ b
  match dD o x.d y.d with
  | some k=>.ok (.cl (.bl k))|none=>.bad
 | .cmp2 o o' a b c=>do
  let x<-ev σ a
  let y<-ev σ b
  match dD o x.d y.d with
  | some true=>do
   let z<-ev σ c
   match dD o' y.d z.d with
   | some k=>.ok (.cl (.bl k))|none=>.bad
  | some false=>.ok (.cl (.bl false))|none=>.bad
 | .idx a b=>do let x<-ev σ a;let y<-ev σ b;bK x y
 | .sli a lo hi=>do
  let x<-ev σ a
  let l<-evs σ lo
  let h<-evs σ hi
  match l,h with
  | [],[]=>eG x none none|[l],[]=>match l.d with|.int l=>.iff (aK l) (eG x (some l) none)|_=>.bad
  | [],[h]=>match h.d with|.int h=>.iff (aK h) (eG x none (some h))|_=>.bad
  | [l],[h]=>match l.d,h.d with|.int l,.int h=>.iff (aK l&&aK h) (eG x (some l) (some h))|_,_=>.bad
  | _,_=>.bad
 | .tup es=>do let vs<-evs σ es;.ok (kW vs)
 | .lst es=>do let vs<-evs σ es;.ok (nB vs)
 | .dic ks vs=>do
  let ks<-evs σ ks
  let vs<-evs σ vs
  match (ks.map (λ(v:Vl)=>v.d):List D),(vs.map (λ(v:Vl)=>v.d):List D) with
  | [.int k],[.int v]=>.ok (.cl (.dic [(.int k,.int v)]))|[.str k],[.int v]=>.ok (.cl (.dic [(.str k,.int v)]))|[],[]=>.ok (.cl (.dic []))|_,_=>.bad
 | .call f es=>do
  let vs<-evs σ es
  let r<-cl f (vs.map (·.d))
  .ok (iH vs r)
 | .bi b es=>do let vs<-evs σ es;biD b vs
 | .mth m o es=>do let x<-ev σ o;let ys<-(evs σ es).calm;mtD m x ys
 | .isi a cs=>do
  let x<-ev σ a
  match isI cs P x.d with
  | some k=>.ok (.cl (.bl k))|none=>.bad
 | .isx a cs=>do
  let x<-ev σ a
  match isX cs P x.d with
  | some k=>.ok (.cl (.bl k))|none=>.bad
 | .comp k caps t it cond elt=>do
  let xs<-walk σ it
  .iff (decide (xs.1.length<=lim)) (do
   let vs<-eH (λx=>do
    let σ1<-bT (List.replicate k .x++caps.map λi=>((freeze σ xs.2)[i]?).getD .x) x t
    let k<-(tsts σ1 cond).calm
    if k then do let y<-ev σ1 elt;.ok (some y) else .ok none) xs.1
   .ok (fB k caps xs.2 vs))
 | .numset a=>do
  let x<-ev σ a
  match x.d with
  | .lst ds=>match tL ds with|some ks=>.iff (decide (ds.length<=1000)) (.ok (.cl (.int (aDd ks).length)))|none=>.bad
  | _=>.bad
 | .tget i a=>do
  let x<-ev σ a
  match x.d,P.tabs[i]? with
  | .str k,some t=>.ok (.cl ((t.lookup k).getD .non))|_,_=>.bad
 | .lzip a b=>do
  let x<-ev σ a
  let y<-ev σ b
  match gQ x.d,gQ y.d with
  | some as,some bs=>.iff (decide (as.length<=lim)) (.ok (aHi x y (iI as bs)))|_,_=>.bad
 | .dnin a j=>do
  let x<-ev σ a
  match σ[j]?,aDe x.d with
  | some (.dct ks),some k=>.ok (.cl (.bl (!decide (k∈ks.map (·.1)))))|_,_=>.bad
 | .dget j a=>do
  let x<-(ev σ a).calm
  match σ[j]?,aDe x.d with
  | some (.dct ks),some k=>(match aKD ks k with
   | some d=>.iff (aKC d) (.ok (.cl d))|none=>.bad)
  | _,_=>.bad
 | .dlen j=>match σ[j]? with|some (.dct ks)=>.ok (.cl (.int ks.length))|_=>.bad
 | .callP f i es=>do
  let vs<-(evs σ es).calm
  let d<-vR σ i
  let r<-(cl f (d::vs.map (·.d))).calm
  iK r
 | .pix i=>do
  let d<-(yT σ i).calm
  .ok (.cl d)
noncomputable def tst(σ:Sg):E->R Bool
 | .nt a=>do let x<-tst σ a;.ok (!x)
 | .an a b=>do
  let x<-tst σ a
  if x then tst σ b else .ok false
 | .orr a b=>do
  let x<-tst σ a
  if x then .ok true else tst σ b
 | .c d=>eD (.cl d)|.v i=>do let x<-bB σ i;eD x
 | .cmp o a b=>do
  let x<-ev σ a
  let y<-ev σ b
  match dD o x.d y.d with
  | some k=>.ok k|none=>.bad
 | .cmp2 o o' a b c=>do
  let x<-ev σ a
  let y<-ev σ b
  match dD o x.d y.d with
  | some true=>do
   let z<-ev σ c
   match dD o' y.d z.d with
   | some k=>.ok k|none=>.bad
  | some false=>.ok false|none=>.bad
 | .call f es=>do
  let vs<-evs σ es
  let r<-cl f (vs.map (·.d))
  eD (iH vs r)
 | .bi b es=>do let vs<-evs σ es;let x<-biD b vs;eD x
 | .mth m o es=>do let x<-ev σ o;let ys<-(evs σ es).calm;let z<-mtD m x ys;eD z
 | .idx a b=>do let x<-ev σ a;let y<-ev σ b;let z<-bK x y;eD z
 | .isi a cs=>do
  let x<-ev σ a
  match isI cs P x.d with
  | some k=>.ok k|none=>.bad
 | .dnin a j=>do
  let x<-ev σ a
  match σ[j]?,aDe x.d with
  | some (.dct ks),some k=>.ok (!decide (k∈ks.map (·.1)))|_,_=>.bad
 | .callP f i es=>do
  let vs<-(evs σ es).calm
  let d<-vR σ i
  let r<-(cl f (d::vs.map (·.d))).calm
  let x<-iK r
  eD x
 | .isx a cs=>do
  let x<-ev σ a
  match isX cs P x.d with
  | some k=>.ok k|none=>.bad
 | .pix i=>do
  let d<-(yT σ i).calm
  eD (.cl d)
 | _=>.bad
noncomputable def evs(σ:Sg):Es->R (List Vl)
 | .z=>.ok []|.k e es=>do let x<-ev σ e;let xs<-evs σ es;.ok (x::xs)
noncomputable def walk(σ:Sg):It->R (List Vl×List Nat)
 | .seq e=>do
  let x<-ev σ e
  match x.d with
  | .lst ds=>.ok (items x ds,x.al)|.tup ds=>.ok (items x ds,x.al)|.str a=>.iff (decide (a.length<=lim)) (.ok (a.cps.toList.map λn=>.cl (.str ⟨#[n]⟩),[]))|_=>.bad
 | .rng a b=>do
  let x<-ev σ a
  let y<-ev σ b
  match x.d,y.d with
  | .int i,.int j=>.iff (aK i&&aK j) (.ok ((fL i j).map .cl,[]))|_,_=>.bad
 | .zip a b=>do
  let x<-ev σ a
  let y<-ev σ b
  match gQ x.d,gQ y.d with
  | some as,some bs=>.ok (items ⟨.non,false,x.pa||y.pa,x.al++y.al⟩ (iI as bs),x.al++y.al)|_,_=>.bad
 | .enum a=>do
  let x<-ev σ a
  match gQ x.d with
  | some as=>.ok (items x (eE 0 as),x.al)|none=>.bad
 | .rev a=>do
  let x<-ev σ a
  match gQ x.d with
  | some as=>.ok (items x as.reverse,x.al)|none=>.bad
noncomputable def tsts(σ:Sg):Es->R Bool
 | .z=>.ok true|.k e es=>do
  let x<-tst σ e
  if x then tsts σ es else .ok false
end
inductive O where
 | next (σ:Sg)|brk (σ:Sg)|cnt (σ:Sg)|ret (v:Vl)|exc (x:D) (σ:Sg)|bad
 deriving Inhabited
def O.from{α:Type}(σ:Sg)(x:R α)(f:α->O):O:=match x with|.ok a=>f a|.exc e=>.exc e σ|.bad=>.bad
def O.on(o:O)(f:Sg->O):O:=match o with|.next σ=>f σ|o=>o
def dP(f:Sg->Vl->O):List Vl->Sg->O
 | [],σ=>.next σ|x::xs,σ=>match f σ x with|.next σ'=>dP f xs σ'|.cnt σ'=>dP f xs σ'|.brk σ'=>.next σ'|o=>o
noncomputable def aDh(t:Sg->R Bool)(f:Sg->O):Nat->Sg->O
 | 0,_=>.bad|n+1,σ=>O.from σ (t σ) λk=>if k then (match f σ with
     | .next σ'=>aDh t f n σ'|.cnt σ'=>aDh t f n σ'|.brk σ'=>.next σ'|o=>o) else .next σ
def aKE:Nat:=1000000
def kX(σ:Sg)(i:Nat):Option (Bool×List D):=match σ[i]? with|some (.own pa ds)=>some (pa,ds)|_=>none
def put(σ:Sg)(i:Nat)(v:Vl)(f:List D->Option (List D)):O:=match kX (freeze σ v.al) i with
 | some (pa,ds)=>match f ds with|some ds'=>if ds'.length<=lim then .next ((freeze σ v.al).set i (.own (pa||v.pa) ds')) else .bad|none=>.bad
 | none=>.bad
def aHj(σ:Sg)(i:Nat)(v:Vl):O:=put σ i v λds=>some (ds++[v.d])
noncomputable def rH(v:Vl):Option (Vl×List D):=match v.fr,v.d with|true,.lst ds=>some (⟨.non,false,v.pa&&!noLs ds,if noLs ds then [] else v.al⟩,ds)|_,_=>none
noncomputable def aDi(σ:Sg)(i:Nat)(k:Option Int):R (Vl×Sg):=match kX σ i with
 | some (pa,ds)=>match (match k with|none=>ixN ds.length (-1)|some k=>ixN ds.length k) with
  | some j=>match ds[j]? with|some d=>.ok (Vl.sub ⟨.non,false,pa,[]⟩ d,σ.set i (.own pa (ds.eraseIdx j)))|none=>.bad
  | none=>.bad
 | none=>.bad
noncomputable def yU(e:Sg->E->R Vl):Sg->List Vl->List Arg->R (List Vl×Sg)
 | σ,acc,[]=>.ok (acc,σ)|σ,acc,.e a::as=>do let x<-e σ a;yU e σ (acc++[x]) as
 | σ,acc,.pop j::as=>do
  let (x,σ')<-aDi σ j none
  if (cN acc).contains j then .bad else yU e σ' (acc++[x]) as
noncomputable def aKF(e:Option (R Vl)):R (Option Int):=match e with
 | none=>.ok none|some x=>do
  let v<-x
  match v.d with
  | .int k=>.iff (aK k) (.ok (some k))|_=>.bad
def aDj(c:Str)(vs:List Vl)(σ:Sg):O:=match (vs.map (·.d):List D) with|[.int n]=>.exc (.err c [.int n]) σ|_=>.bad
noncomputable def aDk(P:Pg)(c1 c2:Str)(i j z:Nat)(x:D)(σ:Sg):O:=match x with
 | .err c [.int n]=>if c=c1 then .next (((σ.set i (.sh true x)).set z (.sh false (.int n))).set j .x) else .bad|.err _ []=>match isX [.own c1] P x,isX [.own c2] P x with|some false,some true=>.next ((σ.set i (.sh true x)).set j .x)|_,_=>.bad
 | _=>.bad
mutual
noncomputable def ex(σ:Sg):S->O
 | .set t e=>O.from σ (ev P cl σ e) λv=>O.from σ (bT (freeze σ v.al) v t) .next|.mov i j=>match σ[j]? with|some (.own pa ds)=>if i=j then .bad else .next ((σ.set j .x).set i (.own pa ds))|some (.sh pa d)=>.next (σ.set i (.sh (pa&&!noL d) d))|_=>.bad
 | .setIx i k e=>O.from σ (ev P cl σ e) λv=>O.from σ (ev P cl σ k).calm λkv=>match kv.d with
  | .int k=>put σ i v λds=>match ixN ds.length k with|some j=>some (ds.set j v.d)|none=>none
  | _=>.bad
 | .app i e=>O.from σ (ev P cl σ e).calm λv=>aHj σ i v|.ext i e=>O.from σ (ev P cl σ e).calm λv=>match rH v with|some (v',ds')=>put σ i v' λds=>some (ds++ds')|none=>.bad
 | .pop t i k=>O.from σ (aKF (k.map λe=>(ev P cl σ e).calm)) λk=>O.from σ (aDi σ i k) λ(v,σ')=>match t with|none=>.next σ'|some t=>O.from σ' (bT σ' v t) .next
 | .clr i=>put σ i (.cl .non) λ_=>some []|.ins i k e=>O.from σ (ev P cl σ k).calm λkv=>O.from σ (ev P cl σ e).calm λv=>match kv.d with|.int k=>if 0<=k/\k<1000000 then put σ i v λds=>some (ds.take k.toNat++v.d::ds.drop k.toNat) else .bad|_=>.bad
 | .rev i=>put σ i (.cl .non) λds=>some ds.reverse|.appCall i f as=>O.from σ (yU (λσ a=>ev P cl σ a) σ [] as).calm λ(vs,σ')=>O.from σ' (cl f (vs.map (·.d))).calm λr=>aHj σ' i (iH vs r)|.ret e=>O.from σ (ev P cl σ e) .ret|.retv i=>match σ[i]? with|some (.own pa ds)=>.ret ⟨.lst ds,true,pa,[]⟩|_=>O.from σ (bB σ i) .ret
 | .retN=>.ret (.cl .non)|.iff c a b=>O.from σ (tst P cl σ c) λk=>if k then exs σ a else exs σ b|.for t it b=>O.from σ (walk P cl σ it) λxs=>dP (λσ x=>O.from σ (bT σ x t) λσ'=>exs σ' b) xs.1 (freeze σ xs.2)|.whl c b=>aDh (λσ=>tst P cl σ c) (λσ=>exs σ b) aKE σ|.brk=>.brk σ|.cnt=>.cnt σ|.pass=>.next σ|.off=>.bad|.ex e=>O.from σ (ev P cl σ e) λ_=>.next σ|.dnew i=>.next (σ.set i (.dct []))|.dput i e=>O.from σ (ev P cl σ e).calm λv=>match σ[i]?,aDe v.d with|some (.dct ks),some k=>if ks.length<lim then .next (σ.set i (.dct (aKB ks (k,.bl true)))) else .bad|_,_=>.bad
 | .dfrom i e=>O.from σ (ev P cl σ e).calm λv=>match v.fr,v.d with
  | true,.lst ds=>(match aDf ds with
   | some ks=>.next (σ.set i (.dct (ks.foldl aKB [])))|none=>.bad)
  | _,_=>.bad
 | .tld i f es=>O.from σ (evs P cl σ es).calm λvs=>O.from σ (cl f (vs.map (·.d))).calm λr=>match aDg σ r with|some s=>.next (σ.set i s)|none=>.bad
 | .appP i e=>O.from σ (ev P cl σ e).calm λv=>match σ[i]?,noL v.d with|some (.par ds es),true=>if ds.length<lim then .next (σ.set i (.par (ds++[v.d]) es)) else .bad|_,_=>.bad
 | .rse c keep es=>O.from σ (evs P cl σ es) λvs=>if keep then aDj c vs σ else .exc (.err c []) σ|.tryF b c1 c2 i j z=>match exs σ b with|.exc x σ'=>aDk P c1 c2 i j z x σ'|o=>o
noncomputable def exs(σ:Sg):Ss->O
 | .z=>.next σ|.k s ss=>(ex σ s).on λσ'=>exs σ' ss
end
def tN(f:Nat)(ds:List D):R Rt:=match P.fns[f]? with
 | none=>.bad|some F=>if ds.length=F.np then
  match exs P cl ((ds.map λd=>Sl.sh true d)++List.replicate (F.ns-F.np) Sl.x) F.body with
  | .ret v=>.ok (v.d,v.fr,v.pa)|.next _=>.ok (.non,false,false)|.exc x _=>.exc x|_=>.bad
  else .bad
end
def call(P:Pg):Nat->Caller
 | 0=>λ_ _=>.bad|n+1=>tN P (call P n)
end Hp
end
noncomputable section
namespace L2
open PySem PySem.Spec PyProof.Rows
section
variable {prog:Program} {w:World} {K:Type} [DecidableEq K] (knd:HeapKind prog w K)
variable {knd}
variable {A:Around} {E:Value->Shared->Prop} {s:Shared}
end
section
variable {prog:Program} {w:World} {A:Around} {E:Value->Shared->Prop} {s:Shared}
end
abbrev NK:=List (List Int)
abbrev NE:=NK×Addr×V
abbrev pj(x:NE):NK×V:=(x.1,x.2.2)
def aNB(x:NE)(e:NK×Addr×Value):Prop:=e.1=x.1/\e.2.1=x.2.1/\bI x.2.2 e.2.2
def nkH(k:NK):Int:=reduceHash (Builtin.Tuple.tupleHashOf (k.map λk=>reduceHash (Builtin.Tuple.tupleHashOf (k.map hashInt))))
def aNC(x:NK×Addr×Value):DictEntry:=⟨nkH x.1,.ref x.2.1,x.2.2⟩
def aKG(a:Addr)(xs:List NE)(h:Heap):Prop:=
 (a==sysModules)=false/\xs.length<=sizeLine/\∃o es ep vs,h.get? a=some o/\o.ExactDict/\o.data=.dict es ep/\es.toList=vs.map aNC/\Paired aNB xs vs/\(xs.map (·.1)).Nodup
abbrev iD(a:Addr)(xs:List NE):HO:=.ext (aKG a xs)
def oO(K:PySem.W.Frag)(H:Hp)(k:NK)(b:Addr):Prop:=∃bs:List Addr,SqT K H b (bs.map V.ref)/\Paired (λis c=>SqT K H c (is.map V.int)) k bs
section
variable {X:Cx} {pins:List (Addr×Obj)} {σ:St} {H:Hp} {s:Shared}
end
end L2
end
noncomputable section
namespace Hp
open PySem L2
abbrev Fg:=PySem.W.Frag
def _root_.L2.excO(a C:Addr)(dd:Option Addr):HO:=.ext λh=>∃o,h.get? a=some o/\o.cls=.ref C/\PySem.W.notCls o=true/\o.dict=dd
theorem aIk(a C:Addr)(dd:Option Addr)(xs:List NE):excO a C dd≠iD a xs:=λe=>by
 have e:=HO.ext.inj e
 let o:Obj:={ cls:=.ref C,dict:=dd,data:=.plain }
 let h:Heap:={ (default:Heap) with objs:=Array.replicate (a+1) o }
 have g:h.get? a=some o:=by
  have e:(Array.replicate (a+1) o)[a]? = some o:=by rw[Array.getElem?_replicate,if_pos (Ce _)]
  show(match (Array.replicate (a+1) o)[a]? with|some ⟨_,_,.freed,_⟩=>none|r=>r)=some o;rw[e]
 have h1:∃o,h.get? a=some o/\o.cls=.ref C/\PySem.W.notCls o=true/\o.dict=dd:=⟨o,g,rfl,rfl,rfl⟩
 have h2:aKG a xs h:=by rw[<-e];exact h1
 obtain⟨_,_,o2,es,ep,vs,g2,x,_⟩:=h2;rw[g] at g2;cases g2;cases x.1
def kD:Key->D
 | .inl i=>.int i|.inr x=>.str x
def Hd(K:Fg)(ex:Addr->Prop):Prop:=∃c,K.lookup c≠none/\ex c
mutual
def Rep(K:Fg)(H:Hp)(ex:Addr->Prop):D->V->Prop
 | .non,v=>v=.non|.bl b,v=>v=.bl b|.int i,v=>v=.int i|.str x,v=>v=.str x|.tup ds,v=>∃a xs,v=.ref a/\SqT K H a xs/\Reps K H ex ds xs|.lst ds,v=>∃a xs,v=.ref a/\SqL K H a xs/\(¬ ex a/\(Hd K ex->H a=some (.lst xs)))/\Reps K H ex ds xs|.dic kvs,v=>∃a ks,v=.ref a/\H a=some (.dK ks)/\RepKV K H ex kvs ks|.err c _,v=>∃a C1,v=.ref a/\∃dd,H a=some (excO a C1 dd)/\PySem.W.nsIn K mainGlobals c=some (some (.ref C1))/\∀dx,dd=some dx->∃fs,H dx=some (.xd fs)
def Reps(K:Fg)(H:Hp)(ex:Addr->Prop):List D->List V->Prop
 | [],xs=>xs=[]
 | d::ds,xs=>∃x r,xs=x::r/\Rep K H ex d x/\Reps K H ex ds r
def RepKV(K:Fg)(H:Hp)(ex:Addr->Prop):List (D×D)->List (Key×V)->Prop
 | [],ks=>ks=[]
 | (k,d)::r,ks=>∃k' x r',ks=(k',x)::r'/\kD k'=k/\Rep K H ex d x/\RepKV K H ex r r'
end
section
variable {K:Fg} {H H':Hp} {ex ex':Addr->Prop}
theorem aP.seqT(e:aP H H')(h:SqT K H a xs):SqT K H' a xs:=by rcases h with(h|⟨o,h⟩)|h;exact .inl (.inl (e _ _ h));exact .inl (.inr ⟨o,e _ _ h⟩);exact .inr h
mutual
theorem Rep.imp(hT:∀a xs,SqT K H a xs->SqT K H' a xs)(hL:∀a xs,¬ ex a->SqL K H a xs->¬ ex' a/\SqL K H' a xs)(hX:Hd K ex'->Hd K ex)(hY:∀a xs,¬ ex a->H a=some (.lst xs)->H' a=some (.lst xs))(hD:∀a o,(∀xs,o≠.lst xs)->(∀xs,o≠iD a xs)->H a=some o->H' a=some o) :
 ∀(d:D) (v:V),Rep K H ex d v->Rep K H' ex' d v
 | .non,_,h=>h|.bl _,_,h=>h|.int _,_,h=>h|.str _,_,h=>h|.tup ds,_,h=>by obtain⟨a,xs,e,q,r⟩:=h;exact⟨a,xs,e,hT a xs q,Reps.imp hT hL hX hY hD ds xs r⟩|.lst ds,_,h=>by obtain⟨a,xs,e,q,n,r⟩:=h;obtain⟨n',q'⟩:=hL a xs n.1 q;exact⟨a,xs,e,q',⟨n',λz=>hY a xs n.1 (n.2 (hX z))⟩,Reps.imp hT hL hX hY hD ds xs r⟩|.dic kvs,_,h=>by obtain⟨a,ks,e,q,r⟩:=h;exact⟨a,ks,e,hD a _ (λ_ z=>nomatch z) (λ_ z=>nomatch z) q,RepKV.imp hT hL hX hY hD kvs ks r⟩|.err _ _,_,h=>by obtain⟨a,C1,e,dd,q,r,f⟩:=h;exact⟨a,C1,e,dd,hD a _ (λ_ z=>nomatch z) (λxs=>aIk a C1 dd xs) q,r,λdx z=>(f dx z).imp λfs w=>hD dx _ (λ_ z=>nomatch z) (λ_ z=>nomatch z) w⟩
theorem Reps.imp(hT:∀a xs,SqT K H a xs->SqT K H' a xs)(hL:∀a xs,¬ ex a->SqL K H a xs->¬ ex' a/\SqL K H' a xs)(hX:Hd K ex'->Hd K ex)(hY:∀a xs,¬ ex a->H a=some (.lst xs)->H' a=some (.lst xs))(hD:∀a o,(∀xs,o≠.lst xs)->(∀xs,o≠iD a xs)->H a=some o->H' a=some o) :
 ∀(ds:List D) (xs:List V),Reps K H ex ds xs->Reps K H' ex' ds xs
 | [],_,h=>h|d::ds,_,h=>by obtain⟨x,r,e,h1,h2⟩:=h;exact⟨x,r,e,Rep.imp hT hL hX hY hD d x h1,Reps.imp hT hL hX hY hD ds r h2⟩
theorem RepKV.imp(hT:∀a xs,SqT K H a xs->SqT K H' a xs)(hL:∀a xs,¬ ex a->SqL K H a xs->¬ ex' a/\SqL K H' a xs)(hX:Hd K ex'->Hd K ex)(hY:∀a xs,¬ ex a->H a=some (.lst xs)->H' a=some (.lst xs))(hD:∀a o,(∀xs,o≠.lst xs)->(∀xs,o≠iD a xs)->H a=some o->H' a=some o) :
 ∀(ds:List (D×D)) (xs:List (Key×V)),RepKV K H ex ds xs->RepKV K H' ex' ds xs
 | [],_,h=>h|(k,d)::ds,_,h=>by obtain⟨k',x,r,e,ek,h1,h2⟩:=h;exact⟨k',x,r,e,ek,Rep.imp hT hL hX hY hD d x h1,RepKV.imp hT hL hX hY hD ds r h2⟩
end
theorem Rep.weak(h:Rep K H ex d v)(e:∀a,ex' a->ex a):Rep K H ex' d v:=Rep.imp (λ_ _ q=>q) (λa _ n q=>⟨λz=>n (e a z),q⟩) (λ⟨c,h1,h2⟩=>⟨c,h1,e c h2⟩) (λ_ _ _ q=>q) (λ_ _ _ _ q=>q) d v h
theorem Reps.weak(h:Reps K H ex d v)(e:∀a,ex' a->ex a):Reps K H ex' d v:=Reps.imp (λ_ _ q=>q) (λa _ n q=>⟨λz=>n (e a z),q⟩) (λ⟨c,h1,h2⟩=>⟨c,h1,e c h2⟩) (λ_ _ _ q=>q) (λ_ _ _ _ q=>q) d v h
theorem Rep.grow(h:Rep K H ex d v)(s:aP H H'):Rep K H' ex d v:=Rep.imp (λ_ _ q=>aP.seqT s q) (λ_ _ n q=>⟨n,s.seq q⟩) id (λ_ _ _ q=>s _ _ q) (λ_ _ _ _ q=>s _ _ q) d v h
theorem Reps.grow(h:Reps K H ex d v)(s:aP H H'):Reps K H' ex d v:=Reps.imp (λ_ _ q=>aP.seqT s q) (λ_ _ n q=>⟨n,s.seq q⟩) id (λ_ _ _ q=>s _ _ q) (λ_ _ _ _ q=>s _ _ q) d v h
theorem Rep.keep(h:Rep K H ex d v)(s:∀a o,H a=some o->(∀xs,o=.lst xs->¬ ex a)->(∀xs,o≠iD a xs)->H' a=some o):Rep K H' ex d v:=by refine Rep.imp (λa xs q=>?_) (λa xs n q=>⟨n,?_⟩) id (λa xs n q=>s _ _ q (λ_ _=>n) (λ_ z=>by cases z)) (λa o nl nd q=>s a _ q (λxs e=>absurd e (nl xs)) nd) d v h;rcases q with(q|⟨o,q⟩)|q;exact .inl (.inl (s _ _ q (λxs e=>by cases e) (λ_ z=>by cases z)));exact .inl (.inr ⟨o,s _ _ q (λxs e=>by cases e) (λ_ z=>by cases z)⟩);exact .inr q;rcases q with(q|⟨o,q⟩)|q;exact .inl (.inl (s _ _ q (λ_ _=>n) (λ_ z=>by cases z)));exact .inl (.inr ⟨o,s _ _ q (λxs e=>by cases e) (λ_ z=>by cases z)⟩);exact .inr q
theorem Reps.keep(h:Reps K H ex d v)(s:∀a o,H a=some o->(∀xs,o=.lst xs->¬ ex a)->(∀xs,o≠iD a xs)->H' a=some o):Reps K H' ex d v:=by refine Reps.imp (λa xs q=>?_) (λa xs n q=>⟨n,?_⟩) id (λa xs n q=>s _ _ q (λ_ _=>n) (λ_ z=>by cases z)) (λa o nl nd q=>s a _ q (λxs e=>absurd e (nl xs)) nd) d v h;rcases q with(q|⟨o,q⟩)|q;exact .inl (.inl (s _ _ q (λxs e=>by cases e) (λ_ z=>by cases z)));exact .inl (.inr ⟨o,s _ _ q (λxs e=>by cases e) (λ_ z=>by cases z)⟩);exact .inr q;rcases q with(q|⟨o,q⟩)|q;exact .inl (.inl (s _ _ q (λ_ _=>n) (λ_ z=>by cases z)));exact .inl (.inr ⟨o,s _ _ q (λxs e=>by cases e) (λ_ z=>by cases z)⟩);exact .inr q
mutual
theorem Rep.free:∀(d:D) (v:V),noL d=true->Rep K H ex d v->Rep K H ex' d v
 | .non,_,_,h=>h|.bl _,_,_,h=>h|.int _,_,_,h=>h|.str _,_,_,h=>h|.tup ds,_,n,h=>by obtain⟨a,xs,e,q,r⟩:=h;exact⟨a,xs,e,q,Reps.free ds xs (by simpa[noL] using n) r⟩|.lst ds,_,n,_=>by simp[noL] at n|.dic kvs,_,n,_=>by simp[noL] at n|.err _ _,_,n,_=>by simp[noL] at n
theorem Reps.free:∀(ds:List D) (xs:List V),noLs ds=true->Reps K H ex ds xs->Reps K H ex' ds xs
 | [],_,_,h=>h|d::ds,_,n,h=>by obtain⟨x,r,e,h1,h2⟩:=h;simp only[noLs,bA] at n;exact⟨x,r,e,Rep.free d x n.1 h1,Reps.free ds r n.2 h2⟩
end
theorem Reps.length:∀{ds:List D} {xs:List V},Reps K H ex ds xs->ds.length=xs.length
 | [],_,h=>by rw[show _=[] from h];rfl|d::ds,_,h=>by obtain⟨x,r,e,_,h2⟩:=h;subst e;rw[lC,lC,Reps.length h2]
theorem Reps.get:∀{ds:List D} {xs:List V} {j:Nat} {d:D},Reps K H ex ds xs->ds[j]? = some d->∃x,xs[j]? = some x/\Rep K H ex d x
 | [],_,_,_,_,e=>by simp at e|d::ds,_,0,_,h,e=>by obtain⟨x,r,e',h1,_⟩:=h;subst e';simp at e;subst e;exact⟨x,rfl,h1⟩|d::ds,_,j+1,d',h,e=>by obtain⟨x,r,e',_,h2⟩:=h;subst e';obtain⟨y,hy,q⟩:=Reps.get (j:=j) (d:=d') h2 (by simpa using e);exact⟨y,by simpa using hy,q⟩
theorem Reps.get'{ds:List D}{xs:List V}{j:Nat}{x:V}(h:Reps K H ex ds xs)(e:xs[j]? = some x):∃d,ds[j]? = some d/\Rep K H ex d x:=by
 have hl:=h.length;have hj:j<xs.length:=(Ay.mp e).1;obtain⟨d,hd⟩:∃d,ds[j]? = some d:=⟨ds[j],Ad (by omega)⟩
 obtain⟨y,hy,q⟩:=h.get hd;rw[e] at hy;cases hy;exact⟨d,hd,q⟩
theorem Reps.nil:Reps K H ex [] []:=rfl
theorem Reps.cons(h:Rep K H ex d x)(t:Reps K H ex ds xs):Reps K H ex (d::ds) (x::xs):=⟨x,xs,rfl,h,t⟩
theorem Reps.append:∀{ds es:List D} {xs ys:List V},Reps K H ex ds xs->Reps K H ex es ys->Reps K H ex (ds++es) (xs++ys)
 | [],_,_,_,h,t=>by rw[show _=[] from h];exact t|d::ds,_,_,_,h,t=>by obtain⟨x,r,e,h1,h2⟩:=h;subst e;exact⟨x,_,rfl,h1,Reps.append h2 t⟩
theorem Reps.take:∀{ds:List D} {xs:List V} (n:Nat),Reps K H ex ds xs->Reps K H ex (ds.take n) (xs.take n)
 | _,_,0,_=>by simp[Reps]|[],_,n+1,h=>by rw[show _=[] from h];simp[Reps]|d::ds,_,n+1,h=>by obtain⟨x,r,e,h1,h2⟩:=h;subst e;exact⟨x,_,rfl,h1,Reps.take n h2⟩
theorem Reps.drop:∀{ds:List D} {xs:List V} (n:Nat),Reps K H ex ds xs->Reps K H ex (ds.drop n) (xs.drop n)
 | _,_,0,h=>h|[],_,n+1,h=>by rw[show _=[] from h];simp[Reps]|d::ds,_,n+1,h=>by obtain⟨x,r,e,h1,h2⟩:=h;subst e;exact Reps.drop n h2
theorem Reps.set:∀{ds:List D} {xs:List V} {d:D} {x:V} (j:Nat),Reps K H ex ds xs->Rep K H ex d x->Reps K H ex (ds.set j d) (xs.set j x)
 | [],_,_,_,_,h,_=>by rw[show _=[] from h];simp[Reps]|d::ds,_,_,_,0,h,q=>by obtain⟨x,r,e,h1,h2⟩:=h;subst e;exact⟨_,_,rfl,q,h2⟩|d::ds,_,_,_,j+1,h,q=>by obtain⟨x,r,e,h1,h2⟩:=h;subst e;exact⟨x,_,rfl,h1,Reps.set j h2 q⟩
theorem Reps.flat:∀{ds:List D} {xs:List V},Reps K H ex ds xs->∀k:Nat,Reps K H ex (List.replicate k ds).flatten (List.replicate k xs).flatten
 | _,_,_,0=>by simp[Reps]|ds,xs,h,k+1=>by rw[Bk,Bk,Ch,Ch];exact h.append (Reps.flat h k)
end
end Hp
end
noncomputable section
namespace Hp
open PySem
structure Ct where
 N:List Str
 sc:List (Str×NameKind)
 fns:List Str
 cns:List (Str×D)
 cls:List Str
 fn:Bool
 tbs:List Str
 rsd:List Str:=[]
 pls:List Str:=[]
def aDl(Γ:Ct)(x:Str):Bool:=match Γ.sc.lookup x with|some .local=>true|some .cell=>true|some .free=>true|_=>false
def vS(Γ:Ct)(x:Str):Bool:=match Γ.sc.lookup x with|some .local=>true|some .cell=>Γ.fn|_=>false
def oP(sc names:List (Str×NameKind)):List (Str×NameKind):=names.map λ(n,k)=>if (k==.free&&sc.lookup n==some .cell) then (n,.cell) else (n,k)
def oQ:Expr->Bool
 | .Tuple _ _ _=>true|_=>false
def tIx:T->List Nat
 | .n i=>[i]
 | .t is=>is
def cY(Γ:Ct)(x:Str):Bool:=match Γ.sc.lookup x with|some .globalImplicit=>true|_=>false
noncomputable def bU(x:Str):Bool:=!(x==("__debug__" : Str))&&!(x==("__classdict__" : Str))
def cP(Γ:Ct)(i:Nat)(x:Str):Bool:=(Γ.N[i]?==some x)&&aDl Γ x&&bU x
def bJ(Γ:Ct)(i:Nat)(x:Str):Bool:=(Γ.N[i]?==some x)&&vS Γ x&&bU x
def eqC:D->Const->Bool
 | .non,.none=>true|.bl a,.bool b=>a==b|.int a,.int b=>a==b|.str a,.str b=>a==b|_,_=>false
def eqK:D->D->Bool
 | .non,.non=>true|.bl a,.bl b=>a==b|.int a,.int b=>a==b|.str a,.str b=>a==b|_,_=>false
noncomputable def kF:Bi->Str
 | .len => "len" | .list => "list" | .tuple => "tuple" | .min => "min" | .max => "max" | .abs => "abs" | .int => "int" | .str => "str" | .sum => "sum" | .all => "all" | .any => "any" | .sorted => "sorted" | .bool => "bool" | .repr => "repr"
def aDm:Bi->Bool
 | .len=>true|.list=>true|.tuple=>true|.int=>true|.all=>true|.repr=>true
 | _=>false
def aND:Cl->Bool
 | .own _=>false|.tValueError=>false|_=>true
noncomputable def aDn:Mt->Str
 | .join => "join" | .upper => "upper" | .lower => "lower" | .get => "get" | .startswith => "startswith" | .endswith => "endswith" | .index => "index" | .count => "count" | .copy => "copy"
 | .isdigit => "isdigit" | .find => "find" | .replace => "replace" | .split => "split" | .strip => "strip"
noncomputable def yV(Γ:Ct):Cl->Option Str
 | .tInt=>some "int" | .tBool=>some "bool" | .tStr=>some "str" | .tList=>some "list" | .tTuple=>some "tuple" | .tDict=>some "dict" | .tValueError=>some "ValueError"
 | .own c=>some c
def aHk(Γ:Ct)(c:Cl):Expr->Bool
 | .Name x _=>(yV Γ c==some x)&&cY Γ x&&bU x|_=>false
def aAy(Γ:Ct)(c:Cl)(y:Expr):Bool:=match c,y with|.own x,.Name z _=>(z==x)&&cY Γ x&&bU x&&Γ.cls.contains x|_,_=>false
def aAz(Γ:Ct):List Cl->List Expr->Bool
 | [],[]=>true|c::cs,y::ys=>aAy Γ c y&&aAz Γ cs ys|_,_=>false
noncomputable def aKH(Γ:Ct)(cs:List Cl)(y:Expr):Bool:=match y with
 | .Tuple es _ _=>aAz Γ cs es&&decide (es.length<=1000)|.Name x _=>(match cs with
  | [.tValueError]=>(x==("ValueError" : Str))&&cY Γ x|[c]=>aAy Γ c y|_=>false)
 | _=>false
def qV(Γ:Ct):T->Expr->Bool
 | .n i,.Name x _=>bJ Γ i x|.t is,.Tuple es _ _=>is.length==es.length&&(is.zip es).all λp=>match p.2 with|.Name x _=>bJ Γ p.1 x|_=>false
 | _,_=>false
def gF:Expr->List Str
 | .Name x _=>[x]
 | .Tuple es _ _=>es.filterMap fun|.Name x _=>some x|_=>none
 | _=>[]
def yW:Mt->Nat
 | .upper=>0|_=>1
def aKI:Mt->Bool
 | .join=>true|.upper=>true|_=>false
def aIl:Expr->Bool
 | .Name _ _=>true|.Constant _ _ _=>true|_=>false
def yX:E->Bool
 | .c (.int i)=>i==0|_=>false
def asC(e:Expr):Option { c:Const // ∃k p,e=.Constant c k p }:=match e with|.Constant c k p=>some ⟨c,k,p,rfl⟩|_=>none
def asN(e:Expr):Option { x:Str // ∃p,e=.Name x p }:=match e with|.Name x p=>some ⟨x,p,rfl⟩|_=>none
def aKJ(e:Expr):Option { r:Expr×Operator×Expr // ∃p,e=.BinOp r.1 r.2.1 r.2.2 p }:=match e with|.BinOp l o r p=>some ⟨(l,o,r),p,rfl⟩|_=>none
def aKK(e:Expr):Option { r:UnaryOp×Expr // ∃p,e=.UnaryOp r.1 r.2 p }:=match e with|.UnaryOp o x p=>some ⟨(o,x),p,rfl⟩|_=>none
def aKL(e:Expr):Option { r:BoolOp×List Expr×Pos // e=.BoolOp r.1 r.2.1 r.2.2 }:=match e with|.BoolOp o xs p=>some ⟨(o,xs,p),rfl⟩|_=>none
def aNE(e:Expr):Option { r:Expr×Expr×Expr // ∃p,e=.IfExp r.1 r.2.1 r.2.2 p }:=match e with|.IfExp t a b p=>some ⟨(t,a,b),p,rfl⟩|_=>none
def aHl(e:Expr):Option { r:Expr×List CmpOp×List Expr // ∃p,e=.Compare r.1 r.2.1 r.2.2 p }:=match e with|.Compare l os rs p=>some ⟨(l,os,rs),p,rfl⟩|_=>none
def rJ(e:Expr):Option { r:Expr×Expr // ∃p,e=.Subscript r.1 r.2 p }:=match e with|.Subscript x i p=>some ⟨(x,i),p,rfl⟩|_=>none
def aNF(e:Expr):Option { r:Option Expr×Option Expr // ∃p,e=.Slice r.1 r.2 none p }:=match e with|.Slice l h none p=>some ⟨(l,h),p,rfl⟩|_=>none
def aKM(e:Expr):Option { r:List Expr // ∃k p,e=.Tuple r k p }:=match e with|.Tuple xs k p=>some ⟨xs,k,p,rfl⟩|_=>none
def aKN(e:Expr):Option { r:List Expr // ∃p,e=.List r p }:=match e with|.List xs p=>some ⟨xs,p,rfl⟩|_=>none
def nK(e:Expr):Option { r:Str×List Expr // ∃p1 p2,e=.Call (.Name r.1 p1) r.2 [] p2 }:=match e with|.Call (.Name x p1) xs [] p2=>some ⟨(x,xs),p1,p2,rfl⟩|_=>none
def aKO(e:Expr):Option { r:Expr×Str×List Expr×Bool // ∃ap cp,e=.Call (.Attribute r.1 r.2.1 ap) r.2.2.1 [] cp/\(ap.endLine==cp.line)=r.2.2.2 }:=match e with|.Call (.Attribute x a ap) xs [] cp=>some ⟨(x,a,xs,ap.endLine==cp.line),ap,cp,rfl,rfl⟩|_=>none
def aNG(e:Expr):Option { r:Expr×List Comprehension×Scope // ∃p,e=.ListComp r.1 r.2.1 r.2.2 p }:=match e with|.ListComp e gs s p=>some ⟨(e,gs,s),p,rfl⟩|_=>none
def oB{α:Type}(o:Option α)(f:α->Bool):Bool:=match o with|some a=>f a|none=>false
def oS{α:Type}{q:α->Prop}(o:Option { a:α // q a })(f:α->Bool):Bool:=match o with|some a=>f a.1|none=>false
mutual
def iE:E->Bool
 | .c _=>true|.v _=>true|.op _ a b=>iE a&&iE b|.idx a b=>iE a&&iE b|.bi b es=>b==.len&&calmEs es|_=>false
def calmEs:Es->Bool
 | .z=>true|.k a r=>iE a&&calmEs r
end
def aHm:Es->Bool
 | .z=>true|_=>false
mutual
noncomputable def aY(Γ:Ct):E->Expr->Bool
 | .c d,e=>oS (asC e) (eqC d)||oS (asN e) λx=>cY Γ x&&bU x&&oB (Γ.cns.lookup x) (eqK d)|.v i,e=>oS (asN e) (cP Γ i)|.op o a b,e=>oS (aKJ e) λp=>o==p.2.1&&aY Γ a p.1&&aY Γ b p.2.2|.neg a,e=>oS (aKK e) λp=>p.1==.USub&&aY Γ a p.2|.nt a,e=>oS (aKK e) λp=>p.1==.Not&&aY Γ a p.2|.an a b,e=>oS (aKL e) λp=>p.1==.And&&(match p.2.1 with
  | [x,y]=>aY Γ a x&&aY Γ b y|x::y::z::r=>aY Γ a x&&aY Γ b (.BoolOp .And (y::z::r) p.2.2)|_=>false)
 | .orr a b,e=>oS (aKL e) λp=>p.1==.Or&&(match p.2.1 with
  | [x,y]=>aY Γ a x&&aY Γ b y|x::y::z::r=>aY Γ a x&&aY Γ b (.BoolOp .Or (y::z::r) p.2.2)|_=>false)
 | .ife t a b,e=>oS (aNE e) λp=>aY Γ t p.1&&aY Γ a p.2.1&&aY Γ b p.2.2|.cmp o a b,e=>oS (aHl e) λp=>(match p.2.1,p.2.2 with
  | [o'],[r]=>o==o'&&aY Γ a p.1&&aY Γ b r|_,_=>false)
 | .cmp2 o1 o2 a b c,e=>oS (aHl e) λp=>(match p.2.1,p.2.2 with
  | [o1',o2'],[m,r]=>o1==o1'&&o2==o2'&&aY Γ a p.1&&aY Γ b m&&aY Γ c r|_,_=>false)
 | .dnin _ _,_=>false|.dget _ _,_=>false|.dlen _,_=>false|.idx a b,e=>oS (rJ e) λp=>aY Γ a p.1&&aY Γ b p.2|.sli a lo hi,e=>oS (rJ e) λp=>oS (aNF p.2) λq=>(aY Γ a p.1&&(aHm lo||calmEs hi))&&chkO Γ lo q.1&&chkO Γ hi q.2|.tup es,e=>oS (aKM e) λxs=>decide (xs.length<=1000)&&chkEs Γ es xs|.lst es,e=>oS (aKN e) λxs=>decide (xs.length<=1000)&&chkEs Γ es xs|.call f es,e=>oS (nK e) λp=>(Γ.fns[f]?==some p.1)&&cY Γ p.1&&bU p.1&&chkEs Γ es p.2|.callP f i es,e=>oS (nK e) λp=>(Γ.fns[f]?==some p.1)&&cY Γ p.1&&bU p.1&&(match p.2 with
  | y::ys=>oS (rJ y) (λu=>oS (asN u.1) (λx=>cP Γ i x)&&oS (asC u.2) (eqC (.int 1)))&&chkEs Γ es ys|[]=>false)
 | .pix i,e=>oS (rJ e) λu=>oS (asN u.1) (λx=>cP Γ i x)&&oS (asC u.2) (eqC (.int 0))|.bi b es,e=>oS (nK e) λp=>aDm b&&(kF b==p.1)&&cY Γ p.1&&bU p.1&&!p.2.isEmpty&&chkEs Γ es p.2|.mth m o es,e=>oS (aKO e) λp=>aKI m&&(aDn m==p.2.1)&&aIl p.1&&p.2.2.2&&decide (p.2.2.1.length=yW m)&&aY Γ o p.1&&chkEs Γ es p.2.2.1|.numset _,_=>false|.tget _ _,_=>false|.lzip _ _,_=>false|.isi a cs,e=>oS (nK e) λp=>(match cs,p.2 with
  | [c],[x,y]=>(p.1==("isinstance" : Str))&&cY Γ p.1&&aND c&&aY Γ a x&&aHk Γ c y|_,_=>false)
 | .isx a cs,e=>oS (nK e) λp=>(match p.2 with
  | [x,y]=>(p.1==("isinstance" : Str))&&cY Γ p.1&&aY Γ a x&&aKH Γ cs y|_=>false)
 | .comp k caps t it cond elt,e=>oS (aNG e) λp=>(match p.2.1 with
  | [⟨tg,iter,ifs,as⟩]=>
   as==0&&(gF tg).length==k&&(caps.all λi=>decide (i<Γ.N.length))&&decide caps.Nodup&&p.2.2.kind==.function&&decide (gF tg++caps.filterMap λi=>Γ.N[i]?).Nodup &&
   ((caps.filterMap λi=>Γ.N[i]?).all λx=>p.2.2.names.lookup x==some .free&&Γ.sc.lookup x==some .cell) &&
   (p.2.2.names.all λq=>q.2 != .cell&&(q.2 != .local||p.2.2.names.lookup q.1==some .local)&&(q.2 != .free||Γ.sc.lookup q.1==some .cell)) &&
   ((tIx t).all λi=>decide (i<k))&&decide (ifs.length<=1)&&(Γ.fn||iE elt) &&
   qV { Γ with N:=gF tg++caps.filterMap λi=>Γ.N[i]?,sc:=oP Γ.sc p.2.2.names,fn:=false } t tg&&chkI Γ (oQ tg) it iter &&
   chkEs { Γ with N:=gF tg++caps.filterMap λi=>Γ.N[i]?,sc:=oP Γ.sc p.2.2.names,fn:=false } cond ifs &&
   aY { Γ with N:=gF tg++caps.filterMap λi=>Γ.N[i]?,sc:=oP Γ.sc p.2.2.names,fn:=false } elt p.1
  | _=>false)
 | .dic _ _,_=>false
noncomputable def chkEs(Γ:Ct):Es->List Expr->Bool
 | .z,[]=>true|.k e es,x::xs=>aY Γ e x&&chkEs Γ es xs|_,_=>false
noncomputable def chkO(Γ:Ct):Es->Option Expr->Bool
 | .z,none=>true|.k e .z,some x=>aY Γ e x|_,_=>false
noncomputable def chkI(Γ:Ct)(tt:Bool):It->Expr->Bool
 | .rng a b,e=>oS (nK e) λp=>(p.1==("range" : Str))&&cY Γ p.1&&(match p.2 with
  | [x]=>yX a&&aY Γ b x|[x,y]=>aY Γ a x&&aY Γ b y|_=>false)
 | .zip a b,e=>oS (nK e) λp=>(match p.2 with
  | [x,y]=>tt&&(p.1==("zip" : Str))&&cY Γ p.1&&aY Γ a x&&aY Γ b y|_=>false)
 | .seq c,x=>aY Γ c x|.enum a,e=>oS (nK e) λp=>(match p.2 with
  | [x]=>tt&&(p.1==("enumerate" : Str))&&cY Γ p.1&&aY Γ a x|_=>false)
 | .rev _,_=>false
end
def mH:Expr->Bool
 | .ListComp _ _ _ _=>true|.SetComp _ _ _ _=>true|.DictComp _ _ _ _ _=>true|_=>false
def isC:E->Bool
 | .comp _ _ _ _ _ _=>true|_=>false
def yY:Expr->Bool
 | .Tuple _ _ _=>true|.List _ _=>true|_=>false
def aIm:Expr->Bool
 | .Name _ _=>true|_=>false
noncomputable def vT(Γ:Ct)(i:Nat)(m:Str):Expr->Option (List Expr)
 | .Call (.Attribute (.Name x _) a ap) xs [] cp=>if (a==m)&&cP Γ i x&&(ap.endLine==cp.line) then some xs else none|_=>none
def aFQ(s:Stmt):Option { r:Expr×Expr // ∃p,s=.Assign [r.1] r.2 p }:=match s with|.Assign [t] v p=>some ⟨(t,v),p,rfl⟩|_=>none
def sEx(s:Stmt):Option { r:Expr // ∃p,s=.Expr r p }:=match s with|.Expr v p=>some ⟨v,p,rfl⟩|_=>none
def aIn(s:Stmt):Option { r:Option Expr // ∃p,s=.Return r p }:=match s with|.Return v p=>some ⟨v,p,rfl⟩|_=>none
def sIf(s:Stmt):Option { r:Expr×List Stmt×List Stmt // ∃p,s=.If r.1 r.2.1 r.2.2 p }:=match s with|.If t x y p=>some ⟨(t,x,y),p,rfl⟩|_=>none
def aNH(s:Stmt):Option { r:Expr×Expr×List Stmt // ∃p,s=.For r.1 r.2.1 r.2.2 [] p }:=match s with|.For t i b [] p=>some ⟨(t,i,b),p,rfl⟩|_=>none
def aNI(s:Stmt):Option { r:Unit // ∃p,s=.Break p }:=match s with|.Break p=>some ⟨(),p,rfl⟩|_=>none
def aNJ(s:Stmt):Option { r:Unit // ∃p,s=.Continue p }:=match s with|.Continue p=>some ⟨(),p,rfl⟩|_=>none
def aKP(s:Stmt):Option { r:Unit // ∃p,s=.Pass p }:=match s with|.Pass p=>some ⟨(),p,rfl⟩|_=>none
noncomputable def aNK(s:Stmt):Option { r:Str×Expr // ∃np cp p,s=.Raise (some (.Call (.Name r.1 np) [r.2] [] cp)) none p }:=match s with|.Raise (some (.Call (.Name x np) [a] [] cp)) none p=>some ⟨(x,a),np,cp,p,rfl⟩|_=>none
structure aKQ where
 body:List Stmt
 x:Str
 x2:Str
 n:Str
 y:Str
 z:Str
noncomputable def aNL(s:Stmt):Option { r:aKQ // ∃np yp np2 ap zp np3 atp ap2 hp np4 yp2 np5 ap3 hp2 p,s=.Try r.body [.ExceptHandler (some (.Name r.x np)) (some r.n) [.Assign [.Name r.y yp] (.Name r.n np2) ap,.Assign [.Name r.z zp] (.Attribute (.Name r.n np3) "place" atp) ap2] hp,.ExceptHandler (some (.Name r.x2 np4)) (some r.n) [.Assign [.Name r.y yp2] (.Name r.n np5) ap3] hp2] [] [] p }:=match s with|.Try body [.ExceptHandler (some (.Name x np)) (some n) [.Assign [.Name y yp] (.Name n1 np2) ap,.Assign [.Name z zp] (.Attribute (.Name n2 np3) f atp) ap2] hp,.ExceptHandler (some (.Name x2 np4)) (some n3) [.Assign [.Name y1 yp2] (.Name n4 np5) ap3] hp2] [] [] p=>if h:n1=n/\n2=n/\n3=n/\n4=n/\y1=y/\f = "place" then some ⟨⟨body,x,x2,n,y,z⟩,np,yp,np2,ap,zp,np3,atp,ap2,hp,np4,yp2,np5,ap3,hp2,p,by obtain⟨rfl,rfl,rfl,rfl,rfl,rfl⟩:=h;rfl⟩ else none|_=>none
mutual
noncomputable def gG(Γ:Ct):S->Stmt->Bool
 | .set t e,s=>oS (aFQ s) λr=>qV Γ t r.1&&aY Γ e r.2&&(aIm r.1||!yY r.2)&&(mH r.2==isC e)|.mov i j,s=>oS (aFQ s) λr=>oS (asN r.1) λx=>oS (asN r.2) λy=>bJ Γ i x&&cP Γ j y|.dnew _,_=>false|.dput _ _,_=>false|.dfrom _ _,_=>false|.setIx i k e,s=>oS (aFQ s) λr=>oS (rJ r.1) λu=>oS (asN u.1) λx=>cP Γ i x&&aY Γ k u.2&&aY Γ e r.2|.tld i f es,s=>oS (aFQ s) λr=>oS (asN r.1) λx=>oS (nK r.2) λp=>bJ Γ i x&&(Γ.fns[f]?==some p.1)&&cY Γ p.1&&bU p.1&&!p.2.isEmpty&&chkEs Γ es p.2|.appP i e,s=>oS (sEx s) λc=>oS (aKO c) λr=>oS (rJ r.1) λu=>oS (asN u.1) λx=>cP Γ i x&&aY Γ (.c (.int 1)) u.2&&(r.2.1==("append" : Str))&&r.2.2.2&&(match r.2.2.1 with|[a]=>aY Γ e a|_=>false)|.app i e,s=>oS (sEx s) λc=>(match vT Γ i "append" c with|some [a]=>aY Γ e a|_=>false)
 | .appCall _ _ _,_=>false|.ext i e,s=>oS (sEx s) λc=>(match vT Γ i "extend" c with|some [a]=>aY Γ e a|_=>false)
 | .pop _ _ _,_=>false|.clr _,_=>false|.rev _,_=>false|.ret e,s=>oS (aIn s) λr=>oB r (aY Γ e)|.retv i,s=>oS (aIn s) λr=>oB r λv=>oS (asN v) (cP Γ i)|.retN,s=>oS (aIn s) λr=>r.isNone|.iff c a b,s=>oS (sIf s) λr=>aY Γ c r.1&&chkSs Γ a r.2.1&&chkSs Γ b r.2.2|.for t it b,s=>oS (aNH s) λr=>qV Γ t r.1&&chkI Γ (oQ r.1) it r.2.1&&chkSs Γ b r.2.2|.whl _ _,_=>false|.brk,s=>oS (aNI s) λ_=>true|.cnt,s=>oS (aNJ s) λ_=>true|.pass,s=>oS (aKP s) λ_=>true|.ex e,s=>oS (sEx s) λv=>aY Γ e v&&!mH v|.off,_=>true|.rse c k (.k e .z),s=>oS (aNK s) λr=>(r.1==c)&&cY Γ c&&bU c&&(if k then Γ.pls else Γ.rsd).contains c&&aY Γ e r.2|.rse _ _ _,_=>false|.ins _ _ _,_=>false|.tryF b c1 c2 i j z,s=>oS (aNL s) λr=>(r.x==c1)&&cY Γ c1&&bU c1&&Γ.pls.contains c1&&Γ.cls.contains c1&&(r.x2==c2)&&cY Γ c2&&bU c2&&Γ.cls.contains c2&&bJ Γ i r.y&&bJ Γ z r.z&&bJ Γ j r.n&&(Γ.sc.lookup r.n==some .local)&&(i != j)&&(z != j)&&Γ.fn&&chkSs Γ b r.body
noncomputable def chkSs(Γ:Ct):Ss->List Stmt->Bool
 | .z,[]=>true|.k s ss,x::xs=>gG Γ s x&&chkSs Γ ss xs|_,_=>false
end
end Hp
end
noncomputable section
namespace L2
open PySem PySem.Spec PyProof.Rows
def cdV(C d:Addr):Value:=.str ⟨#[C,d]⟩ 0
def kC:Value->Value
 | .str ⟨⟨[C,_]⟩⟩ _=>.ref C|v=>v
def kD:Value->Option Addr
 | .str ⟨⟨[_,d]⟩⟩ _=>some d|_=>none
def Rec(h:Heap)(e:Addr)(cls:Value)(T:Option Addr):Prop:=∃oe vs,h.get? e=some oe/\oe.cls=kC cls/\oe.dict=kD cls/\oe.data=.fields vs/\match T with|none=>vs[1]? = some .none|some T=>vs[1]? = some (.ref T)/\T≠e/\∃oT ts,h.get? T=some oT/\oT.data=.fields ts/\∃f:Option Addr,ts[3]? = some (f.elim .none λf=>rawInt f)
structure Lx (fr:List Addr) (e:Addr) (T:Option Addr) (h h':Heap):Prop where
 keep:∀b o,h.get? b=some o->b∉fr->b≠e->T≠some b->h'.get? b=some o
 slot:∀b o,h.get? b=some o->b∈fr->∃sl,h'.get? b=some { o with slots:=sl }
theorem iL(f:Array Value->Array Value)(o:Obj):(o.mapFields f).dict=o.dict:=by obtain⟨c,d,dt,sl⟩:=o;cases dt <;> rfl
section
variable {M:Model} {A:Around} {E:Value->Shared->Prop} {s:Shared}
theorem aAA{env:Env}{oe:Obj}{vs:Array Value}{Q:Unit->Shared->Prop}
 (hfr:A.frames=some (env::outer)) (hl:s.heap.FunFrames base (env::outer)) (hf:env.frame=some L)
 (he:s.heap.get? e=some oe) (hcls:oe.cls=kC cls) (hdi:oe.dict=kD cls) (hd:oe.data=.fields vs) (hsz:1<vs.size)
 (h:∀h' T',s.heap.objs.size<=T'->Lx (frs (env::outer)) e none s.heap h'->Rec h' e cls (some T')->Q () { s with heap:=h' }) :
 wpAny M A (do let a<-frameOf env;let pl<-entryPlaceOf L hadNext;let b<-EntryCells.newEntry head a .none (rawInt L) .none pl;setField (.ref e) 1 b) Q E s:=by
 have hene:e∉(env::outer).filterMap (·.frame):=λhm=>by obtain⟨_,o,ho,hnf⟩:=hl.mem hm;rw[he] at ho;injection ho with ho;subst ho;exact hnf vs hd
 refine Aa (wpAny_frameOf_fun hfr hl hf λh₁ hs₁=>?_);refine Aa (wpAny_entryPlaceOf λpl hpl=>?_);unfold EntryCells.newEntry newFields;refine Aa (B4 ?_ (hpl.sizeOk5 _ _ _ _ _));have he₁:h₁.get? e=some oe:=(hs₁.2.1 e hene).trans he;have he₂:=Ab (h:=h₁) { cls:=.type "traceback",dict:=none,data:=.fields ([head,.ref L,.none,rawInt L,.none]++(if pl.isEmpty then List.replicate 6 Value.none else pl)).toArray } he₁;refine C0 he₂ hd hsz ?_;have hTe:h₁.objs.size≠e:=B3 (Ag he₁);have hd₃:=Bh hd (·.setIfInBounds 1 (Value.ref h₁.objs.size));have he₃:=Br (Obj.mapFields (·.setIfInBounds 1 (Value.ref h₁.objs.size))) he₂ (B5 hd₃);have hT₃:=(Aq (h₁.push { cls:=.type "traceback",dict:=none,data:=.fields ([head,.ref L,.none,rawInt L,.none]++(if pl.isEmpty then List.replicate 6 Value.none else pl)).toArray })
  (Obj.mapFields (·.setIfInBounds 1 (Value.ref h₁.objs.size))) (Ne.symm hTe)).trans (Ao h₁ rfl)
 refine h _ h₁.objs.size (by rw[hs₁.1];exact Ai _) ?_ ?_;have keep:∀b o,b≠e->h₁.get? b=some o ->
  ((h₁.push { cls:=.type "traceback",dict:=none,data:=.fields ([head,.ref L,.none,rawInt L,.none]++(if pl.isEmpty then List.replicate 6 Value.none else pl)).toArray }).update e (Obj.mapFields (·.setIfInBounds 1 (Value.ref h₁.objs.size)))).get? b=some o:=λb o hbe hb=>by rw[Aq _ _ (Ne.symm hbe)];exact Ab _ hb
 refine⟨λb o hb hn hbe _=>keep b o hbe ((hs₁.2.1 b hn).trans hb),λb o hb hn=>?_⟩;obtain⟨sl,hs⟩:=hs₁.2.2 b o hb;refine⟨sl,keep b _ (λz=>?_) hs⟩;subst z;exact hene hn;exact⟨_,_,he₃,(Obj.cls_mapFields _ _).trans hcls,(iL _ _).trans hdi,hd₃,by simp[hsz],hTe,_,_,hT₃,rfl,some L,by simp⟩
theorem aAB{env:Env}{oe:Obj}{vs:Array Value}{Q:Unit->Shared->Prop}
 (hfr:A.frames=some (env::outer)) (hl:s.heap.FunFrames base (env::outer)) (hf:env.frame=some L)
 (he:s.heap.get? e=some oe) (hcls:oe.cls=kC cls) (hdi:oe.dict=kD cls) (hd:oe.data=.fields vs) (hsz:1<vs.size)
 (h:∀h' T',s.heap.objs.size<=T'->Lx (frs (env::outer)) e none s.heap h'->Rec h' e cls (some T')->Q () { s with heap:=h' }) :
 wpAny M A (do let a<-frameOf env;let pl<-entryPlaceOf L hadNext;let b<-EntryCells.newEntry head a .none (rawInt L) .none pl;setField (.ref e) 1 b) (λ_ s'=>wpAny M A (setFlight (.ref e) none) Q E s') E s:=by
 have hene:e∉(env::outer).filterMap (·.frame):=λhm=>by obtain⟨_,o,ho,hnf⟩:=hl.mem hm;rw[he] at ho;injection ho with ho;subst ho;exact hnf vs hd
 refine Aa (wpAny_frameOf_fun hfr hl hf λh₁ hs₁=>?_);refine Aa (wpAny_entryPlaceOf λpl hpl=>?_);unfold EntryCells.newEntry newFields;refine Aa (B4 ?_ (hpl.sizeOk5 _ _ _ _ _));have he₁:h₁.get? e=some oe:=(hs₁.2.1 e hene).trans he;have he₂:=Ab (h:=h₁) { cls:=.type "traceback",dict:=none,data:=.fields ([head,.ref L,.none,rawInt L,.none]++(if pl.isEmpty then List.replicate 6 Value.none else pl)).toArray } he₁;refine C0 he₂ hd hsz ?_;have hTe:h₁.objs.size≠e:=B3 (Ag he₁);have hd₃:=Bh hd (·.setIfInBounds 1 (Value.ref h₁.objs.size));have he₃:=Br (Obj.mapFields (·.setIfInBounds 1 (Value.ref h₁.objs.size))) he₂ (B5 hd₃);have hT₃:=(Aq (h₁.push { cls:=.type "traceback",dict:=none,data:=.fields ([head,.ref L,.none,rawInt L,.none]++(if pl.isEmpty then List.replicate 6 Value.none else pl)).toArray })
  (Obj.mapFields (·.setIfInBounds 1 (Value.ref h₁.objs.size))) (Ne.symm hTe)).trans (Ao h₁ rfl)
 unfold setFlight;refine Aa (A6 he₃ hd₃ (x:=.ref h₁.objs.size) (by simp[hsz]) ?_);rw[if_pos (show(Value.ref h₁.objs.size != Value.none)=true from by simp)];refine C0 hT₃ rfl (by simp only[Ae,lA,lC,lN] <;> omega) (h _ h₁.objs.size (by rw[hs₁.1];exact Ai _) ?_ ?_);have keep:∀b o,b≠e->h₁.get? b=some o ->
  (((h₁.push { cls:=.type "traceback",dict:=none,data:=.fields ([head,.ref L,.none,rawInt L,.none]++(if pl.isEmpty then List.replicate 6 Value.none else pl)).toArray }).update e (Obj.mapFields (·.setIfInBounds 1 (Value.ref h₁.objs.size)))).update h₁.objs.size
   (Obj.mapFields (·.setIfInBounds 3 ((none:Option Addr).elim Value.none λf=>rawInt f)))).get? b=some o:=λb o hbe hb=>by have hbT:h₁.objs.size≠b:=B3 (Ag hb);rw[Aq _ _ hbT,Aq _ _ (Ne.symm hbe)];exact Ab _ hb
 refine⟨λb o hb hn hbe _=>keep b o hbe ((hs₁.2.1 b hn).trans hb),λb o hb hn=>?_⟩;obtain⟨sl,hs⟩:=hs₁.2.2 b o hb;refine⟨sl,keep b _ (λz=>?_) hs⟩;subst z;exact hene hn
 . refine⟨_,_,(Aq _ _ hTe).trans he₃,(Obj.cls_mapFields _ _).trans hcls,(iL _ _).trans hdi,hd₃,by simp[hsz],hTe,_,_,Br _ hT₃ (B5 (Bh rfl _)),Bh rfl _,none,by first|(simp;done)|(rcases hpl with rfl|⟨_,_,_,_,_,_,_,rfl⟩ <;> simp)⟩
theorem aDo{env:Env}{Q:Unit->Shared->Prop}
 (hfr:A.frames=some (env::outer)) (hl:s.heap.FunFrames base (env::outer)) (hf:env.frame=some L) (hr:Rec s.heap e cls T)
 (h:∀h' T',(s.heap.objs.size<=T'\/T=some T')->Lx (frs (env::outer)) e T s.heap h'->Rec h' e cls (some T')->Q () { s with heap:=h' }):wpAny M A (noteFrame (.ref e) env) (λ_ s'=>wpAny M A (setFlight (.ref e) none) Q E s') E s:=by
 obtain⟨oe,vs,he,hcls,hdi,hd,hT⟩:=hr;unfold noteFrame;simp only[hf];cases T with
 | none=>have h1:vs[1]? = some .none:=hT;refine Aa (A6 he hd h1 ?_);rw[if_neg (by decide)];exact aAB hfr hl hf he hcls hdi hd (A2.mp h1).1 λh' T' l=>h h' T' (.inl l)|some T=>
  obtain⟨h1,hTe,oT,ts,hT,hdT,fl,h3⟩:vs[1]? = some (.ref T)/\T≠e/\∃oT ts,s.heap.get? T=some oT/\oT.data=.fields ts/\∃f:Option Addr,ts[3]? = some (f.elim .none λf=>rawInt f):=hT;refine Aa (A6 he hd h1 ?_);rw[if_pos (show(Value.ref T != Value.none)=true from by simp)];have noRecord0:∀b o,s.heap.get? b=some o->(∀vs,o.data≠.fields vs)->b≠T:=λb o hb hnf q=>by rw[q,hT] at hb;injection hb with hb;subst hb;exact hnf ts hdT
  refine Aa (A6 hT hdT h3 ?_);by_cases hfl:(fl.elim Value.none (λf=>rawInt f)==rawInt L)=true;rw[if_pos hfl];refine Al ?_;refine wpAny_setFlight_none he hd h1 hT hdT (A2.mp h3).1 (h _ T (.inr rfl) ⟨λb o q _ _ hb=>?_,λb o q hb=>⟨o.slots,?_⟩⟩ ?_);exact(Aq _ _ λz=>hb (by rw[z])).trans q;obtain⟨_,o',ho',hnf⟩:=hl.mem hb;rw[q] at ho';cases ho';exact(Aq _ _ (Ne.symm (noRecord0 b o q hnf))).trans q;refine⟨oe,vs,(Aq _ _ hTe).trans he,hcls,hdi,hd,h1,hTe,_,_,Br _ hT (B5 (Bh hdT _)),Bh hdT _,none,?_⟩;have:=(A2.mp h3).1;simp[this];rw[if_neg hfl];refine Aa (C0 hT hdT (A2.mp h3).1 ?_);have other:∀b,b≠T->(s.heap.update T (Obj.mapFields (·.setIfInBounds 3 Value.none))).get? b=s.heap.get? b:=λb hb=>Aq _ _ (Ne.symm hb);have noRecord:∀b o,s.heap.get? b=some o->(∀vs,o.data≠.fields vs)->b≠T:=λb o hb hnf q=>by rw[q,hT] at hb;injection hb with hb;subst hb;exact hnf ts hdT
  have hsz:(s.heap.update T (Obj.mapFields (·.setIfInBounds 3 Value.none))).objs.size=s.heap.objs.size:=Heap.size_after_update ..;refine aAB hfr (hl.of_keeps λb o hb hnf=>⟨o,(other b (noRecord b o hb hnf)).trans hb,rfl⟩) hf ((other e (Ne.symm hTe)).trans he) hcls hdi hd (A2.mp h1).1
   λh' T' l1 x1 x2=>h h' T' (.inl (by rw[<-hsz];exact l1)) ⟨λb o hb hn hbe hbT=>x1.keep b o ((other b λz=>hbT (by rw[z])).trans hb) hn hbe (λz=>nomatch z),λb o hb hn=>?_⟩ x2
  refine x1.slot b o ((other b ?_).trans hb) hn;obtain⟨_,o',ho',hnf⟩:=hl.mem hn;rw[hb] at ho';cases ho';exact noRecord b o hb hnf
theorem aFR{env:Env}{Q:Unit->Shared->Prop}
 (hfr:A.frames=some (env::outer)) (hl:s.heap.FunFrames base (env::outer)) (hf:env.frame=some L) (hr:Rec s.heap e cls T)
 (h:∀h' T',(s.heap.objs.size<=T'\/T=some T')->Lx (frs (env::outer)) e T s.heap h'->Rec h' e cls (some T')->Q () { s with heap:=h' }):wpAny M A (noteFrame (.ref e) env) Q E s:=by
 have hr0:=hr;obtain⟨oe,vs,he,hcls,hdi,hd,hT⟩:=hr;unfold noteFrame;simp only[hf];cases T with
 | none=>have h1:vs[1]? = some .none:=hT;refine Aa (A6 he hd h1 ?_);rw[if_neg (by decide)];exact aAA hfr hl hf he hcls hdi hd (A2.mp h1).1 λh' T' l=>h h' T' (.inl l)|some T=>
  obtain⟨h1,hTe,oT,ts,hT,hdT,fl,h3⟩:vs[1]? = some (.ref T)/\T≠e/\∃oT ts,s.heap.get? T=some oT/\oT.data=.fields ts/\∃f:Option Addr,ts[3]? = some (f.elim .none λf=>rawInt f):=hT;refine Aa (A6 he hd h1 ?_);rw[if_pos (show(Value.ref T != Value.none)=true from by simp)];refine Aa (A6 hT hdT h3 ?_);by_cases hfl:(fl.elim Value.none (λf=>rawInt f)==rawInt L)=true;rw[if_pos hfl];exact Al (h s.heap T (.inr rfl) ⟨λb o q _ _ _=>q,λb o q _=>⟨o.slots,q⟩⟩ hr0);rw[if_neg hfl];refine Aa (C0 hT hdT (A2.mp h3).1 ?_);have other:∀b,b≠T->(s.heap.update T (Obj.mapFields (·.setIfInBounds 3 Value.none))).get? b=s.heap.get? b:=λb hb=>Aq _ _ (Ne.symm hb);have noRecord:∀b o,s.heap.get? b=some o->(∀vs,o.data≠.fields vs)->b≠T:=λb o hb hnf q=>by rw[q,hT] at hb;injection hb with hb;subst hb;exact hnf ts hdT
  have hsz:(s.heap.update T (Obj.mapFields (·.setIfInBounds 3 Value.none))).objs.size=s.heap.objs.size:=Heap.size_after_update ..;refine aAA hfr (hl.of_keeps λb o hb hnf=>⟨o,(other b (noRecord b o hb hnf)).trans hb,rfl⟩) hf ((other e (Ne.symm hTe)).trans he) hcls hdi hd (A2.mp h1).1
   λh' T' l1 x1 x2=>h h' T' (.inl (by rw[<-hsz];exact l1)) ⟨λb o hb hn hbe hbT=>x1.keep b o ((other b λz=>hbT (by rw[z])).trans hb) hn hbe (λz=>nomatch z),λb o hb hn=>?_⟩ x2
  refine x1.slot b o ((other b ?_).trans hb) hn;obtain⟨_,o',ho',hnf⟩:=hl.mem hn;rw[hb] at ho';cases ho';exact noRecord b o hb hnf
theorem aBP{env:Env}{Q:Unit->Shared->Prop}
 (hfr:A.frames=some (env::outer)) (hl:s.heap.FunFrames base (env::outer)) (hf:env.frame=some L) (hr:Rec s.heap e cls T)
 (h:∀h' T',(s.heap.objs.size<=T'\/T=some T')->Lx (frs (env::outer)) e T s.heap h'->Rec h' e cls (some T')->Q () { s with heap:=h' }):wpAny M A (leaving env (.ref e)) Q E s:=by unfold leaving;exact Aa (aDo hfr hl hf hr h)
end
def Old(h:Heap)(b:Addr):Prop:=∃o,h.get? b=some o
theorem Old.lt{h:Heap}(x:Old h b):b<h.objs.size:=let ⟨_,q⟩:=x;Ag q
def Fly(h0:Heap)(ex:List Addr)(H:Hp)(L:List Addr)(e:Addr)(cls:Value)(h:Heap):Prop:=∃T,Rec h e cls T/\∀b,(b=e\/T=some b)->¬ (Old h0 b/\b∉ex)/\H b=none/\b∉L
theorem Fly.older(f:Fly h1 [] H L e cls h)(l:∀b,Old h0 b->b∉ex->Old h1 b)(l':∀b∈L',Old h1 b):Fly h0 ex H L' e cls h:=
 let ⟨T,c,d⟩:=f
 ⟨T,c,λb z=>⟨λy=>(d b z).1 ⟨l _ y.1 y.2,List.not_mem_nil⟩,(d b z).2.1,λy=>(d b z).1 ⟨l' b y,List.not_mem_nil⟩⟩⟩
def CX1(P:Program)(w:World):CXT:=λouter H s E e s'=>∃a cls H',e=.ref a/\s'.os=s.os/\AllBare s'.gens/\Un (frs outer) [] H H' s.heap s'.heap/\HOk P w H' s'.heap/\Fly s.heap [] H' [] a cls s'.heap/\E cls none H'
abbrev pinA(X:Cx)(pins:List (Addr×Obj)):List Addr:=(X.pn++pins).map (·.1)
def Rs(X:Cx)(W:Value->St->Hp->Prop):Prop:=∀(pins:List (Addr×Obj)) (σ:St) (H:Hp) (s:Shared) (a:Addr) (cls:Value),Inv X pins σ H s->Fly X.s₀.heap X.ex H (pinA X pins) a cls s.heap->W cls σ H->X.xe (.ref a) s
def RX(X:Cx)(cls:Value)(σV:St)(H:Hp):Prop:=∀(pins:List (Addr×Obj)) (s:Shared) (a:Addr),Inv X pins σV H s->Fly X.s₀.heap X.ex H (pinA X pins) a cls s.heap->X.xe (.ref a) s
theorem rK(X:Cx):Rs X (RX X):=λpins σ H s a cls I fl h=>h pins s a I fl
section
variable {X:Cx} {pins:List (Addr×Obj)} {σ:St} {H:Hp} {s:Shared}
theorem tP(I:Inv X pins σ H s):∀b,Old X.s₀.heap b->b∉X.ex->Old s.heap b:=λb ⟨o,q⟩ hb=>I.base.there b o q hb
theorem kY(I:Inv X pins σ H s):∀b∈pinA X pins,Old s.heap b:=λb hb=>by obtain⟨p,hp,rfl⟩:=Av.mp hb;exact⟨_,(I.pin p hp).1⟩
theorem Rs.pass{W:Value->St->Hp->Prop}(h:Rs X W)(I:Inv X pins σ H s)(c:CX1 X.prog X.w X.stack H s (λc _ H=>W c σ H) e s'):X.xe e s':=by obtain⟨a,cls,H',ee,os,bare,un,hok,fl,q⟩:=c;subst ee;exact h pins σ H' s' a cls (I.call' (ch:=[]) os un hok bare (λb z=>absurd z (by simp))) (fl.older (tP I) (kY I)) q
theorem nU{W:Value->St->Hp->Prop}(F:sX X.prog X.w X.K X.mg X.base (CX1 X.prog X.w) k f fd ps sp)(hr:jT k X.A)(hb:iJ X.K fd ps ds)(hd:bC dvs ds)(hR:Rs X W)
 (I:Inv X pins σ H s) (r:bC vs us) (h:sp (vs++dvs) H Q λc _ H=>W c σ H):wpAny (model X.prog X.w) X.A (call (.ref f) us) (EP X pins σ Q) X.xe s:=by
 have r2:bC (vs++dvs) (us++ds):=r.append hd;have hl:(us++ds).length=ps.length:=by rw[<-r2.length];exact F.len _ _ _ _ h
 refine wpAny_call (codeAny_mono (F.run X.A X.stack s H ⟨us,[]⟩ (us++ds) (vs++dvs) Q _ hr I.env0 (hb s us I.kIn hl) r2 h) λr s' hq=>?_);cases r with
 | error e=>exact hR.pass I hq|ok fl=>
  cases fl with
  | ret u=>exact I.after hq|next=>exact False.elim hq|brk=>exact False.elim hq|cont=>exact False.elim hq
end
theorem aDp{h h1 h':Heap}(u:Un fs ex H H1 h h1)(x:Lx fr e T h1 h')(hfr:∀b,b∈fr->b∈fs\/h.objs.size<=b)(he:¬ (Old h e/\e∉ex))(hT:∀t,T=some t->¬ (Old h t/\t∉ex))(hfs:∀b∈fs,b∈fr) :
 Un fs ex H H1 h h' where
 keep:=λb o q n hb hx=>by have l:=Ag q;refine x.keep b o (u.keep b o q n hb hx) (λz=>?_) (λz=>?_) λz=>?_;rcases hfr b z with z|z;exact hb z;exact absurd l (Dy.mpr z);subst z;exact he ⟨⟨o,q⟩,hx⟩;exact hT b z ⟨⟨o,q⟩,hx⟩
 slot:=λb o q n hb hx=>by obtain⟨sl,e1⟩:=u.slot b o q n hb hx;obtain⟨sl',e2⟩:=x.slot b _ e1 (hfs b hb);exact⟨sl',e2⟩
 free:=u.free
 there:=λb o q hx=>by obtain⟨o',e1⟩:=u.there b o q hx;by_cases hb:b∈fr;obtain⟨sl,e2⟩:=x.slot b o' e1 hb;exact⟨_,e2⟩;exact⟨o',x.keep b o' e1 hb (λz=>by subst z;exact he ⟨⟨o,q⟩,hx⟩) λz=>hT b z ⟨⟨o,q⟩,hx⟩⟩
 tups:=u.tups
 frzs:=u.frzs
 tbls:=u.tbls
theorem rL(k:HOk P w H h)(x:Lx fr e T h h')(hfr:∀b∈fr,H b=none)(he:H e=none)(hT:∀t,T=some t->H t=none):HOk P w H h':=λa o q=>
 (k a o q).stay (λb u hb g=>by
  have hn:H b≠none:=by rcases hb with z|z;rw[z,q];exact λz=>nomatch z;rw[z];exact λz=>nomatch z
  exact x.keep b u g (λz=>hn (hfr b z)) (λz=>hn (by rw[z];exact he)) λz=>hn (hT b z)) (λ_ z=>z) λ_ _ z=>z
theorem yZ{P:Program}{w:World}{K:PySem.W.Frag}{mg:Str->Option Value}{base:Heap}{N:List Str}{qual:Str}{scope:Scope}{f:Addr}{cd:Value}{A:Around}{outer:List Env}{s:Shared}{H:Hp}{E:XK} :
 Rs (oJ (CX1 P w) P w K mg base N qual scope f cd A outer s H E) λc _ H'=>E c none H':=by
 intro pins σ H1 s1 a cls I fl hE;obtain⟨T,f3,f4⟩:=fl;have hst:(oJ (CX1 P w) P w K mg base N qual scope f cd A outer s H E).env.frame=some (oJ (CX1 P w) P w K mg base N qual scope f cd A outer s H E).env.locals:=by
  rcases I.ok.stk with z|⟨_,z⟩
  have z:envOfC qual scope s.heap.objs.size f cd::outer=outer:=z;exact absurd (congrArg List.length z) (by simp);exact z
 show wpAny (model P w) (A.deeper (envOfC qual scope s.heap.objs.size f cd)) (leaving (envOfC qual scope s.heap.objs.size f cd) (.ref a)) _ _ s1;refine aBP (base:=base) (outer:=outer) I.ok.frames I.stack hst f3 λh' T' l1 x r=>?_;have hsub:∀b,b∈frs (envOfC qual scope s.heap.objs.size f cd::outer)->b=(envOfC qual scope s.heap.objs.size f cd).locals\/b∈frs outer:=λb hb=>A3.mp (I.stkSub b hb);have un:Un (frs outer) [] H H1 s.heap h':=aDp I.base x (λb hb=>?_) (f4 a (.inl rfl)).1 (λt z=>(f4 t (.inr z)).1) λb hb=>?_;refine⟨a,cls,H1,rfl,I.os,I.bare,un,rL I.hok x I.stkFree (f4 a (.inl rfl)).2.1 λt z=>(f4 t (.inr z)).2.1,⟨some T',r,λt z=>?_⟩,hE⟩;rcases z with rfl|z;exact⟨(f4 _ (.inl rfl)).1,(f4 _ (.inl rfl)).2.1,by simp⟩;cases z;rcases l1 with l1|l1;exact⟨λz=>absurd z.1.lt (Dy.mpr (A1 I.sz l1)),I.hok.fresh l1,by simp⟩;exact⟨(f4 _ (.inr l1)).1,(f4 _ (.inr l1)).2.1,by simp⟩;rcases hsub b hb with z|z;rw[z];exact .inr I.ok.above;exact .inl z;unfold frs at hb ⊢;rw[Cw];have:(envOfC qual scope s.heap.objs.size f cd).frame=some (envOfC qual scope s.heap.objs.size f cd).locals:=hst;rw[this];exact Ak _ hb
end L2
end
noncomputable section
namespace Hp
open PySem PySem.Spec PyProof.Rows L2
def Kp(R:Addr->Prop)(H H':Hp):Prop:=∀a o,H a=some o->¬ R a->H' a=some o
def RE{α:Type}(w:D->Prop):R α->(α->Prop)->Prop
 | .ok a,p=>p a|.exc x,_=>w x|.bad,_=>False
theorem RE.mono{α:Type}{x:R α}{p q:α->Prop}{w:D->Prop}(h:RE w x p)(f:∀a,p a->q a):RE w x q:=by
 cases x with
 | ok a=>exact f a h|exc e=>exact h|bad=>exact h
theorem RE.bind{α β:Type}{x:R α}{f:α->R β}{p:β->Prop}{w:D->Prop}:RE w (x >>= f) p=RE w x λa=>RE w (f a) p:=by cases x <;> rfl
theorem RE.iff{α:Type}{c:Bool}{x:R α}{p:α->Prop}{w:D->Prop}(h:RE w (R.iff c x) p):c=true/\RE w x p:=by
 cases c with
 | true=>exact⟨rfl,h⟩|false=>exact h.elim
section
variable (K:Fg) (RT Y old:Addr->Prop)
def exB(pa:Bool)(a:Addr):Prop:=Y a\/(pa=false/\old a)
def Tk(H:Hp):Prop:=∀b,H b≠none->K.lookup b=none
def dV:D->V
 | .int i=>.int i|.bl b=>.bl b|_=>.non
abbrev kV(x:NK×D):NK×V:=(x.1,dV x.2)
def Pt(σ:Sg)(σV:L2.St)(p:Addr):Prop:=RT p/\¬ old p/\∀(k:Nat) (pa:Bool) (ds:List D),σ[k]? = some (.own pa ds)->σV[k]?≠some (some (.ref p))
structure Dx (σ:Sg) (σV:L2.St) (H:Hp):Prop where
 at':∀(i:Nat) (ks:List (NK×D)),σ[i]? = some (.dct ks)->∃a xs,σV[i]? = some (some (.ref a))/\H a=some (iD a xs)/\RT a/\¬ old a/\xs.map pj=ks.map kV/\∀x∈xs,oO K H x.1 x.2.1
 inj:∀(i j:Nat) (ks ks':List (NK×D)) (a:Addr),σ[i]? = some (.dct ks)->σ[j]? = some (.dct ks')->σV[i]? = some (some (.ref a))->σV[j]? = some (some (.ref a))->i=j
 at2:∀(i:Nat) (ds es:List D),σ[i]? = some (.par ds es)->∃a b xs vx,σV[i]? = some (some (.ref a))/\(H a=some (.lst [vx,.ref b])/\H b=some (.lst xs))/\(Pt RT old σ σV a/\Pt RT old σ σV b)/\a≠b/\(noLs ds=true/\noLs es=true)/\Reps K H (λ_=>False) ds xs/\Reps K H (λ_=>False) es [vx]
 one:∀(i j:Nat) (ds es ds' es':List D),σ[i]? = some (.par ds es)->σ[j]? = some (.par ds' es')->i=j
def RtO(H:Hp)(a:Addr):Prop:=(∃xs,H a=some (.lst xs))\/∃xs,H a=some (iD a xs)
structure Sx (σ:Sg) (σV:L2.St) (H:Hp):Prop where
 sh:∀(i:Nat) (pa:Bool) (d:D),σ[i]? = some (.sh pa d)->∃v,σV[i]? = some (some v)/\Rep K H (λa=>RT a\/exB Y old pa a) d v
 own:∀(i:Nat) (pa:Bool) (ds:List D),σ[i]? = some (.own pa ds)->∃a xs,σV[i]? = some (some (.ref a))/\H a=some (.lst xs)/\RT a/\¬ old a/\Reps K H (λa=>RT a\/exB Y old pa a) ds xs
 trk:∀a,RT a\/Y a\/old a->H a=none->K.lookup a≠none
 yo:∀a,Y a->old a
 tk:Tk K H
 rt:∀a,RT a->RtO H a
 inj:∀(i j:Nat) (pa pa':Bool) (ds ds':List D) (a:Addr),σ[i]? = some (.own pa ds)->σ[j]? = some (.own pa' ds')->σV[i]? = some (some (.ref a))->σV[j]? = some (some (.ref a))->i=j
 len:σ.length=σV.length
 dx:Dx K RT old σ σV H
def alR(σ:Sg)(σV:L2.St)(al:List Nat)(a:Addr):Prop:=∃j∈al,(∃pa ds,σ[j]? = some (.own pa ds))/\σV[j]? = some (some (.ref a))
def exV(σ:Sg)(σV:L2.St)(pa:Bool)(al:List Nat)(a:Addr):Prop:=(RT a/\¬ alR σ σV al a)\/exB Y old pa a
def Rv(σ:Sg)(σV:L2.St)(H:Hp)(v:Vl)(u:V):Prop:=Rep K H (exV RT Y old σ σV v.pa v.al) v.d u
def Ro(σ:Sg)(σV:L2.St)(H H':Hp)(v:Vl)(u:V):Prop:=
 aP H H'/\(if v.fr=true then ∃a xs ds,u=.ref a/\v.d=.lst ds/\(H a=none/\K.lookup a=none)/\H' a=some (.lst xs)/\Reps K H' (λb=>b=a\/exV RT Y old σ σV v.pa v.al b) ds xs
  else Rv K RT Y old σ σV H' v u)
def Rvs(σ:Sg)(σV:L2.St)(H:Hp):List Vl->List V->Prop
 | [],us=>us=[]
 | v::vs,us=>∃u r,us=u::r/\Rv K RT Y old σ σV H v u/\Rvs σ σV H vs r
end
section
variable {K:Fg} {RT Y old:Addr->Prop} {σ:Sg} {σV:L2.St} {H H' H1 H2:Hp} {v:Vl} {u:V}
theorem oO.imp(hr:∀b ks,SqT K H b ks->SqT K H' b ks)(h:oO K H k b):oO K H' k b:=by
 obtain⟨bs,h1,h2⟩:=h;refine⟨bs,hr _ _ h1,?_⟩;clear h1
 induction h2 with
 | nil=>exact .nil|cons h t ih=>exact .cons (hr _ _ h) ih
mutual
theorem Rep.noT{ex:Addr->Prop}(hr:∀b ks,SqT K H b ks->SqT K H' b ks):∀(d:D) (v:V),noL d=true->Rep K H ex d v->Rep K H' ex d v
 | .non,_,_,h=>h|.bl _,_,_,h=>h|.int _,_,_,h=>h|.str _,_,_,h=>h|.tup ds,_,n,h=>by obtain⟨a,xs,e,q,r⟩:=h;exact⟨a,xs,e,hr _ _ q,Reps.noT hr ds xs (by simpa[noL] using n) r⟩|.lst ds,_,n,_=>by simp[noL] at n|.dic kvs,_,n,_=>by simp[noL] at n|.err _ _,_,n,_=>by simp[noL] at n
theorem Reps.noT{ex:Addr->Prop}(hr:∀b ks,SqT K H b ks->SqT K H' b ks):∀(ds:List D) (xs:List V),noLs ds=true->Reps K H ex ds xs->Reps K H' ex ds xs
 | [],_,_,h=>h|d::ds,_,n,h=>by obtain⟨x,r,e,h1,h2⟩:=h;simp only[noLs,bA] at n;exact⟨x,r,e,Rep.noT hr d x n.1 h1,Reps.noT hr ds r n.2 h2⟩
end
theorem Dx.imp{RT':Addr->Prop}{σ':Sg}{σV':L2.St}(L:Dx K RT old σ σV H)(m:Nat->Nat)(hs:∀j ks,σ'[j]? = some (.dct ks)->σ[m j]? = some (.dct ks)/\σV'[j]? = σV[m j]?)(hm:∀i j ks ks',σ'[i]? = some (.dct ks)->σ'[j]? = some (.dct ks')->m i=m j->i=j)
 (hh:∀a xs,H a=some (iD a xs)->RT a->¬ old a->H' a=some (iD a xs)/\RT' a) (hr:∀b ks,SqT K H b ks->SqT K H' b ks)
 (hs2:∀j ds es,σ'[j]? = some (.par ds es)->σ[m j]? = some (.par ds es)/\σV'[j]? = σV[m j]?) (hm2:∀i j ds es ds' es',σ'[i]? = some (.par ds es)->σ'[j]? = some (.par ds' es')->m i=m j->i=j)
 (hh2:∀p xs,H p=some (.lst xs)->Pt RT old σ σV p->H' p=some (.lst xs)/\Pt RT' old σ' σV' p):Dx K RT' old σ' σV' H' where
 at':=λi ks e=>by obtain⟨e1,e2⟩:=hs i ks e;obtain⟨a,xs,h1,h2,h3,h4,h5,h6⟩:=L.at' (m i) ks e1;obtain⟨g1,g2⟩:=hh a xs h2 h3 h4;exact⟨a,xs,by rw[e2];exact h1,g1,g2,h4,h5,λx hx=>oO.imp hr (h6 x hx)⟩
 inj:=λi j ks ks' a q1 q2 v1 v2=>by obtain⟨e1,e2⟩:=hs i ks q1;obtain⟨e3,e4⟩:=hs j ks' q2;exact hm i j ks ks' q1 q2 (L.inj (m i) (m j) ks ks' a e1 e3 (by rw[<-e2];exact v1) (by rw[<-e4];exact v2))
 at2:=λi ds es e=>by obtain⟨e1,e2⟩:=hs2 i ds es e;obtain⟨a,b,xs,vx,h1,⟨ha,hb⟩,⟨pa,pb⟩,hn,⟨n1,n2⟩,r1,r2⟩:=L.at2 (m i) ds es e1;obtain⟨ha,pa⟩:=hh2 a _ ha pa;obtain⟨hb,pb⟩:=hh2 b _ hb pb;exact⟨a,b,xs,vx,by rw[e2];exact h1,⟨ha,hb⟩,⟨pa,pb⟩,hn,⟨n1,n2⟩,Reps.noT hr ds xs n1 r1,Reps.noT hr es _ n2 r2⟩
 one:=λi j ds es ds' es' q1 q2=>hm2 i j ds es ds' es' q1 q2 (L.one _ _ _ _ _ _ (hs2 i ds es q1).1 (hs2 j ds' es' q2).1)
theorem RtO.grow(h:RtO H a)(s:aP H H'):RtO H' a:=h.imp (λ⟨xs,e⟩=>⟨xs,s _ _ e⟩) λ⟨xs,e⟩=>⟨xs,s _ _ e⟩
theorem RtO.ne(h:RtO H a):H a≠none:=λz=>by
 rcases h with⟨xs,e⟩|⟨xs,e⟩
 rw[z] at e;cases e;rw[z] at e;cases e
theorem Sx.grow(S:Sx K RT Y old σ σV H)(s:aP H H')(t:Tk K H'):Sx K RT Y old σ σV H' where
 sh:=λi pa d e=>let ⟨v,h1,h2⟩:=S.sh i pa d e;⟨v,h1,h2.grow s⟩
 own:=λi pa ds e=>let ⟨a,xs,h1,h2,h3,h4,h5⟩:=S.own i pa ds e;⟨a,xs,h1,s _ _ h2,h3,h4,h5.grow s⟩
 trk:=λa h z=>S.trk a h (s.free z)
 yo:=S.yo
 tk:=t
 rt:=λa h=>(S.rt a h).grow s
 inj:=S.inj
 len:=S.len
 dx:=S.dx.imp id (λ_ _ e=>⟨e,rfl⟩) (λ_ _ _ _ _ _ e=>e) (λa xs e z _=>⟨s _ _ e,z⟩) (λ_ _ r=>aP.seqT s r) (λ_ _ _ e=>⟨e,rfl⟩) (λ_ _ _ _ _ _ _ _ e=>e) λp xs e z=>⟨s _ _ e,z⟩
theorem exV.trk(S:Sx K RT Y old σ σV H)(h:exV RT Y old σ σV pa al a):H a=none->K.lookup a≠none:=by
 rcases h with⟨h,_⟩|h|⟨_,h⟩
 exact S.trk a (.inl h);exact S.trk a (.inr (.inl h));exact S.trk a (.inr (.inr h))
theorem Ro.rv(S:Sx K RT Y old σ σV H)(h:Ro K RT Y old σ σV H H' v u):Rv K RT Y old σ σV H' v u:=by obtain⟨s,h⟩:=h;by_cases hf:v.fr=true;rw[if_pos hf] at h;obtain⟨a,xs,ds,e1,e2,e3,e4,r⟩:=h;unfold Rv;rw[e2];exact⟨a,xs,e1,SqL.of e4,⟨λz=>exV.trk S z e3.1 e3.2,λ_=>e4⟩,r.weak λb z=>.inr z⟩;rw[if_neg hf] at h;exact h
theorem Rv.grow(h:Rv K RT Y old σ σV H v u)(s:aP H H'):Rv K RT Y old σ σV H' v u:=Rep.grow h s
theorem Rvs.grow:∀{vs:List Vl} {us:List V},Rvs K RT Y old σ σV H vs us->aP H H'->Rvs K RT Y old σ σV H' vs us
 | [],_,h,_=>h|v::vs,_,h,s=>by obtain⟨u,r,e,h1,h2⟩:=h;exact⟨u,r,e,h1.grow s,Rvs.grow h2 s⟩
theorem Ro.plain(s:aP H H')(hf:v.fr=false)(h:Rv K RT Y old σ σV H' v u):Ro K RT Y old σ σV H H' v u:=⟨s,by rw[if_neg (by rw[hf];decide)];exact h⟩
theorem Ro.from(h:Ro K RT Y old σ σV H1 H' v u)(s:aP H H1):Ro K RT Y old σ σV H H' v u:=by obtain⟨s',h⟩:=h;refine⟨s.trans s',?_⟩;by_cases hf:v.fr=true;rw[if_pos hf] at h ⊢;obtain⟨a,xs,ds,e1,e2,e3,e4,r⟩:=h;exact⟨a,xs,ds,e1,e2,⟨s.free e3.1,e3.2⟩,e4,r⟩;rw[if_neg hf] at h ⊢;exact h
theorem Ro.cl(s:aP H H')(h:Rep K H' (exV RT Y old σ σV false []) d u):Ro K RT Y old σ σV H H' (.cl d) u:=Ro.plain s rfl h
theorem Rv.sub{ds:List D}{xs:List V}{j:Nat}(h:Rep K H (exV RT Y old σ σV v.pa v.al) d x):Rv K RT Y old σ σV H (v.sub d) x:=by unfold Rv Vl.sub;by_cases hn:noL d=true;rw[if_pos hn];exact Rep.free d x hn h;rw[if_neg hn];exact h
theorem alR.mono(h:alR σ σV al a)(s:∀j∈al,j∈al'):alR σ σV al' a:=by obtain⟨j,hj,q⟩:=h;exact⟨j,s j hj,q⟩
theorem exV.mono(h:exV RT Y old σ σV pa' al' a)(hp:pa=true->pa'=true)(s:∀j∈al,j∈al'):exV RT Y old σ σV pa al a:=by
 rcases h with⟨h1,h2⟩|h|⟨h1,h2⟩
 exact .inl ⟨h1,λz=>h2 (z.mono s)⟩;exact .inr (.inl h);refine .inr (.inr ⟨?_,h2⟩);cases pa with
 | false=>rfl|true=>rw[hp rfl] at h1;cases h1
theorem Rvs.length:∀{vs:List Vl} {us:List V},Rvs K RT Y old σ σV H vs us->vs.length=us.length
 | [],_,h=>by rw[show _=[] from h];rfl|v::vs,_,h=>by obtain⟨u,r,e,_,h2⟩:=h;subst e;rw[lC,lC,Rvs.length h2]
theorem nC{v:Vl}(h:v∈vs):∀j∈v.al,j∈cN vs:=λj hj=>Dl.mpr ⟨v,h,hj⟩
theorem vU{v:Vl}(h:v∈vs)(hp:v.pa=true):fA vs=true:=List.any_eq_true.mpr ⟨v,h,hp⟩
theorem Rvs.reps:∀{vs:List Vl} {us:List V} {pa:Bool} {al:List Nat},Rvs K RT Y old σ σV H vs us->(∀v∈vs,(v.pa=true->pa=true)/\∀j∈v.al,j∈al) ->
 Reps K H (exV RT Y old σ σV pa al) (vs.map (·.d)) us
 | [],_,_,_,h,_=>h|v::vs,_,_,_,h,q=>by obtain⟨u,r,e,h1,h2⟩:=h;have q1:=q v As;exact⟨u,r,e,Rep.weak h1 λa z=>z.mono q1.1 q1.2,Rvs.reps h2 λw hw=>q w (Ak _ hw)⟩
theorem Rvs.all{vs:List Vl}(h:Rvs K RT Y old σ σV H vs us):Reps K H (exV RT Y old σ σV (fA vs) (cN vs)) (vs.map (·.d)) us:=
 h.reps λv hv=>⟨λz=>vU hv z,nC hv⟩
theorem Ro.fresh(hp:H p=none)(ht:Tk K (upd H p (.lst xs)))(hd:v.d=.lst ds)(hf:v.fr=true)(S:Sx K RT Y old σ σV H)(r:Reps K H (exV RT Y old σ σV v.pa v.al) ds xs) :
 Ro K RT Y old σ σV H (upd H p (.lst xs)) v (.ref p):=by
 have s:aP H (upd H p (.lst xs)):=λb o q=>by rw[aF (bG q hp)];exact q
 refine⟨s,?_⟩;rw[if_pos hf];have kp:K.lookup p=none:=ht p (by rw[aS];simp);refine⟨p,xs,ds,rfl,hd,⟨hp,kp⟩,aS,?_⟩;refine Reps.imp (λ_ _ q=>aP.seqT s q) (λa ys n q=>⟨λz=>?_,s.seq q⟩) (λ⟨c,h1,h2⟩=>⟨c,h1,h2.resolve_left λz=>h1 (by rw[z];exact kp)⟩) (λ_ _ _ q=>s _ _ q) (λ_ _ _ _ q=>s _ _ q) ds xs r;rcases z with z|z;subst z;rcases q with(q|⟨o,q⟩)|⟨o,its,n',q,_⟩
 rw[hp] at q;cases q;rw[hp] at q;cases q;have z:=ht a (by rw[aS];simp);rw[q] at z;cases z;exact n z
theorem aP.new(hp:H p=none):aP H (upd H p o):=λb u q=>by rw[aF (bG q hp)];exact q
theorem Ro.tup(hp:H p=none)(hd:v.d=.tup ds)(hf:v.fr=false)(r:Reps K H (exV RT Y old σ σV v.pa v.al) ds xs) :
 Ro K RT Y old σ σV H (upd H p (.tup xs)) v (.ref p):=by refine Ro.plain (aP.new hp) hf ?_;unfold Rv;rw[hd];exact⟨p,xs,rfl,SqT.of aS,r.grow (aP.new hp)⟩
end
def Kc(K:Fg)(H:Hp)(c:Str):List D->Value->Prop
 | [],cls=>∃C,cls=.ref C/\PySem.W.nsIn K mainGlobals c=some (some (.ref C))|[.int n],cls=>∃C dp,cls=cdV C dp/\PySem.W.nsIn K mainGlobals c=some (some (.ref C))/\H dp=some (.xd [("place",.int n)])|_,_=>False
def XW(X:Cx)(σV:L2.St)(H:Hp):D->Prop
 | .err c fs=>∀cls:Value,Kc X.K H c fs cls->RX X cls σV H|_=>False
def wx(X:Cx)(σV:L2.St)(H:Hp)(x:D):Prop:=∀H',Tk X.K H'->aP H H'->XW X σV H' x
theorem wx.grow(h:wx X σV H x)(s:aP H H1):wx X σV H1 x:=λH' t z=>h H' t (s.trans z)
theorem RE.weak{α:Type}{x:R α}{p:α->Prop}{w w':D->Prop}(h:RE w x p)(f:∀x,w x->w' x):RE w' x p:=by
 cases x with
 | ok a=>exact h|exc e=>exact f e h|bad=>exact h
theorem RE.at{α:Type}{x:R α}{p:α->Prop}{X:Cx}{σV:L2.St}{H H1:Hp}(h:RE (wx X σV H) x p)(s:aP H H1):RE (wx X σV H1) x p:=h.weak λ_ z=>z.grow s
section
variable (X:Cx) (P:Pg) (cl:Caller) (RT Y old:Addr->Prop)
def wE(σ:Sg)(c:E):TE:=λσV H Q=>Sx X.K RT Y old σ σV H/\RE (wx X σV H) (ev P cl σ c) λv=>∀u H',Tk X.K H'->Ro X.K RT Y old σ σV H H' v u->Q u H'
def wT(σ:Sg)(c:E):TT:=λσV H Q=>Sx X.K RT Y old σ σV H/\RE (wx X σV H) (tst P cl σ c) λk=>∀H',Tk X.K H'->aP H H'->Q k H'
def wA(σ:Sg)(cs:Es):TA:=λσV H Q=>Sx X.K RT Y old σ σV H/\RE (wx X σV H) (evs P cl σ cs) λvs=>∀us H',Tk X.K H'->aP H H'->Rvs X.K RT Y old σ σV H' vs us->Q us H'
end
section
variable {X:Cx} {P:Pg} {cl:Caller} {RT Y old:Addr->Prop} {σ:Sg} {pos:Pos}
theorem _root_.L2.Inv.tk(I:Inv X pins σV H s):Tk X.K H:=λb hb=>by
 cases q:X.K.lookup b with
 | none=>rfl|some o=>exact absurd (I.bs b o (I.ok.mod.kin b o q)).2 hb
theorem _root_.L2.PE.imp(h:PE X e t)(f:∀σV H Q,Tk X.K H->t' σV H Q->t σV H λv H'=>Tk X.K H'->Q v H'):PE X e t':=λpins s σV H Q I hw=>thn (h pins s σV H _ I (f σV H Q I.tk hw)) λu s' ⟨v,H',I',r,q⟩=>⟨v,H',I',r,q I'.tk⟩
theorem _root_.L2.PT.imp(h:PT X e t)(f:∀σV H Q,Tk X.K H->t' σV H Q->t σV H λv H'=>Tk X.K H'->Q v H'):PT X e t':=λpins s σV H Q I hw=>thn (h pins s σV H _ I (f σV H Q I.tk hw)) λk s' ⟨H',I',q⟩=>⟨H',I',q I'.tk⟩
theorem _root_.L2.PA.imp(h:PA X es t)(f:∀σV H Q,Tk X.K H->t' σV H Q->t σV H λv H'=>Tk X.K H'->Q v H'):PA X es t':=λpos pins s σV H Q I hw=>thn (h pos pins s σV H _ I (f σV H Q I.tk hw)) λu s' ⟨v,H',I',r,q⟩=>⟨v,H',I',r,q I'.tk⟩
theorem wE.two{p:Vl->Vl->Prop}{Q:V->V->Hp->Prop}(S:Sx X.K RT Y old σ σV H)(h:RE (wx X σV H) (ev P cl σ a) λx=>RE (wx X σV H) (ev P cl σ b) λy=>p x y)
 (f:∀x y ux uy H2,p x y->Tk X.K H2->aP H H2->Sx X.K RT Y old σ σV H2->Rv X.K RT Y old σ σV H2 x ux->Rv X.K RT Y old σ σV H2 y uy->Q ux uy H2) :
 wE X P cl RT Y old σ a σV H λux H1=>wE X P cl RT Y old σ b σV H1 λuy H2=>Q ux uy H2:=by refine⟨S,h.mono λx hx ux H1 t1 r1=>⟨S.grow r1.1 t1,(hx.at r1.1).mono λy hy uy H2 t2 r2=>?_⟩⟩;have S1:=S.grow r1.1 t1;exact f x y ux uy H2 hy t2 (r1.1.trans r2.1) (S1.grow r2.1 t2) ((r1.rv S).grow r2.1) (r2.rv S1)
theorem Ro.val(s:aP H H')(h:∀ex,Rep X.K H' ex d u):Ro X.K RT Y old σ σV H H' (.cl d) u:=Ro.cl s (h _)
theorem s_c (h : eqC d c = true) : PE X (.Constant c k pos) (wE X P cl RT Y old σ (.c d)) := by
 have key : ∀ {v : V}, (∀ (H : Hp) ex, Rep X.K H ex d v) -> PE X (.Constant c k pos) (tC v) -> PE X (.Constant c k pos) (wE X P cl RT Y old σ (.c d)) := λ hv hp =>hp.imp λ σV H Q t ⟨S, q⟩ t' => q _ H t' (Ro.val (aP.refl H) (hv H));cases d with
 | non => cases c with|none => exact key (λ _ _ => rfl) aHI|_ => cases h
 | bl b => cases c with
  | bool b' => have e : b = b' := by simpa [eqC] using h
               subst e; exact key (λ _ _ => rfl) aJU
  | _ => cases h
 | int b => cases c with
  | int b' => have e : b = b' := by simpa [eqC] using h
              subst e; exact key (λ _ _ => rfl) aHH
  | _ => cases h
 | str b => cases c with
  | str b' => have e : b = b' := by simpa [eqC] using h
              subst e; exact key (λ _ _ => rfl) aHJ
  | _ => cases h
 | _ => cases c <;> cases h
theorem s_v(hN:X.N[i]? = some x)(hv:Vis X.env.scope x)(hd:(x==("__debug__" : Str))=false)(hcd:(x==("__classdict__" : Str))=false) :
 PE X (.Name x pos) (wE X P cl RT Y old σ (.v i)):=by
 refine(lX hN hv hd hcd).imp λσV H Q t ⟨S,q⟩=>?_;have q:RE (wx X σV H) (bB σ i) _:=q;unfold bB at q;cases e:σ[i]? with
 | none=>rw[e] at q;exact q.elim|some sl=>
  rw[e] at q;cases sl with
  | x=>exact q.elim|dct _=>exact q.elim|par _ _=>exact q.elim|sh pa d=>
   obtain⟨v,h1,h2⟩:=S.sh i pa d e;refine⟨v,h1,λt'=>q v H t' (Ro.plain (aP.refl H) rfl ?_)⟩;unfold Rv;by_cases hn:noL d=true;exact Rep.free d v hn h2;refine Rep.weak h2 λa z=>?_;rcases z with⟨z,_⟩|z|⟨z,z'⟩
   exact .inl z;exact .inr (.inl z);have:pa=false:=by simpa[hn] using z
   exact .inr (.inr ⟨this,z'⟩)
  | own pa ds=>
   obtain⟨a,xs,h1,h2,h3,h4,h5⟩:=S.own i pa ds e;refine⟨.ref a,h1,λt'=>q _ H t' (Ro.plain (aP.refl H) rfl ?_)⟩;unfold Rv;refine⟨a,xs,rfl,SqL.of h2,⟨λz=>?_,λ_=>h2⟩,h5.weak λb z=>?_⟩;rcases z with⟨_,z⟩|z|⟨_,z⟩
   exact z ⟨i,by simp,⟨pa,ds,e⟩,h1⟩;exact h4 (S.yo a z);exact h4 z;rcases z with⟨z,_⟩|z;exact .inl z;exact .inr z
end
section
variable {X:Cx} {RT Y old:Addr->Prop} {σ:Sg} {σV:L2.St} {H:Hp} {s:Shared} {pins:List (Addr×Obj)} {Q:VK} {ux uy:V} {vx vy:Value} {x y:Vl}
theorem _root_.L2.EP.tk(h:EP X pins σV (λv H'=>Tk X.K H'->Q v H') u s'):EP X pins σV Q u s':=by obtain⟨v,H',I',r,q⟩:=h;exact⟨v,H',I',r,q (Inv.tk I')⟩
abbrev Wn(X:Cx)(RT Y old:Addr->Prop)(σ:Sg)(σV:L2.St)(H:Hp)(Q:VK)(v:Vl):Prop:=∀u H',Tk X.K H'->Ro X.K RT Y old σ σV H H' v u->Q u H'
theorem Wn.val(w:Wn X RT Y old σ σV H Q (.cl d))(t:Tk X.K H)(h:∀ex,Rep X.K H ex d u):Q u H:=w u H t (Ro.cl (aP.refl H) (h _))
theorem Rv.int(h:Rv X.K RT Y old σ σV H x u)(e:x.d=.int i):u=.int i:=by unfold Rv at h;rw[e] at h;exact h
theorem Rv.str(h:Rv X.K RT Y old σ σV H x u)(e:x.d=.str i):u=.str i:=by unfold Rv at h;rw[e] at h;exact h
theorem Rv.bl(h:Rv X.K RT Y old σ σV H x u)(e:x.d=.bl i):u=.bl i:=by unfold Rv at h;rw[e] at h;exact h
theorem Rv.non(h:Rv X.K RT Y old σ σV H x u)(e:x.d=.non):u=.non:=by unfold Rv at h;rw[e] at h;exact h
theorem Rv.tup(h:Rv X.K RT Y old σ σV H x u)(e:x.d=.tup ds):∃a xs,u=.ref a/\SqT X.K H a xs/\Reps X.K H (exV RT Y old σ σV x.pa x.al) ds xs:=by unfold Rv at h;rw[e] at h;exact h
theorem Rv.lst(h:Rv X.K RT Y old σ σV H x u)(e:x.d=.lst ds):∃a xs,u=.ref a/\SqL X.K H a xs/\¬ exV RT Y old σ σV x.pa x.al a/\Reps X.K H (exV RT Y old σ σV x.pa x.al) ds xs:=by unfold Rv at h;rw[e] at h;obtain⟨a,xs,h1,h2,h3,h4⟩:=h;exact⟨a,xs,h1,h2,h3.1,h4⟩
theorem aIo:lim<=sizeLine:=by unfold lim;rw[Bz];decide
theorem eT(h:n<=lim):n<=sizeLine:=A1 h aIo
theorem fY{ds:List D}{xs:List V}{pa:Bool}{al:List Nat}{K:Fg}(r:Reps K H (exV RT Y old σ σV pa al) ds xs) :
 Reps K H (exV RT Y old σ σV (pa&&!noLs ds) (if noLs ds=true then [] else al)) ds xs:=by by_cases hn:noLs ds=true;exact Reps.free ds xs hn r;rw[if_neg hn];refine r.weak λa z=>z.mono (λhp=>?_) λj hj=>hj;rw[hp];simp[hn]
def aKR(K:Fg):R2:=λx y H Q=>∃l b xs zs,x=.ref l/\y=.ref b/\SqL K H l xs/\SqL K H b zs/\xs.length+zs.length<=sizeLine/\∀p,H p=none->Q (.ref p) (upd H p (.lst (xs++zs)))
theorem aFS:OpR X (binaryOp .Add) (aKR X.K):=by
 intro pins s σV H x y v u Q I rx ry h;obtain⟨l,b,xs,zs,rfl,rfl,hH,hB,hz,q⟩:=h;cases rx;cases ry;obtain⟨its,r,pl,z⟩:=I.list hH;obtain⟨its2,r2,pl2,z2⟩:=I.list hB;obtain⟨⟨cls,dd,data,sl⟩,ho,hc,n,hd⟩:=pl.isList;obtain⟨⟨cls2,dd2,data2,sl2⟩,ho2,hc2,n2,hd2⟩:=pl2.isList;simp only at hc hd hc2 hd2;subst hc hd hc2 hd2;have e:its.toArray++its2.toArray=(its++its2).toArray:=by simp
 have hl:=r.length;have hl2:=r2.length;refine concat_meets ⟨_,ho,rfl⟩ ⟨_,ho2,rfl⟩ noFill_list_add seq_list_add PySem.F.slot_list_add PySem.F.entry_list_add (PySem.F.args_list_add_2 _ _) (list_addW l b its.toArray its2.toArray n n2 dd dd2 sl sl2 (by rw[Ae,Ae];omega)) ⟨ho,ho2,?_⟩;rw[e];exact⟨.ref _,_,I.lnew (t':=s.toks) (r.append r2) (by rw[lA];omega),rfl,q _ I.fresh⟩
theorem oR(x:Str):Str.rep x 0=Str.empty:=rfl
theorem aFT(x:Str):Str.rep x 1=x:=by unfold Str.rep;cases x;simp
theorem aBQ(x:Str)(h:x.length=0)(k:Nat):Str.rep x k=x:=by
 have hx:x.cps=#[]:=by unfold Str.length at h;exact Array.eq_empty_of_size_eq_zero h
 have go:∀k,(List.replicate k x.cps).foldl (·++·) #[]=#[]:=by
  intro k;rw[hx]
  induction k with
  | zero=>rfl|succ k ih=>rw[Bk,B2];simpa using ih
 unfold Str.rep;rw[go k];cases x;simp at hx;rw[hx]
theorem zA(x:Str)(k:Nat):(⟨(List.replicate k x.cps).foldl (·++·) #[]⟩:Str).length=x.length*k:=by
 have go:∀(k:Nat) (acc:Array Nat),((List.replicate k x.cps).foldl (·++·) acc).size=acc.size+x.cps.size*k:=by
  intro k
  induction k with
  | zero=>intro acc;simp|succ k ih=>intro acc;rw[Bk,B2,ih,Array.size_append,Nat.mul_succ];omega
 show((List.replicate k x.cps).foldl (·++·) #[]).size=x.cps.size*k;rw[go];simp
theorem aFU:OpR X (binaryOp .Mult) (λx y H Q=>∃a k,x=.str a/\y=.int k/\aK k=true/\a.length*k.toNat<=lim/\Q (.str (Str.rep a k.toNat)) H):=by
 intro pins s σV H x y v u Q I rx ry h;obtain⟨a,k,rfl,rfl,hk,hl,q⟩:=h;obtain⟨t,rfl⟩:=rx;obtain⟨t',rfl⟩:=ry;unfold aK at hk;simp only[bA,Am] at hk;have h1:-(2 ^ 62:Int)<=k:=hk.1;have h2:k<(2 ^ 62:Int):=hk.2;have e1:decide (k < -(2 ^ 63:Int))=false:=An (by omega);have e2:decide (k ≥ (2 ^ 63:Int))=false:=An (by omega);have fin:∀z:Str,z=Str.rep a k.toNat->∀tk,EP X pins σV Q (.str z tk) { s with toks:=s.toks+1 }:=λz e tk=>by subst e;exact⟨.str _,H,I.tok _,⟨_,rfl⟩,q⟩
 refine P.mul_str (by rw[e1,e2];rfl) (λn1 n2 z=>?_) (λn1 n2=>?_) ?_;have k1:1<=k:=by omega
 have z1:(a.length:Int)*k<=(lim:Int):=by
  have hk':((k.toNat:Nat):Int)=k:=by omega
  have:=Int.ofNat_le.mpr hl;rw[Int.natCast_mul] at this;rw[<-hk']
  exact_mod_cast this
 have z2:(2 ^ 63-1:Int) / k<a.length:=z;have z3:(2 ^ 63-1:Int)<a.length*k:=Int.lt_mul_of_ediv_lt (by omega) z2;have z4:(lim:Int)=1000000:=rfl;omega;unfold Builtin.Str.tooLong;have:=eT hl;exact An (by omega);split;rename_i hn;have:k.toNat=0:=by omega
 refine⟨by decide,?_⟩;exact fin _ (by rw[this];rfl) _;split;rename_i hn h1';have hz:Str.rep a k.toNat=a:=by rcases Bool.or_eq_true_iff.mp h1' with z|z;have:k=1:=eq_of_beq z;subst this;exact aFT a;exact aBQ a (eq_of_beq z) _
 exact⟨.str a,H,I,⟨_,rfl⟩,by rw[hz] at q;exact q⟩;refine⟨?_,fin _ rfl _⟩;have:=eT hl;rw[zA];exact this
def aIp(K:Fg):R2:=λx y H Q=>∃a b xs ys,x=.ref a/\y=.ref b/\SqT K H a xs/\SqT K H b ys/\xs.length+ys.length<=sizeLine /\
 (xs=[]->Q (.ref b) H)/\(xs≠[]->ys=[]->Q (.ref a) H)/\(xs≠[]->ys≠[]->∀p,H p=none->Q (.ref p) (upd H p (.tup (xs++ys))))
theorem aDq:OpR X (binaryOp .Add) (aIp X.K):=by
 intro pins s σ H x y v u Q I rx ry h;obtain⟨a,b,xs,ys,rfl,rfl,ha,hb,hz,q0,q1,q2⟩:=h;by_cases hx:xs=[]
 cases rx;cases ry;obtain⟨its,r1,p1,_⟩:=I.tuple ha;obtain⟨its2,r2,p2,_⟩:=I.tuple hb;obtain⟨⟨cls,dd,data,sl⟩,ho,hc,n,hd⟩:=id p1;obtain⟨⟨cls2,dd2,data2,sl2⟩,ho2,hc2,n2,hd2⟩:=id p2;simp only at hc hd hc2 hd2;subst hc hd hc2 hd2;have hi:its=[]:=r1.nil_iff.mpr hx;exact concat_meets ⟨_,ho,rfl⟩ ⟨_,ho2,rfl⟩ noFill_tuple_add seq_tuple_add D5 D1 (Dq _ _)
  (tuple_addW0 a b its.toArray its2.toArray n n2 dd dd2 sl sl2 (by simp[hi])) ⟨ho,ho2,⟨.ref b,H,I,rfl,q0 hx⟩⟩
 exact aFI pins s σ H _ _ v u Q I rx ry ⟨a,b,xs,ys,rfl,rfl,ha,hb,hx,hz,q1 hx,q2 hx⟩
theorem aDr{o:Operator}(I:Inv X pins σV H s)(S:Sx X.K RT Y old σ σV H)(rx:bI ux vx)(ry:bI uy vy)(hx:Rv X.K RT Y old σ σV H x ux)(hy:Rv X.K RT Y old σ σV H y uy)
 (hfr:x.fr=true->∃a xs,ux=.ref a/\H a=some (.lst xs)) {w:D->Prop} (h:RE w (opD o x y) (Wn X RT Y old σ σV H Q)):wpAny (model X.prog X.w) X.A (binaryOp o vx vy) (EP X pins σV Q) X.xe s:=by
 have t:=Inv.tk I;have go:∀{f:Value->Value->Sem Value} {r:R2},OpR X f r->(r ux uy H λv H'=>Tk X.K H'->Q v H')->wpAny (model X.prog X.w) X.A (f vx vy) (EP X pins σV Q) X.xe s:=λhr q=>thn (hr pins s σV H ux uy vx vy _ I rx ry q) λu s' z=>EP.tk z;cases o with
 | Add=>have h:RE w (aFP x y) (Wn X RT Y old σ σV H Q):=h;unfold aFP at h;split at h;rename_i i j d1 d2;exact go aHV ⟨i,j,hx.int d1,hy.int d2,λ_=>h.val t λ_=>rfl⟩;rename_i i j d1 d2;obtain⟨c,h⟩:=h.iff;exact go yM ⟨i,j,hx.str d1,hy.str d2,eT (Au c),λ_=>Wn.val h t λ_=>rfl⟩;rename_i as bs d1 d2;obtain⟨c,h⟩:=h.iff;obtain⟨a,xs,e1,q1,r1⟩:=hx.tup d1;obtain⟨b,ys,e2,q2,r2⟩:=hy.tup d2;have l1:=r1.length;have l2:=r2.length;have c':=Au c;have r1':Reps X.K H (exV RT Y old σ σV (x.pa||y.pa) (x.al++y.al)) as xs:=r1.weak λa z=>z.mono (λhp=>by rw[hp];rfl) λj hj=>Bm _ hj;have r2':Reps X.K H (exV RT Y old σ σV (x.pa||y.pa) (x.al++y.al)) bs ys:=r2.weak λa z=>z.mono (λhp=>by rw[hp,Bool.or_true]) λj hj=>Ax _ hj;refine go aDq ⟨a,b,xs,ys,e1,e2,q1,q2,eT (by omega),λz t'=>?_,λz z' t'=>?_,λz z' p hp t'=>?_⟩;subst z;have:as=[]:=D2.mp (by simpa using l1);subst this;exact h _ _ t' (Ro.plain (aP.refl H) rfl ⟨b,ys,rfl,q2,r2'⟩);subst z';have:bs=[]:=D2.mp (by simpa using l2);subst this;exact h _ _ t' (Ro.plain (aP.refl H) rfl ⟨a,xs,rfl,q1,by rw[B8];exact r1'⟩);exact h _ _ t' (Ro.tup hp rfl rfl (r1'.append r2'));rename_i as bs d1 d2;obtain⟨c,h⟩:=h.iff;obtain⟨a,xs,e1,q1,_,r1⟩:=hx.lst d1;obtain⟨b,ys,e2,q2,_,r2⟩:=hy.lst d2;have l1:=r1.length;have l2:=r2.length;have c':=Au c;refine go aFS ⟨a,b,xs,ys,e1,e2,q1,q2,eT (by omega),λp hp t'=>h _ _ t' (Ro.fresh hp t' rfl rfl S ?_)⟩;refine Reps.append ((fY r1).weak λa z=>z.mono (λhp=>?_) λj hj=>Bm _ hj) ((fY r2).weak λa z=>z.mono (λhp=>?_) λj hj=>Ax _ hj);show(_||_)=true;rw[hp];rfl;show(_||_)=true;rw[hp,Bool.or_true];exact h.elim|Mult=>
  have h:RE w (yR x y) (Wn X RT Y old σ σV H Q):=h;unfold yR at h;split at h;rename_i i j d1 d2;obtain⟨c,h⟩:=h.iff;refine go aHX ⟨i,j,hx.int d1,hy.int d2,?_,λ_=>Wn.val h t λ_=>rfl⟩;simp only[eZ,A9,bA,Am] at c;exact c;rename_i i j d1 d2;obtain⟨c,h⟩:=h.iff;simp only[bA,Am] at c;exact go aFU ⟨i,j,hx.str d1,hy.int d2,c.1,c.2,λ_=>Wn.val h t λ_=>rfl⟩;rename_i as k d1 d2;obtain⟨c,h⟩:=h.iff;simp only[bA,Am] at c;obtain⟨a,xs,e1,q1,_,r1⟩:=hx.lst d1;obtain⟨a',xs',e1',q1'⟩:=hfr c.1.1.1;rw[e1] at e1';cases e1';have e3:xs=xs':=I.list_inj q1 (SqL.of q1');subst e3;have l1:=r1.length;have hk:=c.1.1.2;unfold aK at hk;simp only[bA,Am] at hk;have hk1:=hk.1;have hk2:=hk.2;refine go aIj ⟨a,k,xs,e1,hy.int d2,q1',by omega,by omega,eT (by rw[<-l1];exact c.1.2),λp hp t'=>h _ _ t' (Ro.fresh hp t' rfl rfl S ?_)⟩;exact Reps.flat (Reps.free as xs c.2 r1) _;rename_i as k d1 d2;obtain⟨c,h⟩:=h.iff;simp only[bA,Am,Cr,List.isEmpty_eq_false_iff] at c;obtain⟨⟨⟨⟨c1,c2⟩,c3⟩,c4⟩,c5⟩:=c;obtain⟨a,xs,e1,q1,r1⟩:=hx.tup d1;have l1:=r1.length;unfold aK at c2;simp only[bA,Am] at c2;have hk2:=c2.2;have r2:=Reps.flat (Reps.free (ex':=exV RT Y old σ σV false []) as xs c5 r1) k.toNat;refine go aFO ⟨a,k,xs,e1,hy.int d2,q1,λz=>c3 (D2.mp (by rw[l1,z];rfl)),c1,by omega,eT (by rw[<-l1];exact c4),λz t'=>?_,λ_ p hp t'=>h _ _ t' (Ro.tup hp rfl rfl r2)⟩;subst z;have e:∀{α:Type} (l:List α),(List.replicate (1:Int).toNat l).flatten=l:=λl=>by simp
  rw[e] at h;rw[e,e] at r2;exact h _ _ t' (Ro.cl (aP.refl H) ⟨a,xs,rfl,q1,r2⟩);exact h.elim
 | Sub=>dsimp only[opD,tK] at h;split at h;rename_i i j d1 d2;exact go aHW ⟨i,j,hx.int d1,hy.int d2,λ_=>h.val t λ_=>rfl⟩;exact h.elim|FloorDiv=>dsimp only[opD,tK] at h;split at h;rename_i i j d1 d2;obtain⟨c,h⟩:=h.iff;refine go aFz ⟨i,j,hx.int d1,hy.int d2,?_,λ_=>Wn.val h t λ_=>rfl⟩;simp only[aAw,bA,Am] at c;exact c;exact h.elim|Mod=>dsimp only[opD,tK] at h;split at h;rename_i i j d1 d2;obtain⟨c,h⟩:=h.iff;exact go aHY ⟨i,j,hx.int d1,hy.int d2,Au c,λ_=>Wn.val h t λ_=>rfl⟩;exact h.elim|Pow=>dsimp only[opD,tK] at h;split at h;rename_i i j d1 d2;obtain⟨c,h⟩:=h.iff;refine go aHZ ⟨i,j,hx.int d1,hy.int d2,?_,λ_=>Wn.val h t λ_=>rfl⟩;simp only[aHf,bA,Am] at c;exact⟨c.1.1,by omega,c.2⟩;exact h.elim|_=>exact h.elim
end
end Hp
end
noncomputable section
namespace Hp
open PySem PySem.Spec PyProof.Rows L2 PySem.SeqAt
def iM(n:Nat)(ds es:List D)(j:Nat):Bool:=match ds[j]?,es[j]? with|some x,some y=>(eqF n x y).getD false|_,_=>false
theorem aAC:∀{n:Nat} {ds es:List D} {k:Bool},fJ n ds es=some k->∀{j:Nat} {x y:D},ds[j]? = some x->es[j]? = some y->∃b,eqF n x y=some b
 | n,[],es,k,h,j,x,y,e1,e2=>by simp at e1|n,d::ds,[],k,h,j,x,y,e1,e2=>by simp at e2|n,d::ds,e::es,k,h,j,x,y,e1,e2=>by
  rw[fJ] at h;cases h1:eqF n d e with
  | none=>rw[h1] at h;simp at h|some b=>
   cases h2:fJ n ds es with
   | none=>rw[h1,h2] at h;simp at h|some b'=>
    cases j with
    | zero=>simp at e1 e2;subst e1 e2;exact⟨b,h1⟩|succ j=>exact aAC h2 (by simpa using e1) (by simpa using e2)
theorem oU:∀{n:Nat} {ds es:List D} {k:Bool},fJ n ds es=some k->k=((List.range (min ds.length es.length)).all (iM n ds es)&&ds.length==es.length)
 | n,[],[],k,h=>by simp[fJ] at h;simp[<-h]|n,[],e::es,k,h=>by simp[fJ] at h;simp[<-h]|n,d::ds,[],k,h=>by simp[fJ] at h;simp[<-h]|n,d::ds,e::es,k,h=>by
  rw[fJ] at h;cases h1:eqF n d e with
  | none=>rw[h1] at h;simp at h|some b=>
   cases h2:fJ n ds es with
   | none=>rw[h1,h2] at h;simp at h|some b'=>
    rw[h1,h2] at h;have hk:(b&&b')=k:=Ah h;have ih:=oU h2;have e0:iM n (d::ds) (e::es) 0=b:=by simp[iM,h1]
    have es':∀j,iM n (d::ds) (e::es) (j+1)=iM n ds es j:=λj=>by simp[iM]
    have hm:min (d::ds).length (e::es).length=min ds.length es.length+1:=by simp only[lC];omega
    rw[hm,D6,Dr,e0,List.all_map];have:(iM n (d::ds) (e::es))∘Nat.succ=iM n ds es:=funext λj=>es' j;rw[this,<-hk,ih];simp[Bool.and_assoc]
section
variable {X:Cx} {σV:L2.St} {H:Hp} {s:Shared} {pins:List (Addr×Obj)}
theorem _root_.L2.Inv.lt_ne(I:L2.Inv X pins σV H s)(h1:SqL X.K H a xs)(h2:SqT X.K H a ys):False:=by obtain⟨its,_,pl,_⟩:=I.list h1;obtain⟨its2,_,pt,_⟩:=I.tuple h2;exact ne_of_list_tuple pl.isList (show s.heap.IsTuple a its2.toArray from pt) rfl
theorem aDs(h:eqF (n+1) (.dic ds) e=some k):False:=by unfold eqF at h;split at h <;> first|(cases h;done)|(rename_i e1 e2;cases e1;done)|(rename_i e1;cases e1;done)
mutual
theorem tQ(I:L2.Inv X pins σV H s):∀(n:Nat) (d e:D) (u:V) (k:Bool) (ex ex':Addr->Prop),Rep X.K H ex d u->Rep X.K H ex' e u->eqF n d e=some k->k=true
 | 0,d,e,u,k,_,_,_,_,h=>by simp[eqF] at h|n+1,.non,e,u,k,_,_,h1,h2,h=>by
  rw[show u=.non from h1] at h2;cases e with
  | non=>simpa[eqF] using h.symm|tup ds=>obtain⟨a,xs,z,_⟩:=h2;cases z|lst ds=>obtain⟨a,xs,z,_⟩:=h2;cases z|dic ds=>obtain⟨a,xs,z,_⟩:=h2;cases z|err _ _=>simp[eqF] at h|bl b=>cases(show V.non=.bl b from h2)|int b=>cases(show V.non=.int b from h2)|str b=>cases(show V.non=.str b from h2)
 | n+1,.bl b,e,u,k,_,_,h1,h2,h=>by
  rw[show u=.bl b from h1] at h2;cases e with
  | bl b'=>cases(show V.bl b=.bl b' from h2);simpa[eqF] using h.symm|tup ds=>obtain⟨a,xs,z,_⟩:=h2;cases z|lst ds=>obtain⟨a,xs,z,_⟩:=h2;cases z|dic ds=>obtain⟨a,xs,z,_⟩:=h2;cases z|err _ _=>simp[eqF] at h|non=>cases(show V.bl b=.non from h2)|int b'=>cases(show V.bl b=.int b' from h2)|str b'=>cases(show V.bl b=.str b' from h2)
 | n+1,.int b,e,u,k,_,_,h1,h2,h=>by
  rw[show u=.int b from h1] at h2;cases e with
  | int b'=>cases(show V.int b=.int b' from h2);simpa[eqF] using h.symm|tup ds=>obtain⟨a,xs,z,_⟩:=h2;cases z|lst ds=>obtain⟨a,xs,z,_⟩:=h2;cases z|dic ds=>obtain⟨a,xs,z,_⟩:=h2;cases z|err _ _=>simp[eqF] at h|non=>cases(show V.int b=.non from h2)|bl b'=>cases(show V.int b=.bl b' from h2)|str b'=>cases(show V.int b=.str b' from h2)
 | n+1,.str b,e,u,k,_,_,h1,h2,h=>by
  rw[show u=.str b from h1] at h2;cases e with
  | str b'=>cases(show V.str b=.str b' from h2);simpa[eqF] using h.symm|tup ds=>obtain⟨a,xs,z,_⟩:=h2;cases z|lst ds=>obtain⟨a,xs,z,_⟩:=h2;cases z|dic ds=>obtain⟨a,xs,z,_⟩:=h2;cases z|err _ _=>simp[eqF] at h|non=>cases(show V.str b=.non from h2)|bl b'=>cases(show V.str b=.bl b' from h2)|int b'=>cases(show V.str b=.int b' from h2)
 | n+1,.tup ds,e,u,k,ex,ex',h1,h2,h=>by
  obtain⟨a,xs,z,q,r⟩:=h1;subst z;cases e with
  | tup es=>obtain⟨a',ys,z,q',r'⟩:=h2;cases z;have:xs=ys:=I.tuple_inj q q';subst this;exact eqs_same I n ds es xs k ex ex' r r' (by simpa[eqF] using h)|lst es=>obtain⟨a',ys,z,q',_,r'⟩:=h2;cases z;exact(I.lt_ne q' q).elim|dic ds=>simp[eqF] at h|err _ _=>simp[eqF] at h|non=>cases(show V.ref a=.non from h2)|bl b'=>cases(show V.ref a=.bl b' from h2)|int b'=>cases(show V.ref a=.int b' from h2)|str b'=>cases(show V.ref a=.str b' from h2)
 | n+1,.lst ds,e,u,k,ex,ex',h1,h2,h=>by
  obtain⟨a,xs,z,q,_,r⟩:=h1;subst z;cases e with
  | lst es=>obtain⟨a',ys,z,q',_,r'⟩:=h2;cases z;have:xs=ys:=I.list_inj q q';subst this;have hl:ds.length=es.length:=r.length.trans r'.length.symm;exact eqs_same I n ds es xs k ex ex' r r' (by simpa[eqF,hl] using h)|tup es=>obtain⟨a',ys,z,q',r'⟩:=h2;cases z;exact(I.lt_ne q q').elim|dic ds=>simp[eqF] at h|err _ _=>simp[eqF] at h|non=>cases(show V.ref a=.non from h2)|bl b'=>cases(show V.ref a=.bl b' from h2)|int b'=>cases(show V.ref a=.int b' from h2)|str b'=>cases(show V.ref a=.str b' from h2)
 | n+1,.dic ds,e,u,k,ex,ex',h1,h2,h=>by exact(aDs h).elim|n+1,.err _ _,e,u,k,ex,ex',h1,h2,h=>by cases e <;> cases h
theorem eqs_same(I:L2.Inv X pins σV H s):∀(n:Nat) (ds es:List D) (us:List V) (k:Bool) (ex ex':Addr->Prop),Reps X.K H ex ds us->Reps X.K H ex' es us->fJ n ds es=some k->k=true
 | n,[],[],us,k,_,_,h1,h2,h=>by simpa[fJ] using h.symm|n,[],e::es,us,k,_,_,h1,h2,h=>by obtain⟨x,r,z,_⟩:=h2;rw[show us=[] from h1] at z;cases z|n,d::ds,[],us,k,_,_,h1,h2,h=>by obtain⟨x,r,z,_⟩:=h1;rw[show us=[] from h2] at z;cases z|n,d::ds,e::es,us,k,ex,ex',h1,h2,h=>by
  obtain⟨x,r,z,a1,b1⟩:=h1;obtain⟨x',r',z',a2,b2⟩:=h2;rw[z] at z';cases z';rw[fJ] at h;cases q1:eqF n d e with
  | none=>rw[q1] at h;simp at h|some b=>
   cases q2:fJ n ds es with
   | none=>rw[q1,q2] at h;simp at h|some b'=>rw[q1,q2] at h;have e1:=tQ I n d e x b ex ex' a1 a2 q1;have e2:=eqs_same I n ds es r b' ex ex' b1 b2 q2;subst e1 e2;simpa using h.symm
end
def Eq3(A:Around)(s:Shared)(v z:Value)(k:Bool):Prop:=EqAt A s v z k/\RcAt A s v z k/\RcNeAt A s v z (!k)
theorem aAD{xs:List V}{us:List Value}(r:bC xs us)(h:j<us.toArray.size):∃x,xs[j]? = some x/\bI x us.toArray[j]:=by
 have hl:=r.length;have hj:j<xs.length:=by rw[Ae] at h;omega
 obtain⟨u,e,q⟩:=r.get (Ad hj);refine⟨xs[j],Ad hj,?_⟩;have:us.toArray[j]=u:=by
  have e':us[j]? = some us.toArray[j]:=by simp[Ad (show j<us.length by simpa using h)]
  rw[e'] at e;exact Ah e
 rw[this];exact q
theorem rM(A:Around):A.in1.units=A.units+1:=rfl
theorem aAE(I:L2.Inv X pins σV H s):∀(n:Nat) (A:Around) (d e:D) (u w:V) (v z:Value) (k:Bool) (ex ex':Addr->Prop),A.units+n<cLine->Rep X.K H ex d u->Rep X.K H ex' e w->bI u v->bI w z->eqF n d e=some k->Eq3 A s v z k:=by
 intro n
 induction n with
 | zero=>intro A d e u w v z k ex ex' _ _ _ _ _ h;simp[eqF] at h|succ n ih=>
  intro A d e u w v z k ex ex' hA h1 h2 r1 r2 h;have hu:A.units<cLine:=by omega
  have items:∀{ds es:List D} {xs ys:List V} {its its2:List Value} {k:Bool},Reps X.K H ex ds xs->Reps X.K H ex' es ys->bC xs its->bC ys its2->fJ n ds es=some k ->
   ∀j (_:j<its.toArray.size) (_:j<its2.toArray.size),EqAt A.in1 s its.toArray[j] its2.toArray[j] (iM n ds es j):=by
   intro ds es xs ys its its2 k q1 q2 v1 v2 hk j hj1 hj2;obtain⟨x,ex1,rx⟩:=aAD v1 hj1;obtain⟨y,ey1,ry⟩:=aAD v2 hj2;obtain⟨d',ed,rd⟩:=q1.get' ex1;obtain⟨e',ee,re⟩:=q2.get' ey1;obtain⟨b,hb⟩:=aAC hk ed ee;have hj:iM n ds es j=b:=by simp[iM,ed,ee,hb]
   rw[hj];exact(ih A.in1 d' e' x y _ _ b ex ex' (by rw[rM];omega) rd re rx ry hb).1
  cases d with
  | err _ _=>cases e <;> cases h|dic ds=>exact(aDs h).elim|non=>
   rw[show u=.non from h1] at r1;cases r1;cases e with
   | err _ _=>simp[eqF] at h|dic _=>simp[eqF] at h|non=>rw[show w=.non from h2] at r2;cases r2;simp[eqF] at h;subst h;exact⟨EqAt.same _,RcAt.none_none,RcNeAt.none_none⟩|bl b=>rw[show w=.bl b from h2] at r2;cases r2;simp[eqF] at h;subst h;exact⟨EqAt.none_bool _,RcAt.none_bool _,RcNeAt.none_bool _⟩|int b=>rw[show w=.int b from h2] at r2;obtain⟨t,rfl⟩:=r2;simp[eqF] at h;subst h;exact⟨EqAt.none_int _ _,RcAt.none_int _ _,RcNeAt.none_int _ _⟩|str b=>rw[show w=.str b from h2] at r2;obtain⟨t,rfl⟩:=r2;simp[eqF] at h;subst h;exact⟨EqAt.none_str _ _,RcAt.none_str _ _,RcNeAt.none_str _ _⟩|tup es=>obtain⟨b,ys,rfl,q,r⟩:=h2;cases r2;obtain⟨its,_,p,_⟩:=I.tuple q;simp[eqF] at h;subst h;exact⟨EqAt.none_tuple (show s.heap.IsTuple b its.toArray from p) hu,RcAt.none_tuple (show s.heap.IsTuple b its.toArray from p) hu,RcNeAt.none_tuple (show s.heap.IsTuple b its.toArray from p) hu⟩|lst es=>obtain⟨b,ys,rfl,q,_,r⟩:=h2;cases r2;obtain⟨its,_,p,_⟩:=I.list q;simp[eqF] at h;subst h;exact⟨EqAt.none_list p.isList hu,RcAt.none_list p.isList hu,RcNeAt.none_list p.isList hu⟩
  | bl a=>
   rw[show u=.bl a from h1] at r1;cases r1;cases e with
   | err _ _=>simp[eqF] at h|dic _=>simp[eqF] at h|non=>rw[show w=.non from h2] at r2;cases r2;simp[eqF] at h;subst h;exact⟨EqAt.bool_none _,RcAt.bool_none _,RcNeAt.bool_none _⟩|bl b=>rw[show w=.bl b from h2] at r2;cases r2;simp only[eqF,Cs] at h;subst h;exact⟨EqAt.bool_bool _ _,RcAt.bool_bool _ _,RcNeAt.bool_bool _ _⟩|int b=>rw[show w=.int b from h2] at r2;obtain⟨t,rfl⟩:=r2;simp only[eqF,Cs] at h;subst h;exact⟨EqAt.bool_int _ _ _,RcAt.bool_int _ _ _,RcNeAt.bool_int _ _ _⟩|str b=>rw[show w=.str b from h2] at r2;obtain⟨t,rfl⟩:=r2;simp[eqF] at h;subst h;exact⟨EqAt.bool_str _ _ _,RcAt.bool_str _ _ _,RcNeAt.bool_str _ _ _⟩|tup es=>obtain⟨b,ys,rfl,q,r⟩:=h2;cases r2;obtain⟨its,_,p,_⟩:=I.tuple q;simp[eqF] at h;subst h;exact⟨EqAt.bool_tuple _ (show s.heap.IsTuple b its.toArray from p) hu,RcAt.bool_tuple _ (show s.heap.IsTuple b its.toArray from p) hu,RcNeAt.bool_tuple _ (show s.heap.IsTuple b its.toArray from p) hu⟩|lst es=>obtain⟨b,ys,rfl,q,_,r⟩:=h2;cases r2;obtain⟨its,_,p,_⟩:=I.list q;simp[eqF] at h;subst h;exact⟨EqAt.bool_list _ p.isList hu,RcAt.bool_list _ p.isList hu,RcNeAt.bool_list _ p.isList hu⟩
  | int a=>
   rw[show u=.int a from h1] at r1;obtain⟨t1,rfl⟩:=r1;cases e with
   | err _ _=>simp[eqF] at h|dic _=>simp[eqF] at h|non=>rw[show w=.non from h2] at r2;cases r2;simp[eqF] at h;subst h;exact⟨EqAt.int_none _ _,RcAt.int_none _ _,RcNeAt.int_none _ _⟩|bl b=>rw[show w=.bl b from h2] at r2;cases r2;simp only[eqF,Cs] at h;subst h;exact⟨EqAt.int_bool _ _ _,RcAt.int_bool _ _ _,RcNeAt.int_bool _ _ _⟩|int b=>rw[show w=.int b from h2] at r2;obtain⟨t,rfl⟩:=r2;simp only[eqF,Cs] at h;subst h;exact⟨EqAt.int_int _ _ _ _,RcAt.int_int _ _ _ _,RcNeAt.int_int _ _ _ _⟩|str b=>rw[show w=.str b from h2] at r2;obtain⟨t,rfl⟩:=r2;simp[eqF] at h;subst h;exact⟨EqAt.int_str _ _ _ _,RcAt.int_str _ _ _ _,RcNeAt.int_str _ _ _ _⟩|tup es=>obtain⟨b,ys,rfl,q,r⟩:=h2;cases r2;obtain⟨its,_,p,_⟩:=I.tuple q;simp[eqF] at h;subst h;exact⟨EqAt.int_tuple _ _ (show s.heap.IsTuple b its.toArray from p) hu,RcAt.int_tuple _ _ (show s.heap.IsTuple b its.toArray from p) hu,RcNeAt.int_tuple _ _ (show s.heap.IsTuple b its.toArray from p) hu⟩|lst es=>obtain⟨b,ys,rfl,q,_,r⟩:=h2;cases r2;obtain⟨its,_,p,_⟩:=I.list q;simp[eqF] at h;subst h;exact⟨EqAt.int_list _ _ p.isList hu,RcAt.int_list _ _ p.isList hu,RcNeAt.int_list _ _ p.isList hu⟩
  | str a=>
   rw[show u=.str a from h1] at r1;obtain⟨t1,rfl⟩:=r1;cases e with
   | err _ _=>simp[eqF] at h|dic _=>simp[eqF] at h|non=>rw[show w=.non from h2] at r2;cases r2;simp[eqF] at h;subst h;exact⟨EqAt.str_none _ _,RcAt.str_none _ _,RcNeAt.str_none _ _⟩|bl b=>rw[show w=.bl b from h2] at r2;cases r2;simp[eqF] at h;subst h;exact⟨EqAt.str_bool _ _ _,RcAt.str_bool _ _ _,RcNeAt.str_bool _ _ _⟩|int b=>rw[show w=.int b from h2] at r2;obtain⟨t,rfl⟩:=r2;simp[eqF] at h;subst h;exact⟨EqAt.str_int _ _ _ _,RcAt.str_int _ _ _ _,RcNeAt.str_int _ _ _ _⟩|str b=>rw[show w=.str b from h2] at r2;obtain⟨t,rfl⟩:=r2;simp only[eqF,Cs] at h;subst h;exact⟨EqAt.str_str _ _ _ _,RcAt.str_str _ _ _ _,RcNeAt.str_str _ _ _ _⟩|tup es=>obtain⟨b,ys,rfl,q,r⟩:=h2;cases r2;obtain⟨its,_,p,_⟩:=I.tuple q;simp[eqF] at h;subst h;exact⟨EqAt.str_tuple _ _ (show s.heap.IsTuple b its.toArray from p) hu,RcAt.str_tuple _ _ (show s.heap.IsTuple b its.toArray from p) hu,RcNeAt.str_tuple _ _ (show s.heap.IsTuple b its.toArray from p) hu⟩|lst es=>obtain⟨b,ys,rfl,q,_,r⟩:=h2;cases r2;obtain⟨its,_,p,_⟩:=I.list q;simp[eqF] at h;subst h;exact⟨EqAt.str_list _ _ p.isList hu,RcAt.str_list _ _ p.isList hu,RcNeAt.str_list _ _ p.isList hu⟩
  | tup ds=>
   have h1':=h1;obtain⟨a,xs,rfl,q1,rp1⟩:=h1;cases r1;obtain⟨its1,v1,p1,_⟩:=I.tuple q1;have p1':s.heap.IsTuple a its1.toArray:=p1;cases e with
   | err _ _=>simp[eqF] at h|dic _=>simp[eqF] at h|non=>rw[show w=.non from h2] at r2;cases r2;simp[eqF] at h;subst h;exact⟨EqAt.tuple_none p1' hu,RcAt.tuple_none p1' hu,RcNeAt.tuple_none p1' hu⟩|bl b=>rw[show w=.bl b from h2] at r2;cases r2;simp[eqF] at h;subst h;exact⟨EqAt.tuple_bool _ p1' hu,RcAt.tuple_bool _ p1' hu,RcNeAt.tuple_bool _ p1' hu⟩|int b=>rw[show w=.int b from h2] at r2;obtain⟨t,rfl⟩:=r2;simp[eqF] at h;subst h;exact⟨EqAt.tuple_int _ _ p1' hu,RcAt.tuple_int _ _ p1' hu,RcNeAt.tuple_int _ _ p1' hu⟩|str b=>rw[show w=.str b from h2] at r2;obtain⟨t,rfl⟩:=r2;simp[eqF] at h;subst h;exact⟨EqAt.tuple_str _ _ p1' hu,RcAt.tuple_str _ _ p1' hu,RcNeAt.tuple_str _ _ p1' hu⟩|tup es=>
    have h2':=h2;obtain⟨b,ys,rfl,q2,rp2⟩:=h2;cases r2;obtain⟨its2,v2,p2,_⟩:=I.tuple q2;have hk:fJ n ds es=some k:=by simpa[eqF] using h
    have hv:=oU hk;have l1:its1.toArray.size=ds.length:=by rw[Ae,<-v1.length,rp1.length]
    have l2:its2.toArray.size=es.length:=by rw[Ae,<-v2.length,rp2.length]
    have rc:RcAt A s (.ref a) (.ref b) k:=by rw[hv,<-l1,<-l2];exact RcAt.tuples p1' (show s.heap.IsTuple b its2.toArray from p2) hu (items rp1 rp2 v1 v2 hk)
    have rn:RcNeAt A s (.ref a) (.ref b) (!k):=by rw[hv,<-l1,<-l2];exact RcNeAt.tuples p1' (show s.heap.IsTuple b its2.toArray from p2) hu (items rp1 rp2 v1 v2 hk)
    refine⟨?_,rc,rn⟩;by_cases hab:a=b;subst hab;have:=tQ I (n+1) (.tup ds) (.tup es) (.ref a) k ex ex' h1' h2' h;subst this;exact EqAt.same _;exact EqAt.of_refs hab rc
   | lst es=>obtain⟨b,ys,rfl,q2,_,rp2⟩:=h2;cases r2;obtain⟨its2,v2,p2,_⟩:=I.list q2;simp[eqF] at h;subst h;exact⟨EqAt.tuple_list p1' p2.isList hu,RcAt.tuple_list p1' p2.isList hu,RcNeAt.tuple_list p1' p2.isList hu⟩
  | lst ds=>
   have h1':=h1;obtain⟨a,xs,rfl,q1,_,rp1⟩:=h1;cases r1;obtain⟨its1,v1,p1,_⟩:=I.list q1;have p1':=p1.isList;cases e with
   | err _ _=>simp[eqF] at h|dic _=>simp[eqF] at h|non=>rw[show w=.non from h2] at r2;cases r2;simp[eqF] at h;subst h;exact⟨EqAt.list_none p1' hu,RcAt.list_none p1' hu,RcNeAt.list_none p1' hu⟩|bl b=>rw[show w=.bl b from h2] at r2;cases r2;simp[eqF] at h;subst h;exact⟨EqAt.list_bool _ p1' hu,RcAt.list_bool _ p1' hu,RcNeAt.list_bool _ p1' hu⟩|int b=>rw[show w=.int b from h2] at r2;obtain⟨t,rfl⟩:=r2;simp[eqF] at h;subst h;exact⟨EqAt.list_int _ _ p1' hu,RcAt.list_int _ _ p1' hu,RcNeAt.list_int _ _ p1' hu⟩|str b=>rw[show w=.str b from h2] at r2;obtain⟨t,rfl⟩:=r2;simp[eqF] at h;subst h;exact⟨EqAt.list_str _ _ p1' hu,RcAt.list_str _ _ p1' hu,RcNeAt.list_str _ _ p1' hu⟩|lst es=>
    have h2':=h2;obtain⟨b,ys,rfl,q2,_,rp2⟩:=h2;cases r2;obtain⟨its2,v2,p2,_⟩:=I.list q2;have l1:its1.toArray.size=ds.length:=by rw[Ae,<-v1.length,rp1.length]
    have l2:its2.toArray.size=es.length:=by rw[Ae,<-v2.length,rp2.length]
    have both:RcAt A s (.ref a) (.ref b) k/\RcNeAt A s (.ref a) (.ref b) (!k):=by
     by_cases hl:ds.length=es.length;have hk:fJ n ds es=some k:=by simpa[eqF,hl] using h
     have hv:=oU hk;rw[<-hl,Nat.min_self,Bu,Bool.and_true,<-l1] at hv;rw[hv];exact⟨RcAt.lists p1' p2.isList (by rw[l1,l2,hl]) hu (items rp1 rp2 v1 v2 hk),RcNeAt.lists p1' p2.isList (by rw[l1,l2,hl]) hu (items rp1 rp2 v1 v2 hk)⟩;have hk:k=false:=by simpa[eqF,hl] using h.symm
     subst hk;have hz:(its1.toArray.size != its2.toArray.size)=true:=by rw[l1,l2];simpa using hl
     exact⟨RcAt.lists_lengths p1' p2.isList hz hu,RcNeAt.lists_lengths p1' p2.isList hz hu⟩
    refine⟨?_,both.1,both.2⟩;by_cases hab:a=b;subst hab;have:=tQ I (n+1) (.lst ds) (.lst es) (.ref a) k ex ex' h1' h2' h;subst this;exact EqAt.same _;exact EqAt.of_refs hab both.1
   | tup es=>obtain⟨b,ys,rfl,q2,rp2⟩:=h2;cases r2;obtain⟨its2,v2,p2,_⟩:=I.tuple q2;have p2':s.heap.IsTuple b its2.toArray:=p2;simp[eqF] at h;subst h;exact⟨EqAt.list_tuple p1' p2' hu,RcAt.list_tuple p1' p2' hu,RcNeAt.list_tuple p1' p2' hu⟩
end
end Hp
end
noncomputable section
namespace HT
open PySem PyProof.Rows
section
open PySem.SeqAt
open PySem.AutoSeq1 (wpAny_loadPart')
open PySem.MeetsSeq PySem.MeetsSeq2 PySem.MeetsSeq3
end
section
variable {prog:Program} {w:World} {A:Around} {E:Value->Shared->Prop} {s:Shared}
end
end HT
end
noncomputable section
namespace Hp
open PySem PySem.Spec PyProof.Rows L2 PySem.SeqAt
section
variable {X:Cx} {σV:L2.St} {H:Hp} {s:Shared} {pins:List (Addr×Obj)}
mutual
theorem aAF(I:L2.Inv X pins σV H s):∀(d e:D) (u:V) (ex ex':Addr->Prop),Rep X.K H ex d u->Rep X.K H ex' e u->(∀kvs,d≠.dic kvs)->eY d=true->eY e=true->d=e
 | .non,e,u,_,_,h1,h2,_,_,_=>by
  rw[show u=.non from h1] at h2;cases e with
  | non=>rfl|_=>first|(obtain⟨a,xs,z,_⟩:=h2;cases z)|exact h2.elim|(injection h2)
 | .bl b,e,u,_,_,h1,h2,_,_,_=>by
  rw[show u=.bl b from h1] at h2;cases e with
  | bl b'=>cases(show V.bl b=.bl b' from h2);rfl|_=>first|(obtain⟨a,xs,z,_⟩:=h2;cases z)|exact h2.elim|(injection h2)
 | .int b,e,u,_,_,h1,h2,_,_,_=>by
  rw[show u=.int b from h1] at h2;cases e with
  | int b'=>cases(show V.int b=.int b' from h2);rfl|_=>first|(obtain⟨a,xs,z,_⟩:=h2;cases z)|exact h2.elim|(injection h2)
 | .str b,e,u,_,_,h1,h2,_,_,_=>by
  rw[show u=.str b from h1] at h2;cases e with
  | str b'=>cases(show V.str b=.str b' from h2);rfl|_=>first|(obtain⟨a,xs,z,_⟩:=h2;cases z)|exact h2.elim|(injection h2)
 | .tup ds,e,u,ex,ex',h1,h2,_,n1,n2=>by
  obtain⟨a,xs,z,q,r⟩:=h1;subst z;cases e with
  | tup es=>obtain⟨a',ys,z,q',r'⟩:=h2;cases z;have:xs=ys:=I.tuple_inj q q';subst this;rw[reps_inj I ds es xs ex ex' r r' (by simpa[eY] using n1) (by simpa[eY] using n2)]|lst es=>obtain⟨a',ys,z,q',_,r'⟩:=h2;cases z;exact(I.lt_ne q' q).elim|dic _=>simp[eY] at n2|err _ _=>simp[eY] at n2|_=>injection h2
 | .lst ds,e,u,ex,ex',h1,h2,_,n1,n2=>by
  obtain⟨a,xs,z,q,_,r⟩:=h1;subst z;cases e with
  | lst es=>obtain⟨a',ys,z,q',_,r'⟩:=h2;cases z;have:xs=ys:=I.list_inj q q';subst this;rw[reps_inj I ds es xs ex ex' r r' (by simpa[eY] using n1) (by simpa[eY] using n2)]|tup es=>obtain⟨a',ys,z,q',r'⟩:=h2;cases z;exact(I.lt_ne q q').elim|dic _=>simp[eY] at n2|err _ _=>simp[eY] at n2|_=>injection h2
 | .dic kvs,e,u,_,_,_,_,hn,_,_=>absurd rfl (hn kvs)|.err _ _,e,u,_,_,h1,_,_,n1,_=>by simp[eY] at n1
theorem reps_inj(I:L2.Inv X pins σV H s):∀(ds es:List D) (us:List V) (ex ex':Addr->Prop),Reps X.K H ex ds us->Reps X.K H ex' es us->noDics ds=true->noDics es=true->ds=es
 | [],[],_,_,_,_,_,_,_=>rfl|[],e::es,us,_,_,h1,h2,_,_=>by obtain⟨x,r,z,_⟩:=h2;rw[show us=[] from h1] at z;cases z|d::ds,[],us,_,_,h1,h2,_,_=>by obtain⟨x,r,z,_⟩:=h1;rw[show us=[] from h2] at z;cases z|d::ds,e::es,us,ex,ex',h1,h2,n1,n2=>by obtain⟨x,r,z,a1,b1⟩:=h1;obtain⟨x',r',z',a2,b2⟩:=h2;rw[z] at z';cases z';simp only[noDics,bA] at n1 n2;rw[aAF I d e x ex ex' a1 a2 (λkvs z=>by subst z;simp[eY] at n1) n1.1 n2.1,reps_inj I ds es r ex ex' b1 b2 n1.2 n2.2]
end
theorem aAG:∀{x:D} {ys:List D} {k:Bool},nJ x ys=some k->(∀y∈ys,∃b,eqD y x=some b)/\(k=true↔∃y∈ys,eqD y x=some true)
 | x,[],k,h=>by simp[nJ] at h;subst h;simp|x,y::ys,k,h=>by
  rw[nJ] at h;cases q1:eqD y x with
  | none=>rw[q1] at h;simp at h|some a=>
   cases q2:nJ x ys with
   | none=>rw[q1,q2] at h;simp at h|some b=>rw[q1,q2] at h;have hk:(a||b)=k:=Ah h;obtain⟨i1,i2⟩:=aAG q2;refine⟨λz hz=>?_,?_⟩;rcases A3.mp hz with e|e;subst e;exact⟨a,q1⟩;exact i1 z e;rw[<-hk,A9,i2];constructor;rintro (e|⟨z,hz,e⟩);exact⟨y,As,by rw[q1,e]⟩;exact⟨z,Ak _ hz,e⟩;rintro ⟨z,hz,e⟩;rcases A3.mp hz with e'|e';subst e';rw[q1] at e;exact .inl (Ah e);exact .inr ⟨z,e',e⟩
theorem kG:∀{ds:List D} {d:D},noDics ds=true->d∈ds->eY d=true
 | d'::ds,d,h,hm=>by simp only[noDics,bA] at h;rcases A3.mp hm with e|e;subst e;exact h.1;exact kG h.2 e
open Classical in
theorem jC(I:L2.Inv X pins σV H s){A:Around}(hA:A.units+kU+1<cLine){ex ex':Addr->Prop}{its:List Value}
 (hx:Rep X.K H ex x ux) (rx:bI ux vx) (r:Reps X.K H ex' ys xs) (v:bC xs its) (hn:noDics ys=true) (h:nJ x ys=some k) :
 ∃e:Value->Bool,(∀y,y∈its.toArray->EqAt A.in1 s y vx (e y))/\its.toArray.any e=k:=by
 obtain⟨h1,h2⟩:=aAG h;have at':∀y∈its,∃u d,bI u y/\Rep X.K H ex' d u/\d∈ys:=λy hy=>by
  obtain⟨j,hj⟩:=List.getElem?_of_mem hy;have hl:=v.length;have hjl:j<xs.length:=by have:=(Ay.mp hj).1;omega
  obtain⟨u',e',q⟩:=v.get (Ad hjl);rw[hj] at e';cases e';obtain⟨d,hd,rd⟩:=r.get' (Ad hjl);exact⟨_,d,q,rd,mG hd⟩
 refine⟨λy=>decide (∃u d,bI u y/\Rep X.K H ex' d u/\d∈ys/\eqD d x=some true),λy hy=>?_,?_⟩;obtain⟨u,d,q,rd,hd⟩:=at' y (by simpa using hy);obtain⟨b,hb⟩:=h1 d hd;have key:(decide (∃u d,bI u y/\Rep X.K H ex' d u/\d∈ys/\eqD d x=some true))=b:=by
  cases b with
  | true=>exact Aj ⟨u,d,q,rd,hd,hb⟩|false=>refine An ?_;rintro ⟨u',d',q',rd',hd',hb'⟩;have e1:u'=u:=q'.inj q;subst e1;have n1:=kG hn hd;have n2:=kG hn hd';have e2:d=d':=aAF I d d' u' ex' ex' rd rd' (λkvs z=>by subst z;simp[eY] at n1) n1 n2;subst e2;rw[hb] at hb';cases hb'
 show EqAt A.in1 s y vx (decide (∃u d,bI u y/\Rep X.K H ex' d u/\d∈ys/\eqD d x=some true));rw[key];exact(aAE I kU A.in1 d x u ux y vx b ex' ex (by rw[rM];omega) rd hx q rx hb).1;rw[Bool.eq_iff_iff,h2];constructor;intro q;have q':its.any (λy=>decide (∃u d,bI u y/\Rep X.K H ex' d u/\d∈ys/\eqD d x=some true))=true:=by simpa using q
 obtain⟨y,hy,q''⟩:=List.any_eq_true.mp q';obtain⟨u,d,_,_,hd,e⟩:=Au q'';exact⟨d,hd,e⟩;rintro ⟨d,hd,e⟩;have:its.any (λy=>decide (∃u d,bI u y/\Rep X.K H ex' d u/\d∈ys/\eqD d x=some true))=true:=by obtain⟨j,hj⟩:=List.getElem?_of_mem hd;obtain⟨u,hu,ru⟩:=r.get hj;obtain⟨y,hy,q⟩:=v.get hu;exact List.any_eq_true.mpr ⟨y,mG hy,Aj ⟨u,d,q,ru,hd,e⟩⟩
 simpa using this
end
section
variable {X:Cx} {RT Y old:Addr->Prop} {σ:Sg} {σV:L2.St} {H:Hp} {s:Shared} {pins:List (Addr×Obj)} {Q:VK} {ux uy:V} {vx vy:Value} {x y:Vl}
theorem aBR(I:L2.Inv X pins σV H s)(hA:X.A.units+200<cLine)(rx:bI ux vx)(ry:bI uy vy)(hx:Rv X.K RT Y old σ σV2 H x ux)(hy:Rv X.K RT Y old σ σV2 H y uy)
 (h:dD o x.d y.d=some k) (q:Q (.bl k) H):wpAny (model X.prog X.w) X.A (compareOp o vx vy) (EP X pins σV Q) X.xe s:=by
 have hu:X.A.units<cLine:=by omega
 have fin:EP X pins σV Q (.bool k) s:=⟨.bl k,H,I,rfl,q⟩
 have hD:kU=120:=rfl;have go:∀{f:Value->Value->Sem Value} {r:R2},OpR X f r->r ux uy H Q->wpAny (model X.prog X.w) X.A (f vx vy) (EP X pins σV Q) X.xe s:=λhr q=>hr pins s σV H ux uy vx vy Q I rx ry q;have e3:∀{b:Bool},eqD x.d y.d=some b->Eq3 X.A s vx vy b:=λ{b} hb=>aAE I kU X.A x.d y.d ux uy vx vy b _ _ (by omega) hx hy rx ry hb;cases o with
 | Eq=>exact(e3 h).2.1 X.prog X.w X.xe _ fin|NotEq=>simp only[dD,Bf] at h;obtain⟨b,hb,e⟩:=h;subst e;exact(e3 hb).2.2 X.prog X.w X.xe _ fin|Lt=>simp only[dD] at h;unfold ltD at h;split at h;rename_i a b d1 d2;exact go aKl ⟨a,b,hx.int d1,hy.int d2,by show Q (.bl (decide (a<b))) H;rw[Ah h];exact q⟩;cases h|Gt=>simp only[dD] at h;split at h;rename_i a b d1 d2;exact go aKn ⟨a,b,hx.int d1,hy.int d2,by show Q (.bl (decide (b<a))) H;rw[Ah h];exact q⟩;cases h|LtE=>simp only[dD] at h;unfold leD at h;split at h;rename_i a b d1 d2;exact go aKm ⟨a,b,hx.int d1,hy.int d2,by show Q (.bl (decide (a<=b))) H;rw[Ah h];exact q⟩;cases h|GtE=>simp only[dD] at h;split at h;rename_i a b d1 d2;exact go aKo ⟨a,b,hx.int d1,hy.int d2,by show Q (.bl (decide (b<=a))) H;rw[Ah h];exact q⟩;cases h|Is=>
  simp only[dD] at h;split at h;rename_i d2;refine go aIb ⟨hy.non d2,?_⟩;have:decide (ux=V.non)=k:=by
   rw[<-Ah h];unfold isNone;split;rename_i d1;rw[hx.non d1];simp;rename_i d1;refine An λz=>?_;rw[z] at hx;unfold Rv at hx;cases q':x.d with
   | non=>exact d1 q'|_=>rw[q'] at hx;first|(obtain⟨a,xs,z',_⟩:=hx;cases z')|exact hx.elim|injection hx
  rw[this];exact q;cases h
 | IsNot=>
  simp only[dD] at h;split at h;rename_i d2;refine go aFA ⟨hy.non d2,?_⟩;have:(!decide (ux=V.non))=k:=by
   rw[<-Ah h];unfold isNone;split;rename_i d1;rw[hx.non d1];simp;rename_i d1;rw[An λz=>?_];rw[z] at hx;unfold Rv at hx;cases q':x.d with
   | non=>exact d1 q'|_=>rw[q'] at hx;first|(obtain⟨a,xs,z',_⟩:=hx;cases z')|exact hx.elim|injection hx
  rw[this];exact q;cases h
 | In=>simp only[dD] at h;unfold inD at h;split at h;rename_i ys d2;by_cases hn:noDics ys=true;rw[if_pos hn] at h;obtain⟨b,xs,e2,p2,_,r2⟩:=hy.lst d2;subst e2;cases ry;obtain⟨its,v2,t2,_⟩:=I.list p2;obtain⟨e,he,hk⟩:=jC I (A:=X.A) (by omega) hx rx r2 v2 hn h;exact in_listAt e t2.isList he (by rw[hk];exact fin);rw[if_neg hn] at h;cases h;rename_i ys d2;by_cases hn:noDics ys=true;rw[if_pos hn] at h;obtain⟨b,xs,e2,p2,r2⟩:=hy.tup d2;subst e2;cases ry;obtain⟨its,v2,t2,_⟩:=I.tuple p2;obtain⟨e,he,hk⟩:=jC I (A:=X.A) (by omega) hx rx r2 v2 hn h;exact in_tupleAt e (show s.heap.IsTuple b its.toArray from t2) he (by rw[hk];exact fin);rw[if_neg hn] at h;cases h;rename_i a b d1 d2;exact go aBI ⟨a,b,hx.str d1,hy.str d2,by rw[show(!(Builtin.Str.occurrences b a 0 b.length 1).isEmpty)=k from Ah h];exact q⟩;cases h|NotIn=>simp only[dD,Bf] at h;obtain⟨k',h,ek⟩:=h;subst ek;unfold inD at h;split at h;rename_i ys d2;by_cases hn:noDics ys=true;rw[if_pos hn] at h;obtain⟨b,xs,e2,p2,_,r2⟩:=hy.lst d2;subst e2;cases ry;obtain⟨its,v2,t2,_⟩:=I.list p2;obtain⟨e,he,hk⟩:=jC I (A:=X.A) (by omega) hx rx r2 v2 hn h;exact notIn_listAt e t2.isList he (by rw[hk];exact fin);rw[if_neg hn] at h;cases h;rename_i ys d2;by_cases hn:noDics ys=true;rw[if_pos hn] at h;obtain⟨b,xs,e2,p2,r2⟩:=hy.tup d2;subst e2;cases ry;obtain⟨its,v2,t2,_⟩:=I.tuple p2;obtain⟨e,he,hk⟩:=jC I (A:=X.A) (by omega) hx rx r2 v2 hn h;exact notIn_tupleAt e (show s.heap.IsTuple b its.toArray from t2) he (by rw[hk];exact fin);rw[if_neg hn] at h;cases h;rename_i a b d1 d2;exact go tB ⟨a,b,hx.str d1,hy.str d2,by rw[show(!(Builtin.Str.occurrences b a 0 b.length 1).isEmpty)=k' from Ah h];exact q⟩;cases h
end
end Hp
end
noncomputable section
namespace Hp
open PySem PySem.Spec PyProof.Rows L2
theorem kZ(n:Nat)(hd:d<=n):∀lo,sIx n d lo<=n
 | none=>hd|some v=>by unfold sIx;dsimp only;split <;> omega
theorem vV(lo hi:Option Int)(n:Nat):Builtin.Str.strSliceIndices lo hi 1 n=Builtin.Str.strSliceIndices (some ((sIx n 0 lo:Nat):Int)) (some ((sIx n n hi:Nat):Int)) 1 n:=by
 have h1:(1:Int)>0:=by decide
 have key:∀(d:Nat) (hd:d<=n) (o:Option Int),(match o with|none=>(d:Int)|some i=>max 0 (min (if i<0 then i+(n:Int) else i) (n:Int)))=((sIx n d o:Nat):Int):=by
  intro d hd o;cases o with
  | none=>rfl|some i=>unfold sIx;dsimp only;split <;> omega
 have k2:∀(m:Nat),m<=n->max (0:Int) (min (if (m:Int)<0 then (m:Int)+(n:Int) else (m:Int)) (n:Int))=(m:Int):=by intro m hm;split <;> omega
 unfold Builtin.Str.strSliceIndices;simp only[h1,if_true];have e1:=key 0 (Dd _) lo;have e2:=key n (Ai _) hi;have f1:=k2 _ (kZ n (Dd _) lo);have f2:=k2 _ (kZ n (Ai _) hi);rw[f1,f2];cases lo <;> cases hi <;> simp_all
theorem qW(x:Str)(lo hi:Option Int):StrLaws.sliceText x lo hi=yS x lo hi:=by
 have hl:x.cps.toList.length=x.length:=by show _=x.cps.size;simp
 have e:StrLaws.sliceText x lo hi=StrLaws.sliceText x (some ((sIx x.length 0 lo:Nat):Int)) (some ((sIx x.length x.length hi:Nat):Int)):=by unfold StrLaws.sliceText;rw[vV]
 rw[e];unfold yS cut;rw[hl];by_cases h:sIx x.length 0 lo<=sIx x.length x.length hi;exact StrLaws.sliceText_nat x h (kZ _ (Ai _) hi);have h0:sIx x.length x.length hi-sIx x.length 0 lo=0:=by omega
 have hlo:=kZ x.length (Dd _) lo;have hhi:=kZ x.length (Ai _) hi;rw[h0,List.take_zero];generalize sIx x.length 0 lo=i at *;generalize sIx x.length x.length hi=j at *;have he:Builtin.Str.strSliceIndices (some (i:Int)) (some (j:Int)) 1 x.length=[]:=by
  unfold Builtin.Str.strSliceIndices;have h1:(1:Int)>0:=by decide
  simp only[h1,if_true];rw[if_neg (by omega),if_neg (by omega)];have a1:max (0:Int) (min (i:Int) (x.length:Int))=i:=by omega
  have a2:max (0:Int) (min (j:Int) (x.length:Int))=j:=by omega
  rw[a1,a2];unfold sliceRange;simp;omega
 unfold StrLaws.sliceText;rw[he];simp;intro hz;omega
def aDt:V->Option Int->Option Int->L2.Hp->VK->Prop:=λx lo hi H Q=>∃a,x=.str a/\a.length<=sizeLine/\Q (.str (yS a lo hi)) H
section
variable {X:Cx}
theorem aIq:SlR X aDt:=by
 intro pins s σ H x v vl vu lo hi sl Q I rx hs pl pu h;obtain⟨a,rfl,hz,q⟩:=h;obtain⟨t,rfl⟩:=rx;have fin:∀(l u:Option (Int×Tok)),l.map (·.1)=lo->u.map (·.1)=hi->s.heap.IsSlice sl l u none->wpAny (model X.prog X.w) X.A (getItem (.str a t) (.ref sl)) (EP X pins σ Q) X.xe s:=by
  intro l u e1 e2 h;refine wpAny_getItem_str_slice h rfl ?_;have e:StrLaws.sliceText a lo hi=yS a lo hi:=qW a lo hi;unfold StrLaws.sliceText at e;subst e1 e2;show Made.post (if ((1:Int)==1&&(Builtin.Str.strSliceIndices (l.map (·.1)) (u.map (·.1)) 1 a.length).length==a.length)=true then _ else _) _ s;split;rename_i hc;rw[if_pos hc] at e;exact⟨.str a,H,I,⟨t,rfl⟩,by rw[e];exact q⟩;rename_i hc;rw[if_neg hc] at e;have hle:(yS a (l.map (·.1)) (u.map (·.1))).length<=sizeLine:=by refine A1 ?_ hz;show(cut a.cps.toList _ _).toArray.size<=a.cps.size;unfold cut;rw[Ae,A4,Cd,Ck];omega
  refine⟨by rw[<-e] at hle;exact hle,.str (yS a (l.map (·.1)) (u.map (·.1))),H,I.tok _,?_,q⟩;rw[<-e];exact⟨_,rfl⟩
 refine⟨"str",_,slot_str_getitem.lookup,rfl,?_⟩;cases pl with
 | none=>
  cases pu with
  | none=>exact fin none none rfl rfl hs|int j tj=>exact fin none (some (j,tj)) rfl rfl hs
 | int i ti=>
  cases pu with
  | none=>exact fin (some (i,ti)) none rfl rfl hs|int j tj=>exact fin (some (i,ti)) (some (j,tj)) rfl rfl hs
end
theorem lB(a b:Str):(a++b).length=a.length+b.length:=by show(a.cps++b.cps).size=_;rw[Array.size_append];rfl
theorem aFV{x:Str}(h:tM x=true):(reprText x).length=x.length+2:=by
 have q:reprQuote x=39:=by
  unfold reprQuote;have:x.cps.contains 39=false:=by
   cases z:x.cps.contains 39 with
   | false=>rfl|true=>
    have hm:39∈x.cps:=by simpa using z
    unfold tM at h;rw[Array.all_eq_true'] at h;have:=h 39 hm;simp at this
  rw[this];rfl
 have all:∀c∈List.range 26,(Builtin.Str.reprChar 39 (97+c)).length=1:=by decide +kernel
 have one:∀c∈x.cps.toList,(Builtin.Str.reprChar 39 c).length=1:=λc hc=>by unfold tM at h;rw[Array.all_eq_true'] at h;have:=h c (by simpa using hc);simp only[bA,Am] at this;have z:=all (c-97) (by rw[C8];omega);rwa [show 97+(c-97)=c by omega] at z
 have fold:∀(l:List Nat) (n:Nat),(∀c∈l,(Builtin.Str.reprChar 39 c).length=1)->l.foldl (λn c=>n+(Builtin.Str.reprChar 39 c).length) n=n+l.length:=by
  intro l
  induction l with
  | nil=>intro n _;rfl|cons c l ih=>intro n hl;rw[B2,ih _ λd hd=>hl d (Ak _ hd),hl c As,lC];omega
 have e:=reprLen_eq x;rw[q,<-Array.foldl_toList,fold _ _ one] at e;rw[<-e];show 2+x.cps.toList.length=x.cps.size+2;rw[Ck];omega
mutual
theorem vW:∀d:D,wt d<lim->(gO d).shown.length<=wt d/\(gO d).showable=true/\(gO d).hasDict=false/\(gO d).depth=dpt d
 | .non,_=>by simp only[gO,PyData.shown,PyData.showable,PyData.hasDict,PyData.depth,dpt,wt];decide|.bl b,_=>by simp only[gO,PyData.shown,PyData.showable,PyData.hasDict,PyData.depth,dpt,wt];cases b <;> decide|.int i,h=>by rw[wt] at h;by_cases hi:i.natAbs<1000000000;have e:=int_text_length_le10 (k:=9) (by decide) (show i.natAbs<10 ^ 9 from hi);have l:=log2_of hi;simp only[gO,PyData.shown,PyData.showable,PyData.hasDict,PyData.depth,dpt,wt,if_pos hi,Aj l,and_self,and_true];rw[PySem.ofString_length];omega;rw[if_neg hi] at h;exact absurd h (A8 _)|.str x,h=>by rw[wt] at h;by_cases hx:tM x=true;have e:=aFV hx;simp only[gO,PyData.shown,PyData.showable,PyData.hasDict,PyData.depth,dpt,wt,if_pos hx,e,and_self,Ai];rw[if_neg hx] at h;exact absurd h (A8 _)|.tup ds,h=>by
  rw[wt] at h;obtain⟨h1,h2,h3,h4⟩:=shown_les ds (by omega);have e:(tupleText (PyData.shownAll (toPys ds))).length<=3+piled (PyData.shownAll (toPys ds)):=by
   unfold tupleText;rw[lB,lB];have e1:((("(" : String):Str)).length=1:=rfl;have e2:(((if (PyData.shownAll (toPys ds)).length==1 then ",)" else ")" : String):Str)).length<=2:=by split <;> decide
   have e3:(Str.join ", " (PyData.shownAll (toPys ds))).length<=piled (PyData.shownAll (toPys ds)):=by
    by_cases z:PyData.shownAll (toPys ds)=[]
    rw[z];decide;have:=join_length_add _ z;omega
   omega
  simp only[gO,PyData.shown,PyData.showable,PyData.hasDict,PyData.depth,dpt,wt,h2,h3,h4,and_self,and_true];omega
 | .lst ds,h=>by
  rw[wt] at h;obtain⟨h1,h2,h3,h4⟩:=shown_les ds (by omega);have e:(listText (PyData.shownAll (toPys ds))).length<=2+piled (PyData.shownAll (toPys ds)):=by
   unfold listText;rw[lB];have e1:((("]" : String):Str)).length=1:=rfl;have e2:(textFrom 0 "[" (PyData.shownAll (toPys ds))).length<=1+piled (PyData.shownAll (toPys ds)):=by
    cases PyData.shownAll (toPys ds) with
    | nil=>decide|cons t r=>have z:=textFrom_length_pos r 1 (("[" : Str)++(if (0:Nat)>0 then ", " else "" : String)++t) (Nat.succ_pos 0);show(textFrom 1 (("[" : Str)++(if (0:Nat)>0 then ", " else "" : String)++t) r).length<=_;rw[z,lB,lB,piled_cons];have e0:((("[" : String):Str)).length=1:=rfl;have e1:(((if (0:Nat)>0 then ", " else "" : String):Str)).length=0:=rfl;omega
   omega
  simp only[gO,PyData.shown,PyData.showable,PyData.hasDict,PyData.depth,dpt,wt,h2,h3,h4,and_self,and_true];omega
 | .dic _,h=>by rw[wt] at h;exact absurd h (A8 _)|.err _ _,h=>by rw[wt] at h;exact absurd h (A8 _)
theorem shown_les:∀ds:List D,wts ds<lim->piled (PyData.shownAll (toPys ds))<=wts ds/\PyData.showableAll (toPys ds)=true/\PyData.hasDictAll (toPys ds)=false/\PyData.depthAll (toPys ds)=dpts ds
 | [],_=>by simp only[toPys,PyData.shownAll,PyData.showableAll,PyData.hasDictAll,PyData.depthAll,dpts,wts];decide|d::ds,h=>by rw[wts] at h;obtain⟨h1,h2,h3,h4⟩:=vW d (by omega);obtain⟨g1,g2,g3,g4⟩:=shown_les ds (by omega);simp only[toPys,PyData.shownAll,PyData.showableAll,PyData.hasDictAll,PyData.depthAll,dpts,wts,piled_cons,h2,h3,h4,g2,g3,g4,Bool.and_self,Bool.or_self,and_self,and_true];omega
theorem log2_of{n:Nat}(h:n<1000000000):n.log2<1920:=by by_cases hz:n=0;rw[hz];decide;exact Ap ((Nat.log2_lt hz).mpr (Nat.lt_trans h (by decide:1000000000<2 ^ 30))) (by decide)
end
section
variable {X:Cx} {pins:List (Addr×Obj)} {σ:L2.St} {H:Hp} {s:Shared}
mutual
theorem vX{ex:Addr->Prop}(I:Inv X pins σ H s):∀(d:D) {v:V} {u:Value},Rep X.K H ex d v->bI v u->wt d<lim->∃as,Reads s.heap u (gO d) as
 | .non,v,u,h,r,_=>by rw[show v=.non from h] at r;rw[show u=.none from r,gO];exact⟨_,.none⟩|.bl b,v,u,h,r,_=>by rw[show v=.bl b from h] at r;rw[show u=.bool b from r,gO];exact⟨_,.bool b⟩|.int i,v,u,h,r,_=>by rw[show v=.int i from h] at r;obtain⟨t,e⟩:∃t,u=.int i t:=r;rw[e,gO];exact⟨_,.int i t⟩|.str x,v,u,h,r,_=>by rw[show v=.str x from h] at r;obtain⟨t,e⟩:∃t,u=.str x t:=r;rw[e,gO];exact⟨_,.str x t⟩|.tup ds,v,u,h,r,hw=>by obtain⟨a,xs,e,q,rr⟩:=h;subst e;rw[show u=.ref a from r,gO];rw[wt] at hw;obtain⟨its,rv,⟨o,ho,hc,n,hd⟩,_⟩:=I.tuple q;obtain⟨as,ra⟩:=reads_ofs I ds rr rv (by omega);exact⟨_,.tuple ho hc hd (by simpa using ra)⟩|.lst ds,v,u,h,r,hw=>by obtain⟨a,xs,e,q,_,rr⟩:=h;subst e;rw[show u=.ref a from r,gO];rw[wt] at hw;obtain⟨its,rv,pl,_⟩:=I.list q;obtain⟨o,ho,hc,n,hd⟩:=pl.isList;obtain⟨as,ra⟩:=reads_ofs I ds rr rv (by omega);exact⟨_,.list ho hc hd (by simpa using ra)⟩|.dic _,_,_,_,_,hw=>by rw[wt] at hw;exact absurd hw (A8 _)|.err _ _,_,_,_,_,hw=>by rw[wt] at hw;exact absurd hw (A8 _)
theorem reads_ofs{ex:Addr->Prop}(I:Inv X pins σ H s):∀(ds:List D) {vs:List V} {us:List Value},Reps X.K H ex ds vs->bC vs us->wts ds<lim->∃as,ReadsAll s.heap us (toPys ds) as
 | [],vs,us,h,r,_=>by rw[show vs=[] from h] at r;cases r;exact⟨_,by rw[toPys];exact .nil⟩|d::ds,vs,us,h,r,hw=>by
  obtain⟨x,r',e,h1,h2⟩:=h;subst e;cases r with
  | cons r1 r2=>rw[wts] at hw;obtain⟨as,ra⟩:=vX I d h1 r1 (by omega);obtain⟨bs,rb⟩:=reads_ofs I ds h2 r2 (by omega);exact⟨_,by rw[toPys];exact .cons ra rb⟩
end
theorem zB(hg:X.A.guards=some [])(hu:X.A.units+200<cLine):fW X (.builtin "repr") (λxs H Q=>∃(a:Addr) (ds:List D) (ex:Addr->Prop),xs=[.ref a]/\Rep X.K H ex (.tup ds) (.ref a)/\wt (.tup ds)<lim/\dpt (.tup ds)<=60/\Q (.str (fK (.tup ds))) H):=by
 intro pins s σ H xs us Q I r h;obtain⟨a,ds,ex,rfl,hr,hw,hd,q⟩:=h;cases r with
 | cons r rr=>
  cases rr;cases r;obtain⟨as,ra⟩:=vX I (.tup ds) hr rfl hw;obtain⟨s1,s2,s3,s4⟩:=vW (.tup ds) hw;refine repr_of_reads' ra s2 (PyData.noDict_hsm s3) hg (by omega) (λ_ _ e=>e) (λh' u tk hk=>?_) ?_;exact⟨.str (fK (.tup ds)),H,I.kept (t':=tk) hk,⟨_,rfl⟩,q⟩;have:lim<=sizeLine:=by rw[Bz];decide
  omega
end
section
variable {X:Cx} {RT Y old:Addr->Prop} {σ:Sg} {σV:L2.St} {H:Hp} {s:Shared} {pins:List (Addr×Obj)} {Q:VK} {ux uy:V} {vx vy:Value} {x y:Vl}
theorem tR(n:Nat)(k:Int):Hp.ixN n k=L2.ixN n k:=rfl
theorem Rv.ofSub(h:Rep X.K H (exV RT Y old σ σV x.pa x.al) d u):Ro X.K RT Y old σ σV H H (x.sub d) u:=by refine Ro.plain (aP.refl H) ?_ (Rv.sub (ds:=[]) (xs:=[]) (j:=0) h);unfold Vl.sub Vl.cl;split <;> rfl
theorem aBS(t:Tk X.K H)(hx:Rv X.K RT Y old σ σV H x ux)(hy:Rv X.K RT Y old σ σV H y uy){w:D->Prop}(h:RE w (bK x y) (Wn X RT Y old σ σV H Q)):rIx X.K ux uy H (λv H'=>Tk X.K H'->Q v H'):=by
 unfold bK at h;split at h;rename_i ds k d1 d2;obtain⟨a,xs,e,q,_,r⟩:=hx.lst d1;cases hj:Hp.ixN ds.length k with
 | none=>rw[hj] at h;exact h.elim|some j=>
  rw[hj] at h;cases hd:ds[j]? with
  | none=>simp only[hd] at h;exact h.elim|some d=>simp only[hd] at h;obtain⟨v,hv,rv⟩:=r.get hd;refine .inl ⟨a,xs,k,v,e,hy.int d2,q,?_,λt'=>h v H t' (Rv.ofSub rv)⟩;unfold atI;rw[<-r.length,<-tR,hj];exact hv
 rename_i ds k d1 d2;obtain⟨a,xs,e,q,r⟩:=hx.tup d1;cases hj:Hp.ixN ds.length k with
 | none=>rw[hj] at h;exact h.elim|some j=>
  rw[hj] at h;cases hd:ds[j]? with
  | none=>simp only[hd] at h;exact h.elim|some d=>simp only[hd] at h;obtain⟨v,hv,rv⟩:=r.get hd;refine .inr (.inl ⟨a,xs,k,v,e,hy.int d2,q,?_,λt'=>h v H t' (Rv.ofSub rv)⟩);unfold atI;rw[<-r.length,<-tR,hj];exact hv
 rename_i z k d1 d2;obtain⟨c,h⟩:=h.iff;have c':=Au c;cases hj:Hp.ixN z.length k with
 | none=>rw[hj] at h;exact h.elim|some j=>
  rw[hj] at h;cases hd:z.cps.toList[j]? with
  | none=>simp only[hd] at h;exact h.elim|some c=>
   simp only[hd] at h;refine .inr (.inr ⟨z,k,c,hx.str d1,hy.int d2,eT c',?_,λt'=>Wn.val h t' λ_=>rfl⟩);unfold atI;have hl:z.cps.toList.length=z.length:=by simp[Str.length]
   rw[hl,<-tR,hj];exact hd
 exact h.elim
theorem tS(n d:Nat)(o:Option Int):Hp.sIx n d o=HT.sIx n d o:=by cases o <;> rfl
theorem vY{K:Fg}{ex:Addr->Prop}{ds:List D}{xs:List V}(r:Reps K H ex ds xs)(lo hi:Option Int):Reps K H ex (cut ds lo hi) (vM xs lo hi):=by unfold cut vM;rw[tS,tS,r.length];exact(r.drop _).take _
theorem jU{prog:Program}{w:World}{A:Around}{E:Value->Shared->Prop}{t sl:Addr}{items:Array Value}{vl vu:Value}{lo hi:Option Int}{Q:Value->Shared->Prop}(ht:IsTup s.heap t items)(hs:s.heap.IsSliceOf sl vl vu .none)(pl:IsPart vl lo)(pu:IsPart vu hi)
 (hw:HT.sIx items.size 0 lo=0/\HT.sIx items.size items.size hi=items.size) (h:Q (.ref t) s):wpAny (model prog w) A (getItem (.ref t) (.ref sl)) Q E s:=by
 obtain⟨os,hos,hcs,hds⟩:=id hs;have hTs:s.TypeIs (.ref sl) "slice" := ⟨os,hos,hcs⟩
 unfold getItem
 try with_reducible refine C7 ?_
 first|refine Aa (Al ?_)|skip
 refine Aa (wpAny_sequenceKey ht.typeIs (by decide) ?_);refine Aa (Bt (name:=Str.ofString "__getitem__") ht.typeIs Bq
  (Cp Bq ht.typeIs entry_tuple_getitem ?_ (args_tuple_getitem _ _)))
 show wpAny _ _ (Builtin.Tuple.tupleItemsOf (.ref t) >>= _) _ _ s;refine Aa (tupleItemsOf_ ht ?_);refine Aa (wpAny_typeOf hTs ?_);rw[if_pos (by decide)];refine Aa (HT.sliceApplied_gen hs pl pu ?_);have hyes:(((HT.sIx items.size 0 lo:Nat):Int)==0&&(1:Int)==1&&(HT.sIx items.size items.size hi-HT.sIx items.size 0 lo)==items.size)=true:=by rw[hw.1,hw.2];simp
 show wpAny _ _ (if (((HT.sIx items.size 0 lo:Nat):Int)==0&&(1:Int)==1&&(HT.sIx items.size items.size hi-HT.sIx items.size 0 lo)==items.size)=true then _ else _) _ _ s;rw[if_pos hyes];unfold Builtin.Tuple.tupleIsExact;refine Aa (Aa (wpAny_typeOf ht.typeIs (Al ?_)));rw[if_pos (Bu _)];exact Aa (wpAny_rule (Al ⟨_,rfl,Al h⟩))
def vZ(K:Fg):V->Option Int->Option Int->Hp->VK->Prop:=λx lo hi H Q=>∃a xs,x=.ref a/\SqT K H a xs/\(HT.sIx xs.length 0 lo=0/\HT.sIx xs.length xs.length hi=xs.length)/\Q (.ref a) H
theorem aFW:SlR X (vZ X.K):=by
 intro pins s σ H x v vl vu lo hi sl Q I rx hs pl pu h;obtain⟨a,xs,rfl,hx,hw,q⟩:=h;cases rx;obtain⟨its,r,ht,hz⟩:=I.tuple hx;have hlen:its.toArray.size=xs.length:=by rw[Ae];exact r.length.symm
 refine⟨"tuple",_,Bq.lookup,ht.typeIs,?_⟩;exact jU ht hs pl pu (by rw[hlen];exact hw) ⟨.ref a,H,I,rfl,q⟩
theorem aIr:SlR X (λx lo hi H Q=>aCY X.K x lo hi H Q\/aCW X.K x lo hi H Q\/vZ X.K x lo hi H Q\/aDt x lo hi H Q):=aFK.or (aIe.or (aFW.or aIq))
theorem aBT{α:Type}{xs:List α}{lo hi:Option Int}(h1:Hp.sIx xs.length 0 lo=0)(h2:Hp.sIx xs.length xs.length hi=xs.length):cut xs lo hi=xs:=by unfold cut;rw[h1,h2,List.drop_zero,Nat.sub_zero,Da]
theorem aBU{lo hi:Option Int}(S:Sx X.K RT Y old σ σV H)(t:Tk X.K H)(hx:Rv X.K RT Y old σ σV H x ux){w:D->Prop}(h:RE w (eG x lo hi) (Wn X RT Y old σ σV H Q)) :
 aCY X.K ux lo hi H (λv H'=>Tk X.K H'->Q v H')\/aCW X.K ux lo hi H (λv H'=>Tk X.K H'->Q v H')\/vZ X.K ux lo hi H (λv H'=>Tk X.K H'->Q v H')\/aDt ux lo hi H (λv H'=>Tk X.K H'->Q v H'):=by
 unfold eG at h;split at h;rename_i ds d1;obtain⟨a,xs,e,q,_,r⟩:=hx.lst d1;refine .inl ⟨a,xs,e,q,λp hp t'=>h _ _ t' (Ro.fresh hp t' rfl rfl S ?_)⟩;exact vY (fY r) lo hi;rename_i ds d1;obtain⟨a,xs,e,q,r⟩:=hx.tup d1;have r':=fY r;by_cases hw:HT.sIx xs.length 0 lo=0/\HT.sIx xs.length xs.length hi=xs.length;refine .inr (.inr (.inl ⟨a,xs,e,q,hw,λt'=>h _ _ t' (Ro.plain (aP.refl H) rfl ?_)⟩));have e':cut ds lo hi=ds:=aBT (by rw[tS,r.length];exact hw.1) (by rw[tS,r.length];exact hw.2);unfold Rv;show Rep X.K H _ (.tup (cut ds lo hi)) (.ref a);rw[e'];exact⟨a,xs,rfl,q,r'⟩;exact .inr (.inl ⟨a,xs,e,q,hw,λp hp t'=>h _ _ t' (Ro.tup hp rfl rfl (vY r' lo hi))⟩);rename_i a d1;obtain⟨hl,h⟩:=h.iff;have e:ux=.str a:=by have z:=hx;unfold Rv at z;rw[d1] at z;exact z
 exact .inr (.inr (.inr ⟨a,e,eT (Au hl),λt'=>h _ _ t' (Ro.cl (aP.refl H) rfl)⟩));exact h.elim
theorem lD:∀{ds:List D} {bs:List Bool} {xs:List V} {ex:Addr->Prop},cM ds=some bs->Reps X.K H ex ds xs->xs=bs.map V.bl
 | [],bs,xs,ex,h,r=>by simp[cM] at h;subst h;exact r|.bl a::ds,bs,xs,ex,h,r=>by
  obtain⟨x,r',z,h1,h2⟩:=r;rw[cM] at h;cases q:cM ds with
  | none=>rw[q] at h;cases h|some ms=>rw[q] at h;cases h;rw[z,show x=.bl a from h1,lD q h2];rfl
 | .non::ds,ns,xs,ex,h,r=>by simp[cM] at h|.int _::ds,ns,xs,ex,h,r=>by simp[cM] at h|.str _::ds,ns,xs,ex,h,r=>by simp[cM] at h|.tup _::ds,ns,xs,ex,h,r=>by simp[cM] at h|.lst _::ds,ns,xs,ex,h,r=>by simp[cM] at h|.dic _::ds,ns,xs,ex,h,r=>by simp[cM] at h|.err _ _::ds,ns,xs,ex,h,r=>by simp[cM] at h
theorem aBV:∀{bs:List Bool} {us:List Value},bC (bs.map V.bl) us->us=bs.map Value.bool:=by
 intro bs
 induction bs with
 | nil=>intro us r;rw[mN] at r;cases r;rfl|cons b bs ih=>
  intro us r;rw[mC] at r;cases r with
  | cons r1 r2=>rw[show _=Value.bool b from r1,ih r2];rfl
theorem zC(bs:List Bool):((List.range bs.length).all λi=>(bs[i]?).getD true)=bs.all id:=by rw[Bool.eq_iff_iff];simp only[Az,C8,id];constructor;intro h b hb;obtain⟨i,hi⟩:=List.getElem?_of_mem hb;have:=h i (Ay.mp hi).1;rw[hi] at this;simpa using this;intro h i hi;have e:=Ad hi;rw[e];exact h _ (A7 hi)
theorem aBW(hc:X.calm=true):fW X (.builtin "all") (λxs H Q=>∃(p:Addr) (bs:List Bool),xs=[.ref p]/\SqL X.K H p (bs.map V.bl)/\Q (.bl (bs.all id)) H):=by
 intro pins s σ H xs us Q I r h;obtain⟨p,bs,rfl,hq,q⟩:=h;obtain⟨u,rfl,rx⟩:=oH r;cases rx;obtain⟨its,rv,pl,hz⟩:=I.list hq;have hit:=aBV rv;subst hit;have hl:=pl.isList;have hlt:p<s.heap.objs.size:=pl.lt;refine call_all_walk (wpAny_pyIter_list hl ?_);refine⟨s.heap.objs.size,[s.heap.objs.size,p],[s.heap.objs.size],(bs.map Value.bool).toArray.size,_,_,λi=>(bs[i]?).getD true,rfl,Walks.list (A:=X.A.in1) (I.ok.hd hc) _ p (A0 hlt) _,
  ⟨⟨_,Ao _ rfl,rfl,rfl⟩,hl.push _⟩,λi v s' Q' E' hP hQ=>?_,λh' tk hk=>?_⟩
 have hP':bs[i]?.map Value.bool=some v:=by simpa using hP
 cases e:bs[i]? with
 | none=>rw[e] at hP';cases hP'|some b=>rw[e] at hP';cases hP';simp only[e,Option.getD_some] at hQ;exact Cg hQ
 have e:((List.range (bs.map Value.bool).toArray.size).all λi=>(bs[i]?).getD true)=bs.all id:=by rw[Ae,lM];exact zC bs
 rw[e];refine⟨.bl _,H,I.kept (t':=tk) λb o e'=>hk b o ?_ (Ab _ e'),rfl,q⟩;intro hm;rw[Bw.mp hm] at e';exact A8 _ (Ag e')
def rBi(X:Cx)(b:Bi):List V->Hp->VK->Prop:=match b with|.len=>λxs H Q=>(∃p ys,xs=[.ref p]/\(SqL X.K H p ys\/SqT X.K H p ys)/\Q (.int ys.length) H)\/∃z,xs=[.str z]/\z.length<=sizeLine/\Q (.int z.length) H|.list=>λxs H Q=>∃p ys,xs=[.ref p]/\(SqL X.K H p ys\/SqT X.K H p ys)/\∀l,H l=none->Q (.ref l) (upd H l (.lst ys))|.tuple=>λxs H Q=>∃p ys,xs=[.ref p]/\((SqL X.K H p ys/\∀l,H l=none->Q (.ref l) (upd H l (.tup ys)))\/(SqT X.K H p ys/\Q (.ref p) H))|.int=>λxs H Q=>(∃i,xs=[.int i]/\Q (.int i) H)\/∃k,xs=[.bl k]/\Q (.int (if k then 1 else 0)) H|.repr=>λxs H Q=>∃(a:Addr) (ds:List D) (ex:Addr->Prop),xs=[.ref a]/\Rep X.K H ex (.tup ds) (.ref a)/\wt (.tup ds)<lim/\dpt (.tup ds)<=60/\Q (.str (fK (.tup ds))) H|.all=>λxs H Q=>∃(p:Addr) (bs:List Bool),xs=[.ref p]/\SqL X.K H p (bs.map V.bl)/\Q (.bl (bs.all id)) H|_=>λ_ _ _=>False
noncomputable def aHn:Bi->Value
 | .len=>.builtin "len" | .list=>.type "list" | .tuple=>.type "tuple" | .min=>.builtin "min" | .max=>.builtin "max" | .abs=>.builtin "abs" | .int=>.type "int" | .str=>.type "str"
 | .all=>.builtin "all" | .any=>.builtin "any" | .sum=>.builtin "sum" | .sorted=>.builtin "sorted" | .bool=>.type "bool" | .repr=>.builtin "repr"
theorem aFX(hc:X.calm=true)(hg:X.A.guards=some [])(hu:X.A.units+200<cLine)(b:Bi)(hb:aDm b=true):fW X (aHn b) (rBi X b):=by
 cases b with
 | len=>exact tD.or tE|list=>exact tF|tuple=>exact qU|int=>exact aBJ|all=>exact aBW hc|repr=>exact zB hg hu|_=>cases hb
theorem aDu(hb:aDm b=true)(S:Sx X.K RT Y old σ σV H)(hv:Rvs X.K RT Y old σ σV H vs us){w:D->Prop}(h:RE w (biD b vs) (Wn X RT Y old σ σV H Q)) :
 rBi X b us H (λv H'=>Tk X.K H'->Q v H'):=by
 unfold biD at h;split at h;rename_i x;obtain⟨u,r,e,hx,hr⟩:=hv;rw[show r=[] from hr] at e;subst e;cases b with
 | len=>dsimp only[vQ] at h;split at h;rename_i ds d1;obtain⟨a,xs,e,q,_,r⟩:=hx.lst d1;exact .inl ⟨a,xs,by rw[e],.inl q,λt'=>by rw[<-r.length];exact Wn.val h t' λ_=>rfl⟩;rename_i ds d1;obtain⟨a,xs,e,q,r⟩:=hx.tup d1;exact .inl ⟨a,xs,by rw[e],.inr q,λt'=>by rw[<-r.length];exact Wn.val h t' λ_=>rfl⟩;rename_i z d1;obtain⟨c,h⟩:=h.iff;exact .inr ⟨z,by rw[hx.str d1],eT (Au c),λt'=>Wn.val h t' λ_=>rfl⟩;exact h.elim|list=>dsimp only[vQ] at h;split at h;rename_i ds d1;obtain⟨a,xs,e,q,_,r⟩:=hx.lst d1;exact⟨a,xs,by rw[e],.inl q,λp hp t'=>h _ _ t' (Ro.fresh hp t' rfl rfl S (fY r))⟩;rename_i ds d1;obtain⟨a,xs,e,q,r⟩:=hx.tup d1;exact⟨a,xs,by rw[e],.inr q,λp hp t'=>h _ _ t' (Ro.fresh hp t' rfl rfl S (fY r))⟩;exact h.elim|tuple=>dsimp only[vQ] at h;split at h;rename_i ds d1;obtain⟨a,xs,e,q,_,r⟩:=hx.lst d1;exact⟨a,xs,by rw[e],.inl ⟨q,λp hp t'=>h _ _ t' (Ro.tup hp rfl rfl (fY r))⟩⟩;rename_i ds d1;obtain⟨a,xs,e,q,r⟩:=hx.tup d1;exact⟨a,xs,by rw[e],.inr ⟨q,λt'=>h _ _ t' (Ro.plain (aP.refl H) rfl ⟨a,xs,rfl,q,r⟩)⟩⟩;exact h.elim|abs=>cases hb|int=>dsimp only[vQ] at h;split at h;rename_i i d1;exact .inl ⟨i,by rw[hx.int d1],λt'=>Wn.val h t' λ_=>rfl⟩;rename_i k d1;exact .inr ⟨k,by rw[hx.bl d1],λt'=>Wn.val h t' λ_=>rfl⟩;exact h.elim|str=>cases hb|all=>dsimp only[vQ] at h;split at h;rename_i ds d1;obtain⟨a,xs,e,q,_,r⟩:=hx.lst d1;split at h;rename_i bs hbs;rw[lD hbs r] at q;exact⟨a,bs,by rw[e],q,λt'=>Wn.val h t' λ_=>rfl⟩;exact h.elim;exact h.elim|repr=>dsimp only[vQ] at h;split at h;rename_i ds d1;obtain⟨c,h⟩:=h.iff;simp only[bA,Am] at c;obtain⟨a,xs,e,q,r⟩:=hx.tup d1;exact⟨a,ds,_,by rw[e],⟨a,xs,rfl,q,r⟩,c.1,c.2,λt'=>Wn.val h t' λ_=>rfl⟩;exact h.elim|bool=>cases hb|sum=>cases hb|any=>cases hb|sorted=>cases hb|min=>exact h.elim|max=>exact h.elim
 rename_i x y;obtain⟨u,r,e,hx,u',r',e',hy,hr⟩:=hv;rw[show r'=[] from hr] at e';subst e' e;cases b <;> first|exact h.elim|cases hb
 exact h.elim
noncomputable def wB:Cl->Option Value
 | .tInt=>some (.type "int")|.tBool=>some (.type "bool")|.tStr=>some (.type "str")|.tList=>some (.type "list")|.tTuple=>some (.type "tuple")|.tDict=>some (.type "dict")
 | _=>none
noncomputable def tyD:D->Option String
 | .non=>some "NoneType" | .bl _=>some "bool" | .int _=>some "int" | .str _=>some "str" | .tup _=>some "tuple" | .lst _=>some "list" | .dic _=>some "dict" | .err _ _=>none
theorem gR(K:Fg)(P:Pg){c:Cl}{cv:Value}{d:D}{k:Bool}{T:String}(hc:wB c=some cv)(hT:tyD d=some T)(h:isI [c] P d=some k):PySem.W.kitOne K (.type T) cv=some k:=by
 cases c with
 | own c=>cases hc|tValueError=>cases hc|tInt=>cases hc;cases d <;> cases hT <;> simp[isI] at h <;> subst h <;> kernel_rfl|tBool=>cases hc;cases d <;> cases hT <;> simp[isI] at h <;> subst h <;> kernel_rfl|tStr=>cases hc;cases d <;> cases hT <;> simp[isI] at h <;> subst h <;> kernel_rfl|tList=>cases hc;cases d <;> cases hT <;> simp[isI] at h <;> subst h <;> kernel_rfl|tTuple=>cases hc;cases d <;> cases hT <;> simp[isI] at h <;> subst h <;> kernel_rfl|tDict=>cases hc;cases d <;> cases hT <;> simp[isI] at h <;> subst h <;> kernel_rfl
theorem aBX(P:Pg)(I:L2.Inv X pins σV H s)(rx:bI ux vx)(hx:Rv X.K RT Y old σ σV H x ux)(hc:wB c=some cv)(h:isI [c] P x.d=some k)(q:Q (.bl k) H) :
 wpAny (model X.prog X.w) X.A (PySem.call (.builtin "isinstance") [vx,cv]) (EP X pins σV Q) X.xe s:=by
 have fin:∀tk,EP X pins σV Q (.bool k) { s with toks:=tk }:=λtk=>⟨.bl k,H,I.tok tk,rfl,q⟩
 cases d:x.d with
 | non=>have e:=gR X.K P hc (by rw[d];rfl) h;rw[hx.non d] at rx;cases rx;exact Co PySem.W.kitx_none I.kIn True.intro e (λz=>nomatch z) fin|bl b=>have e:=gR X.K P hc (by rw[d];rfl) h;rw[hx.bl d] at rx;cases rx;exact Co PySem.W.kitx_bool I.kIn True.intro e (λz=>nomatch z) fin|int i=>have e:=gR X.K P hc (by rw[d];rfl) h;rw[hx.int d] at rx;obtain⟨t,rfl⟩:=rx;exact Co PySem.W.kitx_int I.kIn True.intro e (λz=>nomatch z) fin|str z=>have e:=gR X.K P hc (by rw[d];rfl) h;rw[hx.str d] at rx;obtain⟨t,rfl⟩:=rx;exact Co PySem.W.kitx_str I.kIn True.intro e (λz=>nomatch z) fin|tup ds=>have e:=gR X.K P hc (by rw[d];rfl) h;obtain⟨a,xs,e1,p,_⟩:=hx.tup d;subst e1;cases rx;obtain⟨its,_,t,_⟩:=I.tuple p;obtain⟨o,h1,h2,_⟩:=t;exact Co PySem.W.kitx_tuple I.kIn ⟨o,h1,h2⟩ e (λz=>nomatch z) fin|lst ds=>have e:=gR X.K P hc (by rw[d];rfl) h;obtain⟨a,xs,e1,p,_⟩:=hx.lst d;subst e1;cases rx;obtain⟨its,_,t,_⟩:=I.list p;obtain⟨o,n,h1,h2,_⟩:=t;exact Co PySem.W.kitx_list I.kIn ⟨o,h1,h2⟩ e (λz=>nomatch z) fin|dic kvs=>
  have e:=gR X.K P hc (by rw[d];rfl) h;unfold Rv at hx;rw[d] at hx;obtain⟨a,ks,e1,p,_⟩:=hx;subst e1;cases rx;obtain⟨_,_,vs,_,o,es,ep,h1,h2,_⟩:=(show cV X.prog X.w H s.heap a (.dK ks) from I.hok a _ p)
  exact Co PySem.W.kitx_dict I.kIn ⟨o,h1,h2.1⟩ e (λz=>nomatch z) fin
 | err _ _=>rw[d] at h;cases h
end
def wC(prog:Program)(w:World)(K:Fg)(a:Addr)(t:List (Str×D)):Prop:=(a==sysModules)=false/\∃vs:List (Key×Value),(∀h:Heap,K.In h->h.DictOf (gM prog w) a vs) /\
 ∀k:Str,(t.lookup k=none/\valueAt vs (Sum.inr k:Key)=none)\/∃d u v,t.lookup k=some d/\valueAt vs (Sum.inr k:Key)=some u/\bI v u/\∀(H:Hp) (ex:Addr->Prop),Rep K H ex d v
section
variable {X:Cx}
end
end Hp
end
noncomputable section
namespace L2
open PySem PySem.Spec PyProof.Rows
abbrev bmV:List Value:=[.type "ValueError",.type "Exception",.type "BaseException",.type "object"]
section
variable {X:Cx}
theorem cV.old(x:cV P w H h a o):Old h a:=by
 cases o with
 | lst xs=>obtain⟨_,_,_,_,e⟩:=x;exact⟨_,e⟩|tup xs=>obtain⟨_,_,_,ob,e,_⟩:=x;exact⟨_,e⟩|dK kvs=>obtain⟨_,_,_,_,o,_,_,e,_⟩:=x;exact⟨_,e⟩|dT kvs=>obtain⟨_,_,_,_,o,_,_,e,_⟩:=x;exact⟨_,e⟩|set S n=>obtain⟨o,_,_,_,e,_⟩:=x;exact⟨_,e⟩|ins C dx fs=>obtain⟨_,_,_,e,_⟩:=x;exact⟨_,e⟩|own y=>obtain⟨_,e⟩:=x;exact⟨_,e⟩|xd fs=>obtain⟨_,⟨_,_,_,e,_⟩,_⟩:=x;exact⟨_,e⟩|rng lo hi=>obtain⟨_,_,_,e⟩:=x;exact⟨_,e⟩|frz ob u=>obtain⟨e,_⟩:=x;exact⟨_,e⟩|tbl ps=>exact⟨_,(show h.get? a=some _ from x)⟩|met f y=>exact⟨_,(show h.get? a=some _ from x)⟩|ext φ=>obtain⟨_,e,_⟩:=x;exact e
theorem aIs{h:Heap}(KX:X.K.In h)(q:PySem.W.excIn X.K C bmV newId=true) :
 ∃bm N nm q bs hdct sn sub ab col dd k0 k1 k2 k3 k5 mN,h.get? C=some (excClassObj nm q C N bs bm hdct sn sub ab col dd k0 k1 k2 k3 k5 newId)/\h.Ns N mN/\mN "__init__" = none/\OwnTail h bmV bm:=by
 unfold PySem.W.excIn at q;split at q;rename_i dd cd sl ho;split at q;rename_i C' bm k0 k1 k2 k3 n k5 hm hs;simp only[bA,Ci,Cr] at q;obtain⟨⟨⟨⟨⟨rfl,rfl⟩,hdel⟩,ht⟩,hok⟩,hni⟩:=q;obtain⟨nm,bs,mro,ns,qn,hd,sn,sub,ab,col,del⟩:=cd;dsimp only at hm hdel hok hni;subst hm hdel;have hsl:sl=#[k0,k1,k2,k3,some (.builtin n),k5]:=by obtain⟨l⟩:=sl;simp only at hs;rw[hs]
 subst hsl;exact⟨bm,ns,nm,qn,bs,hd,sn,sub,ab,col,dd,k0,k1,k2,k3,k5,_,KX _ _ ho,.of_isNs (PySem.W.isNs_of_in KX hok),PySem.W.nsMap_none_of_in KX hok hni,PySem.W.tail_of_in KX ht⟩;cases q;cases q
noncomputable def iN(K:PySem.W.Frag)(C:Addr):Bool:=match K.lookup C with
 | some ⟨.type "type",_,.cls cd,sl⟩=>(match cd.mro,sl.toList with
  | .ref C'::bm,[_,_,_,_,some (.builtin n),_]=>C'==C&&n == "ValueError.__new__" && !cd.hasDel&&PySem.W.tailIn K bmV bm|_,_=>false)
 | _=>false
theorem tU{h:Heap}(KX:X.K.In h)(q:iN X.K C=true) :
 ∃bm N nm q bs hdct sn sub ab col dd k0 k1 k2 k3 k5,h.get? C=some (excClassObj nm q C N bs bm hdct sn sub ab col dd k0 k1 k2 k3 k5 "ValueError.__new__")/\OwnTail h bmV bm:=by
 unfold iN at q;split at q;rename_i dd cd sl ho;split at q;rename_i C' bm k0 k1 k2 k3 n k5 hm hs;simp only[bA,Ci,Cr] at q;obtain⟨⟨⟨rfl,rfl⟩,hdel⟩,ht⟩:=q;obtain⟨nm,bs,mro,ns,qn,hd,sn,sub,ab,col,del⟩:=cd;dsimp only at hm hdel;subst hm hdel;have hsl:sl=#[k0,k1,k2,k3,some (.builtin "ValueError.__new__"),k5]:=by obtain⟨l⟩:=sl;simp only at hs;rw[hs]
 subst hsl;exact⟨bm,ns,nm,qn,bs,hd,sn,sub,ab,col,dd,k0,k1,k2,k3,k5,KX _ _ ho,PySem.W.tail_of_in KX ht⟩;cases q;cases q
theorem aDv(m:Heap.MadeExcOf h h' e (.ref C) vs)(hn:H e=none)(l:∀b,Old h0 b->b∉ex->Old h b)(l':∀b∈L,Old h b):Fly h0 ex H L e (.ref C) h':=by
 have hne:¬ Old h e:=λ⟨o,q⟩=>by rw[m.new] at q;cases q
 refine⟨none,?_,λb z=>?_⟩;obtain⟨t,ht,_⟩:=m.there;exact⟨_,_,ht,rfl,rfl,rfl,rfl⟩;rcases z with rfl|z;exact⟨λz=>hne (l _ z.1 z.2),hn,λz=>hne (l' _ z)⟩;cases z
theorem aDw{E:Value->St->Hp->Prop}(Fn:ExcBaseFacts Bn newId inN bmN)(hBn:bmV.contains (.type Bn)=true)
 (hg:Gl X x) (hm:X.mg x=some (.ref C)) (q:PySem.W.excIn X.K C bmV newId=true) (ha:PA X (a::args) t) (hc:X.calm=true) (hR:Rs X E)
 (hd:(x==("__debug__" : Str))=false) (he:starEach (a::args) X.env=(false,eval a X.env)::starEach args X.env) (hpl:(backTo cpos (starEach (a::args) X.env)).any (·.1)=false) :
 PS X (.Raise (some (.Call (.Name x np) (a::args) [] cpos)) none pos) (λD σ H=>t σ H λvs H1=>vs.length<=sizeLine/\E (.ref C) σ H1):=by
 intro pins s σ H D I h;obtain⟨bm,N,nm,qn,bs,hdct,sn,sub,ab,col,dd,k0,k1,k2,k3,k5,mN,hC,hN,hni,TL⟩:=aIs I.mod.kin q;have ha':=ha cpos pins s σ H _ I h;refine wpAny_Raise_call_subU (C:=C) (nm:=nm) (q:=qn) (N:=N) (bs:=bs) (bm:=bm) (hdct:=hdct) (sn:=sn) (sub:=sub) (ab:=ab) (col:=col) (dd:=dd) (k0:=k0) (k1:=k1) (k2:=k2) (k3:=k3) (k5:=k5) (newId:=newId) (mN:=mN)
  Fn hBn Dk (TL.hasType rfl) (I.ok.hd hc) hpl hni (fV I hg hm ⟨rfl,?_⟩ hd)
 rw[he] at ha' ⊢;refine Calls.evalArgs_plain (thn ha' λus s2 ⟨vs,H1,I1,rv,hl,hE⟩=>⟨rfl,by rw[<-rv.length];exact hl,I1.bk _ _ hC,hN.keeps I1.bk,TL.keeps I1.bk,λh' e m=>?_⟩);have hn:H1 e=none:=by
  cases z:H1 e with
  | none=>rfl|some o=>obtain⟨ob,hob⟩:=(I1.hok e o z).old;rw[m.new] at hob;cases hob
 exact hR pins σ H1 { s2 with heap:=h' } e (.ref C) (I1.un (t':=s2.toks) (Un.kept m.keeps) (I1.hok.kept m.keeps)) (aDv m hn (tP I1) (kY I1)) hE
end
section
variable {X:Cx} {pins:List (Addr×Obj)} {σ:St} {H:Hp} {s:Shared} {h':Heap}
theorem Rec.data{h:Heap}(r:Rec h e cls T):∀b,(b=e\/T=some b)->∃o vs,h.get? b=some o/\o.data=.fields vs:=by obtain⟨oe,vs,he,_,_,hd,hT⟩:=r;intro b hb;rcases hb with rfl|hb;exact⟨oe,vs,he,hd⟩;subst hb;obtain⟨_,_,oT,ts,g1,g2,_⟩:=hT;exact⟨oT,ts,g1,g2⟩
theorem Inv.note{fr:List Addr}{e:Addr}{cls:Value}{T:Option Addr}(I:Inv X pins σ H s)(x:Lx fr e T s.heap h')(hfr:∀b∈fr,b∈frs X.stack)(hfs:∀b∈X.fs,b∈fr\/fr=[])(r:Rec s.heap e cls T)
 (n:∀b,(b=e\/T=some b)->¬ (Old X.s₀.heap b/\b∉X.ex)/\H b=none/\b∉pinA X pins):Inv X pins σ H { s with heap:=h' }:=by
 have any:∀b o,s.heap.get? b=some o->b≠e->T≠some b->∃sl,h'.get? b=some { o with slots:=sl }:=λb o q h1 h2=>by by_cases hb:b∈fr;exact x.slot b o q hb;exact⟨o.slots,x.keep b o q hb h1 h2⟩
 have sub:∀b∈fr,b=X.env.locals\/b∈X.fs:=λb hb=>A3.mp (I.stkSub b (hfr b hb));have nof:∀b o,s.heap.get? b=some o->(∀vs,o.data≠.fields vs)->b≠e/\T≠some b:=λb o q d=>by constructor;intro z;obtain⟨o',vs,g,d'⟩:=r.data b (.inl z);rw[q] at g;cases g;exact d vs d';intro z;obtain⟨o',vs,g,d'⟩:=r.data b (.inr z);rw[q] at g;cases g;exact d vs d'
 have cellK:∀c v,s.heap.IsCell c v->h'.IsCell c v:=λc v ⟨o,ho,hd⟩=>by
  obtain⟨h1,h2⟩:=nof c o ho λvs z=>by rw[hd] at z;cases z
  obtain⟨sl,q⟩:=any c o ho h1 h2;exact⟨_,q,hd⟩
 have old0:∀b o,X.s₀.heap.get? b=some o->b∉X.ex->b≠e/\T≠some b:=λb o q hx=>⟨λz=>(n b (.inl z)).1 ⟨⟨o,q⟩,hx⟩,λz=>(n b (.inr z)).1 ⟨⟨o,q⟩,hx⟩⟩
 refine⟨I.ok,I.os,I.bare,⟨λb o e n hb hx=>?_,λb o e n hb hx=>?_,I.base.free,λb o e hx=>?_,I.base.tups,I.base.frzs,I.base.tbls⟩,?_,λy c e=>?_,I.free,I.freeC,λp hp=>?_,rL I.hok x (λb hb=>I.stkFree b (hfr b hb)) (n e (.inl rfl)).2.1 (λt z=>(n t (.inr z)).2.1),I.len⟩;refine x.keep b o (I.base.keep b o e n hb hx) (λz=>?_) (old0 b o e hx).1 (old0 b o e hx).2;rcases sub b z with z|z;exact absurd (Ag e) (Dy.mpr (by rw[z];exact I.ok.above));exact hb z;obtain⟨sl,e1⟩:=I.base.slot b o e n hb hx;obtain⟨sl',e2⟩:=any b _ e1 (old0 b o e hx).1 (old0 b o e hx).2;exact⟨sl',e2⟩;obtain⟨o',e1⟩:=I.base.there b o e hx;obtain⟨sl',e2⟩:=any b _ e1 (old0 b o e hx).1 (old0 b o e hx).2;exact⟨_,e2⟩;obtain⟨m,hn,hl⟩:=I.loc;refine⟨m,?_,λi y v e1 e2 e3=>?_⟩;obtain⟨o,es,ep,ho,hd,rr⟩:=hn;obtain⟨h1,h2⟩:=nof _ o ho λvs z=>by rw[hd] at z;cases z
 obtain⟨sl,q⟩:=any _ o ho h1 h2;exact⟨_,es,ep,q,hd,rr⟩;obtain⟨u,rr,l⟩:=hl i y v e1 e2 e3;refine⟨u,rr,?_⟩;rcases l with l|⟨k,c,e,z⟩
 exact .inl l;exact .inr ⟨k,c,e,cellK c _ z⟩;obtain⟨v,z⟩:=I.cell y c e;exact⟨v,cellK c v z⟩;obtain⟨e1,n1,ne,nf,d⟩:=I.pin p hp;refine⟨x.keep p.1 p.2 e1 (λz=>(sub _ z).elim ne nf) (λz=>(n _ (.inl z)).2.2 (Av.mpr ⟨p,hp,rfl⟩)) (λz=>(n _ (.inr z)).2.2 (Av.mpr ⟨p,hp,rfl⟩)),n1,ne,nf,d⟩
theorem aDx{E:Value->Shared->Prop}{Q:Unit->Shared->Prop}(r:Rec s.heap e cls (some T))
 (h:∀h',Lx [] e (some T) s.heap h'->Rec h' e cls (some T)->Q () { s with heap:=h' }):wpAny M A (setFlight (.ref e) none) Q E s:=by obtain⟨oe,vs,he,hc,hdi,hd,h1,hTe,oT,ts,hT,hdT,fl,h3⟩:=r;refine wpAny_setFlight_none he hd h1 hT hdT (A2.mp h3).1 (h _ ⟨λb o q _ _ hb=>?_,λb o _ z=>by cases z⟩ ?_);exact(Aq _ _ λz=>hb (by rw[z])).trans q;refine⟨oe,vs,(Aq _ _ hTe).trans he,hc,hdi,hd,h1,hTe,_,_,Br _ hT (B5 (Bh hdT _)),Bh hdT _,none,?_⟩;have:=(A2.mp h3).1;simp[this]
theorem aIt{E:Value->Shared->Prop}{Q:Unit->Shared->Prop}(r:Rec s.heap e cls (some T))
 (h:∀h',Lx [] e (some T) s.heap h'->Rec h' e cls (some T)->Q () { s with heap:=h' }):wpAny M A (setFlight (.ref e) f) Q E s:=by obtain⟨oe,vs,he,hc,hdi,hd,h1,hTe,oT,ts,hT,hdT,fl,h3⟩:=r;unfold setFlight;refine Aa (A6 he hd h1 ?_);rw[if_pos (show(Value.ref T != Value.none)=true from by simp)];refine C0 hT hdT (A2.mp h3).1 (h _ ⟨λb o q _ _ hb=>?_,λb o _ z=>by cases z⟩ ?_);exact(Aq _ _ λz=>hb (by rw[z])).trans q;refine⟨oe,vs,(Aq _ _ hTe).trans he,hc,hdi,hd,h1,hTe,_,_,Br _ hT (B5 (Bh hdT _)),Bh hdT _,f,?_⟩;have:=(A2.mp h3).1;simp[this]
theorem Inv.track(I:Inv X pins σ H s)(n:¬ (Old X.s₀.heap a/\a∉X.ex))(hn:H a=none)(hp:a∉pinA X pins)(hl:a≠X.env.locals)(hc:∀x c,X.env.cells.lookup x=some c->c≠a)(new:cV X.prog X.w (upd H a o) s.heap a o):Inv X pins σ (upd H a o) s:=by
 have ne:∀b o,X.s₀.heap.get? b=some o->b∉X.ex->b≠a:=λb o q hx z=>n (by rw[<-z];exact⟨⟨o,q⟩,hx⟩);have nt:∀b u,H b=some u->b≠a:=λb u q z=>by rw[z,hn] at q;cases q
 refine⟨I.ok,I.os,I.bare,⟨I.base.keep,I.base.slot,λb o q h0 hx=>by rw[aF (ne b o q hx)];exact I.base.free b o q h0 hx,I.base.there,λb xs q=>?_,λb o u q=>?_,λb ps q=>?_⟩,I.loc,I.cell,by rw[aF (Ne.symm hl)];exact I.free,λx c e=>by rw[aF (hc x c e)];exact I.freeC x c e,λp hp'=>?_,λb u q=>?_,I.len⟩;have z:=I.base.tups b xs q;rw[aF (nt b _ z)];exact z;have z:=I.base.frzs b o u q;rw[aF (nt b _ z)];exact z;obtain⟨more,z⟩:=I.base.tbls b ps q;exact⟨more,by rw[aF (nt b _ z)];exact z⟩;obtain⟨e1,n1,ne1,nf,d⟩:=I.pin p hp';exact⟨e1,by rw[aF λz=>hp (Av.mpr ⟨p,hp',z⟩)];exact n1,ne1,nf,d⟩;by_cases hb:b=a;subst hb;rw[aS] at q;cases q;exact new;rw[aF hb] at q;exact(I.hok b u q).stay (λ_ _ _ g=>g) (λc g=>by rw[aF (nt c _ g)];exact g) λc xs g=>by rw[aF (nt c _ g)];exact g
end
section
variable {X:Cx} {pins:List (Addr×Obj)} {σ:St} {H:Hp} {s:Shared}
theorem aBY{E:Value->Shared->Prop}{Q:Unit->Shared->Prop}(I:Inv X pins σ H s)(hN:X.N.Nodup)(hi:X.N[i]? = some x)(hk:X.env.scope.names.lookup x=some .local)(hv:σ[i]? = some (some v))
 (h:∀s',Inv X pins (σ.set i none) H s'->Q () s'):wpAny M A (unbindName X.env x) Q E s:=by
 obtain⟨m,hn,hl⟩:=id I.loc;have hcls:(X.env.scope.kind==.class||(X.env.scope.kind==.module&&X.env.locals != X.env.globals))=false:=by rw[I.ok.kind];rfl
 have hiσ:i<σ.length:=by rw[I.len];exact(Ay.mp hi).1
 obtain⟨u,r,lk⟩:=hl i x v hi hv (.inl hk);have hm:m x=some u:=by
  rcases lk with⟨_,e⟩|⟨k,_⟩
  exact e;have k':X.env.scope.names.lookup x=some .cell\/X.env.scope.names.lookup x=some .free:=k;rw[hk] at k';rcases k' with z|z <;> cases z
 refine wpAny_unbindName_local hk hn hm hcls λh' u' hn' hs=>?_;obtain⟨oL,_,_,hoL,_⟩:=id hn;have tracked:HOk X.prog X.w H h':=λb ob e=>by refine(I.hok b ob e).stay (λc w' hc q=>(hs.2 c ?_).trans q) (λ_ q=>q) λ_ _ q=>q;rintro rfl;have hf:=I.free;rcases hc with rfl|hc;rw[hf] at e;cases e;rw[hf] at hc;cases hc
 refine h { s with heap:=h' } ⟨I.ok,I.os,I.bare,⟨λb o e n hb hx=>?_,λb o e n hb hx=>?_,I.base.free,λb o e hx=>?_,I.base.tups,I.base.frzs,I.base.tbls⟩,⟨_,hn',λj y v' e1 e2 e3=>?_⟩,λy c e=>?_,I.free,I.freeC,λp hp=>?_,tracked,by simpa using I.len⟩;exact(hs.2 b (A0 (Ap (Ag e) I.ok.above))).trans (I.base.keep b o e n hb hx);obtain⟨sl,e1⟩:=I.base.slot b o e n hb hx;exact⟨sl,(hs.2 b (A0 (Ap (Ag e) I.ok.above))).trans e1⟩;obtain⟨o',e1⟩:=I.base.there b o e hx;exact⟨o',(hs.2 b (A0 (Ap (Ag e) I.ok.above))).trans e1⟩;by_cases hj:j=i;subst hj;rw[Ar hiσ] at e2;cases e2;rw[Ac (Ne.symm hj)] at e2;obtain⟨w',r',q⟩:=hl j y v' e1 e2 e3;refine⟨w',r',?_⟩;rcases q with⟨k,e⟩|⟨k,c,e,z⟩
 refine .inl ⟨k,?_⟩;have:y≠x:=λe=>hj (oE hN e1 (e▸hi));simp[this,e];exact .inr ⟨k,c,e,z.sameBut hs (I.cne y c e)⟩;obtain⟨w',z⟩:=I.cell y c e;exact⟨w',z.sameBut hs (I.cne y c e)⟩;obtain⟨e,n,ne,nf,d⟩:=I.pin p hp;exact⟨(hs.2 p.1 ne).trans e,n,ne,nf,d⟩
end
noncomputable def jV(K:PySem.W.Frag)(C1 C:Addr):Option Bool:=match K.lookup C1 with|some ⟨_,_,.cls cd,_⟩=>some (cd.mro.contains (.ref C))|_=>none
section
variable {M:Model} {A:Around} {E:Value->Shared->Prop}
theorem wD{h:Heap}{g:Array GenState}{d:Drawn}{t:Nat}{os:OsState}{e C C1:Addr}{oe:Obj}{b:Bool}{Q:Bool->Shared->Prop}
 {nm q:Str} {N:Addr} {bs bm:List Value} {hdct:Bool} {sn:List Str} {sub:List Value} {ab:Bool} {col:Option Bool} {dd:Option Addr} {k0 k1 k2 k3 k5:Option Value} {newId:String}
 {nm' q':Str} {N':Addr} {bs' bm':List Value} {hdct':Bool} {sn':List Str} {sub':List Value} {ab':Bool} {col':Option Bool} {dd':Option Addr} {k0' k1' k2' k3' k5':Option Value} {newId':String}
 (hC1:h.get? C1=some (excClassObj nm q C1 N bs bm hdct sn sub ab col dd k0 k1 k2 k3 k5 newId)) (hC:h.get? C=some (excClassObj nm' q' C N' bs' bm' hdct' sn' sub' ab' col' dd' k0' k1' k2' k3' k5' newId'))
 (he:h.get? e=some oe) (hcls:oe.cls=.ref C1) (hbase:bm'.contains (.type "BaseException")=true) (hit:(Value.ref C1::bm).contains (.ref C)=b)
 (hq:Q b ⟨h,g,d,t,os⟩):wpAny M A (excMatches (.ref e) (.ref C)) Q E ⟨h,g,d,t,os⟩:=by
 have hcB:(Value.ref C::bm').contains (.type "BaseException")=true:=by rw[List.contains_cons,hbase,Bool.or_true]
 have f:=tc_notTuple;unfold excMatches;cases b <;> (repeat (first|(with_reducible refine B1 he ?_;rw[hcls])|with_reducible refine B1 hC ?_|(with_reducible refine Dp hC ?_;rw[hcB])|(with_reducible refine Dp hC1 ?_;rw[hit])|wp_step)) <;> exact hq
end
theorem aFY(r:Rec h a cls T)(hc:kC cls=.ref C):cV P w H h a (excO a C (kD cls)):=by obtain⟨oe,vs,he,hcl,hdi,hd,_⟩:=r;refine⟨⟨oe,he,hcl.trans hc,?_,hdi⟩,⟨oe,he⟩,λ_ _ ⟨o',z,I⟩ k=>⟨o',k o' z,I⟩⟩;obtain⟨c,dd,dt,sl⟩:=oe;have hd:dt=.fields vs:=hd;subst hd;rfl
abbrev Cx.inTry(X:Cx)(pins:List (Addr×Obj))(E:Value->Shared->Prop):Cx:={ X with pn:=X.pn++pins,xe:=E }
abbrev Cx.inExc(X:Cx)(e:Value):Cx:={ X with A:=X.A.mark (some e),calm:=false,xe:=λ_ _=>False }
section
variable {X:Cx} {pins pins':List (Addr×Obj)} {σ:St} {H:Hp} {s:Shared} {E:Value->Shared->Prop}
theorem Inv.inTry(I:Inv X pins σ H s):Inv (X.inTry pins E) [] σ H s:=
 ⟨⟨I.ok.mod,I.ok.kind,I.ok.glob,I.ok.blt,I.ok.above,I.ok.inj,I.ok.has,I.ok.cab,I.ok.hd,I.ok.frames,I.ok.stk,I.ok.exf,I.ok.bs,I.ok.bsz,I.ok.noex,I.ok.exfs,I.ok.funs,I.ok.frf⟩,
  I.os,I.bare,I.base,I.loc,I.cell,I.free,I.freeC,λp hp=>I.pin p (by simpa using hp),I.hok,I.len⟩
theorem Inv.outTry(I:Inv (X.inTry pins E) pins' σ H s):Inv X pins σ H s:=
 ⟨⟨I.ok.mod,I.ok.kind,I.ok.glob,I.ok.blt,I.ok.above,I.ok.inj,I.ok.has,I.ok.cab,I.ok.hd,I.ok.frames,I.ok.stk,I.ok.exf,I.ok.bs,I.ok.bsz,I.ok.noex,I.ok.exfs,I.ok.funs,I.ok.frf⟩,
  I.os,I.bare,I.base,I.loc,I.cell,I.free,I.freeC,λp hp=>I.pin p (Bm _ hp),I.hok,I.len⟩
theorem Inv.inExc(I:Inv X pins σ H s):Inv (X.inExc e) pins σ H s:=
 ⟨⟨I.ok.mod,I.ok.kind,I.ok.glob,I.ok.blt,I.ok.above,I.ok.inj,I.ok.has,I.ok.cab,(λz=>nomatch z),I.ok.frames,I.ok.stk,I.ok.exf,I.ok.bs,I.ok.bsz,I.ok.noex,I.ok.exfs,I.ok.funs,I.ok.frf⟩,
  I.os,I.bare,I.base,I.loc,I.cell,I.free,I.freeC,I.pin,I.hok,I.len⟩
theorem Inv.outExc(c:X.calm=true->X.A.handled=none)(I:Inv (X.inExc e) pins σ H s):Inv X pins σ H s:=
 ⟨⟨I.ok.mod,I.ok.kind,I.ok.glob,I.ok.blt,I.ok.above,I.ok.inj,I.ok.has,I.ok.cab,c,I.ok.frames,I.ok.stk,I.ok.exf,I.ok.bs,I.ok.bsz,I.ok.noex,I.ok.exfs,I.ok.funs,I.ok.frf⟩,
  I.os,I.bare,I.base,I.loc,I.cell,I.free,I.freeC,I.pin,I.hok,I.len⟩
theorem SP.outTry(h:SP (X.inTry pins E) [] D f s'):SP X pins D f s':=by
 cases f with
 | next=>obtain⟨σ',H',I,q⟩:=h;exact⟨σ',H',I.outTry,q⟩|brk=>obtain⟨σ',H',I,q⟩:=h;exact⟨σ',H',I.outTry,q⟩|cont=>obtain⟨σ',H',I,q⟩:=h;exact⟨σ',H',I.outTry,q⟩|ret u=>obtain⟨v,σ',H',I,r,q⟩:=h;exact⟨v,σ',H',I.outTry,r,q⟩
end
section
variable {X:Cx}
theorem aIu{K:PySem.W.Frag}{h:Heap}{o:Obj}(KX:K.In h)(hit:jV K C1 C=some b)(q:h.get? C1=some o):∃cd,o.data=.cls cd/\cd.mro.contains (.ref C)=b:=by unfold jV at hit;split at hit;rename_i c d cd sl ho;have:=KX _ _ ho;rw[q] at this;cases this;exact⟨cd,rfl,Ah hit⟩;cases hit
theorem tV{x n:Str}{C C1 a T1:Addr}{cls:Value}{b:Bool}{np hp:Pos}{s0:Stmt}{suite:List Stmt}{rest:List ExceptHandler}{pins:List (Addr×Obj)}{σ':St}{H':Hp}{s2:Shared}{D:Ends}{jn:Nat}{ts:TS}
 (hg:Gl X x) (hm:X.mg x=some (.ref C)) (hd:(x==("__debug__" : Str))=false) (qC:iN X.K C=true) (q1:iN X.K C1=true) (hit:jV X.K C1 C=some b)
 (hN:X.N.Nodup) (hjn:X.N[jn]? = some n) (hn:X.env.scope.names.lookup n=some .local)
 (I2:Inv X pins σ' H' s2) (r1:Rec s2.heap a cls (some T1)) (hk:kC cls=.ref C1) (nw1:∀b,(b=a\/some T1=some b)->¬ (Old X.s₀.heap b/\b∉X.ex)/\H' b=none/\b∉pinA X pins)
 (hps:b=true->PSs (X.inExc (.ref a)) (s0::suite) ts) (hq:b=true->H' a=none->ts { nx:=λσ5 H5=>D.nx ((σ5.set jn (some .non)).set jn none) H5,rt:=λ_ _=>False,bk:=λ_ _=>False,ct:=λ_ _=>False } (σ'.set jn (some (.ref a))) (upd H' a (excO a C1 (kD cls))))
 (hr:b=false->wpAny (model X.prog X.w) X.A (handleBy (.ref a) X.env rest) (SP X pins D) X.xe s2) :
 wpAny (model X.prog X.w) X.A (handleBy (.ref a) X.env (.ExceptHandler (some (.Name x np)) (some n) (s0::suite) hp::rest)) (SP X pins D) X.xe s2:=by
 refine wpAny_handleBy_cons (codeAny_handlers_test (fV (X:=X.inExc (.ref a)) I2.inExc hg hm ?_ hd)) (by intro q;cases q);obtain⟨bm1,N1,nm1,qn1,bs1,hdct1,sn1,sub1,ab1,col1,dd1,k01,k11,k21,k31,k51,hC1,_⟩:=tU (X:=X) I2.kIn q1;obtain⟨bm2,N2,nm2,qn2,bs2,hdct2,sn2,sub2,ab2,col2,dd2,k02,k12,k22,k32,k52,hC2,TL⟩:=tU (X:=X) I2.kIn qC;obtain⟨cd,e1,e2⟩:=aIu I2.kIn hit hC1;cases e1;obtain⟨oe,vs,he,hc,_,hdd,hT⟩:=id r1;refine wD hC1 hC2 he (hc.trans hk) (TL.hasType rfl) e2 ?_;cases b with
 | false=>exact hr rfl|true=>
  refine codeAny_handlers_suite_as (aDx r1 λh2 x2 r2=>?_);have I3:Inv X pins σ' H' { s2 with heap:=h2 }:=Inv.note (s:=s2) (fr:=[]) I2 x2 (λb hb=>by cases hb) (λb hb=>.inr rfl) r1 nw1;obtain⟨oe2,vs2,he2,hc2,_,hd2,_⟩:=id r2;have nl:a≠X.env.locals:=λz=>by obtain⟨m,⟨o,es,ep,ho,hdo,_⟩,_⟩:=I3.loc;rw[<-z] at ho;have ho:h2.get? a=some o:=ho;rw[he2] at ho;cases ho;rw[hd2] at hdo;cases hdo
  have nc:∀x c,X.env.cells.lookup x=some c->c≠a:=λx c e z=>by obtain⟨v,o,ho,hdo⟩:=I3.cell x c e;rw[z] at ho;have ho:h2.get? a=some o:=ho;rw[he2] at ho;cases ho;rw[hd2] at hdo;cases hdo
  have na:=nw1 a (.inl rfl);have I4:Inv X pins σ' (upd H' a (excO a C1 (kD cls))) { s2 with heap:=h2 }:=I3.track (a:=a) (o:=excO a C1 (kD cls)) na.1 na.2.1 na.2.2 nl nc (aFY r2 hk);refine kR (X:=X) (v:=.ref a) I4 hN hjn (.inl hn) rfl (λs4 I5=>?_) (.inr hn);refine Bo (hps rfl pins s4 _ _ _ I5.inExc (hq rfl na.2.1)) (λf s5 q=>?_) (λ_ _ z=>z.elim);cases f with
  | next=>
   obtain⟨σ5,H5,I6,e5⟩:=q;have I6:=I6.outExc I2.ok.hd;have hlj:jn<σ5.length:=by rw[I6.len];exact(Ay.mp hjn).1
   show wpAny (model X.prog X.w) X.A (do bindName X.env n .none;unbindBehindTheSuite X.env n hp) (λ_ s₃=>SP X pins D .next s₃) X.xe s5;refine Aa (wpAny_bindName (kR (v:=.non) I6 hN hjn (.inl hn) rfl (λs6 I7=>?_) (.inr hn)));unfold unbindBehindTheSuite;refine wpAny_onRaise (aBY (v:=.non) I7 hN hjn hn (Ar hlj) λs7 I8=>?_);exact⟨_,_,I8,e5⟩
  | brk=>obtain⟨_,_,_,z⟩:=q;exact z.elim|cont=>obtain⟨_,_,_,z⟩:=q;exact z.elim|ret u=>obtain⟨_,_,_,_,_,z⟩:=q;exact z.elim
end
noncomputable def gU(cells:List (Str×Addr)):List (Str×NameKind)->List (Str×Addr)->List (Str×Addr)
 | [],acc=>acc|(n,k)::r,acc=>if k==.free then gU cells r ((n,(cells.lookup n).getD 0)::acc) else gU cells r acc
theorem clos_mem{cells:List (Str×Addr)}:∀{names:List (Str×NameKind)} {acc:List (Str×Addr)} {p:Str×Addr},p∈gU cells names acc->p∈acc\/((p.1,NameKind.free)∈names/\p.2=(cells.lookup p.1).getD 0)
 | [],_,_,h=>.inl h|(n,k)::r,acc,p,h=>by unfold gU at h;by_cases hk:(k==NameKind.free)=true;rw[if_pos hk] at h;rcases clos_mem h with q|q;rcases A3.mp q with q|q;subst q;have:k=.free:=eq_of_beq hk;subst this;exact .inr ⟨As,rfl⟩;exact .inl q;exact .inr ⟨Ak _ q.1,q.2⟩;rw[if_neg hk] at h;rcases clos_mem h with q|q;exact .inl q;exact .inr ⟨Ak _ q.1,q.2⟩
theorem oV{cells:List (Str×Addr)}:∀{names:List (Str×NameKind)} {acc:List (Str×Addr)} {p:Str×Addr},p∈acc->p∈gU cells names acc
 | [],_,_,h=>h|(n,k)::r,acc,p,h=>by unfold gU;by_cases hk:(k==NameKind.free)=true;rw[if_pos hk];exact oV (Ak _ h);rw[if_neg hk];exact oV h
theorem lE{cells:List (Str×Addr)}:∀{names:List (Str×NameKind)} {acc:List (Str×Addr)} {n:Str},(n,NameKind.free)∈names->(n,(cells.lookup n).getD 0)∈gU cells names acc
 | [],_,_,h=>by simp at h|(m,k)::r,acc,n,h=>by unfold gU;rcases A3.mp h with q|q;cases q;rw[if_pos (by rfl:(NameKind.free==NameKind.free)=true)];exact oV As;by_cases hk:(k==NameKind.free)=true;rw[if_pos hk];exact lE q;rw[if_neg hk];exact lE q
theorem eU{α:Type}:∀{l:List (Str×α)} {x:Str} {a:α},(x,a)∈l->∃b,l.lookup x=some b
 | (y,b)::r,x,a,h=>by
  rw[List.lookup_cons];cases hx:x==y with
  | true=>exact⟨b,rfl⟩|false=>rcases A3.mp h with q|q;cases q;simp at hx;exact eU q
theorem cZ{cells:List (Str×Addr)}(hh:∀n,(n,NameKind.free)∈names->∃c,cells.lookup n=some c)(h:(gU cells names []).lookup x=some c):cells.lookup x=some c:=by
 rcases clos_mem (B0 h) with q|⟨q1,q2⟩
 simp at q;obtain⟨c',e⟩:=hh x q1;simp only at q2;rw[e] at q2;rw[e,q2];rfl
theorem iF{scope:Scope}{env:Env}(hh:∀n,(n,NameKind.free)∈scope.names->∃c,env.cells.lookup n=some c):closureFor scope env=pure (gU env.cells scope.names []):=by
 have go:∀(l:List (Str×NameKind)) (acc:List (Str×Addr)),(∀n,(n,NameKind.free)∈l->∃c,env.cells.lookup n=some c) ->
  (forIn l acc (λ(x:Str×NameKind) (r:List (Str×Addr))=>(match x with|(name,kind)=>if (kind==NameKind.free)=true then do let __do_lift<-cellOf env name;pure (ForInStep.yield ((name,__do_lift)::r)) else pure (ForInStep.yield r):Sem (ForInStep (List (Str×Addr))))))=(pure (gU env.cells l acc):Sem (List (Str×Addr))):=by
  intro l
  induction l with
  | nil=>intro acc _;rfl|cons p r ih=>
   intro acc hl;obtain⟨n,k⟩:=p;rw[List.forIn_cons];unfold gU;by_cases hk:(k==NameKind.free)=true;have:k=.free:=eq_of_beq hk;subst this;obtain⟨c,e⟩:=hl n As;have e':cellOf env n=pure c:=by unfold cellOf;rw[e]
   simp only[Bu,if_true,e'];rw[e];exact ih _ λm hm=>hl m (Ak _ hm);simp only[hk,if_false];exact ih _ λm hm=>hl m (Ak _ hm)
 unfold closureFor;exact(bind_pure _).trans (go scope.names [] hh)
section
variable {prog:Program} {w:World} {A:Around} {R:Result->Shared->Prop} {s:Shared}
theorem iO(I:Nat->Shared->Prop)
 (turn:∀n s,I n s->wpAny (model prog w) A (pyNext it) (λr s₁=>match r with
  | none=>R (.ok .next) s₁|some v=>wpAny (model prog w) A (letOwnedTupleGo target it v) (λ_ s₁'=>wpAny (model prog w) A (assign target env v) (λ_ s₂=>
   wpAny (model prog w) A (forIn ifs true λc r=>if r=true then do let ok<-isTrue c env (eval c env);pure (ForInStep.yield ok) else pure (ForInStep.yield r)) (λok s₃=>
    if ok=true then wpAny (model prog w) A (eval elt env) (λx s₄=>
     wpAny (model prog w) A (call (.builtin "list.append") [acc,x]) (λ_ s₅=>∃m,m<n/\I m s₅) (λ_ _=>False) s₄) (notedBy (model prog w) A env λe s'=>R (.error e) s') s₃
    else ∃m,m<n/\I m s₃) (λ_ _=>False) s₂) (λ_ _=>False) s₁') (λ_ _=>False) s₁) (λ_ _=>False) s)
 (n:Nat) (h:I n s) :
 codeAny (model prog w) A (.compLoop (.ListComp elt [⟨target,iter,ifs,0⟩] scope pos) 0 it acc env) R s:=by
 refine codeAny_loop rfl I (λn s hI=>?_) n h;show wpAny _ A ((compTurn (.ListComp elt [⟨target,iter,ifs,0⟩] scope pos) 0 it acc env).onRaise (λx=>do noteFrame x env;theTreesLotGoes x)) _ _ s;refine wpAny_noted ?_;rw[compTurn_list];refine Aa (Cq (Aa (Bo (turn n s hI) (λr s₁ h₁=>?_) λ_ _ h'=>h'.elim)));cases r with
 | none=>exact Al h₁|some v=>
  refine Aa (Bo h₁ (λ_ s₁' h₁'=>?_) λ_ _ h'=>h'.elim);refine Aa (Bo h₁' (λ_ s₂ h₂=>Aa (Bo h₂ (λok s₃ h₃=>?_) λ_ _ h'=>h'.elim)) λ_ _ h'=>h'.elim);cases ok with
  | false=>exact Al ⟨rfl,h₃⟩|true=>exact Aa (Aa (Bo h₃ (λx s₄ h₄=>Aa (Bo h₄ (λ_ s₅ h₅=>Al (Al ⟨rfl,h₅⟩)) λ_ _ h'=>h'.elim)) λ_ _ h'=>h'))
theorem nL{env env':Env}(h:env'.frame=env.frame):noteFrame e env'=noteFrame e env:=by unfold noteFrame PySem.frameOf;rw[h]
end
noncomputable def cW(X:Cx)(scope:Scope)(N':List Str)(C:Addr)(s₀:Shared)(H₀:Hp)(ex:List Addr):Cx:=
 { X with env:=compEnvC scope (gU X.env.cells scope.names []) C X.env,N:=N',s₀:=s₀,H₀:=H₀,outer:=X.stack,ex:=ex,fn:=λ_=>false,pn:=[],xe:=λ_ _=>False }
def PTs(X:Cx)(ifs:List Expr)(t:TT):Prop:=
 ∀(pins:List (Addr×Obj)) (s:Shared) (σ:St) (H:Hp) (Q:Bool->Hp->Prop),Inv X pins σ H s->t σ H Q ->
  wpAny (model X.prog X.w) X.A (forIn ifs true λc r=>if r=true then do let ok<-isTrue c X.env (eval c X.env);pure (ForInStep.yield ok) else pure (ForInStep.yield r)) (TP X pins σ Q) X.xe s
theorem aFZ:PTs X [] (λ_ H Q=>Q true H):=λpins s σ H Q I h=>Al ⟨H,I,h⟩
theorem aGa(h:PT X c t):PTs X [c] t:=λpins s σ H Q I hw=>wpAny_tests_one (h pins s σ H Q I hw)
structure dI (X:Cx) (scope:Scope) (k:Nat) (caps:List Nat) (N':List Str):Prop where
 kind:scope.kind=.function
 nocell:∀y∈scope.names,y.2≠.cell
 loc:∀y∈scope.names,y.2=.local->scope.names.lookup y.1=some .local
 free:∀n,(n,NameKind.free)∈scope.names->X.env.kindOf n=some .cell\/X.env.kindOf n=some .free
 len:N'.length=k+caps.length
 cap:∀j i,caps[j]? = some i->∃x,N'[k+j]? = some x/\X.N[i]? = some x/\scope.names.lookup x=some .free/\X.env.kindOf x=some .cell
 ndp:X.N.Nodup
def kH(k:Nat)(caps:List Nat)(σ:St):St:=List.replicate k none++caps.map λi=>(σ[i]?).getD none
def aDy(WX:Value->St->Hp->Prop)(k:Nat)(caps:List Nat)(wi:TI)(g:TG)(tt:TT)(te:(Value->St->Hp->Prop)->TE):TE:=λσ H Q=>wi σ H λJ H1=>
 ∃W:Nat->Nat->List V->St->Hp->Prop,(∃m,W 0 m [] (kH k caps σ) H1)/\∀i m ys σ1 H,W i m ys σ1 H ->
  (J.stop i H/\ys.length<=sizeLine/\∀p,H p=none->Q (.ref p) (upd H p (.lst ys))) \/
  (J.go i H/\ys.length<sizeLine/\∀x H',J.yld i H x H'->g x σ1 H' λσ2 H2=>tt σ2 H2 λb H3=>
   if b=true then te (λc _ H=>WX c σ H) σ2 H3 λy H4=>∃m',m'<m/\W (i+1) m' (ys++[y]) σ2 H4 else ∃m',m'<m/\W (i+1) m' ys σ2 H3)
theorem HOk.track(ok:HOk P w H h)(n:H a=none)(new:cV P w (upd H a o) h a o):HOk P w (upd H a o) h:=λb u e=>by by_cases hb:b=a;subst hb;rw[aS] at e;cases e;exact new;rw[aF hb] at e;exact(ok b u e).stay (λ_ _ _ q=>q) (λc q=>by rw[aF (bG q n)];exact q) λc xs q=>by rw[aF (bG q n)];exact q
abbrev dG(its:List Value)(n:Nat):Obj:={ cls:=.type "list",data:=.seq its.toArray n }
section
variable {X:Cx} {scope:Scope} {k:Nat} {caps:List Nat} {N':List Str} {pins:List (Addr×Obj)} {σ:St} {H:Hp} {s:Shared} {fp:List Addr}
theorem Inv.cellLt(I:Inv X pins σ H s)(e:X.env.cells.lookup x=some c):c<s.heap.objs.size:=by obtain⟨v,q⟩:=I.cell x c e;exact q.lt
theorem fZ:∀{l:List (Str×NameKind)} {x:Str} {k:NameKind},l.lookup x=some k->(x,k)∈l:=λh=>B0 h
theorem relabel_lookup{env:Env}:∀{names:List (Str×NameKind)} {x:Str} {k:NameKind},
 (names.map λ(n,k)=>if (k==NameKind.free&&env.scope.kind==.function&&env.kindOf n==some .cell) then (n,NameKind.cell) else (n,k)).lookup x=some k ->
 (k=.cell/\names.lookup x=some .free/\env.kindOf x=some .cell)\/names.lookup x=some k
 | [],_,_,h=>by simp at h|(n,k')::r,x,k,h=>by
  have ih:=@relabel_lookup env r x k;rw[mC] at h;by_cases hc:(k'==NameKind.free&&env.scope.kind==.function&&env.kindOf n==some .cell)=true;simp only[hc,if_true,List.lookup_cons] at h ⊢;cases hx:x==n with
  | true=>rw[hx] at h;simp only at h ⊢;simp only[bA] at hc;have e1:k'=.free:=eq_of_beq hc.1.1;have e2:env.kindOf n=some .cell:=eq_of_beq hc.2;have e3:x=n:=eq_of_beq hx;subst e3;cases h;exact .inl ⟨rfl,by rw[e1],e2⟩|false=>rw[hx] at h;exact ih h
  simp only[Bool.not_eq_true] at hc;simp only[hc,if_false,List.lookup_cons,bF] at h ⊢;cases hx:x==n with
  | true=>rw[hx] at h;exact .inr h|false=>rw[hx] at h;exact ih h
theorem aNM(CS:dI X scope k caps N')(I:Inv X pins σ H s)(f:∀b∈fp,kT X pins H b)(hf:∀b∈fp,b<s.heap.objs.size) :
 (cW X scope N' (s.heap.objs.size+1) { s with heap:=s.heap.push (dG [] 0) } H (s.heap.objs.size::fp)).Ok:=by
 have hh:∀n,(n,NameKind.free)∈scope.names->∃c,X.env.cells.lookup n=some c:=λn hn=>I.ok.has n (CS.free n hn);have ge:∀b o,s.heap.get? b=some o->(s.heap.push (dG [] 0)).get? b=some o:=λb o e=>Ab _ e;have fsub:∀b∈frs X.stack,∃o,s.heap.get? b=some o:=λb hb=>by obtain⟨_,o,ho,_⟩:=I.stack.mem hb;exact⟨o,ho⟩
 refine⟨I.ok.mod,?_,I.ok.glob,I.ok.blt,?_,λx y c h1 h2=>?_,λx hx=>?_,λx c h _=>?_,I.ok.hd,I.ok.frames,.inl rfl,λb hb=>?_,λb o e=>?_,?_,λb o e hb=>?_,λb hb=>?_,?_,I.stkFree⟩;exact CS.kind;show(s.heap.push (dG [] 0)).objs.size<=s.heap.objs.size+1;rw[B6];exact Ai _;exact I.ok.inj x y c (cZ hh h1) (cZ hh h2);have fr:(x,NameKind.free)∈scope.names:=by rcases hx with q|q;rcases relabel_lookup q with⟨_,z,_⟩|z;exact fZ z;exact absurd rfl (CS.nocell _ (fZ z));rcases relabel_lookup q with⟨z,_⟩|z;cases z;exact fZ z
 obtain⟨c,e⟩:=eU (lE (cells:=X.env.cells) (acc:=[]) fr);exact⟨c,e⟩;cases(show false=true from h);refine⟨?_,λx c e=>?_⟩;show b≠s.heap.objs.size+1;rcases A3.mp hb with z|z;rw[z];exact A0 (Ce _);exact A0 (Dj (hf b z));have e':=cZ hh e;rcases A3.mp hb with z|z;rw[z];exact A0 (I.cellLt e');exact(f b z).2.2.2.2.1 x c e';exact⟨ge b o (I.bs b o e).1,(I.bs b o e).2⟩;show X.base.objs.size<=(s.heap.push (dG [] 0)).objs.size;rw[B6];exact Nat.le_succ_of_le (A1 I.ok.bsz I.sz);have lt:=Ag e;rcases A3.mp hb with z|z;subst z;exact absurd (Ap lt (A1 I.ok.bsz I.sz)) (A8 _);rcases(f b z).2.2.2.1 with q|q;exact I.ok.noex b o e q;exact absurd (Ap lt (A1 I.ok.bsz q)) (A8 _);show b∉frs X.stack;intro hs;rcases A3.mp hb with z|z;subst z;obtain⟨o,e⟩:=fsub _ hs;exact absurd (Ag e) (A8 _);rcases A3.mp (I.stkSub b hs) with q|q;exact(f b z).2.1 q;exact(f b z).2.2.1 q;exact I.stack.of_keeps λb o e _=>⟨o,ge b o e,rfl⟩
theorem aDz(CS:dI X scope k caps N')(h:(kH k caps σ)[j]? = some (some v)):∃j' i,j=k+j'/\caps[j']? = some i/\σ[i]? = some (some v):=by
 unfold kH at h;by_cases hj:j<k;rw[Bv (by simpa using hj),Cc] at h;split at h <;> cases h;rw[Bg (by simpa using hj),Ba,A5] at h;cases e:caps[j-k]? with
 | none=>rw[e] at h;cases h|some i=>
  rw[e] at h;have h':(σ[i]?).getD none=some v:=Ah h;refine⟨j-k,i,by omega,e,?_⟩;cases q:σ[i]? with
  | none=>rw[q] at h';cases h'|some z=>rw[q] at h';exact congrArg some h'
theorem aKS(CS:dI X scope k caps N')(I:Inv X pins σ H s)(f:∀b∈fp,kT X pins H b)(hf:∀b∈fp,b<s.heap.objs.size){h₁:Heap}{tk:Nat}
 (hns:h₁.Ns (s.heap.objs.size+1) λ_=>none) (hk:∀b o,(s.heap.push (dG [] 0)).get? b=some o->h₁.get? b=some o) :
 Inv (cW X scope N' (s.heap.objs.size+1) { s with heap:=s.heap.push (dG [] 0) } H (s.heap.objs.size::fp)) [] (kH k caps σ) H { s with heap:=h₁,toks:=tk }:=by
 have hh:∀n,(n,NameKind.free)∈scope.names->∃c,X.env.cells.lookup n=some c:=λn hn=>I.ok.has n (CS.free n hn);have ge:∀b o,s.heap.get? b=some o->h₁.get? b=some o:=λb o e=>hk b o (Ab _ e);have cellK:∀{c:Addr} {v:Option Value},s.heap.IsCell c v->h₁.IsCell c v:=λ{c v} ⟨o,e,d⟩=>⟨o,ge _ _ e,d⟩
 refine⟨aNM CS I f hf,rfl,I.bare,Un.kept hk,⟨_,hns,λj x v e1 e2 e3=>?_⟩,λx c e=>?_,?_,λx c e=>?_,λp hp=>absurd (show p∈([]:List (Addr×Obj)) from hp) (by simp),I.hok.kept ge,?_⟩;obtain⟨j',i,ej,ec,es⟩:=aDz CS e2;obtain⟨y,h1,h2,h3,h4⟩:=CS.cap j' i ec;have e1':N'[j]? = some x:=e1;rw[ej,h1] at e1';have ey:y=x:=Ah e1';subst ey;obtain⟨m,hn,hl⟩:=I.loc;obtain⟨u,ru,lk⟩:=hl i y v h2 es (.inr (.inl h4));rcases lk with⟨k1,_⟩|⟨_,c,ec',hc⟩
 rw[h4] at k1;cases k1;refine⟨u,ru,.inr ⟨?_,c,?_,cellK hc⟩⟩;have e3':Vis (relabel scope X.env) y:=e3;rcases e3' with z|z|z;rcases relabel_lookup z with⟨z,_⟩|z;cases z;rw[h3] at z;cases z;exact .inl z;exact .inr z;obtain⟨c',e⟩:=eU (lE (cells:=X.env.cells) (acc:=[]) (fZ h3));have e':=cZ hh e;rw[ec'] at e';cases e';exact e;obtain⟨v,q⟩:=I.cell x c (cZ hh e);exact⟨v,cellK q⟩;exact I.hok.fresh (Nat.le_succ _);exact I.freeC x c (cZ hh e);show(kH k caps σ).length=N'.length;unfold kH;rw[lA,Ba,lM,CS.len]
theorem wF{tg iter elt:Expr}{ifs:List Expr}{pos:Pos}{g:TG}{tt:TT}{te:(Value->St->Hp->Prop)->TE}{WX:Value->St->Hp->Prop}{it:Addr}{tn:Nat->Heap->Prop}{J:It}{RR:Value->Addr->Result->Shared->Prop}{E:Value->Shared->Prop}{Q:VK}
 (CS:dI X scope k caps N') (hc:X.calm=true) (I:Inv X pins σ H s) (T:vI X.prog X.w X.K tg J fp it tn) (st:tn 0 s.heap) (f:∀b∈fp,kT X pins H b)
 (hch:∀C s₀ H₀ ex,PG (cW X scope N' C s₀ H₀ ex) tg g/\PTs (cW X scope N' C s₀ H₀ ex) ifs tt/\∀pl E W,PassesOwn (model X.prog X.w) X.A (cW X scope N' C s₀ H₀ ex).env E->Rs ((cW X scope N' C s₀ H₀ ex).inTry pl E) W->PE ((cW X scope N' C s₀ H₀ ex).inTry pl E) elt (te W))
 (hWX:∀c σ H,WX c σ H->X.stack=X.env::X.outer/\RX X c σ H)
 (hw:∃W:Nat->Nat->List V->St->Hp->Prop,(∃m,W 0 m [] (kH k caps σ) H)/\∀i m ys σ1 H,W i m ys σ1 H ->
  (J.stop i H/\ys.length<=sizeLine/\∀p,H p=none->Q (.ref p) (upd H p (.lst ys))) \/
  (J.go i H/\ys.length<sizeLine/\∀x H',J.yld i H x H'->g x σ1 H' λσ2 H2=>tt σ2 H2 λb H3=>
   if b=true then te (λc _ H=>WX c σ H) σ2 H3 λy H4=>∃m',m'<m/\W (i+1) m' (ys++[y]) σ2 H4 else ∃m',m'<m/\W (i+1) m' ys σ2 H3))
 (hE:∀D C s' H' m a cls T,Inv X pins σ H' s'->s'.heap.Ns C m->s.heap.objs.size<C->(∀(σ':St) (s'':Shared) (h':Heap),Inv X pins σ' H' s''->Heap.SameBut C s''.heap h'->Inv X pins σ' H' { s'' with heap:=h' })->Rec s'.heap a cls (some T) ->
  (∀b,(b=a\/some T=some b)->¬ (Old X.s₀.heap b/\b∉X.ex)/\H' b=none/\b∉pinA X pins)->RX X cls σ H'->RR (.ref D) C (.error (.ref a)) s')
 (hR:∀D C s' H' m,Inv X pins σ H' s'->s'.heap.Ns C m->s.heap.objs.size<C->(∀(σ':St) (s'':Shared) (h':Heap),Inv X pins σ' H' s''->Heap.SameBut C s''.heap h'->Inv X pins σ' H' { s'' with heap:=h' })->Q (.ref D) H'->RR (.ref D) C (.ok .next) s') :
 wpAny (model X.prog X.w) X.A (newList []) (λacc s₃=>wpAny (model X.prog X.w) X.A (newFunctionEnv scope X.env.globals (gU X.env.cells scope.names []) [] X.env.qual none .none (some X.env)) (λcenv s₄=>
  codeAny (model X.prog X.w) X.A (.compStart (.ListComp elt [⟨tg,iter,ifs,0⟩] scope pos) 0 (.ref it) acc { cenv with scope:=relabel scope X.env }) (RR acc cenv.locals) s₄) E s₃) E s:=by
 obtain⟨W,⟨m0,w0⟩,turn⟩:=hw;have hf:∀b∈fp,b<s.heap.objs.size:=λb hb=>by obtain⟨o,e,_⟩:=T.obj 0 _ st b hb;exact Ag e
 refine B4 (wpAny_newFunctionEnv CS.nocell (by intro y hy;simp at hy) (λh₁ hns₁ hsb₁=>?_) CS.kind);have hsz:(s.heap.push (dG [] 0)).objs.size=s.heap.objs.size+1:=B6 _ _;have hns:h₁.Ns (s.heap.objs.size+1) λ_=>none:=by have:=hns₁;rw[show({ s with heap:=s.heap.push (dG [] 0) }:Shared).heap.objs.size=s.heap.objs.size+1 from hsz] at this;exact this
 have hk:∀b o,(s.heap.push (dG [] 0)).get? b=some o->h₁.get? b=some o:=λb o e=>hsb₁.extBut b o (A0 (by have:=Ag e;rw[hsz] at this;show b<(s.heap.push (dG [] 0)).objs.size;rw[hsz];exact this)) (Ab _ e);have I0:=aKS (N':=N') CS I f hf (tk:=s.toks+([]:List (Str×Value)).length) hns hk;have noC:∀{b:Addr},b<s.heap.objs.size->b≠s.heap.objs.size+1:=λ{b} hb=>A0 (Dj hb);have hDn:H s.heap.objs.size=none:=I.fresh;have hh:∀n,(n,NameKind.free)∈scope.names->∃c,X.env.cells.lookup n=some c:=λn hn=>I.ok.has n (CS.free n hn);have hD1:h₁.get? s.heap.objs.size=some (dG [] 0):=hk _ _ (Ao _ rfl);have stFs:∀b∈frs X.stack,b<s.heap.objs.size:=λb hb=>by obtain⟨_,o,ho,_⟩:=I.stack.mem hb;exact Ag ho
 have fpc:∀(pl:List (Addr×Obj)),(∀p∈pl,p.1=s.heap.objs.size)->∀{H':Hp},(∀b∈fp,H' b=none)->∀b∈fp,kT (cW X scope N' (s.heap.objs.size+1) { s with heap:=s.heap.push (dG [] 0) } H (s.heap.objs.size::fp)) pl H' b:=by
  intro pl hpl H' hn b hb;refine⟨hn b hb,noC (hf b hb),λz=>?_,.inl (Ak _ hb),λx c e=>(f b hb).2.2.2.2.1 x c (cZ hh e),λp hp z=>?_⟩;rcases A3.mp (I.stkSub b z) with q|q;exact(f b hb).2.1 q;exact(f b hb).2.2.1 q;have hp':p∈pl:=by simpa[cW] using hp
  rw[hpl p hp'] at z;exact absurd (hf b hb) (by rw[<-z];exact A8 _)
 have pinD:∀{σ':St} {H':Hp} {s':Shared} {its:List Value} {n:Nat} {pl:List (Addr×Obj)},Inv (cW X scope N' (s.heap.objs.size+1) { s with heap:=s.heap.push (dG [] 0) } H (s.heap.objs.size::fp)) pl σ' H' s' ->
  s'.heap.get? s.heap.objs.size=some (dG its n)->H' s.heap.objs.size=none->Inv (cW X scope N' (s.heap.objs.size+1) { s with heap:=s.heap.push (dG [] 0) } H (s.heap.objs.size::fp)) [(s.heap.objs.size,dG its n)] σ' H' s':=by
  intro σ' H' s' its n pl J e nn;refine J.pins_of λp hp=>?_;have:p=(s.heap.objs.size,dG its n):=by simpa using hp
  subst this;refine⟨e,nn,A0 (Ce _),λz=>absurd (stFs _ z) (A8 _),λv z=>by cases z⟩
 have nb:∀{b:Addr} {o:Obj},s.heap.get? b=some o->b∉fp->b∉s.heap.objs.size::fp:=λ{b o} e hb z=>by rcases A3.mp z with z|z;exact absurd (Ag e) (by rw[z];exact A8 _);exact hb z
 have allC:∀{H':Hp},H' (s.heap.objs.size+1)=none->∀(σ':St) (s'':Shared) (h':Heap),Inv X pins σ' H' s''->Heap.SameBut (s.heap.objs.size+1) s''.heap h'->Inv X pins σ' H' { s'' with heap:=h' }:=λ{H'} hn σ' s'' h' I6 hs'=>by
  have:=I6.turned (t':=s''.toks) (h':=h') (it:=s.heap.objs.size+1) (λb o hb e=>hs'.extBut b o hb e) hn
   (B3 (Dj I.lt)) (.inr (Nat.le_succ_of_le I.sz)) (λx c e=>A0 (Dj (I.cellLt e))) λp hp z=>?_
  exact this;have:=Ag (I.pin p hp).1;rw[z] at this;exact absurd this (Dy.mpr (Nat.le_succ _))
 have outE:∀{pl:List (Addr×Obj)} {E:Value->Shared->Prop},(∀b∈s.heap.objs.size::fp,b∈pl.map (·.1)) ->
  Rs ((cW X scope N' (s.heap.objs.size+1) { s with heap:=s.heap.push (dG [] 0) } H (s.heap.objs.size::fp)).inTry pl λx s'=>wpAny (model X.prog X.w) X.A (noteFrame x (compEnvC scope (gU X.env.cells scope.names []) (s.heap.objs.size+1) X.env)) (λ_ s''=>RR (.ref s.heap.objs.size) (s.heap.objs.size+1) (.error x) s'') E s') λc _ H=>WX c σ H:=by
  intro pl E hpl pins' σ' H' s' a cls I' fl hW;obtain⟨hst,hW⟩:=hWX _ _ _ hW;have I0':=I'.outTry;obtain⟨T,rc,nw⟩:=fl;have nw0:∀b,(b=a\/T=some b)->¬ (Old (s.heap.push (dG [] 0)) b/\b∉s.heap.objs.size::fp)/\H' b=none/\b∉pl.map (·.1):=λb z=>⟨(nw b z).1,(nw b z).2.1,λy=>(nw b z).2.2 (by
   obtain⟨p,hp,e⟩:=Av.mp y;exact Av.mpr ⟨p,Bm _ (Ax _ hp),e⟩)⟩
  have hfr:X.env.frame=some X.env.locals:=by
   rcases I.ok.stk with z|⟨_,z⟩
   rw[hst] at z;exact absurd (congrArg List.length z) (by simp);exact z
  show wpAny (model X.prog X.w) X.A (noteFrame (.ref a) (compEnvC scope (gU X.env.cells scope.names []) (s.heap.objs.size+1) X.env)) _ _ s';rw[nL (env:=X.env) (env':=compEnvC scope (gU X.env.cells scope.names []) (s.heap.objs.size+1) X.env) rfl];refine aFR (base:=X.base) (outer:=X.outer) (by rw[<-hst];exact I0'.ok.frames) (by rw[<-hst];exact I0'.stack) hfr rc λh1 T1 l1 x1 r1=>?_;have I1:=I0'.note x1 (λb hb=>by rw[<-hst] at hb;exact hb) (λb hb=>.inl (by rw[<-hst];exact hb)) rc (λb z=>⟨(nw0 b z).1,(nw0 b z).2.1,by
   show b∉(([]:List (Addr×Obj))++pl).map (·.1);rw[C6];exact(nw0 b z).2.2⟩)
  have u4:=I1.base;have u:Un (frs X.stack) fp H H' s.heap h1:={
   keep:=λb o e nn hb hx=>u4.keep b o (Ab _ e) nn hb (nb e hx)
   slot:=λb o e nn hb hx=>u4.slot b o (Ab _ e) nn hb (nb e hx)
   free:=λb o e nn hx=>u4.free b o (Ab _ e) nn (nb e hx)
   there:=λb o e hx=>u4.there b o (Ab _ e) (nb e hx)
   tups:=u4.tups
   frzs:=u4.frzs
   tbls:=u4.tbls }
  have I5:Inv X pins σ H' { s' with heap:=h1 }:=I.call' I1.os u I1.hok I1.bare λb hb=>⟨(f b hb).2.2.2.1,(f b hb).2.1,(f b hb).2.2.2.2.1,(f b hb).2.2.2.2.2⟩
  obtain⟨m4,hn4,_⟩:=I1.loc;have new:∀b,(b=a\/T=some b)->¬ Old s.heap b:=λb z ⟨o,q⟩=>(nw0 b z).1 ⟨⟨o,Ab _ q⟩,λy=>(nw0 b z).2.2 (hpl b y)⟩;refine hE s.heap.objs.size (s.heap.objs.size+1) { s' with heap:=h1 } H' m4 a cls T1 I5 hn4 (Ce _) (allC I1.free) r1 (λb z=>?_) hW;have nold:¬ Old s.heap b/\H' b=none:=by rcases z with z|z;exact⟨new b (.inl z),(nw0 b (.inl z)).2.1⟩;cases z;rcases l1 with l1|l1;exact⟨λq=>absurd (Ap q.lt (A1 (Nat.le_of_lt (Ap (show s.heap.objs.size<(s.heap.push (dG [] 0)).objs.size by rw[hsz];exact Ce _) I0'.sz)) l1)) (A8 _),I0'.hok.fresh l1⟩;exact⟨new _ (.inr l1),(nw0 _ (.inr l1)).2.1⟩
  exact⟨λy=>nold.1 (tP I b y.1 y.2),nold.2,λy=>nold.1 (kY I b y)⟩
 have start:codeAny (model X.prog X.w) X.A (.compLoop (.ListComp elt [⟨tg,iter,ifs,0⟩] scope pos) 0 (.ref it) (.ref s.heap.objs.size) (compEnvC scope (gU X.env.cells scope.names []) (s.heap.objs.size+1) X.env))
  (RR (.ref s.heap.objs.size) (s.heap.objs.size+1)) { s with heap:=h₁,toks:=s.toks+([]:List (Str×Value)).length }:=by
  refine iO (λn s'=>∃i ys its cnt σ1 H',Inv (cW X scope N' (s.heap.objs.size+1) { s with heap:=s.heap.push (dG [] 0) } H (s.heap.objs.size::fp)) [(s.heap.objs.size,dG its cnt)] σ1 H' s' /\
   tn i s'.heap/\(∀b∈fp,H' b=none)/\bC ys its/\W i n ys σ1 H') ?_ m0 ⟨0,[],[],0,_,H,pinD I0 hD1 hDn,T.keep _ _ _ st λb _ o e=>hk b o (Ab _ e),λb hb=>(f b hb).1,.nil,w0⟩
  rintro n s3 ⟨i,ys,its,cnt,σ1,H3,I3,st3,fr3,rv3,w3⟩;obtain⟨hD3,nD3,_⟩:=I3.pin (s.heap.objs.size,dG its cnt) (by simp[cW]);have pl1:∀p∈[(s.heap.objs.size,dG its cnt)],p.1=s.heap.objs.size:=λp hp=>by
   have:p=(s.heap.objs.size,dG its cnt):=by simpa using hp
   rw[this]
  rcases turn i n ys σ1 H3 w3 with⟨stop,hz,qn⟩|⟨go,hz,step⟩
  refine thn (T.done (cW X scope N' (s.heap.objs.size+1) { s with heap:=s.heap.push (dG [] 0) } H (s.heap.objs.size::fp)) rfl rfl rfl hc i _ s3 _ H3 _ I3 (fpc _ pl1 fr3) st3 stop) λr s4 ⟨hr,I4⟩=>?_;subst hr;obtain⟨hD4,nD4,_⟩:=I4.pin (s.heap.objs.size,dG its cnt) (by simp[cW]);have u4:=I4.base;have neD:∀{b:Addr} {o:Obj},s.heap.get? b=some o->b≠s.heap.objs.size:=λ{b o} e=>A0 (Ag e);have trD:∀{b:Addr} {o:HO},H b=some o->b≠s.heap.objs.size:=λ{b o} e=>bG e hDn;have u:Un (frs X.stack) fp H (upd H3 s.heap.objs.size (.lst ys)) s.heap s4.heap:={
   keep:=λb o e nn hb hx=>u4.keep b o (Ab _ e) nn hb (nb e hx)
   slot:=λb o e nn hb hx=>u4.slot b o (Ab _ e) nn hb (nb e hx)
   free:=λb o e nn hx=>by rw[aF (neD e)];exact u4.free b o (Ab _ e) nn (nb e hx)
   there:=λb o e hx=>u4.there b o (Ab _ e) (nb e hx)
   tups:=λb xs e=>by rw[aF (trD e)];exact u4.tups b xs e
   frzs:=λb o u e=>by rw[aF (trD e)];exact u4.frzs b o u e
   tbls:=λb ps e=>by rw[aF (trD e)];exact u4.tbls b ps e }
  have hl:=rv3.length;have hok:HOk X.prog X.w (upd H3 s.heap.objs.size (.lst ys)) s4.heap:=HOk.track I4.hok nD4 ⟨hz,its,cnt,rv3,hD4⟩;have I5:Inv X pins σ (upd H3 s.heap.objs.size (.lst ys)) s4:=I.call' I4.os u hok I4.bare λb hb=>⟨(f b hb).2.2.2.1,(f b hb).2.1,(f b hb).2.2.2.2.1,(f b hb).2.2.2.2.2⟩
  obtain⟨m4,hn4,_⟩:=I4.loc;exact hR s.heap.objs.size (s.heap.objs.size+1) s4 _ m4 I5 hn4 (Ce _) (allC (by rw[aF (B3 (Ce _))];exact I4.free)) (qn _ nD4);refine thn (T.item (cW X scope N' (s.heap.objs.size+1) { s with heap:=s.heap.push (dG [] 0) } H (s.heap.objs.size::fp)) rfl rfl rfl hc i _ s3 _ H3 _ I3 (fpc _ pl1 fr3) st3 go) λr s4 ⟨u,hr,h4⟩=>?_;subst hr;refine thn h4 λ_ s5 ⟨x,H5,I5,r5,y5,st5,fr5⟩=>?_;obtain⟨hg,ht,he⟩:=hch (s.heap.objs.size+1) { s with heap:=s.heap.push (dG [] 0) } H (s.heap.objs.size::fp);have I5':=I5.pinned (fpc _ pl1 fr5) (T.obj _ _ st5);have keep:∀{σ7:St} {H7:Hp} {s7:Shared},Inv (cW X scope N' (s.heap.objs.size+1) { s with heap:=s.heap.push (dG [] 0) } H (s.heap.objs.size::fp)) ([(s.heap.objs.size,dG its cnt)]++mB fp s5.heap) σ7 H7 s7 ->
   tn (i+1) s7.heap/\(∀b∈fp,H7 b=none)/\s7.heap.get? s.heap.objs.size=some (dG its cnt)/\H7 s.heap.objs.size=none:=by intro σ7 H7 s7 I7;obtain⟨hD7,nD7,_⟩:=I7.pin (s.heap.objs.size,dG its cnt) (by simp[cW]);refine⟨T.keep _ _ _ st5 λb hb o e=>(I7.pin (b,o) (Ax _ (Ax _ (fH hb e)))).1,λb hb=>?_,hD7,nD7⟩;obtain⟨o,e,d⟩:=T.obj _ _ st5 b hb;exact(I7.pin (b,o) (Ax _ (Ax _ (fH hb e)))).2.1
  refine thn (hg _ s5 _ H5 x u _ I5' r5 (step x H5 y5)) λ_ s6 ⟨σ6,H6,I6,q6⟩=>?_;refine thn (ht _ s6 σ6 H6 _ I6 q6) λb s7 ⟨H7,I7,q7⟩=>?_;cases b with
  | false=>rw[if_neg bN] at q7 ⊢;obtain⟨m',hm,w7⟩:=q7;obtain⟨t7,f7,d7,n7⟩:=keep I7;exact⟨m',hm,i+1,ys,its,cnt,σ6,H7,pinD I7 d7 n7,t7,f7,rv3,w7⟩|true=>
   rw[if_pos rfl] at q7 ⊢;refine Bo (he ([(s.heap.objs.size,dG its cnt)]++mB fp s5.heap) _ _ PassesOwn.looking (outE λb hb=>?_) [] s7 σ6 H7 _ I7.inTry q7) (λyv s8 ⟨y,H8,I8,r8,q8⟩=>?_) λ_ _ z=>z;rcases A3.mp hb with z|z;rw[z];simp;obtain⟨o,e,d⟩:=T.obj _ _ st5 b z;exact Av.mpr ⟨(b,o),Ax _ (fH z e),rfl⟩;have I8:=I8.outTry;obtain⟨m',hm,w8⟩:=q8;obtain⟨t8,f8,d8,n8⟩:=keep I8;have hl:=rv3.length;have hzv:its.toArray.size<=sizeLine:=by rw[Ae];omega
   refine Dw F.slot_list_append ⟨_,d8,rfl⟩ F.entry_list_append (F.args_list_append_2 _ _) (PySem.list_append s.heap.objs.size its.toArray cnt yv hzv) ⟨d8,?_⟩;have q:=PySem.IsL.update d8 (λa=>a.push yv);have e':its.toArray.push yv=(its++[yv]).toArray:=by simp
   rw[e'] at q;have I9:=(I8.unpinned (pins:=[(s.heap.objs.size,dG its cnt)])).pins_of (pins':=[]) (λp hp=>absurd hp (by simp));have I10:=I9.turned (t':=s8.toks) (it:=s.heap.objs.size) (h':=s8.heap.update s.heap.objs.size (Obj.mapSeq λa=>a.push yv)) (λb o hb e=>(Aq s8.heap _ (Ne.symm hb)).trans e) n8
    (A0 (Ce _)) (.inl As) (λx c e=>A0 (I.cellLt (cZ hh e))) (λp hp=>absurd (show p∈([]:List (Addr×Obj)) from by simpa[cW] using hp) (by simp))
   refine⟨m',hm,i+1,ys++[y],its++[yv],_,σ6,H8,pinD I10 q n8,?_,f8,rv3.append (.cons r8 .nil),w8⟩;refine T.keep _ _ _ t8 λb hb o e=>(Aq s8.heap _ ?_).trans e;intro z;exact absurd (hf b hb) (by rw[<-z];exact A8 _)
 have startC:∀C,C=s.heap.objs.size+1->codeAny (model X.prog X.w) X.A (.compLoop (.ListComp elt [⟨tg,iter,ifs,0⟩] scope pos) 0 (.ref it) (.ref s.heap.objs.size) (compEnvC scope (gU X.env.cells scope.names []) C X.env))
  (RR (.ref s.heap.objs.size) C) { s with heap:=h₁,toks:=s.toks+([]:List (Str×Value)).length }:=by rintro C rfl;exact start
 exact codeAny_compStart_list (startC _ hsz) (T.self X.A 0 _ _ _ (T.keep _ _ _ st λb _ o e=>hk b o (Ab _ e)) (startC _ hsz))
end
section
variable {X:Cx} {scope:Scope} {k:Nat} {caps:List Nat} {N':List Str} {tg iter elt:Expr} {ifs:List Expr} {pos:Pos} {wi:TI} {g:TG} {tt:TT} {te:(Value->St->Hp->Prop)->TE} {WX:Value->St->Hp->Prop}
theorem wG{s':Shared}{m:Str->Option Value}{Q:Value->Shared->Prop}{use:Option (Value->Sem Unit)}(I:Inv X pins σ H' s')(hn:s'.heap.Ns C m)
 (hall:∀(σ':St) (s'':Shared) (h':Heap),Inv X pins σ' H' s''->Heap.SameBut C s''.heap h'->Inv X pins σ' H' { s'' with heap:=h' }) (r:Rec s'.heap a cls (some T)) (nw:∀b,(b=a\/some T=some b)->¬ (Old X.s₀.heap b/\b∉X.ex)/\H' b=none/\b∉pinA X pins) (hx:RX X cls σ H') :
 compPost (model X.prog X.w) X.A X.xe use Q acc C (.error (.ref a)) s':=by
 have key:∃m,s'.heap.Ns C m/\∀h',Heap.SameBut C s'.heap h'->∀cenv:Env,cenv.locals=C->wpAny (model X.prog X.w) X.A (PySem.passOn "comprehension.variables-let-go" (.ref a) cenv:Sem Value) (λ_ _=>False) X.xe { s' with heap:=h' }:=by
  refine⟨m,hn,λh' hs cenv _=>?_⟩;have I1:=hall σ s' h' I hs;have ne:∀b o,s'.heap.get? b=some o->(∃vs,o.data=.fields vs)->b≠C:=λb o q ⟨vs,d⟩ z=>by obtain⟨oC,es,ep,ho,hd,_⟩:=hn;rw[z,ho] at q;cases q;rw[hd] at d;cases d
  have r1:Rec h' a cls (some T):=by obtain⟨oe,vs,he,hc,hdi,hd,h1,hTe,oT,ts,hT,hdT,fl,h3⟩:=r;exact⟨oe,vs,(hs.2 a (ne a oe he ⟨vs,hd⟩)).trans he,hc,hdi,hd,h1,hTe,oT,ts,(hs.2 T (ne T oT hT ⟨ts,hdT⟩)).trans hT,hdT,fl,h3⟩
  unfold PySem.passOn;obtain⟨oe,vs,he,_,_,hd,h1,_⟩:=id r1;refine Aa (A6 (s:={ s' with heap:=h' }) he hd h1 ?_);rw[if_neg (show ¬ ((Value.ref T==Value.none)=true) from by simp)];refine Aa (aIt (s:={ s' with heap:=h' }) r1 λh2 x2 r2=>?_);refine wpAny_throw ?_;exact hx pins _ a (Inv.note (s:={ s' with heap:=h' }) (fr:=[]) I1 x2 (λb hb=>by cases hb) (λb hb=>.inr rfl) r1 nw) ⟨some T,r2,nw⟩
 cases use with
 | none=>exact key|some u=>exact key
theorem aAH(CS:dI X scope k caps N')(hc:X.calm=true)(hi:PI X tg iter wi)
 (hch:∀C s₀ H₀ ex,PG (cW X scope N' C s₀ H₀ ex) tg g/\PTs (cW X scope N' C s₀ H₀ ex) ifs tt/\∀pl E W,PassesOwn (model X.prog X.w) X.A (cW X scope N' C s₀ H₀ ex).env E->Rs ((cW X scope N' C s₀ H₀ ex).inTry pl E) W->PE ((cW X scope N' C s₀ H₀ ex).inTry pl E) elt (te W)) (hWX:∀c σ H,WX c σ H->X.stack=X.env::X.outer/\RX X c σ H) (hs:∀x,foldedSetIterable iter X.env x=pure x) :
 PE X (.ListComp elt [⟨tg,iter,ifs,0⟩] scope pos) (aDy WX k caps wi g tt te):=by intro pins s σ H Q I h;rw[eval_ListComp];refine wpAny_comprehension_free (use:=none) rfl hs (iF λn hn=>I.ok.has n (CS.free n hn)) CS.kind CS.loc (thn (hi pins s σ H _ I h) λxv s1 h1=>thn h1 λitv s2 h2=>?_);obtain⟨it,fp,tn,J,H2,e,I2,T,st2,f2,hw⟩:=h2;subst e;exact wF (RR:=λacc C=>compPost (model X.prog X.w) X.A X.xe none (EP X pins σ Q) acc C) (Q:=Q) CS hc I2 T st2 f2 hch hWX hw (λD C s' H' m a cls T I hn _ hall r nw hx=>wG I hn hall r nw hx) λD C s' H' m J hn _ hall q=>⟨m,hn,λh' hs'=>⟨.ref D,H',hall σ s' h' J hs',rfl,q⟩⟩
theorem zD(CS:dI X scope k caps N')(hc:X.calm=true)(hi:PI X tg iter wi)
 (hch:∀C s₀ H₀ ex,PG (cW X scope N' C s₀ H₀ ex) tg g/\PTs (cW X scope N' C s₀ H₀ ex) ifs tt/\∀pl E W,PassesOwn (model X.prog X.w) X.A (cW X scope N' C s₀ H₀ ex).env E->Rs ((cW X scope N' C s₀ H₀ ex).inTry pl E) W->PE ((cW X scope N' C s₀ H₀ ex).inTry pl E) elt (te W)) (hWX:∀c σ H,WX c σ H->X.stack=X.env::X.outer/\RX X c σ H) (hs:∀x,foldedSetIterable iter X.env x=pure x)
 (hN:X.N.Nodup) (hx':X.N[i]? = some x) (hx:Loc X.env.scope x) (hf:X.fn x=true\/X.env.scope.names.lookup x=some .local) :
 PS X (.Assign [.Name x pos'] (.ListComp elt [⟨tg,iter,ifs,0⟩] scope pos) spos) (aHS (aDy WX k caps wi g tt te) (qZ i)):=by
 have hb:∃b,swapsWith (.ListComp elt [⟨tg,iter,ifs,0⟩] scope pos) (some (.Name x pos')) spos.line X.env=pure b:=⟨_,rfl⟩
 obtain⟨b,hb⟩:=hb;cases b with
 | false=>exact lY hN hx' hx (aAH CS hc hi hch hWX hs) hb hf|true=>intro pins s σ H D I h;rw[exec_Assign_Name_used x pos' _ spos hb];refine Aa (Cq (Aa ?_));show wpAny _ _ (comprehension (.ListComp elt [⟨tg,iter,ifs,0⟩] scope pos) scope X.env (firstIterPos [⟨tg,iter,ifs,0⟩] pos) (newList []) (firstAsync [⟨tg,iter,ifs,0⟩]) (firstIter [⟨tg,iter,ifs,0⟩] X.env) (some (assign (.Name x pos') X.env)) >>= λ_=>pure ()) _ _ s;refine Aa (wpAny_comprehension_free (use:=some (assign (.Name x pos') X.env)) rfl hs (iF λn hn=>I.ok.has n (CS.free n hn)) CS.kind CS.loc (thn (hi pins s σ H _ I h) λxv s1 h1=>thn h1 λitv s2 h2=>?_));obtain⟨it,fp,tn,J,H2,e,I2,T,st2,f2,hw⟩:=h2;subst e;refine wF (Q:=λv H'=>D.nx (σ.set i (some v)) H') (RR:=λacc C=>compPost (model X.prog X.w) X.A X.xe (some (assign (.Name x pos') X.env)) (λ_ s'=>wpAny (model X.prog X.w) X.A (pure ()) (λ_ s'=>wpAny (model X.prog X.w) X.A (pure Flow.next) (SP X pins D) X.xe s') X.xe s') acc C) CS hc I2 T st2 f2 hch hWX hw (λD C s' H' m a cls T I hn _ hall r nw hx=>wG I hn hall r nw hx) λD' C s' H' m J hn lt hall q=>?_;show wpAny _ _ (assign (.Name x pos') X.env (.ref D')) _ _ s';refine wpAny_assign_Name (qY (v:=V.ref D') J hN hx' hx rfl (λs'' J' hsb=>?_) hf);obtain⟨a,sb,ha⟩:=hsb;refine⟨m,hn.sameBut sb ?_,λh' hs'=>?_⟩;rcases ha with z|z;rw[z];exact B3 (Nat.lt_trans I2.lt lt);exact B3 (Nat.lt_trans (I2.cellLt z) lt);exact Al (Al ⟨_,H',hall _ s'' h' J' hs',q⟩)
end
end L2
end
noncomputable section
set_option maxRecDepth 100000
namespace L2
open PySem PySem.Spec PyProof.Rows PySem.W
section
variable {prog:Program} {w:World} {A:Around} {E:Value->Shared->Prop} {K:PySem.W.Frag} {h:Heap} {g:Array GenState} {d:Drawn} {t:Nat} {os:OsState} {a C:Addr} {o:Obj}
theorem aDA{Q:PySem.Fin->Shared->Prop}(X:K.In h)(I:InstAt h a o C od)(g3:findIn K (.ref C) "__class__" = some (some (.builtin "object.__class__")))(hm:mroIn K C (.type "object")=some true)(hq:Q (.done (.ret (.ref C))) ⟨h,g,d,t,os⟩) :
 wpAny (model prog w) A (Builtin.«object.__getattribute__» ⟨[.ref a,.str "__class__" tk],[]⟩) Q E ⟨h,g,d,t,os⟩:=by
 have hx:=I.at_;have hc:=I.cls;have hT5:(⟨h,g,d,t,os⟩:Shared).TypeIs (.builtin "object.__class__") "getset_descriptor" := F.typeOf_object_class;have f5:=F.typeOf_object_class;have f6:=F.slot_gs_get.lookup;have f7:=F.slot_gs_set.lookup
 repeat (any_goals (first|assumption|(with_reducible refine B1 hx ?_;rw[hc])|with_reducible refine(Dm X g3).at ?_|wp_step))
 refine class_get (s:=⟨h,g,d,t,os⟩) X I hm ?_
 repeat (any_goals (first|assumption|wp_step))
theorem wH{Q:Unit->Shared->Prop}(X:K.In h)(I:InstAt h a o C od)(hb:subIn K (.ref C) (.type "BaseException")=some true)(hq:Q () ⟨h,g,d,t,os⟩) :
 wpAny M A (checkBuiltinCall "BaseException.__getattribute__" ⟨[.ref a,nameV],[]⟩) Q E ⟨h,g,d,t,os⟩:=by
 have hk:builtinKind "BaseException.__getattribute__" = some .slot:=by decide +kernel
 have hsplit:splitId "BaseException.__getattribute__" = some ("BaseException", "__getattribute__"):=by decide +kernel
 have ha:=F.args_bexc_ga (.ref a) nameV;have LI:Looks M h (isInstance (.ref a) (.type "BaseException")) true:=(I.type (M:=M)).andThen (looks_subIn X hb);simp only[checkBuiltinCall,hk,hsplit];refine Aa (LI.at ?_)
 repeat (first|wp_step)
 exact hq
theorem aGb{R:Result->Shared->Prop}(X:K.In h)(I:InstAt h a o C od)(hb:subIn K (.ref C) (.type "BaseException")=some true)(g3:findIn K (.ref C) "__class__" = some (some (.builtin "object.__class__")))(hm:mroIn K C (.type "object")=some true)(hq:R (.ok (.ret (.ref C))) ⟨h,g,d,t,os⟩) :
 codeAny (model prog w) A (.call (.builtin "BaseException.__getattribute__") ⟨[.ref a,.str "__class__" tk],[]⟩) R ⟨h,g,d,t,os⟩:=
 codeAny_call_builtin Dg.ga.plain F.entry_bexc_ga (wH X I hb (aDA X I g3 hm hq))
theorem aKT{tk:Tok}{fill expr:Bool}{Q:Value->Shared->Prop}(X:K.In h){od:Option Obj}(I:InstAt h a o C od)(hb:subIn K (.ref C) (.type "BaseException")=some true)(g1:findIn K (.ref C) "__getattribute__" = some (some (.builtin "BaseException.__getattribute__")))(g2:findIn K (.ref C) "__getattr__" = some none)
 (g3:findIn K (.ref C) "__class__" = some (some (.builtin "object.__class__"))) (hm:mroIn K C (.type "object")=some true) (hq:Q (.ref C) ⟨h,g,d,t,os⟩) :
 wpAny (model prog w) A (getAttrBy (.ref a) (.str "__class__" tk) fill expr) Q E ⟨h,g,d,t,os⟩:=by
 have hx:=I.at_;have hc:=I.cls;have f3:=Dg.ga.bind (.ref a);have hx0:(expr&&onTheHeap (Value.builtin "BaseException.__getattribute__"))=false:=by cases expr <;> rfl
 have hx2:(Value.builtin "BaseException.__getattribute__" == Value.builtin "object.__getattribute__")=false:=by decide +kernel
 have hx1:(onTheHeap (Value.ref C)&&Value.builtin "BaseException.__getattribute__" == Value.builtin "object.__getattribute__")=false:=by rw[hx2];rfl
 repeat (any_goals (first|assumption|(with_reducible refine B1 hx ?_;rw[hc])|with_reducible refine(Dm X g1).at ?_|with_reducible refine(Dm X g2).at ?_|wp_step))
 refine aGb X I hb g3 hm ?_
 repeat (any_goals (first|assumption|wp_step))
theorem aGc{Q:Option Value->Shared->Prop}(X:K.In h){od:Option Obj}(I:InstAt h a o C od)(hb:subIn K (.ref C) (.type "BaseException")=some true)(g1:findIn K (.ref C) "__getattribute__" = some (some (.builtin "BaseException.__getattribute__")))(g2:findIn K (.ref C) "__getattr__" = some none)
 (g3:findIn K (.ref C) "__class__" = some (some (.builtin "object.__class__"))) (hm:mroIn K C (.type "object")=some true) (hq:Q (some (.ref C)) ⟨h,g,d,t+1,os⟩):wpAny (model prog w) A (getAttr? (.ref a) "__class__") Q E ⟨h,g,d,t,os⟩:=by
 unfold getAttr? getAttrBy?
 repeat (any_goals (first|assumption|with_reducible apply aKT X I hb g1 g2 g3 hm|wp_step))
theorem aDB{Q:PySem.Fin->Shared->Prop}(X:K.In h)(I:InstAt h a o C od)(hf:findObj K C od name=some (.value v))(hq:Q (.done (.ret v)) ⟨h,g,d,t,os⟩) :
 wpAny (model prog w) A (Builtin.«object.__getattribute__» ⟨[.ref a,.str name tk],[]⟩) Q E ⟨h,g,d,t,os⟩:=by have L0:=I.type (M:=model prog w);have L1:=looks_find (M:=model prog w) X I hf;refine Aa (Al (Aa (Al (Aa (L0.at (Aa (L1.at ?_)))))));exact Al hq
theorem aGd{Q:Value->Shared->Prop}(X:K.In h)(I:InstAt h a o C od)(hb:subIn K (.ref C) (.type "BaseException")=some true)(g1:findIn K (.ref C) "__getattribute__" = some (some (.builtin "BaseException.__getattribute__")))(g2:findIn K (.ref C) "__getattr__" = some none)
 (hf:findObj K C od name=some (.value v)) (hh:handedIn v=true) (hq:Q v ⟨h,g,d,t+1,os⟩):wpAny (model prog w) A (getAttr (.ref a) name expr) Q E ⟨h,g,d,t,os⟩:=by
 have hx:=I.at_;have hc:=I.cls;have f3:=Dg.ga.bind (.ref a);have hx0:(expr&&onTheHeap (Value.builtin "BaseException.__getattribute__"))=false:=by cases expr <;> rfl
 have hx2:(Value.builtin "BaseException.__getattribute__" == Value.builtin "object.__getattribute__")=false:=by decide +kernel
 have hx1:(onTheHeap (Value.ref C)&&Value.builtin "BaseException.__getattribute__" == Value.builtin "object.__getattribute__")=false:=by rw[hx2];rfl
 have hho:=handedOut_of hh;unfold getAttr getAttrBy
 repeat (any_goals (first|assumption|(with_reducible refine B1 hx ?_;rw[hc])|with_reducible refine(Dm X g1).at ?_|with_reducible refine(Dm X g2).at ?_|wp_step))
 refine codeAny_call_builtin Dg.ga.plain F.entry_bexc_ga (wH X I hb (aDB X I hf ?_));show wpAny _ _ (handedOut v) _ _ _;rw[hho];exact Al hq
end
structure XC (K:PySem.W.Frag) (C:Addr):Prop where
 isc:(clsIn K C).isSome=true
 hb:subIn K (.ref C) (.type "BaseException")=some true
 g1:findIn K (.ref C) "__getattribute__" = some (some (.builtin "BaseException.__getattribute__"))
 g2:findIn K (.ref C) "__getattr__" = some none
 g3:findIn K (.ref C) "__class__" = some (some (.builtin "object.__class__"))
 hm:mroIn K C (.type "object")=some true
theorem wJ{K:PySem.W.Frag}{a C:Addr}(c:XC K C):KitX K (.ref a) (.ref C) (λh=>∃o od,InstAt h a o C od) where
 ty:=λ_ _ _ ⟨_,_,I⟩=>I.type
 it:=λ_ _ X _=>by obtain⟨cdD,hcD⟩:=Option.isSome_iff_exists.mp c.isc;unfold clsIn at hcD;split at hcD;rename_i c' d' cd' sl' ho;intro A' Q' E' s' k q;unfold isType loadHead;exact Aa (wpAny_loadPart (k _ _ (X _ _ ho)) (Al q));cases hcD
 ne:=λh tp dd its n sl X htp=>by obtain⟨cdD,hcD⟩:=Option.isSome_iff_exists.mp c.isc;refine Bool.eq_false_iff.mpr λq=>?_;have e:C=tp:=Value.ref.inj (Ci.mp q);subst e;unfold clsIn at hcD;split at hcD;rename_i c' d' cd' sl' ho;have z:=(X _ _ ho).symm.trans htp;cases z;cases hcD
 ca:=λ{prog w A E Q s} X ⟨o,od,I⟩ k=>by obtain⟨h,g,d,t,os⟩:=s;exact aGc X I c.hb c.g1 c.g2 c.g3 c.hm k
section
variable {prog:Program} {w:World} {A:Around} {E:Value->Shared->Prop} {K:PySem.W.Frag} {h:Heap} {g:Array GenState} {d:Drawn} {t:Nat} {os:OsState}
variable {nm q:Str} {C N:Addr} {bs bm:List Value} {hdct:Bool} {sn:List Str} {sub:List Value} {ab:Bool} {col:Option Bool} {dd:Option Addr} {k0 k1 k2 k3 k5:Option Value} {fI:Addr} {oI:Obj} {rest:List Value}
theorem zE{Q:PySem.Fin->Shared->Prop}(X:K.In h)(T:OwnTail h bmV bm)(hC:h.get? C=some (excClassObj nm q C N bs bm hdct sn sub ab col dd k0 k1 k2 k3 k5 "ValueError.__new__"))(hi:findIn K (.ref C) "__init__" = some (some (.ref fI)))(hfI:h.get? fI=some oI)(hfc:oI.cls=.type "function")
 (hq:∀h' e,Heap.MadeExcOf h h' e (.ref C) rest->wpAny (model prog w) A (call (.ref fI) (.ref e::rest)) (λr s'=>r=.none/\Q (.done (.ret (.ref e))) s') E ⟨h',g,d,t,os⟩) (hrest:rest.length<=sizeLine) :
 wpAny (model prog w) A (Builtin.«type.__call__» ⟨.ref C::rest,[]⟩) Q E ⟨h,g,d,t,os⟩:=by
 have F:=Dk
 repeat (first|with_reducible refine B1 hC ?_|with_reducible refine wpAny_madeBy_exc hC ?_|wp_step)
 refine codeAny_call_builtin_code (Code.quiet_builtin _ F.quiet) (wpAny_check_new_subU F (by decide +kernel) T hC ?_);refine codeAny_exc_new_subU F (by decide +kernel) F T hC ?_ hrest;show wpAny _ _ _ _ _ _;have hk:∀b o,h.get? b=some o->((h.push { cls:=.type "tuple",data:=.seq rest.toArray }).push { cls:=.ref C,data:=.fields #[.ref h.objs.size,.none,.none,.none,.bool false,.none] }).get? b=some o:=λb o z=>Ab _ (Ab _ z);have hC₁:=hk _ _ hC;have hfI₁:=hk _ _ hfI;have X₁:=X.keeps hk;have hget:((h.push { cls:=.type "tuple",data:=.seq rest.toArray }).push
  { cls:=.ref C,data:=.fields #[.ref h.objs.size,.none,.none,.none,.bool false,.none] }).get? (h.objs.size+1)=some
  { cls:=.ref C,data:=.fields #[.ref h.objs.size,.none,.none,.none,.bool false,.none] }:=by heap_get
 have hcC:(Value.ref C::bm).contains (.ref C)=true:=by simp
 unfold isInstance
 repeat (first|with_reducible refine B1 hget ?_|(with_reducible refine Dp hC₁ ?_;rw[hcC])|wp_step)
 show wpAny _ _ (typeLookup (.ref C) _) _ _ _;refine(Dm X₁ hi).at ?_;refine C7 (Aa ?_);unfold bindSpecial;refine Aa (wpAny_typeOf (T:= "function") ⟨_,hfI₁,hfc⟩ ?_);rw[if_pos (by decide)];refine Al (Aa (Bo (hq _ (h.objs.size+1) ⟨λb o hb=>Ab _ (Ab _ hb),Heap.get?_none_of_le (Nat.le_succ _),h.objs.size,hget,Heap.get?_none_of_le (Ai _),?_⟩) (λr s' hr=>?_) λ_ _ x=>x));exact Ab _ (Heap.get?_push_at rfl rfl)
 . obtain⟨rfl,hQ⟩:=hr
   wp_walk
   exact hQ
theorem aBZ{Q:Value->Shared->Prop}(X:K.In h)(T:OwnTail h bmV bm)(hC:h.get? C=some (excClassObj nm q C N bs bm hdct sn sub ab col dd k0 k1 k2 k3 k5 "ValueError.__new__"))(hi:findIn K (.ref C) "__init__" = some (some (.ref fI)))(hfI:h.get? fI=some oI)(hfc:oI.cls=.type "function")
 (hq:∀h' e,Heap.MadeExcOf h h' e (.ref C) rest->wpAny (model prog w) (A.under (.builtin "type.__call__" ⟨.ref C::rest,[]⟩)) (call (.ref fI) (.ref e::rest)) (λr s'=>r=.none/\Q (.ref e) s') E ⟨h',g,d,t,os⟩) (hrest:rest.length<=sizeLine) :
 wpAny (model prog w) A (call (.ref C) rest) Q E ⟨h,g,d,t,os⟩:=by
 have f1:=tc_lookup;have f2:=tc_bind (.ref C);have hT:(⟨h,g,d,t,os⟩:Shared).TypeIs (.ref C) "type" := ⟨_,hC,rfl⟩
 refine wpAny_call (codeAny_of_tree ?_);show wpAny _ _ (callAny (.ref C) _) _ _ _
 repeat (any_goals (first|assumption|with_reducible refine B1 hC ?_|wp_step))
 refine⟨rfl,?_⟩;refine codeAny_call_builtin_at (Code.quiet_builtin _ (by decide +kernel)) entry_typeCall (wpAny_check_type_call_sub hC (zE X T hC hi hfI hfc (λh' e hm=>?_) hrest));exact hq h' e hm
theorem kI{Q:Flow->Shared->Prop}(hbase:bm.contains (.type "BaseException")=true)(hh:A.handled=none)
 (h:wpAny (model prog w) A x (λv s₁=>∃e t dp,v=.ref e/\s₁.heap.get? C=some (excClassObj nm q C N bs bm hdct sn sub ab col dd k0 k1 k2 k3 k5 "ValueError.__new__") /\
  s₁.heap.get? e=some { cls:=.ref C,dict:=dp,data:=.fields #[.ref t,.none,.none,.none,.bool false,.none] }/\E (.ref e) s₁) E s) :
 wpAny (model prog w) A (raiseStmt env (some x) none) Q E s:=by
 have hcB:(Value.ref C::bm).contains (.type "BaseException")=true:=by rw[List.contains_cons,hbase,Bool.or_true]
 unfold raiseStmt;refine Aa (Bo h (λv s₁ h₁=>?_) λ_ _ x=>x);obtain⟨e,t,dp,rfl,hC,he,hE⟩:=h₁;obtain⟨hp,g,d,tk,os⟩:=s₁
 repeat (first|with_reducible refine B1 he ?_|with_reducible refine B1 hC ?_|(with_reducible refine Dp hC ?_;rw[hcB])|wp_step)
 exact wpAny_raiseNew_none hh hE
theorem zF{Q:Flow->Shared->Prop}
 (hbase:bm.contains (.type "BaseException")=true) (hh:A.handled=none) (hplain:(backTo cpos (starEach args env)).any (·.1)=false) (hi:findIn K (.ref C) "__init__" = some (some (.ref fI)))
 (h:wpAny (model prog w) A (eval (.Name x np) env) (λf s₁=>f=.ref C/\wpAny (model prog w) A (evalArgs (.ref C) true (backTo cpos (starEach args env)) [])
  (λa s₂=>a.kw=[]/\a.pos.length<=sizeLine/\K.In s₂.heap/\s₂.heap.get? C=some (excClassObj nm q C N bs bm hdct sn sub ab col dd k0 k1 k2 k3 k5 "ValueError.__new__")/\OwnTail s₂.heap bmV bm/\(∃oI,s₂.heap.get? fI=some oI/\oI.cls=.type "function") /\
   ∀h' e,Heap.MadeExcOf s₂.heap h' e (.ref C) a.pos->wpAny (model prog w) (A.under (.builtin "type.__call__" ⟨.ref C::a.pos,[]⟩)) (call (.ref fI) (.ref e::a.pos)) (λr s'=>r=.none/\s'.heap.get? C=some (excClassObj nm q C N bs bm hdct sn sub ab col dd k0 k1 k2 k3 k5 "ValueError.__new__")/\(∃t dp,s'.heap.get? e=some { cls:=.ref C,dict:=dp,data:=.fields #[.ref t,.none,.none,.none,.bool false,.none] })/\E (.ref e) s') E { s₂ with heap:=h' }) E s₁) E s) :
 wpAny (model prog w) A (exec (.Raise (some (.Call (.Name x np) args [] cpos)) none pos) env) Q E s:=by
 rw[arm_exec_Raise]
 first
  | refine Aa (Cq (kI (C:=C) (nm:=nm) (q:=q) (N:=N) (bs:=bs) (bm:=bm) (hdct:=hdct) (sn:=sn) (sub:=sub) (ab:=ab) (col:=col) (dd:=dd) (k0:=k0) (k1:=k1) (k2:=k2) (k3:=k3) (k5:=k5) hbase hh (Aa (Bo (wpAny_Call_ofName (Bo h (λf s₁ h₁=>?_) λ_ _ x=>x)) (λv s₃ h₃=>Aa (Cq (Al h₃))) λ_ _ x=>x))))
  | (simp only[evalOpt,Option.map];refine Aa (Cq (kI (C:=C) (nm:=nm) (q:=q) (N:=N) (bs:=bs) (bm:=bm) (hdct:=hdct) (sn:=sn) (sub:=sub) (ab:=ab) (col:=col) (dd:=dd) (k0:=k0) (k1:=k1) (k2:=k2) (k3:=k3) (k5:=k5) hbase hh (Aa (Bo (wpAny_Call_ofName (Bo h (λf s₁ h₁=>?_) λ_ _ x=>x)) (λv s₃ h₃=>Aa (Cq (Al h₃))) λ_ _ x=>x)))))
  | (refine Aa (Cq (kI (C:=C) (nm:=nm) (q:=q) (N:=N) (bs:=bs) (bm:=bm) (hdct:=hdct) (sn:=sn) (sub:=sub) (ab:=ab) (col:=col) (dd:=dd) (k0:=k0) (k1:=k1) (k2:=k2) (k3:=k3) (k5:=k5) hbase hh ?_));refine Aa (Bo (wpAny_Call_ofName (Bo h (λf s₁ h₁=>?_) λ_ _ x=>x)) (λv s₃ h₃=>Aa (Cq (Al h₃))) λ_ _ x=>x))
 obtain⟨rfl,h₁⟩:=h₁;unfold callWith;refine Aa (C7 (Bo h₁ (λa s₂ h₂=>Aa (Cq ?_)) λ_ _ x=>x));obtain⟨apos,akw⟩:=a;obtain⟨hkw,hlen,hX,hC,T,⟨oI,hf,hfc⟩,h₂⟩:=h₂;obtain rfl:akw=[]:=hkw;obtain⟨hp,g,d,tk,os⟩:=s₂;simp only[hplain];refine Aa (wpAny_keeperOf_exc hC ?_);refine Aa (aBZ (hrest:=hlen) hX T hC hi hf hfc λh' e hm=>Bo (h₂ h' e hm) (λr s' ⟨hr,hC',⟨t,dp,he⟩,hE⟩=>⟨hr,Aa (C7 (wpAny_point (Al ⟨e,t,dp,rfl,hC',he,hE⟩)))⟩) λ_ _ z=>z)
end
end L2
end
noncomputable section
set_option maxRecDepth 100000
namespace L2
open PySem PySem.Spec PyProof.Rows PySem.W Builtin Builtin.ObjectAttr
section
variable {prog:Program} {w:World} {A:Around} {E:Value->Shared->Prop} {K:PySem.W.Frag} {s:Shared} {x C:Addr} {cd:ClassData} {bm:List Value} {vs:Array Value} {name:Str} {v:Value}
theorem wK(T:OwnTail h bmV l):refuseLoop self "__setattr__" l=pure ():=by
 induction T with
 | base=>exact PySem.F.store_ValueError.passes _|own _ _ _ _ ih=>rw[refuseLoop_ref];exact ih
theorem aGe{Q:Unit->Shared->Prop}(X:K.In s.heap)(hx:s.heap.get? x=some { cls:=.ref C,data:=.fields vs })(hs:findIn K (.ref C) "__setattr__" = some (some (.builtin "object.__setattr__")))(hm:mroIn K C (.type "object")=some true)(hc:clsIn K C=some cd)(hd:cd.hasDict=true)(he:cd.mro=.ref C::bm)(T:OwnTail s.heap bmV bm)(ha:findIn K (.ref C) name=some none)
 (h:∀h' t',h'.get? x=some { cls:=.ref C,dict:=some s.heap.objs.size,data:=.fields vs }->h'.Ns1 s.heap.objs.size (λy=>if y=name then some v else none)->(∀b o,b≠x->s.heap.get? b=some o->h'.get? b=some o)->Q () { s with heap:=h',toks:=t' }) :
 wpAny (model prog w) A (setAttr (.ref x) name v) Q E s:=by
 have SF:=PySem.F.store_object;have I:InstAt s.heap x { cls:=.ref C,data:=.fields vs } C none:=⟨hx,rfl,rfl,trivial⟩
 refine set_plain X I hs ?_;have sub:Looks (model prog w) s.heap (isInstance (.ref x) (.type "object")) true:=I.type.andThen (looks_mroIn X hm);refine codeAny_call_builtin SF.slot.plain SF.entry (@check_slot (model prog w) _ _ { s with toks:=s.toks+1 } "object.__setattr__" "object" "__setattr__" (.ref x) [.str name s.toks,v] [] _ SF.kind SF.split sub (SF.args (.ref x) (.str name s.toks) v) ?_);have hmr:Looks (model prog w) s.heap (mroOf (.ref C)) cd.mro:=(looks_clsIn X hc).andThen .now;have L3:Looks (model prog w) s.heap (Builtin.ObjectAttr.storeTaker? none) none:=.now;rw[osa_eq,refuse_eq];refine Aa (Aa (I.type.here (s:={ s with toks:=s.toks+1 }) (Aa (hmr.here (s:={ s with toks:=s.toks+1 }) ?_))));rw[he,refuseLoop_ref,wK T];refine Al (Aa (I.type.here (s:={ s with toks:=s.toks+1 }) (Aa ((Dm X ha).here (s:={ s with toks:=s.toks+1 }) (Aa (L3.here (s:={ s with toks:=s.toks+1 }) ?_))))));refine Aa (Al (Aa (Aa (wpAny_loadPart hx (Aa (Looks.here (s:={ s with toks:=s.toks+1 }) (looks_clsIn X hc) ?_))))));rw[hd];have hx₁:(s.heap.push { cls:=.type "dict",data:=.dict #[] }).get? x=some { cls:=.ref C,data:=.fields vs }:=Ab _ hx;have hxs:x≠s.heap.objs.size:=A0 (Ag hx);show wpAny _ _ (do let d<-alloc { cls:=.type "dict",data:=.dict #[] };update x λo=>{ cls:=o.cls,dict:=some d,data:=o.data,slots:=o.slots };dictMade (.ref C) x d) _ _ _;refine Aa (wpAny_alloc' ?_);refine Aa (wpAny_update' hx₁ ?_);refine Al ?_;have hgd:((s.heap.push { cls:=.type "dict",data:=.dict #[] }).update x λo=>{ cls:=o.cls,dict:=some s.heap.objs.size,data:=o.data,slots:=o.slots }).get? s.heap.objs.size
  = some { cls:=.type "dict",data:=.dict #[] }:=
  (Heap.get?_update_ne _ _ _ _ hxs.symm).trans (Heap.get?_push_at rfl rfl)
 have hnd:((s.heap.push { cls:=.type "dict",data:=.dict #[] }).update x λo=>{ cls:=o.cls,dict:=some s.heap.objs.size,data:=o.data,slots:=o.slots }).Ns s.heap.objs.size (λ_=>none):=
  ⟨_,#[],_,hgd,rfl,λe he=>absurd he (by simp),λ_=>rfl⟩
 show wpAny _ _ (storeInDict s.heap.objs.size (.str name s.toks) name v) _ _ _;unfold storeInDict newKeyGuard;refine Aa (Al (Aa (wpAny_nsSet1 (Heap.Ns1.of_empty hnd) λh' hn' hs=>?_)));obtain⟨oD,esD,epD,hoD,hdD,hcD⟩:=hn'.count (Within.cons name v Within.nil);refine Aa (wpAny_lookBehind hoD (by rw[hdD];exact pastItsLine_dict (A1 hcD (by rw[lC,lN,Bz];omega))) ?_)
 wp_walk
 refine h h' _ ((hs.2 x hxs).trans (Br _ hx₁ rfl)) hn' λb o hb q=>?_;exact(hs.2 b (A0 (Ag q))).trans ((Heap.get?_update_ne _ _ _ _ hb).trans (Ab _ q))
end
def jW(e C t:Addr)(dd:Option Addr):HO:=.ext λh=>h.get? e=some { cls:=.ref C,dict:=dd,data:=.fields #[.ref t,.none,.none,.none,.bool false,.none] }
theorem wL{h:Heap}(q:h.get? e=some { cls:=.ref C,dict:=dd,data:=.fields #[.ref t,.none,.none,.none,.bool false,.none] }):cV P w H h e (jW e C t dd):=
 ⟨q,⟨_,q⟩,λ_ _ z k=>k _ z⟩
structure PlC (K:PySem.W.Frag) (C f:Addr):Prop where
 sa:findIn K (.ref C) "__setattr__" = some (some (.builtin "object.__setattr__"))
 mo:mroIn K C (.type "object")=some true
 na:findIn K (.ref C) "place" = some none
 init:findIn K (.ref C) "__init__" = some (some (.ref f))
 cl:∃cd bm,clsIn K C=some cd/\cd.hasDict=true/\cd.mro=.ref C::bm/\tailIn K bmV bm=true
noncomputable def nM(H:Hp)(e C t dp:Addr)(v:V):Hp:=upd (upd H dp (.xd [("place",v)])) e (jW e C t (some dp))
section
variable {X:Cx}
theorem aIv(hp:PlC X.K C f)(ha:PE X (.Name a p1) (sR 0))(hb:PE X (.Name b p3) (sR 1)) :
 PS X (.Assign [.Attribute (.Name a p1) "place" p2] (.Name b p3) pos) (λD σ H=>∃e t v,σ[0]? = some (some (.ref e))/\σ[1]? = some (some v)/\H e=some (jW e C t none)/\∀dp,H dp=none->dp≠e->D.nx σ (nM H e C t dp v)):=by
 intro pins s σ H D I ⟨e,t,v,h0,h1,he,hq⟩;refine plainObj_wpAny_Assign_Attribute (thn (hb pins s σ H (λy H1=>y=v/\H1=H) I ⟨v,h1,rfl,rfl⟩) λu s1 ⟨y,H1,I1,ry,e1,e2⟩=>thn (ha pins s1 σ H1 (λy H2=>y=.ref e/\H2=H1) I1 ⟨.ref e,h0,rfl,rfl⟩) λov s2 ⟨x,H2,I2,rx,e3,e4⟩=>?_) rfl;subst e1 e2 e3 e4;obtain rfl:ov=Value.ref e:=rx;obtain⟨cd,bm,c1,c2,c3,c4⟩:=hp.cl;have ho:=(show cV X.prog X.w H2 s2.heap e (jW e C t none) from I2.hok e _ he).1;refine aGe I2.kIn ho hp.sa hp.mo c1 c2 c3 (tail_of_in I2.kIn c4) hp.na λh' t' g1 g2 g3=>?_;have hd:H2 s2.heap.objs.size=none:=I2.hok.fresh (Ai _);have nd:s2.heap.objs.size≠e:=B3 (Ag ho);have ne:∀b,H2 b=none->b≠e:=λb z q=>by rw[q,he] at z;cases z
 have at':∀b o,H2 b=some o->(∀φ,o≠.ext φ)->nM H2 e C t s2.heap.objs.size y b=some o:=λb o z n=>by unfold nM;rw[aF λq=>by rw[q,he] at z;cases z;exact n _ rfl,aF (bG z hd)];exact z
 refine⟨σ,_,I2.call' (s':={ s2 with heap:=h',toks:=t' }) (H':=nM H2 e C t s2.heap.objs.size y) (ch:=[]) rfl ⟨λb o q n _ _=>g3 b o (ne b n) q,λb o q n _ _=>⟨o.slots,g3 b o (ne b n) q⟩,λb o q n _=>?_,λb o q _=>?_,λb xs z=>at' b _ z (λ_ z=>nomatch z),λb o u z=>at' b _ z (λ_ z=>nomatch z),λb ps z=>⟨#[],by rw[Array.append_empty];exact at' b _ z (λ_ z=>nomatch z)⟩⟩ ?_ I2.bare (λb z=>absurd z (by simp)),hq _ hd nd⟩;unfold nM;rw[aF (ne b n),aF (A0 (Ag q))];exact n;by_cases hb:b=e;rw[hb];exact⟨_,g1⟩;exact⟨o,g3 b o hb q⟩;intro b o z;unfold nM at z;by_cases hb:b=e;rw[hb,aS] at z;cases z;rw[hb];exact wL g1;rw[aF hb] at z;by_cases hb2:b=s2.heap.objs.size;rw[hb2,aS] at z;cases z;rw[hb2];refine⟨_,g2,λfl=>?_⟩;by_cases hf:fl = "place";rw[if_pos hf,hf];exact ry;rw[if_neg hf,List.lookup_cons,beq_false_of_ne hf];exact trivial;rw[aF hb2] at z;exact(I2.hok b o z).stay (λc u hc q=>g3 c u (λw=>by
  rcases hc with hc|hc;exact hb (hc.symm.trans w);rw[w,he] at hc;cases hc) q) (λc q=>at' c _ q (λ_ z=>nomatch z)) λc xs q=>at' c _ q (λ_ z=>nomatch z)
end
end L2
end
noncomputable section
namespace L2
open PySem PySem.Spec PyProof.Rows PySem.W
noncomputable def kJ(st:Stmt)(a b:Str):Bool:=(match gN st with
 | [.Assign [.Attribute (.Name x _) f _] (.Name y _) _]=>f == "place" && x==a&&y==b|_=>false)&&(decide ((aW st).kind=.function))&&!(aW st).isCoroutine&&!(aW st).isGenerator&&decide ([a,b].Nodup)&&decide ((aW st).names.lookup a=some .local)&&decide ((aW st).names.lookup b=some .local)&&((aW st).names.all λy=>decide (y.2≠.free))&&a != "__debug__" && a != "__classdict__" && b != "__debug__" && b != "__classdict__"
section
variable {P:Program} {w:World} {K:PySem.W.Frag} {mg:Str->Option Value} {base:Heap}
theorem aDC{qual:Str}{st:Stmt}{f C e t:Addr}{fd:FuncData}{a b:Str}(F:Fun K "__init__" qual st f fd)(hc:kJ st a b=true)(hb:iJ K fd [a,b] [])(hp:PlC K C f){A:Around}{outer:List Env}{s:Shared}{H:Hp}{v:V}{u:Value}(hd:A.depth<recursionLimit)(hh:A.handled=none)(e0:vK P w K mg base A outer s H)
 (he:H e=some (jW e C t none)) (ru:bI v u):codeAny (model P w) A (.call (.ref f) ⟨[.ref e,u],[]⟩) (CR (CX1 P w) outer P w H s (λr H'=>r=.non/\∃dp,H dp=none/\dp≠e/\H'=nM H e C t dp v) λ_ _ _=>False) s:=by
 unfold kJ at hc;simp only[bA,Cr,Am,bne_iff_ne,ne_eq,Az] at hc;obtain⟨⟨⟨⟨⟨⟨⟨⟨⟨⟨⟨c1,c2⟩,c3⟩,c4⟩,c5⟩,c6⟩,c7⟩,c8⟩,c9⟩,c10⟩,c11⟩,c12⟩:=hc;split at c1;rename_i x p1 fl p2 y p3 pos hbd;simp only[bA,Ci] at c1;obtain⟨⟨rfl,rfl⟩,rfl⟩:=c1;have S:nR [x,y] [x,y] (aW st):=⟨c2,c3,c4,c5,rfl,λz hz=>by
  rcases A3.mp hz with rfl|hz;exact .inl c6;rw[Bw.mp hz];exact .inl c7,λz hz=>c8 z hz⟩
 have r:bC [.ref e,v] [.ref e,u]:=.cons rfl (.cons ru .nil);have hl:[V.ref e,v].length=[x,y].length:=rfl;have KX:K.In s.heap:=e0.mod.kin.keeps λb o e=>(e0.bs b o e).1;have lim:s.heap.NoLimit:=e0.mod.nolimit.keeps λb o e=>(e0.bs b o e).1;have hb':=hb s [.ref e,u] KX rfl;obtain⟨oc,od,kV,doc,pm,an,cdv,ct,osl,rfl,lk,hcd⟩:=F.ex;have hkind:∀z∈[x,y].zip [Value.ref e,u],(aW st).names.lookup z.1=some .local\/((aW st).names.lookup z.1=some .cell/\((cellsFrom (s.heap.objs.size+1) (aW st).names []).lookup z.1).isSome=true):=λ⟨n,v⟩ hy=>by rcases S.par n (Du hy).1 with q|q;exact .inl q;exact .inr ⟨q,D4 _ _ _ (.inl q)⟩
 refine codeAny_call_function hd (KX _ _ lk) rfl S.co S.gen rfl (PySem.W.codeRec_of KX hcd) (hb' _ _ _ _ ?_);refine wpAny_newFunctionEnv_cells S.kind hkind λenv hen s1 z=>?_;subst hen;refine⟨lim.keeps z.toInCall.keep,codeAny_func ?_⟩;have I:Inv (oJ (CX1 P w) P w K mg base [x,y] qual (aW st) f cdv A outer s H λ_ _ _=>False) [] (start [x,y] [.ref e,v]) H s1:=rE S hh e0 hl r z;rw[hbd];refine Bo (sV (aIv (X:=oJ (CX1 P w) P w K mg base [x,y] qual (aW st) f cdv A outer s H λ_ _ _=>False) (a:=x) (b:=y) (p1:=p1) (p2:=p2) (p3:=p3) (pos:=pos) hp (lX rfl (.inl c6) (by simpa using c9) (by simpa using c10)) (lX rfl (.inl c7) (by simpa using c11) (by simpa using c12))) [] s1 _ H
  { nx:=λ_ H'=>∃dp,H dp=none/\dp≠e/\H'=nM H e C t dp v,rt:=λ_ _=>False,bk:=λ_ _=>False,ct:=λ_ _=>False } I ⟨e,t,v,rfl,rfl,he,λdp h1 h2=>⟨dp,h1,h2,rfl⟩⟩) (λfl s' hs=>?_) λe s' hs=>hs
 cases fl with
 | next=>obtain⟨σ',H',J,q⟩:=hs;exact⟨V.non,H',J.os,J.bare,J.base,J.hok,rfl,rfl,q⟩|brk=>obtain⟨_,_,_,q⟩:=hs;exact q.elim|cont=>obtain⟨_,_,_,q⟩:=hs;exact q.elim|ret u=>obtain⟨_,_,_,_,_,q⟩:=hs;exact q.elim
 cases c1
end
section
variable {X:Cx}
theorem aCa{x:Str}{C fI:Addr}{np cpos pos:Pos}{a:Expr}{ta:TA}{E:Value->St->Hp->Prop}{qual:Str}{st:Stmt}{fd:FuncData}{n1 n2:Str}(hg:Gl X x)(hm:X.mg x=some (.ref C))(q:iN X.K C=true)(hp:PlC X.K C fI)(F:Fun X.K "__init__" qual st fI fd)(hi:kJ st n1 n2=true)(hb:iJ X.K fd [n1,n2] [])
 (hfn:∃oI,X.K.lookup fI=some oI/\oI.cls=.type "function") (ha:PA X [a] ta) (hc:X.calm=true) (hR:Rs X E) (hd:(x==("__debug__" : Str))=false) (hr:jT 0 X.A) (he:starEach [a] X.env=[(false,eval a X.env)]) (hpl:(backTo cpos (starEach [a] X.env)).any (·.1)=false) :
 PS X (.Raise (some (.Call (.Name x np) [a] [] cpos)) none pos) (λD σ H=>ta σ H λvs H1=>∃v,vs=[v]/\∀dp,H1 dp=none->E (cdV C dp) σ (upd H1 dp (.xd [("place",v)]))):=by
 intro pins s σ H D I h;obtain⟨bm,N,nm,qn,bs,hdct,sn,sub,ab,col,dd,k0,k1,k2,k3,k5,hC,TL⟩:=tU I.mod.kin q;have ha':=ha cpos pins s σ H _ I h;refine zF (K:=X.K) (C:=C) (fI:=fI) (nm:=nm) (q:=qn) (N:=N) (bs:=bs) (bm:=bm) (hdct:=hdct) (sn:=sn) (sub:=sub) (ab:=ab) (col:=col) (dd:=dd) (k0:=k0) (k1:=k1) (k2:=k2) (k3:=k3) (k5:=k5)
  (TL.hasType rfl) (I.ok.hd hc) hpl hp.init (fV I hg hm ⟨rfl,?_⟩ hd)
 obtain⟨oI,lI,cI⟩:=hfn;rw[he] at ha' ⊢;refine Calls.evalArgs_plain (thn ha' λus s2 ⟨vs,H1,I1,rv,v,ev,hE⟩=>?_);subst ev;obtain⟨u,rfl,r0⟩:=rv.one;refine⟨rfl,show 1<=sizeLine by rw[Bz];decide,I1.kIn,I1.bk _ _ hC,TL.keeps I1.bk,⟨oI,I1.kIn _ _ lI,cI⟩,λh' e m=>?_⟩;have hne:∀b o,s2.heap.get? b=some o->b≠e:=λb o z w=>by rw[w,m.new] at z;cases z
 have hn:H1 e=none:=by
  cases z:H1 e with
  | none=>rfl|some o=>obtain⟨ob,hob⟩:=(I1.hok e o z).old;rw[m.new] at hob;cases hob
 have nOld:¬ (Old X.s₀.heap e/\e∉X.ex):=λz=>by obtain⟨o,w⟩:=tP I1 e z.1 z.2;exact hne _ _ w rfl
 have nPin:e∉pinA X pins:=λz=>by obtain⟨o,w⟩:=kY I1 e z;exact hne _ _ w rfl
 obtain⟨t,ht,_⟩:=m.there;have I3:Inv X pins σ (upd H1 e (jW e C t none)) { s2 with heap:=h' }:=(I1.un (t':=s2.toks) (Un.kept m.keeps) (I1.hok.kept m.keeps)).track nOld hn nPin (λz=>by
  obtain⟨_,⟨o,_,_,w,_⟩,_⟩:=I1.loc;exact hne _ _ w z.symm) (λx c z w=>by
  obtain⟨_,o,w',_⟩:=I1.cell x c z;exact hne _ _ w' w) (wL ht)
 refine wpAny_call (codeAny_mono (aDC (A:=X.A.under (.builtin "type.__call__" ⟨[.ref C,u],[]⟩)) (v:=v) (u:=u) F hi hb hp (by rw[yN];have:=hr.dp;omega) hr.hd (I3.env0.make C [u] []) aS r0) λr s' hq=>?_);cases r with
 | error e'=>obtain⟨_,_,_,_,_,_,_,_,_,z⟩:=hq;exact z.elim|ok fl=>
  cases fl with
  | ret u'=>
   obtain⟨v',H',os,bare,un,hok,rv',rfl,dp,d1,d2,rfl⟩:=hq;have I4:=I3.call' (ch:=[]) os un hok bare (λb z=>absurd z (by simp));have he':=(show cV X.prog X.w _ s'.heap e (jW e C t (some dp)) from hok e _ aS).1;have d1':H1 dp=none:=by rw[<-aF (o:=jW e C t none) (H:=H1) d2];exact d1
   refine⟨rv',I4.bk _ _ hC,⟨t,some dp,he'⟩,?_⟩;have eq:∀c,c≠e->nM (upd H1 e (jW e C t none)) e C t dp v c=upd H1 dp (.xd [("place",v)]) c:=λc hc=>by unfold nM;rw[aF hc];by_cases w:c=dp;rw[w,aS,aS];rw[aF w,aF w,aF hc]
   have H2n:∀{b:Addr} {o:Obj},s2.heap.get? b=some o->H1 b=none->upd H1 e (jW e C t none) b=none:=λ{b o} z n=>by rw[aF (hne b o z)];exact n
   have ndp:∀{b:Addr} {o:HO},H1 b=some o->upd H1 dp (.xd [("place",v)]) b=some o:=λ{b o} z=>by rw[aF (bG z d1')];exact z
   have I5:Inv X pins σ (upd H1 dp (.xd [("place",v)])) s':=I1.call' (ch:=[]) os ⟨λb o z n hb hx=>un.keep b o (m.keeps b o z) (H2n z n) hb hx,λb o z n hb hx=>un.slot b o (m.keeps b o z) (H2n z n) hb hx,λb o z n hx=>by
    rw[<-eq b (hne b o z)];exact un.free b o (m.keeps b o z) (H2n z n) hx,λb o z hx=>un.there b o (m.keeps b o z) hx,λb xs z=>ndp z,λb o u z=>ndp z,λb ps z=>⟨#[],by rw[Array.append_empty];exact ndp z⟩⟩ (λb o z=>by
    have hbe:b≠e:=λw=>by rw[w,aF (Ne.symm d2),hn] at z;cases z
    refine(hok b o (by rw[eq b hbe];exact z)).stay (λ_ _ _ w=>w) (λc w=>?_) λc xs w=>?_;rw[<-eq c (λy=>by rw[y,nM,aS] at w;cases w)];exact w;rw[<-eq c (λy=>by rw[y,nM,aS] at w;cases w)];exact w) bare (λb z=>absurd z (by simp))
   refine hR pins σ _ s' e (cdV C dp) I5 ⟨none,⟨_,_,he',rfl,rfl,rfl,rfl⟩,λb z=>?_⟩ (hE dp d1');rcases z with rfl|z;exact⟨nOld,by rw[aF (Ne.symm d2)];exact hn,nPin⟩;cases z
  | next=>exact False.elim hq|brk=>exact False.elim hq|cont=>exact False.elim hq
end
end L2
end
noncomputable section
namespace L2
open PySem PySem.Spec PyProof.Rows
structure PlR (K:PySem.W.Frag) (C:Addr):Prop where
 xc:XC K C
 hd:PySem.W.hasDictIn K C=true
 na:PySem.W.findIn K (.ref C) "place" = some none
section
variable {X:Cx}
def aNN(K:PySem.W.Frag)(j:Nat):TE:=λσ H Q=>∃a C dp v,σ[j]? = some (some (.ref a))/\H a=some (excO a C (some dp))/\H dp=some (.xd [("place",v)])/\PlR K C/\Q v H
theorem aIw(he:PE X (.Name n np) (sR j))(hb:attributeBase (.Name n np) "place" X.env (eval (.Name n np) X.env)=eval (.Name n np) X.env):PE X (.Attribute (.Name n np) "place" p) (aNN X.K j):=by
 intro pins s σ H Q I ⟨a,C,dp,v,h1,h2,h3,pr,hq⟩;refine aFE hb (thn (he pins s σ H (λx H1=>x=.ref a/\H1=H) I ⟨_,h1,rfl,rfl⟩) λu s1 ⟨x,H1,I1,rx,e1,e2⟩=>?_);subst e1 e2;obtain rfl:u=Value.ref a:=rx;obtain⟨o,g1,g2,g3,g4⟩:=(show cV X.prog X.w H1 s1.heap a (excO a C (some dp)) from I1.hok a _ h2).1;obtain⟨mA,ns,r⟩:=(show cV X.prog X.w H1 s1.heap dp (.xd [("place",v)]) from I1.hok dp _ h3)
 obtain⟨od,ho,hl⟩:=aBK ns;obtain⟨u,hu,ru⟩:=aCF.some_of (r "place");have J:PySem.W.InstAt s1.heap a o C (some od):=⟨g1,g2,g3,by rw[g4];exact ho⟩
 obtain⟨hh,g,d,t,os⟩:=s1;exact aGd I1.kIn J pr.xc.hb pr.xc.g1 pr.xc.g2 (PySem.W.findObj_own pr.hd pr.na rfl (by rw[hl,hu])) (aBL ru) ⟨v,H1,I1.tok _,ru,hq⟩
def aNO(K:PySem.W.Frag)(C C2:Addr)(iy iz jn:Nat)(D:Ends):Value->St->Hp->Prop:=λcls σ H=>∃C1,kC cls=.ref C1/\iN K C1=true /\
 ((jV K C1 C=some true/\PlR K C1/\∃dp v,kD cls=some dp/\H dp=some (.xd [("place",v)])/\∀a,H a=none->D.nx (((((σ.set jn (some (.ref a))).set iy (some (.ref a))).set iz (some v)).set jn (some .non)).set jn none) (upd H a (excO a C1 (some dp)))) \/
  (jV K C1 C=some false/\jV K C1 C2=some true/\kD cls=none/\∀a,H a=none->D.nx ((((σ.set jn (some (.ref a))).set iy (some (.ref a))).set jn (some .non)).set jn none) (upd H a (excO a C1 none))))
theorem aGf{tb:(Value->St->Hp->Prop)->TS}
 (hg:Gl X x) (hm:X.mg x=some (.ref C)) (hd:(x==("__debug__" : Str))=false) (qC:iN X.K C=true) (hg2:Gl X x2) (hm2:X.mg x2=some (.ref C2)) (hd2:(x2==("__debug__" : Str))=false) (qC2:iN X.K C2=true) (hst:X.stack=X.env::X.outer)
 (hN:X.N.Nodup) (hiy:X.N[iy]? = some y) (hiz:X.N[iz]? = some z) (hjn:X.N[jn]? = some n) (hy:Loc X.env.scope y) (hz:Loc X.env.scope z) (hn:X.env.scope.names.lookup n=some .local) (hfy:X.fn y=true\/X.env.scope.names.lookup y=some .local) (hfz:X.fn z=true\/X.env.scope.names.lookup z=some .local)
 (hdn:(n==("__debug__" : Str))=false) (hcn:(n==("__classdict__" : Str))=false) (hij:iy≠jn) (hijz:iz≠jn)
 (hb:∀(pins:List (Addr×Obj)) (E:Value->Shared->Prop) (W:Value->St->Hp->Prop),PassesOwn (model X.prog X.w) X.A X.env E->Rs (X.inTry pins E) W->PSs (X.inTry pins E) body (tb W)) :
 PS X (.Try body [.ExceptHandler (some (.Name x np)) (some n) [.Assign [.Name y yp] (.Name n np2) ap,.Assign [.Name z zp] (.Attribute (.Name n np3) "place" atp) ap2] hp,.ExceptHandler (some (.Name x2 np4)) (some n) [.Assign [.Name y yp2] (.Name n np5) ap3] hp2] [] [] pos)
  (λD σ H=>tb (aNO X.K C C2 iy iz jn D) D σ H):=by
 intro pins s σ H D I h;refine wpAny_Try_except ?_;refine Bo (hb pins (λe s₁=>wpAny (model X.prog X.w) X.A (noteFrame e X.env) (λ_ s₂=>wpAny (model X.prog X.w) X.A (setFlight e none) (λ_ s₃=>wpAny (model X.prog X.w) X.A (handleBy e X.env _) (SP X pins D) X.xe s₃) X.xe s₂) X.xe s₁) _ PassesOwn.looking ?_ [] s σ H D I.inTry h) (λf s₁ q=>?_) λe s₁ q=>q;intro pins' σ' H' s' a cls I1 fl hW;obtain⟨C1,hk,q1,hD⟩:=hW;have I0:Inv X pins σ' H' s':=I1.outTry;obtain⟨T,rc,nw⟩:=fl;have nw:∀b,(b=a\/T=some b)->¬ (Old X.s₀.heap b/\b∉X.ex)/\H' b=none/\b∉pinA X pins:=λb z=>⟨(nw b z).1,(nw b z).2.1,λy=>(nw b z).2.2 (by
  obtain⟨p,hp,e⟩:=Av.mp y;exact Av.mpr ⟨p,Bm _ hp,e⟩)⟩
 have hfr:X.env.frame=some X.env.locals:=by
  rcases I0.ok.stk with z|⟨_,z⟩
  rw[hst] at z;exact absurd (congrArg List.length z) (by simp);exact z
 show wpAny (model X.prog X.w) X.A (noteFrame (.ref a) X.env) _ X.xe s';refine aDo (base:=X.base) (outer:=X.outer) (by rw[I0.ok.frames,hst]) (by rw[<-hst];exact I0.stack) hfr rc λh1 T1 l1 x1 r1=>?_;have I2:Inv X pins σ' H' { s' with heap:=h1 }:=I0.note x1 (λb hb=>by rw[hst];exact hb) (λb hb=>.inl (by unfold frs;rw[Cw,hfr];exact Ak _ hb)) rc nw;have nw1:∀b,(b=a\/some T1=some b)->¬ (Old X.s₀.heap b/\b∉X.ex)/\H' b=none/\b∉pinA X pins:=λb z=>by rcases z with z|z;exact nw b (.inl z);cases z;rcases l1 with l1|l1;exact⟨λz=>absurd z.1.lt (Dy.mpr (A1 I0.sz l1)),I0.hok.fresh l1,λz=>absurd (kY I0 _ z).lt (Dy.mpr l1)⟩;exact nw _ (.inr l1)
 have hlj:jn<σ'.length:=by rw[I2.len];exact(Ay.mp hjn).1
 have pv:∀p,PE (X.inExc (.ref a)) (.Name n p) (sR jn):=λp=>lX (i:=jn) hjn (.inl hn) hdn hcn;have s1:∀yp np ap,PS (X.inExc (.ref a)) (.Assign [.Name y yp] (.Name n np) ap) _:=λyp np ap=>lY (X:=X.inExc (.ref a)) hN hiy hy (pv np) rfl hfy;rcases hD with⟨hit,pr,dp,v,hkd,hdp,hD⟩|⟨hit,hit2,hkd,hD⟩
 refine tV hg hm hd qC q1 hit hN hjn hn I2 r1 hk nw1 (λ_=>vG (s1 _ _ _) (sV (lY (X:=X.inExc (.ref a)) hN hiz hz (aIw (pv _) rfl) rfl hfz))) (λ_ ha=>?_) λz=>nomatch z;have ndp:dp≠a:=λw=>by rw[w,ha] at hdp;cases hdp
 rw[hkd];exact⟨.ref a,Ar hlj,a,C1,dp,v,by rw[Ac hij,Ar hlj],aS,by rw[aF ndp];exact hdp,pr,hD a ha⟩;refine tV (suite:=[_]) hg hm hd qC q1 hit hN hjn hn I2 r1 hk nw1 (ts:=λ_ _ _=>False) (λz=>nomatch z) (λz=>nomatch z) λ_=>?_;refine tV (rest:=[]) hg2 hm2 hd2 qC2 q1 hit2 hN hjn hn I2 r1 hk nw1 (λ_=>sV (s1 _ _ _)) (λ_ ha=>?_) λz=>nomatch z;rw[hkd];exact⟨.ref a,Ar hlj,hD a ha⟩;cases f with
 | next=>exact wpAny_execs_nil (SP.outTry (f:=.next) q)|brk=>exact SP.outTry (f:=.brk) q|cont=>exact SP.outTry (f:=.cont) q|ret u=>exact SP.outTry (f:=.ret u) q
end
end L2
end
noncomputable section
namespace Hp
open PySem PySem.Spec PyProof.Rows L2
def Od(K:Fg)(H:Hp)(b:Addr):Prop:=H b=none->K.lookup b≠none
def Rr(K:Fg)(H H':Hp)(Y:Addr->Prop)(r:Rt)(u:V):Prop:=
 if r.2.1=true then ∃a xs ds,u=.ref a/\r.1=.lst ds/\(H a=none/\K.lookup a=none)/\H' a=some (.lst xs)/\Reps K H' (λb=>b=a\/Y b\/(r.2.2=false/\Od K H b)) ds xs
 else Rep K H' (λb=>Y b\/(r.2.2=false/\Od K H b)) r.1 u
def xE(K:Fg)(H:Hp)(E:XK):D->Prop
 | .err c fs=>∀(cls:Value) (H':Hp),Kc K H' c fs cls->Tk K H'->aP H H'->E cls none H'|_=>False
def spF(K:Fg)(P:Pg)(n:Nat)(f:Nat):Sp:=λvs H Q E=>∃(ds:List D) (Y:Addr->Prop),(∀a,Y a->Od K H a)/\Reps K H Y ds vs/\RE (xE K H E) (call P n f ds) λr=>∀u H',Tk K H'->aP H H'->Rr K H H' Y r u->Q u H'
noncomputable def bltNames:List Str:=["len", "list", "tuple", "min", "max", "abs", "int", "str", "sum", "all", "any", "sorted", "bool", "range", "zip", "enumerate", "reversed", "set", "isinstance", "dict", "repr", "ValueError"]
structure rN (K:Fg) (mg:Str->Option Value) (cls:List Str) (c:Str) (ab:List Cl) (C:Addr):Prop where
 bd:mg c=some (.ref C)
 ns:PySem.W.nsIn K mainGlobals c=some (some (.ref C))
 ex:iN K C=true
 xc:XC K C
 ve:PySem.W.kitOne K (.ref C) (.type "ValueError")=some (ab.contains .tValueError)
 ow:∀x∈cls,∃C2,mg x=some (.ref C2)/\PySem.W.kitOne K (.ref C) (.ref C2)=some (ab.contains (.own x))/\jV K C C2=some (ab.contains (.own x))
def aAI(K:Fg)(mg:Str->Option Value)(c:Str):Prop:=∃C fI qual st fd n1 n2,mg c=some (.ref C)/\PySem.W.nsIn K mainGlobals c=some (some (.ref C))/\iN K C=true/\PlC K C fI/\PlR K C/\Fun K "__init__" qual st fI fd/\kJ st n1 n2=true/\iJ K fd [n1,n2] []/\∃oI,K.lookup fI=some oI/\oI.cls=.type "function"
structure Md (X:Cx) (P:Pg) (Γ:Ct) (n:Nat):Prop where
 fn:∀(f:Nat) (x:Str),Γ.fns[f]? = some x->∃fa fd ps,X.mg x=some (.ref fa)/\PySem.W.keepIn X.K (.ref fa)=true/\iJ X.K fd ps []/\sX X.prog X.w X.K X.mg X.base (CX1 X.prog X.w) n fa fd ps (spF X.K P n f)
 blt:∀x∈bltNames,X.mg x=none
 cns:∀(x:Str) (d:D),Γ.cns.lookup x=some d->∃u v,X.mg x=some u/\bI v u/\∀H ex,Rep X.K H ex d v
 tab:∀(i:Nat) (x:Str),Γ.tbs[i]? = some x->∃a t,X.mg x=some (.ref a)/\P.tabs[i]? = some t/\wC X.prog X.w X.K a t
 exc:∀(c:Str) (ab:List Cl),P.above.lookup c=some ab->∃C,rN X.K X.mg Γ.cls c ab C
 rsd:∀c∈Γ.rsd,∃C,X.mg c=some (.ref C)/\PySem.W.nsIn X.K mainGlobals c=some (some (.ref C))/\PySem.W.excIn X.K C bmV "ValueError.__new__" = true
 pls:∀c∈Γ.pls,aAI X.K X.mg c
 cls:∀x∈Γ.cls,∃C2,X.mg x=some (.ref C2)/\iN X.K C2=true
structure Mc (X:Cx) (P:Pg) (Γ:Ct) (n:Nat):Prop where
 md:Md X P Γ n
 N:X.N=Γ.N
 nd:X.N.Nodup
 sc:X.env.scope.names=Γ.sc
 calm:X.calm=true
 room:jT n X.A
 own:PassesOwn (model X.prog X.w) X.A X.env X.xe
 st:∀x:Str,vS Γ x=true->X.fn x=true\/X.env.scope.names.lookup x=some .local
 fk:X.env.scope.kind=.function
 stk:Γ.fn=true->X.stack=X.env::X.outer
section
variable {X:Cx} {P:Pg} {Γ:Ct} {n:Nat}
theorem Mc.inTry(M:Mc X P Γ n){E:Value->Shared->Prop}(h:PassesOwn (model X.prog X.w) X.A X.env E):Mc (X.inTry pins E) P Γ n:=
 ⟨⟨M.md.fn,M.md.blt,M.md.cns,M.md.tab,M.md.exc,M.md.rsd,M.md.pls,M.md.cls⟩,M.N,M.nd,M.sc,M.calm,M.room,h,M.st,M.fk,M.stk⟩
theorem Mc.units(M:Mc X P Γ n):X.A.units+200<cLine:=by have:=M.room.un;omega
theorem Mc.vis(M:Mc X P Γ n)(h:aDl Γ x=true):Vis X.env.scope x:=by
 unfold aDl at h;unfold Vis;rw[M.sc];cases q:Γ.sc.lookup x with
 | none=>rw[q] at h;cases h|some k=>rw[q] at h;cases k <;> first|exact .inl rfl|exact .inr (.inl rfl)|exact .inr (.inr rfl)|cases h
theorem Mc.loc(M:Mc X P Γ n)(h:vS Γ x=true):L2.Loc X.env.scope x:=by
 unfold vS at h;unfold L2.Loc;rw[M.sc];cases q:Γ.sc.lookup x with
 | none=>rw[q] at h;cases h|some k=>rw[q] at h;cases k <;> first|exact .inl rfl|exact .inr rfl|cases h
theorem Mc.gl(M:Mc X P Γ n)(h:cY Γ x=true):Gl X x:=by
 unfold cY at h;unfold Gl;show X.env.scope.names.lookup x=_;rw[M.sc];cases q:Γ.sc.lookup x with
 | none=>rw[q] at h;cases h|some k=>rw[q] at h;cases k <;> first|rfl|cases h
theorem aL(h:bU x=true):(x==("__debug__" : Str))=false:=by unfold bU at h;simp only[bA,Cr] at h;exact h.1
theorem jD(h:bU x=true):(x==("__classdict__" : Str))=false:=by unfold bU at h;simp only[bA,Cr] at h;exact h.2
theorem aIx:∀{d d':D},eqK d d'=true->d=d':=by intro d d' h;cases d <;> cases d' <;> simp[eqK] at h <;> first|rfl|(subst h;rfl)
def aV:Expr->Bool
 | .Starred _ _=>false|.Slice _ _ _ _=>false|.Set _ _ _=>false|_=>true
theorem aDD{α:Type}{o:Option α}{f:α->Bool}(h:oB o f=true):∃a,o=some a/\f a=true:=by
 cases o with
 | none=>cases h|some a=>exact⟨a,rfl,h⟩
theorem aG{α:Type}{q:α->Prop}{o:Option { a:α // q a }}{f:α->Bool}(h:oS o f=true):∃a,q a/\f a=true:=by
 cases o with
 | none=>cases h|some a=>exact⟨a.1,a.2,h⟩
theorem aQ{c:E}{e:Expr}(h:aY Γ c e=true):aV e=true:=by
 cases c with
 | c d=>rcases(A9 _ _).mp (show(oS (asC e) (eqC d)||oS (asN e) λx=>cY Γ x&&bU x&&oB (Γ.cns.lookup x) (eqK d))=true from h) with h|h;obtain⟨_,⟨_,_,rfl⟩,_⟩:=aG h;rfl;obtain⟨_,⟨_,rfl⟩,_⟩:=aG h;rfl
 | v i=>obtain⟨_,⟨_,rfl⟩,_⟩:=aG h;rfl|op o a b=>obtain⟨_,⟨_,rfl⟩,_⟩:=aG h;rfl|neg a=>obtain⟨_,⟨_,rfl⟩,_⟩:=aG h;rfl|nt a=>obtain⟨_,⟨_,rfl⟩,_⟩:=aG h;rfl|an a b=>obtain⟨_,rfl,_⟩:=aG h;rfl|orr a b=>obtain⟨_,rfl,_⟩:=aG h;rfl|ife t a b=>obtain⟨_,⟨_,rfl⟩,_⟩:=aG h;rfl|cmp o a b=>obtain⟨_,⟨_,rfl⟩,_⟩:=aG h;rfl|dnin _ _=>cases h|dget _ _=>cases h|dlen _=>cases h|cmp2 o1 o2 a b c=>obtain⟨_,⟨_,rfl⟩,_⟩:=aG h;rfl|idx a b=>obtain⟨_,⟨_,rfl⟩,_⟩:=aG h;rfl|sli a lo hi=>obtain⟨_,⟨_,rfl⟩,_⟩:=aG h;rfl|tup es=>obtain⟨_,⟨_,_,rfl⟩,_⟩:=aG h;rfl|lst es=>obtain⟨_,⟨_,rfl⟩,_⟩:=aG h;rfl|call f es=>obtain⟨_,⟨_,_,rfl⟩,_⟩:=aG h;rfl|callP f i es=>obtain⟨_,⟨_,_,rfl⟩,_⟩:=aG h;rfl|pix i=>obtain⟨_,⟨_,rfl⟩,_⟩:=aG h;rfl|bi b es=>obtain⟨_,⟨_,_,rfl⟩,_⟩:=aG h;rfl|mth m o es=>obtain⟨_,⟨_,_,rfl,_⟩,_⟩:=aG h;rfl|isi a cs=>obtain⟨_,⟨_,_,rfl⟩,_⟩:=aG h;rfl|comp k caps t it cond elt=>obtain⟨_,⟨_,rfl⟩,_⟩:=aG h;rfl|numset _=>cases h|tget _ _=>cases h|lzip _ _=>cases h|dic ks vs=>cases h|isx _ _=>obtain⟨_,⟨_,_,rfl⟩,_⟩:=aG h;rfl
theorem aC(h:aV e=true):starEach (e::es) env=(false,eval e env)::starEach es env:=by cases e <;> first|rfl|cases h
theorem dQ:∀{cs:Es} {es:List Expr},chkEs Γ cs es=true->es.all aV=true
 | .z,[],_=>rfl|.z,_::_,h=>by cases h|.k _ _,[],h=>by cases h|.k c cs,e::es,h=>by simp only[chkEs,bA] at h;rw[Dr,aQ h.1,dQ h.2];rfl
theorem cQ:∀{es:List Expr},es.all aV=true->(backTo pos (starEach es env)).any (·.1)=false
 | [],_=>rfl|e::es,h=>by rw[Dr,bA] at h;rw[aC h.1];show(false||(backTo pos (starEach es env)).any (·.1))=false;rw[cQ h.2];rfl
theorem gW(h:aV e=true):aAt e:=by intro o i;cases e <;> first|rfl|cases h
theorem mI(h:aV e=true):∀x,foldedSetIterable e env x=pure x:=by intro x;cases e <;> first|rfl|cases h
theorem oW(h:aV e=true):behindInMarks op e=false:=by cases e <;> first|rfl|cases h
variable {RT Y old:Addr->Prop} {σ:Sg} {pos:Pos}
abbrev WE(X:Cx)(P:Pg)(n:Nat)(RT Y old:Addr->Prop)(σ:Sg)(c:E):TE:=wE X P (call P n) RT Y old σ c
abbrev WT(X:Cx)(P:Pg)(n:Nat)(RT Y old:Addr->Prop)(σ:Sg)(c:E):TT:=wT X P (call P n) RT Y old σ c
abbrev WA(X:Cx)(P:Pg)(n:Nat)(RT Y old:Addr->Prop)(σ:Sg)(c:Es):TA:=wA X P (call P n) RT Y old σ c
theorem RE.bind'{α β:Type}{x:R α}{f:α->R β}{p:β->Prop}{w:D->Prop}(h:RE w (x >>= f) p):RE w x λa=>RE w (f a) p:=by rwa [RE.bind] at h
theorem RE.calmEq{α:Type}{x:R α}{p:α->Prop}{w:D->Prop}(h:RE w x.calm p):∃a,x=.ok a/\p a:=by
 cases x with
 | ok a=>exact⟨a,rfl,h⟩|exc e=>exact h.elim|bad=>exact h.elim
theorem wE.one{p:Vl->Prop}{Q:V->Hp->Prop}(S:Sx X.K RT Y old σ σV H)(h:RE (wx X σV H) (ev P (call P n) σ a) p)
 (f:∀x u H',p x->Tk X.K H'->Sx X.K RT Y old σ σV H'->Ro X.K RT Y old σ σV H H' x u->Q u H'):WE X P n RT Y old σ a σV H Q:=
 ⟨S,h.mono λx hx u H' t r=>f x u H' hx t (S.grow r.1 t) r⟩
theorem aNP(ha:PE X ea (WE X P n RT Y old σ a))(hb:PE X eb (WE X P n RT Y old σ b)):PE X (.BinOp ea o eb pos) (WE X P n RT Y old σ (.op o a b)):=by
 intro pins s σV H Q I hw;obtain⟨S,h⟩:=hw;have h:=RE.bind' (show RE _ (ev P (call P n) σ a >>= λx=>ev P (call P n) σ b >>= λy=>opD o x y) _ from h);refine wpAny_BinOp (thn (ha pins s σV H (λux H1=>WE X P n RT Y old σ b σV H1 λuy H2=>∃x y,Sx X.K RT Y old σ σV H2/\aP H H2/\Rv X.K RT Y old σ σV H2 x ux/\Rv X.K RT Y old σ σV H2 y uy/\(x.fr=true->∃a xs,ux=.ref a/\H2 a=some (.lst xs))/\RE (λ_=>True) (opD o x y) (Wn X RT Y old σ σV H Q)) I
  (wE.one S h λx u H1 hx t1 S1 r1=>wE.one S1 ((RE.bind' hx).at r1.1) λy u' H2 hy t2 S2 r2=>⟨x,y,S2,r1.1.trans r2.1,(r1.rv S).grow r2.1,r2.rv S1,λhf=>?_,hy.weak λ_ _=>trivial⟩)) λv s1 ⟨x',H1,I1,rx,q1⟩=>thn (hb pins s1 σV H1 _ I1 q1) λu s2 ⟨y',H2,I2,ry,q2⟩=>?_)
 have:=r1.2;rw[if_pos hf] at this;obtain⟨a',xs,ds,e1,_,_,e4,_⟩:=this;exact⟨a',xs,e1,r2.1 _ _ e4⟩;obtain⟨x,y,S2,sm,hx,hy,hf,h⟩:=q2;exact aDr I2 S2 rx ry hx hy hf (h.mono λv hv u H' t r=>hv u H' t (r.from sm))
theorem aKU(ha:PE X ea (WE X P n RT Y old σ a)):PE X (.UnaryOp .USub ea pos) (WE X P n RT Y old σ (.neg a)):=by refine(aKj aIa ha).imp λσV H Q t ⟨S,h⟩=>?_;have h:=RE.bind' (show RE _ (ev P (call P n) σ a >>= λx=>(match x.d with|.int i=>R.ok (Vl.cl (.int (-i)))|_=>.bad)) _ from h);refine wE.one S h λx u H1 hx t1 S1 r1=>?_;split at hx;rename_i i d1;exact⟨i,(r1.rv S).int d1,λt'=>hx _ _ t' (Ro.cl r1.1 rfl)⟩;exact hx.elim
theorem aDE{x:Vl}(hx:Rv X.K RT Y old σ σV H x u)(h:aDb x.d=some k):aFD X.K u H k:=by
 unfold aDb at h;split at h;rename_i d;rw[hx.non d];exact(Ah h).symm;rename_i b d;rw[hx.bl d];exact(Ah h).symm;rename_i i d;rw[hx.int d];exact(Ah h).symm;rename_i z d;by_cases hl:z.length<=lim;rw[if_pos hl] at h;rw[hx.str d];refine⟨eT hl,?_⟩;rw[<-Ah h];cases hz:z.length with
 | zero=>rfl|succ m=>simp;omega
 rw[if_neg hl] at h;cases h;rename_i ds d;obtain⟨a,xs,e,q,r⟩:=hx.tup d;rw[e];refine .inr (.inl ⟨xs,q,?_⟩);rw[<-Ah h];have:=r.length;cases ds <;> cases xs <;> first|rfl|(simp at this)
 rename_i ds d;obtain⟨a,xs,e,q,_,r⟩:=hx.lst d;rw[e];refine .inl ⟨xs,q,?_⟩;rw[<-Ah h];have:=r.length;cases ds <;> cases xs <;> first|rfl|(simp at this)
 cases h
theorem RE.tru{x:Vl}{p:Bool->Prop}{w:D->Prop}(h:RE w (eD x) p):∃k,aDb x.d=some k/\p k:=by
 unfold eD at h;cases q:aDb x.d with
 | none=>rw[q] at h;exact h.elim|some k=>rw[q] at h;exact⟨k,rfl,h⟩
theorem aKV(ha:PE X ea (WE X P n RT Y old σ a)):PE X (.UnaryOp .Not ea pos) (WE X P n RT Y old σ (.nt a)):=by intro pins s σV H Q I hw;obtain⟨S,h⟩:=hw;have h:=RE.bind' (show RE _ (ev P (call P n) σ a >>= λx=>eD x >>= λk=>R.ok (Vl.cl (.bl (!k)))) _ from h);refine UnaryOp_ (thn (ha pins s σV H (λu H1=>∃k,aFD X.K u H1 k/\Q (.bl (!k)) H1) I (wE.one S h λx u H1 hx t1 S1 r1=>?_)) λv s1 ⟨u,H1,I1,ru,k,hk,q⟩=>?_);obtain⟨k,hk,hp⟩:=RE.tru (RE.bind' hx);exact⟨k,aDE (r1.rv S) hk,(show Wn X RT Y old σ σV H Q (Vl.cl (.bl (!k))) from hp) _ _ t1 (Ro.cl r1.1 rfl)⟩;refine not_of (thn (aCR pins s1 σV H1 u v (λk' H'=>k'=k/\H'=H1) I1 ru ⟨k,hk,rfl,rfl⟩) λb s2 ⟨H2,I2,e1,e2⟩=>?_);subst e1 e2;exact⟨.bl (!b),H2,I2,rfl,q⟩
theorem jX{e:Expr}(ha:PE X e (WE X P n RT Y old σ c))(he:∀whole,isTrue e X.env whole=(do let v<-whole;standAt e.pos;holding [v] (truthy v)))
 (hc:∀w p,RE w (tst P (call P n) σ c) p->RE w (ev P (call P n) σ c) λx=>RE w (eD x) p):PT X e (WT X P n RT Y old σ c):=by refine(aCS ha he).imp λσV H Q t ⟨S,h⟩=>?_;refine wE.one S (hc _ _ h) λx u H1 hx t1 S1 r1=>?_;obtain⟨k,hk,hp⟩:=RE.tru hx;exact⟨k,aDE (r1.rv S) hk,λt'=>hp _ t' r1.1⟩
theorem aKW(ha:PE X ea (WE X P n RT Y old σ a))(hb:PE X (.BoolOp .And (eb::r) pos) (WE X P n RT Y old σ b)):PE X (.BoolOp .And (ea::eb::r) pos) (WE X P n RT Y old σ (.an a b)):=by refine(aHN ha hb).imp λσV H Q t ⟨S,h⟩=>?_;have h:=RE.bind' (show RE _ (ev P (call P n) σ a >>= λx=>(match x.d with|.bl true=>ev P (call P n) σ b|.bl false=>R.ok (Vl.cl (.bl false))|_=>.bad)) _ from h);refine wE.one S h λx u H1 hx t1 S1 r1=>?_;split at hx;rename_i d1;refine⟨true,(r1.rv S).bl d1,?_⟩;rw[if_pos rfl];exact⟨S1,(hx.at r1.1).mono λv hv u H' t r=>λ_=>hv u H' t (r.from r1.1)⟩;rename_i d1;refine⟨false,(r1.rv S).bl d1,?_⟩;rw[if_neg bN];exact λt'=>hx _ _ t' (Ro.cl r1.1 rfl);exact hx.elim
theorem aHo(ha:PE X ea (WE X P n RT Y old σ a))(hb:PE X (.BoolOp .Or (eb::r) pos) (WE X P n RT Y old σ b)):PE X (.BoolOp .Or (ea::eb::r) pos) (WE X P n RT Y old σ (.orr a b)):=by refine(aJX ha hb).imp λσV H Q t ⟨S,h⟩=>?_;have h:=RE.bind' (show RE _ (ev P (call P n) σ a >>= λx=>(match x.d with|.bl true=>R.ok (Vl.cl (.bl true))|.bl false=>ev P (call P n) σ b|_=>.bad)) _ from h);refine wE.one S h λx u H1 hx t1 S1 r1=>?_;split at hx;rename_i d1;refine⟨true,(r1.rv S).bl d1,?_⟩;rw[if_pos rfl];exact λt'=>hx _ _ t' (Ro.cl r1.1 rfl);rename_i d1;refine⟨false,(r1.rv S).bl d1,?_⟩;rw[if_neg bN];exact⟨S1,(hx.at r1.1).mono λv hv u H' t r=>λ_=>hv u H' t (r.from r1.1)⟩;exact hx.elim
theorem aKX(ht:PT X et (WT X P n RT Y old σ t))(ha:PE X ea (WE X P n RT Y old σ a))(hb:PE X eb (WE X P n RT Y old σ b)):PE X (.IfExp et ea eb pos) (WE X P n RT Y old σ (.ife t a b)):=by
 refine(aCI ht ha hb).imp λσV H Q t0 ⟨S,h⟩=>?_;have h:=RE.bind' (show RE _ (tst P (call P n) σ t >>= λx=>if x=true then ev P (call P n) σ a else ev P (call P n) σ b) _ from h);refine⟨S,h.mono λk hk H1 t1 s1=>?_⟩;cases k with
 | true=>rw[if_pos rfl] at hk ⊢;exact⟨S.grow s1 t1,(hk.at s1).mono λv hv u H' t r=>λ_=>hv u H' t (r.from s1)⟩|false=>rw[if_neg bN] at hk ⊢;exact⟨S.grow s1 t1,(hk.at s1).mono λv hv u H' t r=>λ_=>hv u H' t (r.from s1)⟩
def w2(X:Cx)(P:Pg)(n:Nat)(RT Y old:Addr->Prop)(σ:Sg)(σV:L2.St)(H:Hp)(p:Vl->Vl->Prop)(ux uy:V)(H2:Hp):Prop:=
 ∃x y,Sx X.K RT Y old σ σV H2/\aP H H2/\Rv X.K RT Y old σ σV H2 x ux/\Rv X.K RT Y old σ σV H2 y uy/\p x y
theorem jE(M:Mc X P Γ n)(o:CmpOp):OpR X (compareOp o) (λux uy H Q=>∃(σ:Sg) (σV:L2.St) (x y:Vl) (k:Bool),Rv X.K RT Y old σ σV H x ux/\Rv X.K RT Y old σ σV H y uy/\dD o x.d y.d=some k/\Q (.bl k) H):=by intro pins s σV H ux uy v u Q I rx ry h;obtain⟨σ',σV',x,y,k,hx,hy,hk,q⟩:=h;exact aBR I M.units rx ry hx hy hk q
theorem aKY(M:Mc X P Γ n)(ha:PE X ea (WE X P n RT Y old σ a))(hb:PE X eb (WE X P n RT Y old σ b))(hp:aV eb=true):PE X (.Compare ea [o] [eb] pos) (WE X P n RT Y old σ (.cmp o a b)):=by refine(aFB (jE (RT:=RT) (Y:=Y) (old:=old) M o) ha hb (oW hp)).imp λσV H Q t ⟨S,h⟩=>?_;have h:=RE.bind' (show RE _ (ev P (call P n) σ a >>= λx=>ev P (call P n) σ b >>= λy=>(match dD o x.d y.d with|some k=>R.ok (Vl.cl (.bl k))|none=>.bad)) _ from h);refine wE.two S (h.mono λx hx=>RE.bind' hx) λx y ux uy H2 hp t2 s2 S2 hx hy=>?_;split at hp;rename_i k hk;exact⟨σ,σV,x,y,k,hx,hy,hk,λt'=>hp _ _ t' (Ro.cl s2 rfl)⟩;exact hp.elim
theorem fM(M:Mc X P Γ n)(ha:PE X ea (WE X P n RT Y old σ a))(hb:PE X eb (WE X P n RT Y old σ b))(hp:aV eb=true):PT X (.Compare ea [o] [eb] pos) (WT X P n RT Y old σ (.cmp o a b)):=by refine(aFC (jE (RT:=RT) (Y:=Y) (old:=old) M o) ha hb (oW hp)).imp λσV H Q t ⟨S,h⟩=>?_;have h:=RE.bind' (show RE _ (ev P (call P n) σ a >>= λx=>ev P (call P n) σ b >>= λy=>(match dD o x.d y.d with|some k=>R.ok k|none=>.bad)) _ from h);refine wE.two S (h.mono λx hx=>RE.bind' hx) λx y ux uy H2 hp t2 s2 S2 hx hy=>?_;split at hp;rename_i k hk;exact⟨σ,σV,x,y,k,hx,hy,hk,k,rfl,λt'=>hp _ t' s2⟩;exact hp.elim
theorem aKZ(ha:PE X ea (WE X P n RT Y old σ a))(hb:PE X eb (WE X P n RT Y old σ b))(hp:aV eb=true):PE X (.Subscript ea eb pos) (WE X P n RT Y old σ (.idx a b)):=by refine(aAu aIh ha hb (gW hp)).imp λσV H Q t ⟨S,h⟩=>?_;have h:=RE.bind' (show RE _ (ev P (call P n) σ a >>= λx=>ev P (call P n) σ b >>= λy=>bK x y) _ from h);refine wE.two S (h.mono λx hx=>RE.bind' hx) λx y ux uy H2 hp t2 s2 S2 hx hy=>?_;exact aBS t2 hx hy (hp.mono λv hv u H' t r=>hv u H' t (r.from s2))
theorem wM:PA X [] (WA X P n RT Y old σ .z):=kE.imp λσV H Q t ⟨S,h⟩ t'=>h [] H t' (aP.refl H) rfl
theorem kK(ha:PE X e (WE X P n RT Y old σ c))(hr:PA X es (WA X P n RT Y old σ cs))(hp:aV e=true):PA X (e::es) (WA X P n RT Y old σ (.k c cs)):=by
 refine(fX ha hr (aC hp)).imp λσV H Q t ⟨S,h⟩=>?_;have h:=RE.bind' (show RE _ (ev P (call P n) σ c >>= λx=>evs P (call P n) σ cs >>= λxs=>R.ok (x::xs)) _ from h);refine wE.one S h λx u H1 hx t1 S1 r1=>⟨S1,((RE.bind' hx).at r1.1).mono λvs hv us H2 t2 s2 r2 t'=>?_⟩
 exact hv (u::us) H2 t' (r1.1.trans s2) ⟨u,us,rfl,(r1.rv S).grow s2,r2⟩
theorem tW:∀{cs:Es} {es:List Expr} {vs:List Vl},chkEs Γ cs es=true->evs P (call P n) σ cs=.ok vs->vs.length=es.length
 | .z,[],vs,_,h=>by cases(show R.ok []=R.ok vs from h);rfl|.z,_::_,_,h,_=>by cases h|.k _ _,[],_,h,_=>by cases h|.k c cs,e::es,vs,hc,h=>by
  simp only[chkEs,bA] at hc;have h:(ev P (call P n) σ c >>= λx=>evs P (call P n) σ cs >>= λxs=>R.ok (x::xs))=R.ok vs:=h;cases q1:ev P (call P n) σ c with
  | ok x=>
   cases q2:evs P (call P n) σ cs with
   | ok xs=>rw[q1] at h;have h:(evs P (call P n) σ cs >>= λxs=>R.ok (x::xs))=R.ok vs:=h;rw[q2] at h;cases(show R.ok (x::xs)=R.ok vs from h);rw[lC,lC,tW hc.2 q2]|exc z=>rw[q1] at h;have h:(evs P (call P n) σ cs >>= λxs=>R.ok (x::xs))=R.ok vs:=h;rw[q2] at h;cases h|bad=>rw[q1] at h;have h:(evs P (call P n) σ cs >>= λxs=>R.ok (x::xs))=R.ok vs:=h;rw[q2] at h;cases h
  | exc z=>rw[q1] at h;cases h|bad=>rw[q1] at h;cases h
theorem RE.with{α:Type}{x:R α}{p:α->Prop}{w:D->Prop}(h:RE w x p):RE w x λa=>x=.ok a/\p a:=by
 cases x with
 | ok a=>exact⟨rfl,h⟩|exc e=>exact h|bad=>exact h
theorem aLa{es:List Expr}(ha:PA X es (WA X P n RT Y old σ cs))(hc:chkEs Γ cs es=true)(hl:es.length<=1000):PE X (.Tuple es k pos) (WE X P n RT Y old σ (.tup cs)):=by
 refine(aCT ha).imp λσV H Q t ⟨S,h⟩=>?_;have h:=RE.bind' (show RE _ (evs P (call P n) σ cs >>= λvs=>R.ok (kW vs)) _ from h);refine⟨S,h.with.mono λvs ⟨e,hv⟩ us H1 t1 s1 r1=>?_⟩;have hn:us.length<=sizeLine:=by rw[<-r1.length,tW hc e,Bz];omega
 exact⟨hn,λp hp t'=>(show Wn X RT Y old σ σV H Q (kW vs) from hv) _ _ t' ((Ro.tup hp rfl rfl r1.all).from s1)⟩
theorem aLb{es:List Expr}(ha:PA X es (WA X P n RT Y old σ cs))(hc:chkEs Γ cs es=true)(hl:es.length<=1000):PE X (.List es pos) (WE X P n RT Y old σ (.lst cs)):=by
 refine(aIc ha).imp λσV H Q t ⟨S,h⟩=>?_;have h:=RE.bind' (show RE _ (evs P (call P n) σ cs >>= λvs=>R.ok (nB vs)) _ from h);refine⟨S,h.with.mono λvs ⟨e,hv⟩ us H1 t1 s1 r1=>?_⟩;have hn:us.length<=sizeLine:=by rw[<-r1.length,tW hc e,Bz];omega
 exact⟨hn,λp hp t'=>(show Wn X RT Y old σ σV H Q (nB vs) from hv) _ _ t' ((Ro.fresh hp t' rfl rfl (S.grow s1 t1) r1.all).from s1)⟩
theorem aGg:∀b:Bi,aDm b=true->bootBuiltins (kF b)=some (aHn b):=by intro b hb;cases b <;> first|kernel_rfl|cases hb
theorem eI:∀b:Bi,kF b∈bltNames:=by intro b;cases b <;> decide +kernel
theorem fE:∀b:Bi,kF b ≠ "__name__" := by intro b;cases b <;> decide +kernel
theorem aNQ(M:Mc X P Γ n)(hb:aDm b=true)(hx:kF b=x)(hg:cY Γ x=true)(ho:bU x=true)(ha:PA X (e::es) (WA X P n RT Y old σ cs))(hp:(e::es).all aV=true) :
 PE X (.Call (.Name x p) (e::es) [] pos) (WE X P n RT Y old σ (.bi b cs)):=by
 subst hx;have hp':aV e=true/\es.all aV=true:=by simpa using hp
 have body:∀(f:PE X (.Call (.Name (kF b) p) (e::es) [] pos) (tCB (rBi X b) (WA X P n RT Y old σ cs))),PE X (.Call (.Name (kF b) p) (e::es) [] pos) (WE X P n RT Y old σ (.bi b cs)):=λf=>f.imp λσV H Q t ⟨S,h⟩=>by have h:=RE.bind' (show RE _ (evs P (call P n) σ cs >>= λvs=>biD b vs) _ from h);refine⟨S,h.mono λvs hv us H1 t1 s1 r1=>?_⟩;exact aDu hb (S.grow s1 t1) r1 (hv.mono λv hv u H' t r=>hv u H' t (r.from s1))
 refine body ?_;have r:=aFX M.calm M.room.gd M.units b hb;have bo:=aGg b hb;cases b with
 | len=>exact oK r (M.gl hg) (M.md.blt _ (eI _)) bo ha (fE _) (aL ho) (aC hp'.1) (cQ hp'.2)|repr=>exact oK r (M.gl hg) (M.md.blt _ (eI _)) bo ha (fE _) (aL ho) (aC hp'.1) (cQ hp'.2)|all=>exact oK r (M.gl hg) (M.md.blt _ (eI _)) bo ha (fE _) (aL ho) (aC hp'.1) (cQ hp'.2)|list=>exact mD r (M.gl hg) (M.md.blt _ (eI _)) bo ha (fE _) (aL ho) (aC hp'.1) (cQ hp'.2)|tuple=>exact mD r (M.gl hg) (M.md.blt _ (eI _)) bo ha (fE _) (aL ho) (aC hp'.1) (cQ hp'.2)|int=>exact mD r (M.gl hg) (M.md.blt _ (eI _)) bo ha (fE _) (aL ho) (aC hp'.1) (cQ hp'.2)|_=>cases hb
theorem aGh(S1:Sx X.K RT Y old σ σV H1)(s1:aP H H1)(s':aP H1 H')(h:Rr X.K H1 H' (λb=>Od X.K H1 b/\exV RT Y old σ σV (fA vs) (cN vs) b) r u) :
 Ro X.K RT Y old σ σV H H' (iH vs r) u:=by
 obtain⟨d,fr,pa⟩:=r;have key:∀b,exV RT Y old σ σV (iH vs (d,fr,pa)).pa (iH vs (d,fr,pa)).al b->(Od X.K H1 b/\exV RT Y old σ σV (fA vs) (cN vs) b)\/(pa=false/\Od X.K H1 b):=by
  intro b z;have tk:=exV.trk S1 z;cases pa with
  | true=>exact .inl ⟨tk,z⟩|false=>exact .inr ⟨rfl,tk⟩
 have efr:(iH vs (d,fr,pa)).fr=fr:=by unfold iH;split <;> rfl
 have ed:(iH vs (d,fr,pa)).d=d:=by unfold iH;split <;> rfl
 refine⟨s1.trans s',?_⟩;rw[efr];unfold Rr at h;cases fr with
 | true=>rw[if_pos rfl] at h ⊢;obtain⟨a,xs,ds,e1,e2,e3,e4,rr⟩:=h;exact⟨a,xs,ds,e1,by rw[ed];exact e2,⟨s1.free e3.1,e3.2⟩,e4,rr.weak λb z=>z.elim (λz=>.inl z) λz=>.inr (key b z)⟩|false=>rw[if_neg bN] at h ⊢;unfold Rv;rw[ed];exact Rep.weak h key
theorem aDF(S:Sx X.K RT Y old σ σV H)(h:RE (wx X σV H) (ev P (call P n) σ (.call f cs)) (Wn X RT Y old σ σV H Q)) :
 WA X P n RT Y old σ cs σV H λus H1=>spF X.K P n f (us++[]) H1 (λv H'=>Tk X.K H'->Q v H') (λc _ H'=>RX X c σV H'):=by
 have h:=RE.bind' (show RE _ (evs P (call P n) σ cs >>= λvs=>call P n f (vs.map (·.d)) >>= λr=>R.ok (iH vs r)) _ from h);refine⟨S,h.mono λvs hv us H1 t1 s1 r1=>?_⟩;have S1:=S.grow s1 t1;refine⟨vs.map (·.d),λb=>Od X.K H1 b/\exV RT Y old σ σV (fA vs) (cN vs) b,λa z=>z.1,by rw[B8];exact r1.all.weak λa z=>z.2,((RE.bind' hv).weak λx hx=>?_).mono λr hr u H' t' s' rr _=>?_⟩;cases x with
 | err c fs=>exact λcls H' q t' s'=>hx H' t' (s1.trans s') cls q|_=>exact(hx H1 t1 s1).elim
 exact(show Wn X RT Y old σ σV H Q (iH vs r) from hr) u H' t' (aGh S1 s1 s' rr)
theorem aIy(M:Mc X P Γ n){es:List Expr}(hf:Γ.fns[f]? = some x)(hg:cY Γ x=true)(ho:bU x=true)(ha:PA X es (WA X P n RT Y old σ cs))(hp:es.all aV=true)(hc:chkEs Γ cs es=true) :
 PE X (.Call (.Name x p) es [] pos) (WE X P n RT Y old σ (.call f cs)):=by
 obtain⟨fa,fd,ps,h1,h2,h3,h4⟩:=M.md.fn f x hf;cases es with
 | cons e es=>
  have hp':aV e=true/\es.all aV=true:=by simpa using hp
  intro pins s σV H Q I h;have hw:=aDF h.1 h.2;refine B9 (fV I (M.gl hg) h1 ?_ (aL ho));refine PySem.W.callWith_K (h₀:=X.base) I.ok.mod.kin h2 (thn (ha pos pins s σV H _ I hw) λus s1 ⟨vs,H1,I1,r,q⟩=>⟨I1.kIn,?_⟩) (aC hp'.1) (cQ hp'.2);exact thn (nU h4 M.room h3 .nil (rK X) I1 r q) λu s2 z=>EP.tk z
 | nil=>
  cases cs with
  | k _ _=>cases hc|z=>intro pins s σV H Q I h;have hw:=(aDF h.1 h.2).2 [] H I.tk (aP.refl H) rfl;refine B9 (fV I (M.gl hg) h1 ?_ (aL ho));exact PySem.W.callWith_K0 I.kIn h2 (thn (nU (us:=[]) h4 M.room h3 .nil (rK X) I .nil hw) λu s2 z=>EP.tk z)
theorem gX(M:Mc X P Γ n)(hx:cP Γ i x=true):PE X (.Name x p) (sR i):=by unfold cP at hx;simp only[bA] at hx;obtain⟨⟨h1,h2⟩,h3⟩:=hx;exact lX (by rw[M.N];exact eq_of_beq h1) (M.vis h2) (aL h3) (jD h3)
theorem aGi(M:Mc X P Γ n){es:List Expr}(hf:Γ.fns[f]? = some x)(hg:cY Γ x=true)(ho:bU x=true)(hy:cP Γ i y=true)(hc:eqC (.int 1) c=true)(ha:PA X es (WA X P n RT Y old σ cs))(hp:es.all aV=true) :
 PE X (.Call (.Name x p) (.Subscript (.Name y q) (.Constant c k q1) q2::es) [] pos) (WE X P n RT Y old σ (.callP f i cs)):=by
 obtain⟨fa,fd,ps,h1,h2,h3,h4⟩:=M.md.fn f x hf;intro pins s σV H Q I hh;obtain⟨S,h⟩:=hh;have h:=RE.bind' (show RE _ ((evs P (call P n) σ cs).calm >>= λvs=>vR σ i >>= λd=>(call P n f (d::vs.map (·.d))).calm >>= iK) _ from h);obtain⟨vs,ev1,h⟩:=RE.calmEq h;have h:=RE.bind' h;unfold vR at h;split at h;rename_i ds es' e1;obtain⟨r,er,hr⟩:=RE.calmEq (RE.bind' (show RE _ ((call P n f (.lst ds::vs.map (·.d))).calm >>= iK) _ from h));obtain⟨a,b,xs,vx,g1,⟨ha',hb⟩,_,_,_,r1,r2⟩:=S.dx.at2 i ds es' e1;have hw:(aHe (tOp (aFJ X.K) (sR i) (WE X P n RT Y old σ (.c (.int 1)))) (WA X P n RT Y old σ cs)) σV H λus H1=>spF X.K P n f (us++[]) H1 (λv H'=>Tk X.K H'->Q v H') (λc _ H'=>RX X c σV H'):=by
  refine⟨.ref a,g1,wE.one (p:=λx=>x=.cl (.int 1)) S rfl λw u H0 hw t0 S0 rr0=>?_⟩;subst hw;have hu:u=.int 1:=rr0.rv S;subst hu;refine⟨a,[vx,.ref b],1,.ref b,rfl,rfl,SqL.of (rr0.1 _ _ ha'),rfl,S0,?_⟩;rw[ev1];intro us H1 t1 s1 rr1;have s1:=rr0.1.trans s1;refine⟨.lst ds::vs.map (·.d),λ_=>False,λ_ z=>z.elim,?_,?_⟩;rw[B8];exact⟨.ref b,us,rfl,⟨b,xs,rfl,SqL.of (s1 _ _ hb),⟨id,λ⟨_,_,z⟩=>z.elim⟩,r1.grow s1⟩,rr1.all.weak λ_ z=>z.elim⟩;rw[er];intro u H' t' s' rr _;obtain⟨hc,hw⟩:=RE.iff (show RE _ (R.iff (noL r.1&&!r.2.1) (.ok (Vl.cl r.1))) _ from hr);rw[bA] at hc;obtain⟨n1,n2⟩:=hc;have n2:r.2.1=false:=by simpa using n2
  unfold Rr at rr;rw[if_neg (by rw[n2];decide)] at rr;exact(show Wn X RT Y old σ σV H Q (.cl r.1) from hw) u H' t' (Ro.cl (s1.trans s') (Rep.free _ _ n1 rr))
 refine B9 (fV I (M.gl hg) h1 ?_ (aL ho));refine PySem.W.callWith_K (h₀:=X.base) I.ok.mod.kin h2 (thn ((fX (aAu nT (gX M hy) (show PE X _ (WE X P n RT Y old σ (.c (.int 1))) from s_c hc) (gW rfl)) ha rfl) pos pins s σV H _ I hw) λus s1 ⟨vs,H1,I1,r,q⟩=>⟨I1.kIn,?_⟩) rfl (cQ hp);exact thn (nU h4 M.room h3 .nil (rK X) I1 r q) λu s2 z=>EP.tk z;exact h.elim
theorem aIz{Q:V->Hp->Prop}(S:Sx X.K RT Y old σ σV H)(h:yT σ i=.ok d)(f:∀v H',Tk X.K H'->aP H H'->Rep X.K H' (λ_=>False) d v->noL d=true->Q v H') :
 tOp (aFJ X.K) (sR i) (WE X P n RT Y old σ (.c (.int 0))) σV H Q:=by unfold yT at h;split at h;rename_i ds x e1;cases h;obtain⟨a,b,xs,vx,g1,⟨ha',hb⟩,_,_,⟨_,n2⟩,r1,vx',_,e,r2,_⟩:=S.dx.at2 i ds [d] e1;cases e;refine⟨.ref a,g1,wE.one (p:=λx=>x=.cl (.int 0)) S rfl λw u H0 hw t0 S0 rr0=>?_⟩;subst hw;have hu:u=.int 0:=rr0.rv S;subst hu;exact⟨a,[vx,.ref b],0,vx,rfl,rfl,SqL.of (rr0.1 _ _ ha'),rfl,f vx H0 t0 rr0.1 (r2.grow rr0.1) (by simpa[noLs] using n2)⟩;cases h
theorem aLc(M:Mc X P Γ n)(hy:cP Γ i y=true)(hc:eqC (.int 0) c=true):PE X (.Subscript (.Name y q) (.Constant c k q1) pos) (WE X P n RT Y old σ (.pix i)):=by refine(aAu nT (gX M hy) (show PE X _ (WE X P n RT Y old σ (.c (.int 0))) from s_c hc) (gW rfl)).imp λσV H Q t ⟨S,h⟩=>?_;obtain⟨d,e,h⟩:=RE.calmEq (RE.bind' (show RE _ ((yT σ i).calm >>= λd=>R.ok (Vl.cl d)) _ from h));exact aIz S e λv H' t' s r nl _=>(show Wn X RT Y old σ σV H Q (.cl d) from h) v H' t' (Ro.cl s (Rep.free _ _ nl r))
theorem aCb(hc:wB c=some cv)(hx:yV Γ c=some x):bootBuiltins x=some cv/\x∈bltNames/\x ≠ "__name__" := by cases c <;> cases hc <;> cases hx <;> exact⟨by kernel_rfl,by decide +kernel,by decide +kernel⟩
theorem aLd(M:Mc X P Γ n)(hf:f=("isinstance" : Str))(hg:cY Γ f=true)(hc:wB c=some cv)(hx:yV Γ c=some x)(hgx:cY Γ x=true)(hox:bU x=true)
 (ha:PE X ea (WE X P n RT Y old σ a)) (hp:aV ea=true):PE X (.Call (.Name f pf) [ea,.Name x py] [] pos) (WE X P n RT Y old σ (.isi a [c])):=by subst hf;intro pins s σV H Q I hw;obtain⟨S,h⟩:=hw;have h:=RE.bind' (show RE _ (ev P (call P n) σ a >>= λx=>(match isI [c] P x.d with|some k=>R.ok (Vl.cl (.bl k))|none=>.bad)) _ from h);obtain⟨b1,b2,b3⟩:=aCb hc hx;refine B9 (gE I (M.gl hg) (M.md.blt _ (by decide +kernel)) (show bootBuiltins "isinstance" = some (.builtin "isinstance") by kernel_rfl) ?_ (by decide +kernel) (by decide +kernel));refine C9 ?_ (aC hp) rfl;rw[aC hp];show wpAny _ _ (spliced ((false,eval ea X.env)::backTo pos (starEach [.Name x py] X.env))) _ _ s;refine De (thn (ha pins s σV H (λu H1=>∃y k,Rv X.K RT Y old σ σV H1 y u/\isI [c] P y.d=some k/\Q (.bl k) H1) I (wE.one S h λy u H1 hy t1 S1 r1=>?_)) λv s1 ⟨u,H1,I1,ru,y,k,hy,hk,q⟩=>?_);split at hy;rename_i k hk;exact⟨y,k,r1.rv S,hk,(show Wn X RT Y old σ σV H Q (Vl.cl (.bl k)) from hy) _ _ t1 (Ro.cl r1.1 rfl)⟩;exact hy.elim;show wpAny _ _ (spliced ((false,eval (.Name x py) X.env)::backTo pos (starEach [] X.env))) _ _ s1;refine De (gE I1 (M.gl hgx) (M.md.blt _ b2) b1 (Calls.spliced_nil ?_) b3 (aL hox));exact aBX P I1 ru hy hc hk q
def aDG(X:Cx)(cls:List Str):Cl->V->Prop
 | .own x,v=>x∈cls/\∃C2,X.mg x=some (.ref C2)/\v=.ref C2|.tValueError,v=>v=.ty "ValueError"|_,_=>False
def aAJ(X:Cx)(cls:List Str):List Cl->List V->Prop
 | [],vs=>vs=[]
 | c::cs,vs=>∃v r,vs=v::r/\aDG X cls c v/\aAJ X cls cs r
def ClV(X:Cx)(cls:List Str)(cs:List Cl)(v:V)(H:Hp):Prop:=(∃c,cs=[c]/\aDG X cls c v)\/∃p vs,v=.ref p/\SqT X.K H p vs/\aAJ X cls cs vs
theorem aDH{ab:List Cl}(E:rN X.K X.mg Γ.cls c ab C)(h:aDG X Γ.cls z v)(r:bI v u):PySem.W.kitOne X.K (.ref C) u=some (ab.contains z):=by
 cases z with
 | own x=>obtain⟨hm,C2,h1,rfl⟩:=h;obtain⟨C2',q1,q2,_⟩:=E.ow x hm;rw[h1] at q1;cases q1;cases r;exact q2|tValueError=>have h:v=.ty "ValueError" := h;subst h;cases r;exact E.ve|_=>exact h.elim
theorem aDI{ab:List Cl}(E:rN X.K X.mg Γ.cls c ab C):∀{cs:List Cl} {vs:List V} {us:List Value},aAJ X Γ.cls cs vs->bC vs us->PySem.W.kitAny X.K (.ref C) us=some (cs.any λz=>ab.contains z)
 | [],vs,us,h,r=>by have h:vs=[]:=h;subst h;cases r;rfl|z::cs,vs,us,h,r=>by
  obtain⟨v,rr,e,h1,h2⟩:=h;subst e;cases r with
  | cons q t=>
   have k:=aDH E h1 q;have ih:=aDI E h2 t;rw[List.any_cons];unfold PySem.W.kitAny;rw[k];cases hb:ab.contains z with
   | true=>rfl|false=>exact ih
theorem aDJ(M:Mc X P Γ n)(hf:f=("isinstance" : Str))(hg:cY Γ f=true)(ha:PE X ea (WE X P n RT Y old σ a))(hp:aV ea=true)(hy:PE X y tc)(hpy:aV y=true)
 (htc:∀σV H Q,(∀v H',aP H H'->ClV X Γ.cls cs v H'->Q v H')->tc σV H Q):PE X (.Call (.Name f pf) [ea,y] [] pos) (WE X P n RT Y old σ (.isx a cs)):=by
 subst hf;intro pins s σV H Q I hw;obtain⟨S,h⟩:=hw;have h:=RE.bind' (show RE _ (ev P (call P n) σ a >>= λx=>(match isX cs P x.d with|some k=>R.ok (Vl.cl (.bl k))|none=>.bad)) _ from h);refine B9 (gE I (M.gl hg) (M.md.blt _ (by decide +kernel)) (show bootBuiltins "isinstance" = some (.builtin "isinstance") by kernel_rfl) ?_ (by decide +kernel) (by decide +kernel));refine C9 ?_ (aC hp) (by rw[aC hpy];rfl);rw[aC hp];show wpAny _ _ (spliced ((false,eval ea X.env)::backTo pos (starEach [y] X.env))) _ _ s;refine De (thn (ha pins s σV H (λu H1=>∃z k,Rv X.K RT Y old σ σV H1 z u/\isX cs P z.d=some k/\∀H2,Tk X.K H2->aP H1 H2->Q (.bl k) H2) I (wE.one S h λz u H1 hz t1 S1 r1=>?_)) λv s1 ⟨u,H1,I1,ru,z,k,hz,hk,q⟩=>?_);split at hz;rename_i k hk;exact⟨z,k,r1.rv S,hk,λH2 t2 s2=>(show Wn X RT Y old σ σV H Q (Vl.cl (.bl k)) from hz) _ _ t2 (Ro.cl (r1.1.trans s2) rfl)⟩;exact hz.elim;rw[aC hpy];show wpAny _ _ (spliced ((false,eval y X.env)::backTo pos (starEach [] X.env))) _ _ s1;refine De (thn (hy pins s1 σV H1 (λv H2=>aP H1 H2/\ClV X Γ.cls cs v H2) I1 (htc σV H1 _ λv H2 s2 c=>⟨s2,c⟩)) λcv s2 ⟨v2,H2,I2,r2,sm,hc⟩=>Calls.spliced_nil ?_);have fin:∀tk,EP X pins σV Q (.bool k) { s2 with toks:=tk }:=λtk=>⟨.bl k,H2,I2.tok tk,rfl,q H2 I2.tk sm⟩
 have hz:=hz.grow sm;unfold isX at hk;split at hk;rename_i hd;unfold Rv at hz;rw[hd] at hz;have hz:u=.non:=hz;subst hz;have hv:v=.none:=ru;subst hv;split at hk;have hk:=Ah hk;subst hk;rcases hc with⟨c1,e1,hc⟩|⟨p,vs,rfl,hq,w0,r0,rfl,hc,hc2⟩
 cases e1;have hc:v2=.ty "ValueError" := hc;subst hc;cases r2;exact Co PySem.W.kitx_none I2.kIn trivial rfl (λz=>nomatch z) fin;have hc:w0=.ty "ValueError" := hc;have hc2:r0=[]:=hc2;subst hc hc2;obtain⟨its,v3,t3,_⟩:=I2.tuple hq;obtain⟨o,h1,h2,nn,h3⟩:=t3;obtain⟨oc,od,oda,osl⟩:=o;dsimp only at h2 h3;subst h2 h3;cases r2;cases v3 with
 | cons r3 r4=>cases r3;cases r4;exact PySem.W.kia_tup PySem.W.kitx_none I2.kIn trivial h1 rfl (λz=>nomatch z) fin
 cases hk;rename_i c fs hd;unfold Rv at hz;rw[hd] at hz;obtain⟨b,C1,e1,dd,hH,hns,hdx⟩:=hz;subst e1;cases ru;split at hk;rename_i ab hab;obtain⟨C,E⟩:=M.md.exc c ab hab;have e:C=C1:=by have:=E.ns.symm.trans hns;simpa using this
 subst e;have hk:=Ah hk;have hI:∃o od,PySem.W.InstAt s2.heap b o C od:=by
  obtain⟨o,i1,i2,i3,i4⟩:=(show cV X.prog X.w H2 s2.heap b (excO b C dd) from I2.hok b _ hH).1;cases dd with
  | none=>exact⟨o,none,i1,i2,i3,by rw[i4];trivial⟩|some dx=>obtain⟨fs,hf⟩:=hdx dx rfl;obtain⟨od,hod⟩:=(I2.hok dx _ hf).old;exact⟨o,some od,i1,i2,i3,by rw[i4];exact hod⟩
 rcases hc with⟨c1,rfl,hc⟩|⟨p,vs,rfl,hq,hc⟩
 refine Co (wJ E.xc) I2.kIn hI ?_ (λz=>nomatch z) fin;rw[aDH E hc r2,<-hk];simp;obtain⟨its,v3,t3,_⟩:=I2.tuple hq;obtain⟨o,h1,h2,nn,h3⟩:=t3;obtain⟨oc,od,oda,osl⟩:=o;dsimp only at h2 h3;subst h2 h3;cases r2;refine PySem.W.kia_tup (wJ E.xc) I2.kIn hI h1 ?_ (λz=>nomatch z) fin;rw[aDI E hc v3,<-hk];cases hk;cases hk
def tCs(vs:List V):TA:=λ_ H Q=>Q vs H
theorem wN(h:aAy Γ c y=true):∃x p,c=.own x/\y=.Name x p/\cY Γ x=true/\bU x=true/\x∈Γ.cls:=by unfold aAy at h;split at h;rename_i x z p;simp only[bA] at h;obtain⟨⟨⟨h1,h2⟩,h3⟩,h4⟩:=h;have e:z=x:=eq_of_beq h1;subst e;exact⟨z,p,rfl,rfl,h2,h3,by simpa using h4⟩;cases h
theorem aDK(M:Mc X P Γ n):∀{cs:List Cl} {es:List Expr},aAz Γ cs es=true->∃vs,PA X es (tCs vs)/\aAJ X Γ.cls cs vs/\vs.length=es.length
 | [],[],_=>⟨[],kE,rfl,rfl⟩
 | [],_::_,h=>by cases h|_::_,[],h=>by cases h|z::cs,y::ys,h=>by unfold aAz at h;obtain⟨h1,h2⟩:=(bA _ _).mp h;obtain⟨vs,i1,i2,i3⟩:=aDK M h2;obtain⟨x,p,rfl,rfl,g1,g2,g3⟩:=wN h1;obtain⟨C2,q,_⟩:=M.md.cls x g3;exact⟨.ref C2::vs,fX (sU (v:=.ref C2) (M.gl g1) q rfl (aL g2)) i1 (aC rfl),⟨_,_,rfl,⟨g3,C2,q,rfl⟩,i2⟩,by rw[lC,lC,i3]⟩
end
section
variable {X:Cx} {P:Pg} {Γ:Ct} {n:Nat} {RT Y old:Addr->Prop} {σ:Sg} {pos:Pos}
theorem oX(hq:aV ec=true):lastMarks [o,o'] [eb,ec]=false:=oW hq
theorem aIA(M:Mc X P Γ n)(ha:PE X ea (WE X P n RT Y old σ a))(hb:PE X eb (WE X P n RT Y old σ b))(hc:PE X ec (WE X P n RT Y old σ c))(hq:aV ec=true) :
 PE X (.Compare ea [o,o'] [eb,ec] pos) (WE X P n RT Y old σ (.cmp2 o o' a b c)):=by
 refine(aCP (jE (RT:=RT) (Y:=Y) (old:=old) M o) (jE (RT:=RT) (Y:=Y) (old:=old) M o') ha hb hc (oX hq)).imp λσV H Q t ⟨S,h⟩=>?_;have h:=RE.bind' (show RE _ (ev P (call P n) σ a >>= λx=>ev P (call P n) σ b >>= λy=>(match dD o x.d y.d with
  | some true=>ev P (call P n) σ c >>= λz=>(match dD o' y.d z.d with|some k=>R.ok (Vl.cl (.bl k))|none=>.bad)
  | some false=>R.ok (Vl.cl (.bl false))|none=>.bad)) _ from h)
 refine wE.two S (h.mono λx hx=>RE.bind' hx) λx y ux uy H2 hp t2 s2 S2 hx hy=>?_;split at hp;rename_i hk;refine⟨σ,σV,x,y,true,hx,hy,hk,true,rfl,?_⟩;rw[if_pos rfl];refine wE.one S2 ((RE.bind' hp).at s2) λz u H3 hz t3 S3 r3=>?_;split at hz;rename_i k' hk';exact⟨σ,σV,y,z,k',hy.grow r3.1,r3.rv S2,hk',λt'=>hz _ _ t' (Ro.cl (s2.trans r3.1) rfl)⟩;exact hz.elim;rename_i hk;refine⟨σ,σV,x,y,false,hx,hy,hk,false,rfl,?_⟩;rw[if_neg bN];exact λt'=>hp _ _ t' (Ro.cl s2 rfl);exact hp.elim
theorem aIB(M:Mc X P Γ n)(ha:PE X ea (WE X P n RT Y old σ a))(hb:PE X eb (WE X P n RT Y old σ b))(hc:PE X ec (WE X P n RT Y old σ c))(hq:aV ec=true) :
 PT X (.Compare ea [o,o'] [eb,ec] pos) (WT X P n RT Y old σ (.cmp2 o o' a b c)):=by
 refine(aCQ (jE (RT:=RT) (Y:=Y) (old:=old) M o) (jE (RT:=RT) (Y:=Y) (old:=old) M o') ha hb hc (oX hq)).imp λσV H Q t ⟨S,h⟩=>?_;have h:=RE.bind' (show RE _ (ev P (call P n) σ a >>= λx=>ev P (call P n) σ b >>= λy=>(match dD o x.d y.d with
  | some true=>ev P (call P n) σ c >>= λz=>(match dD o' y.d z.d with|some k=>R.ok k|none=>.bad)
  | some false=>R.ok false|none=>.bad)) _ from h)
 refine wE.two S (h.mono λx hx=>RE.bind' hx) λx y ux uy H2 hp t2 s2 S2 hx hy=>?_;split at hp;rename_i hk;refine⟨σ,σV,x,y,true,hx,hy,hk,true,rfl,?_⟩;rw[if_pos rfl];refine wE.one S2 ((RE.bind' hp).at s2) λz u H3 hz t3 S3 r3=>?_;split at hz;rename_i k' hk';exact⟨σ,σV,y,z,k',hy.grow r3.1,r3.rv S2,hk',k',rfl,λt'=>hz _ t' (s2.trans r3.1)⟩;exact hz.elim;rename_i hk;refine⟨σ,σV,x,y,false,hx,hy,hk,false,rfl,?_⟩;rw[if_neg bN];exact⟨false,rfl,λt'=>hp _ t' s2⟩;exact hp.elim
theorem nN(ha:PT X ea (WT X P n RT Y old σ a)):PT X (.UnaryOp .Not ea pos) (WT X P n RT Y old σ (.nt a)):=by refine(aHM ha).imp λσV H Q t ⟨S,h⟩=>?_;have h:=RE.bind' (show RE _ (tst P (call P n) σ a >>= λx=>R.ok (!x)) _ from h);exact⟨S,h.mono λk hk H1 t1 s1 t'=>(show ∀H',Tk X.K H'->aP H H'->Q (!k) H' from hk) _ t' s1⟩
theorem aDL(h:PW X e t)(f:∀σV H Q,Tk X.K H->t' σV H Q->t σV H λv H'=>Tk X.K H'->Q v H'):PW X e t':=λwh pins s σV H Q I hw=>thn (h wh pins s σV H _ I (f σV H Q I.tk hw)) λk s' ⟨H',I',q⟩=>⟨H',I',q I'.tk⟩
theorem aLe(ha:PT X ea (WT X P n RT Y old σ a))(hb:PW X (.BoolOp .And (eb::r) pos) (WT X P n RT Y old σ b)):PW X (.BoolOp .And (ea::eb::r) pos) (WT X P n RT Y old σ (.an a b)):=by
 refine aDL (aHL ha hb) λσV H Q t ⟨S,h⟩=>?_;have h:=RE.bind' (show RE _ (tst P (call P n) σ a >>= λx=>if x=true then tst P (call P n) σ b else R.ok false) _ from h);refine⟨S,h.mono λk hk H1 t1 s1=>?_⟩;cases k with
 | true=>rw[if_pos rfl] at hk ⊢;exact⟨S.grow s1 t1,(hk.at s1).mono λv hv H' t s' _=>hv H' t (s1.trans s')⟩|false=>rw[if_neg bN] at hk ⊢;exact λt'=>(show ∀H',Tk X.K H'->aP H H'->Q false H' from hk) _ t' s1
theorem aHp(ha:PT X ea (WT X P n RT Y old σ a))(hb:PW X (.BoolOp .Or (eb::r) pos) (WT X P n RT Y old σ b)):PW X (.BoolOp .Or (ea::eb::r) pos) (WT X P n RT Y old σ (.orr a b)):=by
 refine aDL (aJV ha hb) λσV H Q t ⟨S,h⟩=>?_;have h:=RE.bind' (show RE _ (tst P (call P n) σ a >>= λx=>if x=true then R.ok true else tst P (call P n) σ b) _ from h);refine⟨S,h.mono λk hk H1 t1 s1=>?_⟩;cases k with
 | true=>rw[if_pos rfl] at hk ⊢;exact λt'=>(show ∀H',Tk X.K H'->aP H H'->Q true H' from hk) _ t' s1|false=>rw[if_neg bN] at hk ⊢;exact⟨S.grow s1 t1,(hk.at s1).mono λv hv H' t s' _=>hv H' t (s1.trans s')⟩
def wO(X:Cx)(P:Pg)(n:Nat)(RT Y old:Addr->Prop)(σ:Sg)(cs:Es):TO:=λσV H Q=>Sx X.K RT Y old σ σV H/\RE (wx X σV H) (evs P (call P n) σ cs) λvs=>(vs=[]/\∀H',Tk X.K H'->aP H H'->Q none H')\/∃v i,vs=[v]/\v.d=.int i/\∀H',Tk X.K H'->aP H H'->Q (some i) H'
theorem aDM(h:PO X e t)(f:∀σV H Q,Tk X.K H->t' σV H Q->t σV H λv H'=>Tk X.K H'->Q v H'):PO X e t':=λpins s σV H Q I hw=>thn (h pins s σV H _ I (f σV H Q I.tk hw)) λu s' ⟨o,H',I',r,q⟩=>⟨o,H',I',r,q I'.tk⟩
theorem aLf:PO X none (wO X P n RT Y old σ .z):=aDM aFG λσV H Q t ⟨S,h⟩ t'=>by
 rcases(show([]:List Vl)=[]/\_\/_ from h) with⟨_,q⟩|⟨v,i,e,_⟩
 exact q H t' (aP.refl H);cases e
theorem aLg(ha:PE X e (WE X P n RT Y old σ c)):PO X (some e) (wO X P n RT Y old σ (.k c .z)):=by
 refine aDM (aFH ha) λσV H Q t ⟨S,h⟩=>?_;have h:=RE.bind' (show RE _ (ev P (call P n) σ c >>= λx=>evs P (call P n) σ .z >>= λxs=>R.ok (x::xs)) _ from h);refine wE.one S h λx u H1 hx t1 S1 r1=>?_;rcases(show([x]:List Vl)=[]/\_\/∃v i,([x]:List Vl)=[v]/\_/\_ from hx) with⟨e,_⟩|⟨v,i,e,hd,q⟩
 cases e;cases e;exact⟨i,(r1.rv S).int hd,λt'=>q _ t' r1.1⟩
theorem RE.eqc{α:Type}{x:R α}{p:α->Prop}{w:D->Prop}(h:RE w x p)(n:∀z,x≠.exc z):∃a,x=.ok a/\p a:=by
 cases x with
 | ok a=>exact⟨a,rfl,h⟩|exc e=>exact absurd rfl (n e)|bad=>exact h.elim
theorem jF{α:Type}{c:Bool}{x:R α}(h:∀z,x≠.exc z):∀z,R.iff c x≠.exc z:=λz q=>by unfold R.iff at q;split at q;exact h z q;cases q
theorem iP{α:Type}{a:α}:∀z,R.ok a≠.exc z:=λz q=>by cases q
theorem aGj{α:Type}:∀z,(R.bad:R α)≠.exc z:=λz q=>by cases q
theorem fN{α β:Type}{x:R α}{f:α->R β}(h:∀z,x≠.exc z)(g:∀a z,f a≠.exc z):∀z,(x >>= f)≠.exc z:=λz q=>by
 cases x with
 | ok a=>exact g a z q|exc e=>exact h e rfl|bad=>cases q
theorem aIC(o:Operator)(x y:Vl):∀z,opD o x y≠.exc z:=λz q=>by
 unfold opD at q;split at q
 . unfold aFP at q;split at q <;> first|(cases q;done)|exact jF iP z q
 . unfold yR at q;split at q <;> first|(cases q;done)|exact jF iP z q
 all_goals first|(cases q;done)|(unfold tK at q;split at q <;> first|(cases q;done)|exact jF iP z q)
theorem aGk(x y:Vl):∀z,bK x y≠.exc z:=λz q=>by
 unfold bK at q
 repeat' split at q
 all_goals first|(cases q;done)|exact jF iP z q|exact jF aGj z q
theorem aGl(xs:List Vl):∀z,biD .len xs≠.exc z:=λz q=>by
 unfold biD at q;split at q
 . dsimp only[vQ] at q;split at q <;> first|(cases q;done)|exact jF iP z q
 cases q;cases q
theorem aDN(σ:Sg)(i:Nat):∀z,bB σ i≠.exc z:=λz q=>by unfold bB at q;split at q;unfold Sl.val at q;split at q <;> cases q;cases q
mutual
theorem jG:∀{c:E},iE c=true->∀z,ev P cl σ c≠.exc z
 | .c _,_=>iP|.v i,_=>aDN σ i|.op o a b,h=>by obtain⟨h1,h2⟩:=(bA _ _).mp h;exact fN (jG h1) λx=>fN (jG h2) λy=>aIC o x y|.idx a b,h=>by obtain⟨h1,h2⟩:=(bA _ _).mp h;exact fN (jG h1) λx=>fN (jG h2) λy=>aGk x y|.bi b es,h=>by
  obtain⟨h1,h2⟩:=(bA _ _).mp h;have h1:b=.len:=by simpa using h1
  subst h1;exact fN (calm_evs h2) aGl
theorem calm_evs:∀{cs:Es},calmEs cs=true->∀z,evs P cl σ cs≠.exc z
 | .z,_=>iP|.k a r,h=>by obtain⟨h1,h2⟩:=(bA _ _).mp h;exact fN (jG h1) λx=>fN (calm_evs h2) λy=>iP
end
theorem RE.monoE{α:Type}{x:R α}{p q:α->Prop}{w:D->Prop}(h:RE w x p)(f:∀a,x=.ok a->p a->q a):RE w x q:=by
 cases x with
 | ok a=>exact f a rfl h|exc e=>exact h|bad=>exact h
theorem aLh{a:E}{lo hi:Es}{ea:Expr}{el eh:Option Expr}{p2:Pos}(ha:PE X ea (WE X P n RT Y old σ a))(hl:PO X el (wO X P n RT Y old σ lo))(hh:PO X eh (wO X P n RT Y old σ hi))(hcm:(aHm lo||calmEs hi)=true) :
 PE X (.Subscript ea (.Slice el eh none p2) pos) (WE X P n RT Y old σ (.sli a lo hi)):=by
 refine(aCV (aIr (X:=X)) ha hl hh).imp λσV H Q t ⟨S,h⟩=>?_;have h:=RE.bind' (show RE _ (ev P (call P n) σ a >>= λx=>evs P (call P n) σ lo >>= λl=>evs P (call P n) σ hi >>= λh=>(match l,h with
  | [],[]=>eG x none none|[l],[]=>(match l.d with|.int l=>R.iff (aK l) (eG x (some l) none)|_=>.bad)
  | [],[h]=>(match h.d with|.int h=>R.iff (aK h) (eG x none (some h))|_=>.bad)
  | [l],[h]=>(match l.d,h.d with|.int l,.int h=>R.iff (aK l&&aK h) (eG x (some l) (some h))|_,_=>.bad)
  | _,_=>.bad)) _ from h)
 refine wE.one S h λx u H1 hx t1 S1 r1=>?_;have hx:=RE.bind' hx;have cm:∀{l:Vl} {r:List Vl},evs P (call P n) σ lo=.ok (l::r)->∀z,evs P (call P n) σ hi≠.exc z:=λ{l r} e=>by
  rcases(A9 _ _).mp hcm with h|h;cases lo with
  | z=>cases e|k _ _=>cases h
  exact calm_evs h
 refine⟨S1,(hx.at r1.1).monoE λl el hl=>?_⟩;have hl:=RE.bind' hl;have up:∀(L:Option Int) (H2:Hp),Tk X.K H2->aP H1 H2->(RE (wx X σV H) (evs P (call P n) σ hi) λh=>(h=[]/\RE (wx X σV H) (eG x L none) (Wn X RT Y old σ σV H Q))\/∃v i,h=[v]/\v.d=.int i/\RE (wx X σV H) (eG x L (some i)) (Wn X RT Y old σ σV H Q)) ->
  wO X P n RT Y old σ hi σV H2 λhv H3=>aCY X.K u L hv H3 (λv H'=>Tk X.K H'->Q v H')\/aCW X.K u L hv H3 (λv H'=>Tk X.K H'->Q v H')\/vZ X.K u L hv H3 (λv H'=>Tk X.K H'->Q v H')\/aDt u L hv H3 (λv H'=>Tk X.K H'->Q v H'):=by
  intro L H2 t2 s2 hh;refine⟨S1.grow s2 t2,(hh.at (r1.1.trans s2)).mono λhv hq=>?_⟩;have fin:∀(U:Option Int) (H3:Hp),Tk X.K H3->aP H2 H3->RE (wx X σV H) (eG x L U) (Wn X RT Y old σ σV H Q) ->
   aCY X.K u L U H3 (λv H'=>Tk X.K H'->Q v H')\/aCW X.K u L U H3 (λv H'=>Tk X.K H'->Q v H')\/vZ X.K u L U H3 (λv H'=>Tk X.K H'->Q v H')\/aDt u L U H3 (λv H'=>Tk X.K H'->Q v H'):=λU H3 t3 s3 hs=>
   aBU (S1.grow (s2.trans s3) t3) t3 ((r1.rv S).grow (s2.trans s3)) (hs.mono λv hv u H' t r=>hv u H' t (r.from (r1.1.trans (s2.trans s3))))
  rcases hq with⟨e,hs⟩|⟨v,i,e,hd,hs⟩
  exact .inl ⟨e,λH3 t3 s3=>fin none H3 t3 s3 hs⟩;exact .inr ⟨v,i,e,hd,λH3 t3 s3=>fin (some i) H3 t3 s3 hs⟩
 match l,el,hl with
 | [],_,hl=>
  refine .inl ⟨rfl,λH2 t2 s2=>up none H2 t2 s2 (hl.mono λh hh=>?_)⟩
  match h,hh with
  | [],hh=>exact .inl ⟨rfl,hh⟩|[h],hh=>have hh:RE _ (match h.d with|.int h=>R.iff (aK h) (eG x none (some h))|_=>.bad) _:=hh;split at hh;rename_i i hd;exact .inr ⟨h,i,rfl,hd,hh.iff.2⟩;exact hh.elim|_::_::_,hh=>exact hh.elim
 | [l],el,hl=>
  have hd:∃i,l.d=.int i:=by
   obtain⟨h,_,hh⟩:=hl.eqc (cm el)
   match h,hh with
   | [],hh=>have hh:RE _ (match l.d with|.int l=>R.iff (aK l) (eG x (some l) none)|_=>.bad) _:=hh;split at hh;rename_i i hd;exact⟨i,hd⟩;exact hh.elim|[h],hh=>have hh:RE _ (match l.d,h.d with|.int l,.int h=>R.iff (aK l&&aK h) (eG x (some l) (some h))|_,_=>.bad) _:=hh;split at hh;rename_i i j hd _;exact⟨i,hd⟩;exact hh.elim|_::_::_,hh=>exact hh.elim
  obtain⟨i,hd⟩:=hd;refine .inr ⟨l,i,rfl,hd,λH2 t2 s2=>up (some i) H2 t2 s2 (hl.mono λh hh=>?_)⟩
  match h,hh with
  | [],hh=>have hh:RE _ (match l.d with|.int l=>R.iff (aK l) (eG x (some l) none)|_=>.bad) _:=hh;rw[hd] at hh;exact .inl ⟨rfl,hh.iff.2⟩|[h],hh=>have hh:RE _ (match l.d,h.d with|.int l,.int h=>R.iff (aK l&&aK h) (eG x (some l) (some h))|_,_=>.bad) _:=hh;rw[hd] at hh;split at hh;rename_i i' j e1 e2;cases e1;exact .inr ⟨h,j,rfl,e2,hh.iff.2⟩;exact hh.elim|_::_::_,hh=>exact hh.elim
 | _::_::_,el,hl=>exact(by
     obtain⟨h,_,hh⟩:=hl.eqc (cm el)
     match h,hh with
     | [],hh=>exact hh.elim|[_],hh=>exact hh.elim|_::_::_,hh=>exact hh.elim)
end
end Hp
end
noncomputable section
namespace L2
open PySem PySem.Spec PyProof.Rows
set_option maxRecDepth 100000
instance:LawfulBEq Key where
 eq_of_beq:=λ{a b} h=>by
  cases a with
  | inl x=>cases b with|inl y=>exact congrArg Sum.inl (eq_of_beq (show(x==y)=true from h))|inr y=>cases h
  | inr x=>cases b with|inl y=>cases h|inr y=>exact congrArg Sum.inr (eq_of_beq (show(x==y)=true from h))
 rfl:=λ{a}=>by
  cases a with
  | inl x=>exact(Bu x:(x==x)=true)|inr x=>exact(Bu x:(x==x)=true)
section
variable {prog:Program} {w:World} {A:Around} {R:Result->Shared->Prop} {I:Addr} {fp wr:List Addr} {G:Array GenState->Array GenState->Prop} {n:Nat} {P:Nat->Value->Prop} {St:Nat->Shared->Prop}
end
section
variable {prog:Program} {w:World} {A:Around} {E:Value->Shared->Prop} {s:Shared}
end
end L2
end
noncomputable section
namespace Hp
open PySem PySem.Spec PyProof.Rows L2
section
variable {X:Cx} {P:Pg} {Γ:Ct} {n:Nat} {RT Y old:Addr->Prop} {σ:Sg} {pos:Pos} {K:Fg} {H:Hp}
theorem rO:∀{ds:List D} {xs:List Str} {ex:Addr->Prop} {vs:List V} {us:List Value},gP ds=some xs->Reps K H ex ds vs->bC vs us->StrsAre us xs
 | [],xs,ex,vs,us,h,r,rv=>by cases h;rw[show vs=[] from r] at rv;cases rv;exact .nil|d::ds,xs,ex,vs,us,h,r,rv=>by
  obtain⟨v,vr,e,h1,h2⟩:=r;subst e;cases rv with
  | cons r1 r2=>
   cases d with
   | str x=>
    unfold gP at h;cases q:gP ds with
    | none=>rw[q] at h;cases h|some ys=>rw[q] at h;cases h;rw[show v=.str x from h1] at r1;obtain⟨t,rfl⟩:=r1;exact .cons _ _ (rO q h2 r2)
   | _=>cases h
theorem aID{ap cp:Pos}(ho:PE X eo (WE X P n RT Y old σ o))(ha:PA X [e] (WA X P n RT Y old σ cs))(hn:aIl eo=true)(hl:(ap.endLine==cp.line)=true)(hp:aV e=true) :
 PE X (.Call (.Attribute eo "join" ap) [e] [] cp) (WE X P n RT Y old σ (.mth .join o cs)):=by
 have rule:MtR X "str.join" (λx vs H Q=>∃a b ds ex xs ys,x=.str a/\vs=[.ref b]/\SqL X.K H b xs/\Reps X.K H ex ds xs/\gP ds=some ys/\(ys.map (·.length)).sum+ys.length*a.length<=lim/\Q (.str (PySem.Str.join a ys)) H):=by intro pins s σV H x vs v us Q I rx rv h;obtain⟨a,b,ds,ex,xs,ys,rfl,rfl,hS,r,hs,hb,q⟩:=h;obtain⟨t,rfl⟩:=rx;obtain⟨u,rfl,ru⟩:=rv.one;cases ru;obtain⟨its,r2,p,_⟩:=I.list hS;refine join_list p.isList (ys:=ys) (by simpa using rO hs r r2) (A1 hb (by decide)) λt' k=>?_;refine⟨.str (PySem.Str.join a ys),H,I.tok k,⟨t',?_⟩,q⟩;rw[<-PySem.StrLaws.glued_eq_join];rfl
 refine(aAv PySem.F.plainAttrs_str PySem.F.slot_str_join PySem.F.type_str_join rule ho ha (by cases eo <;> first|rfl|cases hn) (by rw[aC hp];rfl) hl (aC hp) rfl).imp λσV H Q t ⟨S,h⟩=>?_;have h:=RE.bind' (show RE _ (ev P (call P n) σ o >>= λx=>(evs P (call P n) σ cs).calm >>= λys=>mtD .join x ys) _ from h);refine wE.one S h λx u H1 hx t1 S1 r1=>?_;obtain⟨ys,ey,hy⟩:=RE.calmEq (RE.bind' hx);cases d1:x.d with
 | str a=>
  cases ys with
  | nil=>unfold mtD at hy;rw[d1] at hy;exact False.elim hy|cons y ys=>cases ys with
   | cons _ _=>unfold mtD at hy;rw[d1] at hy;exact False.elim hy|nil=>
    unfold mtD at hy;rw[d1] at hy;cases d2:y.d with
    | lst ds=>
     simp only[d2] at hy;cases hs:gP ds with
     | none=>simp only[hs] at hy;exact False.elim hy|some xs=>simp only[hs] at hy;obtain⟨hb,hy⟩:=hy.iff;have rv:=(r1.rv S).str d1;subst rv;refine⟨rfl,S1,?_⟩;rw[ey];intro us H2 t2 s2 r2;obtain⟨u2,r',e1,ru,hr⟩:=r2;rw[show r'=[] from hr] at e1;subst e1;obtain⟨b,zs,rfl,q,_,rr⟩:=ru.lst d2;exact⟨a,b,ds,_,zs,xs,rfl,rfl,q,rr,hs,Au hb,λt'=>(show Wn X RT Y old σ σV H Q (Vl.cl (.str (PySem.Str.join a xs))) from hy) _ _ t' (Ro.cl (r1.1.trans s2) rfl)⟩
    | _=>simp only[d2] at hy;exact False.elim hy
 | _=>unfold mtD at hy;rw[d1] at hy;exact False.elim hy
theorem aDO:∀c:Fin 128,Unicode.upperOf c.val=[upC c.val]:=by decide +kernel
theorem wP{α β:Type}(f:α->β):∀l:List α,l.mapIdx (λ_ c=>f c)=l.map f
 | []=>rfl|a::l=>by rw[List.mapIdx_cons,mC,wP f l]
theorem wQ{f:Nat->List Nat}{g:Nat->Nat}:∀{l:List Nat},(∀c∈l,f c=[g c])->(l.map f).flatten=l.map g
 | [],_=>rfl|a::l,h=>by rw[mC,Ch,wQ λc hc=>h c (Ak _ hc),h a As];rfl
theorem mJ{x:Str}(h:x.cps.all (·<128)=true):(PySem.placed x λ_ c=>Unicode.upperOf c)=x.cps.map upC:=by
 have ha:∀c∈x.cps.toList,Unicode.upperOf c=[upC c]:=λc hc=>by rw[<-Array.all_toList,Az] at h;have:=Au (h c hc);exact aDO ⟨c,this⟩
 apply Array.toList_inj.mp;unfold placed;rw[Array.toList_flatten,Array.toList_map,Array.toList_mapIdx,wP (λc=>(Unicode.upperOf c).toArray),Bj];exact wQ ha
theorem aGm{ap cp:Pos}(ho:PE X eo (WE X P n RT Y old σ o))(hn:aIl eo=true)(hl:(ap.endLine==cp.line)=true) :
 PE X (.Call (.Attribute eo "upper" ap) [] [] cp) (WE X P n RT Y old σ (.mth .upper o .z)):=by
 have rule:MtR X "str.upper" (λx vs H Q=>∃a,x=.str a/\vs=[]/\a.cps.all (·<128)=true/\a.length<=lim/\Q (.str ⟨a.cps.map upC⟩) H):=by
  intro pins s σV H x vs v us Q I rx rv h;obtain⟨a,rfl,rfl,hb,hl,q⟩:=h;obtain⟨t,rfl⟩:=rx;have e:=rv.zero;subst e;have hz:PySem.Builtin.Str.tooLong (PySem.placed a λ_ c=>Unicode.upperOf c).size=false:=by rw[mJ hb,Array.size_map];unfold PySem.Builtin.Str.tooLong;refine An ?_;have:a.cps.size<=lim:=hl;have:=Bz;unfold lim at *;omega
  refine call_gives PySem.F.slot_str_upper rfl PySem.F.entry_str_upper (PySem.F.args_str_upper_1 _) (gives_str_upper a t hz) ?_;refine⟨?_,?_⟩;show(PySem.placed a λ_ c=>Unicode.upperOf c).size<=sizeLine;rw[mJ hb,Array.size_map];have:a.cps.size<=lim:=hl;have:=Bz;unfold lim at *;omega;show EP X pins σV Q (.str ⟨PySem.placed a λ_ c=>Unicode.upperOf c⟩ s.toks) { s with toks:=s.toks+1 };exact⟨.str ⟨a.cps.map upC⟩,H,I.tok _,⟨_,by rw[mJ hb]⟩,q⟩
 refine(aIi PySem.F.plainAttrs_str PySem.F.slot_str_upper PySem.F.type_str_upper rule ho (by cases eo <;> first|rfl|cases hn) hl).imp λσV H Q t ⟨S,h⟩=>?_;have h:=RE.bind' (show RE _ (ev P (call P n) σ o >>= λx=>mtD .upper x []) _ from h);refine wE.one S h λx u H1 hx t1 S1 r1=>?_;unfold mtD at hx;cases d1:x.d with
 | str a=>rw[d1] at hx;obtain⟨hb,hx⟩:=hx.iff;have rv:=(r1.rv S).str d1;subst rv;simp only[bA,Am] at hb;exact⟨rfl,a,rfl,rfl,hb.1,hb.2,λt'=>(show Wn X RT Y old σ σV H Q (Vl.cl (.str ⟨a.cps.map upC⟩)) from hx) _ _ t' (Ro.cl r1.1 rfl)⟩|_=>rw[d1] at hx;exact False.elim hx
end
end Hp
end
noncomputable section
namespace L2
open PySem PySem.Spec PyProof.Rows
section
variable {X:Cx} {pins:List (Addr×Obj)} {σ:St} {H:Hp} {s:Shared} {h':Heap}
theorem Inv.turnsNew{its:List Addr}{T:Addr}{o:HO}{t':Nat}(I:Inv X pins σ H s)(f:∀b∈its,kT X pins H b)(k:∀b o,b∉its->s.heap.get? b=some o->h'.get? b=some o)(there:∀b∈its,∃o,h'.get? b=some o)
 (hT:s.heap.objs.size<=T) (new:cV X.prog X.w (upd H T o) h' T o):Inv X pins σ (upd H T o) { s with heap:=h',toks:=t' }:=by
 have nit:∀b u,H b=some u->b∉its:=λb u e z=>by rw[(f b z).1] at e;cases e
 have hn:H T=none:=I.hok.fresh hT;have neT:∀b o,s.heap.get? b=some o->b≠T:=λb o e=>A0 (Ap (Ag e) hT);refine I.step (g':=s.gens) (d':=s.drawn) (ch:=its) (λb hb=>?_) (λb o _ _ hc e _=>k b o hc e) (λb o _ _ hc e _=>⟨o.slots,k b o hc e⟩) (λb o _ e n=>by rw[aF (neT b o e)];exact n)
  (λb o hc e=>⟨o,k b o hc e⟩) (λb xs e=>by rw[aF (bG e hn)];exact e) (λb o u e=>by rw[aF (bG e hn)];exact e) (λb ps e=>⟨#[],by rw[aF (bG e hn),e];simp⟩) (λm hm=>?_) (λb u e=>?_) I.bare
 obtain⟨_,f1,f2,f3,f4,f5⟩:=f b hb;exact⟨f3,f1,f4,f5⟩;obtain⟨o,es,ep,ho,r⟩:=hm;exact⟨o,es,ep,k _ o (λz=>(f _ z).2.1 rfl) ho,r⟩;by_cases hb:b=T;subst hb;rw[aS] at e;cases e;exact new;rw[aF hb] at e;refine(I.hok b u e).stay (λc v hc q=>k c v ?_ q) (λc q=>by rw[aF (bG q hn)];exact q) λc xs q=>by rw[aF (bG q hn)];exact q
 rcases hc with z|z;rw[z];exact nit b u e;exact nit c _ z
theorem Inv.turns{its:List Addr}{t':Nat}(I:Inv X pins σ H s)(f:∀b∈its,kT X pins H b)(k:∀b o,b∉its->s.heap.get? b=some o->h'.get? b=some o):Inv X pins σ H { s with heap:=h',toks:=t' }:=by
 have nit:∀b u,H b=some u->b∉its:=λb u e z=>by rw[(f b z).1] at e;cases e
 refine I.step (g':=s.gens) (d':=s.drawn) (ch:=its) (λb hb=>?_) (λb o _ _ hc e _=>k b o hc e) (λb o _ _ hc e _=>⟨o.slots,k b o hc e⟩) (λb o _ e n=>n)
  (λb o hc e=>⟨o,k b o hc e⟩) (λb xs e=>e) (λb o u e=>e) (λb ps e=>⟨#[],by rw[e];simp⟩) (λm hm=>?_) (λb u e=>?_) I.bare
 obtain⟨_,f1,f2,f3,f4,f5⟩:=f b hb;exact⟨f3,f1,f4,f5⟩;obtain⟨o,es,ep,ho,r⟩:=hm;exact⟨o,es,ep,k _ o (λz=>(f _ z).2.1 rfl) ho,r⟩;refine(I.hok b u e).stay (λc v hc q=>k c v ?_ q) (λc q=>q) λc xs q=>q;rcases hc with z|z;rw[z];exact nit b u e;exact nit c _ z
theorem Inv.newK(I:Inv X pins σ H s):X.K.lookup s.heap.objs.size=none:=by
 cases q:X.K.lookup s.heap.objs.size with
 | none=>rfl|some o=>exact absurd (Ag (I.bk _ o (I.ok.mod.kin _ o q))) (A8 _)
def Sq(k:Bool)(K:PySem.W.Frag)(H:Hp)(a:Addr)(xs:List V):Prop:=match k with|true=>SqL K H a xs|false=>SqT K H a xs
def eJ(k:Bool)(h:Heap)(a:Addr)(its:Array Value):Prop:=match k with|true=>h.IsList a its|false=>h.IsTuple a its
def dE(k:Bool)(h:Heap)(it a:Addr)(i:Nat):Prop:=match k with|true=>h.IsListIter it a i|false=>h.IsTupleIter it a i
theorem eJ.at{h:Heap}(q:eJ k h a its)(e:∀o,h.get? a=some o->h'.get? a=some o):eJ k h' a its:=by
 cases k with
 | true=>exact Heap.IsList.at q e|false=>exact Heap.IsTuple.at q e
theorem dE.at{h:Heap}(q:dE k h it a i)(e:∀o,h.get? it=some o->h'.get? it=some o):dE k h' it a i:=by
 cases k with
 | true=>exact Heap.IsListIter.at q e|false=>exact Heap.IsTupleIter.at q e
theorem dE.obj{h:Heap}(q:dE k h it a i):∃o,h.get? it=some o/\∀v,o.data≠.cell v:=by
 cases k with
 | true=>obtain⟨o,e,c,d⟩:=q;exact⟨o,e,λv z=>by rw[d] at z;cases z⟩|false=>obtain⟨o,e,c,d⟩:=q;exact⟨o,e,λv z=>by rw[d] at z;cases z⟩
theorem Inv.sq{xs:List V}(I:Inv X pins σ H s)(h:Sq k X.K H a xs):∃its:List Value,bC xs its/\eJ k s.heap a its.toArray/\xs.length<=sizeLine:=by
 cases k with
 | true=>obtain⟨its,r,p,z⟩:=I.list h;exact⟨its,r,p.isList,z⟩|false=>obtain⟨its,r,p,z⟩:=I.tuple h;exact⟨its,r,p,z⟩
theorem Inv.sq_inj(I:Inv X pins σ H s)(h:Sq k X.K H a xs)(h':Sq k X.K H a ys):xs=ys:=by
 cases k with
 | true=>exact I.list_inj h h'|false=>exact I.tuple_inj h h'
theorem Sq.there{K:PySem.W.Frag}(h:Sq k K H a xs):H a≠none\/∃o,K.lookup a=some o:=by
 cases k with
 | true=>
  rcases h with(h|⟨o,h⟩)|⟨o,its,n,q,_⟩
  exact .inl (by rw[h];simp);exact .inl (by rw[h];simp);exact .inr ⟨_,q⟩
 | false=>
  rcases h with(h|⟨o,h⟩)|⟨o,its,n,q,_⟩
  exact .inl (by rw[h];simp);exact .inl (by rw[h];simp);exact .inr ⟨_,q⟩
theorem Inv.sqNe(I:Inv X pins σ H s)(h:Sq k X.K H a xs)(f:kT X pins H b):a≠b:=by
 intro e;subst e;rcases h.there with z|⟨o,z⟩
 exact z f.1;have hb:=I.ok.mod.kin a o z;rcases f.2.2.2.1 with q|q;exact I.ok.noex a o hb q;exact absurd (Ap (Ag hb) (A1 I.ok.bsz q)) (A8 _)
end
section
variable {prog:Program} {w:World} {A:Around} {E:Value->Shared->Prop} {s:Shared}
theorem lF{items}{Q:Value->Shared->Prop}(hit:s.heap.IsTupleIter it l i)
 (hl:s.heap.IsTuple l items) (hx:items[i]? = some x)
 (hQ:∀h',h'.IsTupleIter it l (i+1)->Heap.SameBut it s.heap h'->Q x { s with heap:=h' }) :
 wpAny (model prog w) A (Builtin.SmallTypes.nextOf (.ref it)) Q E s:=by
 obtain⟨o,ho,hc,hd⟩:=id hit;obtain⟨ol,hol,_,nl,hdl⟩:=hl;unfold Builtin.SmallTypes.nextOf;refine Aa (Bt (name:=Str.ofString "__next__") hit.typeIs C3
  (Cp C3 hit.typeIs F.entry_tuple_iterator_next ?_ (F.args_tuple_iterator_next_1 _)))
 show wpAny _ _ (field (.ref it) 0 >>= _) _ _ s;refine Aa (A6 ho hd (x:=.ref l) rfl ?_);show wpAny _ _ (if (Value.ref l==Value.none)=true then _ else _) _ _ s;rw[if_neg (show ¬ ((Value.ref l==Value.none)=true) from bN)];show wpAny _ _ (field (.ref it) 1 >>= _) _ _ s;refine Aa (A6 ho hd (x:=.int i 0) rfl ?_);show wpAny _ _ (seqItems? (.ref l) >>= _) _ _ s;refine Aa (C4 hol hdl ?_);simp only[D7,hx];refine Aa (C0 ho hd (by simp) (Al ⟨x,rfl,Al (hQ _ ?_ (Heap.SameBut.update ..))⟩));exact⟨_,Br _ ho (B5 (Bh hd _)),(Obj.cls_mapFields ..).trans hc,by
  rw[Bh hd];simp[rawInt]⟩
theorem mK{items}{Q:Value->Shared->Prop}(hh:A.handled=none)
 (hit:s.heap.IsTupleIter it l i) (hl:s.heap.IsTuple l items) (hx:items[i]? = none)
 (hE:∀h' e,Heap.ExtBut it s.heap h'->(∃o,h'.get? e=some o/\o.cls=.type "StopIteration")->E (.ref e) { s with heap:=h' }) :
 wpAny (model prog w) A (Builtin.SmallTypes.nextOf (.ref it)) Q E s:=by
 obtain⟨o,ho,hc,hd⟩:=id hit;obtain⟨ol,hol,_,nl,hdl⟩:=hl;unfold Builtin.SmallTypes.nextOf;refine Aa (Bt (name:=Str.ofString "__next__") hit.typeIs C3
  (Cp C3 hit.typeIs F.entry_tuple_iterator_next ?_ (F.args_tuple_iterator_next_1 _)))
 show wpAny _ _ (field (.ref it) 0 >>= _) _ _ s;refine Aa (A6 ho hd (x:=.ref l) rfl ?_);show wpAny _ _ (if (Value.ref l==Value.none)=true then _ else _) _ _ s;rw[if_neg (show ¬ ((Value.ref l==Value.none)=true) from bN)];show wpAny _ _ (field (.ref it) 1 >>= _) _ _ s;refine Aa (A6 ho hd (x:=.int i 0) rfl ?_);show wpAny _ _ (seqItems? (.ref l) >>= _) _ _ s;refine Aa (C4 hol hdl ?_);simp only[D7,hx];refine Aa (wpAny_rule (Aa (C0 ho hd (by simp) ?_)));show wpAny _ _ (newExc (.type "StopIteration") [] >>= _) _ _ _;refine Aa ?_;simp only[newExc,newTuple];refine Aa (B4 ?_ (by size_fits));refine Aa (m:=firstArgMember _ _) (wpAny_of_eq (a:=Value.none) (by first|rfl|(simp only[firstArgMember];rfl)) ?_);refine B4 ?_ (by size_fits);simp only[raiseNew];refine Aa (wpAny_handled ?_)
 first|rw[show A.in1.handled=none from hh]|rw[hh]
 refine Aa (Al (wpAny_throw ?_));exact hE _ _ (((Heap.SameBut.update ..).extBut.push _).push _) ⟨_,Ao _ rfl,rfl⟩
theorem gA{items:Array Value}{Q:Value->Shared->Prop}(hit:dE k s.heap it l i)(hl:eJ k s.heap l items)(hx:items[i]? = some x)
 (hQ:∀h',dE k h' it l (i+1)->Heap.SameBut it s.heap h'->Q x { s with heap:=h' }):wpAny (model prog w) A (Builtin.SmallTypes.nextOf (.ref it)) Q E s:=by
 cases k with
 | true=>exact wpAny_nextOf_list_item hit hl hx hQ|false=>exact lF hit hl hx hQ
theorem kL{items:Array Value}{Q:Value->Shared->Prop}(hh:A.handled=none)(hit:dE k s.heap it l i)(hl:eJ k s.heap l items)(hx:items[i]? = none)
 (hE:∀h' e,Heap.ExtBut it s.heap h'->(∃o,h'.get? e=some o/\o.cls=.type "StopIteration")->E (.ref e) { s with heap:=h' }):wpAny (model prog w) A (Builtin.SmallTypes.nextOf (.ref it)) Q E s:=by
 cases k with
 | true=>exact wpAny_nextOf_list_end hh hit hl hx hE|false=>exact mK hh hit hl hx hE
theorem aCc{ka kb:Bool}{z TI TO i1 i2 l1 l2:Addr}{k1 k2:Nat}{xs ys:Array Value}{x y a b:Value}{Q:Value->Shared->Prop}(D:ZipApart z TI TO i1 i2 l1 l2)
 (hz:IsZip s.heap z TI TO .none) (hTI:IsPair s.heap TI (.ref i1) (.ref i2)) (hTO:IsPair s.heap TO a b)
 (h1:dE ka s.heap i1 l1 k1) (h2:dE kb s.heap i2 l2 k2) (hl1:eJ ka s.heap l1 xs) (hl2:eJ kb s.heap l2 ys) (hx:xs[k1]? = some x) (hy:ys[k2]? = some y)
 (hQ:∀h',IsZip h' z TI TO (rawInt s.heap.objs.size)->IsPair h' TO x y->dE ka h' i1 l1 (k1+1)->dE kb h' i2 l2 (k2+1)->IsPair h' s.heap.objs.size x y->h'.objs.size=s.heap.objs.size+1 ->
  (∀c o,c≠z->c≠TO->c≠i1->c≠i2->s.heap.get? c=some o->h'.get? c=some o)->Q (.ref s.heap.objs.size) { s with heap:=h' }) :
 wpAny (model prog w) A (Builtin.«zip.__next__» ⟨[.ref z],[]⟩) (λfin s'=>∃v,fin=.done (.ret v)/\Q v s') E s:=by
 show wpAny _ _ (field (.ref z) 2 >>= _) _ _ _;refine Aa (A6 hz rfl (x:=.bool false) rfl ?_);show wpAny _ _ (field (.ref z) 3 >>= _) _ _ _;refine Aa (A6 hz rfl (x:=.ref TI) rfl ?_);refine Aa (C4 hTI rfl ?_);show wpAny _ _ (Builtin.SmallTypes.ownedTupleIsFree (.ref z) >>= _) _ _ _;refine Aa ?_;unfold Builtin.SmallTypes.ownedTupleIsFree;refine Aa (A6 hz rfl (x:=.none) rfl (Al ?_));simp only[if_true];refine Aa (wpAny_rule ?_);refine Aa (A6 hz rfl (x:=.ref TO) rfl ?_);refine Aa (Bp hz (by simp) λh₁ hz₁ hs₁=>?_);replace hz₁:IsZip h₁ z TI TO .ellipsis:=hz₁;refine Aa ?_;simp only[List.zipIdx_cons,List.zipIdx_nil,List.forIn_cons,List.forIn_nil];refine Aa (Aa (wpAny_onRaise ?_));show wpAny _ _ (Builtin.SmallTypes.nextOf (.ref i1) >>= _) _ _ _;refine Aa (gA (h1.at λo e=>hs₁.extBut _ _ D.i1z e) (hl1.at λo e=>hs₁.extBut _ _ D.l1z e) hx λh₂ h1₂ hs₂=>Al ?_);have hTO₂:IsPair h₂ TO a b:=hs₂.extBut _ _ D.TOi1 (hs₁.extBut _ _ D.TOz hTO);refine Aa (C4 hTO₂ rfl ?_);refine Aa (wpAny_updateSeq_pair hTO₂ λh₃ hTO₃ hs₃=>?_);replace hTO₃:IsPair h₃ TO x b:=hTO₃;refine Aa (wpAny_letGo (Al ?_));refine Aa (Aa (wpAny_onRaise ?_));show wpAny _ _ (Builtin.SmallTypes.nextOf (.ref i2) >>= _) _ _ _;refine Aa (gA (h2.at λo e=>hs₃.extBut _ _ D.TOi2.symm (hs₂.extBut _ _ D.i12.symm (hs₁.extBut _ _ D.i2z e)))
  (hl2.at λo e=>hs₃.extBut _ _ D.l2TO (hs₂.extBut _ _ D.l2i1 (hs₁.extBut _ _ D.l2z e))) hy λh₄ h2₄ hs₄=>Al ?_)
 have hTO₄:IsPair h₄ TO x b:=hs₄.extBut _ _ D.TOi2 hTO₃;refine Aa (C4 hTO₄ rfl ?_);refine Aa (wpAny_updateSeq_pair hTO₄ λh₅ hTO₅ hs₅=>?_);replace hTO₅:IsPair h₅ TO x y:=hTO₅;refine Aa (wpAny_letGo (Al (Al ?_)));refine Aa (C4 hTO₅ rfl ?_);refine Aa (wpAny_newTuple ?_);have hsz:h₅.objs.size=s.heap.objs.size:=by rw[hs₅.1,hs₄.1,hs₃.1,hs₂.1,hs₁.1]
 have hz₅:IsZip h₅ z TI TO .ellipsis:=hs₅.extBut _ _ D.TOz.symm (hs₄.extBut _ _ D.i2z.symm (hs₃.extBut _ _ D.TOz.symm (hs₂.extBut _ _ D.i1z.symm hz₁)));have hk₅:∀c o,c≠z->c≠TO->c≠i1->c≠i2->s.heap.get? c=some o->h₅.get? c=some o:=λc o c1 c2 c3 c4 e=>hs₅.extBut _ _ c2 (hs₄.extBut _ _ c4 (hs₃.extBut _ _ c2 (hs₂.extBut _ _ c3 (hs₁.extBut _ _ c1 e))));have h1₅:dE ka h₅ i1 l1 (k1+1):=h1₂.at λo e=>hs₅.extBut _ _ D.TOi1.symm (hs₄.extBut _ _ D.i12 (hs₃.extBut _ _ D.TOi1.symm e));have h2₅:dE kb h₅ i2 l2 (k2+1):=h2₄.at λo e=>hs₅.extBut _ _ D.TOi2.symm e;have hzlt:z<h₅.objs.size:=Ag hz₅;have hTOlt:TO<h₅.objs.size:=Ag hTO₅;show wpAny _ _ (Builtin.SmallTypes.ownedTupleHandOut (.ref z) (.ref h₅.objs.size) >>= _) _ _ _;refine Aa ?_;unfold Builtin.SmallTypes.ownedTupleHandOut;have hz₆:IsZip (h₅.push { cls:=.type "tuple",data:=.seq #[x,y] }) z TI TO .ellipsis:=Ab _ hz₅;refine Aa (Bp hz₆ (by simp) λh₇ hz₇ hs₇=>?_);replace hz₇:IsZip h₇ z TI TO (rawInt h₅.objs.size):=hz₇;refine Bp hz₇ (by simp) λh₈ hz₈ hs₈=>?_;replace hz₈:IsZip h₈ z TI TO (rawInt h₅.objs.size):=hz₈;have up:∀c o,c≠z->h₅.get? c=some o->h₈.get? c=some o:=λc o c1 e=>hs₈.extBut _ _ c1 (hs₇.extBut _ _ c1 (Ab _ e));have hT₈:IsPair h₈ h₅.objs.size x y:=hs₈.extBut _ _ (B3 hzlt) (hs₇.extBut _ _ (B3 hzlt) (Ao _ rfl));have hz8:h₈.objs.size=h₅.objs.size+1:=by rw[hs₈.1,hs₇.1,B6]
 rw[hsz] at hz₈ hT₈ hz8;refine Al ⟨_,rfl,?_⟩;show Q (.ref h₅.objs.size) _;rw[hsz];exact hQ h₈ hz₈ (up _ _ D.TOz hTO₅) (h1₅.at λo e=>up _ o D.i1z e) (h2₅.at λo e=>up _ o D.i2z e) hT₈ hz8 λc o c1 c2 c3 c4 e=>up c o c1 (hk₅ c o c1 c2 c3 c4 e)
theorem aDP{ka kb:Bool}{z TI TO i1 i2 l1 l2:Addr}{k1 k2:Nat}{xs ys:Array Value}{a b:Value}{Q:Fin->Shared->Prop}(hh:A.handled=none)(D:ZipApart z TI TO i1 i2 l1 l2)
 (hz:IsZip s.heap z TI TO .none) (hTI:IsPair s.heap TI (.ref i1) (.ref i2)) (hTO:IsPair s.heap TO a b)
 (h1:dE ka s.heap i1 l1 k1) (h2:dE kb s.heap i2 l2 k2) (hl1:eJ ka s.heap l1 xs) (hl2:eJ kb s.heap l2 ys) (hend:xs[k1]? = none\/ys[k2]? = none)
 (hE:∀h' e,(∀c o,c≠z->c≠TO->c≠i1->c≠i2->s.heap.get? c=some o->h'.get? c=some o)->(∃o,h'.get? e=some o/\o.cls=.type "StopIteration")->E (.ref e) { s with heap:=h' }) :
 wpAny (model prog w) A (Builtin.«zip.__next__» ⟨[.ref z],[]⟩) Q E s:=by
 show wpAny _ _ (field (.ref z) 2 >>= _) _ _ _;refine Aa (A6 hz rfl (x:=.bool false) rfl ?_);show wpAny _ _ (field (.ref z) 3 >>= _) _ _ _;refine Aa (A6 hz rfl (x:=.ref TI) rfl ?_);refine Aa (C4 hTI rfl ?_);show wpAny _ _ (Builtin.SmallTypes.ownedTupleIsFree (.ref z) >>= _) _ _ _;refine Aa ?_;unfold Builtin.SmallTypes.ownedTupleIsFree;refine Aa (A6 hz rfl (x:=.none) rfl (Al ?_));simp only[if_true];refine Aa (wpAny_rule ?_);refine Aa (A6 hz rfl (x:=.ref TO) rfl ?_);refine Aa (Bp hz (by simp) λh₁ hz₁ hs₁=>?_);replace hz₁:IsZip h₁ z TI TO .ellipsis:=hz₁;refine Aa ?_;simp only[List.zipIdx_cons,List.zipIdx_nil,List.forIn_cons,List.forIn_nil];refine Aa (Aa (wpAny_onRaise ?_));show wpAny _ _ (Builtin.SmallTypes.nextOf (.ref i1) >>= _) _ _ _;cases hx:xs[k1]? with
 | none=>
  refine Aa (kL hh (h1.at λo e=>hs₁.extBut _ _ D.i1z e) (hl1.at λo e=>hs₁.extBut _ _ D.l1z e) hx λh₂ e hs₂ he=>?_);obtain⟨oe,hoe,hce⟩:=he;have hz₂:IsZip h₂ z TI TO .ellipsis:=hs₂ _ _ D.i1z.symm hz₁;have hez:e≠z:=λx=>by subst x;rw[hz₂] at hoe;cases hoe;simp at hce
  refine Bp hz₂ (by simp) λh₃ _ hs₃=>hE h₃ e (λc o c1 _ c3 _ x=>hs₃.extBut _ _ c1 (hs₂ _ _ c3 (hs₁.extBut _ _ c1 x))) ⟨oe,hs₃.extBut _ _ hez hoe,hce⟩
 | some x=>
  have hy:ys[k2]? = none:=by rcases hend with h|h;rw[hx] at h;cases h;exact h
  refine Aa (gA (h1.at λo e=>hs₁.extBut _ _ D.i1z e) (hl1.at λo e=>hs₁.extBut _ _ D.l1z e) hx λh₂ h1₂ hs₂=>Al ?_);have hTO₂:IsPair h₂ TO a b:=hs₂.extBut _ _ D.TOi1 (hs₁.extBut _ _ D.TOz hTO);refine Aa (C4 hTO₂ rfl ?_);refine Aa (wpAny_updateSeq_pair hTO₂ λh₃ hTO₃ hs₃=>?_);refine Aa (wpAny_letGo (Al ?_));refine Aa (Aa (wpAny_onRaise ?_));show wpAny _ _ (Builtin.SmallTypes.nextOf (.ref i2) >>= _) _ _ _;refine Aa (kL hh (h2.at λo e=>hs₃.extBut _ _ D.TOi2.symm (hs₂.extBut _ _ D.i12.symm (hs₁.extBut _ _ D.i2z e)))
   (hl2.at λo e=>hs₃.extBut _ _ D.l2TO (hs₂.extBut _ _ D.l2i1 (hs₁.extBut _ _ D.l2z e))) hy λh₄ e hs₄ he=>?_)
  obtain⟨oe,hoe,hce⟩:=he;have hz₄:IsZip h₄ z TI TO .ellipsis:=hs₄ _ _ D.i2z.symm (hs₃.extBut _ _ D.TOz.symm (hs₂.extBut _ _ D.i1z.symm hz₁));have hez:e≠z:=λx=>by subst x;rw[hz₄] at hoe;cases hoe;simp at hce
  refine Bp hz₄ (by simp) λh₅ _ hs₅=>hE h₅ e (λc o c1 c2 c3 c4 x=>hs₅.extBut _ _ c1 (hs₄ _ _ c4 (hs₃.extBut _ _ c2 (hs₂.extBut _ _ c3 (hs₁.extBut _ _ c1 x))))) ⟨oe,hs₅.extBut _ _ hez hoe,hce⟩
theorem nO{ka kb:Bool}{z TI TO i1 i2 l1 l2:Addr}{k1 k2:Nat}{xs ys:Array Value}{x y a b:Value}{Q:Option Value->Shared->Prop}(D:ZipApart z TI TO i1 i2 l1 l2)
 (hz:IsZip s.heap z TI TO .none) (hTI:IsPair s.heap TI (.ref i1) (.ref i2)) (hTO:IsPair s.heap TO a b)
 (h1:dE ka s.heap i1 l1 k1) (h2:dE kb s.heap i2 l2 k2) (hl1:eJ ka s.heap l1 xs) (hl2:eJ kb s.heap l2 ys) (hx:xs[k1]? = some x) (hy:ys[k2]? = some y)
 (hQ:∀h',IsZip h' z TI TO (rawInt s.heap.objs.size)->IsPair h' TO x y->dE ka h' i1 l1 (k1+1)->dE kb h' i2 l2 (k2+1)->IsPair h' s.heap.objs.size x y->h'.objs.size=s.heap.objs.size+1 ->
  (∀c o,c≠z->c≠TO->c≠i1->c≠i2->s.heap.get? c=some o->h'.get? c=some o)->Q (some (.ref s.heap.objs.size)) { s with heap:=h' }) :
 wpAny (model prog w) A (pyNext (.ref z)) Q E s:=by
 have hT:s.TypeIs (.ref z) "zip" := ⟨_,hz,rfl⟩
 unfold pyNext;exact Aa (wpAny_attempt (Bt (name:=Str.ofString "__next__") hT F.slot_zip_next
  (Cp F.slot_zip_next hT F.entry_zip_next
   (aCc D hz hTI hTO h1 h2 hl1 hl2 hx hy λh' a1 a2 a3 a4 a5 a6 a7=>Al (hQ h' a1 a2 a3 a4 a5 a6 a7)) (F.args_zip_next_1 _))))
theorem oY{ka kb:Bool}{z TI TO i1 i2 l1 l2:Addr}{k1 k2:Nat}{xs ys:Array Value}{a b:Value}{Q:Option Value->Shared->Prop}(hh:A.handled=none)(D:ZipApart z TI TO i1 i2 l1 l2)
 (hz:IsZip s.heap z TI TO .none) (hTI:IsPair s.heap TI (.ref i1) (.ref i2)) (hTO:IsPair s.heap TO a b)
 (h1:dE ka s.heap i1 l1 k1) (h2:dE kb s.heap i2 l2 k2) (hl1:eJ ka s.heap l1 xs) (hl2:eJ kb s.heap l2 ys) (hend:xs[k1]? = none\/ys[k2]? = none)
 (hQ:∀h',(∀c o,c≠z->c≠TO->c≠i1->c≠i2->s.heap.get? c=some o->h'.get? c=some o)->Q none { s with heap:=h' }):wpAny (model prog w) A (pyNext (.ref z)) Q E s:=by
 have hT:s.TypeIs (.ref z) "zip" := ⟨_,hz,rfl⟩
 unfold pyNext;refine Aa (wpAny_attempt (Bt (name:=Str.ofString "__next__") hT F.slot_zip_next
  (Cp F.slot_zip_next hT F.entry_zip_next (aDP hh D hz hTI hTO h1 h2 hl1 hl2 hend λh' e hk he=>?_) (F.args_zip_next_1 _))))
 obtain⟨o,ho,hc⟩:=he;refine Aa (wpAny_isInstance (T:= "StopIteration") (b:=true) ⟨o,ho,hc⟩ isSubtype_stop ?_);exact Al (hQ _ hk)
end
noncomputable def iG(k:Bool)(l:Addr):Obj:=match k with
 | true=>{ cls:=.type "list_iterator",data:=.fields #[.ref l,.int 0 0] }
 | false=>{ cls:=.type "tuple_iterator",data:=.fields #[.ref l,.int 0 0] }
abbrev zH1(k:Bool)(h:Heap)(l1:Addr):Heap:=h.push (iG k l1)
abbrev zH2(ka kb:Bool)(h:Heap)(l1 l2:Addr):Heap:=(zH1 ka h l1).push (iG kb l2)
abbrev zH3(ka kb:Bool)(h:Heap)(l1 l2:Addr):Heap:=(zH2 ka kb h l1 l2).push { cls:=.type "tuple",data:=.seq #[.ref h.objs.size,.ref (zH1 ka h l1).objs.size] }
abbrev zH4(ka kb:Bool)(h:Heap)(l1 l2:Addr):Heap:=(zH3 ka kb h l1 l2).push { cls:=.type "tuple",data:=.seq #[.none,.none] }
abbrev zH5(ka kb:Bool)(h:Heap)(l1 l2:Addr):Heap:=(zH4 ka kb h l1 l2).push { cls:=.type "zip",data:=.fields #[.none,.bool false,.bool false,.ref (zH2 ka kb h l1 l2).objs.size,.ref (zH3 ka kb h l1 l2).objs.size] }
theorem jH{E:Value->Shared->Prop}{s:Shared}{Q:Value->Shared->Prop}(hl:eJ k s.heap l items)
 (hQ:Q (.ref s.heap.objs.size) { s with heap:=s.heap.push (iG k l) }):wpAny (model prog w) A (pyIter (.ref l)) Q E s:=by
 cases k with
 | true=>exact wpAny_pyIter_list hl hQ|false=>exact wpAny_pyIter_tuple hl hQ
theorem zG(ka kb:Bool)(l1 l2:Addr)(xs ys:Array Value) :
 Meets (Builtin.«zip.__new__» ⟨[.type "zip",.ref l1,.ref l2],[]⟩) (λ_ R s=>eJ ka s.heap l1 xs/\eJ kb s.heap l2 ys /\
  R (.ok (.ret (.ref (zH4 ka kb s.heap l1 l2).objs.size))) { s with heap:=zH5 ka kb s.heap l1 l2 }):=
 .of_wp λprog w A R s h=>by
  obtain⟨hp,g,d,tk,os⟩:=s;obtain⟨hl1,hl2,h⟩:=h;have hsub:=sub_zip;have hL1:eJ ka (Shared.heap ⟨hp,g,d,tk,os⟩) l1 xs:=hl1;have hL2:eJ kb (Shared.heap ⟨hp.push (iG ka l1),g,d,tk,os⟩) l2 ys:=hl2.at λo e=>Ab _ e
  wp_walk using jH hL1,jH hL2
  exact⟨_,rfl,h⟩
theorem oZ{h:Heap}(e:h.get? it=some (iG k a)):dE k h it a 0:=by
 cases k with
 | true=>exact⟨_,e,rfl,rfl⟩|false=>exact⟨_,e,rfl,rfl⟩
theorem aCd{E:Value->Shared->Prop}{s:Shared}{Q:Value->Shared->Prop}(hl1:eJ ka s.heap l1 xs)(hl2:eJ kb s.heap l2 ys)
 (h:∀h',IsZip h' (s.heap.objs.size+4) (s.heap.objs.size+2) (s.heap.objs.size+3) .none->IsPair h' (s.heap.objs.size+2) (.ref s.heap.objs.size) (.ref (s.heap.objs.size+1)) ->
  IsPair h' (s.heap.objs.size+3) .none .none->dE ka h' s.heap.objs.size l1 0->dE kb h' (s.heap.objs.size+1) l2 0->h'.objs.size=s.heap.objs.size+5 ->
  (∀c o,s.heap.get? c=some o->h'.get? c=some o)->Q (.ref (s.heap.objs.size+4)) { s with heap:=h' }) :
 wpAny (model prog w) A (call (.type "zip") [.ref l1,.ref l2]) Q E s:=by
 refine callType_new F.called_zip (by decide) (F.typeCall_zip_2 _ _) (F.newCall_zip_2 _ _) (λobj=>F.args_object_init_3 obj _ _) F.entry_zip_new
  (zG ka kb l1 l2 xs ys) ⟨hl1,hl2,?_⟩
 have z1:(zH1 ka s.heap l1).objs.size=s.heap.objs.size+1:=B6 ..;have z2:(zH2 ka kb s.heap l1 l2).objs.size=s.heap.objs.size+2:=by rw[B6,z1]
 have z3:(zH3 ka kb s.heap l1 l2).objs.size=s.heap.objs.size+3:=by rw[B6,z2]
 have z4:(zH4 ka kb s.heap l1 l2).objs.size=s.heap.objs.size+4:=by rw[B6,z3]
 have z5:(zH5 ka kb s.heap l1 l2).objs.size=s.heap.objs.size+5:=by rw[B6,z4]
 have nf:∀k l,(iG k l).isFreed=false:=by intro k l;cases k <;> rfl
 have g5:(zH5 ka kb s.heap l1 l2).get? (zH4 ka kb s.heap l1 l2).objs.size=some _:=Ao _ rfl;have g4:(zH5 ka kb s.heap l1 l2).get? (zH3 ka kb s.heap l1 l2).objs.size=some _:=Ab _ (Ao _ rfl);have g3:(zH5 ka kb s.heap l1 l2).get? (zH2 ka kb s.heap l1 l2).objs.size=some _:=Ab _ (Ab _ (Ao _ rfl));have g2:(zH5 ka kb s.heap l1 l2).get? (zH1 ka s.heap l1).objs.size=some _:=Ab _ (Ab _ (Ab _ (Ao _ (nf _ _))));have g1:(zH5 ka kb s.heap l1 l2).get? s.heap.objs.size=some _:=Ab _ (Ab _ (Ab _ (Ab _ (Ao _ (nf _ _)))));show _/\_;rw[z2,z3,z4] at g5;rw[z1,z2] at g3;rw[z3] at g4;rw[z1] at g2;rw[z4];exact⟨⟨_,g5,rfl⟩,h _ g5 g3 g4 (oZ g1) (oZ g2) z5 λc o x=>
  Ab _ (Ab _ (Ab _ (Ab _ (Ab _ x))))⟩
def Itz(K:PySem.W.Frag)(ka kb:Bool)(a b:Addr):It:=
 ⟨λi H=>∃xs ys x y,Sq ka K H a xs/\Sq kb K H b ys/\xs[i]? = some x/\ys[i]? = some y,
  λi H v H'=>∃p x y,v=.ref p/\H p=none/\K.lookup p=none/\H'=upd H p (.tup [x,y])/\∀xs ys,Sq ka K H a xs->Sq kb K H b ys->xs[i]? = some x/\ys[i]? = some y,
  λi H=>∃xs ys,Sq ka K H a xs/\Sq kb K H b ys/\(xs.length<=i\/ys.length<=i)⟩
structure aGn (z TI TO i1 i2:Addr):Prop where
 TIz:TI≠z
 TOz:TO≠z
 i1z:i1≠z
 i2z:i2≠z
 TITO:TI≠TO
 TIi1:TI≠i1
 TIi2:TI≠i2
 TOi1:TO≠i1
 TOi2:TO≠i2
 i12:i1≠i2
theorem aGn.apart{X:Cx}{pins:List (Addr×Obj)}{σ:St}{H:Hp}{s:Shared}{ka kb:Bool}{a b z TI TO i1 i2:Addr}{xs ys:List V}(F:aGn z TI TO i1 i2)(I:Inv X pins σ H s)(f:∀c∈[z,TI,TO,i1,i2],kT X pins H c)
 (ha:Sq ka X.K H a xs) (hb:Sq kb X.K H b ys):ZipApart z TI TO i1 i2 a b:=
 ⟨F.TIz,F.TOz,F.i1z,F.i2z,F.TITO,F.TIi1,F.TIi2,F.TOi1,F.TOi2,F.i12,I.sqNe ha (f z (by simp)),I.sqNe ha (f TO (by simp)),I.sqNe ha (f i1 (by simp)),I.sqNe ha (f i2 (by simp)),
  I.sqNe hb (f z (by simp)),I.sqNe hb (f TO (by simp)),I.sqNe hb (f i1 (by simp)),I.sqNe hb (f i2 (by simp))⟩
theorem aDQ{P:Program}{w:World}{K:PySem.W.Frag}{ka kb:Bool}{elts:List Expr}{tk:Nat}{tp:Pos}{z TI TO i1 i2 a b:Addr}(F:aGn z TI TO i1 i2) :
 vI P w K (.Tuple elts tk tp) (Itz K ka kb a b) [z,TI,TO,i1,i2] z (λi h=>IsZip h z TI TO .none/\IsPair h TI (.ref i1) (.ref i2)/\(∃u v,IsPair h TO u v)/\dE ka h i1 a i/\dE kb h i2 b i) where
 mem:=by simp
 obj:=λi h st c hc=>by
  obtain⟨hz,hTI,⟨u,v,hTO⟩,h1,h2⟩:=st;have hc':c=z\/c=TI\/c=TO\/c=i1\/c=i2:=by simpa using hc
  rcases hc' with rfl|rfl|rfl|rfl|rfl;exact⟨_,hz,λv z=>by cases(show Data.fields _=Data.cell v from z)⟩;exact⟨_,hTI,λv z=>by cases(show Data.seq _ _=Data.cell v from z)⟩;exact⟨_,hTO,λv z=>by cases(show Data.seq _ _=Data.cell v from z)⟩;exact h1.obj;exact h2.obj
 keep:=λi h h' st k=>by obtain⟨hz,hTI,⟨u,v,hTO⟩,h1,h2⟩:=st;exact⟨k z (by simp) _ hz,k TI (by simp) _ hTI,⟨u,v,k TO (by simp) _ hTO⟩,h1.at λo e=>k i1 (by simp) o e,h2.at λo e=>k i2 (by simp) o e⟩
 item:=by
  intro X hP hw hK hc i pins s σ H E I hf st hg;subst hP hw hK;obtain⟨hz,hTI,⟨u,v,hTO⟩,h1,h2⟩:=st;obtain⟨xs,ys,x,y,ha,hb,hx,hy⟩:=hg;obtain⟨as,ra,pa,_⟩:=I.sq ha;obtain⟨bs,rb,pb,_⟩:=I.sq hb;obtain⟨ux,hux,rx⟩:=ra.get hx;obtain⟨uy,huy,ry⟩:=rb.get hy;have D:=F.apart I hf ha hb;refine nO D hz hTI hTO h1 h2 pa pb (x:=ux) (y:=uy) (by simpa using hux) (by simpa using huy) λh' a1 a2 a3 a4 a5 a6 hk=>?_;refine⟨_,rfl,wpAny_letOwnedTupleGo_zip (s:={ s with heap:=h' }) a1 λh'' hz' hs'=>?_⟩;have hTne:s.heap.objs.size≠z:=B3 (Ag hz);have hk2:∀c o,c∉[z,TI,TO,i1,i2]->s.heap.get? c=some o->h''.get? c=some o:=λc o hc e=>by
   have hc':c≠z/\c≠TI/\c≠TO/\c≠i1/\c≠i2:=by simpa using hc
   exact hs'.extBut _ _ hc'.1 (hk c o hc'.1 hc'.2.2.1 hc'.2.2.2.1 hc'.2.2.2.2 e)
  have tI:IsPair h'' TI (.ref i1) (.ref i2):=hs'.extBut _ _ F.TIz (hk _ _ F.TIz F.TITO F.TIi1 F.TIi2 hTI);have tO:IsPair h'' TO ux uy:=hs'.extBut _ _ F.TOz a2;have t1:dE ka h'' i1 a (i+1):=a3.at λo e=>hs'.extBut _ _ F.i1z e;have t2:dE kb h'' i2 b (i+1):=a4.at λo e=>hs'.extBut _ _ F.i2z e;have tT:IsPair h'' s.heap.objs.size ux uy:=hs'.extBut _ _ hTne a5;have hn:H s.heap.objs.size=none:=I.fresh;have I1:Inv X pins σ (upd H s.heap.objs.size (.tup [x,y])) { s with heap:=h'' }:=by
   refine I.turnsNew (t':=s.toks) hf hk2 (λc hc=>?_) (Ai _) ⟨by show 2<=sizeLine;rw[Bz];decide,[ux,uy],.cons rx (.cons ry .nil),_,tT,rfl,_,rfl⟩;have hc':c=z\/c=TI\/c=TO\/c=i1\/c=i2:=by simpa using hc
   rcases hc' with rfl|rfl|rfl|rfl|rfl;exact⟨_,hz'⟩;exact⟨_,tI⟩;exact⟨_,tO⟩;obtain⟨o,e,_⟩:=t1.obj;exact⟨o,e⟩;obtain⟨o,e,_⟩:=t2.obj;exact⟨o,e⟩
  refine⟨.ref s.heap.objs.size,_,I1,rfl,⟨_,x,y,rfl,hn,I.newK,rfl,λxs' ys' ha' hb'=>?_⟩,⟨hz',tI,⟨_,_,tO⟩,t1,t2⟩,λc hc=>?_⟩;rw[I.sq_inj ha' ha,I.sq_inj hb' hb];exact⟨hx,hy⟩;rw[aF (A0 ?_)];exact(hf c hc).1;obtain⟨o,e,_⟩:∃o,s.heap.get? c=some o/\True:=by
   have hc':c=z\/c=TI\/c=TO\/c=i1\/c=i2:=by simpa using hc
   rcases hc' with rfl|rfl|rfl|rfl|rfl;exact⟨_,hz,trivial⟩;exact⟨_,hTI,trivial⟩;exact⟨_,hTO,trivial⟩;obtain⟨o,e,_⟩:=h1.obj;exact⟨o,e,trivial⟩;obtain⟨o,e,_⟩:=h2.obj;exact⟨o,e,trivial⟩
  exact Ag e
 done:=by
  intro X hP hw hK hc i pins s σ H E I hf st hg;subst hP hw hK;obtain⟨hz,hTI,⟨u,v,hTO⟩,h1,h2⟩:=st;obtain⟨xs,ys,ha,hb,hend⟩:=hg;obtain⟨as,ra,pa,_⟩:=I.sq ha;obtain⟨bs,rb,pb,_⟩:=I.sq hb;have la:=ra.length;have lb:=rb.length;refine oY (I.ok.hd hc) (F.apart I hf ha hb) hz hTI hTO h1 h2 pa pb ?_ λh' hk=>⟨rfl,I.turns (t':=s.toks) hf λc o hc e=>?_⟩
  rcases hend with q|q;exact .inl (by simp;omega);exact .inr (by simp;omega);have hc':c≠z/\c≠TI/\c≠TO/\c≠i1/\c≠i2:=by simpa using hc
  exact hk c o hc'.1 hc'.2.2.1 hc'.2.2.2.1 hc'.2.2.2.2 e
 self:=λ_ _ _ _ _ st h=>wpAny_pyIter_zip st.1 h
def aNR(K:PySem.W.Frag)(ta:TA):TI:=λσ H R=>ta σ H λvs H1=>∃(ka kb:Bool) (a b:Addr) (xs ys:List V),vs=[.ref a,.ref b]/\Sq ka K H1 a xs/\Sq kb K H1 b ys/\R (Itz K ka kb a b) H1
theorem aDR:bootBuiltins "zip" = some (.type "zip"):=by kernel_rfl
theorem aDS(n:Nat):aGn (n+4) (n+2) (n+3) n (n+1) where
 TIz:=by simp
 TOz:=by simp
 i1z:=by simp
 i2z:=by simp
 TITO:=by simp
 TIi1:=by simp
 TIi2:=by simp
 TOi1:=by simp
 TOi2:=by simp
 i12:=by simp
theorem aIE{X:Cx}{a b:Expr}{ta:TA}{p pos:Pos}{elts:List Expr}{tk:Nat}{tp:Pos}(hg:Gl X "zip")(hm:X.mg "zip" = none)(ha:PA X [a,b] ta)(hs:starEach [a,b] X.env=[(false,eval a X.env),(false,eval b X.env)])(hs2:starEach [b] X.env=[(false,eval b X.env)]) :
 PI X (.Tuple elts tk tp) (.Call (.Name "zip" p) [a,b] [] pos) (aNR X.K ta):=by
 intro pins s σ H R I h;refine Call_ (gE I hg hm aDR (Cf (thn (ha pos pins s σ H _ I h) λus s1 ⟨vs,H1,I1,r1,q1⟩=>?_) (by rw[hs,hs2]) (by rw[hs2];rfl)));obtain⟨ka,kb,a1,b1,xs,ys,e,q1,q2,q⟩:=q1;subst e;cases r1 with
 | cons r rr=>
  cases rr with
  | cons r' rr=>
   cases rr;cases r;cases r';obtain⟨as,ra,pa,_⟩:=I1.sq q1;obtain⟨bs,rb,pb,_⟩:=I1.sq q2;refine aCd pa pb λh' hz hTI hTO h1 h2 hsz hk=>wpAny_pyIter_zip (s:={ s1 with heap:=h' }) hz ?_;refine⟨s1.heap.objs.size+4,_,_,_,H1,rfl,I1.kept (t':=s1.toks) hk,aDQ (aDS _),⟨hz,hTI,⟨_,_,hTO⟩,h1,h2⟩,λc hc=>?_,q⟩;have hc':c=s1.heap.objs.size+4\/c=s1.heap.objs.size+2\/c=s1.heap.objs.size+3\/c=s1.heap.objs.size\/c=s1.heap.objs.size+1:=by simpa using hc
   have hle:s1.heap.objs.size<=c:=by rcases hc' with rfl|rfl|rfl|rfl|rfl <;> omega
   exact I1.fpOk hle (I1.hok.fresh hle)
def Its(x:Str):It:=⟨λi _=>i<x.cps.size,λi H v H'=>H'=H/\∃c,x.cps[i]? = some c/\v=.str ⟨#[c]⟩,λi _=>x.cps.size<=i⟩
theorem wR{P:Program}{w:World}{K:PySem.W.Frag}{tg:Expr}{it:Addr}{x:Str}{t:Tok}{ty:String}(hn:["enumerate", "zip", "dict_itemiterator", "dict_reverseitemiterator", "odict_iterator", "itertools.zip_longest", "itertools.pairwise"].contains ty=false)
 (W:∀A':Around,A'.handled=none->Walks P w A' it [it] [it] x.cps.size (SignAt x) (λi h=>h.IsStrIter it ty x t i))
 (S:∀(A:Around) (i:Nat) (s:Shared) (Q:Value->Shared->Prop) (E:Value->Shared->Prop),s.heap.IsStrIter it ty x t i->Q (.ref it) s->wpAny (model P w) A (pyIter (.ref it)) Q E s):vI P w K tg (Its x) [it] it (λi h=>i<=x.cps.size/\h.IsStrIter it ty x t i) where
 mem:=by simp
 obj:=λi h st b hb=>by
  have e:b=it:=by simpa using hb
  subst e;obtain⟨_,o,e,c,d⟩:=st;exact⟨o,e,λv z=>by rw[d] at z;cases z⟩
 keep:=λi h h' st k=>by obtain⟨hi,o,e,c,d⟩:=st;exact⟨hi,o,k it (by simp) o e,c,d⟩
 item:=by intro X hP hw hK hc i pins s σ H E I hf st hg;subst hP hw hK;obtain⟨f0,f1,f2,f3,f4,f5⟩:=hf it (by simp);refine(W X.A (I.ok.hd hc)).item i s _ _ hg st.2 λv h' tk hv st' kk=>?_;obtain⟨c,u,hcc,rfl⟩:=hv;have I1:Inv X pins σ H { s with heap:=h',toks:=tk }:=I.turned (λb o hb e=>kk b o (by simpa using hb) e) f0 f1 f3 f4 f5;obtain⟨o,e,oc,od⟩:=id st';exact⟨_,rfl,oF (s:={ s with heap:=h',toks:=tk }) e oc od hn ⟨.str ⟨#[c]⟩,H,I1,⟨u,rfl⟩,⟨rfl,c,hcc,rfl⟩,⟨hg,st'⟩,λb hb=>(hf b hb).1⟩⟩
 done:=by intro X hP hw hK hc i pins s σ H E I hf st hg;subst hP hw hK;obtain⟨f0,f1,f2,f3,f4,f5⟩:=hf it (by simp);have e:i=x.cps.size:=Nat.le_antisymm st.1 hg;subst e;exact(W X.A (I.ok.hd hc)).done s _ _ st.2 λh' tk eb=>⟨rfl,I.turned (λb o hb e=>eb b o (by simpa using hb) e) f0 f1 f3 f4 f5⟩
 self:=λA i s Q E st h=>S A i s Q E st.2 h
theorem aIF{X:Cx}{tg l:Expr}{tl:TE}(hl:PE X l tl):PI X tg l (λσ H R=>tl σ H λx H1=>(∃a,x=.ref a/\(((∃xs,SqL X.K H1 a xs)/\R (Itl X.K a) H1)\/((∃xs,SqT X.K H1 a xs)/\R (Itt X.K a) H1)))\/∃z,x=.str z/\R (Its z) H1):=by
 intro pins s σ H R I h;refine thn (hl pins s σ H _ I h) λv s1 ⟨x,H1,I1,r1,q1⟩=>?_;rcases q1 with⟨a,e,q⟩|⟨z,e,q⟩
 subst e;cases r1;rcases q with⟨⟨xs,hq⟩,q⟩|⟨⟨xs,hq⟩,q⟩
 obtain⟨its,rv,p,hz⟩:=I1.list hq;refine wpAny_pyIter_list p.isList ?_;refine⟨s1.heap.objs.size,[s1.heap.objs.size],_,_,H1,rfl,I1.kept (t':=s1.toks) λb o e=>Ab _ e,aBE a _,⟨_,Ao _ rfl,rfl,rfl⟩,λb hb=>?_,q⟩;have e:b=s1.heap.objs.size:=by simpa using hb
 subst e;exact I1.fpOk (Ai _) (I1.hok.fresh (Ai _));obtain⟨its,rv,p,hz⟩:=I1.tuple hq;refine wpAny_pyIter_tuple (show s1.heap.IsTuple a its.toArray from p) ?_;refine⟨s1.heap.objs.size,[s1.heap.objs.size],_,_,H1,rfl,I1.kept (t':=s1.toks) λb o e=>Ab _ e,yI a _,⟨_,Ao _ rfl,rfl,rfl⟩,λb hb=>?_,q⟩;have e:b=s1.heap.objs.size:=by simpa using hb
 subst e;exact I1.fpOk (Ai _) (I1.hok.fresh (Ai _));subst e;obtain⟨t,rfl⟩:=r1;cases ha:z.cps.all (·<128) with
 | false=>
  refine wpAny_pyIter_wide ha ⟨s1.heap.objs.size,[s1.heap.objs.size],_,_,H1,rfl,I1.kept (t':=s1.toks) λb o e=>Ab _ e,wR (ty:= "str_iterator") (x:=z) (t:=t) (by decide) (λA' hA=>Walks.strWide hA _ z t) (λA i s Q E st h=>wpAny_pyIter_striter_wide st h),⟨Dd _,_,Ao _ rfl,rfl,rfl⟩,λb hb=>?_,q⟩;have e:b=s1.heap.objs.size:=by simpa using hb
  subst e;exact I1.fpOk (Ai _) (I1.hok.fresh (Ai _))
 | true=>
  refine wpAny_pyIter_ascii ha ⟨s1.heap.objs.size,[s1.heap.objs.size],_,_,H1,rfl,I1.kept (t':=s1.toks) λb o e=>Ab _ e,wR (ty:= "str_ascii_iterator") (x:=z) (t:=t) (by decide) (λA' hA=>Walks.strAscii hA _ z t) (λA i s Q E st h=>wpAny_pyIter_striter_ascii st h),⟨Dd _,_,Ao _ rfl,rfl,rfl⟩,λb hb=>?_,q⟩;have e:b=s1.heap.objs.size:=by simpa using hb
  subst e;exact I1.fpOk (Ai _) (I1.hok.fresh (Ai _))
section
variable {prog:Program} {w:World} {A:Around} {E:Value->Shared->Prop} {s:Shared}
theorem aDT{k:Bool}{e it l:Addr}{i:Nat}{xs:Array Value}{x old:Value}{Q:Value->Shared->Prop}(he:IsEnum s.heap e it i old)(hit:dE k s.heap it l i)(hl:eJ k s.heap l xs)(hx:xs[i]? = some x)(hne:e≠it)
 (hQ:∀h',IsEnumOut h' e it ((i:Int)+1) x s.heap.objs.size->dE k h' it l (i+1)->h'.get? s.heap.objs.size=some { cls:=.type "tuple",data:=.seq #[.int i s.toks,x] }->h'.objs.size=s.heap.objs.size+1 ->
  (∀b o,b≠e->b≠it->s.heap.get? b=some o->h'.get? b=some o)->Q (.ref s.heap.objs.size) { s with heap:=h',toks:=s.toks+1 }) :
 wpAny (model prog w) A (Builtin.«enumerate.__next__» ⟨[.ref e],[]⟩) (λfin s'=>∃v,fin=.done (.ret v)/\Q v s') E s:=by
 obtain⟨hp,g,d,tk,os⟩:=s;refine Aa (m:=field (.ref e) 2) (A6 he rfl (x:=.ref it) rfl (Aa (gA hit hl hx λh1 i1 s1=>?_)));have s1:Heap.SameBut it hp h1:=s1;have e1:IsEnum h1 e it i old:=(s1.2 e hne).trans he;refine Aa (m:=field (.ref e) 3) (A6 e1 rfl (x:=rawInt i) rfl (Aa (m:=field (.ref e) 4) (A6 e1 rfl (x:=.none) rfl (Aa (m:=mkInt i) (wpAny_mkInt ?_)))));refine Aa (m:=setField (.ref e) 3 (rawInt ((i:Int)+1))) (s:=⟨h1,g,d,tk+1,os⟩) (Bp e1 (by simp) λh2 e2 s2=>?_);have s2:Heap.SameBut e h1 h2:=s2;have e2:IsEnum h2 e it ((i:Int)+1) old:=e2;refine Aa (m:=setField (.ref e) 4 .none) (s:=⟨h2,g,d,tk+1,os⟩) (Bp e2 (by simp) λh3 e3 s3=>?_);have s3:Heap.SameBut e h2 h3:=s3;have e3:IsEnum h3 e it ((i:Int)+1) old:=e3;refine Aa (m:=newTuple [.int i tk,x]) (s:=⟨h3,g,d,tk+1,os⟩) (wpAny_newTuple ?_);have e4:IsEnum (h3.push { cls:=.type "tuple",data:=.seq #[.int i tk,x] }) e it ((i:Int)+1) old:=Ab _ e3;generalize q4:h3.push { cls:=.type "tuple",data:=.seq #[.int i tk,x] }=h4 at e4;have z3:h3.objs.size=hp.objs.size:=by rw[s3.1,s2.1,s1.1]
 have lt:e<hp.objs.size:=Ag he;have t4:h4.get? hp.objs.size=some { cls:=.type "tuple",data:=.seq #[.int i tk,x] }:=by rw[<-q4,<-z3];exact Ao _ rfl
 have z4:h4.objs.size=hp.objs.size+1:=by rw[<-q4,B6,z3]
 have k4:∀b o,b≠e->b≠it->hp.get? b=some o->h4.get? b=some o:=λb o n1 n2 hb=>by rw[<-q4];exact Ab _ (s3.extBut b o n1 (s2.extBut b o n1 (s1.extBut b o n2 hb)))
 have i4:dE k h4 it l (i+1):=i1.at λo ho=>by rw[<-q4];exact Ab _ (s3.extBut _ _ hne.symm (s2.extBut _ _ hne.symm ho))
 rw[z3];refine Aa (m:=Builtin.SmallTypes.ownedTupleIsFree (.ref e)) (s:=⟨h4,g,d,tk+1,os⟩) ?_;unfold Builtin.SmallTypes.ownedTupleIsFree;refine Aa (A6 e4 rfl (x:=.none) rfl (Al ?_));simp only[if_true];refine Aa (wpAny_rule (Aa (A6 e4 rfl (x:=old) rfl (Aa (Bp e4 (by simp) λh5 e5 s5=>?_)))));have s5:Heap.SameBut e h4 h5:=s5;have e5:IsEnum h5 e it ((i:Int)+1) x:=e5;refine Aa (m:=Builtin.SmallTypes.ownedTupleHandOut (.ref e) (.ref hp.objs.size)) (s:=⟨h5,g,d,tk+1,os⟩) ?_;unfold Builtin.SmallTypes.ownedTupleHandOut;refine Aa (Bp e5 (by simp) λh6 e6 s6=>?_);have s6:Heap.SameBut e h5 h6:=s6;have e6:IsEnumOut h6 e it ((i:Int)+1) x hp.objs.size:=e6;refine Bp e6 (by simp) λh7 e7 s7=>?_;have s7:Heap.SameBut e h6 h7:=s7;have e7:IsEnumOut h7 e it ((i:Int)+1) x hp.objs.size:=e7;have up:∀b o,b≠e->h4.get? b=some o->h7.get? b=some o:=λb o n hb=>s7.extBut _ _ n (s6.extBut _ _ n (s5.extBut _ _ n hb));exact Aa (wpAny_letGo (Al ⟨_,rfl,hQ h7 e7 (i4.at λo ho=>up _ _ hne.symm ho) (up _ _ (B3 lt) t4) (by rw[s7.1,s6.1,s5.1,z4]) λb o n1 n2 hb=>up b o n1 (k4 b o n1 n2 hb)⟩))
theorem wU{k:Bool}{e it l:Addr}{i:Nat}{xs:Array Value}{x old:Value}{Q:Option Value->Shared->Prop}(he:IsEnum s.heap e it i old)(hit:dE k s.heap it l i)(hl:eJ k s.heap l xs)(hx:xs[i]? = some x)(hne:e≠it)
 (hQ:∀h',IsEnumOut h' e it ((i:Int)+1) x s.heap.objs.size->dE k h' it l (i+1)->h'.get? s.heap.objs.size=some { cls:=.type "tuple",data:=.seq #[.int i s.toks,x] }->h'.objs.size=s.heap.objs.size+1 ->
  (∀b o,b≠e->b≠it->s.heap.get? b=some o->h'.get? b=some o)->Q (some (.ref s.heap.objs.size)) { s with heap:=h',toks:=s.toks+1 }):wpAny (model prog w) A (pyNext (.ref e)) Q E s:=by
 have T:s.TypeIs (.ref e) "enumerate" := ⟨_,he,rfl⟩
 unfold pyNext;exact Aa (wpAny_attempt (Bt (name:=Str.ofString "__next__") T Dh (Cp Dh T F.entry_enumerate_next (aDT he hit hl hx hne λh' a b c d k=>Al (hQ h' a b c d k)) (F.args_enumerate_next_1 _))))
theorem zH{k:Bool}{e it l:Addr}{i:Nat}{xs:Array Value}{old:Value}{Q:Option Value->Shared->Prop}(hh:A.handled=none)(he:IsEnum s.heap e it i old)(hit:dE k s.heap it l i)(hl:eJ k s.heap l xs)(hx:xs[i]? = none)
 (hQ:∀h',Heap.ExtBut it s.heap h'->Q none { s with heap:=h' }):wpAny (model prog w) A (pyNext (.ref e)) Q E s:=by
 have T:s.TypeIs (.ref e) "enumerate" := ⟨_,he,rfl⟩
 unfold pyNext;refine Aa (wpAny_attempt (Bt (name:=Str.ofString "__next__") T Dh (Cp Dh T F.entry_enumerate_next ?_ (F.args_enumerate_next_1 _))));refine Aa (m:=field (.ref e) 2) (A6 he rfl (x:=.ref it) rfl (Aa (kL hh hit hl hx λh' x g ⟨o,ho,hc⟩=>?_)));exact Aa (wpAny_isInstance (T:= "StopIteration") (b:=true) ⟨o,ho,hc⟩ isSubtype_stop (Al (hQ _ g)))
end
noncomputable def aDU(it:Addr):Obj:={ cls:=.type "enumerate",data:=.fields #[.none,.bool false,.ref it,rawInt 0,.none,.none] }
theorem aCe(k:Bool)(l:Addr)(xs:Array Value)(ol:Obj):Meets (Builtin.«enumerate.__new__» ⟨[.type "enumerate",.ref l],[]⟩) (λ_ R s=>s.heap.get? l=some ol/\eJ k s.heap l xs /\
 R (.ok (.ret (.ref (s.heap.push (iG k l)).objs.size))) { s with heap:=(s.heap.push (iG k l)).push (aDU s.heap.objs.size) }):=
 .of_wp λprog w A R s h=>by
  obtain⟨hp,g,d,tk,os⟩:=s;obtain⟨ho,hl,h⟩:=h;have hsub:=sub_enumerate;have hL:eJ k (Shared.heap ⟨hp,g,d,tk,os⟩) l xs:=hl
  wp_walk using Db ho
  refine wpAny_stack_any λst=>Al ?_;split;rename_i c _ _ _ _ _;cases(c==Value.type "enumerate") <;> (wp_walk using Db ho,jH hL;exact⟨_,rfl,h⟩)
  . wp_walk using Db ho,jH hL
    exact⟨_,rfl,h⟩
theorem aDV{E:Value->Shared->Prop}{s:Shared}{Q:Value->Shared->Prop}(hl:eJ k s.heap l xs)
 (h:∀h',IsEnum h' (s.heap.objs.size+1) s.heap.objs.size 0 .none->dE k h' s.heap.objs.size l 0->(∀b o,s.heap.get? b=some o->h'.get? b=some o)->Q (.ref (s.heap.objs.size+1)) { s with heap:=h' }) :
 wpAny (model prog w) A (call (.type "enumerate") [.ref l]) Q E s:=by
 obtain⟨ol,ho⟩:∃ol,s.heap.get? l=some ol:=by
  cases k with
  | true=>obtain⟨o,e,_⟩:=hl;exact⟨o,e⟩|false=>obtain⟨o,e,_⟩:=hl;exact⟨o,e⟩
 refine callType_new F.called_enumerate (by decide) (F.typeCall_enumerate_1 _) (F.newCall_enumerate_1 _) (λobj=>F.args_object_init_2 obj _) F.entry_enumerate_new (aCe k l xs ol) ⟨ho,hl,?_⟩;have z:(s.heap.push (iG k l)).objs.size=s.heap.objs.size+1:=B6 ..;have nf:(iG k l).isFreed=false:=by cases k <;> rfl
 have g2:((s.heap.push (iG k l)).push (aDU s.heap.objs.size)).get? (s.heap.push (iG k l)).objs.size=some (aDU s.heap.objs.size):=Ao _ rfl;show _/\_;rw[z] at g2 ⊢;exact⟨⟨_,g2,rfl⟩,h _ g2 (oZ (Ab _ (Ao _ nf))) λb o x=>Ab _ (Ab _ x)⟩
def Ite(K:PySem.W.Frag)(k:Bool)(a:Addr):It:=
 ⟨λi H=>∃xs x,Sq k K H a xs/\xs[i]? = some x,
  λi H v H'=>∃p x,v=.ref p/\H p=none/\K.lookup p=none/\H'=upd H p (.tup [.int i,x])/\∀xs,Sq k K H a xs->xs[i]? = some x,
  λi H=>∃xs,Sq k K H a xs/\xs.length<=i⟩
theorem aGo{P:Program}{w:World}{K:PySem.W.Frag}{k:Bool}{elts:List Expr}{tk:Nat}{tp:Pos}{e it a:Addr}(ne:e≠it) :
 vI P w K (.Tuple elts tk tp) (Ite K k a) [e,it] e (λi h=>(∃old,IsEnum h e it i old)/\dE k h it a i) where
 mem:=by simp
 obj:=λi h st c hc=>by
  obtain⟨⟨old,he⟩,h1⟩:=st;have hc':c=e\/c=it:=by simpa using hc
  rcases hc' with rfl|rfl;exact⟨_,he,λv z=>by cases(show Data.fields _=Data.cell v from z)⟩;exact h1.obj
 keep:=λi h h' st kp=>by obtain⟨⟨old,he⟩,h1⟩:=st;exact⟨⟨old,kp e (by simp) _ he⟩,h1.at λo q=>kp it (by simp) o q⟩
 item:=by
  intro X hP hw hK hc i pins s σ H E I hf st hg;subst hP hw hK;obtain⟨⟨old,he⟩,h1⟩:=st;obtain⟨xs,x,ha,hx⟩:=hg;obtain⟨as,ra,pa,_⟩:=I.sq ha;obtain⟨ux,hux,rx⟩:=ra.get hx;refine wU he h1 pa (x:=ux) (by simpa using hux) ne λh' a1 a2 a3 a4 hk=>?_;refine⟨_,rfl,wpAny_letOwnedTupleGo_enum (s:={ s with heap:=h',toks:=s.toks+1 }) a1 λh'' e' hs'=>?_⟩;have lt:s.heap.objs.size≠e:=B3 (Ag he);have hk2:∀c o,c∉[e,it]->s.heap.get? c=some o->h''.get? c=some o:=λc o hc q=>by
   have hc':c≠e/\c≠it:=by simpa using hc
   exact hs'.extBut _ _ hc'.1 (hk c o hc'.1 hc'.2 q)
  have t1:dE k h'' it a (i+1):=a2.at λo q=>hs'.extBut _ _ ne.symm q;have tT:h''.get? s.heap.objs.size=some { cls:=.type "tuple",data:=.seq #[.int i s.toks,ux] }:=hs'.extBut _ _ lt a3;have hn:H s.heap.objs.size=none:=I.fresh;have I1:Inv X pins σ (upd H s.heap.objs.size (.tup [.int i,x])) { s with heap:=h'',toks:=s.toks+1 }:=by
   refine I.turnsNew (t':=s.toks+1) hf hk2 (λc hc=>?_) (Ai _) ⟨by show 2<=sizeLine;rw[Bz];decide,[.int i s.toks,ux],.cons ⟨_,rfl⟩ (.cons rx .nil),_,tT,rfl,_,rfl⟩;have hc':c=e\/c=it:=by simpa using hc
   rcases hc' with rfl|rfl;exact⟨_,e'⟩;obtain⟨o,q,_⟩:=t1.obj;exact⟨o,q⟩
  refine⟨.ref s.heap.objs.size,_,I1,rfl,⟨_,x,rfl,hn,I.newK,rfl,λxs' ha'=>?_⟩,⟨⟨_,e'⟩,t1⟩,λc hc=>?_⟩;rw[I.sq_inj ha' ha];exact hx;rw[aF (A0 ?_)];exact(hf c hc).1;have hc':c=e\/c=it:=by simpa using hc
  rcases hc' with rfl|rfl;exact Ag he;obtain⟨o,q,_⟩:=h1.obj;exact Ag q
 done:=by
  intro X hP hw hK hc i pins s σ H E I hf st hg;subst hP hw hK;obtain⟨⟨old,he⟩,h1⟩:=st;obtain⟨xs,ha,hend⟩:=hg;obtain⟨as,ra,pa,_⟩:=I.sq ha;have la:=ra.length;refine zH (I.ok.hd hc) he h1 pa (by simp;omega) λh' hk=>⟨rfl,I.turns (t':=s.toks) hf λc o hc q=>hk c o ?_ q⟩
  have hc':c≠e/\c≠it:=by simpa using hc
  exact hc'.2
 self:=λ_ _ _ _ _ st h=>let ⟨_,q⟩:=st.1;wpAny_pyIter_enum q h
def iEn(K:PySem.W.Frag)(ta:TA):TI:=λσ H R=>ta σ H λvs H1=>∃(k:Bool) (a:Addr) (xs:List V),vs=[.ref a]/\Sq k K H1 a xs/\R (Ite K k a) H1
theorem aCf:bootBuiltins "enumerate" = some (.type "enumerate"):=by kernel_rfl
theorem aGp{X:Cx}{a:Expr}{ta:TA}{p pos:Pos}{elts:List Expr}{tk:Nat}{tp:Pos}(hg:Gl X "enumerate")(hm:X.mg "enumerate" = none)(ha:PA X [a] ta)(hs:starEach [a] X.env=[(false,eval a X.env)]) :
 PI X (.Tuple elts tk tp) (.Call (.Name "enumerate" p) [a] [] pos) (iEn X.K ta):=by
 intro pins s σ H R I h;refine Call_ (gE I hg hm aCf (Cf (thn (ha pos pins s σ H _ I h) λus s1 ⟨vs,H1,I1,r1,q1⟩=>?_) (by rw[hs];rfl) rfl));obtain⟨k,a1,xs,e,q1,q⟩:=q1;subst e;cases r1 with
 | cons r rr=>
  cases rr;cases r;obtain⟨as,ra,pa,_⟩:=I1.sq q1;refine aDV pa λh' he h1 hk=>wpAny_pyIter_enum (s:={ s1 with heap:=h' }) he ?_;refine⟨s1.heap.objs.size+1,_,_,_,H1,rfl,I1.kept (t':=s1.toks) hk,aGo (Nat.succ_ne_self _),⟨⟨_,he⟩,h1⟩,λc hc=>?_,q⟩;have hc':c=s1.heap.objs.size+1\/c=s1.heap.objs.size:=by simpa using hc
  have hle:s1.heap.objs.size<=c:=by rcases hc' with rfl|rfl <;> omega
  exact I1.fpOk hle (I1.hok.fresh hle)
end L2
end
noncomputable section
namespace Hp
open PySem PySem.Spec PyProof.Rows L2
theorem Kp.refl(R:Addr->Prop)(H:Hp):Kp R H H:=λ_ _ h _=>h
theorem Kp.same{R:Addr->Prop}(s:aP H H'):Kp R H H':=λa o h _=>s a o h
section
variable {K:Fg} {RT Y old R:Addr->Prop} {σ:Sg} {σV:L2.St} {H H':Hp}
theorem Kp.seqL(k:Kp R H H')(n:¬ R a)(h:SqL K H a xs):SqL K H' a xs:=by rcases h with(h|⟨o,h⟩)|h;exact .inl (.inl (k _ _ h n));exact .inl (.inr ⟨o,k _ _ h n⟩);exact .inr h
theorem Kp.seqT(k:Kp R H H')(hR:∀a,R a->RtO H a)(h:SqT K H a xs):SqT K H' a xs:=by
 have no:∀{o:HO},H a=some o->(∀ys,o≠.lst ys)->(∀φ,o≠.ext φ)->¬ R a:=λ{o} e n1 n2 z=>by
  rcases hR a z with⟨ys,e'⟩|⟨ys,e'⟩
  rw[e] at e';cases e';exact n1 _ rfl;rw[e] at e';cases e';exact n2 _ rfl
 rcases h with(h|⟨o,h⟩)|h;exact .inl (.inl (k _ _ h (no h (λ_ z=>by cases z) λ_ z=>by cases z)));exact .inl (.inr ⟨o,k _ _ h (no h (λ_ z=>by cases z) λ_ z=>by cases z)⟩);exact .inr h
theorem Reps.kp{ex:Addr->Prop}(r:Reps K H ex ds xs)(k:Kp R H H')(hR:∀a,R a->RtO H a)(hx:∀a,R a->ex a):Reps K H' ex ds xs:=
 r.keep λa o e hl hn=>k a o e λz=>by
  rcases hR a z with⟨ys,e'⟩|⟨ys,e'⟩
  rw[e] at e';cases e';exact hl ys rfl (hx a z);rw[e] at e';cases e';exact hn _ rfl
theorem Rep.kp{ex:Addr->Prop}(r:Rep K H ex d x)(k:Kp R H H')(hR:∀a,R a->RtO H a)(hx:∀a,R a->ex a):Rep K H' ex d x:=
 r.keep λa o e hl hn=>k a o e λz=>by
  rcases hR a z with⟨ys,e'⟩|⟨ys,e'⟩
  rw[e] at e';cases e';exact hl ys rfl (hx a z);rw[e] at e';cases e';exact hn _ rfl
def rtF(RT:Addr->Prop)(σ:Sg)(σV:L2.St)(al:List Nat)(a:Addr):Prop:=RT a/\¬ alR σ σV al a
theorem eK:∀(al:List Nat) (σ:Sg) (i:Nat),(freeze σ al)[i]? = (σ[i]?).map λs=>if i∈al then s.freeze else s
 | [],σ,i=>by cases q:σ[i]? <;> simp[freeze,q]|j::al,σ,i=>by
  rw[freeze,eK al];cases qj:σ[j]? with
  | none=>
   simp only;cases q:σ[i]? with
   | none=>rfl|some s=>
    have hne:i≠j:=λe=>by subst e;rw[q] at qj;cases qj
    simp[hne]
  | some sj=>simp only;by_cases hij:i=j;subst hij;have hl:i<σ.length:=(Ay.mp qj).1;rw[Ar hl,qj];simp only[Dv,A3,true_or,if_true];split;cases sj <;> rfl;rfl;rw[Ac (Ne.symm hij)];simp[hij]
theorem pA:∀(al:List Nat) (σ:Sg),(freeze σ al).length=σ.length
 | [],σ=>rfl|j::al,σ=>by rw[freeze,pA al];split;rw[Aw];rfl
theorem freeze_sh(h:(freeze σ al)[i]? = some (.sh pa d)):σ[i]? = some (.sh pa d)\/∃ds,i∈al/\σ[i]? = some (.own pa ds)/\d=.lst ds:=by
 rw[eK] at h;cases q:σ[i]? with
 | none=>rw[q] at h;cases h|some s=>
  rw[q] at h;have h:(if i∈al then s.freeze else s)=.sh pa d:=Ah h;split at h;rename_i hi;cases s with
  | x=>cases h|sh pa' d'=>cases h;exact .inl rfl|own pa' ds'=>cases h;exact .inr ⟨ds',hi,rfl,rfl⟩|dct _=>cases h|par _ _=>cases h
  exact .inl (by rw[h])
theorem eL(h:(freeze σ al)[i]? = some (.own pa ds)):σ[i]? = some (.own pa ds)/\i∉al:=by
 rw[eK] at h;cases q:σ[i]? with
 | none=>rw[q] at h;cases h|some s=>rw[q] at h;have h:(if i∈al then s.freeze else s)=.own pa ds:=Ah h;split at h;cases s <;> cases h;rename_i hi;exact⟨by rw[h],hi⟩
theorem zI{al:List Nat}{i:Nat}{ds:List (NK×D)}(h:(freeze σ al)[i]? = some (.dct ds)):σ[i]? = some (.dct ds):=by
 rw[eK] at h;cases q:σ[i]? with
 | none=>rw[q] at h;cases h|some s=>
  rw[q] at h;have h:(if i∈al then s.freeze else s)=.dct ds:=Ah h;split at h;cases s with
  | dct d=>exact congrArg some h|_=>cases h
  rw[h]
theorem zJ{al:List Nat}{i:Nat}{ds es:List D}(h:(freeze σ al)[i]? = some (.par ds es)):σ[i]? = some (.par ds es):=by
 rw[eK] at h;cases q:σ[i]? with
 | none=>rw[q] at h;cases h|some s=>
  rw[q] at h;have h:(if i∈al then s.freeze else s)=.par ds es:=Ah h;split at h;cases s with
  | par d e=>exact congrArg some h|_=>cases h
  rw[h]
theorem Sx.frz(S:Sx K RT Y old σ σV H)(al:List Nat):Sx K (rtF RT σ σV al) Y old (freeze σ al) σV H where
 sh:=λi pa d h=>by
  rcases freeze_sh h with h|⟨ds,hi,ho,e⟩
  obtain⟨v,h1,h2⟩:=S.sh i pa d h;exact⟨v,h1,h2.weak λa z=>z.elim (λz=>.inl z.1) .inr⟩;subst e;obtain⟨a,xs,h1,h2,h3,h4,h5⟩:=S.own i pa ds ho;refine⟨.ref a,h1,a,xs,rfl,SqL.of h2,⟨?_,λ_=>h2⟩,h5.weak λa z=>z.elim (λz=>.inl z.1) .inr⟩;rintro (z|z|⟨_,z⟩);exact z.2 ⟨i,hi,⟨pa,ds,ho⟩,h1⟩;exact h4 (S.yo a z);exact h4 z
 own:=λi pa ds h=>by obtain⟨h,hi⟩:=eL h;obtain⟨a,xs,h1,h2,h3,h4,h5⟩:=S.own i pa ds h;refine⟨a,xs,h1,h2,⟨h3,?_⟩,h4,h5.weak λa z=>z.elim (λz=>.inl z.1) .inr⟩;rintro ⟨j,hj,⟨pa',ds',q⟩,q'⟩;have:=S.inj i j pa pa' ds ds' a h q h1 q';subst this;exact hi hj
 trk:=λa z=>S.trk a (z.elim (λz=>.inl z.1) .inr)
 yo:=S.yo
 tk:=S.tk
 rt:=λa z=>S.rt a z.1
 inj:=λi j pa pa' ds ds' a h1 h2 h3 h4=>S.inj i j pa pa' ds ds' a (eL h1).1 (eL h2).1 h3 h4
 len:=by rw[pA];exact S.len
 dx:=S.dx.imp id (λ_ _ e=>⟨zI e,rfl⟩) (λ_ _ _ _ _ _ e=>e) (λa xs e z o=>⟨e,z,λ⟨j,_,⟨pa,ds,q⟩,q'⟩=>by
  obtain⟨b,ys,h1,h2,h3,h4,h5⟩:=S.own j pa ds q;rw[q'] at h1;cases h1;rw[e] at h2;cases h2⟩) (λ_ _ r=>r) (λ_ _ _ e=>⟨zJ e,rfl⟩) (λ_ _ _ _ _ _ _ _ e=>e) λp xs e z=>⟨e,⟨z.1,λ⟨j,_,⟨pa,ds,q⟩,q'⟩=>z.2.2 j pa ds q q'⟩,z.2.1,λk pa ds q=>z.2.2 k pa ds (eL q).1⟩
theorem Tk.new(t:Tk K H)(h:K.lookup p=none):Tk K (upd H p o):=λb hb=>by by_cases e:b=p;rw[e];exact h;rw[aF e] at hb;exact t b hb
def Nw(K:Fg)(H:Hp)(a:Addr):Prop:=H a=none/\K.lookup a=none
theorem aGq(q:SqL K H a xs):¬ Nw K H a:=by
 rintro ⟨n,k⟩;rcases q with(q|⟨o,q⟩)|⟨o,its,m,q,_⟩
 rw[n] at q;cases q;rw[n] at q;cases q;rw[k] at q;cases q
theorem Reps.outN{ex:Addr->Prop}(h:Reps K H ex d v):Reps K H (λb=>ex b\/Nw K H b) d v:=
 Reps.imp (λ_ _ q=>q) (λb xs nb q=>⟨λz=>z.elim nb (aGq q),q⟩) (λ⟨c,h1,h2⟩=>⟨c,h1,h2.resolve_right λz=>h1 z.2⟩) (λ_ _ _ q=>q) (λ_ _ _ _ q=>q) d v h
theorem RvN.sub{ex:Addr->Prop}{v:Vl}(h:Rep K H' (λa=>exV RT Y old σ σV v.pa v.al a\/ex a) d x):Rep K H' (λa=>exV RT Y old σ σV (v.sub d).pa (v.sub d).al a\/ex a) (v.sub d).d x:=by unfold Vl.sub;by_cases hn:noL d=true;rw[if_pos hn];exact Rep.free d x hn h;rw[if_neg hn];exact h
structure zK (K:Fg) (RT Y old:Addr->Prop) (σ:Sg) (σV:L2.St) (H1:Hp) (J:L2.It) (xs:List Vl) (al:List Nat):Prop where
 sub:∀v∈xs,∀j∈v.al,j∈al
 nofr:∀v∈xs,v.fr=false
 ok:∀(R:Addr->Prop),(∀b,R b->rtF RT σ σV al b)->∀(i:Nat) (H:Hp),Kp R H1 H->(i<xs.length->J.go i H)/\(xs.length<=i->J.stop i H)/\∀x H',J.yld i H x H'->∀v,xs[i]? = some v->aP H H'/\(Tk K H->Tk K H')/\Rep K H' (λa=>exV RT Y old σ σV v.pa v.al a\/Nw K H1 a) v.d x
theorem tX{v:Vl}:∀j∈(v.sub d).al,j∈v.al:=by unfold Vl.sub Vl.cl;split;intro j hj;cases hj;intro j hj;exact hj
theorem pB{v:Vl}:(v.sub d).fr=false:=by unfold Vl.sub Vl.cl;split <;> rfl
theorem jI{x:Vl}{ds:List D}{i:Nat}{v:Vl}(h:(items x ds)[i]? = some v):∃d,ds[i]? = some d/\v=x.sub d:=by
 unfold items at h;rw[A5] at h;cases q:ds[i]? with
 | none=>rw[q] at h;cases h|some d=>rw[q] at h;exact⟨d,rfl,(Ah h).symm⟩
theorem iQ(h:rtF RT σ σV al b):exV RT Y old σ σV pa al b:=.inl h
theorem nD:∀(as bs:List D),(iI as bs).length=min as.length bs.length
 | [],_=>by simp[iI]|_::_,[]=>by simp[iI]|_::as,_::bs=>by rw[iI,lC,nD as bs,lC,lC];omega
theorem wV:∀{as bs:List D} {i:Nat} {a b:D},as[i]? = some a->bs[i]? = some b->(iI as bs)[i]? = some (.tup [a,b])
 | [],_,_,_,_,h,_=>by simp at h|_::_,[],_,_,_,_,h=>by simp at h|_::_,_::_,0,_,_,h,h'=>by simp at h h';subst h h';rfl|_::as,_::bs,i+1,a,b,h,h'=>by have:=wV (as:=as) (bs:=bs) (i:=i) (a:=a) (b:=b) (by simpa using h) (by simpa using h');simpa[iI] using this
theorem aGr(S:Sx K RT Y old σ σV H){x:Vl}{ds:List D}{a:Addr}{xs:List V}(q:SqL K H a xs)(n:¬ exV RT Y old σ σV x.pa x.al a)(r:Reps K H (exV RT Y old σ σV x.pa x.al) ds xs) :
 zK K RT Y old σ σV H (Itl K a) (items x ds) x.al where
 sub:=λv hv j hj=>by obtain⟨d,_,e⟩:=Av.mp hv;subst e;exact tX j hj
 nofr:=λv hv=>by obtain⟨d,_,e⟩:=Av.mp hv;subst e;exact pB
 ok:=λR hR i H1 k=>by
  have q1:SqL K H1 a xs:=k.seqL (λz=>n (iQ (hR a z))) q;have r1:Reps K H1 (λa=>exV RT Y old σ σV x.pa x.al a\/Nw K H a) ds xs:=r.outN.kp k (λb z=>S.rt b (hR b z).1) λb z=>.inl (iQ (hR b z));have hl:(items x ds).length=xs.length:=by unfold items;rw[lM,r.length]
  refine⟨λhi=>⟨xs,xs[i]'(by omega),q1,Ad (by omega)⟩,λhi=>⟨xs,q1,by omega⟩,λy H' hy v hv=>?_⟩;obtain⟨e,hy⟩:=hy;subst e;obtain⟨d,hd,e⟩:=jI hv;subst e;obtain⟨y',hy',ry⟩:=r1.get hd;rw[hy xs q1] at hy';cases hy';exact⟨aP.refl _,id,RvN.sub ry⟩
theorem aIG(S:Sx K RT Y old σ σV H){x:Vl}{ds:List D}{a:Addr}{xs:List V}(q:SqT K H a xs)(r:Reps K H (exV RT Y old σ σV x.pa x.al) ds xs) :
 zK K RT Y old σ σV H (Itt K a) (items x ds) x.al where
 sub:=λv hv j hj=>by obtain⟨d,_,e⟩:=Av.mp hv;subst e;exact tX j hj
 nofr:=λv hv=>by obtain⟨d,_,e⟩:=Av.mp hv;subst e;exact pB
 ok:=λR hR i H1 k=>by
  have q1:SqT K H1 a xs:=k.seqT (λb z=>S.rt b (hR b z).1) q;have r1:Reps K H1 (λa=>exV RT Y old σ σV x.pa x.al a\/Nw K H a) ds xs:=r.outN.kp k (λb z=>S.rt b (hR b z).1) λb z=>.inl (iQ (hR b z));have hl:(items x ds).length=xs.length:=by unfold items;rw[lM,r.length]
  refine⟨λhi=>⟨xs,xs[i]'(by omega),q1,Ad (by omega)⟩,λhi=>⟨xs,q1,by omega⟩,λy H' hy v hv=>?_⟩;obtain⟨e,hy⟩:=hy;subst e;obtain⟨d,hd,e⟩:=jI hv;subst e;obtain⟨y',hy',ry⟩:=r1.get hd;rw[hy xs q1] at hy';cases hy';exact⟨aP.refl _,id,RvN.sub ry⟩
theorem aDW{lo:Int}{m:Nat}{xs:List Vl}(hx:xs=((List.range m).map λ(k:Nat)=>Vl.cl (.int (lo+(k:Int))))):zK K RT Y old σ σV H (Itr lo m) xs [] where
 sub:=λv hv j hj=>by subst hx;obtain⟨d,_,e⟩:=Av.mp hv;subst e;exact hj
 nofr:=λv hv=>by subst hx;obtain⟨d,_,e⟩:=Av.mp hv;subst e;rfl
 ok:=λR hR i H1 k=>by
  have hl:xs.length=m:=by rw[hx,lM,Cu]
  refine⟨λhi=>(show i<m by omega),λhi=>(show m<=i by omega),λy H' hy v hv=>?_⟩;obtain⟨e,hy⟩:=hy;subst e hy;subst hx;rw[A5] at hv;have hi:i<m:=by have:=(Ay.mp (show((List.range m).map λ(k:Nat)=>Vl.cl (.int (lo+(k:Int))))[i]? = some v by rw[A5];exact hv)).1;simpa using this
  rw[List.getElem?_range hi] at hv;cases hv;exact⟨aP.refl _,id,rfl⟩
theorem aIH{z:Str}(hx:xs=(z.cps.toList.map λn=>Vl.cl (.str ⟨#[n]⟩))):zK K RT Y old σ σV H (Its z) xs [] where
 sub:=λv hv j hj=>by subst hx;obtain⟨d,_,e⟩:=Av.mp hv;subst e;exact hj
 nofr:=λv hv=>by subst hx;obtain⟨d,_,e⟩:=Av.mp hv;subst e;rfl
 ok:=λR hR i H1 k=>by
  have hl:xs.length=z.cps.size:=by rw[hx,lM,Ck]
  refine⟨λhi=>(show i<z.cps.size by omega),λhi=>(show z.cps.size<=i by omega),λy H' hy v hv=>?_⟩;obtain⟨e,c,hc,hy⟩:=hy;subst e hy;subst hx;rw[A5,Array.getElem?_toList,hc] at hv;cases hv;exact⟨aP.refl _,id,rfl⟩
theorem aII(S:Sx K RT Y old σ σV H){ka kb:Bool}{as bs:List D}{a b:Addr}{xs ys:List V}{pa:Bool}{al:List Nat}(qa:Sq ka K H a xs)(qb:Sq kb K H b ys)(na:ka=true->¬ exV RT Y old σ σV pa al a)(nb:kb=true->¬ exV RT Y old σ σV pa al b)
 (ra:Reps K H (exV RT Y old σ σV pa al) as xs) (rb:Reps K H (exV RT Y old σ σV pa al) bs ys):zK K RT Y old σ σV H (Itz K ka kb a b) (items ⟨.non,false,pa,al⟩ (iI as bs)) al where
 sub:=λv hv j hj=>by obtain⟨d,_,e⟩:=Av.mp hv;subst e;exact tX j hj
 nofr:=λv hv=>by obtain⟨d,_,e⟩:=Av.mp hv;subst e;exact pB
 ok:=λR hR i H1 k=>by
  have keep:∀{kk:Bool} {c:Addr} {zs:List V},(kk=true->¬ exV RT Y old σ σV pa al c)->Sq kk K H c zs->Sq kk K H1 c zs:=by
   intro kk c zs nn q;cases kk with
   | true=>exact k.seqL (λz=>nn rfl (iQ (hR c z))) q|false=>exact k.seqT (λb z=>S.rt b (hR b z).1) q
  have qa1:=keep na qa;have qb1:=keep nb qb;have ra1:Reps K H1 (λa=>exV RT Y old σ σV pa al a\/Nw K H a) as xs:=ra.outN.kp k (λb z=>S.rt b (hR b z).1) λb z=>.inl (iQ (hR b z));have rb1:Reps K H1 (λa=>exV RT Y old σ σV pa al a\/Nw K H a) bs ys:=rb.outN.kp k (λb z=>S.rt b (hR b z).1) λb z=>.inl (iQ (hR b z));have hl:(items ⟨.non,false,pa,al⟩ (iI as bs)).length=min xs.length ys.length:=by unfold items;rw[lM,nD,ra.length,rb.length]
  have ge:∀(h1:i<xs.length) (h2:i<ys.length),True:=λ_ _=>trivial;refine⟨λhi=>?_,λhi=>⟨xs,ys,qa1,qb1,by omega⟩,λy H' hy v hv=>?_⟩;have h1:i<xs.length:=by omega
  have h2:i<ys.length:=by omega
  exact⟨xs,ys,xs[i],ys[i],qa1,qb1,Ad h1,Ad h2⟩;obtain⟨p,x,y',rfl,hp,hk,rfl,hh⟩:=hy;obtain⟨hx,hy⟩:=hh xs ys qa1 qb1;obtain⟨d,hd,e⟩:=jI hv;subst e;obtain⟨d1,hd1,rd1⟩:=ra1.get' hx;obtain⟨d2,hd2,rd2⟩:=rb1.get' hy;rw[wV hd1 hd2] at hd;cases hd;have sm:aP H1 (upd H1 p (.tup [x,y'])):=aP.new hp;refine⟨sm,λtk=>tk.new hk,RvN.sub (v:=⟨.non,false,pa,al⟩) ?_⟩;exact⟨p,[x,y'],rfl,SqT.of aS,.cons (rd1.grow sm) (.cons (rd2.grow sm) .nil)⟩
theorem lG:∀(as:List D) (j:Int),(eE j as).length=as.length
 | [],_=>rfl|_::as,j=>by rw[eE,lC,lG as,lC]
theorem rP:∀{as:List D} {i:Nat} {j:Int} {a:D},as[i]? = some a->(eE j as)[i]? = some (.tup [.int (j+(i:Int)),a])
 | [],_,_,_,h=>by simp at h|_::_,0,j,_,h=>by simp at h;subst h;simp[eE]|_::as,i+1,j,a,h=>by
  have:=rP (as:=as) (i:=i) (j:=j+1) (a:=a) (by simpa using h);rw[eE,gS,this];have e:j+1+(i:Int)=j+((i+1:Nat):Int):=by omega
  rw[e]
theorem aGs(S:Sx K RT Y old σ σV H){k:Bool}{as:List D}{a:Addr}{xs:List V}{x:Vl}(qa:Sq k K H a xs)(na:k=true->¬ exV RT Y old σ σV x.pa x.al a)(ra:Reps K H (exV RT Y old σ σV x.pa x.al) as xs) :
 zK K RT Y old σ σV H (Ite K k a) (items x (eE 0 as)) x.al where
 sub:=λv hv j hj=>by obtain⟨d,_,e⟩:=Av.mp hv;subst e;exact tX j hj
 nofr:=λv hv=>by obtain⟨d,_,e⟩:=Av.mp hv;subst e;exact pB
 ok:=λR hR i H1 kp=>by
  have qa1:Sq k K H1 a xs:=by
   cases k with
   | true=>exact kp.seqL (λz=>na rfl (iQ (hR a z))) qa|false=>exact kp.seqT (λb z=>S.rt b (hR b z).1) qa
  have ra1:Reps K H1 (λa=>exV RT Y old σ σV x.pa x.al a\/Nw K H a) as xs:=ra.outN.kp kp (λb z=>S.rt b (hR b z).1) λb z=>.inl (iQ (hR b z));have hl:(items x (eE 0 as)).length=xs.length:=by unfold items;rw[lM,lG,ra.length]
  refine⟨λhi=>⟨xs,xs[i]'(by omega),qa1,Ad (by omega)⟩,λhi=>⟨xs,qa1,by omega⟩,λy H' hy v hv=>?_⟩;obtain⟨p,z,rfl,hp,hk,rfl,hh⟩:=hy;obtain⟨d,hd,e⟩:=jI hv;subst e;obtain⟨d1,hd1,rd1⟩:=ra1.get' (hh xs qa1);rw[rP hd1,Int.zero_add] at hd;cases hd;have sm:aP H1 (upd H1 p (.tup [.int i,z])):=aP.new hp;refine⟨sm,λtk=>tk.new hk,RvN.sub (v:=x) ?_⟩;exact⟨p,[.int i,z],rfl,SqT.of aS,.cons rfl (.cons (rd1.grow sm) .nil)⟩
end
section
variable {X:Cx} {P:Pg} {Γ:Ct} {n:Nat} {RT Y old:Addr->Prop} {σ:Sg} {tg:Expr}
def wI(X:Cx)(P:Pg)(n:Nat)(RT Y old:Addr->Prop)(σ:Sg)(it:Hp.It):TI:=λσV H R=>Sx X.K RT Y old σ σV H/\RE (wx X σV H) (walk P (call P n) σ it) λxs=>∀J H1,Tk X.K H1->aP H H1->zK X.K RT Y old σ σV H1 J xs.1 xs.2->R J H1
theorem pC(h:PI X tg iter t)(f:∀σV H R,Tk X.K H->t' σV H R->t σV H λJ H'=>Tk X.K H'->R J H'):PI X tg iter t':=λpins s σV H R I hw=>thn (h pins s σV H _ I (f σV H R I.tk hw)) λv s1 h1=>thn h1 λitv s2 ⟨it,fp,tn,J,H',e,I',T,st,fo,q⟩=>⟨it,fp,tn,J,H',e,I',T,st,fo,q I'.tk⟩
theorem aLi(ha:PE X e (WE X P n RT Y old σ c)):PI X tg e (wI X P n RT Y old σ (.seq c)):=by
 refine pC (aIF ha) λσV H RR t ⟨S,h⟩=>?_;have h:=RE.bind' (show RE _ (ev P (call P n) σ c >>= λx=>(match x.d with
  | .lst ds=>R.ok (items x ds,x.al)|.tup ds=>R.ok (items x ds,x.al)|.str a=>R.iff (decide (a.length<=lim)) (R.ok (a.cps.toList.map λn=>Vl.cl (.str ⟨#[n]⟩),[]))|_=>.bad)) _ from h)
 refine wE.one S h λx u H1 hx t1 S1 r1=>?_;have rv:=r1.rv S;split at hx;rename_i ds d1;obtain⟨a,xs,e,q,nn,r⟩:=rv.lst d1;exact .inl ⟨a,e,.inl ⟨⟨xs,q⟩,λt'=>hx _ _ t' r1.1 (aGr S1 q nn r)⟩⟩;rename_i ds d1;obtain⟨a,xs,e,q,r⟩:=rv.tup d1;exact .inl ⟨a,e,.inr ⟨⟨xs,q⟩,λt'=>hx _ _ t' r1.1 (aIG S1 q r)⟩⟩;rename_i z d1;obtain⟨c,hx⟩:=hx.iff;exact .inr ⟨z,rv.str d1,λt'=>hx _ _ t' r1.1 (aIH rfl)⟩;exact hx.elim
theorem pD(i j:Int):(fL i j).map Vl.cl=(List.range (j-i).toNat).map λ(k:Nat)=>Vl.cl (.int (i+(k:Int))):=by unfold fL;rw[Bj];rfl
theorem mL(h:aK k=true):-(2 ^ 62)<=k/\k<2 ^ 62:=by unfold aK at h;simp only[bA,Am] at h;exact h
theorem aIJ(M:Mc X P Γ n)(hf:f=("range" : Str))(hg:cY Γ f=true)(ha:PE X e (WE X P n RT Y old σ b))(hp:aV e=true):PI X tg (.Call (.Name f p) [e] [] pos) (wI X P n RT Y old σ (.rng (.c (.int 0)) b)):=by
 subst hf;refine pC (aBF (M.gl hg) (M.md.blt _ (by decide +kernel)) (kK ha wM hp) (aC hp)) λσV H RR t ⟨S,h⟩=>?_;have h:RE _ (ev P (call P n) σ b) λy=>RE _ (match (D.int 0),y.d with|.int i,.int j=>R.iff (aK i&&aK j) (R.ok ((fL i j).map Vl.cl,[]))|_,_=>.bad) _:=
  RE.bind' (show RE _ (ev P (call P n) σ b >>= λy=>(match (D.int 0),y.d with|.int i,.int j=>R.iff (aK i&&aK j) (R.ok ((fL i j).map Vl.cl,[]))|_,_=>.bad)) _ from h)
 refine⟨S,?_⟩;show RE _ (ev P (call P n) σ b >>= λx=>evs P (call P n) σ .z >>= λxs=>R.ok (x::xs)) _;rw[RE.bind];refine h.mono λy hy=>?_;split at hy;rename_i i j e1 e2;cases e1;obtain⟨c,hy⟩:=hy.iff;rw[bA] at c;have c2:=mL c.2;intro us H1 t1 s1 r1;obtain⟨u,r',eu,ru,hr⟩:=r1;rw[show r'=[] from hr] at eu;subst eu;refine⟨j,by rw[ru.int e2],c2.1,c2.2,λt'=>hy _ _ t' s1 (aDW ?_)⟩;rw[pD];simp;exact hy.elim
theorem aIK(M:Mc X P Γ n)(hf:f=("range" : Str))(hg:cY Γ f=true)(ha:PE X ea (WE X P n RT Y old σ a))(hb:PE X eb (WE X P n RT Y old σ b))(hpa:aV ea=true)(hpb:aV eb=true) :
 PI X tg (.Call (.Name f p) [ea,eb] [] pos) (wI X P n RT Y old σ (.rng a b)):=by subst hf;refine pC (aBG (M.gl hg) (M.md.blt _ (by decide +kernel)) (kK ha (kK hb wM hpb) hpa) (by rw[aC hpa,aC hpb];rfl) (aC hpb)) λσV H RR t ⟨S,h⟩=>?_;have h:=RE.bind' (show RE _ (ev P (call P n) σ a >>= λx=>ev P (call P n) σ b >>= λy=>(match x.d,y.d with|.int i,.int j=>R.iff (aK i&&aK j) (R.ok ((fL i j).map Vl.cl,[]))|_,_=>.bad)) _ from h);refine⟨S,?_⟩;show RE _ (ev P (call P n) σ a >>= λx=>evs P (call P n) σ (.k b .z) >>= λxs=>R.ok (x::xs)) _;rw[RE.bind];refine h.mono λx hx=>?_;rw[RE.bind];show RE _ (ev P (call P n) σ b >>= λx=>evs P (call P n) σ .z >>= λxs=>R.ok (x::xs)) _;rw[RE.bind];refine(RE.bind' hx).mono λy hy=>?_;split at hy;rename_i i j e1 e2;obtain⟨c,hy⟩:=hy.iff;rw[bA] at c;have c1:=mL c.1;have c2:=mL c.2;intro us H1 t1 s1 r1;obtain⟨u,r',eu,ru,u2,r2,eu2,ru2,hr⟩:=r1;rw[show r2=[] from hr] at eu2;subst eu2;subst eu;refine⟨i,j,by rw[ru.int e1,ru2.int e2],⟨c1.1,c1.2,c2.1,c2.2⟩,λt'=>hy _ _ t' s1 (aDW ?_)⟩;rw[pD];exact hy.elim
theorem zL{x:Vl}(hx:Rv X.K RT Y old σ σV H x u)(h:gQ x.d=some ds):∃(k:Bool) (a:Addr) (xs:List V),u=.ref a/\Sq k X.K H a xs/\(k=true->¬ exV RT Y old σ σV x.pa x.al a)/\Reps X.K H (exV RT Y old σ σV x.pa x.al) ds xs:=by unfold gQ at h;split at h;rename_i ds' d1;cases h;obtain⟨a,xs,e,q,nn,r⟩:=hx.lst d1;exact⟨true,a,xs,e,q,λ_=>nn,r⟩;rename_i ds' d1;cases h;obtain⟨a,xs,e,q,r⟩:=hx.tup d1;exact⟨false,a,xs,e,q,(λz=>absurd z bN),r⟩;cases h
theorem aLj(M:Mc X P Γ n)(hf:f=("zip" : Str))(hg:cY Γ f=true)(ha:PE X ea (WE X P n RT Y old σ a))(hb:PE X eb (WE X P n RT Y old σ b))(hpa:aV ea=true)(hpb:aV eb=true) :
 PI X (.Tuple elts tk tp) (.Call (.Name f p) [ea,eb] [] pos) (wI X P n RT Y old σ (.zip a b)):=by
 subst hf;refine pC (aIE (M.gl hg) (M.md.blt _ (by decide +kernel)) (kK ha (kK hb wM hpb) hpa) (by rw[aC hpa,aC hpb];rfl) (aC hpb)) λσV H RR t ⟨S,h⟩=>?_;have h:=RE.bind' (show RE _ (ev P (call P n) σ a >>= λx=>ev P (call P n) σ b >>= λy=>(match gQ x.d,gQ y.d with
  | some as,some bs=>R.ok (items ⟨.non,false,x.pa||y.pa,x.al++y.al⟩ (iI as bs),x.al++y.al)|_,_=>.bad)) _ from h)
 refine⟨S,?_⟩;show RE _ (ev P (call P n) σ a >>= λx=>evs P (call P n) σ (.k b .z) >>= λxs=>R.ok (x::xs)) _;rw[RE.bind];refine h.mono λx hx=>?_;rw[RE.bind];show RE _ (ev P (call P n) σ b >>= λx=>evs P (call P n) σ .z >>= λxs=>R.ok (x::xs)) _;rw[RE.bind];refine(RE.bind' hx).mono λy hy=>?_;split at hy;rename_i as bs e1 e2;intro us H1 t1 s1 r1;obtain⟨u,r',eu,ru,u2,r2,eu2,ru2,hr⟩:=r1;rw[show r2=[] from hr] at eu2;subst eu2;subst eu;obtain⟨ka,a1,xs,rfl,qa,na,ra⟩:=zL ru e1;obtain⟨kb,b1,ys,rfl,qb,nb,rb⟩:=zL ru2 e2;have S1:=S.grow s1 t1;have w1:∀c,exV RT Y old σ σV (x.pa||y.pa) (x.al++y.al) c->exV RT Y old σ σV x.pa x.al c:=λc z=>z.mono (λhp=>by rw[hp];rfl) λj hj=>Bm _ hj;have w2:∀c,exV RT Y old σ σV (x.pa||y.pa) (x.al++y.al) c->exV RT Y old σ σV y.pa y.al c:=λc z=>z.mono (λhp=>by rw[hp,Bool.or_true]) λj hj=>Ax _ hj;exact⟨ka,kb,a1,b1,xs,ys,rfl,qa,qb,λt'=>hy _ _ t' s1 (aII S1 qa qb (λhk z=>na hk (w1 _ z)) (λhk z=>nb hk (w2 _ z)) (ra.weak w1) (rb.weak w2))⟩;exact hy.elim
theorem aIL(M:Mc X P Γ n)(hf:f=("enumerate" : Str))(hg:cY Γ f=true)(ha:PE X ea (WE X P n RT Y old σ a))(hpa:aV ea=true) :
 PI X (.Tuple elts tk tp) (.Call (.Name f p) [ea] [] pos) (wI X P n RT Y old σ (.enum a)):=by subst hf;refine pC (aGp (M.gl hg) (M.md.blt _ (by decide +kernel)) (kK ha wM hpa) (aC hpa)) λσV H RR t ⟨S,h⟩=>?_;have h:=RE.bind' (show RE _ (ev P (call P n) σ a >>= λx=>(match gQ x.d with|some as=>R.ok (items x (eE 0 as),x.al)|none=>.bad)) _ from h);refine⟨S,?_⟩;show RE _ (ev P (call P n) σ a >>= λx=>evs P (call P n) σ .z >>= λxs=>R.ok (x::xs)) _;rw[RE.bind];refine h.mono λx hx=>?_;split at hx;rename_i as e1;intro us H1 t1 s1 r1;obtain⟨u,r',eu,ru,hr⟩:=r1;rw[show r'=[] from hr] at eu;subst eu;obtain⟨k,a1,xs,rfl,qa,na,ra⟩:=zL ru e1;exact⟨k,a1,xs,rfl,qa,λt'=>hx _ _ t' s1 (aGs (S.grow s1 t1) qa na ra)⟩;exact hx.elim
end
def gs:List Nat->TGs
 | []=>aKe|i::is=>aHc (qZ i) (gs is)
def gT(K:Fg):T->TG
 | .n i=>qZ i|.t is=>aKf K is.length (gs is)
section
variable {K:Fg} {RT Y old:Addr->Prop} {σ:Sg} {σV:L2.St} {H H':Hp}
theorem set_some{α:Type}{l:List α}{i j:Nat}{x y:α}(e:(l.set i x)[j]? = some y):(i=j/\x=y/\i<l.length)\/(i≠j/\l[j]? = some y):=by by_cases hij:i=j;subst hij;have hl:i<(l.set i x).length:=(Ay.mp e).1;rw[Aw] at hl;rw[Ar hl] at e;cases e;exact .inl ⟨rfl,rfl,hl⟩;rw[Ac hij] at e;exact .inr ⟨hij,e⟩
theorem Sx.setSh(S:Sx K RT Y old σ σV H)(h:Rep K H (λa=>RT a\/exB Y old pa a) d u):Sx K RT Y old (σ.set i (.sh pa d)) (σV.set i (some u)) H where
 sh:=λj pa' d' e=>by
  rcases set_some e with⟨rfl,e,hl⟩|⟨hij,e⟩
  cases e;exact⟨u,Ar (by rw[<-S.len];exact hl),h⟩;obtain⟨v,h1,h2⟩:=S.sh j pa' d' e;exact⟨v,by rw[Ac hij];exact h1,h2⟩
 own:=λj pa' ds e=>by
  rcases set_some e with⟨rfl,e,hl⟩|⟨hij,e⟩
  cases e;obtain⟨a,xs,h1,h2⟩:=S.own j pa' ds e;exact⟨a,xs,by rw[Ac hij];exact h1,h2⟩
 trk:=S.trk
 yo:=S.yo
 tk:=S.tk
 rt:=S.rt
 inj:=λj j' pa' pa'' ds ds' a e1 e2 e3 e4=>by
  rcases set_some e1 with⟨_,e,_⟩|⟨n1,e1⟩
  cases e;rcases set_some e2 with⟨_,e,_⟩|⟨n2,e2⟩
  cases e;rw[Ac n1] at e3;rw[Ac n2] at e4;exact S.inj j j' pa' pa'' ds ds' a e1 e2 e3 e4
 len:=by rw[Aw,Aw];exact S.len
 dx:=S.dx.imp id (λj ds e=>by
  rcases set_some e with⟨_,z,_⟩|⟨hij,e⟩
  cases z;exact⟨e,Ac hij⟩) (λ_ _ _ _ _ _ e=>e) (λ_ _ e z _=>⟨e,z⟩) (λ_ _ r=>r) (λj ds es e=>by
  rcases set_some e with⟨_,z,_⟩|⟨hij,e⟩
  cases z;exact⟨e,Ac hij⟩) (λ_ _ _ _ _ _ _ _ e=>e) λp xs e z=>⟨e,z.1,z.2.1,λk pa' ds q=>by
  rcases set_some q with⟨_,w,_⟩|⟨hij,q⟩
  cases w;rw[Ac hij];exact z.2.2 k pa' ds q⟩
theorem Rep.out{ex:Addr->Prop}(h:Rep K H ex d v)(n:H a=none)(k:K.lookup a=none):Rep K H (λb=>b=a\/ex b) d v:=
 Rep.imp (λ_ _ q=>q) (λb xs nb q=>⟨λz=>z.elim (λz=>by
  subst z;rcases q with(q|⟨o,q⟩)|⟨o,its,m,q,_⟩
  rw[n] at q;cases q;rw[n] at q;cases q;rw[k] at q;cases q) nb,q⟩) (λ⟨c,h1,h2⟩=>⟨c,h1,h2.resolve_left λz=>h1 (by rw[z];exact k)⟩) (λ_ _ _ q=>q) (λ_ _ _ _ q=>q) d v h
theorem Reps.out{ex:Addr->Prop}(h:Reps K H ex d v)(n:H a=none)(k:K.lookup a=none):Reps K H (λb=>b=a\/ex b) d v:=
 Reps.imp (λ_ _ q=>q) (λb xs nb q=>⟨λz=>z.elim (λz=>by
  subst z;rcases q with(q|⟨o,q⟩)|⟨o,its,m,q,_⟩
  rw[n] at q;cases q;rw[n] at q;cases q;rw[k] at q;cases q) nb,q⟩) (λ⟨c,h1,h2⟩=>⟨c,h1,h2.resolve_left λz=>h1 (by rw[z];exact k)⟩) (λ_ _ _ q=>q) (λ_ _ _ _ q=>q) d v h
theorem Sx.storeOwn(S:Sx K RT Y old σ σV H)(s:aP H H')(t:Tk K H')(hn:H a=none)(ha:H' a=some (.lst xs))(r:Reps K H' (λb=>(RT b\/b=a)\/exB Y old pa b) ds xs) :
 Sx K (λb=>RT b\/b=a) Y old (σ.set i (.own pa ds)) (σV.set i (some (.ref a))) H' where
 sh:=λj pa' d' e=>by
  rcases set_some e with⟨rfl,e,hl⟩|⟨hij,e⟩
  cases e;obtain⟨v,h1,h2⟩:=S.sh j pa' d' e;refine⟨v,by rw[Ac hij];exact h1,((h2.out hn (t a (by rw[ha];simp))).grow s).weak λb z=>?_⟩;rcases z with(z|z)|z;exact .inr (.inl z);exact .inl z;exact .inr (.inr z)
 own:=λj pa' ds' e=>by
  rcases set_some e with⟨rfl,e,hl⟩|⟨hij,e⟩
  cases e;exact⟨a,xs,Ar (by rw[<-S.len];exact hl),ha,.inr rfl,λz=>S.trk a (.inr (.inr z)) hn (t a (by rw[ha];simp)),r⟩;obtain⟨a',xs',h1,h2,h3,h4,h5⟩:=S.own j pa' ds' e;refine⟨a',xs',by rw[Ac hij];exact h1,s _ _ h2,.inl h3,h4,((h5.out hn (t a (by rw[ha];simp))).grow s).weak λb z=>?_⟩;rcases z with(z|z)|z;exact .inr (.inl z);exact .inl z;exact .inr (.inr z)
 trk:=λb z q=>by rcases z with(z|z)|z;exact S.trk b (.inl z) (s.free q);rw[z,ha] at q;cases q;exact S.trk b (.inr z) (s.free q)
 yo:=S.yo
 tk:=t
 rt:=λb z=>by rcases z with z|z;exact(S.rt b z).grow s;rw[z];exact .inl ⟨xs,ha⟩
 inj:=λj j' pa' pa'' ds1 ds2 c e1 e2 e3 e4=>by
  have fr:∀{j:Nat} {pa:Bool} {ds:List D},σ[j]? = some (.own pa ds)->σV[j]? = some (some (.ref a))->False:=λ{j pa ds} e q=>by obtain⟨a',xs',h1,h2,_⟩:=S.own j pa ds e;rw[q] at h1;cases h1;rw[hn] at h2;cases h2
  rcases set_some e1 with⟨rfl,e,hl⟩|⟨n1,e1⟩
  rcases set_some e2 with⟨rfl,_,_⟩|⟨n2,e2⟩
  rfl;rw[Ar (by rw[<-S.len];exact hl)] at e3;cases e3;rw[Ac n2] at e4;exact(fr e2 e4).elim;rw[Ac n1] at e3;rcases set_some e2 with⟨rfl,e,hl⟩|⟨n2,e2⟩
  rw[Ar (by rw[<-S.len];exact hl)] at e4;cases e4;exact(fr e1 e3).elim;rw[Ac n2] at e4;exact S.inj j j' pa' pa'' ds1 ds2 c e1 e2 e3 e4
 len:=by rw[Aw,Aw];exact S.len
 dx:=S.dx.imp id (λj ds e=>by
  rcases set_some e with⟨_,z,_⟩|⟨hij,e⟩
  cases z;exact⟨e,Ac hij⟩) (λ_ _ _ _ _ _ e=>e) (λb ys e z _=>⟨s _ _ e,.inl z⟩) (λ_ _ r=>aP.seqT s r) (λj ds es e=>by
  rcases set_some e with⟨_,z,_⟩|⟨hij,e⟩
  cases z;exact⟨e,Ac hij⟩) (λ_ _ _ _ _ _ _ _ e=>e) λp ys e z=>⟨s _ _ e,.inl z.1,z.2.1,λk pa' ds q w=>by
  rcases set_some q with⟨rfl,_,hl⟩|⟨hij,q⟩
  rw[Ar (by rw[<-S.len];exact hl)] at w;cases w;rw[hn] at e;cases e;rw[Ac hij] at w;exact z.2.2 k pa' ds q w⟩
theorem jJ{v:Vl}(h:v.fr=false):v.slot=.sh v.pa v.d:=by unfold Vl.slot;rw[h]
theorem aGt{v:Vl}(h:v.fr=true)(hd:v.d=.lst ds):v.slot=.own v.pa ds:=by unfold Vl.slot;rw[h,hd]
theorem Sx.store(S:Sx K RT Y old σ σV H){v:Vl}(ro:Ro K RT Y old σ σV H H' v u)(t:Tk K H')(i:Nat) :
 ∃RT',Sx K RT' Y old ((freeze σ v.al).set i v.slot) (σV.set i (some u)) H'/\∀b,RT' b->RT b\/H b=none:=by by_cases hf:v.fr=true;obtain⟨s,h⟩:=ro;rw[if_pos hf] at h;obtain⟨a,xs,ds,e1,e2,e3,e4,r⟩:=h;subst e1;rw[aGt hf e2];refine⟨_,(S.frz v.al).storeOwn s t e3.1 e4 (r.weak λb z=>?_),λb z=>z.elim (λz=>.inl z.1) λz=>.inr (by rw[z];exact e3.1)⟩;rcases z with(z|z)|z;exact .inr (.inl z);exact .inl z;exact .inr (.inr z);rw[jJ (by simpa using hf)];exact⟨_,((S.grow ro.1 t).frz v.al).setSh (ro.rv S),λb z=>.inl z.1⟩
theorem aHq:∀{is:List Nat} {us:List V} {σV:L2.St} {H:Hp} {Q:L2.St->Hp->Prop},is.length=us.length->Q ((is.zip us).foldl (λs p=>s.set p.1 (some p.2)) σV) H->gs is us σV H Q
 | [],[],_,_,_,_,h=>⟨rfl,h⟩
 | [],_::_,_,_,_,e,_=>by simp at e|_::_,[],_,_,_,e,_=>by simp at e|i::is,u::us,σV,H,Q,e,h=>⟨u,us,rfl,aHq (is:=is) (us:=us) (by simpa using e) h⟩
theorem wW{v:Vl}:(v.sub d).slot=.sh (!noL d&&v.pa) d:=by
 rw[jJ pB];unfold Vl.sub Vl.cl;split;rename_i h;rw[h];rfl;rename_i h;have:noL d=false:=by simpa using h
 rw[this];rfl
theorem Sx.setAll{v:Vl}:∀{is:List Nat} {ds:List D} {us:List V} {σ:Sg} {σV:L2.St},Sx K RT Y old σ σV H->Reps K H (λa=>RT a\/exB Y old v.pa a) ds us ->
 Sx K RT Y old ((is.zip ds).foldl (λσ p=>σ.set p.1 (v.sub p.2).slot) σ) ((is.zip us).foldl (λs p=>s.set p.1 (some p.2)) σV) H
 | [],_,_,_,_,S,_=>S|_::_,[],us,_,_,S,r=>by rw[show us=[] from r];exact S|i::is,d::ds,us,σ,σV,S,r=>by
  obtain⟨x,r',e,h1,h2⟩:=r;subst e;refine Sx.setAll (v:=v) (is:=is) (ds:=ds) (us:=r') ?_ h2;show Sx K RT Y old (σ.set i (v.sub d).slot) (σV.set i (some x)) H;rw[wW];refine S.setSh ?_;cases hn:noL d with
  | true=>exact Rep.free d x hn h1|false=>exact h1
theorem mM{α:Type}{β:Type}(f:β->α):∀{is:List Nat} {bs:List β} {l:List α} {j:Nat},j∉is->((is.zip bs).foldl (λs p=>s.set p.1 (f p.2)) l)[j]? = l[j]?
 | [],_,_,_,_=>rfl|_::_,[],_,_,_=>rfl|i::is,b::bs,l,j,h=>by
  have h':i≠j/\j∉is:=by refine⟨λe=>h (by simp[e]),λz=>h (Ak _ z)⟩
  rw[Bd,B2,mM f (is:=is) (bs:=bs) h'.2,Ac h'.1]
theorem wX{α:Type}{β:Type}(f:β->α):∀{is:List Nat} {bs:List β} {l:List α},((is.zip bs).foldl (λs p=>s.set p.1 (f p.2)) l).length=l.length
 | [],_,_=>rfl|_::_,[],_=>rfl|i::is,b::bs,l=>by rw[Bd,B2,wX f (is:=is) (bs:=bs),Aw]
theorem fold_mem{α:Type}{β:Type}(f:β->α):∀{is:List Nat} {bs:List β} {l:List α} {j:Nat} {x:α},((is.zip bs).foldl (λs p=>s.set p.1 (f p.2)) l)[j]? = some x->l[j]? = some x\/∃b,x=f b
 | [],_,_,_,_,h=>.inl h|_::_,[],_,_,_,h=>.inl h|i::is,b::bs,l,j,x,h=>by
  rw[Bd,B2] at h;rcases fold_mem f (is:=is) (bs:=bs) h with q|q;rcases set_some q with⟨_,e,_⟩|⟨_,e⟩
  exact .inr ⟨b,e.symm⟩;exact .inl e;exact .inr q
theorem pE{v:Vl}{is:List Nat}(e:bT σ v (.t is)=.ok σ2):∃ds,v.d=.tup ds/\ds.length=is.length/\σ2=(is.zip ds).foldl (λσ p=>σ.set p.1 (v.sub p.2).slot) σ:=by unfold bT at e;simp only at e;split at e;rename_i ds hd;split at e;rename_i hl;cases e;exact⟨ds,hd,hl,rfl⟩;cases e;cases e
theorem pF{v:Vl}(e:bT σ v (.n i)=.ok σ2):σ2=σ.set i v.slot:=by cases(show R.ok (σ.set i v.slot)=R.ok σ2 from e);rfl
theorem aDX{σ2:Sg}(e:bT σ v t=.ok σ2)(h:j∉tIx t):σ2[j]? = σ[j]? := by
 cases t with
 | n i=>rw[pF e];exact Ac λz=>h (by simp[tIx,z])|t is=>obtain⟨ds,_,_,e⟩:=pE e;rw[e];exact mM (λd=>(v.sub d).slot) h
theorem aDY{σ2:Sg}(e:bT σ v t=.ok σ2):σ2.length=σ.length:=by
 cases t with
 | n i=>rw[pF e,Aw]|t is=>obtain⟨ds,_,_,e⟩:=pE e;rw[e];exact wX (λd=>(v.sub d).slot)
theorem aDZ{v:Vl}{t:T}{σ2:Sg}{j:Nat}{pa:Bool}{ds:List D}(hf:v.fr=false)(e:bT σ v t=.ok σ2)(h:σ2[j]? = some (.own pa ds)):σ[j]? = some (.own pa ds):=by
 cases t with
 | n i=>
  rw[pF e,jJ hf] at h;rcases set_some h with⟨_,e,_⟩|⟨_,e⟩
  cases e;exact e
 | t is=>
  obtain⟨ds',_,_,e⟩:=pE e;rw[e] at h;rcases fold_mem (λd=>(v.sub d).slot) h with q|⟨b,q⟩
  exact q;rw[wW] at q;cases q
theorem aEa(S:Sx K RT Y old σ σV H){v:Vl}{Q:L2.St->Hp->Prop}(hfr:v.fr=false)(h:Rep K H (λa=>RT a\/exB Y old v.pa a) v.d u)(e:bT σ v t=.ok σ2)
 (q:∀σ2V,Sx K RT Y old σ2 σ2V H->(∀j,j∉tIx t->σ2V[j]? = σV[j]?)->Q σ2V H):gT K t u σV H Q:=by
 cases t with
 | n i=>rw[pF e,jJ hfr] at q;exact q _ (S.setSh h) λj hj=>Ac λz=>hj (by simp[tIx,z])|t is=>obtain⟨ds,hd,hl,e⟩:=pE e;rw[hd] at h;obtain⟨a,xs,rfl,hq,r⟩:=h;have l2:=r.length;refine⟨a,xs,rfl,hq,by omega,aHq (by omega) (q _ ?_ λj hj=>?_)⟩;rw[e];exact S.setAll r;exact mM (λd=>some d) hj
end
section
variable {X:Cx} {P:Pg} {Γ:Ct} {n:Nat} {RT Y old:Addr->Prop} {σ:Sg} {tg:Expr} {pos:Pos}
theorem wY(M:Mc X P Γ n):∀{is:List Nat} {es:List Expr},is.length=es.length->((is.zip es).all λp=>match p.2 with|.Name x _=>bJ Γ p.1 x|_=>false)=true ->
 PGs X es (gs is)/\(assignEach es X.env).length=is.length/\(assignEach es X.env).findIdx? (·.1)=none
 | [],[],_,_=>⟨aFx,rfl,rfl⟩
 | [],_::_,e,_=>by simp at e|_::_,[],e,_=>by simp at e|i::is,e::es,hl,h=>by
  rw[Bd,Dr,bA] at h;obtain⟨h1,h2,h3⟩:=wY M (is:=is) (es:=es) (by simpa using hl) h.2;cases e with
  | Name x p=>have hs:bJ Γ i x=true:=h.1;unfold bJ at hs;simp only[bA,Ci] at hs;have e1:assignEach (.Name x p::es) X.env=(false,assign (.Name x p) X.env)::assignEach es X.env:=rfl;refine⟨aCM (aAq M.nd (by rw[M.N];exact hs.1.1) (M.loc hs.1.2) (M.st x hs.1.2)) h1 (by rw[e1];rfl),?_,?_⟩;rw[e1,lC,lC,h2];rw[e1,List.findIdx?_cons];simp[h3]|_=>cases h.1
theorem aGu(M:Mc X P Γ n)(h:qV Γ t tg=true):PG X tg (gT X.K t):=by
 cases t with
 | n i=>
  cases tg with
  | Name x p=>have hs:bJ Γ i x=true:=h;unfold bJ at hs;simp only[bA,Ci] at hs;exact aAq M.nd (by rw[M.N];exact hs.1.1) (M.loc hs.1.2) (M.st x hs.1.2)|_=>cases h
 | t is=>
  cases tg with
  | Tuple es k p=>have h:(is.length==es.length&&(is.zip es).all λp=>match p.2 with|.Name x _=>bJ Γ p.1 x|_=>false)=true:=h;rw[bA,Ci] at h;obtain⟨h1,h2,h3⟩:=wY M h.1 h.2;exact aHQ M.calm h1 h2 h3|_=>cases h
def ch0(k:Nat)(caps:List Nat)(σ:Sg):Sg:=List.replicate k .x++caps.map λi=>(σ[i]?).getD .x
theorem ch0_get{caps:List Nat}{σ:Sg}(h:(ch0 k caps σ)[j]? = some s):s=.x\/∃j' i,j=k+j'/\caps[j']? = some i/\σ[i]? = some s:=by
 unfold ch0 at h;by_cases hj:j<k;rw[Bv (by simpa using hj),Cc,if_pos hj] at h;cases h;exact .inl rfl;rw[Bg (by simpa using hj),Ba,A5] at h;cases e:caps[j-k]? with
 | none=>rw[e] at h;cases h|some i=>
  rw[e] at h;have h':(σ[i]?).getD .x=s:=Ah h;cases q:σ[i]? with
  | none=>rw[q] at h';exact .inl h'.symm|some z=>rw[q] at h';exact .inr ⟨j-k,i,by omega,e,by rw[q];exact congrArg some h'⟩
theorem aEb(hj:j<k)(h:(ch0 k caps σ)[j]? = some s):s=.x:=by unfold ch0 at h;rw[Bv (by simpa using hj),Cc,if_pos hj] at h;cases h;rfl
theorem nV{caps:List Nat}{σV:L2.St}(e:caps[j]? = some i)(h:σV[i]? = some (some v)):(kH k caps σV)[k+j]? = some (some v):=by unfold kH;rw[Bg (by simp),Ba,A5,Bc,e];show some ((σV[i]?).getD none)=_;rw[h];rfl
theorem nW{caps:List Nat}{σV:L2.St}(e:caps[j]? = some i)(h:(kH k caps σV)[k+j]? = some (some v)):σV[i]? = some (some v):=by
 unfold kH at h;rw[Bg (by simp),Ba,A5,Bc,e] at h;have h':(σV[i]?).getD none=some v:=Ah h;cases q:σV[i]? with
 | none=>rw[q] at h';cases h'|some z=>rw[q] at h';exact congrArg some h'
theorem jK{α:Type}:∀{l:List α},l.Nodup->∀{i j:Nat} {x:α},l[i]? = some x->l[j]? = some x->i=j
 | [],_,_,_,_,h,_=>by simp at h|a::l,hn,0,0,_,_,_=>rfl|a::l,hn,0,j+1,x,h1,h2=>by
  have e:a=x:=by simpa using h1
  have:x∈l:=mG (by simpa using h2);subst e;exact absurd this (Cv.mp hn).1
 | a::l,hn,i+1,0,x,h1,h2=>by
  have e:a=x:=by simpa using h2
  have:x∈l:=mG (by simpa using h1);subst e;exact absurd this (Cv.mp hn).1
 | a::l,hn,i+1,j+1,x,h1,h2=>congrArg (·+1) (jK (Cv.mp hn).2 (i:=i) (j:=j) (x:=x) (by simpa using h1) (by simpa using h2))
theorem Sx.child{K:Fg}{σV:L2.St}{H:Hp}(S:Sx K RT Y old σ σV H){k:Nat}{caps:List Nat}(nd:caps.Nodup):Sx K RT Y old (ch0 k caps σ) (kH k caps σV) H where
 sh:=λj pa d e=>by
  rcases ch0_get e with z|⟨j',i,rfl,hc,hs⟩
  cases z;obtain⟨v,h1,h2⟩:=S.sh i pa d hs;exact⟨v,nV hc h1,h2⟩
 own:=λj pa ds e=>by
  rcases ch0_get e with z|⟨j',i,rfl,hc,hs⟩
  cases z;obtain⟨a,xs,h1,h2⟩:=S.own i pa ds hs;exact⟨a,xs,nV hc h1,h2⟩
 trk:=S.trk
 yo:=S.yo
 tk:=S.tk
 rt:=S.rt
 inj:=λj1 j2 pa pa' ds ds' a e1 e2 e3 e4=>by
  rcases ch0_get e1 with z|⟨j1',i1,rfl,hc1,hs1⟩
  cases z;rcases ch0_get e2 with z|⟨j2',i2,rfl,hc2,hs2⟩
  cases z;have:=S.inj i1 i2 pa pa' ds ds' a hs1 hs2 (nW hc1 e3) (nW hc2 e4);subst this;rw[jK nd hc1 hc2]
 len:=by unfold ch0 kH;rw[lA,lA,lM,lM,Ba,Ba]
 dx:=S.dx.imp (λj=>(caps[j-k]?).getD 0) (λj ds e=>by
  rcases ch0_get e with z|⟨j',i,rfl,hc,hs⟩
  cases z;rw[Bc,hc];refine⟨hs,?_⟩;obtain⟨a,xs,h1,_⟩:=S.dx.at' i ds hs;rw[nV hc h1];exact h1.symm) (λj1 j2 ds ds' e1 e2 q=>by
  rcases ch0_get e1 with z|⟨j1',i1,rfl,hc1,_⟩
  cases z;rcases ch0_get e2 with z|⟨j2',i2,rfl,hc2,_⟩
  cases z;rw[Bc,Bc,hc1,hc2] at q;have q:i1=i2:=q;subst q;rw[jK nd hc1 hc2]) (λ_ _ e z _=>⟨e,z⟩) (λ_ _ r=>r) (λj ds es e=>by
  rcases ch0_get e with z|⟨j',i,rfl,hc,hs⟩
  cases z;rw[Bc,hc];refine⟨hs,?_⟩;obtain⟨a,_,_,_,h1,_⟩:=S.dx.at2 i ds es hs;rw[nV hc h1];exact h1.symm) (λj1 j2 ds es ds' es' e1 e2 q=>by
  rcases ch0_get e1 with z|⟨j1',i1,rfl,hc1,_⟩
  cases z;rcases ch0_get e2 with z|⟨j2',i2,rfl,hc2,_⟩
  cases z;rw[Bc,Bc,hc1,hc2] at q;have q:i1=i2:=q;subst q;rw[jK nd hc1 hc2]) λp xs e z=>⟨e,z.1,z.2.1,λj pa ds q w=>by
  rcases ch0_get q with v|⟨j',i,rfl,hc,hs⟩
  cases v;exact z.2.2 i pa ds hs (nW hc w)⟩
theorem Sx.forget{K:Fg}{σ':Sg}{σV:L2.St}{H:Hp}(S:Sx K RT Y old σ σV H)(hl:σ'.length=σ.length)(h:∀(j:Nat) (s:Sl),σ'[j]? = some s->s=.x\/σ[j]? = some s):Sx K RT Y old σ' σV H where
 sh:=λj pa d e=>by rcases h j _ e with z|z;cases z;exact S.sh j pa d z
 own:=λj pa d e=>by rcases h j _ e with z|z;cases z;exact S.own j pa d z
 trk:=S.trk
 yo:=S.yo
 tk:=S.tk
 rt:=S.rt
 inj:=λj1 j2 pa pa' ds ds' a e1 e2 e3 e4=>by rcases h j1 _ e1 with z|z1;cases z;rcases h j2 _ e2 with z|z2;cases z;exact S.inj j1 j2 pa pa' ds ds' a z1 z2 e3 e4
 len:=by rw[hl];exact S.len
 dx:=S.dx.imp id (λj ds e=>(h j _ e).elim (λz=>by cases z) λz=>⟨z,rfl⟩) (λ_ _ _ _ _ _ e=>e) (λ_ _ e z _=>⟨e,z⟩) (λ_ _ r=>r) (λj ds es e=>(h j _ e).elim (λz=>by cases z) λz=>⟨z,rfl⟩) (λ_ _ _ _ _ _ _ _ e=>e) λp xs e z=>⟨e,z.1,z.2.1,λk pa ds q=>(h k _ q).elim (λw=>by cases w) λw=>z.2.2 k pa ds w⟩
def wTs(X:Cx)(P:Pg)(n:Nat)(RT Y old:Addr->Prop)(σ:Sg)(cs:Es):TT:=λσV H Q=>Sx X.K RT Y old σ σV H/\RE (wx X σV H) (tsts P (call P n) σ cs) λk=>∀H',Tk X.K H'->aP H H'->Q k H'
def aCg(K:Fg)(P:Pg)(n:Nat)(RT Y old:Addr->Prop)(σ:Sg)(cs:Es):TT:=λσV H Q=>Sx K RT Y old σ σV H/\RE (λ_=>False) (tsts P (call P n) σ cs) λk=>∀H',Tk K H'->aP H H'->Q k H'
def clW(K:Fg)(W:Value->L2.St->Hp->Prop)(σV:L2.St)(H:Hp):D->Prop
 | .err c fs=>∀cls:Value,Kc K H c fs cls->W cls σV H|_=>False
theorem clW.xw{X:Cx}{W:Value->L2.St->Hp->Prop}(h:Rs X W)(z:clW X.K W σV H x):XW X σV H x:=by
 cases x with
 | err c fs=>exact λcls q pins s a I fl=>h pins σV H s a cls I fl (z cls q)|_=>exact z
def wE0(K:Fg)(P:Pg)(n:Nat)(W:Value->L2.St->Hp->Prop)(RT Y old:Addr->Prop)(σ:Sg)(c:E):TE:=λσV H Q=>Sx K RT Y old σ σV H/\RE (λx=>∀H',Tk K H'->aP H H'->clW K W σV H' x) (ev P (call P n) σ c) λv=>∀u H',Tk K H'->Ro K RT Y old σ σV H H' v u->Q u H'
theorem aAK(h:PTs X es (wTs X P n RT Y old σ cs)):PTs X es (aCg X.K P n RT Y old σ cs):=λpins s σV H Q I ⟨S,q⟩=>h pins s σV H Q I ⟨S,q.weak λ_ z=>z.elim⟩
theorem aEc{W:Value->L2.St->Hp->Prop}(rs:Rs X W)(h:PE X e (WE X P n RT Y old σ c)):PE X e (wE0 X.K P n W RT Y old σ c):=λpins s σV H Q I ⟨S,q⟩=>h pins s σV H Q I ⟨S,q.weak λ_ z H' t s'=>clW.xw rs (z H' t s')⟩
theorem aIM:PTs X [] (wTs X P n RT Y old σ .z):=λpins s σV H Q I ⟨S,h⟩=>aFZ pins s σV H Q I ((show ∀H',Tk X.K H'->aP H H'->Q true H' from h) H I.tk (aP.refl H))
theorem aIN(h:PT X e (WT X P n RT Y old σ c)):PTs X [e] (wTs X P n RT Y old σ (.k c .z)):=λpins s σV H Q I ⟨S,hh⟩=>aGa h pins s σV H Q I ⟨S,by
 have hh:=RE.bind' (show RE _ (tst P (call P n) σ c >>= λx=>if x=true then tsts P (call P n) σ .z else R.ok false) _ from hh);refine hh.mono λk hk=>?_;cases k with
 | true=>exact hk|false=>exact hk⟩
theorem Rvs.append{K:Fg}{σV:L2.St}{H:Hp}:∀{vs ws:List Vl} {us zs:List V},Rvs K RT Y old σ σV H vs us->Rvs K RT Y old σ σV H ws zs->Rvs K RT Y old σ σV H (vs++ws) (us++zs)
 | [],_,_,_,h,q=>by rw[show _=[] from h];exact q|v::vs,_,_,_,h,q=>by obtain⟨u,r,e,h1,h2⟩:=h;subst e;exact⟨u,_,rfl,h1,Rvs.append h2 q⟩
def lv(k:Nat)(caps al:List Nat)(v:Vl):Vl:=⟨v.d,false,v.pa,al++v.al.filterMap λj=>caps[j-k]?⟩
theorem mO(σ:Sg)(v:Vl)(t:T):∀z,bT σ v t≠.exc z:=λz q=>by
 unfold bT at q
 repeat' split at q
 all_goals cases q
theorem RE.both{α:Type}{x:R α}{p q:α->Prop}{w w':D->Prop}(h:RE w x p)(f:∀e,w e->x=.exc e->w' e)(g:∀a,p a->q a):RE w' x q:=by
 cases x with
 | ok a=>exact g a h|exc e=>exact f e h rfl|bad=>exact h
theorem aEd{fn:Bool}{k:Nat}{caps:List Nat}{t:T}{it:Hp.It}{cond:Es}{elt:E}(hnd:caps.Nodup)(hk:∀i∈tIx t,i<k)(hcm:(fn||iE elt)=true){σV:L2.St}{H:Hp}{Q:VK}(hw:WE X P n RT Y old σ (.comp k caps t it cond elt) σV H Q) :
 aDy (λc σ H=>fn=true/\RX X c σ H) k caps (wI X P n RT Y old σ it) (gT X.K t) (λσV H Q=>∃RT Y old σ1,aCg X.K P n RT Y old σ1 cond σV H Q) (λW σV H Q=>∃RT Y old σ1,wE0 X.K P n W RT Y old σ1 elt σV H Q) σV H λv H'=>Tk X.K H'->Q v H':=by
 obtain⟨S,h⟩:=hw
 let f:List Nat->Vl->R (Option Vl):=λal x=>bT (ch0 k caps (freeze σ al)) x t >>= λσ1=>(tsts P (call P n) σ1 cond).calm >>= λb=>if b=true then (ev P (call P n) σ1 elt >>= λy=>R.ok (some y)) else R.ok none
 have h:=RE.bind' (show RE _ (walk P (call P n) σ it >>= λxs=>R.iff (decide (xs.1.length<=lim)) (eH (f xs.2) xs.1 >>= λvs=>R.ok (fB k caps xs.2 vs))) (Wn X RT Y old σ σV H Q) from h);refine⟨S,h.mono λxs hx J H1 t1 s1 ok=>?_⟩;obtain⟨hl,hx⟩:=hx.iff;have hl:=Au hl;have hx:RE (wx X σV H) (eH (f xs.2) xs.1) λvs=>Wn X RT Y old σ σV H Q (fB k caps xs.2 vs):=RE.bind' hx;have S1:=S.grow s1 t1;have Sf:=S1.frz xs.2;refine⟨λi m ys σ1V Hc=>m=xs.1.length-i/\i<=xs.1.length/\aP H1 Hc/\Tk X.K Hc/\Sx X.K (rtF RT σ σV xs.2) Y old (ch0 k caps (freeze σ xs.2)) σ1V Hc/\(∀j,k<=j->σ1V[j]? = (kH k caps σV)[j]?) /\
  ∃ws:List Vl,ws.length<=i/\RE (wx X σV H) (eH (f xs.2) (xs.1.drop i)) (λrs=>Wn X RT Y old σ σV H Q (fB k caps xs.2 (ws++rs)))/\Rvs X.K RT Y old σ σV Hc (ws.map (lv k caps xs.2)) ys,⟨_,rfl,Dd _,aP.refl _,t1,Sf.child hnd,λ_ _=>rfl,[],Ai _,hx,rfl⟩,?_⟩
 rintro i m ys σ1V Hc ⟨hm,hi,sc,tc,Sc,hcap,ws,hws,ego,rvs⟩;have okc:=ok.ok (λ_=>False) (λ_ z=>z.elim) i Hc (Kp.same sc);have hly:=rvs.length;rw[lM] at hly;by_cases hlt:i<xs.1.length;refine .inr ⟨okc.1 hlt,by rw[<-hly,Bz];have:lim=1000000:=rfl;omega,λx H' hy=>?_⟩;have hxi:xs.1[i]? = some xs.1[i]:=Ad hlt;obtain⟨sm,tkf,rv⟩:=okc.2.2 x H' hy xs.1[i] hxi;have rv:Rep X.K H' (exV RT Y old σ σV xs.1[i].pa xs.1[i].al) xs.1[i].d x:=Rep.weak rv λa z=>.inl z;rw[List.drop_eq_getElem_cons hlt] at ego;have ego:=RE.bind' (show RE (wx X σV H) (f xs.2 xs.1[i] >>= λy=>eH (f xs.2) (xs.1.drop (i+1)) >>= λys=>(match y with|some y=>R.ok (y::ys)|none=>R.ok ys)) _ from ego);obtain⟨σ1,eσ,ef⟩:=(RE.bind' (show RE (wx X σV H) (bT (ch0 k caps (freeze σ xs.2)) xs.1[i] t >>= λσ1=>(tsts P (call P n) σ1 cond).calm >>= λb=>if b=true then (ev P (call P n) σ1 elt >>= λy=>R.ok (some y)) else R.ok none) _ from ego)).eqc (mO _ _ _);obtain⟨b,eb,ef⟩:=RE.calmEq (RE.bind' ef);have hmem:xs.1[i]∈xs.1:=A7 hlt;have hnf:=ok.nofr _ hmem;have rep:Rep X.K H' (λa=>rtF RT σ σV xs.2 a\/exB Y old xs.1[i].pa a) xs.1[i].d x:=Rep.weak rv λa z=>by rcases z with z|z;exact .inl ⟨z.1,λq=>z.2 (q.mono (ok.sub _ hmem))⟩;exact .inr z
 refine aEa (Sc.grow sm (tkf tc)) hnf rep eσ λσ2V S2 hkeep=>⟨_,_,_,σ1,S2,?_⟩
 rw[eb];intro H3 t3 s3;have capk:∀j,k<=j->σ2V[j]? = (kH k caps σV)[j]? := λj hj=>by rw[hkeep j λz=>absurd (hk j z) (Dy.mpr hj),hcap j hj]
 have back:∀{H5:Hp},Sx X.K (rtF RT σ σV xs.2) Y old σ1 σ2V H5->Sx X.K (rtF RT σ σV xs.2) Y old (ch0 k caps (freeze σ xs.2)) σ2V H5:=λ{H5} S5=>S5.forget (aDY eσ).symm λj s hs=>by by_cases hj:j∈tIx t;exact .inl (aEb (hk j hj) hs);exact .inr (by rw[aDX eσ hj];exact hs)
 cases b with
 | false=>rw[if_neg bN] at ef ⊢;have ef:RE (wx X σV H) (eH (f xs.2) (xs.1.drop (i+1)) >>= λys=>R.ok ys) λrs=>Wn X RT Y old σ σV H Q (fB k caps xs.2 (ws++rs)):=ef;exact⟨_,by omega,rfl,hlt,sc.trans (sm.trans s3),t3,back (S2.grow s3 t3),capk,ws,by omega,RE.bind' ef,rvs.grow (sm.trans s3)⟩|true=>
  rw[if_pos rfl] at ef ⊢;have ef:=RE.bind' ef;have hwx:∀x,wx X σV H x->ev P (call P n) σ1 elt=.exc x->∀H',Tk X.K H'->aP H3 H'->clW X.K (λc _ H=>fn=true/\RX X c σV H) σ2V H' x:=λx z ex H' t' s'=>by
   have z:=z H' t' (s1.trans (sc.trans (sm.trans (s3.trans s'))));have hf:fn=true:=by
    cases fn with
    | true=>rfl|false=>exact absurd ex (jG (by simpa using hcm) x)
   cases x with
   | err c fs=>exact λcls q=>⟨hf,z cls q⟩
   | _=>exact z
  refine⟨_,_,_,σ1,S2.grow s3 t3,RE.both ef hwx λy ey u H4 t4 ro4=>?_⟩;have ey:RE (wx X σV H) (eH (f xs.2) (xs.1.drop (i+1)) >>= λys=>R.ok (y::ys)) λrs=>Wn X RT Y old σ σV H Q (fB k caps xs.2 (ws++rs)):=ey;have s4:=ro4.1;have rv4:Rep X.K H4 (exV (rtF RT σ σV xs.2) Y old σ1 σ2V y.pa y.al) y.d u:=ro4.rv (S2.grow s3 t3);refine⟨_,by omega,rfl,hlt,sc.trans (sm.trans (s3.trans s4)),t4,back ((S2.grow s3 t3).grow s4 t4),capk,ws++[y],by rw[lA,C5];omega,(RE.bind' ey).mono λrs hr=>by rw[Di];exact hr,?_⟩;rw[Bx];refine(rvs.grow (sm.trans (s3.trans s4))).append ⟨u,[],rfl,?_,rfl⟩;show Rep X.K H4 (exV RT Y old σ σV y.pa (xs.2++y.al.filterMap λj=>caps[j-k]?)) y.d u;refine rv4.weak λc z=>?_;rcases z with⟨z1,z2⟩|z;refine .inl ⟨⟨z1,λq=>z2 (q.mono λj hj=>Bm _ hj)⟩,λq=>z2 ?_⟩;obtain⟨j,hj,⟨pa,ds,ho⟩,hV⟩:=q;have ho:=aDZ hnf eσ ho;rcases ch0_get ho with z|⟨j',i',rfl,hc,hs⟩
  cases z;rw[capk _ (Nat.le_add_right _ _)] at hV;refine⟨i',Ax _ (Cz.mpr ⟨k+j',hj,by rw[Bc];exact hc⟩),⟨pa,ds,(eL hs).1⟩,nW hc hV⟩;exact .inr z
 have hie:i=xs.1.length:=by omega
 subst hie;rw[List.drop_length] at ego;have hq:Wn X RT Y old σ σV H Q (fB k caps xs.2 (ws++[])):=ego;rw[B8] at hq;refine .inl ⟨okc.2.1 (Ai _),by rw[<-hly];exact eT (by omega),λp hp t'=>hq _ _ t' ?_⟩;have Sc':=S.grow (s1.trans sc) tc;have emap:(ws.map (lv k caps xs.2)).map (·.d)=ws.map (·.d):=by rw[Bj];rfl
 have rr:Reps X.K Hc (exV RT Y old σ σV (fA ws) (xs.2++(cN ws).filterMap λj=>caps[j-k]?)) (ws.map (·.d)) ys:=by rw[<-emap];refine rvs.reps λv hv=>?_;obtain⟨w,hw,e⟩:=Av.mp hv;subst e;refine⟨λz=>vU hw z,λj hj=>?_⟩;rcases B7.mp hj with z|z;exact Bm _ z;obtain⟨j',hj',e⟩:=Cz.mp z;exact Ax _ (Cz.mpr ⟨j',nC hw j' hj',e⟩)
 unfold fB;split;rename_i hn;exact(Ro.fresh hp t' rfl rfl Sc' (Reps.free _ _ hn rr)).from (s1.trans sc)
 exact(Ro.fresh hp t' rfl rfl Sc' rr).from (s1.trans sc)
theorem aIO(M:Mc X P Γ n){k:Nat}{caps:List Nat}{t:T}{it:Hp.It}{cond:Es}{elt:E}{e iter:Expr}{ifs:List Expr}{scope:Scope}{N':List Str}(CS:dI X scope k caps N')(hnd:caps.Nodup)(hk:∀i∈tIx t,i<k)(hcm:(Γ.fn||iE elt)=true)
 (hi:PI X tg iter (wI X P n RT Y old σ it))
 (hch:∀C s₀ H₀ ex,PG (cW X scope N' C s₀ H₀ ex) tg (gT X.K t)/\(∀RT Y old σ1,PTs (cW X scope N' C s₀ H₀ ex) ifs (aCg X.K P n RT Y old σ1 cond))/\∀pl E W,PassesOwn (model X.prog X.w) X.A (cW X scope N' C s₀ H₀ ex).env E->Rs ((cW X scope N' C s₀ H₀ ex).inTry pl E) W->∀RT Y old σ1,PE ((cW X scope N' C s₀ H₀ ex).inTry pl E) e (wE0 X.K P n W RT Y old σ1 elt))
 (hs:∀x,foldedSetIterable iter X.env x=pure x):PE X (.ListComp e [⟨tg,iter,ifs,0⟩] scope pos) (WE X P n RT Y old σ (.comp k caps t it cond elt)):=by refine(aAH (g:=gT X.K t) (tt:=λσV H Q=>∃RT Y old σ1,aCg X.K P n RT Y old σ1 cond σV H Q) (te:=λW σV H Q=>∃RT Y old σ1,wE0 X.K P n W RT Y old σ1 elt σV H Q) (WX:=λc σ H=>Γ.fn=true/\RX X c σ H) CS M.calm hi (λC s₀ H₀ ex=>?_) (λc σ H z=>⟨M.stk z.1,z.2⟩) hs).imp λσV H Q t0 hw=>aEd hnd hk hcm hw;obtain⟨h1,h2,h3⟩:=hch C s₀ H₀ ex;exact⟨h1,λpins s σV H Q I ⟨RT,Y,old,σ1,hw⟩=>h2 RT Y old σ1 pins s σV H Q I hw,λpl E W own rs pins s σV H Q I ⟨RT,Y,old,σ1,hw⟩=>h3 pl E W own rs RT Y old σ1 pins s σV H Q I hw⟩
end
section
variable {X:Cx} {P:Pg} {n:Nat} {RT Y old:Addr->Prop} {σ:Sg} {pos:Pos}
end
end Hp
end
noncomputable section
namespace L2
open PySem PySem.Spec PyProof.Rows
section
variable {prog:Program} {w:World} {A:Around} {E:Value->Shared->Prop} {s:Shared}
end
section
variable {prog:Program} {w:World} {A:Around} {s:Shared} {R:Result->Shared->Prop}
variable {ka kb:Bool} {z TI TO i1 i2 l1 l2 S:Nat} {xs ys:Array Value}
end
section
variable {prog:Program} {w:World} {A:Around} {E:Value->Shared->Prop} {s:Shared} {R:Result->Shared->Prop}
variable {ka kb:Bool} {z TI TO i1 i2 l1 l2:Nat} {xs ys:Array Value}
end
section
variable {X:Cx} {pins:List (Addr×Obj)} {σ:St} {H H':Hp} {s:Shared} {h':Heap}
end
end L2
end
noncomputable section
namespace Hp
open PySem PySem.Spec PyProof.Rows L2
section
variable {X:Cx} {P:Pg} {n:Nat} {Γ:Ct} {RT Y old:Addr->Prop} {σ:Sg}
end
end Hp
end
noncomputable section
set_option maxHeartbeats 8000000
namespace Hp
open PySem PySem.Spec PyProof.Rows L2
section
variable {P:Pg} {n:Nat}
theorem wZ{X:Cx}{Γ:Ct}(M:Mc X P Γ n)(scope:Scope):(relabel scope X.env).names=oP Γ.sc scope.names:=by
 unfold relabel oP;simp only;refine Cm λp hp=>?_;obtain⟨m,k⟩:=p;have e1:(X.env.scope.kind==ScopeKind.function)=true:=by rw[M.fk];rfl
 have e2:X.env.kindOf m=Γ.sc.lookup m:=by unfold Env.kindOf;rw[M.sc]
 simp only[e1,e2,Bool.and_true]
abbrev chN(Γ:Ct)(tg:Expr)(caps:List Nat):List Str:=gF tg++caps.filterMap λi=>Γ.N[i]?
abbrev zM(Γ:Ct)(tg:Expr)(caps:List Nat)(scope:Scope):Ct:={ Γ with N:=chN Γ tg caps,sc:=oP Γ.sc scope.names,fn:=false }
structure aEe (Γ:Ct) (tg:Expr) (caps:List Nat) (scope:Scope) (k:Nat) (t:T) (elt:E):Prop where
 len:(gF tg).length=k
 lt:∀i∈caps,i<Γ.N.length
 ndc:caps.Nodup
 kind:scope.kind=.function
 nd:(chN Γ tg caps).Nodup
 cap:∀x∈caps.filterMap (λi=>Γ.N[i]?),scope.names.lookup x=some .free/\Γ.sc.lookup x=some .cell
 all:∀p∈scope.names,p.2≠.cell/\(p.2=.local->scope.names.lookup p.1=some .local)/\(p.2=.free->Γ.sc.lookup p.1=some .cell)
 tk:∀i∈tIx t,i<k
 cm:(Γ.fn||iE elt)=true
theorem tY{N:List Str}:∀{caps:List Nat},(∀i∈caps,i<N.length)->∀{j i:Nat},caps[j]? = some i->(caps.filterMap λi=>N[i]?)[j]? = N[i]?/\(caps.filterMap λi=>N[i]?).length=caps.length
 | [],_,_,_,h=>by simp at h|c::cs,hl,j,i,h=>by
  have hc:N[c]? = some N[c]! := by have:=hl c As;simp[this]
  rw[List.filterMap_cons_some hc];have hl':∀i∈cs,i<N.length:=λi hi=>hl i (Ak _ hi);have len:(cs.filterMap λi=>N[i]?).length=cs.length:=by
   cases cs with
   | nil=>rfl|cons c' cs'=>exact(tY hl' (j:=0) (i:=c') rfl).2
  refine⟨?_,by rw[lC,lC,len]⟩;cases j with
  | zero=>
   have e:c=i:=by simpa using h
   subst e;rw[gZ,hc]
  | succ j=>rw[gS];exact(tY hl' (j:=j) (i:=i) (by simpa using h)).1
theorem aIP{N:List Str}{caps:List Nat}(h:∀i∈caps,i<N.length):(caps.filterMap λi=>N[i]?).length=caps.length:=by
 cases caps with
 | nil=>rfl|cons c cs=>exact(tY h (j:=0) (i:=c) rfl).2
theorem aEe.scope{X:Cx}{Γ:Ct}{tg:Expr}{caps:List Nat}{scope:Scope}{k:Nat}{t:T}{elt:E}(O:aEe Γ tg caps scope k t elt)(M:Mc X P Γ n):dI X scope k caps (chN Γ tg caps) where
 kind:=O.kind
 nocell:=λy hy=>(O.all y hy).1
 loc:=λy hy e=>(O.all y hy).2.1 e
 free:=λm hm=>.inl (by
  have:=(O.all _ hm).2.2 rfl;show X.env.scope.names.lookup m=_;rw[M.sc];exact this)
 len:=by rw[lA,O.len,aIP O.lt]
 cap:=λj i e=>by have hi:=O.lt i (mG e);have hx:Γ.N[i]? = some Γ.N[i]:=Ad hi;have hg:=(tY O.lt e).1;rw[hx] at hg;obtain⟨h1,h2⟩:=O.cap _ (mG hg);refine⟨Γ.N[i],?_,by rw[M.N];exact hx,h1,?_⟩;show(gF tg++_)[k+j]? = _;rw[Bg (by rw[O.len];omega),O.len,Bc];exact hg;show X.env.scope.names.lookup _=_;rw[M.sc];exact h2
 ndp:=M.nd
theorem aEe.mc{X:Cx}{Γ:Ct}{tg:Expr}{caps:List Nat}{scope:Scope}{k:Nat}{t:T}{elt:E}(O:aEe Γ tg caps scope k t elt)(M:Mc X P Γ n)(C:Addr)(s₀:Shared)(H₀:Hp)(ex:List Addr) :
 Mc (cW X scope (chN Γ tg caps) C s₀ H₀ ex) P (zM Γ tg caps scope) n where
 md:=⟨M.md.fn,M.md.blt,M.md.cns,M.md.tab,M.md.exc,M.md.rsd,M.md.pls,M.md.cls⟩
 N:=rfl
 nd:=O.nd
 sc:=wZ M scope
 calm:=M.calm
 room:=M.room
 own:=PassesOwn.never
 st:=λx h=>.inr (by
  show(relabel scope X.env).names.lookup x=_;rw[wZ M scope];unfold vS at h;have h:(match (oP Γ.sc scope.names).lookup x with|some .local=>true|some .cell=>false|_=>false)=true:=h;split at h;rename_i e;exact e;cases h;cases h)
 fk:=O.kind
 stk:=λz=>nomatch z
theorem xA:chkI Γ tt (.rng a b) e=oS (nK e) λp=>(p.1==("range" : Str))&&cY Γ p.1&&(match p.2 with
 | [x]=>yX a&&aY Γ b x|[x,y]=>aY Γ a x&&aY Γ b y|_=>false):=rfl
theorem xB:chkI Γ tt (.zip a b) e=oS (nK e) λp=>(match p.2 with
 | [x,y]=>tt&&(p.1==("zip" : Str))&&cY Γ p.1&&aY Γ a x&&aY Γ b y|_=>false):=rfl
theorem rQ:chkI Γ tt (.enum a) e=oS (nK e) λp=>(match p.2 with
 | [x]=>tt&&(p.1==("enumerate" : Str))&&cY Γ p.1&&aY Γ a x|_=>false):=rfl
theorem kM(h:chkI Γ tt it e=true):aV e=true:=by
 cases it with
 | seq c=>exact aQ (c:=c) (by exact h)|rng a b=>rw[xA] at h;obtain⟨_,⟨_,_,rfl⟩,_⟩:=aG h;rfl|zip a b=>rw[xB] at h;obtain⟨_,⟨_,_,rfl⟩,_⟩:=aG h;rfl|enum a=>rw[rQ] at h;obtain⟨_,⟨_,_,rfl⟩,_⟩:=aG h;rfl|rev a=>cases h
theorem aGv{RT Y old:Addr->Prop}(h:tst P (call P n) σ c=.bad):PT X e (WT X P n RT Y old σ c):=λpins s σV H Q I ⟨S,hh⟩=>by rw[h] at hh;exact hh.elim
theorem gH(h:(a&&b&&c)=true):a=true/\b=true/\c=true:=by cases a <;> cases b <;> cases c <;> first|exact⟨rfl,rfl,rfl⟩|cases h
theorem dN(h:(a&&b)=true):a=true/\b=true:=by cases a <;> cases b <;> first|exact⟨rfl,rfl⟩|cases h
theorem aCh(h:(a&&b&&c&&d)=true):a=true/\b=true/\c=true/\d=true:=by obtain⟨h1,h2,h3⟩:=gH h;obtain⟨h1,h4⟩:=dN h1;exact⟨h1,h4,h2,h3⟩
theorem zN(h:(a&&b&&c&&d&&e)=true):a=true/\b=true/\c=true/\d=true/\e=true:=by obtain⟨h1,h2,h3,h4⟩:=aCh h;obtain⟨h1,h5⟩:=dN h1;exact⟨h1,h5,h2,h3,h4⟩
theorem aAL{Γ:Ct}{k:Nat}{caps:List Nat}{t:T}{it:Hp.It}{cond:Es}{elt:E}{e:Expr}(h:aY Γ (.comp k caps t it cond elt) e=true) :
 ∃el tg iter ifs scope pos,e=.ListComp el [⟨tg,iter,ifs,0⟩] scope pos/\aEe Γ tg caps scope k t elt/\ifs.length<=1/\qV (zM Γ tg caps scope) t tg=true/\chkI Γ (oQ tg) it iter=true/\chkEs (zM Γ tg caps scope) cond ifs=true/\aY (zM Γ tg caps scope) elt el=true:=by
 obtain⟨⟨el,gens,scope⟩,h1,g⟩:=aG h;clear h;obtain⟨pos,rfl⟩:=h1;have h:=g;clear g;rcases gens with _|⟨⟨tg,iter,ifs,as⟩,_|⟨_,_⟩⟩
 cases h;have h:(as==0&&(gF tg).length==k&&(caps.all λi=>decide (i<Γ.N.length))&&decide caps.Nodup&&scope.kind==.function&&decide (gF tg++caps.filterMap λi=>Γ.N[i]?).Nodup &&
  ((caps.filterMap λi=>Γ.N[i]?).all λx=>scope.names.lookup x==some .free&&Γ.sc.lookup x==some .cell) &&
  (scope.names.all λp=>p.2 != .cell&&(p.2 != .local||scope.names.lookup p.1==some .local)&&(p.2 != .free||Γ.sc.lookup p.1==some .cell)) &&
  ((tIx t).all λi=>decide (i<k))&&decide (ifs.length<=1)&&(Γ.fn||iE elt) &&
  qV (zM Γ tg caps scope) t tg&&chkI Γ (oQ tg) it iter&&chkEs (zM Γ tg caps scope) cond ifs&&aY (zM Γ tg caps scope) elt el)=true:=by exact h
 simp only[bA,Ci,Az,Am,A9,bne_iff_ne,ne_eq] at h;obtain⟨⟨⟨⟨⟨⟨⟨⟨⟨⟨⟨⟨⟨⟨h0,h1⟩,h2⟩,h3⟩,h4⟩,h5⟩,h6⟩,h7⟩,h8⟩,h9⟩,hcm⟩,h10⟩,h11⟩,h12⟩,h13⟩:=h;subst h0;refine⟨el,tg,iter,ifs,scope,pos,rfl,⟨h1,h2,h3,h4,h5,h6,λp hp=>?_,h8,by simpa using hcm⟩,h9,h10,h11,h12,h13⟩;obtain⟨⟨q1,q2⟩,q3⟩:=h7 p hp;exact⟨q1,λe=>q2.resolve_left λz=>z e,λe=>q3.resolve_left λz=>z e⟩;cases h
abbrev PEc(P:Pg)(n:Nat)(c:E):Prop:=∀{X:Cx} {Γ:Ct},Mc X P Γ n->∀{e:Expr},aY Γ c e=true->∀(RT Y old:Addr->Prop) (σ:Sg),PE X e (WE X P n RT Y old σ c)
abbrev PTc(P:Pg)(n:Nat)(c:E):Prop:=∀{X:Cx} {Γ:Ct},Mc X P Γ n->∀{e:Expr},aY Γ c e=true->∀(RT Y old:Addr->Prop) (σ:Sg),PT X e (WT X P n RT Y old σ c)
abbrev PWc(P:Pg)(n:Nat)(c:E):Prop:=∀{X:Cx} {Γ:Ct},Mc X P Γ n->∀{o:BoolOp} {xs:List Expr} {pos:Pos},aY Γ c (.BoolOp o xs pos)=true->∀(RT Y old:Addr->Prop) (σ:Sg),PW X (.BoolOp o xs pos) (WT X P n RT Y old σ c)
structure Q3 (P:Pg) (n:Nat) (c:E):Prop where
 e:PEc P n c
 t:PTc P n c
 w:PWc P n c
structure QA (P:Pg) (n:Nat) (cs:Es):Prop where
 a:∀{X:Cx} {Γ:Ct},Mc X P Γ n->∀{es:List Expr},chkEs Γ cs es=true->∀(RT Y old:Addr->Prop) (σ:Sg),PA X es (WA X P n RT Y old σ cs)
 o:∀{X:Cx} {Γ:Ct},Mc X P Γ n->∀{e:Option Expr},chkO Γ cs e=true->∀(RT Y old:Addr->Prop) (σ:Sg),PO X e (wO X P n RT Y old σ cs)
 ts:∀{X:Cx} {Γ:Ct},Mc X P Γ n->∀{es:List Expr},es.length<=1->chkEs Γ cs es=true->∀(RT Y old:Addr->Prop) (σ:Sg),PTs X es (wTs X P n RT Y old σ cs)
abbrev QI(P:Pg)(n:Nat)(it:Hp.It):Prop:=∀{X:Cx} {Γ:Ct},Mc X P Γ n->∀{tg e:Expr},chkI Γ (oQ tg) it e=true->∀(RT Y old:Addr->Prop) (σ:Sg),PI X tg e (wI X P n RT Y old σ it)
theorem Q3.of(h:PEc P n c)(hd:∀σ,tst P (call P n) σ c=.bad)(hw:∀{Γ:Ct} {o:BoolOp} {xs:List Expr} {pos:Pos},aY Γ c (.BoolOp o xs pos)=false):Q3 P n c:=
 ⟨h,λ{X Γ} M {e} z RT Y old σ=>aGv (hd σ),λ{X Γ} M {o xs pos} z RT Y old σ=>absurd (hw.symm.trans z) bN⟩
theorem n_c:Q3 P n (.c d):=by
 have h0:∀{Γ:Ct} {e:Expr},aY Γ (.c d) e=true->(∃c k p,e=.Constant c k p/\eqC d c=true)\/∃x p,e=.Name x p/\cY Γ x=true/\bU x=true/\∃d',Γ.cns.lookup x=some d'/\eqK d d'=true:=λ{Γ e} h=>by rcases(A9 _ _).mp (show(oS (asC e) (eqC d)||oS (asN e) λx=>cY Γ x&&bU x&&oB (Γ.cns.lookup x) (eqK d))=true from h) with h|h;obtain⟨c,h1,g⟩:=aG h;clear h;obtain⟨k,p,rfl⟩:=h1;have h:=g;clear g;exact .inl ⟨c,k,p,rfl,h⟩;obtain⟨x,h1,g⟩:=aG h;clear h;obtain⟨p,rfl⟩:=h1;have h:=g;clear g;obtain⟨h1,h2,h3⟩:=gH h;obtain⟨d',q1,q2⟩:=aDD h3;exact .inr ⟨x,p,rfl,h1,h2,d',q1,q2⟩
 have k:PEc P n (.c d):=λ{X Γ} M {e} h RT Y old σ=>by
  rcases h0 h with⟨c,j,p,rfl,g⟩|⟨x,p,rfl,h1,h2,d',q,h3⟩
  exact s_c g;have e:=aIx h3;subst e;obtain⟨u,v,m,r,hr⟩:=M.md.cns x d q;refine(sU (M.gl h1) m r (aL h2)).imp λσV H Q t ⟨S,hh⟩ t'=>?_;exact(show Wn _ RT Y old σ σV H Q (Vl.cl d) from hh) v H t' (Ro.val (aP.refl H) (hr H))
 refine⟨k,λ{X Γ} M {e} h RT Y old σ=>?_,λ{X Γ} M {o xs pos} h RT Y old σ=>absurd h bN⟩;refine jX (k M h RT Y old σ) ?_ λw p hp=>hp;rcases h0 h with⟨c,j,p,rfl,h⟩|⟨x,p,rfl,_⟩ <;> (intro _;rfl)
theorem n_v:Q3 P n (.v i):=by
 have k:PEc P n (.v i):=λ{X Γ} M {e} h RT Y old σ=>by obtain⟨x,h1,g⟩:=aG h;clear h;obtain⟨p,rfl⟩:=h1;have h:=g;clear g;have h:cP _ i x=true:=h;unfold cP at h;obtain⟨h1,h2,h3⟩:=gH h;exact s_v (by rw[M.N];exact eq_of_beq h1) (M.vis h2) (aL h3) (jD h3)
 refine⟨k,λ{X Γ} M {e} h RT Y old σ=>?_,λ{X Γ} M {o xs pos} h RT Y old σ=>absurd h bN⟩;refine jX (k M h RT Y old σ) ?_ λw p hp=>RE.bind' (show RE _ (bB σ i >>= λx=>eD x) p from hp);obtain⟨x,⟨p,rfl⟩,_⟩:=aG h;intro _;rfl
theorem aNS(ha:Q3 P n a)(hb:Q3 P n b):Q3 P n (.op o a b):=Q3.of (λ{X Γ} M {e} h RT Y old σ=>by
 obtain⟨⟨l,o',r⟩,h1,g⟩:=aG h;clear h;obtain⟨p,rfl⟩:=h1;have h:=g;clear g;obtain⟨h1,h2,h3⟩:=gH h;have e:o=o':=eq_of_beq h1;subst e;exact aNP (ha.e M h2 RT Y old σ) (hb.e M h3 RT Y old σ)) (λ_=>rfl) rfl
theorem aLk(ha:Q3 P n a):Q3 P n (.neg a):=Q3.of (λ{X Γ} M {e} h RT Y old σ=>by
 obtain⟨⟨o,x⟩,h1,g⟩:=aG h;clear h;obtain⟨p,rfl⟩:=h1;have h:=g;clear g;obtain⟨h1,h2⟩:=dN h;have e:o=.USub:=eq_of_beq h1;subst e;exact aKU (ha.e M h2 RT Y old σ)) (λ_=>rfl) rfl
theorem aNT(ha:Q3 P n a):Q3 P n (.nt a):=by
 have h0:∀{Γ:Ct} {e:Expr},aY Γ (.nt a) e=true->∃x p,e=.UnaryOp .Not x p/\aY Γ a x=true:=λ{Γ e} h=>by obtain⟨⟨o,x⟩,h1,g⟩:=aG h;clear h;obtain⟨p,rfl⟩:=h1;have h:=g;clear g;obtain⟨h1,h2⟩:=dN h;have e:o=.Not:=eq_of_beq h1;subst e;exact⟨x,p,rfl,h2⟩
 refine⟨λ{X Γ} M {e} h RT Y old σ=>?_,λ{X Γ} M {e} h RT Y old σ=>?_,λ{X Γ} M {o xs pos} h RT Y old σ=>absurd h bN⟩;obtain⟨x,p,rfl,g⟩:=h0 h;exact aKV (ha.e M g RT Y old σ);obtain⟨x,p,rfl,g⟩:=h0 h;exact nN (ha.t M g RT Y old σ)
theorem aAM(h:(match xs with
 | [x,y]=>aY Γ a x&&aY Γ b y|x::y::z::r=>aY Γ a x&&aY Γ b (.BoolOp w (y::z::r) p)|_=>false)=true):∃x y r,xs=x::y::r/\aY Γ a x=true/\((r=[]/\aY Γ b y=true)\/aY Γ b (.BoolOp w (y::r) p)=true):=by
 rcases xs with _|⟨x,_|⟨y,_|⟨z,r⟩⟩⟩
 cases h;cases h;obtain⟨h1,h2⟩:=dN h;exact⟨x,y,[],rfl,h1,.inl ⟨rfl,h2⟩⟩;obtain⟨h1,h2⟩:=dN h;exact⟨x,y,z::r,rfl,h1,.inr h2⟩
theorem aNU(ha:Q3 P n a)(hb:Q3 P n b):Q3 P n (.an a b):=by
 have kw:PWc P n (.an a b):=λ{X Γ} M {o xs pos} h RT Y old σ=>by obtain⟨h1,h2⟩:=dN h;have e:o=.And:=eq_of_beq h1;subst e;obtain⟨x,y,r,rfl,g1,g2⟩:=aAM h2;rcases g2 with⟨rfl,g2⟩|g2;exact aLe (ha.t M g1 RT Y old σ) (aFt (hb.t M g2 RT Y old σ));exact aLe (ha.t M g1 RT Y old σ) (hb.w M g2 RT Y old σ)
 refine⟨λ{X Γ} M {e} h RT Y old σ=>?_,λ{X Γ} M {e} h RT Y old σ=>?_,kw⟩;obtain⟨⟨o,xs,pos⟩,h1,g⟩:=aG h;clear h;obtain rfl:=h1;have h:=g;clear g;obtain⟨h1,h2⟩:=dN h;have e:o=.And:=eq_of_beq h1;subst e;obtain⟨x,y,r,e,g1,g2⟩:=aAM h2;have e:xs=x::y::r:=e;subst e;rcases g2 with⟨rfl,g2⟩|g2;exact aKW (ha.e M g1 RT Y old σ) (aCH (hb.e M g2 RT Y old σ));exact aKW (ha.e M g1 RT Y old σ) (hb.e M g2 RT Y old σ);obtain⟨⟨o,xs,pos⟩,rfl,_⟩:=aG h;exact(kw M h RT Y old σ).pt
theorem aLl(ha:Q3 P n a)(hb:Q3 P n b):Q3 P n (.orr a b):=by
 have kw:PWc P n (.orr a b):=λ{X Γ} M {o xs pos} h RT Y old σ=>by obtain⟨h1,h2⟩:=dN h;have e:o=.Or:=eq_of_beq h1;subst e;obtain⟨x,y,r,rfl,g1,g2⟩:=aAM h2;rcases g2 with⟨rfl,g2⟩|g2;exact aHp (ha.t M g1 RT Y old σ) (aHK (hb.t M g2 RT Y old σ));exact aHp (ha.t M g1 RT Y old σ) (hb.w M g2 RT Y old σ)
 refine⟨λ{X Γ} M {e} h RT Y old σ=>?_,λ{X Γ} M {e} h RT Y old σ=>?_,kw⟩;obtain⟨⟨o,xs,pos⟩,h1,g⟩:=aG h;clear h;obtain rfl:=h1;have h:=g;clear g;obtain⟨h1,h2⟩:=dN h;have e:o=.Or:=eq_of_beq h1;subst e;obtain⟨x,y,r,e,g1,g2⟩:=aAM h2;have e:xs=x::y::r:=e;subst e;rcases g2 with⟨rfl,g2⟩|g2;exact aHo (ha.e M g1 RT Y old σ) (aCH (hb.e M g2 RT Y old σ));exact aHo (ha.e M g1 RT Y old σ) (hb.e M g2 RT Y old σ);obtain⟨⟨o,xs,pos⟩,rfl,_⟩:=aG h;exact(kw M h RT Y old σ).pt
theorem aLm(ht:Q3 P n t)(ha:Q3 P n a)(hb:Q3 P n b):Q3 P n (.ife t a b):=Q3.of (λ{X Γ} M {e} h RT Y old σ=>by
 obtain⟨⟨t',a',b'⟩,h1,g⟩:=aG h;clear h;obtain⟨p,rfl⟩:=h1;have h:=g;clear g;obtain⟨h1,h2,h3⟩:=gH h;exact aKX (ht.t M h1 RT Y old σ) (ha.e M h2 RT Y old σ) (hb.e M h3 RT Y old σ)) (λ_=>rfl) rfl
theorem aLn(ha:Q3 P n a)(hb:Q3 P n b):Q3 P n (.cmp o a b):=by
 have h0:∀{Γ:Ct} {e:Expr},aY Γ (.cmp o a b) e=true->∃l r p,e=.Compare l [o] [r] p/\aY Γ a l=true/\aY Γ b r=true:=λ{Γ e} h=>by
  obtain⟨⟨l,os,rs⟩,h1,g⟩:=aG h;clear h;obtain⟨p,rfl⟩:=h1;have h:=g;clear g;rcases os with _|⟨o',_|⟨_,_⟩⟩
  cases h;rcases rs with _|⟨r,_|⟨_,_⟩⟩
  cases h;obtain⟨h1,h2,h3⟩:=gH h;have e:o=o':=eq_of_beq h1;subst e;exact⟨l,r,p,rfl,h2,h3⟩;cases h;cases h
 refine⟨λ{X Γ} M {e} h RT Y old σ=>?_,λ{X Γ} M {e} h RT Y old σ=>?_,λ{X Γ} M {o xs pos} h RT Y old σ=>absurd h bN⟩;obtain⟨l,r,p,rfl,h2,h3⟩:=h0 h;exact aKY M (ha.e M h2 RT Y old σ) (hb.e M h3 RT Y old σ) (aQ h3);obtain⟨l,r,p,rfl,h2,h3⟩:=h0 h;exact fM M (ha.e M h2 RT Y old σ) (hb.e M h3 RT Y old σ) (aQ h3)
theorem aIQ(ha:Q3 P n a)(hb:Q3 P n b)(hc:Q3 P n c):Q3 P n (.cmp2 o1 o2 a b c):=by
 have h0:∀{Γ:Ct} {e:Expr},aY Γ (.cmp2 o1 o2 a b c) e=true->∃l m r p,e=.Compare l [o1,o2] [m,r] p/\aY Γ a l=true/\aY Γ b m=true/\aY Γ c r=true:=λ{Γ e} h=>by
  obtain⟨⟨l,os,rs⟩,h1,g⟩:=aG h;clear h;obtain⟨p,rfl⟩:=h1;have h:=g;clear g;rcases os with _|⟨o1',_|⟨o2',_|⟨_,_⟩⟩⟩
  cases h;cases h;rcases rs with _|⟨m,_|⟨r,_|⟨_,_⟩⟩⟩
  cases h;cases h;obtain⟨h1,h2,h3,h4,h5⟩:=zN h;have e:o1=o1':=eq_of_beq h1;subst e;have e:o2=o2':=eq_of_beq h2;subst e;exact⟨l,m,r,p,rfl,h3,h4,h5⟩;cases h;cases h
 refine⟨λ{X Γ} M {e} h RT Y old σ=>?_,λ{X Γ} M {e} h RT Y old σ=>?_,λ{X Γ} M {o xs pos} h RT Y old σ=>absurd h bN⟩;obtain⟨l,m,r,p,rfl,h3,h4,h5⟩:=h0 h;exact aIA M (ha.e M h3 RT Y old σ) (hb.e M h4 RT Y old σ) (hc.e M h5 RT Y old σ) (aQ h5);obtain⟨l,m,r,p,rfl,h3,h4,h5⟩:=h0 h;exact aIB M (ha.e M h3 RT Y old σ) (hb.e M h4 RT Y old σ) (hc.e M h5 RT Y old σ) (aQ h5)
theorem aLo(ha:Q3 P n a)(hb:Q3 P n b):Q3 P n (.idx a b):=by
 have k:PEc P n (.idx a b):=λ{X Γ} M {e} h RT Y old σ=>by obtain⟨⟨x,i⟩,h1,g⟩:=aG h;clear h;obtain⟨p,rfl⟩:=h1;have h:=g;clear g;obtain⟨h1,h2⟩:=dN h;exact aKZ (ha.e M h1 RT Y old σ) (hb.e M h2 RT Y old σ) (aQ h2)
 refine⟨k,λ{X Γ} M {e} h RT Y old σ=>?_,λ{X Γ} M {o xs pos} h RT Y old σ=>absurd h bN⟩;refine jX (k M h RT Y old σ) ?_ λw p hp=>?_;obtain⟨⟨x,i⟩,⟨p,rfl⟩,_⟩:=aG h;intro _;rfl;have hp:=RE.bind' (show RE _ (ev P (call P n) σ a >>= λx=>ev P (call P n) σ b >>= λy=>bK x y >>= λz=>eD z) p from hp);show RE _ (ev P (call P n) σ a >>= λx=>ev P (call P n) σ b >>= λy=>bK x y) _;rw[RE.bind];refine hp.mono λx hx=>?_;rw[RE.bind];exact(RE.bind' hx).mono λy hy=>RE.bind' hy
theorem aLp{a:E}{lo hi:Es}(ha:Q3 P n a)(hl:QA P n lo)(hh:QA P n hi):Q3 P n (.sli a lo hi):=Q3.of (λ{X Γ} M {e} h RT Y old σ=>by
 obtain⟨⟨x,i⟩,h1,g⟩:=aG h;clear h;obtain⟨p,rfl⟩:=h1;have h:=g;clear g;obtain⟨⟨l,u⟩,h1,g⟩:=aG h;clear h;obtain⟨p2,e2⟩:=h1;have h:=g;clear g;have e2:i=.Slice l u none p2:=e2;subst e2;obtain⟨h1,h2,h3⟩:=gH h;obtain⟨h1,h4⟩:=dN h1;exact aLh (ha.e M h1 RT Y old σ) (hl.o M h2 RT Y old σ) (hh.o M h3 RT Y old σ) h4) (λ_=>rfl) rfl
theorem aLq(ha:QA P n es):Q3 P n (.tup es):=Q3.of (λ{X Γ} M {e} h RT Y old σ=>by
 obtain⟨xs,h1,g⟩:=aG h;clear h;obtain⟨k,p,rfl⟩:=h1;have h:=g;clear g;obtain⟨h1,h2⟩:=dN h;exact aLa (ha.a M h2 RT Y old σ) h2 (Au h1)) (λ_=>rfl) rfl
theorem aLr(ha:QA P n es):Q3 P n (.lst es):=Q3.of (λ{X Γ} M {e} h RT Y old σ=>by
 obtain⟨xs,h1,g⟩:=aG h;clear h;obtain⟨p,rfl⟩:=h1;have h:=g;clear g;obtain⟨h1,h2⟩:=dN h;exact aLb (ha.a M h2 RT Y old σ) h2 (Au h1)) (λ_=>rfl) rfl
theorem aIR(ha:QA P n es):Q3 P n (.call f es):=by
 have k:PEc P n (.call f es):=λ{X Γ} M {e} h RT Y old σ=>by obtain⟨⟨x,xs⟩,h1,g⟩:=aG h;clear h;obtain⟨p1,p2,rfl⟩:=h1;have h:=g;clear g;obtain⟨h1,h2,h3,h4⟩:=aCh h;exact aIy M (eq_of_beq h1) h2 h3 (ha.a M h4 RT Y old σ) (dQ h4) h4
 refine⟨k,λ{X Γ} M {e} h RT Y old σ=>?_,λ{X Γ} M {o xs pos} h RT Y old σ=>absurd h bN⟩;refine jX (k M h RT Y old σ) ?_ λw p hp=>?_;obtain⟨⟨x,xs⟩,⟨p1,p2,rfl⟩,_⟩:=aG h;intro _;rfl;have hp:=RE.bind' (show RE _ (evs P (call P n) σ es >>= λvs=>call P n f (vs.map (·.d)) >>= λr=>eD (iH vs r)) p from hp);show RE _ (evs P (call P n) σ es >>= λvs=>call P n f (vs.map (·.d)) >>= λr=>R.ok (iH vs r)) _;rw[RE.bind];refine hp.mono λx hx=>?_;rw[RE.bind];exact(RE.bind' hx).mono λy hy=>hy
theorem aGw(ha:QA P n es):Q3 P n (.callP f i es):=by
 have k:PEc P n (.callP f i es):=λ{X Γ} M {e} h RT Y old σ=>by
  obtain⟨⟨x,xs⟩,h1,g⟩:=aG h;clear h;obtain⟨p1,p2,rfl⟩:=h1;have h:=g;clear g;obtain⟨h1,h2,h3,h4⟩:=aCh h;cases xs with
  | nil=>cases h4|cons y ys=>obtain⟨h4,h5⟩:=dN h4;obtain⟨⟨u1,u2⟩,⟨q,e2⟩,h6⟩:=aG h4;have e2:y=.Subscript u1 u2 q:=e2;subst e2;obtain⟨h6,h7⟩:=dN h6;obtain⟨z,⟨q1,e3⟩,h8⟩:=aG h6;obtain⟨c,⟨k,q2,e4⟩,h9⟩:=aG h7;have e3:u1=.Name z q1:=e3;have e4:u2=.Constant c k q2:=e4;subst e3 e4;exact aGi M (eq_of_beq h1) h2 h3 h8 h9 (ha.a M h5 RT Y old σ) (dQ h5)
 refine⟨k,λ{X Γ} M {e} h RT Y old σ=>?_,λ{X Γ} M {o xs pos} h RT Y old σ=>absurd h bN⟩;refine jX (k M h RT Y old σ) ?_ λw p hp=>?_;obtain⟨⟨x,xs⟩,⟨p1,p2,rfl⟩,_⟩:=aG h;intro _;rfl;have hp:=RE.bind' (show RE _ ((evs P (call P n) σ es).calm >>= λvs=>vR σ i >>= λd=>(call P n f (d::vs.map (·.d))).calm >>= λr=>iK r >>= λx=>eD x) p from hp);show RE _ ((evs P (call P n) σ es).calm >>= λvs=>vR σ i >>= λd=>(call P n f (d::vs.map (·.d))).calm >>= λr=>iK r) _;rw[RE.bind];refine hp.mono λx hx=>?_;rw[RE.bind];refine(RE.bind' hx).mono λd hd=>?_;rw[RE.bind];exact(RE.bind' hd).mono λy hy=>RE.bind' hy
theorem aLs:Q3 P n (.pix i):=by
 have h0:∀{Γ:Ct} {e:Expr},aY Γ (.pix i) e=true->∃x p p' q c k,e=.Subscript (.Name x q) (.Constant c k p') p/\cP Γ i x=true/\eqC (.int 0) c=true:=λ{Γ e} h=>by obtain⟨⟨u1,u2⟩,⟨p,rfl⟩,g⟩:=aG h;obtain⟨h6,h7⟩:=dN g;obtain⟨z,⟨q1,e3⟩,h8⟩:=aG h6;obtain⟨c,⟨k,q2,e4⟩,h9⟩:=aG h7;have e3:u1=.Name z q1:=e3;have e4:u2=.Constant c k q2:=e4;subst e3 e4;exact⟨z,p,q2,q1,c,k,rfl,h8,h9⟩
 have k:PEc P n (.pix i):=λ{X Γ} M {e} h RT Y old σ=>by obtain⟨x,p,p',q,c,k,rfl,h2,h3⟩:=h0 h;exact aLc M h2 h3
 refine⟨k,λ{X Γ} M {e} h RT Y old σ=>?_,λ{X Γ} M {o xs pos} h RT Y old σ=>absurd h bN⟩;refine jX (k M h RT Y old σ) ?_ λw p hp=>?_;obtain⟨x,p,p',q,c,k,rfl,h2,h3⟩:=h0 h;intro _;rfl;have hp:=RE.bind' (show RE _ ((yT σ i).calm >>= λd=>eD (.cl d)) p from hp);show RE _ ((yT σ i).calm >>= λd=>R.ok (Vl.cl d)) _;rw[RE.bind];exact hp.mono λd hd=>hd
theorem aNV(ha:QA P n es):Q3 P n (.bi b es):=by
 have k:PEc P n (.bi b es):=λ{X Γ} M {e} h RT Y old σ=>by
  obtain⟨⟨x,xs⟩,h1,g⟩:=aG h;clear h;obtain⟨p1,p2,rfl⟩:=h1;have h:=g;clear g;obtain⟨h,h6⟩:=dN h;obtain⟨h1,h2,h3,h4,h5⟩:=zN h;cases xs with
  | nil=>cases h5|cons y ys=>exact aNQ M h1 (eq_of_beq h2) h3 h4 (ha.a M h6 RT Y old σ) (dQ h6)
 refine⟨k,λ{X Γ} M {e} h RT Y old σ=>?_,λ{X Γ} M {o xs pos} h RT Y old σ=>absurd h bN⟩;refine jX (k M h RT Y old σ) ?_ λw p hp=>?_;obtain⟨⟨x,xs⟩,⟨p1,p2,rfl⟩,_⟩:=aG h;intro _;rfl;have hp:=RE.bind' (show RE _ (evs P (call P n) σ es >>= λvs=>biD b vs >>= λx=>eD x) p from hp);show RE _ (evs P (call P n) σ es >>= λvs=>biD b vs) _;rw[RE.bind];exact hp.mono λx hx=>RE.bind' hx
theorem mt_two(h:aKI m=true):m=.join\/m=.upper:=by cases m <;> first|exact .inl rfl|exact .inr rfl|cases h
theorem aLt(ho:Q3 P n o)(ha:QA P n es):Q3 P n (.mth m o es):=by
 have k:PEc P n (.mth m o es):=λ{X Γ} M {e} h RT Y old σ=>by
  obtain⟨⟨eo,a,xs,l⟩,h1,g⟩:=aG h;clear h;obtain⟨ap,cp,rfl,hl⟩:=h1;have h:=g;clear g;obtain⟨h,h7⟩:=dN h;obtain⟨h,h6⟩:=dN h;obtain⟨h1,h2,h3,h4,h5⟩:=zN h;have ea:aDn m=a:=eq_of_beq h2;subst ea;rw[show l=true from h4] at hl;have h5:=Au h5;rcases mt_two h1 with rfl|rfl;rcases xs with _|⟨x,_|⟨_,_⟩⟩
  cases h5;have hp:aV x=true:=by have:=dQ h7;simpa using this
  exact aID (ho.e M h6 RT Y old σ) (ha.a M h7 RT Y old σ) h3 hl hp;simp[yW] at h5;rcases xs with _|⟨x,_⟩
  cases es with
  | z=>exact aGm (ho.e M h6 RT Y old σ) h3 hl|k _ _=>cases h7
  simp[yW] at h5
 refine⟨k,λ{X Γ} M {e} h RT Y old σ=>?_,λ{X Γ} M {o xs pos} h RT Y old σ=>absurd h bN⟩;refine jX (k M h RT Y old σ) ?_ λw p hp=>?_;obtain⟨⟨eo,a,xs,l⟩,⟨ap,cp,rfl,_⟩,_⟩:=aG h;intro _;rfl;have hp:=RE.bind' (show RE _ (ev P (call P n) σ o >>= λx=>(evs P (call P n) σ es).calm >>= λys=>mtD m x ys >>= λz=>eD z) p from hp);show RE _ (ev P (call P n) σ o >>= λx=>(evs P (call P n) σ es).calm >>= λys=>mtD m x ys) _;rw[RE.bind];refine hp.mono λx hx=>?_;rw[RE.bind];exact(RE.bind' hx).mono λy hy=>RE.bind' hy
theorem aLu(ha:Q3 P n a):Q3 P n (.isi a cs):=by
 have k:PEc P n (.isi a cs):=λ{X Γ} M {e} h RT Y old σ=>by
  obtain⟨⟨f,xs⟩,h1,g⟩:=aG h;clear h;obtain⟨p1,p2,rfl⟩:=h1;have h:=g;clear g;rcases cs with _|⟨c,_|⟨_,_⟩⟩
  cases h;rcases xs with _|⟨x,_|⟨y,_|⟨_,_⟩⟩⟩
  cases h;cases h;obtain⟨h1,h2,h3,h4,h5⟩:=zN h;unfold aHk at h5;split at h5;rename_i z p3;obtain⟨q1,q2,q3⟩:=gH h5;have hc:∃cv,wB c=some cv:=by cases c <;> first|exact⟨_,rfl⟩|cases h3
  obtain⟨cv,hc⟩:=hc;exact aLd M (eq_of_beq h1) h2 hc (eq_of_beq q1) q2 q3 (ha.e M h4 RT Y old σ) (aQ h4);cases h5;cases h;cases h
 refine⟨k,λ{X Γ} M {e} h RT Y old σ=>?_,λ{X Γ} M {o xs pos} h RT Y old σ=>absurd h bN⟩;refine jX (k M h RT Y old σ) ?_ λw p hp=>?_;obtain⟨⟨x,xs⟩,⟨p1,p2,rfl⟩,_⟩:=aG h;intro _;rfl;have hp:=RE.bind' (show RE _ (ev P (call P n) σ a >>= λx=>(match isI cs P x.d with|some k=>R.ok k|none=>.bad)) p from hp);show RE _ (ev P (call P n) σ a >>= λx=>(match isI cs P x.d with|some k=>R.ok (Vl.cl (.bl k))|none=>.bad)) _;rw[RE.bind];refine hp.mono λx hx=>?_;cases q:isI cs P x.d with
 | none=>rw[q] at hx;exact hx.elim|some k=>rw[q] at hx;exact hx
theorem aLv(ha:Q3 P n a):Q3 P n (.isx a cs):=by
 have k:PEc P n (.isx a cs):=λ{X Γ} M {e} h RT Y old σ=>by
  obtain⟨⟨f,xs⟩,h1,g⟩:=aG h;clear h;obtain⟨p1,p2,rfl⟩:=h1;have h:=g;clear g;rcases xs with _|⟨x,_|⟨y,_|⟨_,_⟩⟩⟩
  cases h;cases h;obtain⟨h1,h2,h3,h4⟩:=aCh h;unfold aKH at h4;split at h4;rename_i es tk tp;obtain⟨q1,q2⟩:=dN h4;obtain⟨vs,i1,i2,i3⟩:=aDK M q1;refine aDJ M (eq_of_beq h1) h2 (ha.e M h3 RT Y old σ) (aQ h3) (aCT i1) rfl λσV H Q hq=>?_;have q2:es.length<=1000:=by simpa using q2
  exact⟨by rw[i3,Bz];omega,λp hp=>hq _ _ (aP.new hp) (.inr ⟨p,vs,rfl,SqT.of aS,i2⟩)⟩;rename_i z zp;split at h4;obtain⟨q1,q2⟩:=dN h4;have e:z=("ValueError" : Str):=eq_of_beq q1;subst e;exact aDJ M (eq_of_beq h1) h2 (ha.e M h3 RT Y old σ) (aQ h3) (aFs (v:=.ty "ValueError") (M.gl q2) (M.md.blt _ (by decide +kernel)) (by kernel_rfl) rfl (by decide +kernel) (by decide +kernel)) rfl λσV H Q hq=>hq _ H (aP.refl H) (.inl ⟨_,rfl,rfl⟩);obtain⟨x',p,e1,e2,g1,g2,g3⟩:=wN h4;cases e2;subst e1;obtain⟨C2,q,_⟩:=M.md.cls _ g3;exact aDJ M (eq_of_beq h1) h2 (ha.e M h3 RT Y old σ) (aQ h3) (sU (v:=.ref C2) (M.gl g1) q rfl (aL g2)) rfl λσV H Q hq=>hq _ H (aP.refl H) (.inl ⟨_,rfl,g3,C2,q,rfl⟩);cases h4;cases h4;cases h
 refine⟨k,λ{X Γ} M {e} h RT Y old σ=>?_,λ{X Γ} M {o xs pos} h RT Y old σ=>absurd h bN⟩;refine jX (k M h RT Y old σ) ?_ λw p hp=>?_;obtain⟨⟨x,xs⟩,⟨p1,p2,rfl⟩,_⟩:=aG h;intro _;rfl;have hp:=RE.bind' (show RE _ (ev P (call P n) σ a >>= λx=>(match isX cs P x.d with|some k=>R.ok k|none=>.bad)) p from hp);show RE _ (ev P (call P n) σ a >>= λx=>(match isX cs P x.d with|some k=>R.ok (Vl.cl (.bl k))|none=>.bad)) _;rw[RE.bind];refine hp.mono λx hx=>?_;cases q:isX cs P x.d with
 | none=>rw[q] at hx;exact hx.elim|some k=>rw[q] at hx;exact hx
theorem aIS{k:Nat}{caps:List Nat}{t:T}{it:Hp.It}{cond:Es}{elt:E}(hi:QI P n it)(hc:QA P n cond)(he:Q3 P n elt):Q3 P n (.comp k caps t it cond elt):=Q3.of (λ{X Γ} M {e} h RT Y old σ=>by
 obtain⟨el,tg,iter,ifs,scope,pos,rfl,O,h1,h2,h3,h4,h5⟩:=aAL h;refine aIO M (O.scope M) O.ndc O.tk O.cm (hi M h3 RT Y old σ) (λC s₀ H₀ ex=>?_) (mI (kM h3));have M':=O.mc M C s₀ H₀ ex;exact⟨aGu M' h2,λRT Y old σ1=>aAK (hc.ts M' h1 h4 RT Y old σ1),λpl E W own rs RT Y old σ1=>aEc rs (he.e (M'.inTry own) h5 RT Y old σ1)⟩) (λ_=>rfl) rfl
theorem kN(h:∀{Γ:Ct} {e:Expr},aY Γ c e=false):Q3 P n c:=
 ⟨λ{X Γ} M {e} z=>absurd (h.symm.trans z) bN,λ{X Γ} M {e} z=>absurd (h.symm.trans z) bN,λ{X Γ} M {o xs pos} z=>absurd (h.symm.trans z) bN⟩
theorem aLw:QA P n .z:=by
 refine⟨λ{X Γ} M {es} h RT Y old σ=>?_,λ{X Γ} M {e} h RT Y old σ=>?_,λ{X Γ} M {es} hl h RT Y old σ=>?_⟩;cases es with
 | nil=>exact wM|cons _ _=>exact nf h
 cases e with
 | none=>exact aLf|some _=>exact nf h
 cases es with
 | nil=>exact aIM|cons _ _=>exact nf h
theorem aIT(hc:Q3 P n c)(hs:QA P n cs):QA P n (.k c cs):=by
 refine⟨λ{X Γ} M {es} h RT Y old σ=>?_,λ{X Γ} M {e} h RT Y old σ=>?_,λ{X Γ} M {es} hl h RT Y old σ=>?_⟩;cases es with
 | nil=>exact nf h|cons e es=>obtain⟨h1,h2⟩:=dN h;exact kK (hc.e M h1 RT Y old σ) (hs.a M h2 RT Y old σ) (aQ h1)
 cases cs with
 | z=>cases e with|none=>exact nf h|some e=>exact aLg (hc.e M (by exact h) RT Y old σ)
 | k _ _=>cases e <;> exact nf h
 cases es with
 | nil=>exact nf h|cons e es=>
  obtain⟨h1,h2⟩:=dN h;cases es with
  | nil=>cases cs with|z=>exact aIN (hc.t M h1 RT Y old σ)|k _ _=>exact absurd h2 bN
  | cons _ _=>simp at hl
theorem aLx(hc:Q3 P n c):QI P n (.seq c):=λ{X Γ} M {tg e} h RT Y old σ=>aLi (hc.e M (by exact h) RT Y old σ)
theorem aLy(ha:Q3 P n a)(hb:Q3 P n b):QI P n (.rng a b):=λ{X Γ} M {tg e} h RT Y old σ=>by
 rw[xA] at h;obtain⟨⟨f,xs⟩,h1,g⟩:=aG h;clear h;obtain⟨p1,p2,rfl⟩:=h1;have h:=g;clear g;obtain⟨h1,h2,h3⟩:=gH h;rcases xs with _|⟨x,_|⟨y,_|⟨_,_⟩⟩⟩
 cases h3;obtain⟨h3,h4⟩:=dN h3;have ez:a=.c (.int 0):=by unfold yX at h3;split at h3;rw[eq_of_beq h3];cases h3
 rw[ez];exact aIJ M (eq_of_beq h1) h2 (hb.e M h4 RT Y old σ) (aQ h4);obtain⟨h3,h4⟩:=dN h3;exact aIK M (eq_of_beq h1) h2 (ha.e M h3 RT Y old σ) (hb.e M h4 RT Y old σ) (aQ h3) (aQ h4);cases h3
theorem aLz(ha:Q3 P n a)(hb:Q3 P n b):QI P n (.zip a b):=λ{X Γ} M {tg e} h RT Y old σ=>by
 rw[xB] at h;obtain⟨⟨f,xs⟩,h1,g⟩:=aG h;clear h;obtain⟨p1,p2,rfl⟩:=h1;have h:=g;clear g;rcases xs with _|⟨x,_|⟨y,_|⟨_,_⟩⟩⟩
 cases h;cases h;obtain⟨h0,h1,h2,h3,h4⟩:=zN h;unfold oQ at h0;split at h0;exact aLj M (eq_of_beq h1) h2 (ha.e M h3 RT Y old σ) (hb.e M h4 RT Y old σ) (aQ h3) (aQ h4);cases h0;cases h
theorem aIU(ha:Q3 P n a):QI P n (.enum a):=λ{X Γ} M {tg e} h RT Y old σ=>by
 rw[rQ] at h;obtain⟨⟨f,xs⟩,h1,g⟩:=aG h;clear h;obtain⟨p1,p2,rfl⟩:=h1;have h:=g;clear g;rcases xs with _|⟨x,_|⟨_,_⟩⟩
 cases h;obtain⟨h0,h1,h2,h3⟩:=aCh h;unfold oQ at h0;split at h0;exact aIL M (eq_of_beq h1) h2 (ha.e M h3 RT Y old σ) (aQ h3);cases h0;cases h
theorem aLA(z:∀Γ tt e,chkI Γ tt it e=false):QI P n it:=by intro X Γ M tg e h RT Y old σ;rw[z] at h;cases h
mutual
theorem qE:(c:E)->Q3 P n c
 | .c _=>n_c|.v _=>n_v|.op _ a b=>aNS (qE a) (qE b)|.neg a=>aLk (qE a)|.nt a=>aNT (qE a)|.an a b=>aNU (qE a) (qE b)|.orr a b=>aLl (qE a) (qE b)|.ife t a b=>aLm (qE t) (qE a) (qE b)|.cmp _ a b=>aLn (qE a) (qE b)|.dnin _ _=>kN rfl|.dget _ _=>kN rfl|.dlen _=>kN rfl|.cmp2 _ _ a b c=>aIQ (qE a) (qE b) (qE c)|.idx a b=>aLo (qE a) (qE b)|.sli a lo hi=>aLp (qE a) (qA lo) (qA hi)|.tup es=>aLq (qA es)|.lst es=>aLr (qA es)|.dic _ _=>kN rfl|.call _ es=>aIR (qA es)|.callP _ _ es=>aGw (qA es)|.pix _=>aLs|.bi _ es=>aNV (qA es)|.mth _ o es=>aLt (qE o) (qA es)|.isi a _=>aLu (qE a)|.isx a _=>aLv (qE a)|.comp _ _ _ it cond elt=>aIS (qI it) (qA cond) (qE elt)|.numset _=>kN rfl|.tget _ _=>kN rfl|.lzip _ _=>kN rfl
theorem qA:(cs:Es)->QA P n cs
 | .z=>aLw|.k c cs=>aIT (qE c) (qA cs)
theorem qI:(it:Hp.It)->QI P n it
 | .seq c=>aLx (qE c)|.rng a b=>aLy (qE a) (qE b)|.zip a b=>aLz (qE a) (qE b)|.enum a=>aIU (qE a)|.rev _=>aLA λ_ _ _=>rfl
end
theorem sE(c:E):PEc P n c:=(qE c).e
theorem sT(c:E):PTc P n c:=(qE c).t
theorem sTs(cs:Es):∀{X:Cx} {Γ:Ct},Mc X P Γ n->∀{es:List Expr},es.length<=1->chkEs Γ cs es=true->∀(RT Y old:Addr->Prop) (σ:Sg),PTs X es (wTs X P n RT Y old σ cs):=(qA cs).ts
theorem sI(it:Hp.It):QI P n it:=qI it
end
end Hp
end
noncomputable section
set_option maxHeartbeats 4000000
namespace Hp
open PySem PySem.Spec PyProof.Rows L2
def cO(K:Fg)(RT Y old:Addr->Prop)(H:Hp)(σ':Sg)(Q:L2.St->Hp->Prop):Prop:=
 ∀(RT':Addr->Prop) (σV':L2.St) (H':Hp),Kp RT H H'->(∀b,RT' b->RT b\/H b=none)->Sx K RT' Y old σ' σV' H'->Q σV' H'
def Rtv(K:Fg)(Y old:Addr->Prop)(H':Hp)(v:Vl)(u:V):Prop:=
 if v.fr=true then ∃a xs ds,u=.ref a/\v.d=.lst ds/\¬ old a/\H' a=some (.lst xs)/\Reps K H' (λb=>b=a\/exB Y old v.pa b) ds xs
 else Rep K H' (exB Y old v.pa) v.d u
def nE(K:Fg)(RT Y old:Addr->Prop)(H:Hp)(v:Vl)(Q:VK):Prop:=∀(u:V) (H':Hp),Kp RT H H'->Tk K H'->Rtv K Y old H' v u->Q u H'
def OE(K:Fg)(w:L2.St->Hp->D->Prop)(RT Y old:Addr->Prop)(H:Hp)(o:O)(D:Ends):Prop:=match o with|.next σ'=>cO K RT Y old H σ' D.nx|.brk σ'=>cO K RT Y old H σ' D.bk|.cnt σ'=>cO K RT Y old H σ' D.ct|.ret v=>nE K RT Y old H v D.rt|.exc x σ'=>cO K RT Y old H σ' λσV H=>w σV H x|.bad=>False
def wS(X:Cx)(RT Y old:Addr->Prop)(σ:Sg)(o:O):TS:=λD σV H=>Sx X.K RT Y old σ σV H/\OE X.K (XW X) RT Y old H o D
section
variable {K:Fg} {w w':L2.St->Hp->D->Prop} {RT RT' RT'' Y old:Addr->Prop} {σ:Sg} {σV:L2.St} {H H1 H2:Hp} {o:O} {D D':Ends}
theorem Kp.chain(a:Kp RT H H1)(s:∀b,RT' b->RT b\/H b=none)(b:Kp RT' H1 H2):Kp RT H H2:=λc o e n=>b c o (a c o e n) λz=>(s c z).elim n λq=>by rw[q] at e;cases e
theorem mP(a:Kp RT H H1)(s1:∀b,RT' b->RT b\/H b=none)(s2:∀b,RT'' b->RT' b\/H1 b=none):∀b,RT'' b->RT b\/H b=none:=λb z=>by
 rcases s2 b z with q|q;exact s1 b q;by_cases hr:RT b;exact .inl hr;refine .inr ?_;cases e:H b with
 | none=>rfl|some o=>rw[a b o e hr] at q;cases q
theorem cO.mono{Q:L2.St->Hp->Prop}(a:Kp RT H H1)(s:∀b,RT' b->RT b\/H b=none)(h:cO K RT Y old H σ' Q):cO K RT' Y old H1 σ' Q:=λRT2 σV2 H2 k n S=>h RT2 σV2 H2 (a.chain s k) (mP a s n) S
theorem OE.mono(a:Kp RT H H1)(s:∀b,RT' b->RT b\/H b=none)(h:OE K w RT Y old H o D):OE K w RT' Y old H1 o D:=by
 cases o with
 | next σ'=>exact cO.mono a s h|brk σ'=>exact cO.mono a s h|cnt σ'=>exact cO.mono a s h|ret v=>exact λu H2 k t r=>(show nE K RT Y old H v D.rt from h) u H2 (a.chain s k) t r|exc x σ'=>exact cO.mono a s h|bad=>exact h
theorem bP:∀b,RT b->RT b\/H b=none:=λ_ z=>.inl z
def tkE(K:Fg)(D:Ends):Ends:=⟨λσ H=>Tk K H->D.nx σ H,λv H=>Tk K H->D.rt v H,λσ H=>Tk K H->D.bk σ H,λσ H=>Tk K H->D.ct σ H⟩
theorem OE.from{X:Cx}{α:Type}{x:R α}{f:α->O}(S:Sx X.K RT Y old σ σV H)(h:OE X.K (XW X) RT Y old H (O.from σ x f) D):RE (wx X σV H) x λa=>OE X.K (XW X) RT Y old H (f a) D:=by
 cases x with
 | ok a=>exact h|exc e=>exact λH' t s=>(show cO X.K RT Y old H σ (λσV H=>XW X σV H e) from h) RT σV H' (Kp.same s) bP (S.grow s t)|bad=>exact h
theorem OE.fromc{α:Type}{x:R α}{f:α->O}(h:OE K w RT Y old H (O.from σ x f) D)(n:∀z,x≠.exc z):∃a,x=.ok a/\OE K w RT Y old H (f a) D:=by
 cases x with
 | ok a=>exact⟨a,rfl,h⟩|exc e=>exact absurd rfl (n e)|bad=>exact h.elim
theorem cO.imp{Q Q':L2.St->Hp->Prop}(h:cO K RT Y old H σ' Q)(f:∀σV H,Q σV H->Q' σV H):cO K RT Y old H σ' Q':=λRT' σV' H' k n S=>f _ _ (h RT' σV' H' k n S)
theorem OE.weak(h:OE K w RT Y old H o D)(f:∀σV H x,w σV H x->w' σV H x):OE K w' RT Y old H o D:=by
 cases o with
 | exc x σ'=>exact cO.imp (Q:=λσV H=>w σV H x) h λσV H z=>f σV H x z|_=>exact h
end
section
variable {X:Cx} {st:Stmt} {t t':TS}
theorem aHr{pins:List (Addr×Obj)}{D:Ends}{f:Flow}{s':Shared}(h:SP X pins (tkE X.K D) f s'):SP X pins D f s':=by
 cases f with
 | next=>obtain⟨σ',H',I,q⟩:=h;exact⟨σ',H',I,q I.tk⟩|brk=>obtain⟨σ',H',I,q⟩:=h;exact⟨σ',H',I,q I.tk⟩|cont=>obtain⟨σ',H',I,q⟩:=h;exact⟨σ',H',I,q I.tk⟩|ret u=>obtain⟨v,σ',H',I,r,q⟩:=h;exact⟨v,σ',H',I,r,q I.tk⟩
theorem cL(h:PS X st t)(f:∀D σV H,Tk X.K H->t' D σV H->t (tkE X.K D) σV H):PS X st t':=λpins s σV H D I hw=>thn (h pins s σV H _ I (f D σV H I.tk hw)) λfl s' q=>aHr q
theorem nX(h:PSs X sts t)(f:∀D σV H,Tk X.K H->t' D σV H->t (tkE X.K D) σV H):PSs X sts t':=λpins s σV H D I hw=>thn (h pins s σV H _ I (f D σV H I.tk hw)) λfl s' q=>aHr q
theorem aAN{Y old:Addr->Prop}{f:Sg->O}(h:∀RT σ,PSs X sts (wS X RT Y old σ (f σ))):PSs X sts (λD σV H=>∃RT σ,wS X RT Y old σ (f σ) D σV H):=λpins s σV H D I ⟨RT,σ,hw⟩=>h RT σ pins s σV H D I hw
end
section
variable {X:Cx} {P:Pg} {Γ:Ct} {n:Nat} {RT Y old:Addr->Prop} {σ:Sg} {pos:Pos}
theorem cO.tkE{Q:L2.St->Hp->Prop}(h:cO X.K RT Y old H σ' Q):cO X.K RT Y old H σ' λσ H=>Tk X.K H->Q σ H:=λRT' σV' H' k n S _=>h RT' σV' H' k n S
theorem OE.tkE{o:O}{D:Ends}{H:Hp}(h:OE X.K (XW X) RT Y old H o D):OE X.K (XW X) RT Y old H o (tkE X.K D):=by
 cases o with
 | next σ'=>exact cO.tkE h|brk σ'=>exact cO.tkE h|cnt σ'=>exact cO.tkE h|ret v=>exact λu H2 k t r _=>(show nE X.K RT Y old H v D.rt from h) u H2 k t r|exc x σ'=>exact h|bad=>exact h
theorem aLB:PSs X [] (wS X RT Y old σ (exs P (call P n) σ .z)):=nX aFu λD σV H t ⟨S,h⟩ _=>(show cO X.K RT Y old H σ D.nx from h) RT σV H (Kp.refl RT H) bP S
theorem aIV{s:S}{ss:Ss}{x:Stmt}{xs:List Stmt}(h1:∀RT σ,PS X x (wS X RT Y old σ (ex P (call P n) σ s)))(h2:∀RT σ,PSs X xs (wS X RT Y old σ (exs P (call P n) σ ss))) :
 PSs X (x::xs) (wS X RT Y old σ (exs P (call P n) σ (.k s ss))):=by
 refine nX (vG (h1 RT σ) (aAN h2)) λD σV H t ⟨S,h⟩=>?_;have h:OE X.K (XW X) RT Y old H ((ex P (call P n) σ s).on λσ'=>exs P (call P n) σ' ss) D:=h;refine⟨S,?_⟩;cases q:ex P (call P n) σ s with
 | next σ'=>rw[q] at h;exact λRT' σV' H' k nn S'=>⟨RT',σ',S',(OE.mono k nn (show OE X.K (XW X) RT Y old H (exs P (call P n) σ' ss) D from h)).tkE⟩
 | brk σ'=>rw[q] at h;exact OE.tkE (D:=D) (o:=.brk σ') h|cnt σ'=>rw[q] at h;exact OE.tkE (D:=D) (o:=.cnt σ') h|ret v=>rw[q] at h;exact OE.tkE (D:=D) (o:=.ret v) h|exc e σ'=>rw[q] at h;exact h|bad=>rw[q] at h;exact h
theorem aIW:PS X (.Pass pos) (wS X RT Y old σ (ex P (call P n) σ .pass)):=cL aFv λD σV H t ⟨S,h⟩ _=>(show cO X.K RT Y old H σ D.nx from h) RT σV H (Kp.refl RT H) bP S
theorem aLC:PS X (.Break pos) (wS X RT Y old σ (ex P (call P n) σ .brk)):=cL aCJ λD σV H t ⟨S,h⟩ _=>(show cO X.K RT Y old H σ D.bk from h) RT σV H (Kp.refl RT H) bP S
theorem aLD:PS X (.Continue pos) (wS X RT Y old σ (ex P (call P n) σ .cnt)):=cL vH λD σV H t ⟨S,h⟩ _=>(show cO X.K RT Y old H σ D.ct from h) RT σV H (Kp.refl RT H) bP S
theorem aLE{st:Stmt}:PS X st (wS X RT Y old σ (ex P (call P n) σ .off)):=cL aCL λD σV H t ⟨S,h⟩=>h.elim
theorem aLF(M:Mc X P Γ n)(hg:cY Γ c=true)(ho:bU c=true)(hc:c∈Γ.rsd)(ha:PE X a (WE X P n RT Y old σ e))(hp:aV a=true) :
 PS X (.Raise (some (.Call (.Name c np) [a] [] cp)) none pos) (wS X RT Y old σ (ex P (call P n) σ (.rse c false (.k e .z)))):=by
 obtain⟨C,bd,ns,ex⟩:=M.md.rsd c hc;refine cL (aDw Dk (by decide +kernel) (M.gl hg) bd ex (fX ha kE (aC hp)) M.calm (rK X) (aL ho) (aC hp) (by rw[aC hp];rfl)) λD σV H t ⟨S,h⟩=>?_;have h:=OE.from S (show OE X.K (XW X) RT Y old H (O.from σ (ev P (call P n) σ e >>= λx=>R.ok [x]) λvs=>.exc (.err c []) σ) D from h);have h:=RE.bind' h;refine wE.one S h λx u H1 hx t1 S1 r1=>⟨show 1<=sizeLine by rw[Bz];decide,?_⟩
 exact(show cO X.K RT Y old H σ (λσV H=>XW X σV H (.err c [])) from hx) RT σV H1 (Kp.same r1.1) bP S1 (.ref C) ⟨C,rfl,ns⟩
theorem aIX(M:Mc X P Γ n)(hg:cY Γ c=true)(ho:bU c=true)(hc:c∈Γ.pls)(ha:PE X a (WE X P n RT Y old σ e))(hp:aV a=true) :
 PS X (.Raise (some (.Call (.Name c np) [a] [] cp)) none pos) (wS X RT Y old σ (ex P (call P n) σ (.rse c true (.k e .z)))):=by
 obtain⟨C,fI,qual,st,fd,n1,n2,bd,ns,ey,pc,_,F,hi,hb,oI,l1,l2⟩:=M.md.pls c hc;refine cL (aCa (M.gl hg) bd ey pc F hi hb ⟨oI,l1,l2⟩ (fX ha kE (aC hp)) M.calm (rK X) (aL ho) (M.room.mono (Dd _)) (aC hp) (by rw[aC hp];rfl)) λD σV H t ⟨S,h⟩=>?_;have h:=OE.from S (show OE X.K (XW X) RT Y old H (O.from σ (ev P (call P n) σ e >>= λx=>R.ok [x]) λvs=>aDj c vs σ) D from h);have h:=RE.bind' h;refine wE.one S h λx u H1 hx t1 S1 r1=>⟨u,rfl,λdp hdp pins s1 a I fl=>?_⟩
 have hx:OE X.K (XW X) RT Y old H (match [x.d] with
  | [.int n]=>.exc (.err c [.int n]) σ|_=>.bad) D:=hx
 cases hd:x.d with
 | int k=>
  rw[hd] at hx;have hx:cO X.K RT Y old H σ (λσV H=>XW X σV H (.err c [.int k])):=hx;have s2:aP H1 (upd H1 dp (.xd [("place",u)])):=aP.new hdp;have hu:u=.int k:=by have z:=r1.rv S;unfold Rv at z;rw[hd] at z;exact z
  exact hx RT σV _ (Kp.same (r1.1.trans s2)) bP (S1.grow s2 I.tk) (cdV C dp) ⟨C,dp,rfl,ns,by rw[aS,hu]⟩ pins s1 a I fl
 | _=>rw[hd] at hx;exact hx.elim
theorem aAO(h:exB Y old pa b):exV RT Y old σ σV pa al b:=.inr h
theorem Ro.rtv(S:Sx X.K RT Y old σ σV H)(ro:Ro X.K RT Y old σ σV H H' v u):Rtv X.K Y old H' v u:=by unfold Rtv;by_cases hf:v.fr=true;rw[if_pos hf];obtain⟨s,h⟩:=ro;rw[if_pos hf] at h;obtain⟨a,xs,ds,e1,e2,e3,e4,r⟩:=h;exact⟨a,xs,ds,e1,e2,λz=>S.trk a (.inr (.inr z)) e3.1 e3.2,e4,r.weak λb z=>z.elim .inl λz=>.inr (aAO z)⟩;rw[if_neg hf];exact Rep.weak (ro.rv S) λb z=>aAO z
theorem aLG(he:PE X e (WE X P n RT Y old σ c)):PS X (.Return (some e) pos) (wS X RT Y old σ (ex P (call P n) σ (.ret c))):=by refine cL (aCK he) λD σV H t ⟨S,h⟩=>?_;have h:=OE.from S (show OE X.K (XW X) RT Y old H (O.from σ (ev P (call P n) σ c) .ret) D from h);exact wE.one S h λx u H1 hx t1 S1 r1 _=>(show nE X.K RT Y old H x D.rt from hx) u H1 (Kp.same r1.1) t1 (r1.rtv S)
theorem aIY:PS X (.Return none pos) (wS X RT Y old σ (ex P (call P n) σ .retN)):=cL aFw λD σV H t ⟨S,h⟩ _=>(show nE X.K RT Y old H (.cl .non) D.rt from h) .non H (Kp.refl RT H) t rfl
theorem aIZ(M:Mc X P Γ n)(hx:cP Γ i x=true):PS X (.Return (some (.Name x p)) pos) (wS X RT Y old σ (ex P (call P n) σ (.retv i))):=by
 have hpe:PE X (.Name x p) (sR i):=by unfold cP at hx;obtain⟨h1,h2,h3⟩:=gH hx;exact lX (by rw[M.N];exact eq_of_beq h1) (M.vis h2) (aL h3) (jD h3)
 refine cL (aCK hpe) λD σV H t ⟨S,h⟩=>?_;have h:OE X.K (XW X) RT Y old H (match σ[i]? with|some (.own pa ds)=>.ret ⟨.lst ds,true,pa,[]⟩|_=>O.from σ (bB σ i) .ret) D:=h;unfold bB at h;cases e:σ[i]? with
 | none=>rw[e] at h;exact h.elim|some sl=>
  rw[e] at h;cases sl with
  | x=>exact h.elim|dct _=>exact h.elim|par _ _=>exact h.elim|own pa ds=>obtain⟨a,xs,h1,h2,h3,h4,h5⟩:=S.own i pa ds e;refine⟨.ref a,h1,λ_=>(show nE X.K RT Y old H ⟨.lst ds,true,pa,[]⟩ D.rt from h) _ H (Kp.refl RT H) t ?_⟩;unfold Rtv;rw[if_pos rfl];exact⟨a,xs,ds,rfl,rfl,h4,h2,h5.weak λb z=>z.elim (λz=>.inl (by rw[z];exact h3)) .inr⟩|sh pa d=>
   obtain⟨v,h1,h2⟩:=S.sh i pa d e;refine⟨v,h1,λ_=>(show nE X.K RT Y old H ⟨d,false,pa&&!noL d,[]⟩ D.rt from h) v H (Kp.refl RT H) t ?_⟩;unfold Rtv;rw[if_neg bN];show Rep X.K H (exB Y old (pa&&!noL d)) d v;cases hn:noL d with
   | true=>exact Rep.free d v hn h2|false=>refine h2.weak λb z=>.inr ?_;rw[Bool.not_false,Bool.and_true] at z;exact z
theorem aNW(he:PE X e (WE X P n RT Y old σ c))(hs:mH e=false):PS X (.Expr e pos) (wS X RT Y old σ (ex P (call P n) σ (.ex c))):=by refine cL (nQ he (by cases e <;> first|rfl|cases hs)) λD σV H t ⟨S,h⟩=>?_;have h:=OE.from S (show OE X.K (XW X) RT Y old H (O.from σ (ev P (call P n) σ c) λ_=>.next σ) D from h);exact wE.one S h λx u H1 hx t1 S1 r1 _=>(show cO X.K RT Y old H σ D.nx from hx) RT σV H1 (Kp.same r1.1) bP S1
theorem aNX(hc:PT X e (WT X P n RT Y old σ c))(ha:∀RT σ,PSs X xa (wS X RT Y old σ (exs P (call P n) σ a)))(hb:∀RT σ,PSs X xb (wS X RT Y old σ (exs P (call P n) σ b))) :
 PS X (.If e xa xb pos) (wS X RT Y old σ (ex P (call P n) σ (.iff c a b))):=by
 refine cL (aKb hc (ha RT σ) (hb RT σ)) λD σV H t ⟨S,h⟩=>?_;have h:=OE.from S (show OE X.K (XW X) RT Y old H (O.from σ (tst P (call P n) σ c) λk=>if k=true then exs P (call P n) σ a else exs P (call P n) σ b) D from h);refine⟨S,h.mono λk hk H1 t1 s1=>?_⟩;cases k with
 | true=>rw[if_pos rfl] at hk ⊢;exact⟨S.grow s1 t1,(OE.mono (Kp.same s1) bP hk).tkE⟩|false=>rw[if_neg bN] at hk ⊢;exact⟨S.grow s1 t1,(OE.mono (Kp.same s1) bP hk).tkE⟩
theorem tZ{v:Vl}{D:Ends}(S:Sx X.K RT Y old σ σV H)(t1:Tk X.K H1)(r1:Ro X.K RT Y old σ σV H H1 v u)(h:OE X.K (XW X) RT Y old H (O.from σ (bT (freeze σ v.al) v t) .next) D):gT X.K t u σV H1 D.nx:=by
 obtain⟨σ2,e,hp⟩:=OE.fromc h (mO _ _ _);have hp:cO X.K RT Y old H σ2 D.nx:=hp;clear h;cases t with
 | n i=>obtain⟨RT',S',hsub⟩:=S.store r1 t1 i;rw[pF e] at hp;exact hp RT' _ H1 (Kp.same r1.1) hsub S'|t is=>
  obtain⟨ds,hd,hl,e'⟩:=pE e;have Sf:=(S.grow r1.1 t1).frz v.al;have hr:Rep X.K H1 (λa=>rtF RT σ σV v.al a\/exB Y old v.pa a) v.d u:=r1.rv S;have hf:v.fr=false\/v.fr=true:=by cases v.fr <;> simp
  rcases hf with hf|hf;exact aEa Sf hf hr e λσ2V S2 _=>hp _ _ _ (Kp.same r1.1) (λb z=>.inl z.1) S2;have:=r1.2;rw[if_pos hf] at this;obtain⟨a,xs,ds',_,e2,_⟩:=this;rw[hd] at e2;cases e2
theorem aJa(M:Mc X P Γ n)(hx:bJ Γ i x=true)(he:PE X e (WE X P n RT Y old σ c))(hs:mH e=false):PS X (.Assign [.Name x p] e pos) (wS X RT Y old σ (ex P (call P n) σ (.set (.n i) c))):=by unfold bJ at hx;obtain⟨h1,h2,h3⟩:=gH hx;refine cL (lY (i:=i) M.nd (by rw[M.N];exact eq_of_beq h1) (M.loc h2) he (by cases e <;> first|rfl|cases hs) (M.st x h2)) λD σV H t ⟨S,h⟩=>?_;have h:=OE.from S (show OE X.K (XW X) RT Y old H (O.from σ (ev P (call P n) σ c) λv=>O.from σ (bT (freeze σ v.al) v (.n i)) .next) D from h);exact wE.one S h λv u H1 hv t1 S1 r1=>tZ (t:=.n i) S t1 r1 (OE.tkE hv)
theorem aJb(M:Mc X P Γ n)(hx:qV Γ (.t is) (.Tuple es k p)=true)(he:PE X e (WE X P n RT Y old σ c))(hs:yY e=false):PS X (.Assign [.Tuple es k p] e pos) (wS X RT Y old σ (ex P (call P n) σ (.set (.t is) c))):=by refine cL (aCN he (aGu M hx) (by cases e <;> rfl) (by cases e <;> first|rfl|cases hs)) λD σV H t ⟨S,h⟩=>?_;have h:=OE.from S (show OE X.K (XW X) RT Y old H (O.from σ (ev P (call P n) σ c) λv=>O.from σ (bT (freeze σ v.al) v (.t is)) .next) D from h);exact wE.one S h λv u H1 hv t1 S1 r1=>tZ (t:=.t is) S t1 r1 (OE.tkE hv)
theorem aCi{i:Nat}{x:Str}{p cpos:Pos}(M:Mc X P Γ n)(hx:bJ Γ i x=true){k:Nat}{caps:List Nat}{t:T}{it:Hp.It}{cond:Es}{elt:E}{e tg iter:Expr}{ifs:List Expr}{scope:Scope}{N':List Str}(CS:dI X scope k caps N')(hnd:caps.Nodup)(hk:∀i∈tIx t,i<k)(hcm:(Γ.fn||iE elt)=true)
 (hi:PI X tg iter (wI X P n RT Y old σ it))
 (hch:∀C s₀ H₀ ex,PG (cW X scope N' C s₀ H₀ ex) tg (gT X.K t)/\(∀RT Y old σ1,PTs (cW X scope N' C s₀ H₀ ex) ifs (aCg X.K P n RT Y old σ1 cond))/\∀pl E W,PassesOwn (model X.prog X.w) X.A (cW X scope N' C s₀ H₀ ex).env E->Rs ((cW X scope N' C s₀ H₀ ex).inTry pl E) W->∀RT Y old σ1,PE ((cW X scope N' C s₀ H₀ ex).inTry pl E) e (wE0 X.K P n W RT Y old σ1 elt))
 (hs:∀x,foldedSetIterable iter X.env x=pure x):PS X (.Assign [.Name x p] (.ListComp e [⟨tg,iter,ifs,0⟩] scope cpos) pos) (wS X RT Y old σ (ex P (call P n) σ (.set (.n i) (.comp k caps t it cond elt)))):=by unfold bJ at hx;obtain⟨h1,h2,h3⟩:=gH hx;refine cL (zD (g:=gT X.K t) (tt:=λσV H Q=>∃RT Y old σ1,aCg X.K P n RT Y old σ1 cond σV H Q) (te:=λW σV H Q=>∃RT Y old σ1,wE0 X.K P n W RT Y old σ1 elt σV H Q) (WX:=λc σ H=>Γ.fn=true/\RX X c σ H) CS M.calm hi (λC s₀ H₀ ex=>?_) (λc σ H z=>⟨M.stk z.1,z.2⟩) hs M.nd (by rw[M.N];exact eq_of_beq h1) (M.loc h2) (M.st x h2)) λD σV H t0 ⟨S,h⟩=>?_;obtain⟨h1,h2,h3⟩:=hch C s₀ H₀ ex;exact⟨h1,λpins s σV H Q I ⟨RT,Y,old,σ1,hw⟩=>h2 RT Y old σ1 pins s σV H Q I hw,λpl E W own rs pins s σV H Q I ⟨RT,Y,old,σ1,hw⟩=>h3 pl E W own rs RT Y old σ1 pins s σV H Q I hw⟩;have h:=OE.from S (show OE X.K (XW X) RT Y old H (O.from σ (ev P (call P n) σ (.comp k caps t it cond elt)) λv=>O.from σ (bT (freeze σ v.al) v (.n i)) .next) D from h);exact aEd (Q:=λv H'=>qZ i v σV H' D.nx) hnd hk hcm ⟨S,h.mono λv hv u H1 t1 r1=>tZ (t:=.n i) S t1 r1 hv⟩
theorem Sx.mut{K:Fg}{σV:L2.St}{H:Hp}(S:Sx K RT Y old σ σV H){i:Nat}{pa pa':Bool}{ds ds':List D}{a:Addr}{xs':List V}(e:σ[i]? = some (.own pa ds))(ha:σV[i]? = some (some (.ref a)))(r:Reps K H (λb=>RT b\/exB Y old pa' b) ds' xs') :
 Sx K RT Y old (σ.set i (.own pa' ds')) σV (upd H a (.lst xs')):=by
 obtain⟨a',xs,h1,h2,h3,h4,h5⟩:=S.own i pa ds e;rw[ha] at h1;cases h1;have ks:∀{ex:Addr->Prop},∀b o,H b=some o->(∀ys,o=.lst ys->¬ (RT b\/ex b))->(∀xs,o≠iD b xs)->upd H a (.lst xs') b=some o:=λ{ex} b o q hl _=>by rw[aF λz=>by subst z;rw[h2] at q;cases q;exact hl xs rfl (.inl h3)];exact q
 exact {
  sh:=λj pb d q=>by
   rcases set_some q with⟨_,z,_⟩|⟨_,q⟩
   cases z;obtain⟨v,g1,g2⟩:=S.sh j pb d q;exact⟨v,g1,g2.keep ks⟩
  own:=λj pb dd q=>by
   rcases set_some q with⟨rfl,z,_⟩|⟨hne,q⟩
   cases z;exact⟨a,xs',ha,aS,h3,h4,r.keep ks⟩;obtain⟨b,ys,g1,g2,g3,g4,g5⟩:=S.own j pb dd q;have hb:b≠a:=λz=>by subst z;exact hne (S.inj i j pa pb ds dd b e q ha g1)
   exact⟨b,ys,g1,by rw[aF hb];exact g2,g3,g4,g5.keep ks⟩
  trk:=λb z q=>by by_cases hb:b=a;rw[hb,aS] at q;cases q;rw[aF hb] at q;exact S.trk b z q
  yo:=S.yo
  tk:=λb z=>by by_cases hb:b=a;rw[hb];exact S.tk a (by rw[h2];simp);rw[aF hb] at z;exact S.tk b z
  rt:=λb z=>by by_cases hb:b=a;rw[hb];exact .inl ⟨xs',aS⟩;unfold RtO;rw[aF hb];exact S.rt b z
  inj:=λj j' pb pb' dd dd' b q1 q2=>by
   have get:∀{j:Nat} {pb:Bool} {dd:List D},(σ.set i (.own pa' ds'))[j]? = some (.own pb dd)->∃p2 d2,σ[j]? = some (.own p2 d2):=λ{j pb dd} q=>by
    rcases set_some q with⟨rfl,_,_⟩|⟨_,q⟩
    exact⟨pa,ds,e⟩;exact⟨pb,dd,q⟩
   obtain⟨_,_,z1⟩:=get q1;obtain⟨_,_,z2⟩:=get q2;exact S.inj j j' _ _ _ _ b z1 z2
  len:=by rw[Aw];exact S.len
  dx:=S.dx.imp id (λj dd q=>by
   rcases set_some q with⟨_,z,_⟩|⟨_,q⟩
   cases z;exact⟨q,rfl⟩) (λ_ _ _ _ _ _ e=>e) (λb ys q z _=>⟨by rw[aF λw=>by rw[w,h2] at q;cases q];exact q,z⟩) (λb ks z=>Kp.seqT (R:=λb=>b=a) (λb o q n=>by rw[aF n];exact q) (λb z=>.inl ⟨xs,by rw[z];exact h2⟩) z) (λj dd ee q=>by
   rcases set_some q with⟨_,z,_⟩|⟨_,q⟩
   cases z;exact⟨q,rfl⟩) (λ_ _ _ _ _ _ _ _ e=>e) λp ys q z=>⟨by rw[aF λw=>z.2.2 i pa ds e (by rw[w];exact ha)];exact q,z.1,z.2.1,λk pb dd w=>by
   rcases set_some w with⟨rfl,_,_⟩|⟨_,w⟩
   exact z.2.2 i pa ds e;exact z.2.2 k pb dd w⟩ }
theorem Kp.upd(s:aP H H1)(h:RT a):Kp RT H (upd H1 a (.lst xs)):=λb o e nn=>by rw[aF λz=>nn (by rw[z];exact h)];exact s b o e
theorem aEf(h:kX σ i=some (pa,ds)):σ[i]? = some (.own pa ds):=by unfold kX at h;split at h;rename_i q;cases h;exact q;cases h
theorem zO{v:Vl}{f:List D->Option (List D)}{D:Ends}(h:OE X.K (XW X) RT Y old H (put σ i v f) D):∃pa ds ds',σ[i]? = some (.own pa ds)/\i∉v.al/\f ds=some ds'/\ds'.length<=lim/\cO X.K RT Y old H ((freeze σ v.al).set i (.own (pa||v.pa) ds')) D.nx:=by unfold put at h;split at h;rename_i pa ds q;have q:=eL (aEf q);split at h;rename_i ds' q2;split at h;rename_i hl;exact⟨pa,ds,ds',q.1,q.2,q2,hl,h⟩;exact h.elim;exact h.elim;exact h.elim
theorem uA(h:exB Y old (pa||pb) b):exB Y old pa b:=h.imp_right λz=>⟨by cases pa <;> simp_all,z.2⟩
theorem aAP(h:exB Y old (pa||pb) b):exB Y old pb b:=h.imp_right λz=>⟨by cases pb <;> simp_all,z.2⟩
theorem aAQ(h:vT Γ i m c=some xs):∃x p ap cp,c=.Call (.Attribute (.Name x p) m ap) xs [] cp/\cP Γ i x=true/\(ap.endLine==cp.line)=true:=by unfold vT at h;split at h;rename_i x p a ap xs' cp;split at h;rename_i q;obtain⟨q1,q2,q3⟩:=gH q;cases h;have e:a=m:=eq_of_beq q1;subst e;exact⟨x,p,ap,cp,rfl,q2,q3⟩;cases h;cases h
theorem zP:lim<sizeLine:=by rw[Bz];decide
theorem pG{i:Nat}{al:List Nat}{pa:Bool}{ds:List D}{σV:L2.St}{H H1:Hp}{b:Addr}{xs:List V}(S:Sx X.K RT Y old σ σV H)(s1:aP H H1)(q1:σ[i]? = some (.own pa ds))(h1:σV[i]? = some (some (.ref b)))(h2:H b=some (.lst xs)) :
 Reps X.K H1 (λc=>rtF RT σ σV al c\/exB Y old pa c) ds xs:=by obtain⟨b',xs',g1,g2,g3,g4,g5⟩:=S.own i pa ds q1;rw[h1] at g1;cases g1;rw[h2] at g2;cases g2;exact(g5.grow s1).weak λc z=>z.elim (λz=>.inl z.1) .inr
theorem pH{i:Nat}{v:Vl}{pa:Bool}{ds ds':List D}{σV:L2.St}{H H1:Hp}{b:Addr}{xs':List V}{Q:L2.St->Hp->Prop}(S:Sx X.K RT Y old σ σV H)(s1:aP H H1)(t1:Tk X.K H1)(q1:σ[i]? = some (.own pa ds))(q2:i∉v.al)(h1:σV[i]? = some (some (.ref b)))
 (r:Reps X.K H1 (λc=>rtF RT σ σV v.al c\/exB Y old (pa||v.pa) c) ds' xs') (hpost:cO X.K RT Y old H ((freeze σ v.al).set i (.own (pa||v.pa) ds')) Q):Q σV (upd H1 b (.lst xs')):=by
 obtain⟨b',xs,g1,g2,g3,g4,g5⟩:=S.own i pa ds q1;rw[h1] at g1;cases g1;have e':(freeze σ v.al)[i]? = some (.own pa ds):=by rw[eK,q1];simp[q2]
 exact hpost _ σV _ (Kp.upd s1 g3) (λc z=>.inl z.1) (((S.grow s1 t1).frz v.al).mut e' h1 r)
theorem aEg{v:Vl}(h:Rv X.K RT Y old σ σV H1 v u):Rep X.K H1 (λc=>rtF RT σ σV v.al c\/exB Y old (pa||v.pa) c) v.d u:=Rep.weak h λc z=>z.imp id aAP
theorem aLH{i:Nat}{c:E}{e a:Expr}(M:Mc X P Γ n)(hc:vT Γ i "append" e=some [a])(ha:PE X a (WE X P n RT Y old σ c))(hp:aV a=true):PS X (.Expr e pos) (wS X RT Y old σ (ex P (call P n) σ (.app i c))):=by obtain⟨x,p,ap,cp,rfl,hx,hl⟩:=aAQ hc;refine cL (nQ (aAv D3 PySem.F.slot_list_append PySem.F.type_list_append rF (gX M hx) (fX ha kE (aC hp)) rfl (by rw[aC hp];rfl) hl (aC hp) rfl)) λD σV H t ⟨S,h⟩=>?_;have h:=OE.from S (show OE X.K (XW X) RT Y old H (O.from σ (ev P (call P n) σ c).calm λv=>put σ i v λds=>some (ds++[v.d])) D from h);obtain⟨v,ee,h⟩:=RE.calmEq h;obtain⟨pa,ds,ds',q1,q2,q3,q4,hpost⟩:=zO h;cases q3;obtain⟨b,xs,h1,h2,h3,h4,h5⟩:=S.own i pa ds q1;refine⟨.ref b,h1,.inl ⟨rfl,xs,SqL.of h2⟩,S,?_⟩;rw[ee];intro u H1 t1 r1;have hlen:=h5.length;refine⟨b,xs,u,rfl,rfl,r1.1 _ _ h2,?_,λ_=>?_⟩;rw[lA,C5] at q4;have:=zP;omega;exact pH S r1.1 t1 q1 q2 h1 (((pG S r1.1 q1 h1 h2).weak λc z=>z.imp id uA).append (.cons (aEg (r1.rv S)) .nil)) hpost
theorem aLI{i:Nat}{c:E}{e a:Expr}(M:Mc X P Γ n)(hc:vT Γ i "extend" e=some [a])(ha:PE X a (WE X P n RT Y old σ c))(hp:aV a=true):PS X (.Expr e pos) (wS X RT Y old σ (ex P (call P n) σ (.ext i c))):=by
 obtain⟨x,p,ap,cp,rfl,hx,hl⟩:=aAQ hc;refine cL (nQ (aAv D3 PySem.F.slot_list_extend PySem.F.type_list_extend aBM (gX M hx) (fX ha kE (aC hp)) rfl (by rw[aC hp];rfl) hl (aC hp) rfl)) λD σV H t ⟨S,h⟩=>?_;have h:=OE.from S (show OE X.K (XW X) RT Y old H (O.from σ (ev P (call P n) σ c).calm λv=>(match rH v with|some (v',ds')=>put σ i v' λds=>some (ds++ds')|none=>.bad)) D from h);obtain⟨v,ee,h⟩:=RE.calmEq h;unfold rH at h;cases hf:v.fr with
 | false=>rw[hf] at h;exact h.elim|true=>
  rw[hf] at h;cases hd:v.d with
  | lst es=>rw[hd] at h;obtain⟨pa,ds,ds',q1,q2,q3,q4,hpost⟩:=zO h;cases q3;obtain⟨b,xs,h1,h2,h3,h4,h5⟩:=S.own i pa ds q1;refine⟨.ref b,h1,.inl ⟨rfl,xs,SqL.of h2⟩,S,?_⟩;rw[ee];intro u H1 t1 r1;have hr:=r1.2;rw[if_pos hf] at hr;obtain⟨a',ys,es',e1,e2,e3,e4,r⟩:=hr;rw[hd] at e2;cases e2;subst e1;have hlen:=h5.length;have hlen2:=r.length;refine⟨b,a',xs,ys,rfl,rfl,r1.1 _ _ h2,e4,?_,λ_=>?_⟩;rw[lA] at q4;have:=zP;omega;refine pH S r1.1 t1 q1 q2 h1 (((pG S r1.1 q1 h1 h2).weak λc z=>z.imp id uA).append ?_) hpost;have rr:=fY (r.weak λb z=>.inr z);exact rr.weak λc z=>z.imp id aAP|_=>rw[hd] at h;exact h.elim
theorem aGx{i:Nat}{ck c:E}{x:Str}{p p2:Pos}{ix v:Expr}(M:Mc X P Γ n)(hx:cP Γ i x=true)(hk:PE X ix (WE X P n RT Y old σ ck))(he:PE X v (WE X P n RT Y old σ c))(hpl:aV ix=true):PS X (.Assign [.Subscript (.Name x p) ix p2] v pos) (wS X RT Y old σ (ex P (call P n) σ (.setIx i ck c))):=by
 refine cL (aCN he (aHR (gX M hx) hk aCX (by intro _;cases ix <;> first|rfl|cases hpl)) (by cases v <;> rfl) (by cases v <;> rfl)) λD σV H t ⟨S,h⟩=>?_;have h:=OE.from S (show OE X.K (XW X) RT Y old H (O.from σ (ev P (call P n) σ c) λv=>O.from σ (ev P (call P n) σ ck).calm λkv=>(match kv.d with
  | .int k=>put σ i v λds=>(match ixN ds.length k with|some j=>some (ds.set j v.d)|none=>none)
  | _=>.bad)) D from h)
 refine wE.one S h λv u H1 hv t1 S1 r1=>?_;obtain⟨kv,ek,hv⟩:=RE.calmEq (OE.from S hv);cases hd:kv.d with
 | int k=>
  rw[hd] at hv;obtain⟨pa,ds,ds',q1,q2,q3,q4,hpost⟩:=zO hv;obtain⟨b,xs,h1,h2,h3,h4,h5⟩:=S.own i pa ds q1;cases hj:ixN ds.length k with
  | none=>rw[hj] at q3;cases q3|some j=>rw[hj] at q3;cases q3;refine⟨.ref b,h1,S1,?_⟩;rw[ek];intro uk H2 t2 r2;have hlen:=h5.length;refine⟨b,xs,k,j,rfl,(r2.rv S1).int hd,r2.1 _ _ (r1.1 _ _ h2),by rw[<-hlen,<-tR];exact hj,λ_=>?_⟩;have s2:=r1.1.trans r2.1;refine pH S s2 t2 q1 q2 h1 (((pG S s2 q1 h1 h2).weak λc z=>z.imp id uA).set j (aEg ((r1.rv S).grow r2.1))) hpost
 | _=>rw[hd] at hv;exact hv.elim
theorem Sx.move{K:Fg}{σV:L2.St}{H:Hp}(S:Sx K RT Y old σ σV H){i j:Nat}{pa:Bool}{ds:List D}{a:Addr}(e:σ[j]? = some (.own pa ds))(hij:i≠j)(ha:σV[j]? = some (some (.ref a))):Sx K RT Y old ((σ.set j .x).set i (.own pa ds)) (σV.set i (some (.ref a))) H where
 sh:=λk pb d q=>by
  rcases set_some q with⟨_,z,_⟩|⟨n1,q⟩
  cases z;rcases set_some q with⟨_,z,_⟩|⟨n2,q⟩
  cases z;obtain⟨v,g1,g2⟩:=S.sh k pb d q;exact⟨v,by rw[Ac n1];exact g1,g2⟩
 own:=λk pb dd q=>by
  rcases set_some q with⟨rfl,z,hl⟩|⟨n1,q⟩
  cases z;obtain⟨b,xs,g1,g2,g3⟩:=S.own j pa ds e;rw[ha] at g1;cases g1;rw[Aw] at hl;exact⟨a,xs,Ar (by rw[<-S.len];exact hl),g2,g3⟩;rcases set_some q with⟨_,z,_⟩|⟨n2,q⟩
  cases z;obtain⟨b,xs,g1,g2⟩:=S.own k pb dd q;exact⟨b,xs,by rw[Ac n1];exact g1,g2⟩
 trk:=S.trk
 yo:=S.yo
 tk:=S.tk
 rt:=S.rt
 inj:=λk k' pb pb' dd dd' b q1 q2 v1 v2=>by
  have get:∀{k:Nat} {pb:Bool} {dd:List D},((σ.set j .x).set i (.own pa ds))[k]? = some (.own pb dd)->(σV.set i (some (.ref a)))[k]? = some (some (.ref b))->(k=i/\b=a)\/(k≠i/\k≠j/\σ[k]? = some (.own pb dd)/\σV[k]? = some (some (.ref b))):=λ{k pb dd} q v=>by
   rcases set_some q with⟨rfl,z,hl⟩|⟨n1,q⟩
   rw[Aw] at hl;rw[Ar (by rw[<-S.len];exact hl)] at v;cases v;exact .inl ⟨rfl,rfl⟩;rcases set_some q with⟨_,z,_⟩|⟨n2,q⟩
   cases z;rw[Ac n1] at v;exact .inr ⟨Ne.symm n1,Ne.symm n2,q,v⟩
  rcases get q1 v1 with⟨e1,b1⟩|⟨n1,m1,o1,w1⟩
  rcases get q2 v2 with⟨e2,_⟩|⟨n2,m2,o2,w2⟩
  rw[e1,e2];subst b1;exact absurd (S.inj k' j _ _ _ _ b o2 e w2 ha) m2;rcases get q2 v2 with⟨e2,b2⟩|⟨n2,m2,o2,w2⟩
  subst b2;exact absurd (S.inj k j _ _ _ _ b o1 e w1 ha) m1;exact S.inj k k' _ _ _ _ b o1 o2 w1 w2
 len:=by rw[Aw,Aw,Aw];exact S.len
 dx:=S.dx.imp id (λk dd q=>by
  rcases set_some q with⟨_,z,_⟩|⟨n1,q⟩
  cases z;rcases set_some q with⟨_,z,_⟩|⟨n2,q⟩
  cases z;exact⟨q,Ac n1⟩) (λ_ _ _ _ _ _ e=>e) (λ_ _ e z _=>⟨e,z⟩) (λ_ _ r=>r) (λk dd ee q=>by
  rcases set_some q with⟨_,z,_⟩|⟨n1,q⟩
  cases z;rcases set_some q with⟨_,z,_⟩|⟨n2,q⟩
  cases z;exact⟨q,Ac n1⟩) (λ_ _ _ _ _ _ _ _ e=>e) λp xs q z=>⟨q,z.1,z.2.1,λk pb dd q w=>by
  rcases set_some q with⟨rfl,_,hl⟩|⟨n1,q⟩
  rw[Aw] at hl;rw[Ar (by rw[<-S.len];exact hl)] at w;cases w;exact z.2.2 j pa ds e ha;rcases set_some q with⟨_,v,_⟩|⟨n2,q⟩
  cases v;rw[Ac n1] at w;exact z.2.2 k pb dd q w⟩
theorem aLJ(M:Mc X P Γ n)(hx:bJ Γ i x=true)(hy:cP Γ j y=true):PS X (.Assign [.Name x p] (.Name y p2) pos) (wS X RT Y old σ (ex P (call P n) σ (.mov i j))):=by
 unfold bJ at hx;obtain⟨h1,h2,h3⟩:=gH hx;refine cL (lY (i:=i) M.nd (by rw[M.N];exact eq_of_beq h1) (M.loc h2) (gX M hy) rfl (M.st x h2)) λD σV H t ⟨S,h⟩=>?_;have h:OE X.K (XW X) RT Y old H (match σ[j]? with
  | some (.own pa ds)=>if i=j then .bad else .next ((σ.set j .x).set i (.own pa ds))|some (.sh pa d)=>.next (σ.set i (.sh (pa&&!noL d) d))|_=>.bad) D:=h
 cases e:σ[j]? with
 | none=>rw[e] at h;exact h.elim|some sl=>
  rw[e] at h;cases sl with
  | x=>exact h.elim|dct _=>exact h.elim|par _ _=>exact h.elim|own pa ds=>by_cases hij:i=j;have h:OE X.K (XW X) RT Y old H (if i=j then .bad else .next ((σ.set j .x).set i (.own pa ds))) D:=h;rw[if_pos hij] at h;exact h.elim;have h:OE X.K (XW X) RT Y old H (if i=j then .bad else .next ((σ.set j .x).set i (.own pa ds))) D:=h;rw[if_neg hij] at h;obtain⟨a,xs,g1,g2⟩:=S.own j pa ds e;exact⟨.ref a,g1,λ_=>(show cO X.K RT Y old H _ D.nx from h) RT _ H (Kp.refl RT H) bP (S.move e hij g1)⟩|sh pa d=>
   obtain⟨v,g1,g2⟩:=S.sh j pa d e;refine⟨v,g1,λ_=>(show cO X.K RT Y old H (σ.set i (.sh (pa&&!noL d) d)) D.nx from h) RT _ H (Kp.refl RT H) bP (S.setSh ?_)⟩;cases hn:noL d with
   | true=>exact Rep.free d v hn g2|false=>rw[Bool.not_false,Bool.and_true];exact g2
theorem aLK(M:Mc X P Γ n)(hx:qV Γ t tg=true)(hi:PI X tg iter (wI X P n RT Y old σ it))(hb:∀RT σ,PSs X body (wS X RT Y old σ (exs P (call P n) σ b)))(hs:∀x,foldedSetIterable iter X.env x=pure x) :
 PS X (.For tg iter body [] pos) (wS X RT Y old σ (ex P (call P n) σ (.for t it b))):=by
 have hp:PassesOwn (model X.prog X.w) X.A X.env X.xe:=M.own;refine cL (aHT hp M.calm hi (aGu M hx) (aAN hb) hs) λD0 σV H t0 ⟨S,h⟩=>?_;have h:=OE.tkE h;revert h;generalize tkE X.K D0=D;intro h
 let f:Sg->Vl->O:=λσ x=>O.from σ (bT σ x t) λσ'=>exs P (call P n) σ' b
 have h:=OE.from S (show OE X.K (XW X) RT Y old H (O.from σ (walk P (call P n) σ it) λxs=>dP f xs.1 (freeze σ xs.2)) D from h);refine⟨S,h.mono λxs hx J H1 t1 s1 ok=>?_⟩;have S1:=S.grow s1 t1;have Sf:=S1.frz xs.2;refine⟨λi m σ1V Hc=>m=xs.1.length-i/\i<=xs.1.length/\∃RT1 σ1,Kp (rtF RT σ σV xs.2) H1 Hc/\(∀b,RT1 b->rtF RT σ σV xs.2 b\/H1 b=none)/\Sx X.K RT1 Y old σ1 σ1V Hc/\OE X.K (XW X) RT1 Y old Hc (dP f (xs.1.drop i) σ1) D,
  ⟨_,rfl,Dd _,rtF RT σ σV xs.2,freeze σ xs.2,Kp.refl _ _,bP,Sf,OE.mono (Kp.same s1) (λb z=>.inl z.1) hx⟩,?_⟩
 rintro i m σ1V Hc ⟨hm,hi,RT1,σ1,kp,hsub,Sc,ho⟩;have okc:=ok.ok (rtF RT σ σV xs.2) (λ_ z=>z) i Hc kp;by_cases hlt:i<xs.1.length;refine .inr ⟨okc.1 hlt,λσ' H'=>xs.1.length-(i+1)=xs.1.length-(i+1)/\i+1<=xs.1.length/\∃RT1 σ1,Kp (rtF RT σ σV xs.2) H1 H'/\(∀b,RT1 b->rtF RT σ σV xs.2 b\/H1 b=none)/\Sx X.K RT1 Y old σ1 σ' H'/\OE X.K (XW X) RT1 Y old H' (dP f (xs.1.drop (i+1)) σ1) D,
  λσ' H' hN=>⟨_,by omega,hN⟩,λx H' hy=>?_⟩
 have hxi:xs.1[i]? = some xs.1[i]:=Ad hlt;obtain⟨sm,tkf,rv⟩:=okc.2.2 x H' hy xs.1[i] hxi;have hmem:xs.1[i]∈xs.1:=A7 hlt;rw[List.drop_eq_getElem_cons hlt] at ho;have Sc':=Sc.grow sm (tkf Sc.tk);have rep:Rep X.K H' (λa=>RT1 a\/exB Y old xs.1[i].pa a) xs.1[i].d x:=rv.weak λa z=>by rcases z with z|z;rcases hsub a z with q|q;exact .inl (.inl ⟨q.1,λw=>q.2 (w.mono (ok.sub _ hmem))⟩);exact .inr ⟨q,Sc.tk a (Sc.rt a z).ne⟩;exact .inl (.inr z)
 have ho:OE X.K (XW X) RT1 Y old Hc (match f σ1 xs.1[i] with
  | .next σ'=>dP f (xs.1.drop (i+1)) σ'|.cnt σ'=>dP f (xs.1.drop (i+1)) σ'|.brk σ'=>.next σ'|o=>o) D:=ho
 cases hset:bT σ1 xs.1[i] t with
 | exc e=>exact absurd hset (mO _ _ _ _)|bad=>rw[show f σ1 xs.1[i]=.bad by show O.from σ1 (bT σ1 xs.1[i] t) _=_;rw[hset];rfl] at ho;exact ho.elim|ok σ2=>
  rw[show f σ1 xs.1[i]=exs P (call P n) σ2 b by show O.from σ1 (bT σ1 xs.1[i] t) _=_;rw[hset];rfl] at ho;refine aEa Sc' (ok.nofr _ hmem) rep hset λσ2V S2 _=>⟨RT1,σ2,S2,?_⟩
  have kS:Kp RT1 Hc H':=Kp.same sm;have again:∀{σ':Sg} {RT':Addr->Prop} {σV':L2.St} {H'':Hp},Kp RT1 H' H''->(∀b,RT' b->RT1 b\/H' b=none)->Sx X.K RT' Y old σ' σV' H''->OE X.K (XW X) RT1 Y old Hc (dP f (xs.1.drop (i+1)) σ') D ->
   (xs.1.length-(i+1)=xs.1.length-(i+1)/\i+1<=xs.1.length/\∃RT1 σ1,Kp (rtF RT σ σV xs.2) H1 H''/\(∀b,RT1 b->rtF RT σ σV xs.2 b\/H1 b=none)/\Sx X.K RT1 Y old σ1 σV' H''/\OE X.K (XW X) RT1 Y old H'' (dP f (xs.1.drop (i+1)) σ1) D):=λ{σ' RT' σV' H''} k2 s2 S3 h3=>by have k3:Kp RT1 Hc H'':=kS.chain bP k2;have s3:∀b,RT' b->RT1 b\/Hc b=none:=mP kS bP s2;exact⟨rfl,hlt,RT',σ',kp.chain hsub k3,mP kp hsub s3,S3,OE.mono k3 s3 h3⟩
  cases q:exs P (call P n) σ2 b with
  | next σ'=>rw[q] at ho;exact λRT' σV' H'' k2 s2 S3=>again k2 s2 S3 ho|cnt σ'=>rw[q] at ho;exact λRT' σV' H'' k2 s2 S3=>again k2 s2 S3 ho|brk σ'=>rw[q] at ho;exact cO.mono kS bP (show cO X.K RT1 Y old Hc σ' D.nx from ho)|ret v=>rw[q] at ho;exact OE.mono (o:=.ret v) kS bP ho|exc e σ'=>rw[q] at ho;exact OE.mono (o:=.exc e σ') kS bP ho|bad=>rw[q] at ho;exact ho.elim
 have hie:i=xs.1.length:=by omega
 subst hie;rw[List.drop_length] at ho;exact .inl ⟨okc.2.1 (Ai _),(show cO X.K RT1 Y old Hc σ1 D.nx from ho) RT1 σ1V Hc (Kp.refl _ _) bP Sc⟩
theorem Sx.kill{K:Fg}{σV:L2.St}{H:Hp}(S:Sx K RT Y old σ σV H)(j:Nat)(v:Option V):Sx K RT Y old (σ.set j .x) (σV.set j v) H where
 sh:=λk pb d q=>by
  rcases set_some q with⟨_,z,_⟩|⟨n1,q⟩
  cases z;obtain⟨v,g1,g2⟩:=S.sh k pb d q;exact⟨v,by rw[Ac n1];exact g1,g2⟩
 own:=λk pb dd q=>by
  rcases set_some q with⟨_,z,_⟩|⟨n1,q⟩
  cases z;obtain⟨b,xs,g1,g2⟩:=S.own k pb dd q;exact⟨b,xs,by rw[Ac n1];exact g1,g2⟩
 trk:=S.trk
 yo:=S.yo
 tk:=S.tk
 rt:=S.rt
 inj:=λk k' pb pb' dd dd' b q1 q2 v1 v2=>by
  rcases set_some q1 with⟨_,z,_⟩|⟨n1,q1⟩
  cases z;rcases set_some q2 with⟨_,z,_⟩|⟨n2,q2⟩
  cases z;rw[Ac n1] at v1;rw[Ac n2] at v2;exact S.inj k k' _ _ _ _ b q1 q2 v1 v2
 len:=by rw[Aw,Aw];exact S.len
 dx:=S.dx.imp id (λj ds e=>by
  rcases set_some e with⟨_,z,_⟩|⟨hij,e⟩
  cases z;exact⟨e,Ac hij⟩) (λ_ _ _ _ _ _ e=>e) (λ_ _ e z _=>⟨e,z⟩) (λ_ _ r=>r) (λj ds es e=>by
  rcases set_some e with⟨_,z,_⟩|⟨hij,e⟩
  cases z;exact⟨e,Ac hij⟩) (λ_ _ _ _ _ _ _ _ e=>e) λp xs e z=>⟨e,z.1,z.2.1,λk pa' ds q=>by
  rcases set_some q with⟨_,w,_⟩|⟨hij,q⟩
  cases w;rw[Ac hij];exact z.2.2 k pa' ds q⟩
theorem aEh{K:Fg}{C:Addr}(h:iN K C=true):jV K C C=some true:=by unfold iN at h;unfold jV;split at h;rename_i ho;rw[ho];split at h;rename_i hm _;simp only[bA,Ci] at h;simp[hm,h.1.1.1];cases h;cases h
theorem aLL(M:Mc X P Γ n)(hg:cY Γ c1=true)(ho:bU c1=true)(hp1:c1∈Γ.pls)(hc:c1∈Γ.cls)(hg2:cY Γ c2=true)(ho2:bU c2=true)(hc2:c2∈Γ.cls)(hy:bJ Γ i y=true)(hz:bJ Γ k z=true)(hn:bJ Γ j nm=true)(hl:Γ.sc.lookup nm=some .local)(hij:i≠j)(hkj:k≠j)(hfn:Γ.fn=true)
 (hb:∀{X':Cx},Mc X' P Γ n->∀RT σ,PSs X' body (wS X' RT Y old σ (exs P (call P n) σ b))) :
 PS X (.Try body [.ExceptHandler (some (.Name c1 np)) (some nm) [.Assign [.Name y yp] (.Name nm np2) ap,.Assign [.Name z zp] (.Attribute (.Name nm np3) "place" atp) ap2] hp,.ExceptHandler (some (.Name c2 np4)) (some nm) [.Assign [.Name y yp2] (.Name nm np5) ap3] hp2] [] [] pos) (wS X RT Y old σ (ex P (call P n) σ (.tryF b c1 c2 i j k))):=by
 unfold bJ at hy hz hn;obtain⟨y1,y2,y3⟩:=gH hy;obtain⟨z1,z2,z3⟩:=gH hz;obtain⟨n1,n2,n3⟩:=gH hn;obtain⟨C,fI,_,_,_,_,_,bd,ns,ey,_,plr,_⟩:=M.md.pls c1 hp1;obtain⟨C2,bd2,ey2⟩:=M.md.cls c2 hc2;refine cL (aGf (tb:=λW D σV H=>Sx X.K RT Y old σ σV H/\OE X.K (clW X.K W) RT Y old H (exs P (call P n) σ b) D) (C:=C) (C2:=C2) (iy:=i) (iz:=k) (jn:=j) (M.gl hg) bd (aL ho) ey (M.gl hg2) bd2 (aL ho2) ey2 (M.stk hfn) M.nd (by rw[M.N];exact eq_of_beq y1) (by rw[M.N];exact eq_of_beq z1) (by rw[M.N];exact eq_of_beq n1) (M.loc y2) (M.loc z2) (by rw[M.sc];exact hl) (M.st y y2) (M.st z z2) (aL n3) (jD n3) hij hkj λpins E W own rs=>
  nX (hb (M.inTry own) RT σ) λD σV H t ⟨S,h⟩=>⟨S,(OE.weak h λσV H x z=>clW.xw rs z).tkE⟩) λD σV H t ⟨S,h⟩=>⟨S,?_⟩
 replace h:OE X.K (XW X) RT Y old H (match exs P (call P n) σ b with
  | .exc x σ'=>aDk P c1 c2 i j k x σ'|o=>o) D:=h
 cases q:exs P (call P n) σ b with
 | next σ'=>rw[q] at h;exact cO.tkE h|brk σ'=>rw[q] at h;exact cO.tkE h|cnt σ'=>rw[q] at h;exact cO.tkE h|ret v=>rw[q] at h;exact λu H2 k t r _=>(show nE X.K RT Y old H v D.rt from h) u H2 k t r|bad=>rw[q] at h;exact h|exc x σ'=>
  rw[q] at h;replace h:OE X.K (XW X) RT Y old H (aDk P c1 c2 i j k x σ') D:=h;unfold aDk at h;split at h;rename_i c m;split at h;rename_i ec;subst ec;have h:cO X.K RT Y old H (((σ'.set i (.sh true (.err c [.int m]))).set k (.sh false (.int m))).set j .x) D.nx:=h;intro RT' σV' H' kp sub S' cls ⟨C',dp,e1,e2,e3⟩;have e:C'=C:=by have:=ns.symm.trans e2;simpa using this.symm
  subst e e1;refine⟨C',rfl,ey,.inl ⟨aEh ey,plr,dp,.int m,rfl,e3,λa ha tk=>h RT' _ _ (kp.chain sub (Kp.same (aP.new ha))) sub ?_⟩⟩;have S1:=S'.grow (aP.new ha) tk;have hd:upd H' a (excO a C' (some dp)) dp=some (.xd [("place",.int m)]):=aP.new ha _ _ e3;have S2:=((((S1.kill j (some (.ref a))).setSh (i:=i) (pa:=true) (d:=.err c [.int m]) (u:=.ref a) ⟨a,C',rfl,some dp,aS,e2,λdx z=>⟨_,by cases z;exact hd⟩⟩).setSh (i:=k) (pa:=false) (d:=.int m) (u:=.int m) rfl).kill j (some .non)).kill j none;have es:((((σ'.set j .x).set i (.sh true (.err c [.int m]))).set k (.sh false (.int m))).set j .x).set j .x=((σ'.set i (.sh true (.err c [.int m]))).set k (.sh false (.int m))).set j .x:=by rw[List.set_set,List.set_comm _ _ hij.symm,List.set_comm _ _ hkj.symm,List.set_set]
  rw[es] at S2;exact S2;exact h.elim;rename_i c;split at h;rename_i i1 i2;have h:cO X.K RT Y old H ((σ'.set i (.sh true (.err c []))).set j .x) D.nx:=h;have i1:(match P.above.lookup c with|some ab=>some ([Cl.own c1].any λa=>ab.contains a)|none=>none)=some false:=i1;have i2:(match P.above.lookup c with|some ab=>some ([Cl.own c2].any λa=>ab.contains a)|none=>none)=some true:=i2;split at i1;rename_i ab hab;rw[hab] at i2;obtain⟨C1,E⟩:=M.md.exc c ab hab;obtain⟨Ca,g1,_,g2⟩:=E.ow c1 hc;obtain⟨Cb,g3,_,g4⟩:=E.ow c2 hc2;rw[bd] at g1;rw[bd2] at g3;cases g1;cases g3;have b1:ab.contains (.own c1)=false:=by simpa using Ah i1
  have b2:ab.contains (.own c2)=true:=by simpa using Ah i2
  rw[b1] at g2;rw[b2] at g4;intro RT' σV' H' kp sub S' cls ⟨C',e1,e2⟩;have e:C'=C1:=by have:=E.ns.symm.trans e2;simpa using this.symm
  subst e e1;refine⟨C',rfl,E.ex,.inr ⟨g2,g4,rfl,λa ha tk=>h RT' _ _ (kp.chain sub (Kp.same (aP.new ha))) sub ?_⟩⟩;have S1:=S'.grow (aP.new ha) tk;have S2:=(((S1.kill j (some (.ref a))).setSh (i:=i) (pa:=true) (d:=.err c []) (u:=.ref a) ⟨a,C',rfl,none,aS,e2,λdx z=>nomatch z⟩).kill j (some .non)).kill j none;have es:(((σ'.set j .x).set i (.sh true (.err c []))).set j .x).set j .x=(σ'.set i (.sh true (.err c []))).set j .x:=by rw[List.set_set,List.set_comm _ _ hij.symm,List.set_set]
  rw[es] at S2;exact S2;cases i1;exact h.elim;exact h.elim
end
end Hp
end
noncomputable section
namespace L2
open PySem PySem.Spec PyProof.Rows
section
variable {prog:Program} {w:World} {A:Around} {E:Value->Shared->Prop} {s:Shared}
end
section
variable {prog:Program} {w:World} {A:Around} {R:Result->Shared->Prop} {good:NK->Addr->Prop} {h₀:Heap} {d it l:Addr} {items:Array Value} {ks:List (NK×V)}
end
section
variable {X:Cx}
end
end L2
end
noncomputable section
set_option maxHeartbeats 4000000
namespace Hp
open PySem PySem.Spec PyProof.Rows L2
section
variable {X:Cx} {P:Pg} {Γ:Ct} {n:Nat} {RT Y old:Addr->Prop} {σ:Sg} {pos:Pos} {l:Nat} {K:Fg} {H:Hp} {σV:L2.St}
end
section
variable {X:Cx} {P:Pg} {Γ:Ct} {n:Nat} {RT Y old:Addr->Prop} {σ:Sg} {pos:Pos} {l:Nat} {K:Fg} {H H':Hp} {σV:L2.St}
theorem pI(h:aAx σ=true){j:Nat}{ds es:List D}(e:σ[j]? = some (.par ds es)):False:=by have:=Az.mp h _ (mG e);cases this
theorem Sx.putTld(S:Sx K RT Y old σ σV H)(s:aP H H')(t:Tk K H'){a b:Addr}{xs:List V}{vx:V}{ds es:List D}(na:H a=none)(nb:H b=none)(nab:a≠b)(ha:H' a=some (.lst [vx,.ref b]))(hb:H' b=some (.lst xs))(n1:noLs ds=true)(n2:noLs es=true)
 (r1:Reps K H' (λ_=>False) ds xs) (r2:Reps K H' (λ_=>False) es [vx]) (np:aAx σ=true) (i:Nat):Sx K (λq=>RT q\/(q=a\/q=b)) Y old (σ.set i (.par ds es)) (σV.set i (some (.ref a))) H':=by
 have kb:=t b (by rw[hb];simp);have ka:=t a (by rw[ha];simp);have w:∀{pa:Bool} q,(RT q\/(q=a\/q=b))\/exB Y old pa q->q=b\/q=a\/RT q\/exB Y old pa q:=λ{pa} q z=>by rcases z with(z|z|z)|z;exact .inr (.inr (.inl z));exact .inr (.inl z);exact .inl z;exact .inr (.inr (.inr z))
 have pt:∀{c:Addr},(c=a\/c=b)->H c=none->K.lookup c=none->Pt (λq=>RT q\/(q=a\/q=b)) old (σ.set i (.par ds es)) (σV.set i (some (.ref a))) c:=λ{c} hc nc kc=>⟨.inr hc,λo=>S.trk c (.inr (.inr o)) nc kc,λk pa dd e v=>by
  rcases set_some e with⟨_,f,_⟩|⟨hik,e⟩
  cases f;rw[Ac hik] at v;obtain⟨b',_,h1,h2,_⟩:=S.own k pa dd e;rw[v] at h1;cases h1;rw[nc] at h2;cases h2⟩
 exact {
  sh:=λj pa d e=>by
   rcases set_some e with⟨_,z,_⟩|⟨hij,e⟩
   cases z;obtain⟨v,h1,h2⟩:=S.sh j pa d e;exact⟨v,by rw[Ac hij];exact h1,(((h2.out na ka).out nb kb).grow s).weak w⟩
  own:=λj pa dd e=>by
   rcases set_some e with⟨_,z,_⟩|⟨hij,e⟩
   cases z;obtain⟨b',zs,h1,h2,h3,h4,h5⟩:=S.own j pa dd e;exact⟨b',zs,by rw[Ac hij];exact h1,s _ _ h2,.inl h3,h4,(((h5.out na ka).out nb kb).grow s).weak w⟩
  trk:=λq z f=>by rcases z with(z|z|z)|z;exact S.trk q (.inl z) (s.free f);rw[z,ha] at f;cases f;rw[z,hb] at f;cases f;exact S.trk q (.inr z) (s.free f)
  yo:=S.yo
  tk:=t
  rt:=λq z=>by rcases z with z|z|z;exact(S.rt q z).grow s;rw[z];exact .inl ⟨_,ha⟩;rw[z];exact .inl ⟨xs,hb⟩
  inj:=λj j' pa' pa'' dd dd' q e1 e2 e3 e4=>by
   rcases set_some e1 with⟨_,e,_⟩|⟨n1,e1⟩
   cases e;rcases set_some e2 with⟨_,e,_⟩|⟨n2,e2⟩
   cases e;rw[Ac n1] at e3;rw[Ac n2] at e4;exact S.inj j j' pa' pa'' dd dd' q e1 e2 e3 e4
  len:=by rw[Aw,Aw];exact S.len
  dx:={
   at':=λj dd e=>by
    rcases set_some e with⟨_,z,_⟩|⟨hij,e⟩
    cases z;obtain⟨q,zs,h1,h2,h3,h4,h5,h6⟩:=S.dx.at' j dd e;exact⟨q,zs,by rw[Ac hij];exact h1,s _ _ h2,.inl h3,h4,h5,λx hx=>oO.imp (λ_ _ r=>aP.seqT s r) (h6 x hx)⟩
   inj:=λj j' dd dd' q e1 e2 e3 e4=>by
    rcases set_some e1 with⟨_,e,_⟩|⟨n1,e1⟩
    cases e;rcases set_some e2 with⟨_,e,_⟩|⟨n2,e2⟩
    cases e;rw[Ac n1] at e3;rw[Ac n2] at e4;exact S.dx.inj j j' dd dd' q e1 e2 e3 e4
   at2:=λj dd ee e=>by
    rcases set_some e with⟨rfl,z,hl⟩|⟨hij,e⟩
    cases z;exact⟨a,b,xs,vx,Ar (by rw[<-S.len];exact hl),⟨ha,hb⟩,⟨pt (.inl rfl) na ka,pt (.inr rfl) nb kb⟩,nab,⟨n1,n2⟩,r1,r2⟩;exact(pI np e).elim
   one:=λj j' dd ee dd' ee' e1 e2=>by
    rcases set_some e1 with⟨h1,_,_⟩|⟨_,e1⟩
    rcases set_some e2 with⟨h2,_,_⟩|⟨_,e2⟩
    exact h1.symm.trans h2;exact(pI np e2).elim;exact(pI np e1).elim } }
theorem aEi{K:Fg}(h:¬ Od K H a):H a=none/\K.lookup a=none:=⟨Classical.byContradiction λz=>h λy=>absurd y z,Classical.byContradiction λz=>h λ_=>z⟩
theorem aLM(M:Mc X P Γ n)(hx:bJ Γ i x=true)(hf:Γ.fns[f]? = some y)(hg:cY Γ y=true)(ho:bU y=true)(ha:PA X (e::es) (WA X P n RT Y old σ cs))(hp:(e::es).all aV=true) :
 PS X (.Assign [.Name x p] (.Call (.Name y p2) (e::es) [] p3) pos) (wS X RT Y old σ (ex P (call P n) σ (.tld i f cs))):=by
 obtain⟨fa,fd,ps,h1,h2,h3,h4⟩:=M.md.fn f y hf;unfold bJ at hx;obtain⟨x1,x2,x3⟩:=gH hx;have hp':aV e=true/\es.all aV=true:=by simpa using hp
 have pe:PE X (.Call (.Name y p2) (e::es) [] p3) (λσV H Q=>WA X P n RT Y old σ cs σV H λus H1=>spF X.K P n f (us++[]) H1 (λv H'=>Tk X.K H'->Q v H') (λc _ H'=>RX X c σV H')):=λpins s σV H Q I hw=>by refine B9 (fV I (M.gl hg) h1 ?_ (aL ho));refine PySem.W.callWith_K (h₀:=X.base) I.ok.mod.kin h2 (thn (ha p3 pins s σV H _ I hw) λus s1 ⟨vs,H1,I1,r,q⟩=>⟨I1.kIn,?_⟩) (aC hp'.1) (cQ hp'.2);exact thn (nU h4 M.room h3 .nil (rK X) I1 r q) λu s2 z=>EP.tk z
 refine cL (lY (i:=i) M.nd (by rw[M.N];exact eq_of_beq x1) (M.loc x2) pe rfl (M.st x x2)) λD σV H t ⟨S,h⟩=>?_;have h:=OE.from S (show OE X.K (XW X) RT Y old H (O.from σ (evs P (call P n) σ cs).calm λvs=>O.from σ (call P n f (vs.map (·.d))).calm λr=>match aDg σ r with
  | some s=>.next (σ.set i s)|none=>.bad) D from h)
 obtain⟨vs,ev1,h⟩:=RE.calmEq h;obtain⟨r,er,hr⟩:=RE.calmEq (OE.from S h);refine⟨S,?_⟩;rw[ev1];intro us H1 t1 s1 r1;have S1:=S.grow s1 t1;refine⟨vs.map (·.d),λb=>Od X.K H1 b/\exV RT Y old σ σV (fA vs) (cN vs) b,λa z=>z.1,by rw[B8];exact r1.all.weak λa z=>z.2,?_⟩;rw[er];intro u H' t' s' rr _ _;obtain⟨d,fr,pa⟩:=r;unfold aDg at hr;simp only at hr;split at hr;rename_i s0 e0;split at e0;rename_i x' ds;split at e0;rename_i hc;cases e0;simp only[bA] at hc;obtain⟨⟨c1,c2⟩,c3⟩:=hc;unfold Rr at rr;rw[if_pos rfl] at rr;obtain⟨a,ws,ds',rfl,e1,⟨na,_⟩,hha,rr⟩:=rr;cases e1;obtain⟨vx,w1,rfl,k1,vl,w2,rfl,⟨b,xs,rfl,_,⟨nb,hd⟩,k2⟩,e3⟩:=rr;rw[show w2=[] from e3] at hha;have hk:X.K.lookup fa≠none:=λz=>by simp[PySem.W.keepIn,z] at h2
 have hb:=hd ⟨fa,hk,.inr (.inr ⟨rfl,λ_=>hk⟩)⟩;obtain⟨n1,n2⟩:=aEi (K:=X.K) (H:=H1) (a:=b) λz=>nb (.inr (.inr ⟨rfl,z⟩));refine(show cO X.K RT Y old H (σ.set i (.par ds [x'])) D.nx from hr) (λq=>RT q\/(q=a\/q=b)) _ _ (Kp.same (s1.trans s')) (λz w=>w.imp id λw=>?_) ?_;rcases w with w|w <;> rw[w];exact s1.free na;exact s1.free n1;exact S1.putTld (es:=[x']) s' t' na n1 (λz=>nb (.inl z.symm)) hha hb c2 (by simp[noLs,c1]) (Reps.free _ _ c2 k2) ⟨vx,_,rfl,Rep.free _ _ c1 k1,rfl⟩ c3 i;cases e0;cases e0;exact hr.elim
theorem Sx.mutP(S:Sx K RT Y old σ σV H)(e:σ[i]? = some (.par ds es))(hp:H p=some (.lst xs0))(pp:Pt RT old σ σV p)
 (g1:σV[i]? = some (some (.ref a))) (ha:H a=some (.lst [vx,.ref p])) (pa:Pt RT old σ σV a) (nap:a≠p) (n1:noLs ds'=true) (n2:noLs es=true) (r1:Reps K H (λ_=>False) ds' xs') (r2:Reps K H (λ_=>False) es [vx]) :
 Sx K RT Y old (σ.set i (.par ds' es)) σV (upd H p (.lst xs')):=by
 have kp:Kp (λb=>b=p) H (upd H p (.lst xs')):=λb o q n=>by rw[aF n];exact q
 have hR:∀b,b=p->RtO H b:=λb z=>.inl ⟨xs0,by rw[z];exact hp⟩;have pt:∀{q:Addr},Pt RT old σ σV q->Pt RT old (σ.set i (.par ds' es)) σV q:=λ{q} z=>⟨z.1,z.2.1,λk pa dd w=>by
  rcases set_some w with⟨_,v,_⟩|⟨_,w⟩
  cases v;exact z.2.2 k pa dd w⟩
 have hd:∀{b:Addr} {ys:List NE},H b=some (iD b ys)->b≠p:=λ{b ys} q z=>by rw[z,hp] at q;cases q
 have par:∀{j:Nat} {dd ee:List D},(σ.set i (.par ds' es))[j]? = some (.par dd ee)->j=i:=λ{j dd ee} q=>by
  rcases set_some q with⟨z,_,_⟩|⟨_,q⟩
  exact z.symm;exact S.dx.one j i _ _ _ _ q e
 exact {
  sh:=λj pb d q=>by
   rcases set_some q with⟨_,z,_⟩|⟨_,q⟩
   cases z;obtain⟨v,g1,g2⟩:=S.sh j pb d q;exact⟨v,g1,g2.kp kp hR λb z=>.inl (by rw[z];exact pp.1)⟩
  own:=λj pb dd q=>by
   rcases set_some q with⟨_,z,_⟩|⟨_,q⟩
   cases z;obtain⟨b,ys,g1,g2,g3,g4,g5⟩:=S.own j pb dd q;exact⟨b,ys,g1,kp b _ g2 (λz=>pp.2.2 j pb dd q (by rw[<-z];exact g1)),g3,g4,g5.kp kp hR λb z=>.inl (by rw[z];exact pp.1)⟩
  trk:=λb z q=>by by_cases hb:b=p;rw[hb,aS] at q;cases q;rw[aF hb] at q;exact S.trk b z q
  yo:=S.yo
  tk:=λb z=>by by_cases hb:b=p;rw[hb];exact S.tk p (by rw[hp];simp);rw[aF hb] at z;exact S.tk b z
  rt:=λb z=>by by_cases hb:b=p;rw[hb];exact .inl ⟨xs',aS⟩;unfold RtO;rw[aF hb];exact S.rt b z
  inj:=λj j' pa' pa'' dd dd' b e1 e2 e3 e4=>by
   rcases set_some e1 with⟨_,e,_⟩|⟨n1,e1⟩
   cases e;rcases set_some e2 with⟨_,e,_⟩|⟨n2,e2⟩
   cases e;exact S.inj j j' pa' pa'' dd dd' b e1 e2 e3 e4
  len:=by rw[Aw];exact S.len
  dx:={
   at':=λj dd q=>by
    rcases set_some q with⟨_,z,_⟩|⟨_,q⟩
    cases z;obtain⟨b,ys,h1,h2,h3,h4,h5,h6⟩:=S.dx.at' j dd q;exact⟨b,ys,h1,kp b _ h2 (hd h2),h3,h4,h5,λx hx=>oO.imp (λ_ _ z=>kp.seqT hR z) (h6 x hx)⟩
   inj:=λj j' dd dd' b e1 e2=>by
    rcases set_some e1 with⟨_,e,_⟩|⟨n1,e1⟩
    cases e;rcases set_some e2 with⟨_,e,_⟩|⟨n2,e2⟩
    cases e;exact S.dx.inj j j' dd dd' b e1 e2
   at2:=λj dd ee q=>by
    have hj:=par q;subst hj;rcases set_some q with⟨_,z,_⟩|⟨hij,_⟩
    cases z;exact⟨a,p,xs',vx,g1,⟨by rw[aF nap];exact ha,aS⟩,⟨pt pa,pt pp⟩,nap,⟨n1,n2⟩,Reps.noT (λ_ _ z=>kp.seqT hR z) _ _ n1 r1,Reps.noT (λ_ _ z=>kp.seqT hR z) _ _ n2 r2⟩;exact absurd rfl hij
   one:=λj j' dd ee dd' ee' e1 e2=>(par e1).trans (par e2).symm } }
theorem rR:∀{ds:List D} {d:D},noLs ds=true->noL d=true->noLs (ds++[d])=true
 | [],d,_,h=>by simp[noLs,h]|e::ds,d,h,h2=>by simp only[noLs,bA,Dc] at h ⊢;exact⟨h.1,rR h.2 h2⟩
theorem aJc{p p1 ap cp:Pos}(M:Mc X P Γ n)(hx:cP Γ i x=true)(hk:PE X ix (WE X P n RT Y old σ (.c (.int 1))))(hpk:aV ix=true)(ha:PE X a (WE X P n RT Y old σ c))(hp:aV a=true)(hl:(ap.endLine==cp.line)=true) :
 PS X (.Expr (.Call (.Attribute (.Subscript (.Name x p) ix p1) "append" ap) [a] [] cp) pos) (wS X RT Y old σ (ex P (call P n) σ (.appP i c))):=by
 refine cL (nQ (aAv D3 PySem.F.slot_list_append PySem.F.type_list_append rF (aAu nT (gX M hx) hk (gW hpk)) (fX ha kE (aC hp)) rfl (by rw[aC hp];rfl) hl (aC hp) rfl)) λD σV H t ⟨S,h⟩=>?_;have h:=OE.from S (show OE X.K (XW X) RT Y old H (O.from σ (ev P (call P n) σ c).calm λv=>(match σ[i]?,noL v.d with
  | some (.par ds es),true=>if ds.length<lim then .next (σ.set i (.par (ds++[v.d]) es)) else .bad|_,_=>.bad)) D from h)
 obtain⟨v,ee,h⟩:=RE.calmEq h;split at h;rename_i ds es e1 e2;split at h;rename_i hlim;obtain⟨qa,qb,xs,vx,g1,⟨ha',hb⟩,⟨pa,pb⟩,nab,⟨n1,n2⟩,r1,r2⟩:=S.dx.at2 i ds es e1;refine⟨.ref qa,g1,?_⟩;refine wE.one (p:=λx=>x=.cl (.int 1)) S rfl λw u H1 hw t1 S1 rr=>?_;subst hw;have hu:u=.int 1:=(rr.rv S)
 subst hu;refine⟨qa,[vx,.ref qb],1,.ref qb,rfl,rfl,SqL.of (rr.1 _ _ ha'),rfl,?_⟩;have l1:=r1.length;have hsl:=zP;refine⟨.inl ⟨rfl,xs,SqL.of (rr.1 _ _ hb)⟩,S1,?_⟩;rw[ee];intro u H2 t2 rv;have s2:=rr.1.trans rv.1;have S2:=S1.grow rv.1 t2;refine⟨qb,xs,u,rfl,rfl,s2 _ _ hb,by omega,λ_=>?_⟩;refine(show cO X.K RT Y old H (σ.set i (.par (ds++[v.d]) es)) D.nx from h) RT _ _ (λb' o q nn=>by rw[aF λw=>nn (by rw[w];exact pb.1)];exact s2 _ _ q) bP ?_;exact S2.mutP e1 (s2 _ _ hb) pb g1 (s2 _ _ ha') pa nab (rR n1 e2) n2 ((r1.grow s2).append ⟨u,[],rfl,Rep.free _ _ e2 (rv.rv S1),rfl⟩) (r2.grow s2);exact h.elim;exact h.elim
end
section
variable {X:Cx} {P:Pg} {Γ:Ct} {n:Nat} {RT Y old:Addr->Prop} {σ:Sg} {pos:Pos}
end
section
variable {P:Pg} {n:Nat} {Y old:Addr->Prop}
theorem aEj(h:qV Γ (.t is) tg=true):∃es k p,tg=.Tuple es k p:=by
 cases tg with
 | Tuple es k p=>exact⟨es,k,p,rfl⟩|_=>cases h
theorem aCj(h:qV Γ (.n i) tg=true):∃x p,tg=.Name x p/\bJ Γ i x=true:=by
 cases tg with
 | Name x p=>exact⟨x,p,rfl,h⟩|_=>cases h
theorem aCk(hc:isC c=true):∃k caps t it cond elt,c=.comp k caps t it cond elt:=by cases c <;> first|exact⟨_,_,_,_,_,_,rfl⟩|cases hc
theorem m1{f:Expr->Bool}(h:(match vT Γ i m c with|some [a]=>f a|_=>false)=true):∃a,vT Γ i m c=some [a]/\f a=true:=by split at h;rename_i a q;exact⟨a,q,h⟩;cases h
abbrev QS(P:Pg)(n:Nat)(Y old:Addr->Prop)(c:S):Prop:=∀{X:Cx} {Γ:Ct},Mc X P Γ n->∀{st:Stmt},gG Γ c st=true->∀(RT:Addr->Prop) (σ:Sg),PS X st (wS X RT Y old σ (ex P (call P n) σ c))
abbrev QSs(P:Pg)(n:Nat)(Y old:Addr->Prop)(c:Ss):Prop:=∀{X:Cx} {Γ:Ct},Mc X P Γ n->∀{st:List Stmt},chkSs Γ c st=true->∀(RT:Addr->Prop) (σ:Sg),PSs X st (wS X RT Y old σ (exs P (call P n) σ c))
theorem aLN:QS P n Y old (.set t e):=λ{X Γ} M {st} h RT σ=>by
 unfold gG at h;obtain⟨⟨tg,v⟩,⟨p,rfl⟩,g⟩:=aG h;clear h;obtain⟨h1,h2,h3,h4⟩:=aCh g;clear g;have h5:mH v=isC e:=eq_of_beq h4;clear h4;cases t with
 | n i=>
  obtain⟨x,p,e1,hx⟩:=aCj h1;have e1:tg=.Name x p:=e1;subst e1;cases hc:mH v with
  | false=>exact aJa M hx (sE e M h2 RT Y old σ) hc|true=>obtain⟨k,caps,t,it,cond,elt,rfl⟩:=aCk (h5.symm.trans hc);obtain⟨el,tg,iter,ifs,scope,cpos,e2,O,g1,g2,g3,g4,g5⟩:=aAL h2;have e2:v=.ListComp el [⟨tg,iter,ifs,0⟩] scope cpos:=e2;subst e2;refine aCi M hx (O.scope M) O.ndc O.tk O.cm (sI it M g3 RT Y old σ) (λC s₀ H₀ ex=>?_) (mI (kM g3));have M':=O.mc M C s₀ H₀ ex;exact⟨aGu M' g2,λRT Y old σ1=>aAK (sTs cond M' g1 g4 RT Y old σ1),λpl E W own rs RT Y old σ1=>aEc rs (sE elt (M'.inTry own) g5 RT Y old σ1)⟩
 | t is=>obtain⟨es,k,p,e1⟩:=aEj h1;have e1:tg=.Tuple es k p:=e1;subst e1;refine aJb M h1 (sE e M h2 RT Y old σ) ?_;have:(false||!yY v)=true:=h3;simpa using this
theorem aLO:QS P n Y old (.mov i j):=λ{X Γ} M {st} h RT σ=>by unfold gG at h;obtain⟨⟨tg,v⟩,⟨p,rfl⟩,g⟩:=aG h;clear h;obtain⟨x,⟨p1,e1⟩,g⟩:=aG g;obtain⟨y,⟨p2,e2⟩,g⟩:=aG g;have e1:tg=.Name x p1:=e1;have e2:v=.Name y p2:=e2;subst e1 e2;obtain⟨h1,h2⟩:=dN g;exact aLJ M h1 h2
theorem aLP:QS P n Y old (.tld i f es):=λ{X Γ} M {st} h RT σ=>by
 unfold gG at h;obtain⟨⟨tg,v⟩,⟨p,rfl⟩,g⟩:=aG h;clear h;obtain⟨x,⟨p1,e1⟩,g⟩:=aG g;obtain⟨⟨y,ys⟩,⟨p2,p3,e2⟩,g⟩:=aG g;have e1:tg=.Name x p1:=e1;have e2:v=.Call (.Name y p2) ys [] p3:=e2;subst e1 e2;obtain⟨g,h6⟩:=dN g;obtain⟨h1,h2,h3,h4,h5⟩:=zN g;cases ys with
 | nil=>cases h5|cons z ys=>exact aLM M h1 (eq_of_beq h2) h3 h4 ((qA es).a M h6 RT Y old σ) (dQ h6)
theorem aJd:QS P n Y old (.appP i e):=λ{X Γ} M {st} h RT σ=>by
 unfold gG at h;obtain⟨c,⟨p,rfl⟩,g⟩:=aG h;clear h;obtain⟨⟨o,m,as,l⟩,⟨ap,cp,e1,el⟩,g⟩:=aG g;obtain⟨⟨y,ix⟩,⟨p1,e2⟩,g⟩:=aG g;obtain⟨x,⟨p2,e3⟩,g⟩:=aG g;have e2:o=.Subscript y ix p1:=e2;have e3:y=.Name x p2:=e3;have e1:c=.Call (.Attribute o m ap) as [] cp:=e1;have el:(ap.endLine==cp.line)=l:=el;subst e3;subst e2;subst e1;obtain⟨h1,h2,h3,h4,h5⟩:=zN g;have h3:m=("append" : Str):=eq_of_beq h3;subst h3;rcases as with _|⟨a,_|⟨_,_⟩⟩
 cases h5;exact aJc M h1 (sE (.c (.int 1)) M h2 RT Y old σ) (aQ h2) (sE e M h5 RT Y old σ) (aQ h5) h4;cases h5
theorem aGy:QS P n Y old (.setIx i k e):=λ{X Γ} M {st} h RT σ=>by unfold gG at h;obtain⟨⟨tg,v⟩,⟨p,rfl⟩,g⟩:=aG h;clear h;obtain⟨⟨o,ix⟩,⟨p1,e1⟩,g⟩:=aG g;obtain⟨x,⟨p2,e2⟩,g⟩:=aG g;have e1:tg=.Subscript o ix p1:=e1;have e2:o=.Name x p2:=e2;subst e1 e2;obtain⟨h1,h2,h3⟩:=gH g;exact aGx M h1 (sE k M h2 RT Y old σ) (sE e M h3 RT Y old σ) (aQ h2)
theorem aLQ:QS P n Y old (.app i e):=λ{X Γ} M {st} h RT σ=>by unfold gG at h;obtain⟨c,⟨p,rfl⟩,g⟩:=aG h;obtain⟨a,h1,h2⟩:=m1 (f:=λa=>aY Γ e a) g;exact aLH M h1 (sE e M h2 RT Y old σ) (aQ h2)
theorem aLR:QS P n Y old (.ext i e):=λ{X Γ} M {st} h RT σ=>by unfold gG at h;obtain⟨c,⟨p,rfl⟩,g⟩:=aG h;obtain⟨a,h1,h2⟩:=m1 (f:=λa=>aY Γ e a) g;exact aLI M h1 (sE e M h2 RT Y old σ) (aQ h2)
theorem aLS:QS P n Y old (.ret e):=λ{X Γ} M {st} h RT σ=>by unfold gG at h;obtain⟨r,⟨p,rfl⟩,g⟩:=aG h;clear h;obtain⟨v,e1,g⟩:=aDD g;subst e1;exact aLG (sE e M g RT Y old σ)
theorem aJe:QS P n Y old (.retv i):=λ{X Γ} M {st} h RT σ=>by unfold gG at h;obtain⟨r,⟨p,rfl⟩,g⟩:=aG h;clear h;obtain⟨v,e1,g⟩:=aDD g;subst e1;obtain⟨x,⟨p1,e2⟩,g⟩:=aG g;have e2:v=.Name x p1:=e2;subst e2;exact aIZ M g
theorem aJf:QS P n Y old .retN:=λ{X Γ} M {st} h RT σ=>by
 unfold gG at h;obtain⟨r,⟨p,rfl⟩,g⟩:=aG h;cases r with
 | none=>exact aIY|some _=>cases g
theorem aLT(ha:QSs P n Y old a)(hb:QSs P n Y old b):QS P n Y old (.iff c a b):=λ{X Γ} M {st} h RT σ=>by unfold gG at h;obtain⟨⟨t,x,y⟩,⟨p,rfl⟩,g⟩:=aG h;obtain⟨h1,h2,h3⟩:=gH g;exact aNX (sT c M h1 RT Y old σ) (ha M h2) (hb M h3)
theorem aLU(hb:QSs P n Y old b):QS P n Y old (.for t it b):=λ{X Γ} M {st} h RT σ=>by unfold gG at h;obtain⟨⟨tg,iter,body⟩,⟨p,rfl⟩,g⟩:=aG h;obtain⟨h1,h2,h3⟩:=gH g;exact aLK M h1 (sI it M h2 RT Y old σ) (hb M h3) (mI (kM h2))
theorem aLV:QS P n Y old .brk:=λ{X Γ} M {st} h RT σ=>by unfold gG at h;obtain⟨_,⟨p,rfl⟩,_⟩:=aG h;exact aLC
theorem aLW:QS P n Y old .cnt:=λ{X Γ} M {st} h RT σ=>by unfold gG at h;obtain⟨_,⟨p,rfl⟩,_⟩:=aG h;exact aLD
theorem aJg:QS P n Y old .pass:=λ{X Γ} M {st} h RT σ=>by unfold gG at h;obtain⟨_,⟨p,rfl⟩,_⟩:=aG h;exact aIW
theorem aNY:QS P n Y old (.ex e):=λ{X Γ} M {st} h RT σ=>by unfold gG at h;obtain⟨v,⟨p,rfl⟩,g⟩:=aG h;obtain⟨h1,h2⟩:=dN g;exact aNW (sE e M h1 RT Y old σ) (by simpa using h2)
theorem aLX:QS P n Y old (.rse c k (.k e .z)):=λ{X Γ} M {st} h RT σ=>by
 unfold gG at h;obtain⟨⟨x,a⟩,⟨np,cp,p,rfl⟩,g⟩:=aG h;simp only[bA] at g;obtain⟨⟨⟨⟨g1,g2⟩,g3⟩,g4⟩,g5⟩:=g;have e1:x=c:=eq_of_beq g1;subst e1;cases k with
 | false=>exact aLF M g2 g3 (by simpa using g4) (sE e M g5 RT Y old σ) (aQ g5)|true=>exact aIX M g2 g3 (by simpa using g4) (sE e M g5 RT Y old σ) (aQ g5)
theorem aLY(hb:QSs P n Y old b):QS P n Y old (.tryF b c1 c2 i j k):=λ{X Γ} M {st} h RT σ=>by unfold gG at h;obtain⟨⟨body,x,x2,nm,y,z⟩,⟨np,yp,np2,ap,zp,np3,atp,ap2,hp,np4,yp2,np5,ap3,hp2,p,rfl⟩,g⟩:=aG h;simp only[bA] at g;obtain⟨⟨⟨⟨⟨⟨⟨⟨⟨⟨⟨⟨⟨⟨⟨⟨g1,g2⟩,g3⟩,g4⟩,g5⟩,g6⟩,g7⟩,g8⟩,g9⟩,g10⟩,g11⟩,g12⟩,g13⟩,g14⟩,g15⟩,g16⟩,g17⟩:=g;have e1:x=c1:=eq_of_beq g1;have e2:x2=c2:=eq_of_beq g6;subst e1 e2;exact aLL M g2 g3 (by simpa using g4) (by simpa using g5) g7 g8 (by simpa using g9) g10 g11 g12 (eq_of_beq g13) (by simpa using g14) (by simpa using g15) g16 λM' RT σ=>hb M' g17 RT σ
theorem aJh:QS P n Y old .off:=λ{X Γ} M {st} h RT σ=>aLE
theorem iR(z:∀Γ st,gG Γ c st=false):QS P n Y old c:=by intro X Γ M st h RT σ;rw[z] at h;cases h
theorem aLZ:QSs P n Y old .z:=λ{X Γ} M {st} h RT σ=>by
 cases st with
 | nil=>exact aLB|cons _ _=>exact nf h
theorem aJi(hc:QS P n Y old c)(hs:QSs P n Y old cs):QSs P n Y old (.k c cs):=λ{X Γ} M {st} h RT σ=>by
 cases st with
 | nil=>exact nf h|cons x xs=>obtain⟨h1,h2⟩:=dN h;exact aIV (hc M h1) (hs M h2)
mutual
theorem sS:(c:S)->QS P n Y old c
 | .set _ _=>aLN|.mov _ _=>aLO|.setIx _ _ _=>aGy|.dnew _=>iR λ_ _=>rfl|.dput _ _=>iR λ_ _=>rfl|.dfrom _ _=>iR λ_ _=>rfl|.tld _ _ _=>aLP|.appP _ _=>aJd|.app _ _=>aLQ|.ext _ _=>aLR|.pop _ _ _=>iR λ_ _=>rfl|.clr _=>iR λ_ _=>rfl|.ins _ _ _=>iR λ_ _=>rfl|.rev _=>iR λ_ _=>rfl|.appCall _ _ _=>iR λ_ _=>rfl|.ret _=>aLS|.retv _=>aJe|.retN=>aJf|.iff _ a b=>aLT (sSs a) (sSs b)|.for _ _ b=>aLU (sSs b)|.whl _ _=>iR λ_ _=>rfl|.brk=>aLV|.cnt=>aLW|.pass=>aJg|.ex _=>aNY|.rse _ _ (.k _ .z)=>aLX|.rse _ _ .z=>iR λ_ _=>rfl|.rse _ _ (.k _ (.k _ _))=>iR λ_ _=>rfl|.tryF b _ _ _ _ _=>aLY (sSs b)|.off=>aJh
theorem sSs:(c:Ss)->QSs P n Y old c
 | .z=>aLZ|.k c cs=>aJi (sS c) (sSs cs)
end
end
structure Tx where
 x:Str
 qual:Str
 st:Stmt
 N:List Str
def rS(Γ:Ct)(F:Fn)(t:Tx):Bool:=
 t.N.length==F.ns&&decide (F.np<=F.ns)&&decide t.N.Nodup&&(aW t.st).kind==.function&&!(aW t.st).isCoroutine&&!(aW t.st).isGenerator &&
 ((t.N.take F.np).all λx=>(aW t.st).names.lookup x==some .local||(aW t.st).names.lookup x==some .cell)&&((aW t.st).names.all λp=>p.2 != .free) &&
 chkSs { Γ with N:=t.N,sc:=(aW t.st).names,fn:=true } F.body (gN t.st)
def iS(Γ:Ct):List Fn->List Tx->Bool
 | [],[]=>true|F::Fs,t::ts=>rS Γ F t&&iS Γ Fs ts|_,_=>false
theorem gY:∀{Fs:List Fn} {ts:List Tx},iS Γ Fs ts=true->∀{f:Nat} {t:Tx},ts[f]? = some t->∃F,Fs[f]? = some F/\rS Γ F t=true
 | [],[],_,_,_,e=>by simp at e|[],_::_,h,_,_,_=>by cases h|_::_,[],h,_,_,_=>by cases h|F::Fs,t::ts,h,0,t',e=>by
  obtain⟨h1,h2⟩:=dN (show(rS Γ F t&&iS Γ Fs ts)=true from h);have e':t=t':=by simpa using e
  subst e';exact⟨F,rfl,h1⟩
 | F::Fs,t::ts,h,f+1,t',e=>by obtain⟨h1,h2⟩:=dN (show(rS Γ F t&&iS Γ Fs ts)=true from h);obtain⟨F',q1,q2⟩:=gY h2 (f:=f) (t:=t') (by simpa using e);exact⟨F',by simpa using q1,q2⟩
section
variable {prog:Program} {w:World} {K:Fg} {mg:Str->Option Value} {base:Heap} {P:Pg} {Γ:Ct} {txs:List Tx}
structure Top (prog:Program) (w:World) (K:Fg) (mg:Str->Option Value) (P:Pg) (Γ:Ct) (txs:List Tx):Prop where
 fn:∀(f:Nat) (t:Tx),txs[f]? = some t->∃fa fd,mg t.x=some (.ref fa)/\Fun K t.x t.qual t.st fa fd/\∀F,P.fns[f]? = some F->iJ K fd (t.N.take F.np) []
 fns:∀(f:Nat) (x:Str),Γ.fns[f]? = some x->∃t,txs[f]? = some t/\t.x=x
 blt:∀x∈bltNames,mg x=none
 cns:∀(x:Str) (d:D),Γ.cns.lookup x=some d->∃u v,mg x=some u/\bI v u/\∀H ex,Rep K H ex d v
 tab:∀(i:Nat) (x:Str),Γ.tbs[i]? = some x->∃a t,mg x=some (.ref a)/\P.tabs[i]? = some t/\wC prog w K a t
 exc:∀(c:Str) (ab:List Cl),P.above.lookup c=some ab->∃C,rN K mg Γ.cls c ab C
 rsd:∀c∈Γ.rsd,∃C,mg c=some (.ref C)/\PySem.W.nsIn K mainGlobals c=some (some (.ref C))/\PySem.W.excIn K C bmV "ValueError.__new__" = true
 pls:∀c∈Γ.pls,aAI K mg c
 cls:∀x∈Γ.cls,∃C2,mg x=some (.ref C2)/\iN K C2=true
 chk:iS Γ P.fns txs=true
theorem aAR{k f:Nat}{F:Fn}(hF:P.fns[f]? = some F){vs:List V}{H:Hp}{Q:VK}{E:XK}(h:spF K P (k+1) f vs H Q E):vs.length=F.np:=by obtain⟨ds,Y,_,r,hr⟩:=h;have hr:RE (xE K H E) (tN P (call P k) f ds) _:=hr;unfold tN at hr;rw[hF] at hr;have hr:RE (xE K H E) (if ds.length=F.np then _ else R.bad) _:=hr;split at hr;rename_i hl;rw[<-r.length];exact hl;exact hr.elim
theorem aEk{ds:List D}{vs:List V}{Y:Addr->Prop}(hY:∀a,Y a->Od K H a)(t:Tk K H)(r:Reps K H Y ds vs):Sx K (λ_=>False) Y (λb=>Od K H b) ((ds.map λd=>Sl.sh true d)++List.replicate m Sl.x) (vs.map some++List.replicate m none) H:=by
 have len:=r.length;have get:∀{i:Nat} {s:Sl},((ds.map λd=>Sl.sh true d)++List.replicate m Sl.x)[i]? = some s->s=.x\/∃d,s=.sh true d/\ds[i]? = some d:=λ{i s} e=>by by_cases hi:i<ds.length;rw[Bv (by simpa using hi),A5,Ad hi] at e;cases e;exact .inr ⟨ds[i],rfl,Ad hi⟩;rw[Bg (by simpa using hi),Cc] at e;split at e;cases e;exact .inl rfl;cases e
 exact {
  sh:=λi pa d e=>by
   rcases get e with z|⟨d',z,q⟩
   cases z;cases z;obtain⟨v,hv,rv⟩:=r.get q;have hi:i<vs.length:=(Ay.mp hv).1;refine⟨v,?_,rv.weak λa z=>?_⟩;rw[Bv (by simpa using hi),A5,hv];rfl;rcases z with z|z|⟨z,_⟩
   exact z.elim;exact z;cases z
  own:=λi pa ds' e=>by
   rcases get e with z|⟨d',z,q⟩
   cases z;cases z
  trk:=λa z=>by rcases z with z|z|z;exact z.elim;exact hY a z;exact z
  yo:=hY
  tk:=t
  rt:=λ_ z=>z.elim
  inj:=λi j pa pa' ds1 ds2 a e=>by
   rcases get e with z|⟨d',z,q⟩
   cases z;cases z
  len:=by rw[lA,lA,lM,lM,Ba,Ba,len]
  dx:={
   at':=λi ds' e=>by
    rcases get e with z|⟨d',z,q⟩
    cases z;cases z
   inj:=λi j ds1 ds2 a e=>by
    rcases get e with z|⟨d',z,q⟩
    cases z;cases z
   at2:=λi ds es e=>by
    rcases get e with z|⟨d',z,q⟩
    cases z;cases z
   one:=λi j ds es ds' es' e=>by
    rcases get e with z|⟨d',z,q⟩
    cases z;cases z } }
theorem aAS{t:Tx}{F:Fn}(hmd:∀(f:Nat) (x:Str),Γ.fns[f]? = some x->∃fa fd ps,mg x=some (.ref fa)/\PySem.W.keepIn K (.ref fa)=true/\iJ K fd ps []/\sX prog w K mg base (CX1 prog w) k fa fd ps (spF K P k f))
 (hblt:∀x∈bltNames,mg x=none) (hcns:∀(x:Str) (d:D),Γ.cns.lookup x=some d->∃u v,mg x=some u/\bI v u/\∀H ex,Rep K H ex d v) (htab:∀(i:Nat) (x:Str),Γ.tbs[i]? = some x->∃a t,mg x=some (.ref a)/\P.tabs[i]? = some t/\wC prog w K a t) (hexc:∀(c:Str) (ab:List Cl),P.above.lookup c=some ab->∃C,rN K mg Γ.cls c ab C) (hrsd:∀c∈Γ.rsd,∃C,mg c=some (.ref C)/\PySem.W.nsIn K mainGlobals c=some (some (.ref C))/\PySem.W.excIn K C bmV "ValueError.__new__" = true) (hpls:∀c∈Γ.pls,aAI K mg c) (hcls:∀x∈Γ.cls,∃C2,mg x=some (.ref C2)/\iN K C2=true) (h2:Fun K t.x t.qual t.st fa fd) (hF:P.fns[f]? = some F) (hc:rS Γ F t=true) :
 sX prog w K mg base (CX1 prog w) (k+1) fa fd (t.N.take F.np) (spF K P (k+1) f):=by
 unfold rS at hc;simp only[bA,Ci,Am,Cr,Az,A9,bne_iff_ne,ne_eq] at hc;obtain⟨⟨⟨⟨⟨⟨⟨⟨c1,c2⟩,c3⟩,c4⟩,c5⟩,c6⟩,c7⟩,c8⟩,c9⟩:=hc;have lt:(t.N.take F.np).length=F.np:=by rw[A4];omega
 have sc:nR t.N (t.N.take F.np) (aW t.st):=⟨c4,c5,c6,c3,by rw[lt],c7,c8⟩
 obtain⟨oc,od,kV,doc,pm,an,cdv,ct,osl,rfl,lk,hcd⟩:=h2.ex;refine aKp lk hcd sc (λvs H Q E h=>by rw[lt];exact aAR hF h) λA outer s H vs Q E hr h=>?_;have hlen:=aAR hF h;obtain⟨ds,Y,hY,r,hq⟩:=h;have M:Mc (oJ (CX1 prog w) prog w K mg base t.N t.qual (aW t.st) fa cdv A outer s H E) P { Γ with N:=t.N,sc:=(aW t.st).names,fn:=true } k:={
  md:=⟨hmd,hblt,hcns,htab,hexc,hrsd,hpls,hcls⟩
  N:=rfl
  nd:=c3
  sc:=rfl
  calm:=rfl
  room:=hr
  own:=PassesOwn.leaving
  st:=λ_ _=>.inl rfl
  fk:=c4
  stk:=λ_=>rfl }
 have hq:RE (xE K H E) (tN P (call P k) f ds) _:=hq;unfold tN at hq;rw[hF] at hq;have hdl:ds.length=F.np:=by rw[r.length];exact hlen
 have hq:RE (xE K H E) (if ds.length=F.np then (match exs P (call P k) ((ds.map λd=>Sl.sh true d)++List.replicate (F.ns-F.np) Sl.x) F.body with
  | .ret v=>R.ok (v.d,v.fr,v.pa)|.next _=>R.ok (.non,false,false)|.exc x _=>R.exc x|_=>R.bad) else R.bad) λr=>∀u H',Tk K H'->aP H H'->Rr K H H' Y r u->Q u H':=hq
 rw[if_pos hdl] at hq;refine⟨_,nX (t':=λD σV H'=>Tk K H'->wS _ (λ_=>False) Y (λb=>Od K H b) ((ds.map λd=>Sl.sh true d)++List.replicate (F.ns-F.np) Sl.x) (exs P (call P k) ((ds.map λd=>Sl.sh true d)++List.replicate (F.ns-F.np) Sl.x) F.body) D σV H') (sSs (Y:=Y) (old:=λb=>Od K H b) F.body M c9 (λ_=>False) ((ds.map λd=>Sl.sh true d)++List.replicate (F.ns-F.np) Sl.x)) (λD σV H' tk hw=>⟨(hw tk).1,OE.tkE (hw tk).2⟩),λtk=>⟨?_,?_⟩⟩;have e:L2.start t.N vs=vs.map some++List.replicate (F.ns-F.np) none:=by unfold L2.start;rw[hlen,c1]
 rw[e];exact aEk hY tk r;have same:∀{H':Hp},Kp (λ_=>False) H H'->aP H H':=λk b o e=>k b o e id;show OE K (XW _) (λ_=>False) Y (λb=>Od K H b) H (exs P (call P k) ((ds.map λd=>Sl.sh true d)++List.replicate (F.ns-F.np) Sl.x) F.body) _;cases q:exs P (call P k) ((ds.map λd=>Sl.sh true d)++List.replicate (F.ns-F.np) Sl.x) F.body with
 | next σ'=>rw[q] at hq;exact λRT' σV' H' kp sub S'=>hq .non H' S'.tk (same kp) (show(if false=true then _ else _) from aKv rfl)|ret v=>
  rw[q] at hq;refine λu H' kp tk' rt=>hq u H' tk' (same kp) ?_;unfold Rr;unfold Rtv at rt;cases hfr:v.fr with
  | true=>rw[hfr,if_pos rfl] at rt;obtain⟨a,xs,ds',e1,e2,e3,e4,rr⟩:=rt;exact aNz ⟨a,xs,ds',e1,e2,aEi e3,e4,rr⟩|false=>rw[hfr,if_neg bN] at rt;exact aKv rt
 | brk σ'=>rw[q] at hq;exact hq.elim|cnt σ'=>rw[q] at hq;exact hq.elim|exc e σ'=>
  rw[q] at hq;have hq:xE K H E e:=hq;intro RT' σV' H' kp sub S';cases e with
  | err c fs=>exact λcls hn pins s1 a I fl=>yZ pins σV' H' s1 a cls I fl (hq cls H' hn S'.tk (same kp))|_=>exact hq.elim
 | bad=>rw[q] at hq;exact hq.elim
theorem aEl(T:Top prog w K mg P Γ txs):∀(k f:Nat) (x:Str),Γ.fns[f]? = some x->∃fa fd ps,mg x=some (.ref fa)/\PySem.W.keepIn K (.ref fa)=true/\iJ K fd ps []/\sX prog w K mg base (CX1 prog w) k fa fd ps (spF K P k f)
 | 0,f,x,hf=>by
  obtain⟨t,ht,rfl⟩:=T.fns f x hf;obtain⟨fa,fd,h1,h2,h3⟩:=T.fn f t ht;obtain⟨F,hF,_⟩:=gY T.chk ht;have no:∀vs H Q E,¬ spF K P 0 f vs H Q E:=λvs H Q E h=>by obtain⟨ds,Y,_,r,hr⟩:=h;exact hr
  exact⟨fa,fd,_,h1,h2.kp,h3 F hF,λvs H Q E h=>absurd h (no vs H Q E),λA outer s H args us vs Q E _ _ _ _ h=>absurd h (no vs H Q E)⟩
 | k+1,f,x,hf=>by obtain⟨t,ht,rfl⟩:=T.fns f x hf;obtain⟨fa,fd,h1,h2,h3⟩:=T.fn f t ht;obtain⟨F,hF,hc⟩:=gY T.chk ht;exact⟨fa,fd,_,h1,h2.kp,h3 F hF,aAS (λf x hf=>aEl T k f x hf) T.blt T.cns T.tab T.exc T.rsd T.pls T.cls h2 hF hc⟩
theorem aJj(T:Top prog w K mg P Γ txs){t:Tx}{F:Fn}(ht:txs[f]? = some t)(hF:P.fns[f]? = some F)(h2:Fun K t.x t.qual t.st fa fd)(k:Nat):sX prog w K mg base (CX1 prog w) (k+1) fa fd (t.N.take F.np) (spF K P (k+1) f):=by obtain⟨F',hF',hc⟩:=gY T.chk ht;rw[hF] at hF';cases hF';exact aAS (aEl T k) T.blt T.cns T.tab T.exc T.rsd T.pls T.cls h2 hF hc
theorem aJk{ns:List Int}(hO:aFN H)(hS:SqL K H a (ns.map V.int))(h:∃fr pa,call P k f [.lst (ns.map D.int)]=.ok (.bl true,fr,pa)) :
 spF K P k f [.ref a] H (λv _=>v=.bl true) λ_ _ _=>False:=by
 obtain⟨fr,pa,e⟩:=h;have ri:∀(ns:List Int),Reps K H (λ_=>False) (ns.map D.int) (ns.map V.int):=by
  intro ns
  induction ns with
  | nil=>exact .nil|cons i ns ih=>exact .cons rfl ih
 refine⟨[.lst (ns.map D.int)],λ_=>False,λ_ z=>z.elim,.cons ⟨a,_,rfl,hS,⟨id,λ⟨_,_,z⟩=>z.elim⟩,ri ns⟩ .nil,?_⟩;rw[e];intro u H' _ _ rr;unfold Rr at rr;cases fr with
 | true=>rw[if_pos rfl] at rr;obtain⟨_,_,_,_,e2,_⟩:=rr;cases e2|false=>rw[if_neg bN] at rr;exact rr
theorem aCl(h:CX1 prog w out H s (λ_ _ _=>False) e s'):False:=by obtain⟨_,_,_,_,_,_,_,_,_,z⟩:=h;exact z
def pJ(K:Fg)(C:Addr)(cs:List (Addr×Bool))(ve:Bool):Bool:=
 iN K C&&(PySem.W.clsIn K C).isSome&&(PySem.W.subIn K (.ref C) (.type "BaseException")==some true)&&(PySem.W.findIn K (.ref C) "__getattribute__" == some (some (.builtin "BaseException.__getattribute__"))) &&
 (PySem.W.findIn K (.ref C) "__getattr__" == some none)&&(PySem.W.findIn K (.ref C) "__class__" == some (some (.builtin "object.__class__")))&&(PySem.W.mroIn K C (.type "object")==some true)&&(PySem.W.kitOne K (.ref C) (.type "ValueError")==some ve) &&
 cs.all λp=>(PySem.W.kitOne K (.ref C) (.ref p.1)==some p.2)&&(jV K C p.1==some p.2)
def xC(mg:Str->Option Value):List Str->List Addr->Prop
 | [],[]=>True|x::xs,a::as=>mg x=some (.ref a)/\xC mg xs as|_,_=>False
theorem rT{f:Str->Bool}:∀{xs:List Str} {as:List Addr},xC mg xs as->∀x∈xs,∃a,mg x=some (.ref a)/\(a,f x)∈as.zip (xs.map f)
 | [],_,_,x,hx=>by cases hx|y::ys,[],h,_,_=>h.elim|y::ys,a::as,h,x,hx=>by rcases A3.mp hx with rfl|hx;exact⟨a,h.1,As⟩;obtain⟨b,h1,h2⟩:=rT (f:=f) h.2 x hx;exact⟨b,h1,Ak _ h2⟩
theorem aEm{cls:List Str}{ab:List Cl}{as:List Addr}(hm:mg c=some (.ref C))(hn:PySem.W.nsIn K mainGlobals c=some (some (.ref C)))
 (h:pJ K C (as.zip (cls.map λx=>ab.contains (.own x))) (ab.contains .tValueError)=true) (ha:xC mg cls as):rN K mg cls c ab C:=by unfold pJ at h;simp only[bA,Ci,Az] at h;obtain⟨⟨⟨⟨⟨⟨⟨⟨h1,h2⟩,h3⟩,h4⟩,h5⟩,h6⟩,h7⟩,h8⟩,h9⟩:=h;refine⟨hm,hn,h1,⟨h2,h3,h4,h5,h6,h7⟩,h8,λx hx=>?_⟩;obtain⟨a,q1,q2⟩:=rT (f:=λx=>ab.contains (.own x)) ha x hx;obtain⟨g1,g2⟩:=h9 _ q2;exact⟨a,q1,g1,g2⟩
noncomputable def zQ(K:Fg)(C f:Addr):Bool:=
 (PySem.W.findIn K (.ref C) "__setattr__" == some (some (.builtin "object.__setattr__")))&&(PySem.W.mroIn K C (.type "object")==some true)&&(PySem.W.findIn K (.ref C) "place" == some none)&&(PySem.W.findIn K (.ref C) "__init__" == some (some (.ref f))) &&
 (match PySem.W.clsIn K C with
 | some cd=>cd.hasDict&&(match cd.mro with|.ref C'::bm=>C'==C&&PySem.W.tailIn K bmV bm|_=>false)|none=>false)&&PySem.W.hasDictIn K C
theorem aJl(h:zQ K C f=true)(xc:XC K C):PlC K C f/\PlR K C:=by unfold zQ at h;simp only[bA,Ci] at h;obtain⟨⟨⟨⟨⟨h1,h2⟩,h3⟩,h4⟩,h5⟩,h6⟩:=h;refine⟨⟨h1,h2,h3,h4,?_⟩,⟨xc,h6,h3⟩⟩;split at h5;rename_i cd hc;obtain⟨g1,g2⟩:=(bA _ _).mp h5;split at g2;rename_i C' bm hm;obtain⟨g3,g4⟩:=(bA _ _).mp g2;have e:C'=C:=eq_of_beq g3;subst e;exact⟨cd,bm,hc,g1,hm,g4⟩;cases g2;cases h5
end
end Hp
end
noncomputable section
namespace Hp
open PySem PySem.Spec PyProof.Rows L2
def ER(w:World)(K:Fg)(e:DictEntry)(p:Str×D):Prop:=e.hash=hashStr w p.1/\(∃tk,e.key=.str p.1 tk)/\∃v,bI v e.val/\∀(H:Hp) (ex:Addr->Prop),Rep K H ex p.2 v
theorem rV{K:Fg}{H:Hp}{ex:Addr->Prop}:∀xs:List Str,Reps K H ex (xs.map D.str) (xs.map V.str)
 | []=>rfl|x::xs=>⟨.str x,xs.map V.str,rfl,rfl,rV xs⟩
theorem aEn{K:Fg}{b:Addr}{od:Option Addr}{its:Array Value}{n:Nat}{sl:Array (Option Value)}(h:K.lookup b=some ⟨.type "tuple",od,.seq its n,sl⟩)(xs:List Str)(hz:its.size<=1000)(hv:bC (xs.map V.str) its.toList) :
 ∀(H:Hp) (ex:Addr->Prop),Rep K H ex (.tup (xs.map D.str)) (.ref b):=λH ex=>
 ⟨b,xs.map V.str,rfl,.inr ⟨_,its,n,h,rfl,rfl,A1 hz (by rw[Bz];decide),hv⟩,rV xs⟩
theorem aEo{prog:Program}{w:World}{K:Fg}:∀{es:List DictEntry} {t:List (Str×D)},Paired (ER w K) es t->∃vs:List (Key×Value),(∀e∈es,∃k:Key,(gM prog w).is k e.key=true/\e.hash=(gM prog w).hash k) /\
 Pairs (gM prog w) es vs/\vs.map (·.1)=t.map (λp=>(Sum.inr p.1:Key)) /\
 ∀k:Str,(t.lookup k=none/\valueAt vs (Sum.inr k:Key)=none)\/∃d u v,t.lookup k=some d/\valueAt vs (Sum.inr k:Key)=some u/\bI v u/\∀(H:Hp) (ex:Addr->Prop),Rep K H ex d v
 | _,_,.nil=>⟨[],λe he=>absurd he (by simp),.nil,rfl,λk=>.inl ⟨rfl,rfl⟩⟩
 | e::es,p::t,.cons ⟨h1,⟨tk,h2⟩,v,h3,h4⟩ r=>by
  obtain⟨vs,g1,g2,g3,g4⟩:=aEo (prog:=prog) r;have hk:vF (Sum.inr p.1:Key) e.key=true:=by rw[h2];exact aBC p.1 tk
  refine⟨(Sum.inr p.1,e.val)::vs,λe' he=>?_,.cons hk rfl g2,by rw[mC,mC,g3],λk=>?_⟩;rcases A3.mp he with rfl|he;exact⟨Sum.inr p.1,hk,h1⟩;exact g1 e' he;by_cases hkp:k=p.1;subst hkp;refine .inr ⟨p.2,e.val,v,?_,?_,h3,h4⟩;obtain⟨a,b⟩:=p;simp[List.lookup];simp[valueAt];have n1:(p::t).lookup k=t.lookup k:=by obtain⟨a,b⟩:=p;have:(k==a)=false:=Bb.mpr hkp;simp[List.lookup,this]
  have n2:valueAt ((Sum.inr p.1,e.val)::vs) (Sum.inr k:Key)=valueAt vs (Sum.inr k:Key):=by unfold valueAt;have:decide ((Sum.inr p.1:Key)=Sum.inr k)=false:=An λz=>hkp (Sum.inr.inj z).symm;rw[List.find?_cons];simp only[this]
  rw[n1,n2];exact g4 k
theorem aJm{prog:Program}{w:World}{K:Fg}{a:Addr}{es:Array DictEntry}{ep:Nat}{t:List (Str×D)}(hs:(a==sysModules)=false)(h:K.lookup a=some ⟨.type "dict",none,.dict es ep,#[]⟩)(hp:Paired (ER w K) es.toList t)(hn:(t.map (·.1)).Nodup):wC prog w K a t:=by
 obtain⟨vs,g1,g2,g3,g4⟩:=aEo (prog:=prog) hp;refine⟨hs,vs,λhh X=>⟨_,es,ep,X a _ h,⟨rfl,rfl,rfl⟩,rfl,λe he=>g1 e (by simpa using he),g2,?_⟩,g4⟩;rw[g3];have e:t.map (λp=>(Sum.inr p.1:Key))=(t.map (·.1)).map Sum.inr:=by rw[Bj];rfl
 rw[e];unfold List.Nodup at hn ⊢;rw[List.pairwise_map];exact hn.imp λhne z=>hne (Sum.inr.inj z)
end Hp
end
noncomputable section
namespace Hh
open PySem PySem.W PySem.Calls PyProof.Rows
def go(st:SharedT->Thread->Option (SharedT×Thread))(ok:Thread->Bool)(n:Nat):SharedT->Thread->Option SharedT:=
 @Nat.rec (λ_=>SharedT->Thread->Option SharedT) (λ_ _=>none) (λ_ ih s t=>match through t with
  | true=>some s|false=>match ok t with
   | false=>none|true=>match st s t with
    | some (s',t')=>ih s' t'|none=>none) n
theorem oF{tb:String->Option Builtin}:∀(n:Nat) (s s':SharedT) (t:Thread),go (stepT (denote tb) p w) (stepOk n₀ ann) n s t=some s'->topRun tb p w n₀ ann n s.abs t=some s'.abs
 | 0,_,_,_,h=>by cases h|n+1,s,s',t,h=>by
  have h:(match through t with
   | true=>some s|false=>match stepOk n₀ ann t with
    | false=>none|true=>match stepT (denote tb) p w s t with
     | some (s',t')=>go (stepT (denote tb) p w) (stepOk n₀ ann) n s' t'|none=>none)=some s':=h
  unfold topRun;cases ht:through t with
  | true=>rw[ht] at h;cases h;rfl|false=>
   rw[ht] at h;cases hk:stepOk n₀ ann t with
   | false=>rw[hk] at h;cases h|true=>
    rw[hk] at h;cases hs:stepT (denote tb) p w s t with
    | none=>rw[hs] at h;cases h|some r=>obtain⟨s₂,t₂⟩:=r;rw[hs] at h;rw[stepT_spec hs];exact oF n _ _ _ h
noncomputable def bt(l:List Obj)(n:Nat):Nat->Nat->BT:=
 @Nat.rec (λ_=>Nat->Nat->BT) (λ_ _=>.nil) (λ_ ih a b=>match l[b]? with
  | some o=>.node o (ih (2*a) (a+b)) (ih (2*a) (2*a+b))|none=>.nil) n
end Hh
namespace Hh
open PySem PySem.W PySem.Calls PyProof.Rows
noncomputable def aEp{α:Type}(p q:Program)(loose:List Str)(Xt:Shared->Bool)(Yf:Shared->α)(h0:Heap)(s:Shared):=
 ((staticsOk (importedModules p.main.body) h0 s.heap&&namesBound p s.heap&&gensDone s&&laidKept h0 s.heap),openSeen q loose (importedModules p.main.body) Xt true s,Yf s)
theorem aGz{p q:Program}{loose:List Str}{Xt:Shared->Bool}{α:Type}{Yf:Shared->α}{Ya:World->α}{N m₀:Nat}{ann:Option Value}{T₀:Params->BT}{l₀:Life}(e:opening p=plainProg p.main.scope.names)(hN:Nat.ble 600 N=true)(f:∀s,fenceModules? p s=some s)
 (hb:∀P,absHeap (T₀ P) m₀ l₀=boot_heap P) (hz:∀P:Params,((boot_heap P).isNs mainGlobals,(boot_heap P).objs.size,(boot_heap P).nsMap mainGlobals "__annotations__")=(true,m₀,ann))
 (h:∀(w:World) (os:OsState),(go (stepT (denote treeTable) p w) (stepOk m₀ ann) N ⟨T₀ w.params,m₀,l₀,Array.mk [],boot_drawn,boot_toks,os⟩ (topStub p)).map (λs=>aEp p q loose Xt Yf (boot_heap w.params) s.abs)=some (true,openGood q loose,Ya w)):LeftO p q loose Xt Yf Ya N:=λw=>by
 obtain⟨⟨hh,gs,d,k,os⟩,e1,e2⟩:=Bf.mp (boot_open e hN f w);simp only[Prod.mk.injEq] at e2;obtain⟨rfl,rfl,rfl,rfl⟩:=e2;obtain⟨s,g1,g2⟩:=Bf.mp (h w os);have r:=oF N _ _ _ g1;have r:topRun treeTable p w m₀ ann N ⟨boot_heap w.params,Array.mk [],boot_drawn,boot_toks,os⟩ (topStub p)=some s.abs:=by rw[<-hb];exact r
 have z:=hz w.params;simp only[Prod.mk.injEq] at z;obtain⟨z1,z2,z3⟩:=z;unfold aEp at g2;simp only[Prod.mk.injEq] at g2;obtain⟨l1,l2,l3⟩:=g2;have t:topFrom treeTable p w N ⟨boot_heap w.params,Array.mk [],boot_drawn,boot_toks,os⟩=some s.abs:=by unfold topFrom;dsimp only;rw[z1,z2,z3,r];show(match staticsOk (importedModules p.main.body) (boot_heap w.params) s.abs.heap&&namesBound p s.abs.heap&&gensDone s.abs&&laidKept (boot_heap w.params) s.abs.heap with|true=>_|false=>_)=_;rw[l1]
 unfold openEnds;rw[e1];show(topFrom treeTable p w N _).map _=_;rw[t];exact congrArg some (Prod.ext l2 l3)
def T0(P:Params):BT:=bt (boot_heap P).objs.toList 5 1 0
theorem aJn:∀P,absHeap (T0 P) 11 {}=boot_heap P:=λP=>by kernel_rfl
theorem aGA:∀P:Params,((boot_heap P).isNs mainGlobals,(boot_heap P).objs.size,(boot_heap P).nsMap mainGlobals "__annotations__")=(true,11,some (.ref 6)):=λP=>by kernel_rfl
abbrev aMa:=@PySem.W.Fast.tw10156331382660048174
abbrev qOk:=@PySem.W.Fast.tw6613529449190102663
abbrev aNZ:=@PySem.W.Fast.tw11892475500146522536
abbrev aOa:=@PySem.W.Fast.tw14364793385576792824
abbrev aMb:=@PySem.W.Fast.tw4187177175401517315
abbrev aMc:=@PySem.W.Fast.tw5923862056798008813
def aMd{α:Type}(p q:Program)(loose:List Str)(Yf:Shared->α)(N:Nat)(w:World)(os:OsState):=
 (go (aMa (aNZ aOa) p w) (qOk 11 (some (.ref 6))) N ⟨T0 w.params,11,{},Array.mk [],boot_drawn,boot_toks,os⟩ (topStub p)).map λs=>((staticsOk (aMc p.main.body) (boot_heap w.params) s.abs.heap&&namesBound p s.abs.heap&&gensDone s.abs&&laidKept (boot_heap w.params) s.abs.heap),aMb q loose (aMc p.main.body) (λ_=>true) true s.abs,Yf s.abs)
theorem aJo{p q:Program}{loose:List Str}{α:Type}{Yf:Shared->α}{Ya:World->α}{N:Nat}(e:opening p=plainProg p.main.scope.names)(hN:Nat.ble 600 N=true)(f:∀s,fenceModules? p s=some s)
 (h:∀w os,aMd p q loose Yf N w os=some (true,openGood q loose,Ya w)):LeftO p q loose (λ_=>true) Yf Ya N:=by refine aGz e hN f aJn aGA λw os=>?_;unfold aEp;rw[PySem.W.Fast.te10156331382660048174,PySem.W.Fast.te6613529449190102663,PySem.W.Fast.te11892475500146522536,PySem.W.Fast.te14364793385576792824,PySem.W.Fast.te4187177175401517315,PySem.W.Fast.te5923862056798008813];exact h w os
end Hh
end
noncomputable section
namespace Hh
open PySem PySem.W PySem.Calls PyProof.Rows L2 Hp
def eV(h:Heap):PySem.W.Frag:=(List.range h.objs.size).filterMap λa=>(h.get? a).map λo=>(a,o)
theorem pK{α:Type}(f:Nat->Option α)(a:Nat):∀n,((List.range n).filterMap λi=>(f i).map λo=>(i,o)).lookup a=if a<n then f a else none
 | 0=>rfl|n+1=>by
  rw[List.range_succ,List.filterMap_append,List.lookup_append,pK f a n];by_cases h:a<n;rw[if_pos h,if_pos (Dj h)];cases q:f a with
  | some o=>rfl|none=>
   have hne:(a==n)=false:=Bb.mpr (A0 h);cases q2:f n with
   | none=>simp[q2]|some o=>simp[q2,List.lookup,hne]
  rw[if_neg h];by_cases e:a=n;subst e;rw[if_pos (Ce _)];cases q:f a with
  | none=>simp[q]|some o=>simp[q,List.lookup]
  rw[if_neg (by omega)];have hne:(a==n)=false:=Bb.mpr e;cases q2:f n with
  | none=>simp[q2]|some o=>simp[q2,List.lookup,hne]
theorem cE(h:Heap)(a:Addr):(eV h).lookup a=h.get? a:=by
 unfold eV;rw[pK];by_cases q:a<h.objs.size;rw[if_pos q];rw[if_neg q];cases e:h.get? a with
 | none=>rfl|some o=>exact absurd (Ag e) q
theorem aAT{h h':Heap}(k:∀b o,h.get? b=some o->h'.get? b=some o):(eV h).In h':=λa o e=>k a o (by rw[<-cE];exact e)
def gI(h:Heap)(x:Str):Option (Option Value):=match h.get? mainGlobals with
 | some ⟨_,_,.dict es _,_⟩=>(match es.toList.find? (λe=>match e.key with|.str y _=>Fast.sEq y x|_=>false) with
  | some e=>some (some e.val)|none=>if es.toList.any (·.refKey) then none else some none)
 | _=>none
theorem aEq(v:Value)(x:Str):v.isStr x=(match v with|.str y _=>Fast.sEq y x|_=>false):=by
 cases v with
 | str y t=>show(y==x)=Fast.sEq y x;rw[Bool.eq_iff_iff,Ci,Fast.sEq_iff]|_=>rfl
theorem dJ(h:Heap)(x:Str):nsIn (eV h) mainGlobals x=gI h x:=by unfold nsIn gI;rw[cE];simp only[aEq];rfl
noncomputable def lH(h:Heap)(cd:Value):Option Str:=match cd with
 | .ref c=>(match h.get? c with
  | some ⟨_,_,.fields vs,_⟩=>(match vs.toList with|_::.str n _::_=>some n|_=>none)
  | _=>none)
 | _=>none
theorem rW(e:lH h cd=some q):codeIn (eV h) cd q=true:=by unfold lH at e;unfold codeIn;split at e;rename_i c;simp only[cE];split at e;rename_i vs _ ho;rw[ho];split at e;rename_i a n t r hv;cases e;simp only[hv,Bu];cases e;cases e;cases e
abbrev Pin:=Str×Str×Arguments×FuncBody×Scope×Addr×List (Str×Addr)×Value×Addr×Option Str
def zR(h:Heap)(x:Str):Option Pin:=match gI h x with
 | some (some (.ref a))=>(match h.get? a with
  | some ⟨_,_,.func fd,_⟩=>some (fd.name,fd.qualname,fd.params,fd.body,fd.scope,fd.globals,fd.closure,fd.defaults,fd.builtins,lH h fd.code)|_=>none)
 | _=>none
def cJ(s:Stmt):Str:=match s with|.FunctionDef x _ _ _ _ _ _ _ _ _=>x|_=>⟨#[]⟩
def aEr(st:Stmt):Pin:=(cJ st,cJ st,eP st,.stmts (gN st),aW st,mainGlobals,[],.none,builtinsNs,some (cJ st))
theorem aGB{h:Heap}{st:Stmt}(e:zR h (cJ st)=some (aEr st)):∃fa fd,nsIn (eV h) mainGlobals (cJ st)=some (some (.ref fa))/\Fun (eV h) (cJ st) (cJ st) st fa fd:=by unfold zR at e;split at e;rename_i a hn;split at e;rename_i c d fd sl ho;obtain⟨n,qn,ps,b,sc,g,cl,df,kd,doc,pm,an,cd,ct,bn⟩:=fd;unfold aEr at e;simp only[Cs,Prod.mk.injEq] at e;obtain⟨rfl,rfl,rfl,rfl,rfl,rfl,rfl,rfl,rfl,hc⟩:=e;refine⟨a,_,by rw[dJ];exact hn,⟨⟨c,d,kd,doc,pm,an,cd,ct,sl,rfl,by rw[cE];exact ho,rW hc⟩,?_⟩⟩;unfold keepIn;simp only[cE,ho];cases e;cases e
theorem xD{α:Type}{x:Str}{u:α}:∀{ps:List Str} {us:List α},ps.Nodup->ps.length=us.length->(x,u)∈ps.zip us->(ps.zip us).lookup x=some u
 | [],_,_,_,h=>by simp at h|p::ps,[],_,h,_=>by simp at h|p::ps,v::us,hn,hl,h=>by rw[Bd] at h ⊢;obtain⟨h1,h2⟩:=Cv.mp hn;rcases A3.mp h with h|h;cases h;simp[List.lookup];have hx:x∈ps:=(Du h).1;have:(x==p)=false:=Bb.mpr λz=>h1 (z▸hx);simp only[List.lookup,this];exact xD h2 (by simpa using hl) h
theorem aEs{α:Type}(L:List (Str×α)):∀{ps:List Str} {us:List α},ps.length=us.length->(∀p∈ps.zip us,L.lookup p.1=some p.2)->(ps.filterMap λn=>(L.lookup n).map (n,·))=ps.zip us
 | [],_,_,_=>by simp|p::ps,[],h,_=>by simp at h|p::ps,v::us,hl,h=>by rw[Bd,Cw,h (p,v) (by simp),aEs L (ps:=ps) (us:=us) (by simpa using hl) λq hq=>h q (by rw[Bd];exact Ak _ hq)];rfl
theorem aEt{α:Type}(L:List (Str×α)):∀{ps:List Str} {us:List α},ps.length=us.length->(∀p∈ps.zip us,L.lookup p.1=some p.2)->(ps.filter λn=>(L.lookup n).isNone)=[]
 | [],_,_,_=>by simp|p::ps,[],h,_=>by simp at h|p::ps,v::us,hl,h=>by rw[List.filter_cons,h (p,v) (by simp),aEt L (ps:=ps) (us:=us) (by simpa using hl) λq hq=>h q (by rw[Bd];exact Ak _ hq)];rfl
def eM(a:Arguments)(ps:List Str):Bool:=match a with|⟨[],as,none,[],[],none,[]⟩=>decide (as.map (·.arg)=ps)&&decide ps.Nodup|_=>false
theorem kO{x q:Str}{a:Arguments}{b:List Stmt}{sc:Scope}{kV doc pm:Value}{an:Option Addr}{cdv ct:Value}{ps:List Str}{us:List Value}(h:eM a ps=true)(hl:us.length=ps.length) :
 bindArgs (fnOf x q a b sc .none kV doc pm an cdv ct) ⟨us,[]⟩=pure (ps.zip us):=by
 unfold eM at h;split at h;rename_i as;obtain⟨h1,h2⟩:=Bool.and_eq_true_iff.mp h;have h1:=Au h1;have h2:=Au h2;have z:∀p∈ps.zip us,(ps.zip us).lookup p.1=some p.2:=λp hp=>xD h2 hl.symm hp;have e1:=aEt (ps.zip us) hl.symm z;have e2:=aEs (ps.zip us) hl.symm z;unfold bindArgs;have e3:∀s:Value,s=.none->(seqItems? s)=pure none:=λs e=>by subst e;rfl
 simp only[mN,C6,h1,e3,List.forIn_nil,pure_bind,hl,gt_iff_lt,A8,decide_false,Bool.false_and,Option.getD_none,lN,Nat.zero_sub,List.drop_nil,Nat.sub_zero,Da,e1,List.isEmpty_nil,Ds,List.drop_length,List.zip_nil_right,B8,e2,if_false,bF];cases h
def xF(s:Stmt):Bool:=match s with|.FunctionDef _ _ _ _ _ _ _ _ _ _=>true|_=>false
def aEu:D->Value->Bool
 | .int i,.int j _=>decide (i=j)|.str a,.str b _=>Fast.sEq a b|.non,.none=>true|.bl a,.bool b=>a==b|_,_=>false
def zS(h:Heap)(c:Str×D):Bool:=match gI h c.1 with|some (some u)=>aEu c.2 u|_=>false
def lJ:Value->Option Str
 | .str x _=>some x|_=>none
abbrev aEv:=Int×Option Str×Option (Value×List (Option Str))
noncomputable def nY(h:Heap)(e:DictEntry):aEv:=(e.hash,lJ e.key,match e.val with
 | .ref b=>(match h.get? b with
  | some ⟨c,_,.seq its _,_⟩=>some (c,its.toList.map lJ)|_=>none)
 | _=>none)
def uB(h:Heap)(x:Str):Option (Bool×Value×Option Addr×Array (Option Value)×List aEv):=match gI h x with
 | some (some (.ref a))=>(match h.get? a with
  | some ⟨c,d,.dict es _,sl⟩=>some (a==sysModules,c,d,sl,es.toList.map (nY h))|_=>none)
 | _=>none
def uC(w:World)(p:Str×List Str):aEv:=(hashStr w p.1,some p.1,some (.type "tuple",p.2.map some))
def zT(w:World)(t:List (Str×List Str)):Option (Bool×Value×Option Addr×Array (Option Value)×List aEv):=some (false,.type "dict",none,#[],t.map (uC w))
def aCm(t:List (Str×List Str)):List (Str×D):=t.map λp=>(p.1,.tup (p.2.map D.str))
theorem aAU:∀{us:List Value} {xs:List Str},us.map lJ=xs.map some->bC (xs.map V.str) us
 | [],[],_=>.nil|[],_::_,h=>by cases h|_::_,[],h=>by cases h|u::us,x::xs,h=>by rw[mC,mC] at h;obtain⟨h1,h2⟩:=List.cons.inj h;refine .cons ?_ (aAU h2);unfold lJ at h1;split at h1;cases h1;exact⟨_,rfl⟩;cases h1
theorem aJp{p:Str×List Str}(q:nY h e=uC w p)(hl:p.2.length<=1000):ER w (eV h) e (p.1,.tup (p.2.map D.str)):=by unfold nY uC at q;simp only[Prod.mk.injEq] at q;obtain⟨q1,q2,q3⟩:=q;refine⟨q1,?_,?_⟩;unfold lJ at q2;split at q2;rename_i y tk he;exact⟨tk,by rw[he];exact congrArg (λz=>Value.str z tk) (Ah q2)⟩;cases q2;split at q3;rename_i b he;split at q3;rename_i c d its n sl ho;have q3:=Ah q3;simp only[Prod.mk.injEq] at q3;obtain⟨e1,e2⟩:=q3;subst e1;have hz:=congrArg List.length e2;rw[lM,lM] at hz;exact⟨.ref b,by rw[he];rfl,aEn (by rw[cE];exact ho) p.2 (by rw[<-Ck,hz];exact hl) (aAU e2)⟩;cases q3;cases q3
theorem rX:∀{es:List DictEntry} {t:List (Str×List Str)},es.map (nY h)=t.map (uC w)->(∀p∈t,p.2.length<=1000)->Paired (ER w (eV h)) es (aCm t)
 | [],[],_,_=>.nil|[],_::_,q,_=>by cases q|_::_,[],q,_=>by cases q|e::es,p::t,q,hl=>by rw[mC,mC] at q;obtain⟨h1,h2⟩:=List.cons.inj q;exact .cons (aJp h1 (hl p (As ..))) (rX h2 λp' hp=>hl p' (Ak _ hp))
def aAV(t:List (Str×List Str)):Bool:=(t.all λp=>decide (p.2.length<=1000))&&decide (t.map (·.1)).Nodup
theorem aEw(e:uB h x=zT w t)(ok:aAV t=true):∃a,nsIn (eV h) mainGlobals x=some (some (.ref a))/\wC prog w (eV h) a (aCm t):=by unfold aAV at ok;rw[bA,Az] at ok;unfold uB zT at e;split at e;rename_i a hn;split at e;rename_i c d es ep sl ho;have e:=Ah e;simp only[Prod.mk.injEq] at e;obtain⟨e1,rfl,rfl,rfl,e5⟩:=e;refine⟨a,(dJ h x).trans hn,aJm e1 (by rw[cE];exact ho) (rX e5 λp hp=>Au (ok.1 p hp)) ?_⟩;unfold aCm;rw[Bj];exact Au ok.2;cases e;cases e
def lK(h:Heap):List Str->Option (List Addr)
 | []=>some []|x::xs=>match gI h x,lK h xs with|some (some (.ref a)),some as=>some (a::as)|_,_=>none
def aAW(h:Heap)(above:List (Str×List Cl))(cls:List Str):Bool:=match lK h cls with
 | some as=>(as.all λa=>iN (eV h) a)&&above.all λca=>match gI h ca.1 with|some (some (.ref C))=>pJ (eV h) C (as.zip (cls.map λx=>ca.2.contains (.own x))) (ca.2.contains .tValueError)|_=>false
 | none=>false
def aGC(h:Heap)(cs:List Str):Bool:=cs.all λc=>match gI h c with|some (some (.ref C))=>excIn (eV h) C bmV "ValueError.__new__"|_=>false
def pL(p:Program)(i:Nat):Stmt:=match p.main.body.getD i (.Pass ⟨0,0,0,0⟩) with|.ClassDef _ _ _ (st::_) _ _ _ _ _ _ _=>st|st=>st
def zU(st:Stmt)(q:Str):Pin:=(cJ st,q,eP st,.stmts (gN st),aW st,mainGlobals,[],.none,builtinsNs,some q)
def uD(h:Heap)(x:Str):Option (Bool×Pin):=match gI h x with
 | some (some (.ref C))=>(match findIn (eV h) (.ref C) "__init__" with
  | some (some (.ref f))=>(match h.get? f with
   | some ⟨c,_,.func fd,_⟩=>some ((c==.type "function")&&pJ (eV h) C [] true&&zQ (eV h) C f,(fd.name,fd.qualname,fd.params,fd.body,fd.scope,fd.globals,fd.closure,fd.defaults,fd.builtins,lH h fd.code))|_=>none)
  | _=>none)
 | _=>none
theorem aEx{h0 h:Heap}{mg:Str->Option Value}(X:(eV h0).In h)(G:h.Ns mainGlobals mg){x q n1 n2:Str}{st:Stmt}(e:uD h0 x=some (true,zU st q))(hn:cJ st = "__init__")(hi:kJ st n1 n2=true)(ha:eM (eP st) [n1,n2]=true):aAI (eV h0) mg x:=by
 unfold uD at e;split at e;rename_i C hns;split at e;rename_i f hf;split at e;rename_i c d fd sl ho;obtain⟨n,qn,ps,b,sc,g,cl,df,kd,doc,pm,an,cd,ct,bn⟩:=fd;unfold zU at e;simp only[Cs,Prod.mk.injEq,bA] at e;obtain⟨⟨⟨e1,e2⟩,e3⟩,e4,rfl,rfl,rfl,rfl,rfl,rfl,rfl,rfl,hc⟩:=e;unfold pJ at e2;simp only[bA,Ci,Az] at e2;obtain⟨⟨⟨⟨⟨⟨⟨⟨k1,k2⟩,k3⟩,k4⟩,k5⟩,k6⟩,k7⟩,_⟩,_⟩:=e2;obtain⟨p1,p2⟩:=aJl e3 ⟨k2,k3,k4,k5,k6,k7⟩;have hn':=(dJ h0 x).trans hns;have F:Fun (eV h0) "__init__" qn st f _:=⟨⟨c,d,kd,doc,pm,an,cd,ct,sl,rfl,by rw[cE,ho,e4,hn],rW hc⟩,by unfold keepIn;simp only[cE,ho]⟩
 exact⟨C,f,qn,st,_,n1,n2,mg_of X G hn',hn',k1,p1,p2,F,hi,F.binds λkV doc pm an cdv ct us hl=>kO ha hl,_,(cE h0 f).trans ho,eq_of_beq e1⟩;cases e;cases e;cases e
structure Sn where
 cns:List (Str×D)
 tbs:List (Str×List (Str×List Str))
 above:List (Str×List Cl)
 cls:List Str
 rsd:List Str
 pls:List (Str×Nat×Str×Str×Str)
abbrev aHs:=List (Option Pin)×List (Option (Option Value))×Bool×List (Option (Bool×Value×Option Addr×Array (Option Value)×List aEv))×Bool×Bool×List (Option (Bool×Pin))
def jL(p:Program)(n:Sn)(h:Heap):aHs:=
 ((p.main.body.filter xF).map (λst=>zR h (cJ st)),bltNames.map (gI h),n.cns.all (zS h),n.tbs.map (λq=>uB h q.1),aAW h n.above n.cls,aGC h n.rsd,n.pls.map λq=>uD h q.1)
def mQ(p:Program)(n:Sn)(w:World):aHs:=
 ((p.main.body.filter xF).map (λst=>some (aEr st)),bltNames.map (λ_=>some none),true,n.tbs.map (λq=>zT w q.2),true,true,n.pls.map λq=>some (true,zU (pL p q.2.1) q.2.2.1))
def xG(p:Program)(i:Nat):Stmt:=p.main.body.getD i (.Pass ⟨0,0,0,0⟩)
def nP(p:Program)(c:Nat×List Str):Tx:=⟨cJ (xG p c.1),cJ (xG p c.1),xG p c.1,c.2⟩
theorem aJq{p:Program}(h:xF (xG p i)=true):xG p i∈p.main.body:=by
 unfold xG at h ⊢;rw[Af] at h ⊢;cases e:p.main.body[i]? with
 | none=>rw[e] at h;cases h|some s=>exact mG e
theorem aGD{c:Str×D}(e:zS h c=true):∃u v,nsIn (eV h) mainGlobals c.1=some (some u)/\bI v u/\∀H ex,Rep (eV h) H ex c.2 v:=by unfold zS at e;split at e;rename_i u hn;obtain⟨x,d⟩:=c;have e:aEu d u=true:=e;unfold aEu at e;split at e;cases Au e;exact⟨_,.int _,(dJ _ _).trans hn,⟨_,rfl⟩,λ_ _=>rfl⟩;cases Fast.sEq_iff.mp e;exact⟨_,.str _,(dJ _ _).trans hn,⟨_,rfl⟩,λ_ _=>rfl⟩;exact⟨_,.non,(dJ _ _).trans hn,rfl,λ_ _=>rfl⟩;cases eq_of_beq e;exact⟨_,.bl _,(dJ _ _).trans hn,rfl,λ_ _=>rfl⟩;cases e;cases e
theorem aAX{h0 h:Heap}{mg:Str->Option Value}(X:(eV h0).In h)(G:h.Ns mainGlobals mg):∀{xs:List Str} {as:List Addr},lK h0 xs=some as->xC mg xs as
 | [],as,e=>by cases e;trivial|x::xs,as,e=>by unfold lK at e;split at e;rename_i a as' e1 e2;cases e;exact⟨mg_of X G ((dJ h0 x).trans e1),aAX X G e2⟩;cases e
theorem rY{mg:Str->Option Value}:∀{xs:List Str} {as:List Addr},xC mg xs as->∀x∈xs,∃a,mg x=some (.ref a)/\a∈as
 | [],_,_,x,hx=>by cases hx|y::ys,[],h,_,_=>h.elim|y::ys,a::as,h,x,hx=>by rcases A3.mp hx with rfl|hx;exact⟨a,h.1,As⟩;obtain⟨b,h1,h2⟩:=rY h.2 x hx;exact⟨b,h1,Ak _ h2⟩
theorem aJr{prog p:Program}{w:World}{h0 h:Heap}{mg:Str->Option Value}{P:Pg}{Γ:Ct}{ix:List (Nat×List Str)}{n:Sn}(S:jL p n h0=mQ p n w)(k:∀b o,h0.get? b=some o->h.get? b=some o)(G:h.Ns mainGlobals mg)
 (hi:(ix.all λc=>xF (xG p c.1))=true) (h1:Γ.fns=(ix.map (nP p)).map (·.x)) (h2:Γ.cns=n.cns) (h3:Γ.tbs=n.tbs.map (·.1)) (h4:P.tabs=n.tbs.map λq=>aCm q.2) (h5:(n.tbs.all λq=>aAV q.2)=true) (h6:P.above=n.above) (h7:Γ.cls=n.cls) (h8:Γ.rsd=n.rsd) (h9:Γ.pls=n.pls.map (·.1)) (h10:(n.pls.all λq=>(cJ (pL p q.2.1) == "__init__")&&kJ (pL p q.2.1) q.2.2.2.1 q.2.2.2.2&&eM (eP (pL p q.2.1)) [q.2.2.2.1,q.2.2.2.2])=true)
 (hb:((P.fns.zip (ix.map (nP p))).all λq=>eM (eP q.2.st) (q.2.N.take q.1.np))=true) (chk:iS Γ P.fns (ix.map (nP p))=true) :
 Top prog w (eV h0) mg P Γ (ix.map (nP p)):=by
 unfold jL mQ at S;simp only[Prod.mk.injEq] at S;obtain⟨s1,s2,s3,s4,s5,s6,s7⟩:=S;have X:=aAT k;unfold aAW at s5;split at s5;rename_i as hr;have ma:=aAX X G hr;rw[bA,Az,Az] at s5;obtain⟨s8,s5⟩:=s5;exact {
  fn:=λf t ht=>by rw[A5] at ht;obtain⟨c,hc,rfl⟩:=Bf.mp ht;have hd:=Az.mp hi c (mG hc);obtain⟨fa,fd,g1,g2⟩:=aGB (D8.mp s1 _ (List.mem_filter.mpr ⟨aJq hd,hd⟩));refine⟨fa,fd,mg_of X G g1,g2,λF hF=>g2.binds λkV doc pm an cdv ct us hl=>kO (Az.mp hb (F,nP p c) (mG (i:=f) ?_)) hl⟩;rw[List.getElem?_zip_eq_some];exact⟨hF,by rw[A5,hc];rfl⟩
  fns:=λf x hx=>by rw[h1,A5] at hx;obtain⟨t,ht,rfl⟩:=Bf.mp hx;exact⟨t,ht,rfl⟩
  blt:=λx hx=>mg_none_of X G ((dJ h0 x).trans (D8.mp s2 x hx))
  cns:=λx d hx=>by rw[h2] at hx;obtain⟨u,v,g1,g2⟩:=aGD (Az.mp s3 _ (B0 hx));exact⟨u,v,mg_of X G g1,g2⟩
  tab:=λi x hx=>by rw[h3,A5] at hx;obtain⟨q,hq,rfl⟩:=Bf.mp hx;have hm:=mG hq;obtain⟨a,g1,g2⟩:=aEw (prog:=prog) (D8.mp s4 q hm) (Az.mp h5 q hm);exact⟨a,aCm q.2,mg_of X G g1,by rw[h4,A5,hq];rfl,g2⟩
  exc:=λc ab hc=>by rw[h6] at hc;have z:=s5 (c,ab) (B0 hc);split at z;rename_i C hn;refine⟨C,aEm (as:=as) (mg_of X G ((dJ h0 c).trans hn)) ((dJ h0 c).trans hn) ?_ ?_⟩;rw[h7];exact z;rw[h7];exact ma;cases z
  rsd:=λc hc=>by have z:=Az.mp s6 c (by rw[<-h8];exact hc);split at z;rename_i C hn;exact⟨C,mg_of X G ((dJ h0 c).trans hn),(dJ h0 c).trans hn,z⟩;cases z
  pls:=λc hc=>by rw[h9] at hc;obtain⟨q,hq,rfl⟩:=Av.mp hc;have z:=Az.mp h10 q hq;simp only[bA,Ci] at z;exact aEx X G (D8.mp s7 q hq) z.1.1 z.1.2 z.2
  cls:=λx hx=>by obtain⟨a,g1,g2⟩:=rY ma x (by rw[<-h7];exact hx);exact⟨a,g1,s8 a g2⟩
  chk:=chk }
 cases s5
theorem aEy{l:PySem.W.OpenLaw}{XP:(Str->Option Value)->Heap->Prop}{YP:World->Heap->Prop}{d:DefRec}{sp:PySem.W.Frag->Sp}(hn:l.most=some n)(hn2:n<=sizeLine)(hdf:d.params.defaults=[])(hr:jT k callerA)
 (F:∀(w:World) (mg:Str->Option Value) (fa:Addr) (h:Heap),YP w h->h.Ns mainGlobals mg->mg d.name=some (.ref fa)->∃K:PySem.W.Frag,K.In h/\∃fd:FuncData,(∀(s:Shared) (u:Value),BindsTo s fd ⟨[u],[]⟩ [(x,u)])/\∀base:Heap,K.In base->base.Ns mainGlobals mg->sX l.prog w K mg base (CX1 l.prog w) k fa fd [x] (sp K))
 (hsp:∀(K:PySem.W.Frag) (H:Hp) (a:Addr) (ns:List Int),ns.length<=n->aFN H->SqL K H a (ns.map V.int)->sp K [.ref a] H (λv _=>v=.bl true) λ_ _ _=>False):PySem.W.WalkO q loose XP YP l.row.toRowW d [] (λf vs=>PySem.call f vs):=by refine Att.attach_call hn hdf λw s₀ s₁ mg mb fa o pm cd doc a vs ns G Y ho hd hcd hmg hobj hints hlen hg=>?_;obtain⟨K,KX,fd,hb,hF⟩:=F w mg fa _ Y G.T.g hmg;exact aDa KX G.T.g G.T.b G.T.builtins G.T.nolimit hg hobj hints (A1 hlen hn2) hr hF hb (λH hO hS=>hsp K H a ns hlen hO hS) λ_ _ _ z=>aCl z
def lst(p:Program):Stmt:=p.main.body.getLastD (.Pass ⟨0,0,0,0⟩)
def rZ(p:Program):Program:={ p with main:={ p.main with body:=[lst p] } }
def uE(p:Program):List Str:=(p.main.scope.names.map (·.1)).filter λx=>!(Fast.sEq x (cJ (lst p)))
def aJs(s:Stmt):Pos:=match s with|.FunctionDef _ _ _ _ _ _ _ _ _ p=>p|_=>⟨0,0,0,0⟩
def kP(p:Program):DefRec:=⟨cJ (lst p),eP (lst p),gN (lst p),aW (lst p),aJs (lst p)⟩
theorem aJt{l:PySem.W.OpenLaw}{P:Pg}{n:Sn}{ix:List (Nat×List Str)}{k f N:Nat}{x:Str}{sl:List Str}(said:l.row.wellSaid=true)(left:LeftO l.prog (rZ l.prog) (uE l.prog) (λ_=>true) (λs=>jL l.prog n s.heap) (λw=>mQ l.prog n w) N)
 (hdef:defOf (rZ l.prog) l.name=some (kP l.prog,[])) (hp:l.prog.theDef l.name=some ((kP l.prog).params,(kP l.prog).body,(kP l.prog).scope)) (hk:kwWritten? (kP l.prog).params.kwonlyargs (kP l.prog).params.kw_defaults=some []) (hwr:(!l.writes||([]:WRecords).isEmpty)=true)
 (ok:(chainsOk (rZ l.prog)&&opensWell l.prog&&(frees l.row.toRowW&&l.row.within.isEmpty))=true) (hb:l.prog.bare) (hw:l.row.toRowW.promised) (hn:l.most=some 63) (hdf:(kP l.prog).params.defaults=[])
 (hi:(ix.all λc=>xF (xG l.prog c.1))=true) (hbd:((P.fns.zip (ix.map (nP l.prog))).all λq=>eM (eP q.2.st) (q.2.N.take q.1.np))=true) (chk:iS ⟨[],[],(ix.map (nP l.prog)).map (·.x),n.cns,n.cls,true,n.tbs.map (·.1),n.rsd,n.pls.map (·.1)⟩ P.fns (ix.map (nP l.prog))=true)
 (h4:P.tabs=n.tbs.map λq=>aCm q.2) (h5:(n.tbs.all λq=>aAV q.2)=true) (h6:P.above=n.above) (h10:(n.pls.all λq=>(cJ (pL l.prog q.2.1) == "__init__")&&kJ (pL l.prog q.2.1) q.2.2.2.1 q.2.2.2.2&&eM (eP (pL l.prog q.2.1)) [q.2.2.2.1,q.2.2.2.2])=true) (hr:jT (k+1) callerA) (hx:(ix.map (nP l.prog))[f]? = some ⟨cJ (lst l.prog),cJ (lst l.prog),lst l.prog,x::sl⟩) (hnp:(P.fns[f]?).map (·.np)=some 1)
 (pure:∀ns:List Int,ns.length<=63->∃fr pa,Hp.call P (k+1) f [.lst (ns.map D.int)]=.ok (.bl true,fr,pa)):l.row.Holds:=by refine holds_open (XP:=λ_ _=>True) (YP:=λw h=>∃h0,jL l.prog n h0=mQ l.prog n w/\∀b o,h0.get? b=some o->h.get? b=some o) left (λw s e=>⟨s.heap,e,λ_ _ z=>z⟩) (λw h h' ⟨h0,e,k⟩ k'=>⟨h0,e,λb o z=>k' b o (k b o z)⟩) (λ_ _=>trivial) (λ_ _ _ _ _=>trivial) hdef hp hk (λ_ _=>recFacts_nil rfl) hwr said ok hb hw ?_;obtain⟨F,hF,hFn⟩:=Bf.mp hnp;refine aEy (sp:=λK=>spF K P (k+1) f) (x:=x) hn (by decide) hdf hr (λw mg fa h ⟨h0,e,kk⟩ G hmg=>?_) λK H a ns hl hO hS=>aJk hO hS (pure ns hl);have T:=aJr (prog:=l.prog) (w:=w) (P:=P) (Γ:=⟨[],[],(ix.map (nP l.prog)).map (·.x),n.cns,n.cls,true,n.tbs.map (·.1),n.rsd,n.pls.map (·.1)⟩) e kk G hi rfl rfl rfl h4 h5 h6 rfl rfl rfl h10 hbd chk;obtain⟨fa',fd,g1,g2,g3⟩:=T.fn f _ hx;have e:=hmg.symm.trans g1;cases e;have b:=g3 F hF;refine⟨eV h0,aAT kk,fd,λs u=>?_,λbase _ _=>?_⟩;obtain⟨oc,od,kV,doc,pm,an,cdv,ct,osl,rfl,lk,hcd⟩:=g2.ex;refine .of_eq ((kO (ps:=[x]) ?_ rfl).trans rfl);have:=Az.mp hbd (F,_) (mG (i:=f) (List.getElem?_zip_eq_some.mpr ⟨hF,hx⟩));rw[hFn] at this;exact this;have:=aJj (base:=base) T hx hF g2 k;rw[hFn] at this;exact this
end Hh
end
noncomputable section
namespace Hp
open PySem (Str Operator CmpOp)
section
variable {P:Pg} {cl:Caller} {σ:Sg}
@[simp] theorem aA {α β:Type} (a:α) (f:α->R β):((R.ok a:R α) >>= f)=f a:=id rfl
@[simp] theorem gB {α:Type} (x:R α):R.iff true x=x:=id rfl
@[simp] theorem aOF {α:Type} (x:α):R.of (some x)=.ok x:=id rfl
@[simp] theorem aT {α:Type} (a:α) (f:α->O):O.from σ (.ok a) f=f a:=id rfl
@[simp] theorem iT (f:Sg->O):(O.next σ).on f=f σ:=id rfl
@[simp] theorem fO (v:Vl) (f:Sg->O):(O.ret v).on f=.ret v:=id rfl
@[simp] theorem cF (d:D):ev P cl σ (.c d)=.ok (.cl d):=id rfl
@[simp] theorem bO (i:Nat):ev P cl σ (.v i)=bB σ i:=id rfl
@[simp] theorem cT (o:Operator) (a b:E):ev P cl σ (.op o a b)=(ev P cl σ a >>= λx=>ev P cl σ b >>= λy=>opD o x y):=id rfl
@[simp] theorem aOb (a:E):ev P cl σ (.neg a)=(ev P cl σ a >>= λx=>match x.d with|.int i=>.ok (.cl (.int (-i)))|_=>.bad):=id rfl
@[simp] theorem aMe (a:E):ev P cl σ (.nt a)=(ev P cl σ a >>= λx=>eD x >>= λk=>.ok (.cl (.bl (!k)))):=id rfl
@[simp] theorem aHt (a b:E):ev P cl σ (.an a b)=(ev P cl σ a >>= λx=>match x.d with|.bl true=>ev P cl σ b|.bl false=>.ok (.cl (.bl false))|_=>.bad):=id rfl
@[simp] theorem aJu (a b:E):ev P cl σ (.orr a b)=(ev P cl σ a >>= λx=>match x.d with|.bl true=>.ok (.cl (.bl true))|.bl false=>ev P cl σ b|_=>.bad):=id rfl
@[simp] theorem zV (t a b:E):ev P cl σ (.ife t a b)=(tst P cl σ t >>= λx=>if x then ev P cl σ a else ev P cl σ b):=id rfl
@[simp] theorem uF (o:CmpOp) (a b:E):ev P cl σ (.cmp o a b)=(ev P cl σ a >>= λx=>ev P cl σ b >>= λy=>match dD o x.d y.d with|some k=>.ok (.cl (.bl k))|none=>.bad):=id rfl
@[simp] theorem aGE (o o':CmpOp) (a b c:E):ev P cl σ (.cmp2 o o' a b c)=(ev P cl σ a >>= λx=>ev P cl σ b >>= λy=>match dD o x.d y.d with
 | some true=>ev P cl σ c >>= λz=>(match dD o' y.d z.d with|some k=>.ok (.cl (.bl k))|none=>.bad)
 | some false=>.ok (.cl (.bl false))|none=>.bad):=id rfl
@[simp] theorem cR (a b:E):ev P cl σ (.idx a b)=(ev P cl σ a >>= λx=>ev P cl σ b >>= λy=>bK x y):=id rfl
@[simp] theorem eN (es:Es):ev P cl σ (.tup es)=(evs P cl σ es >>= λvs=>.ok (kW vs)):=id rfl
@[simp] theorem eW (es:Es):ev P cl σ (.lst es)=(evs P cl σ es >>= λvs=>.ok (nB vs)):=id rfl
@[simp] theorem aU (f:Nat) (es:Es):ev P cl σ (.call f es)=(evs P cl σ es >>= λvs=>cl f (vs.map (·.d)) >>= λr=>.ok (iH vs r)):=id rfl
@[simp] theorem fP (b:Bi) (es:Es):ev P cl σ (.bi b es)=(evs P cl σ es >>= λvs=>biD b vs):=id rfl
@[simp] theorem aJv (m:Mt) (o:E) (es:Es):ev P cl σ (.mth m o es)=(ev P cl σ o >>= λx=>(evs P cl σ es).calm >>= λys=>mtD m x ys):=id rfl
@[simp] theorem aOc (a:E) (cs:List Cl):ev P cl σ (.isi a cs)=(ev P cl σ a >>= λx=>match isI cs P x.d with|some k=>.ok (.cl (.bl k))|none=>.bad):=id rfl
@[simp] theorem lL (a:E) (h:E):ev P cl σ (.sli a .z (.k h .z))=(ev P cl σ a >>= λx=>ev P cl σ h >>= λh=>match h.d with|.int h=>.iff (aK h) (eG x none (some h))|_=>.bad):=by
 show(ev P cl σ a >>= λx=>evs P cl σ .z >>= λl=>evs P cl σ (.k h .z) >>= λh=>_)=_;cases ev P cl σ a with
 | ok x=>
  show(evs P cl σ (.k h .z) >>= λh=>_)=(ev P cl σ h >>= λh=>_)
  show((ev P cl σ h >>= λx=>evs P cl σ .z >>= λxs=>R.ok (x::xs)) >>= λh=>_)=_;cases ev P cl σ h <;> rfl
 | exc e=>rfl|bad=>rfl
@[simp] theorem eQ {α:Type} (a:α):(R.ok a).calm=R.ok a:=id rfl
theorem uG(k:Nat)(caps:List Nat)(t:T)(it:It)(cond:Es)(elt:E):ev P cl σ (.comp k caps t it cond elt)=(walk P cl σ it >>= λxs=>.iff (decide (xs.1.length<=lim)) (
 eH (λx=>bT (List.replicate k .x++caps.map λi=>((freeze σ xs.2)[i]?).getD .x) x t >>= λσ1=>(tsts P cl σ1 cond).calm >>= λk=>if k then (ev P cl σ1 elt >>= λy=>.ok (some y)) else .ok none) xs.1 >>= λvs=>
 .ok (fB k caps xs.2 vs))):=rfl
@[simp] theorem aJT (a:E):ev P cl σ (.numset a)=(ev P cl σ a >>= λx=>match x.d with
 | .lst ds=>(match tL ds with|some ks=>.iff (decide (ds.length<=1000)) (.ok (.cl (.int (aDd ks).length)))|none=>.bad)
 | _=>.bad):=id rfl
@[simp] theorem aE:evs P cl σ .z=.ok []:=id rfl
@[simp] theorem aB (e:E) (es:Es):evs P cl σ (.k e es)=(ev P cl σ e >>= λx=>evs P cl σ es >>= λxs=>.ok (x::xs)):=id rfl
@[simp] theorem mR (a:E):tst P cl σ (.nt a)=(tst P cl σ a >>= λx=>.ok (!x)):=id rfl
@[simp] theorem kQ (a b:E):tst P cl σ (.an a b)=(tst P cl σ a >>= λx=>if x then tst P cl σ b else .ok false):=id rfl
@[simp] theorem uH (a b:E):tst P cl σ (.orr a b)=(tst P cl σ a >>= λx=>if x then .ok true else tst P cl σ b):=id rfl
@[simp] theorem aOA (d:D):tst P cl σ (.c d)=eD (.cl d):=id rfl
@[simp] theorem aOB (i:Nat):tst P cl σ (.v i)=(bB σ i >>= λx=>eD x):=id rfl
@[simp] theorem bY (o:CmpOp) (a b:E):tst P cl σ (.cmp o a b)=(ev P cl σ a >>= λx=>ev P cl σ b >>= λy=>match dD o x.d y.d with|some k=>.ok k|none=>.bad):=id rfl
@[simp] theorem xH (o o':CmpOp) (a b c:E):tst P cl σ (.cmp2 o o' a b c)=(ev P cl σ a >>= λx=>ev P cl σ b >>= λy=>match dD o x.d y.d with
 | some true=>ev P cl σ c >>= λz=>(match dD o' y.d z.d with|some k=>.ok k|none=>.bad)
 | some false=>.ok false|none=>.bad):=id rfl
@[simp] theorem iU (f:Nat) (es:Es):tst P cl σ (.call f es)=(evs P cl σ es >>= λvs=>cl f (vs.map (·.d)) >>= λr=>eD (iH vs r)):=id rfl
@[simp] theorem lO (a:E) (cs:List Cl):tst P cl σ (.isi a cs)=(ev P cl σ a >>= λx=>match isI cs P x.d with|some k=>.ok k|none=>.bad):=id rfl
@[simp] theorem aMQ (a b:E):tst P cl σ (.idx a b)=(ev P cl σ a >>= λx=>ev P cl σ b >>= λy=>bK x y >>= λz=>eD z):=id rfl
@[simp] theorem aEz:tsts P cl σ .z=.ok true:=id rfl
@[simp] theorem aCn (e:E) (es:Es):tsts P cl σ (.k e es)=(tst P cl σ e >>= λx=>if x then tsts P cl σ es else .ok false):=id rfl
@[simp] theorem pM (a b:E):walk P cl σ (.rng a b)=(ev P cl σ a >>= λx=>ev P cl σ b >>= λy=>match x.d,y.d with|.int i,.int j=>.iff (aK i&&aK j) (.ok ((fL i j).map .cl,[]))|_,_=>.bad):=id rfl
@[simp] theorem gJ (e:E):walk P cl σ (.seq e)=(ev P cl σ e >>= λx=>match x.d with
 | .lst ds=>.ok (items x ds,x.al)|.tup ds=>.ok (items x ds,x.al)|.str a=>.iff (decide (a.length<=lim)) (.ok (a.cps.toList.map λn=>.cl (.str ⟨#[n]⟩),[]))|_=>.bad):=id rfl
@[simp] theorem aEA (a b:E):walk P cl σ (.zip a b)=(ev P cl σ a >>= λx=>ev P cl σ b >>= λy=>match gQ x.d,gQ y.d with
 | some as,some bs=>.ok (items ⟨.non,false,x.pa||y.pa,x.al++y.al⟩ (iI as bs),x.al++y.al)|_,_=>.bad):=id rfl
@[simp] theorem cD (t:T) (e:E):ex P cl σ (.set t e)=O.from σ (ev P cl σ e) λv=>O.from σ (bT (freeze σ v.al) v t) .next:=id rfl
@[simp] theorem uI (i:Nat) (e:E):ex P cl σ (.app i e)=O.from σ (ev P cl σ e).calm λv=>put σ i v λds=>some (ds++[v.d]):=id rfl
@[simp] theorem aJw (i:Nat) (e:E):ex P cl σ (.ext i e)=O.from σ (ev P cl σ e).calm λv=>match rH v with|some (v',ds')=>put σ i v' λds=>some (ds++ds')|none=>.bad:=id rfl
@[simp] theorem aOd (i:Nat):ex P cl σ (.clr i)=put σ i (.cl .non) λ_=>some []:=id rfl
@[simp] theorem aEB (i:Nat) (k e:E):ex P cl σ (.setIx i k e)=O.from σ (ev P cl σ e) λv=>O.from σ (ev P cl σ k).calm λkv=>match kv.d with
 | .int k=>put σ i v λds=>(match ixN ds.length k with|some j=>some (ds.set j v.d)|none=>none)
 | _=>.bad:=id rfl
@[simp] theorem cS (e:E):ex P cl σ (.ret e)=O.from σ (ev P cl σ e) .ret:=id rfl
@[simp] theorem cG (c:E) (a b:Ss):ex P cl σ (.iff c a b)=O.from σ (tst P cl σ c) λk=>if k then exs P cl σ a else exs P cl σ b:=id rfl
theorem zW(t:T)(it:It)(b:Ss):ex P cl σ (.for t it b)=O.from σ (walk P cl σ it) λxs=>dP (λσ x=>O.from σ (bT σ x t) λσ'=>exs P cl σ' b) xs.1 (freeze σ xs.2):=rfl
@[simp] theorem aOe (i j:Nat):ex P cl σ (.mov i j)=(match σ[j]? with
 | some (.own pa ds)=>if i=j then .bad else .next ((σ.set j .x).set i (.own pa ds))|some (.sh pa d)=>.next (σ.set i (.sh (pa&&!noL d) d))|_=>.bad):=id rfl
@[simp] theorem aMR (i:Nat):ex P cl σ (.retv i)=(match σ[i]? with|some (.own pa ds)=>.ret ⟨.lst ds,true,pa,[]⟩|_=>O.from σ (bB σ i) .ret):=id rfl
@[simp] theorem aMf (i:Nat) (k:E):ex P cl σ (.pop none i (some k))=O.from σ ((ev P cl σ k).calm >>= λv=>match v.d with|.int k=>.iff (aK k) (.ok (some k))|_=>.bad) λk=>O.from σ (aDi σ i k) λr=>.next r.2:=id rfl
@[simp] theorem aZ:exs P cl σ .z=.next σ:=id rfl
@[simp] theorem aN (s:S) (ss:Ss):exs P cl σ (.k s ss)=(ex P cl σ s).on λσ'=>exs P cl σ' ss:=id rfl
end
theorem aH{P:Pg}{F:Fn}{ds:List D}(hF:P.fns[f]? = some F)(hl:ds.length=F.np){v:Vl}
 (h:exs P cl ((ds.map λd=>Sl.sh true d)++List.replicate (F.ns-F.np) Sl.x) F.body=.ret v):tN P cl f ds=.ok (v.d,v.fr,v.pa):=by unfold tN;rw[hF];simp only[hl,if_true,h]
theorem xI{f:Sg->Vl->O}:∀(xs:List Vl) (I:Nat->Sg->Prop) (σ:Sg),I 0 σ->(∀(i:Nat) (h:i<xs.length) (σ:Sg),I i σ->∃σ',f σ xs[i]=.next σ'/\I (i+1) σ')->∃σ',dP f xs σ=.next σ'/\I xs.length σ'
 | [],I,σ,h0,_=>⟨σ,rfl,h0⟩
 | x::xs,I,σ,h0,hs=>by
  obtain⟨σ1,e1,h1⟩:=hs 0 (by simp) σ h0;obtain⟨σ2,e2,h2⟩:=xI xs (λi=>I (i+1)) σ1 h1 λi h σ hI=>by have:=hs (i+1) (by simpa using h) σ hI;simpa using this
  refine⟨σ2,?_,by simpa using h2⟩;have e1:f σ x=.next σ1:=by simpa using e1
  unfold dP;rw[e1];exact e2
theorem pN{f:Vl->R (Option Vl)}{g:Vl->Vl}:∀{xs:List Vl},(∀x∈xs,f x=.ok (some (g x)))->eH f xs=.ok (xs.map g)
 | [],_=>rfl|x::xs,h=>by have h1:=h x As;have h2:=pN (f:=f) (g:=g) (xs:=xs) λy hy=>h y (Ak _ hy);show(f x >>= λy=>eH f xs >>= λys=>(match y with|some y=>R.ok (y::ys)|none=>R.ok ys))=_;rw[h1,h2];rfl
theorem aJx(n:Nat):(fL 0 (n:Int)).map Vl.cl=(List.range n).map λ(k:Nat)=>Vl.cl (.int (k:Int)):=by unfold fL;rw[Bj];simp
theorem aGF{caps:List Nat}{xs:List Vl}(g:Vl->Vl)(hw:walk P cl σ it=.ok (xs,al))(hl:xs.length<=lim)
 (hb:∀x∈xs,∃σ1,bT (List.replicate k .x++caps.map λi=>((freeze σ al)[i]?).getD .x) x t=.ok σ1/\ev P cl σ1 elt=.ok (g x)):ev P cl σ (.comp k caps t it .z elt)=.ok (fB k caps al (xs.map g)):=by
 rw[uG,hw,aA,pN (g:=g) λx hx=>by
  obtain⟨σ1,e1,e2⟩:=hb x hx;show(bT _ x t >>= λσ1=>_)=_;rw[e1];show(ev P cl σ1 elt >>= λy=>R.ok (some y))=_;rw[e2];rfl]
 show R.iff (decide (xs.length<=lim)) (R.ok (fB k caps al (List.map g xs)))=_;rw[Aj hl,gB]
theorem dR{xs:List Vl}(I:Nat->Sg->Prop)(hw:walk P cl σ it=.ok (xs,al))(h0:I 0 (freeze σ al))
 (hs:∀(i:Nat) (h:i<xs.length) (σ:Sg),I i σ->∃σ1 σ',bT σ xs[i] t=.ok σ1/\exs P cl σ1 b=.next σ'/\I (i+1) σ'):∃σ',ex P cl σ (.for t it b)=.next σ'/\I xs.length σ':=by rw[zW,hw];refine xI xs I _ h0 λi h σ hI=>?_;obtain⟨σ1,σ',e1,e2,h'⟩:=hs i h σ hI;refine⟨σ',?_,h'⟩;show O.from σ (bT σ xs[i] t) _=_;rw[e1];exact e2
theorem aGG:aK 0=true:=by decide
theorem hU{n:Nat}(hn:n<=1000000):aK (n:Int)=true:=by unfold aK;rw[bA,Am,Am];exact⟨Int.le_trans (b:=0) (by decide) (Int.natCast_nonneg n),Int.lt_of_le_of_lt (b:=1000000) (by omega) (by decide)⟩
theorem aAY(h0:0<=n)(hn:n<=1000000):aK n=true:=by have:=hU (n:=n.toNat) (by omega);rwa [Bs h0] at this
theorem cH{P:Pg}{cl:Caller}{σ:Sg}{a:E}{v:Vl}{n:Nat}(h:ev P cl σ a=.ok v)(hd:v.d=.int n)(hn:n<=1000000):walk P cl σ (.rng (.c (.int 0)) a)=.ok ((List.range n).map λ(k:Nat)=>Vl.cl (.int (k:Int)),[]):=by rw[pM,h,cF,aA,aA,hd,<-aJx];show R.iff (aK 0&&aK (n:Int)) _=_;rw[aGG,hU hn];rfl
theorem sA{vs:List Vl}(h:noLs (vs.map (·.d))=true):fB k caps al vs=⟨.lst (vs.map (·.d)),true,false,[]⟩:=by unfold fB;rw[if_pos h]
end Hp
end
noncomputable section
namespace HpS
open Hp PySem
def box(b:Str×Int):D:=.tup [.str b.1,.int b.2]
def aO(bs:List (Str×Int)):List D:=bs.map box
def aD(is:List Int):D:=.tup (is.map D.int)
structure aEC (bs:List (Str×Int)):Prop where
 few:bs.length<=5
 one:∀b∈bs,1<=b.2/\b.2<=7
 room:(bs.map λb=>b.2+1).foldl (·*·) 1<=24
def lP(bs:List (Str×Int)):Int:=(bs.map λb=>b.2+1).foldl (·*·) 1
theorem dS:∀is:List Int,noLs (is.map D.int)=true
 | []=>rfl|i::is=>by simp[noLs,noL,dS is]
@[simp] theorem aI (is:List Int):noL (aD is)=true:=by simp[aD,noL,dS]
@[simp] theorem jM (b:Str×Int):noL (box b)=true:=by simp[box,noL,noLs]
theorem iV:∀ss:List (List Int),noLs (ss.map aD)=true
 | []=>rfl|s::ss=>by simp[noLs,iV ss]
theorem xJ(bs:List (Str×Int)):items v (aO bs)=bs.map λb=>Vl.cl (box b):=by simp[items,aO,Vl.sub,Function.comp_def]
theorem uJ:∀(xs:List Int) (a:Int),1<=a->(∀x∈xs,1<=x)->a<=xs.foldl (·*·) a
 | [],a,_,_=>Int.le_refl _|x::xs,a,ha,h=>by
  have hx:=h x As;have h1:a<=a*x:=by have:=Int.mul_le_mul_of_nonneg_left hx (show 0<=a by omega);omega
  exact Int.le_trans h1 (uJ xs (a*x) (by omega) λy hy=>h y (Ak _ hy))
theorem uK(bs:List (Str×Int))(h:∀b∈bs,1<=b.2)(i:Nat):1<=lP (bs.take i)/\lP (bs.take i)<=lP bs:=by
 have pos:∀(l:List (Str×Int)),(∀b∈l,1<=b.2)->∀x∈l.map (λb=>b.2+1),1<=x:=λl hl x hx=>by obtain⟨b,hb,rfl⟩:=Av.mp hx;have:=hl b hb;omega
 have e:bs=bs.take i++bs.drop i:=(List.take_append_drop i bs).symm;have h1:1<=lP (bs.take i):=uJ _ 1 (by omega) (pos _ λb hb=>h b (List.mem_of_mem_take hb));refine⟨h1,?_⟩;have:lP bs=((bs.drop i).map λb=>b.2+1).foldl (·*·) (lP (bs.take i)):=by
  unfold lP
  conv=>lhs;rw[e,Bx,List.foldl_append]
 rw[this];exact uJ _ _ h1 (pos _ λb hb=>h b (List.mem_of_mem_drop hb))
theorem aCo{bs:List (Str×Int)}(h:i<bs.length):lP (bs.take (i+1))=lP (bs.take i)*(bs[i].2+1):=by rw[Cj h];unfold lP;rw[Bx,List.foldl_append];rfl
noncomputable def uL:Fn:=⟨1,6,
 (.k (.set (.n 1) (.lst (.k (.tup .z) .z)))
 (.k (.for (.t [2,3]) (.seq (.v 0))
  (.k (.set (.n 4) (.lst .z))
  (.k (.for (.n 5) (.seq (.v 1))
   (.k (.ext 4 (.comp 1 [5] (.n 0) (.rng (.c (.int 0)) (.op .Add (.v 3) (.c (.int 1)))) .z (.op .Add (.v 1) (.tup (.k (.v 0) .z)))))
   .z))
  (.k (.mov 1 4)
  .z))))
 (.k (.retv 1)
 .z)))⟩
def dM(b:List Int)(top:Int):List (List Int):=(List.range (top+1).toNat).map λ(h:Nat)=>b++[(h:Int)]
def iW(found:List (List Int))(top:Int):List (List Int):=found.flatMap λb=>dM b top
def aJ(bs:List (Str×Int)):List (List Int):=bs.foldl (λfound b=>iW found b.2) [[]]
theorem fC{bs:List (Str×Int)}(h:i<bs.length):aJ (bs.take (i+1))=iW (aJ (bs.take i)) bs[i].2:=by rw[Cj h];unfold aJ;rw[List.foldl_append];rfl
theorem zX(found:List (List Int))(top:Int):(iW found top).length=found.length*(top+1).toNat:=by
 induction found with
 | nil=>simp[iW]|cons b r ih=>unfold iW at ih ⊢;rw[List.flatMap_cons,lA,ih,lC,Nat.succ_mul];simp[dM];omega
theorem pO{bs:List (Str×Int)}(h:aEC bs):∀i,i<=bs.length->((aJ (bs.take i)).length:Int)=lP (bs.take i)/\∀s∈aJ (bs.take i),s.length=i
 | 0,_=>by simp[aJ,lP]|i+1,hi=>by
  have hi':i<bs.length:=by omega
  obtain⟨h1,h2⟩:=pO h i (by omega);obtain⟨g2,g3⟩:=h.one bs[i] (A7 hi');rw[fC hi',aCo hi',zX];refine⟨?_,λs hs=>?_⟩;rw[Int.natCast_mul,h1,Bs (by omega)];obtain⟨b,hb,hs⟩:=Dl.mp hs;obtain⟨k,_,rfl⟩:=Av.mp hs;rw[lA,h2 b hb];rfl
theorem aMg{bs:List (Str×Int)}(h:aEC bs)(i:Nat)(hi:i<=bs.length):(aJ (bs.take i)).length<=24:=by have h1:=(pO h i hi).1;have h2:=(uK bs (λb hb=>(h.one b hb).1) i).2;have h3:lP bs<=24:=h.room;omega
theorem nF{found:List (List Int)}(h:j<found.length):(found.take (j+1)).flatMap (λb=>dM b top)=(found.take j).flatMap (λb=>dM b top)++dM found[j] top:=by rw[Cj h,List.flatMap_append];simp
theorem aGH{found:List (List Int)}(j:Nat):((found.take j).flatMap λb=>dM b top).length<=(iW found top).length:=by
 have e:found=found.take j++found.drop j:=(List.take_append_drop j found).symm;unfold iW
 conv=>rhs;rw[e,List.flatMap_append,lA]
 omega
theorem lQ(ss:List (List Int)):items v (ss.map aD)=ss.map λs=>Vl.cl (aD s):=by simp[items,Vl.sub,Function.comp_def]
theorem aED(n:Nat){b:List Int}(ht:1<=top)(ht7:top<=7)(hb:b.length<=10) :
 ev P (call P n) [s0,s1,s2,.sh false (.int top),s4,.sh false (aD b)] (.comp 1 [5] (.n 0) (.rng (.c (.int 0)) (.op .Add (.v 3) (.c (.int 1)))) .z (.op .Add (.v 1) (.tup (.k (.v 0) .z))))=.ok ⟨.lst ((dM b top).map aD),true,false,[]⟩:=by
 have hw:walk P (call P n) [s0,s1,s2,.sh false (.int top),s4,.sh false (aD b)] (.rng (.c (.int 0)) (.op .Add (.v 3) (.c (.int 1))))=.ok ((List.range (top+1).toNat).map λ(k:Nat)=>Vl.cl (.int (k:Int)),[]):=by refine cH (v:=.cl (.int (top+1))) ?_ ?_ (by omega);simp[bB,Sl.val,opD,Vl.cl,noL];show D.int (top+1)=D.int ((top+1).toNat:Int);rw[Bs (by omega)]
 rw[aGF (λv=>match v.d with|.int k=>.cl (aD (b++[k]))|_=>.cl .non) hw];have e:(((List.range (top+1).toNat).map λ(k:Nat)=>Vl.cl (.int (k:Int))).map λv=>(match v.d with|.int k=>Vl.cl (aD (b++[k]))|_=>Vl.cl .non)).map (·.d)=(dM b top).map aD:=by simp[dM,Vl.cl,Function.comp_def]
 rw[sA (by rw[e];exact iV _),e];simp only[lM,Cu];unfold lim;omega;intro y hy;obtain⟨k,hk,rfl⟩:=Av.mp hy;have hl:b.length+1<=lim:=by unfold lim;omega
 refine⟨[.sh false (.int k),.sh false (aD b)],?_,?_⟩;simp[bT,Vl.cl,Vl.slot,freeze];simp[bB,Sl.val,Vl.cl,opD,kW,fA,cN,aD,noL,hl,dS]
theorem sB{P:Pg}(hF:P.fns[f]? = some uL)(n:Nat)(h:aEC bs):call P (n+1) f [.lst (aO bs)]=.ok (.lst ((aJ bs).map aD),true,false):=by
 obtain⟨σ',e,hI⟩:=dR (P:=P) (cl:=call P n) (σ:=[.sh true (.lst (aO bs)),.own false [.tup []],.x,.x,.x,.x]) (t:=.t [2,3]) (it:=.seq (.v 0))
  (b:=.k (.set (.n 4) (.lst .z)) (.k (.for (.n 5) (.seq (.v 1)) (.k (.ext 4 (.comp 1 [5] (.n 0) (.rng (.c (.int 0)) (.op .Add (.v 3) (.c (.int 1)))) .z (.op .Add (.v 1) (.tup (.k (.v 0) .z))))) .z)) (.k (.mov 1 4) .z)))
  (xs:=bs.map λb=>Vl.cl (box b)) (al:=[])
  (λi σ=>∃s2 s3 s4 s5,σ=[.sh true (.lst (aO bs)),.own false ((aJ (bs.take i)).map aD),s2,s3,s4,s5])
  (by simp[bB,Sl.val,xJ]) ⟨_,_,_,_,rfl⟩ (λi hi σ hσ=>by
   obtain⟨s2,s3,s4,s5,rfl⟩:=hσ;have hi':i<bs.length:=by simpa using hi
   obtain⟨g2,g3⟩:=h.one bs[i] (A7 hi');have hl24:=aMg h (i+1) hi';rw[fC hi'] at hl24;obtain⟨_,hlen⟩:=pO h i (by omega);have hfew:=h.few;obtain⟨σ2,e2,hJ⟩:=dR (P:=P) (cl:=call P n) (σ:=[.sh true (.lst (aO bs)),.own false ((aJ (bs.take i)).map aD),.sh false (.str bs[i].1),.sh false (.int bs[i].2),.own false [],s5]) (t:=.n 5) (it:=.seq (.v 1))
    (b:=.k (.ext 4 (.comp 1 [5] (.n 0) (.rng (.c (.int 0)) (.op .Add (.v 3) (.c (.int 1)))) .z (.op .Add (.v 1) (.tup (.k (.v 0) .z))))) .z)
    (xs:=(aJ (bs.take i)).map λs=>Vl.cl (aD s)) (al:=[1])
    (λj σ=>∃s5,σ=[.sh true (.lst (aO bs)),.sh false (.lst ((aJ (bs.take i)).map aD)),.sh false (.str bs[i].1),.sh false (.int bs[i].2),.own false ((((aJ (bs.take i)).take j).flatMap λb=>dM b bs[i].2).map aD),s5])
    (by simp[bB,Sl.val,lQ]) ⟨_,by simp[freeze,Sl.freeze];rfl⟩ (λj hj σ hσ=>by
     obtain⟨s5,rfl⟩:=hσ;have hj':j<(aJ (bs.take i)).length:=by simpa using hj
     have hb:(aJ (bs.take i))[j].length<=10:=by rw[hlen _ (A7 hj')];omega
     have hc:=aED (P:=P) n (s0:=.sh true (.lst (aO bs))) (s1:=.sh false (.lst ((aJ (bs.take i)).map aD))) (s2:=.sh false (.str bs[i].1)) (s4:=.own false ((((aJ (bs.take i)).take j).flatMap λb=>dM b bs[i].2).map aD)) (b:=(aJ (bs.take i))[j]) g2 g3 hb;have hle:=aGH (found:=aJ (bs.take i)) (top:=bs[i].2) (j+1);rw[nF hj',lA] at hle;have hlim:((((aJ (bs.take i)).take j).flatMap λb=>dM b bs[i].2).map aD++(dM (aJ (bs.take i))[j] bs[i].2).map aD).length<=lim:=by rw[lA,lM,lM];unfold lim;omega
     refine⟨[.sh true (.lst (aO bs)),.sh false (.lst ((aJ (bs.take i)).map aD)),.sh false (.str bs[i].1),.sh false (.int bs[i].2),.own false ((((aJ (bs.take i)).take j).flatMap λb=>dM b bs[i].2).map aD),.sh false (aD (aJ (bs.take i))[j])],
      [.sh true (.lst (aO bs)),.sh false (.lst ((aJ (bs.take i)).map aD)),.sh false (.str bs[i].1),.sh false (.int bs[i].2),.own false ((((aJ (bs.take i)).take (j+1)).flatMap λb=>dM b bs[i].2).map aD),.sh false (aD (aJ (bs.take i))[j])],?_,?_,⟨_,rfl⟩⟩
     simp[bT,Vl.cl,Vl.slot];rw[aN,aJw,hc,eQ,aT];show(match rH ⟨.lst ((dM (aJ (bs.take i))[j] bs[i].2).map aD),true,false,[]⟩ with|some (v',ds')=>put _ 4 v' λds=>some (ds++ds')|none=>.bad).on _=_;simp only[rH,iV,if_true];unfold put;simp only[freeze,kX,gS,gZ];rw[if_pos hlim];simp[nF hj'])
   obtain⟨s5',rfl⟩:=hJ;refine⟨[.sh true (.lst (aO bs)),.own false ((aJ (bs.take i)).map aD),.sh false (.str bs[i].1),.sh false (.int bs[i].2),s4,s5],[.sh true (.lst (aO bs)),.own false ((aJ (bs.take (i+1))).map aD),.sh false (.str bs[i].1),.sh false (.int bs[i].2),.x,s5'],?_,?_,⟨_,_,_,_,rfl⟩⟩;simp[bT,box,Vl.cl,Vl.sub,noL,Vl.slot];have et:(aJ (bs.take i)).take ((aJ (bs.take i)).map λs=>Vl.cl (aD s)).length=aJ (bs.take i):=by simp
   rw[et] at e2;simp[nB,fA,cN,bT,freeze,Vl.slot,e2,fC hi',iW])
 obtain⟨s2,s3,s4,s5,rfl⟩:=hI;have et:bs.take (bs.map λb=>Vl.cl (box b)).length=bs:=by simp
 rw[et] at e;refine aH (F:=uL) hF rfl (v:=⟨.lst ((aJ bs).map aD),true,false,[]⟩) ?_;simp[uL,nB,kW,fA,cN,bT,freeze,Vl.slot,e]
end HpS
end
noncomputable section
namespace Hp
open PySem (Str)
@[simp] theorem aMS (d:D):(⟨d,false,false,[]⟩:Vl)=.cl d:=id rfl
@[simp] theorem aX (d:D):(Vl.cl d).d=d:=id rfl
@[simp] theorem aOC (d:D):(Vl.cl d).fr=false:=id rfl
@[simp] theorem aHu (d:D):(Vl.cl d).pa=false:=id rfl
@[simp] theorem dU (d:D):(Vl.cl d).al=[]:=id rfl
@[simp] theorem cC (d:D):(Vl.cl d).slot=.sh false d:=by cases d <;> rfl
@[simp] theorem aMT (ds:List D) (pa:Bool) (al:List Nat):(⟨.lst ds,true,pa,al⟩:Vl).slot=.own pa ds:=id rfl
@[simp] theorem dW (i:Nat) (d:D):Sl.val i (.sh false d)=.ok (.cl d):=id rfl
@[simp] theorem aR (i:Nat) (pa:Bool) (k:Int):Sl.val i (.sh pa (.int k))=.ok (.cl (.int k)):=by cases pa <;> rfl
@[simp] theorem aMU (i:Nat) (pa:Bool) (k:Str):Sl.val i (.sh pa (.str k))=.ok (.cl (.str k)):=by cases pa <;> rfl
@[simp] theorem mS (i:Nat) (pa:Bool) (k:Bool):Sl.val i (.sh pa (.bl k))=.ok (.cl (.bl k)):=by cases pa <;> rfl
@[simp] theorem aMV (i:Nat) (pa:Bool):Sl.val i (.sh pa .non)=.ok (.cl .non):=by cases pa <;> rfl
@[simp] theorem dX (i:Nat) (ds:List D):Sl.val i (.sh true (.lst ds))=.ok ⟨.lst ds,false,true,[]⟩:=id rfl
theorem hZ(i:Nat)(pa:Bool)(h:noL d=true):Sl.val i (.sh pa d)=.ok (.cl d):=by unfold Sl.val;simp[h]
@[simp] theorem iA (i:Nat) (pa:Bool) (ds:List D):Sl.val i (.own pa ds)=.ok ⟨.lst ds,false,pa,[i]⟩:=id rfl
@[simp] theorem eF (σ:Sg) (v:Vl) (i:Nat):bT σ v (.n i)=.ok (σ.set i v.slot):=id rfl
@[simp] theorem bZ (σ:Sg):freeze σ []=σ:=id rfl
@[simp] theorem uM (b:Bool):eD (.cl (.bl b))=.ok b:=id rfl
@[simp] theorem bS (args:List Vl) (d:D):iH args (d,false,false)=.cl d:=id rfl
@[simp] theorem aJy (args:List Vl) (d:D):iH args (d,true,false)=⟨d,true,false,[]⟩:=id rfl
@[simp] theorem eO (a b:D):dD .Eq a b=eqD a b:=id rfl
@[simp] theorem zY (a b:D):dD .NotEq a b=(eqD a b).map (!·):=id rfl
@[simp] theorem mT (a b:Int):dD .Lt (.int a) (.int b)=some (decide (a<b)):=id rfl
@[simp] theorem pP (a b:Int):dD .Gt (.int a) (.int b)=some (decide (b<a)):=id rfl
@[simp] theorem uN (a b:Int):dD .LtE (.int a) (.int b)=some (decide (a<=b)):=id rfl
@[simp] theorem aJz (a b:Int):dD .GtE (.int a) (.int b)=some (decide (b<=a)):=id rfl
@[simp] theorem cU (a b:Int):eqD (.int a) (.int b)=some (a==b):=id rfl
@[simp] theorem uO (a b:Str):eqD (.str a) (.str b)=some (a==b):=id rfl
@[simp] theorem aOf (a b:Bool):eqD (.bl a) (.bl b)=some (a==b):=id rfl
@[simp] theorem aMW (P:Pg) (k:Int):isI [.tInt] P (.int k)=some true:=id rfl
@[simp] theorem aMh (P:Pg) (k:Int):isI [.tBool] P (.int k)=some false:=id rfl
@[simp] theorem aMX (P:Pg) (k:Str):isI [.tStr] P (.str k)=some true:=id rfl
@[simp] theorem aMY (P:Pg) (k:List D):isI [.tTuple] P (.tup k)=some true:=id rfl
@[simp] theorem aMZ (P:Pg) (k:List D):isI [.tList] P (.lst k)=some true:=id rfl
@[simp] theorem aOg (P:Pg) (k:Bool):isI [.tBool] P (.bl k)=some true:=id rfl
@[simp] theorem add_int (i j:Int):opD .Add (.cl (.int i)) (.cl (.int j))=.ok (.cl (.int (i+j))):=id rfl
@[simp] theorem sub_int (i j:Int):opD .Sub (.cl (.int i)) (.cl (.int j))=.ok (.cl (.int (i-j))):=id rfl
theorem mul_int(h:eZ i j=true):opD .Mult (.cl (.int i)) (.cl (.int j))=.ok (.cl (.int (i*j))):=by show R.iff (eZ i j) _=_;rw[h];rfl
theorem aAZ(h:aAw j=true):opD .FloorDiv (.cl (.int i)) (.cl (.int j))=.ok (.cl (.int (i / j))):=by show R.iff (aAw j) _=_;rw[h];rfl
theorem jN(h:0<j):opD .Mod (.cl (.int i)) (.cl (.int j))=.ok (.cl (.int (i % j))):=by show R.iff (decide (0<j)) _=_;rw[Aj h];rfl
@[simp] theorem cA (ds:List D) (fr pa:Bool) (al:List Nat):biD .len [⟨.lst ds,fr,pa,al⟩]=.ok (.cl (.int ds.length)):=id rfl
@[simp] theorem uP (ds:List D):biD .len [.cl (.tup ds)]=.ok (.cl (.int ds.length)):=id rfl
@[simp] theorem aMi (ds:List D):biD .len [.cl (.lst ds)]=.ok (.cl (.int ds.length)):=id rfl
end Hp
end
noncomputable section
namespace HpS
open Hp PySem
section
variable {P:Pg} {cl:Caller} {σ σ':Sg}
theorem cs(h:ex P cl σ s=.next σ')(r:exs P cl σ' ss=o):exs P cl σ (.k s ss)=o:=by rw[aN,h,iT,r]
theorem bV(h:ev P cl σ e=.ok (.cl d)):ex P cl σ (.set (.n i) e)=.next (σ.set i (.sh false d)):=by rw[cD,h,aT,dU,bZ,eF,aT,cC]
theorem bD(h:ev P cl σ e=.ok v):exs P cl σ (.k (.ret e) ss)=.ret v:=by rw[aN,cS,h];rfl
theorem bQ(h:tst P cl σ c=.ok false):ex P cl σ (.iff c a .z)=.next σ:=by rw[cG,h];rfl
theorem bX(h:tst P cl σ c=.ok true)(r:exs P cl σ a=.ret v):exs P cl σ (.k (.iff c a b) ss)=.ret v:=by rw[aN,cG,h,aT,if_pos rfl,r];rfl
theorem aM(h:ev P cl σ a=.ok x)(k:ev P cl σ b=.ok y)(e:bK x y=.ok z):ev P cl σ (.idx a b)=.ok z:=by rw[cR,h,aA,k,aA,e]
theorem bH(h:ev P cl σ a=.ok (.cl (.str w)))(q:(w==x)=b):tst P cl σ (.cmp .Eq a (.c (.str x)))=.ok b:=by rw[bY,h,aA,cF,aA,aX,aX,eO,uO,q]
theorem aMj(h:ev P cl σ a=.ok (.cl (.str w)))(q:(w==x)=b):ev P cl σ (.cmp .Eq a (.c (.str x)))=.ok (.cl (.bl b)):=by rw[uF,h,aA,cF,aA,aX,aX,eO,uO,q]
theorem bE{x y z:Vl}(h1:ev P cl σ a=.ok x)(h2:ev P cl σ b=.ok y)(h3:ev P cl σ c=.ok z)(hc:cl f [x.d,y.d,z.d]=.ok (d,false,false)):ev P cl σ (.call f (.k a (.k b (.k c .z))))=.ok (.cl d):=by
 have e:evs P cl σ (.k a (.k b (.k c .z)))=.ok [x,y,z]:=by rw[aB,h1,aA,aB,h2,aA,aB,h3,aA,aE];rfl
 rw[aU,e,aA,show [x,y,z].map (·.d)=[x.d,y.d,z.d] from rfl,hc];rfl
theorem v0_(h:noL d=true):ev P cl (.sh true d::r) (.v 0)=.ok (.cl d):=hZ 0 true h
theorem v1_(h:noL d=true):ev P cl (s::.sh true d::r) (.v 1)=.ok (.cl d):=hZ 1 true h
theorem v2_(h:noL d=true):ev P cl (s::t::.sh true d::r) (.v 2)=.ok (.cl d):=hZ 2 true h
theorem aHv(h:tst P cl σ t=.ok k)(r:(if k then ev P cl σ a else ev P cl σ b)=.ok v):ev P cl σ (.ife t a b)=.ok v:=by rw[zV,h,aA,r]
theorem aMk(h:ev P cl σ a=.ok (.cl (.bl k))):ev P cl σ (.nt a)=.ok (.cl (.bl !k)):=by rw[aMe,h];rfl
theorem aGI(h1:ev P cl σ a=.ok (.cl (.bl x)))(h2:ev P cl σ b=.ok (.cl (.bl y))):ev P cl σ (.an a b)=.ok (.cl (.bl (x&&y))):=by rw[aHt,h1,aA];cases x;rfl;exact h2
theorem aHw(h1:ev P cl σ a=.ok (.cl (.bl x)))(h2:ev P cl σ b=.ok (.cl (.bl y))):ev P cl σ (.orr a b)=.ok (.cl (.bl (x||y))):=by rw[aJu,h1,aA];cases x;exact h2;rfl
theorem dH(h:ev P cl σ a=.ok x)(k:ev P cl σ b=.ok y)(e:opD o x y=.ok z):ev P cl σ (.op o a b)=.ok z:=by rw[cT,h,aA,k,aA,e]
theorem pQ{x y:Vl}(h:ev P cl σ a=.ok x)(g:ev P cl σ b=.ok y)(e:dD o x.d y.d=some k):ev P cl σ (.cmp o a b)=.ok (.cl (.bl k)):=by rw[uF,h,aA,g,aA,e]
theorem cX(h:ev P cl σ a=.ok x)(e:biD b [x]=.ok z):ev P cl σ (.bi b (.k a .z))=.ok z:=by
 have h2:evs P cl σ (.k a .z)=.ok [x]:=by rw[aB,h];rfl
 rw[fP,h2,aA,e]
end
end HpS
end
noncomputable section
namespace Hp
open PySem (Str)
theorem eR{α:Type}{g:α->D}(ng:∀t,noL (g t)=true):∀ts:List α,noLs (ts.map g)=true
 | []=>rfl|t::ts=>by rw[mC,noLs,ng t,eR ng ts];rfl
theorem pR{α:Type}{F:Vl->R (Option Vl)}{f:α->Vl}{g:α->D}{p:α->Bool}:∀{ts:List α},(∀t∈ts,F (f t)=.ok (if p t then some (.cl (g t)) else none))->eH F (ts.map f)=.ok ((ts.filter p).map λt=>.cl (g t))
 | [],_=>rfl|t::ts,h=>by
  have h1:=h t As;have h2:=pR (F:=F) (f:=f) (g:=g) (p:=p) (ts:=ts) λy hy=>h y (Ak _ hy);show(F (f t) >>= λy=>eH F (ts.map f) >>= λys=>(match y with|some y=>R.ok (y::ys)|none=>R.ok ys))=_;rw[h1,h2];cases hp:p t with
  | true=>rw[List.filter_cons_of_pos hp];rfl|false=>rw[List.filter_cons_of_neg (by rw[hp];exact bN)];rfl
theorem aBa{α:Type}{g:α->D}(ng:∀t,noL (g t)=true){k:Nat}{caps al:List Nat}(ts:List α):fB k caps al (ts.map λt=>Vl.cl (g t))=⟨.lst (ts.map g),true,false,[]⟩:=by
 have e:(ts.map λt=>Vl.cl (g t)).map (·.d)=ts.map g:=by rw[Bj];rfl
 rw[sA (by rw[e];exact eR ng ts),e]
theorem mU{P:Pg}{cl:Caller}{σ:Sg}{k:Nat}{caps al:List Nat}{T:T}{it:It}{elt:E}{α:Type}{ts:List α}(f:α->Vl)(g:α->D)(ng:∀t,noL (g t)=true)(hw:walk P cl σ it=.ok (ts.map f,al))(hl:ts.length<=lim)
 (hb:∀t∈ts,∃σ1,bT (List.replicate k .x++caps.map λi=>((freeze σ al)[i]?).getD .x) (f t) T=.ok σ1/\ev P cl σ1 elt=.ok (.cl (g t))):ev P cl σ (.comp k caps T it .z elt)=.ok ⟨.lst (ts.map g),true,false,[]⟩:=by
 rw[uG,hw,aA,pR (f:=f) (g:=g) (p:=λ_=>true) λt ht=>by
  obtain⟨σ1,e1,e2⟩:=hb t ht;show(bT _ (f t) T >>= λσ1=>_)=_;rw[e1];show(ev P cl σ1 elt >>= λy=>R.ok (some y))=_;rw[e2];rfl]
 have hf:ts.filter (λ_=>true)=ts:=List.filter_eq_self.mpr λ_ _=>rfl;have hl2:decide ((ts.map f).length<=lim)=true:=Aj (by rw[lM];exact hl);show R.iff (decide ((ts.map f).length<=lim)) (R.ok (fB k caps al ((ts.filter λ_=>true).map λt=>Vl.cl (g t))))=_;rw[hf,hl2,gB,aBa ng]
theorem aJA{P:Pg}{cl:Caller}{σ:Sg}{k:Nat}{caps al:List Nat}{T:T}{it:It}{c elt:E}{α:Type}{ts:List α}(f:α->Vl)(g:α->D)(p:α->Bool)(ng:∀t,noL (g t)=true)(hw:walk P cl σ it=.ok (ts.map f,al))(hl:ts.length<=lim)
 (hb:∀t∈ts,∃σ1,bT (List.replicate k .x++caps.map λi=>((freeze σ al)[i]?).getD .x) (f t) T=.ok σ1/\tst P cl σ1 c=.ok (p t)/\ev P cl σ1 elt=.ok (.cl (g t))):ev P cl σ (.comp k caps T it (.k c .z) elt)=.ok ⟨.lst ((ts.filter p).map g),true,false,[]⟩:=by
 rw[uG,hw,aA,pR (f:=f) (g:=g) (p:=p) λt ht=>by
  obtain⟨σ1,e1,e2,e3⟩:=hb t ht;show(bT _ (f t) T >>= λσ1=>_)=_;rw[e1];show((tsts P cl σ1 (.k c .z)).calm >>= λk=>if k then (ev P cl σ1 elt >>= λy=>R.ok (some y)) else R.ok none)=_;rw[aCn,e2,aA];cases hp:p t with
  | true=>rw[if_pos rfl,aEz,eQ,aA,if_pos rfl,e3];rfl|false=>rfl]
 have hl2:decide ((ts.map f).length<=lim)=true:=Aj (by rw[lM];exact hl);show R.iff (decide ((ts.map f).length<=lim)) (R.ok (fB k caps al ((ts.filter p).map λt=>Vl.cl (g t))))=_;rw[hl2,gB,aBa ng]
theorem xK{α:Type}(a b:α->D):∀ts:List α,iI (ts.map a) (ts.map b)=ts.map λt=>.tup [a t,b t]
 | []=>rfl|t::ts=>by rw[mC,mC,iI,xK a b ts];rfl
theorem mV{α:Type}{v:Vl}{g:α->D}(ng:∀t,noL (g t)=true)(ts:List α):items v (ts.map g)=ts.map λt=>Vl.cl (g t):=by unfold items;rw[Bj];refine Cm λt _=>?_;show Vl.sub v (g t)=_;unfold Vl.sub;rw[if_pos (ng t)]
theorem lR(ha:noL a=true)(hb:noL b=true):noL (.tup [a,b])=true:=by simp[noL,noLs,ha,hb]
theorem aBb(ha:noL a=true)(hb:noL b=true):bT (s0::s1::r) (.cl (.tup [a,b])) (.t [0,1])=.ok (.sh false a::.sh false b::r):=by
 have h1:Vl.sub (.cl (.tup [a,b])) a=.cl a:=by unfold Vl.sub;rw[if_pos ha]
 have h2:Vl.sub (.cl (.tup [a,b])) b=.cl b:=by unfold Vl.sub;rw[if_pos hb]
 unfold bT;simp only[aX,lC,lN,if_true,Bd,D9,B2,List.foldl_nil,h1,h2,cC,lS,lZ]
@[simp] theorem aNa (a b:E):ev P cl σ (.lzip a b)=(ev P cl σ a >>= λx=>ev P cl σ b >>= λy=>match gQ x.d,gQ y.d with
 | some as,some bs=>.iff (decide (as.length<=lim)) (.ok (aHi x y (iI as bs)))|_,_=>.bad):=id rfl
end Hp
end
noncomputable section
namespace Hp
open PySem (Str Operator CmpOp)
section
variable {P:Pg} {cl:Caller} {σ:Sg}
@[simp] theorem aNb {α β:Type} (a:D) (f:α->R β):((R.exc a:R α) >>= f)=.exc a:=id rfl
@[simp] theorem aNc {α:Type} (a:D) (f:α->O):O.from σ (.exc a) f=.exc a σ:=id rfl
@[simp] theorem aOD (x:D) (f:Sg->O):(O.exc x σ).on f=.exc x σ:=id rfl
@[simp] theorem aOh (c:Str) (k:Bool) (es:Es):ex P cl σ (.rse c k es)=O.from σ (evs P cl σ es) λvs=>if k then aDj c vs σ else .exc (.err c []) σ:=id rfl
@[simp] theorem zZ (b:Ss) (c1 c2:Str) (i j z:Nat):ex P cl σ (.tryF b c1 c2 i j z)=(match exs P cl σ b with
 | .exc x σ'=>aDk P c1 c2 i j z x σ'|o=>o):=id rfl
@[simp] theorem aOi (a:E) (cs:List Cl):ev P cl σ (.isx a cs)=(ev P cl σ a >>= λx=>match isX cs P x.d with|some k=>.ok (.cl (.bl k))|none=>.bad):=id rfl
@[simp] theorem aNd (a:E) (cs:List Cl):tst P cl σ (.isx a cs)=(ev P cl σ a >>= λx=>match isX cs P x.d with|some k=>.ok k|none=>.bad):=id rfl
@[simp] theorem aOE (e:E):ex P cl σ (.ex e)=O.from σ (ev P cl σ e) λ_=>.next σ:=id rfl
@[simp] theorem aOj (i:Nat) (k e:E):ex P cl σ (.ins i k e)=O.from σ (ev P cl σ k).calm λkv=>O.from σ (ev P cl σ e).calm λv=>match kv.d with|.int k=>if 0<=k/\k<1000000 then put σ i v λds=>some (ds.take k.toNat++v.d::ds.drop k.toNat) else .bad|_=>.bad:=id rfl
@[simp] theorem aNe:ev P cl σ (.dic .z .z)=.ok (.cl (.dic [])):=id rfl
end
theorem xL{P:Pg}{F:Fn}{ds:List D}(hF:P.fns[f]? = some F)(hl:ds.length=F.np)
 (h:exs P cl ((ds.map λd=>Sl.sh true d)++List.replicate (F.ns-F.np) Sl.x) F.body=.exc x σ):tN P cl f ds=.exc x:=by unfold tN;rw[hF];simp only[hl,if_true,h]
theorem aBc{f:Sg->Vl->O}:∀(m:Nat) (xs:List Vl) (I:Nat->Sg->Prop) (σ:Sg),I 0 σ->(hm:m<xs.length)->(∀(i:Nat) (h:i<m) (σ:Sg),I i σ->∃σ',f σ (xs[i]'(Nat.lt_trans h hm))=.next σ'/\I (i+1) σ')->(∀σ,I m σ->∃σ',f σ xs[m]=.exc e σ')->∃σ',dP f xs σ=.exc e σ'
 | _,[],_,_,_,hm,_,_=>absurd hm (by simp)|0,x::xs,I,σ,h0,_,_,hx=>by obtain⟨σ',e1⟩:=hx σ h0;have e1:f σ x=.exc e σ':=e1;exact⟨σ',by unfold dP;rw[e1]⟩|m+1,x::xs,I,σ,h0,hm,hs,hx=>by obtain⟨σ1,e1,h1⟩:=hs 0 (by omega) σ h0;have e1:f σ x=.next σ1:=e1;obtain⟨σ2,e2⟩:=aBc m xs (λi=>I (i+1)) σ1 h1 (by simpa using hm) (λi h σ hI=>by simpa using hs (i+1) (by omega) σ hI) (λσ hI=>by simpa using hx σ hI);exact⟨σ2,by unfold dP;rw[e1];exact e2⟩
theorem aGJ{xs:List Vl}(m:Nat)(I:Nat->Sg->Prop)(hw:walk P cl σ it=.ok (xs,al))(h0:I 0 (freeze σ al))(hm:m<xs.length)
 (hs:∀(i:Nat) (h:i<m) (σ:Sg),I i σ->∃σ1 σ',bT σ (xs[i]'(Nat.lt_trans h hm)) t=.ok σ1/\exs P cl σ1 b=.next σ'/\I (i+1) σ') (hx:∀σ,I m σ->∃σ1 σ',bT σ xs[m] t=.ok σ1/\exs P cl σ1 b=.exc e σ'):∃σ',ex P cl σ (.for t it b)=.exc e σ':=by rw[zW,hw];refine aBc m xs I _ h0 hm (λi h σ hI=>?_) λσ hI=>?_;obtain⟨σ1,σ',e1,e2,h'⟩:=hs i h σ hI;refine⟨σ',?_,h'⟩;show O.from σ (bT σ _ t) _=_;rw[e1];exact e2;obtain⟨σ1,σ',e1,e2⟩:=hx σ hI;refine⟨σ',?_⟩;show O.from σ (bT σ _ t) _=_;rw[e1];exact e2
section
variable {P:Pg} {cl:Caller} {σ:Sg}
@[simp] theorem uQ (a l:E):ev P cl σ (.sli a (.k l .z) .z)=(ev P cl σ a >>= λx=>ev P cl σ l >>= λl=>match l.d with|.int l=>.iff (aK l) (eG x (some l) none)|_=>.bad):=by
 show(ev P cl σ a >>= λx=>evs P cl σ (.k l .z) >>= λl=>evs P cl σ .z >>= λh=>_)=_;cases ev P cl σ a with
 | ok x=>
  show((ev P cl σ l >>= λx=>evs P cl σ .z >>= λxs=>R.ok (x::xs)) >>= λl=>_)=(ev P cl σ l >>= λl=>_)
  cases ev P cl σ l <;> rfl
 | exc e=>rfl|bad=>rfl
@[simp] theorem aNf (a l h:E):ev P cl σ (.sli a (.k l .z) (.k h .z))=(ev P cl σ a >>= λx=>ev P cl σ l >>= λl=>ev P cl σ h >>= λh=>match l.d,h.d with|.int l,.int h=>.iff (aK l&&aK h) (eG x (some l) (some h))|_,_=>.bad):=by
 show(ev P cl σ a >>= λx=>evs P cl σ (.k l .z) >>= λl=>evs P cl σ (.k h .z) >>= λh=>_)=_;cases ev P cl σ a with
 | ok x=>
  show((ev P cl σ l >>= λx=>evs P cl σ .z >>= λxs=>R.ok (x::xs)) >>= λl=>_)=(ev P cl σ l >>= λl=>_)
  cases ev P cl σ l with
  | ok l=>
   show((ev P cl σ h >>= λx=>evs P cl σ .z >>= λxs=>R.ok (x::xs)) >>= λh=>_)=(ev P cl σ h >>= λh=>_)
   cases ev P cl σ h <;> rfl
  | exc e=>rfl|bad=>rfl
 | exc e=>rfl|bad=>rfl
end
theorem dA(h:k<n):ixN n (k:Int)=some k:=by unfold ixN;rw[if_pos (Int.natCast_nonneg k),if_pos (by omega)];simp
theorem aBd{v:Vl}{is:List Int}(hv:v.d=.lst (is.map D.int))(h:k<is.length):bK v (.cl (.int (k:Int)))=.ok (.cl (.int (is.getD k 0))):=by
 unfold bK;rw[hv];have hl:(is.map D.int).length=is.length:=by simp
 have e:(is.map D.int)[k]? = some (.int (is.getD k 0)):=by simp[h]
 simp only[aX,hl,dA h,e,Vl.sub,noL,if_true]
def num(c:Int):Nat->Int
 | 0=>c % 2147483647+48271|k+1=>(num c k*num c k+48271*num c k+(k:Int)) % 2147483647
end Hp
end
noncomputable section
namespace HpS
open Hp PySem
inductive Sm where
 | num (n:Int)|box (k:Nat)|aft (k:Nat)|two (p:Bool) (a b:Sm)
def qX(p:Bool):Str:=if p then "plus" else "minus"
noncomputable def Sm.d:Sm->D
 | .num n=>.tup [.str "number",.int n]|.box k=>.tup [.str "box",.int k]|.aft k=>.tup [.str "after",.int k]|.two p a b=>.tup [.str (qX p),a.d,b.d]
def Sm.sz:Sm->Nat
 | .two _ a b=>1+a.sz+b.sz|_=>1
def Sm.val(ah be:List Int):Sm->Int
 | .num n=>n|.box k=>ah.getD k 0|.aft k=>be.getD k 0|.two p a b=>if p then a.val ah be+b.val ah be else a.val ah be-b.val ah be
def Sm.wf(c:Nat)(pl:Bool):Sm->Prop
 | .num n=>0<=n/\n<=99|.box k=>k<c|.aft k=>k<c/\pl=false|.two _ a b=>a.wf c pl/\b.wf c pl
theorem Sm.noL:∀s:Sm,Hp.noL s.d=true
 | .num _=>rfl|.box _=>rfl|.aft _=>rfl|.two _ a b=>by simp[Sm.d,Hp.noL,noLs,a.noL,b.noL]
theorem bR(h:Hp.noL d=true):Vl.sub v d=.cl d:=by unfold Vl.sub;rw[if_pos h]
theorem dL(x:D)(r:List D)(h:Hp.noL x=true):bK (.cl (.tup (x::r))) (.cl (.int 0))=.ok (.cl x):=by have:ixN (x::r).length 0=some 0:=dA (k:=0) (by simp);unfold bK;simp only[aX,this,gZ,bR h]
theorem gK(x y:D)(r:List D)(h:Hp.noL y=true):bK (.cl (.tup (x::y::r))) (.cl (.int 1))=.ok (.cl y):=by have:ixN (x::y::r).length 1=some 1:=dA (k:=1) (by simp);unfold bK;simp only[aX,this,gZ,gS,bR h]
theorem uR(x y z:D)(r:List D)(h:Hp.noL z=true):bK (.cl (.tup (x::y::z::r))) (.cl (.int 2))=.ok (.cl z):=by have:ixN (x::y::z::r).length 2=some 2:=dA (k:=2) (by simp);unfold bK;simp only[aX,this,gZ,gS,bR h]
theorem fD{is:List Int}(h:k<is.length):bK (.cl (aD is)) (.cl (.int (k:Int)))=.ok (.cl (.int (is.getD k 0))):=by
 unfold bK aD;have hl:(is.map D.int).length=is.length:=by simp
 have e:(is.map D.int)[k]? = some (.int (is.getD k 0)):=by simp[h]
 simp only[aX,hl,dA h,e,Vl.sub,Hp.noL,if_true]
noncomputable def mW(f:Nat):Fn:=⟨3,6,
 (.k (.set (.n 3) (.idx (.v 0) (.c (.int 0))))
 (.k (.iff (.cmp .Eq (.v 3) (.c (.str "number")))
  (.k (.ret (.idx (.v 0) (.c (.int 1))))
  .z)
  .z)
 (.k (.iff (.cmp .Eq (.v 3) (.c (.str "box")))
  (.k (.ret (.idx (.v 1) (.idx (.v 0) (.c (.int 1)))))
  .z)
  .z)
 (.k (.iff (.cmp .Eq (.v 3) (.c (.str "after")))
  (.k (.ret (.idx (.v 2) (.idx (.v 0) (.c (.int 1)))))
  .z)
  .z)
 (.k (.set (.n 4) (.call f (.k (.idx (.v 0) (.c (.int 1))) (.k (.v 1) (.k (.v 2) .z)))))
 (.k (.set (.n 5) (.call f (.k (.idx (.v 0) (.c (.int 2))) (.k (.v 1) (.k (.v 2) .z)))))
 (.k (.ret (.ife (.cmp .Eq (.v 3) (.c (.str "plus"))) (.op .Add (.v 4) (.v 5)) (.op .Sub (.v 4) (.v 5))))
 .z)))))))⟩
theorem aMl:(("number" : Str) == "number")=true:=by decide +kernel
theorem aMm:(("box" : Str) == "number")=false:=by decide +kernel
theorem aMn:(("box" : Str) == "box")=true:=by decide +kernel
theorem aMo:(("after" : Str) == "number")=false:=by decide +kernel
theorem aMp:(("after" : Str) == "box")=false:=by decide +kernel
theorem aMq:(("after" : Str) == "after")=true:=by decide +kernel
theorem aMr:∀p,(qX p == "number")=false:=by decide +kernel
theorem aMs:∀p,(qX p == "box")=false:=by decide +kernel
theorem aMt:∀p,(qX p == "after")=false:=by decide +kernel
theorem aOk:∀p,(qX p == "plus")=p:=by decide +kernel
theorem iX{P:Pg}(hF:P.fns[f]? = some (mW f)){ah be:List Int}(ha:ah.length=c)(hb:be.length=c)(hn:Hp.noL bd=true)(hbd:pl=false->bd=aD be) :
 ∀(s:Sm) (n:Nat),s.wf c pl->call P (n+s.sz) f [s.d,aD ah,bd]=.ok (.int (s.val ah be),false,false)
 | .num k,n,w=>by refine aH (F:=mW f) hF rfl (v:=.cl (.int k)) ?_;exact cs (bV (aM (v0_ rfl) rfl (dL _ _ rfl))) (bX (bH rfl aMl) (bD (aM (v0_ rfl) rfl (gK _ _ _ rfl))))|.box k,n,w=>by have w:k<c:=w;refine aH (F:=mW f) hF rfl (v:=.cl (.int (ah.getD k 0))) ?_;exact cs (bV (aM (v0_ rfl) rfl (dL _ _ rfl))) (cs (bQ (bH rfl aMm)) (bX (bH rfl aMn) (bD (aM (v1_ (aI _)) (aM (v0_ rfl) rfl (gK _ _ _ rfl)) (fD (by omega))))))|.aft k,n,w=>by obtain⟨w1,w2⟩:k<c/\pl=false:=w;have e:=hbd w2;subst e;refine aH (F:=mW f) hF rfl (v:=.cl (.int (be.getD k 0))) ?_;exact cs (bV (aM (v0_ rfl) rfl (dL _ _ rfl))) (cs (bQ (bH rfl aMo)) (cs (bQ (bH rfl aMp)) (bX (bH rfl aMq) (bD (aM (v2_ (aI _)) (aM (v0_ rfl) rfl (gK _ _ _ rfl)) (fD (by omega)))))))|.two p a b,n,w=>by
  obtain⟨w1,w2⟩:a.wf c pl/\b.wf c pl:=w;have c1:=iX hF ha hb hn hbd a (n+b.sz) w1;have c2:=iX hF ha hb hn hbd b (n+a.sz) w2;rw[show n+b.sz+a.sz=n+a.sz+b.sz by omega] at c1;have e:n+Sm.sz (.two p a b)=n+a.sz+b.sz+1:=by show n+(1+a.sz+b.sz)=_;omega
  rw[e];refine aH (F:=mW f) hF rfl (v:=.cl (.int (Sm.val ah be (.two p a b)))) ?_;refine cs (bV (aM (v0_ (Sm.noL _)) rfl (dL _ _ rfl))) (cs (bQ (bH rfl (aMr p))) (cs (bQ (bH rfl (aMs p))) (cs (bQ (bH rfl (aMt p))) (cs (bV (bE (aM (v0_ (Sm.noL _)) rfl (gK _ _ _ a.noL)) (v1_ (aI _)) (v2_ hn) c1)) (cs (bV (bE (aM (v0_ (Sm.noL _)) rfl (uR _ _ _ _ b.noL)) (v1_ (aI _)) (v2_ hn) c2)) (bD (aHv (bH rfl (aOk p)) ?_)))))));cases p <;> rfl
inductive Cn where
 | yes|cmp (i:Bool) (a b:Sm)|nt (c:Cn)|two (p:Bool) (a b:Cn)
def pS(i:Bool):Str:=if i then "is" else "less"
def iY(p:Bool):Str:=if p then "both" else "either"
noncomputable def Cn.d:Cn->D
 | .yes=>.tup [.str "yes"]|.cmp i a b=>.tup [.str (pS i),a.d,b.d]|.nt c=>.tup [.str "not",c.d]|.two p a b=>.tup [.str (iY p),a.d,b.d]
def Cn.sz:Cn->Nat
 | .yes=>1|.cmp _ a b=>1+a.sz+b.sz|.nt c=>1+c.sz|.two _ a b=>1+a.sz+b.sz
def Cn.hold(ah be:List Int):Cn->Bool
 | .yes=>true|.cmp i a b=>if i then a.val ah be==b.val ah be else decide (a.val ah be<b.val ah be)|.nt c=>!c.hold ah be|.two p a b=>if p then a.hold ah be&&b.hold ah be else a.hold ah be||b.hold ah be
def Cn.wf(c:Nat)(pl:Bool):Cn->Prop
 | .yes=>True|.cmp _ a b=>a.wf c pl/\b.wf c pl|.nt x=>x.wf c pl|.two _ a b=>a.wf c pl/\b.wf c pl
theorem Cn.noL:∀s:Cn,Hp.noL s.d=true
 | .yes=>rfl|.cmp _ a b=>by simp[Cn.d,Hp.noL,noLs,a.noL,b.noL]|.nt c=>by simp[Cn.d,Hp.noL,noLs,c.noL]|.two _ a b=>by simp[Cn.d,Hp.noL,noLs,a.noL,b.noL]
noncomputable def pT(v f:Nat):Fn:=⟨3,6,
 (.k (.set (.n 3) (.idx (.v 0) (.c (.int 0))))
 (.k (.iff (.cmp .Eq (.v 3) (.c (.str "yes")))
  (.k (.ret (.c (.bl true)))
  .z)
  .z)
 (.k (.iff (.cmp .Eq (.v 3) (.c (.str "not")))
  (.k (.ret (.nt (.call f (.k (.idx (.v 0) (.c (.int 1))) (.k (.v 1) (.k (.v 2) .z))))))
  .z)
  .z)
 (.k (.iff (.cmp .Eq (.v 3) (.c (.str "both")))
  (.k (.ret (.an (.call f (.k (.idx (.v 0) (.c (.int 1))) (.k (.v 1) (.k (.v 2) .z)))) (.call f (.k (.idx (.v 0) (.c (.int 2))) (.k (.v 1) (.k (.v 2) .z))))))
  .z)
  .z)
 (.k (.iff (.cmp .Eq (.v 3) (.c (.str "either")))
  (.k (.ret (.orr (.call f (.k (.idx (.v 0) (.c (.int 1))) (.k (.v 1) (.k (.v 2) .z)))) (.call f (.k (.idx (.v 0) (.c (.int 2))) (.k (.v 1) (.k (.v 2) .z))))))
  .z)
  .z)
 (.k (.set (.n 4) (.call v (.k (.idx (.v 0) (.c (.int 1))) (.k (.v 1) (.k (.v 2) .z)))))
 (.k (.set (.n 5) (.call v (.k (.idx (.v 0) (.c (.int 2))) (.k (.v 1) (.k (.v 2) .z)))))
 (.k (.ret (.ife (.cmp .Eq (.v 3) (.c (.str "is"))) (.cmp .Eq (.v 4) (.v 5)) (.cmp .Lt (.v 4) (.v 5))))
 .z))))))))⟩
theorem aMu:(("yes" : Str) == "yes")=true:=by decide +kernel
theorem aMv:(("not" : Str) == "yes")=false:=by decide +kernel
theorem aMw:(("not" : Str) == "not")=true:=by decide +kernel
theorem aMx:∀p,(pS p == "yes")=false:=by decide +kernel
theorem aMy:∀p,(pS p == "not")=false:=by decide +kernel
theorem aOl:∀p,(pS p == "both")=false:=by decide +kernel
theorem aOm:∀p,(pS p == "either")=false:=by decide +kernel
theorem aJB:∀p,(pS p == "is")=p:=by decide +kernel
theorem aMz:∀p,(iY p == "yes")=false:=by decide +kernel
theorem aMA:∀p,(iY p == "not")=false:=by decide +kernel
theorem aGK:∀p,(iY p == "both")=p:=by decide +kernel
theorem aOn:∀p,(iY p == "either")=!p:=by decide +kernel
theorem lT{P:Pg}(hV:P.fns[v]? = some (mW v))(hF:P.fns[f]? = some (pT v f)){ah be:List Int}(ha:ah.length=c)(hb:be.length=c)(hn:Hp.noL bd=true)(hbd:pl=false->bd=aD be) :
 ∀(s:Cn) (n:Nat),s.wf c pl->call P (n+s.sz) f [s.d,aD ah,bd]=.ok (.bl (s.hold ah be),false,false)
 | .yes,n,w=>by refine aH (F:=pT v f) hF rfl (v:=.cl (.bl true)) ?_;exact cs (bV (aM (v0_ rfl) rfl (dL _ _ rfl))) (bX (bH rfl aMu) (bD rfl))|.cmp i a b,n,w=>by
  obtain⟨w1,w2⟩:a.wf c pl/\b.wf c pl:=w;have c1:=iX hV ha hb hn hbd a (n+b.sz) w1;have c2:=iX hV ha hb hn hbd b (n+a.sz) w2;rw[show n+b.sz+a.sz=n+a.sz+b.sz by omega] at c1;have e:n+Cn.sz (.cmp i a b)=n+a.sz+b.sz+1:=by show n+(1+a.sz+b.sz)=_;omega
  rw[e];refine aH (F:=pT v f) hF rfl (v:=.cl (.bl (Cn.hold ah be (.cmp i a b)))) ?_;refine cs (bV (aM (v0_ (Cn.noL _)) rfl (dL _ _ rfl))) (cs (bQ (bH rfl (aMx i))) (cs (bQ (bH rfl (aMy i))) (cs (bQ (bH rfl (aOl i))) (cs (bQ (bH rfl (aOm i))) (cs (bV (bE (aM (v0_ (Cn.noL _)) rfl (gK _ _ _ a.noL)) (v1_ (aI _)) (v2_ hn) c1)) (cs (bV (bE (aM (v0_ (Cn.noL _)) rfl (uR _ _ _ _ b.noL)) (v1_ (aI _)) (v2_ hn) c2)) (bD (aHv (bH rfl (aJB i)) ?_))))))));cases i <;> rfl
 | .nt x,n,w=>by
  have c1:=lT hV hF ha hb hn hbd x n w;have e:n+Cn.sz (.nt x)=n+x.sz+1:=by show n+(1+x.sz)=_;omega
  rw[e];refine aH (F:=pT v f) hF rfl (v:=.cl (.bl (Cn.hold ah be (.nt x)))) ?_;exact cs (bV (aM (v0_ (Cn.noL _)) rfl (dL _ _ rfl))) (cs (bQ (bH rfl aMv)) (bX (bH rfl aMw) (bD (aMk (bE (aM (v0_ (Cn.noL _)) rfl (gK _ _ _ x.noL)) (v1_ (aI _)) (v2_ hn) c1)))))
 | .two p a b,n,w=>by
  obtain⟨w1,w2⟩:a.wf c pl/\b.wf c pl:=w;have c1:=lT hV hF ha hb hn hbd a (n+b.sz) w1;have c2:=lT hV hF ha hb hn hbd b (n+a.sz) w2;rw[show n+b.sz+a.sz=n+a.sz+b.sz by omega] at c1;have e:n+Cn.sz (.two p a b)=n+a.sz+b.sz+1:=by show n+(1+a.sz+b.sz)=_;omega
  rw[e];refine aH (F:=pT v f) hF rfl (v:=.cl (.bl (Cn.hold ah be (.two p a b)))) ?_;refine cs (bV (aM (v0_ (Cn.noL _)) rfl (dL _ _ rfl))) (cs (bQ (bH rfl (aMz p))) (cs (bQ (bH rfl (aMA p))) ?_));cases p with
  | true=>exact bX (bH rfl (aGK true)) (bD (aGI (bE (aM (v0_ (Cn.noL _)) rfl (gK _ _ _ a.noL)) (v1_ (aI _)) (v2_ hn) c1) (bE (aM (v0_ (Cn.noL _)) rfl (uR _ _ _ _ b.noL)) (v1_ (aI _)) (v2_ hn) c2)))|false=>exact cs (bQ (bH rfl (aGK false))) (bX (bH rfl (aOn false)) (bD (aHw (bE (aM (v0_ (Cn.noL _)) rfl (gK _ _ _ a.noL)) (v1_ (aI _)) (v2_ hn) c1) (bE (aM (v0_ (Cn.noL _)) rfl (uR _ _ _ _ b.noL)) (v1_ (aI _)) (v2_ hn) c2))))
end HpS
end
noncomputable section
namespace K21
open Hp
noncomputable def f0:Hp.Fn:=⟨3,6,
 (.k (.set (.n 3) (.idx (.v 0) (.c (.int 0))))
 (.k (.iff (.cmp .Eq (.v 3) (.c (.str "number")))
  (.k (.ret (.idx (.v 0) (.c (.int 1))))
  .z)
  .z)
 (.k (.iff (.cmp .Eq (.v 3) (.c (.str "box")))
  (.k (.ret (.idx (.v 1) (.idx (.v 0) (.c (.int 1)))))
  .z)
  .z)
 (.k (.iff (.cmp .Eq (.v 3) (.c (.str "after")))
  (.k (.ret (.idx (.v 2) (.idx (.v 0) (.c (.int 1)))))
  .z)
  .z)
 (.k (.set (.n 4) (.call 0 (.k (.idx (.v 0) (.c (.int 1))) (.k (.v 1) (.k (.v 2) .z)))))
 (.k (.set (.n 5) (.call 0 (.k (.idx (.v 0) (.c (.int 2))) (.k (.v 1) (.k (.v 2) .z)))))
 (.k (.ret (.ife (.cmp .Eq (.v 3) (.c (.str "plus"))) (.op .Add (.v 4) (.v 5)) (.op .Sub (.v 4) (.v 5))))
 .z)))))))⟩
noncomputable def f1:Hp.Fn:=⟨3,6,
 (.k (.set (.n 3) (.idx (.v 0) (.c (.int 0))))
 (.k (.iff (.cmp .Eq (.v 3) (.c (.str "yes")))
  (.k (.ret (.c (.bl true)))
  .z)
  .z)
 (.k (.iff (.cmp .Eq (.v 3) (.c (.str "not")))
  (.k (.ret (.nt (.call 1 (.k (.idx (.v 0) (.c (.int 1))) (.k (.v 1) (.k (.v 2) .z))))))
  .z)
  .z)
 (.k (.iff (.cmp .Eq (.v 3) (.c (.str "both")))
  (.k (.ret (.an (.call 1 (.k (.idx (.v 0) (.c (.int 1))) (.k (.v 1) (.k (.v 2) .z)))) (.call 1 (.k (.idx (.v 0) (.c (.int 2))) (.k (.v 1) (.k (.v 2) .z))))))
  .z)
  .z)
 (.k (.iff (.cmp .Eq (.v 3) (.c (.str "either")))
  (.k (.ret (.orr (.call 1 (.k (.idx (.v 0) (.c (.int 1))) (.k (.v 1) (.k (.v 2) .z)))) (.call 1 (.k (.idx (.v 0) (.c (.int 2))) (.k (.v 1) (.k (.v 2) .z))))))
  .z)
  .z)
 (.k (.set (.n 4) (.call 0 (.k (.idx (.v 0) (.c (.int 1))) (.k (.v 1) (.k (.v 2) .z)))))
 (.k (.set (.n 5) (.call 0 (.k (.idx (.v 0) (.c (.int 2))) (.k (.v 1) (.k (.v 2) .z)))))
 (.k (.ret (.ife (.cmp .Eq (.v 3) (.c (.str "is"))) (.cmp .Eq (.v 4) (.v 5)) (.cmp .Lt (.v 4) (.v 5))))
 .z))))))))⟩
noncomputable def f2:Hp.Fn:=⟨3,7,
 (.k (.iff (.nt (.call 1 (.k (.idx (.v 1) (.c (.int 0))) (.k (.v 2) (.k (.c .non) .z)))))
  (.k (.ret (.c .non))
  .z)
  .z)
 (.k (.set (.n 3) (.bi .list (.k (.v 2) .z)))
 (.k (.for (.t [4,5]) (.seq (.idx (.v 1) (.c (.int 1))))
  (.k (.set (.n 6) (.call 0 (.k (.v 5) (.k (.v 2) (.k (.c .non) .z)))))
  (.k (.iff (.nt (.cmp2 .LtE .LtE (.c (.int 0)) (.v 6) (.idx (.idx (.v 0) (.v 4)) (.c (.int 1)))))
   (.k (.ret (.c .non))
   .z)
   .z)
  (.k (.setIx 3 (.v 4) (.v 6))
  .z))))
 (.k (.ret (.bi .tuple (.k (.v 3) .z)))
 .z))))⟩
noncomputable def f3:Hp.Fn:=⟨2,2,
 (.k (.ret (.ife (.cmp2 .LtE .Lt (.c (.int 0)) (.v 1) (.bi .len (.k (.v 0) .z))) (.idx (.v 0) (.v 1)) (.lst .z)))
 .z)⟩
noncomputable def f4:Hp.Fn:=⟨3,9,
 (.k (.set (.n 3) (.idx (.v 2) (.c (.int 0))))
 (.k (.iff (.nt (.cmp2 .LtE .Lt (.c (.int 0)) (.v 3) (.bi .len (.k (.idx (.v 0) (.c (.int 2))) .z))))
  (.k (.ret (.c .non))
  .z)
  .z)
 (.k (.set (.n 4) (.idx (.v 1) (.c (.int 0))))
 (.k (.set (.n 5) (.idx (.v 1) (.c (.int 1))))
 (.k (.set (.n 6) (.call 3 (.k (.idx (.idx (.v 0) (.c (.int 2))) (.v 3)) (.k (.idx (.v 5) (.v 3)) .z))))
 (.k (.iff (.nt (.cmp2 .LtE .Lt (.c (.int 0)) (.idx (.v 2) (.c (.int 1))) (.bi .len (.k (.v 6) .z))))
  (.k (.ret (.c .non))
  .z)
  .z)
 (.k (.set (.n 7) (.idx (.v 6) (.idx (.v 2) (.c (.int 1)))))
 (.k (.set (.n 8) (.call 2 (.k (.idx (.v 0) (.c (.int 0))) (.k (.v 7) (.k (.v 4) .z)))))
 (.k (.iff (.cmp .Is (.v 8) (.c .non))
  (.k (.ret (.c .non))
  .z)
  .z)
 (.k (.ret (.tup (.k (.v 8) (.k (.op .Add (.op .Add (.sli (.v 5) .z (.k (.v 3) .z)) (.tup (.k (.idx (.v 7) (.c (.int 2))) .z))) (.sli (.v 5) (.k (.op .Add (.v 3) (.c (.int 1))) .z) .z)) .z))))
 .z))))))))))⟩
noncomputable def f5:Hp.Fn:=⟨2,2,
 (.k (.iff (.cmp .Lt (.v 1) (.bi .len (.k (.v 0) .z)))
  (.k (.ret (.idx (.v 0) (.v 1)))
  .z)
  .z)
 (.k (.ret (.op .Add (.op .Mult (.op .Mult (.c (.int 71)) (.v 1)) (.v 1)) (.op .Mult (.c (.int 7)) (.v 1))))
 .z))⟩
noncomputable def f6:Hp.Fn:=⟨1,1,
 (.k (.ret (.an (.isi (.v 0) [.tInt]) (.nt (.isi (.v 0) [.tBool]))))
 .z)⟩
noncomputable def f7:Hp.Fn:=⟨2,2,
 (.k (.ret (.op .Mod (.op .Mult (.op .Add (.op .Mod (.v 0) (.c (.int 99991))) (.c (.int 1))) (.op .Add (.c (.int 48271)) (.op .Mult (.op .Mult (.c (.int 2018)) (.v 1)) (.v 1)))) (.c (.int 65521))))
 .z)⟩
noncomputable def f8:Hp.Fn:=⟨2,7,
 (.k (.set (.n 2) (.lst (.k (.tup (.k (.c (.int 1)) .z)) (.k (.tup (.k (.c (.int 2)) .z)) (.k (.tup (.k (.c (.int 1)) (.k (.c (.int 1)) .z))) (.k (.tup (.k (.c (.int 3)) .z)) (.k (.tup (.k (.c (.int 2)) (.k (.c (.int 1)) .z))) (.k (.tup (.k (.c (.int 5)) .z)) (.k (.tup (.k (.c (.int 1)) (.k (.c (.int 2)) .z))) (.k (.tup (.k (.c (.int 1)) (.k (.c (.int 1)) (.k (.c (.int 1)) .z)))) (.k (.tup (.k (.c (.int 2)) (.k (.c (.int 2)) .z))) (.k (.tup (.k (.c (.int 3)) (.k (.c (.int 1)) .z))) (.k (.tup (.k (.c (.int 7)) .z)) (.k (.tup (.k (.c (.int 2)) (.k (.c (.int 1)) (.k (.c (.int 1)) .z)))) (.k (.tup (.k (.c (.int 3)) (.k (.c (.int 2)) .z))) .z)))))))))))))))
 (.k (.set (.n 2) (.op .Add (.v 2) (.lst (.k (.tup (.k (.c (.int 1)) (.k (.c (.int 1)) (.k (.c (.int 2)) .z)))) (.k (.tup (.k (.c (.int 5)) (.k (.c (.int 1)) .z))) (.k (.tup (.k (.c (.int 2)) (.k (.c (.int 3)) .z))) (.k (.tup (.k (.c (.int 1)) (.k (.c (.int 1)) (.k (.c (.int 1)) (.k (.c (.int 1)) .z))))) (.k (.tup (.k (.c (.int 2)) (.k (.c (.int 2)) (.k (.c (.int 1)) .z)))) (.k (.tup (.k (.c (.int 7)) (.k (.c (.int 2)) .z))) (.k (.tup (.k (.c (.int 5)) (.k (.c (.int 3)) .z))) (.k (.tup (.k (.c (.int 1)) (.k (.c (.int 1)) (.k (.c (.int 1)) (.k (.c (.int 2)) .z))))) .z)))))))))))
 (.k (.set (.n 3) (.idx (.v 2) (.op .Mod (.call 7 (.k (.v 0) (.k (.c (.int 0)) .z))) (.v 1))))
 (.k (.set (.n 4) (.c (.str "abcdefghijklmnopqrstuvwxyz")))
 (.k (.set (.n 5) (.mth .join (.c (.str "")) (.k (.comp 1 [0,4] (.n 0) (.rng (.c (.int 1)) (.op .Add (.c (.int 1)) (.op .Mod (.call 7 (.k (.v 0) (.k (.c (.int 20)) .z))) (.c (.int 8))))) .z (.idx (.v 2) (.op .Mod (.call 7 (.k (.v 1) (.k (.v 0) .z))) (.c (.int 26))))) .z)))
 (.k (.set (.n 6) (.op .Mod (.call 7 (.k (.v 0) (.k (.c (.int 21)) .z))) (.op .Add (.bi .len (.k (.v 5) .z)) (.c (.int 1)))))
 (.k (.ret (.comp 2 [0,4,5,6] (.t [0,1]) (.enum (.v 3)) .z (.tup (.k (.op .Add (.op .Add (.sli (.v 4) .z (.k (.v 5) .z)) (.idx (.v 3) (.op .Mod (.op .Add (.op .Mult (.c (.int 3)) (.v 0)) (.v 2)) (.c (.int 26))))) (.sli (.v 4) (.k (.v 5) .z) .z)) (.k (.v 1) .z)))))
 .z)))))))⟩
noncomputable def f9:Hp.Fn:=⟨5,7,
 (.k (.set (.n 5) (.op .Mod (.call 7 (.k (.v 0) (.k (.v 1) .z))) (.c (.int 7))))
 (.k (.iff (.an (.cmp .Gt (.v 4) (.c (.int 0))) (.cmp .Gt (.v 5) (.c (.int 3))))
  (.k (.set (.n 6) (.call 9 (.k (.v 0) (.k (.op .Add (.v 1) (.c (.int 3))) (.k (.v 2) (.k (.v 3) (.k (.op .Sub (.v 4) (.c (.int 1))) .z)))))))
  (.k (.ret (.tup (.k (.idx (.lst (.k (.c (.str "plus")) (.k (.c (.str "minus")) .z))) (.op .Mod (.v 5) (.c (.int 2)))) (.k (.v 6) (.k (.call 9 (.k (.v 0) (.k (.op .Add (.v 1) (.c (.int 7))) (.k (.v 2) (.k (.v 3) (.k (.op .Sub (.v 4) (.c (.int 1))) .z)))))) .z)))))
  .z))
  .z)
 (.k (.iff (.cmp .Eq (.v 5) (.c (.int 0)))
  (.k (.ret (.tup (.k (.c (.str "number")) (.k (.op .Mod (.call 7 (.k (.v 0) (.k (.op .Add (.v 1) (.c (.int 1))) .z))) (.idx (.lst (.k (.c (.int 3)) (.k (.c (.int 9)) (.k (.c (.int 100)) .z)))) (.op .Mod (.call 7 (.k (.v 0) (.k (.op .Add (.v 1) (.c (.int 2))) .z))) (.c (.int 3))))) .z))))
  .z)
  .z)
 (.k (.ret (.tup (.k (.idx (.lst (.k (.c (.str "box")) (.k (.c (.str "after")) .z))) (.bi .int (.k (.an (.v 3) (.cmp .Eq (.op .Mod (.v 5) (.c (.int 2))) (.c (.int 1)))) .z))) (.k (.op .Mod (.call 7 (.k (.v 0) (.k (.op .Add (.v 1) (.c (.int 1))) .z))) (.v 2)) .z))))
 .z))))⟩
noncomputable def f10:Hp.Fn:=⟨5,7,
 (.k (.set (.n 5) (.op .Mod (.call 7 (.k (.v 0) (.k (.v 1) .z))) (.c (.int 9))))
 (.k (.iff (.cmp .Eq (.v 5) (.c (.int 0)))
  (.k (.ret (.tup (.k (.c (.str "yes")) .z)))
  .z)
  .z)
 (.k (.iff (.an (.cmp .Gt (.v 4) (.c (.int 0))) (.cmp .Gt (.v 5) (.c (.int 5))))
  (.k (.set (.n 6) (.call 10 (.k (.v 0) (.k (.op .Add (.v 1) (.c (.int 9))) (.k (.v 2) (.k (.v 3) (.k (.op .Sub (.v 4) (.c (.int 1))) .z)))))))
  (.k (.iff (.cmp .Eq (.v 5) (.c (.int 6)))
   (.k (.ret (.tup (.k (.c (.str "not")) (.k (.v 6) .z))))
   .z)
   .z)
  (.k (.ret (.tup (.k (.idx (.lst (.k (.c (.str "both")) (.k (.c (.str "either")) .z))) (.op .Sub (.v 5) (.c (.int 7)))) (.k (.v 6) (.k (.call 10 (.k (.v 0) (.k (.op .Add (.v 1) (.c (.int 23))) (.k (.v 2) (.k (.v 3) (.k (.op .Sub (.v 4) (.c (.int 1))) .z)))))) .z)))))
  .z)))
  .z)
 (.k (.set (.n 6) (.call 9 (.k (.v 0) (.k (.op .Add (.v 1) (.c (.int 1))) (.k (.v 2) (.k (.v 3) (.k (.c (.int 1)) .z)))))))
 (.k (.ret (.tup (.k (.idx (.lst (.k (.c (.str "is")) (.k (.c (.str "less")) .z))) (.op .Mod (.v 5) (.c (.int 2)))) (.k (.v 6) (.k (.call 9 (.k (.v 0) (.k (.op .Add (.v 1) (.c (.int 4))) (.k (.v 2) (.k (.v 3) (.k (.c (.int 1)) .z)))))) .z)))))
 .z)))))⟩
noncomputable def f11:Hp.Fn:=⟨3,8,
 (.k (.set (.n 3) (.lst .z))
 (.k (.for (.n 4) (.rng (.c (.int 0)) (.v 1))
  (.k (.set (.n 5) (.op .Mod (.call 7 (.k (.v 0) (.k (.op .Add (.c (.int 40)) (.v 4)) .z))) (.c (.int 6))))
  (.k (.set (.n 6) (.lst (.k (.tup (.k (.c (.str "plus")) (.k (.tup (.k (.c (.str "box")) (.k (.v 4) .z))) (.k (.tup (.k (.c (.str "number")) (.k (.c (.int 1)) .z))) .z)))) (.k (.tup (.k (.c (.str "minus")) (.k (.tup (.k (.c (.str "box")) (.k (.v 4) .z))) (.k (.tup (.k (.c (.str "number")) (.k (.c (.int 1)) .z))) .z)))) .z))))
  (.k (.app 6 (.call 9 (.k (.v 0) (.k (.op .Add (.c (.int 50)) (.op .Mult (.c (.int 9)) (.v 4))) (.k (.v 1) (.k (.c (.bl false)) (.k (.c (.int 1)) .z)))))))
  (.k (.iff (.cmp .Lt (.v 5) (.c (.int 3)))
   (.k (.app 3 (.tup (.k (.v 4) (.k (.idx (.v 6) (.v 5)) .z))))
   .z)
   .z)
  .z)))))
 (.k (.set (.n 7) (.tup (.k (.c (.str "yes")) .z)))
 (.k (.iff (.cmp .Eq (.op .Mod (.call 7 (.k (.v 0) (.k (.c (.int 30)) .z))) (.c (.int 2))) (.c (.int 1)))
  (.k (.set (.n 7) (.call 10 (.k (.v 0) (.k (.c (.int 10)) (.k (.v 1) (.k (.c (.bl false)) (.k (.c (.int 1)) .z)))))))
  .z)
  .z)
 (.k (.ret (.tup (.k (.v 7) (.k (.bi .tuple (.k (.v 3) .z)) (.k (.op .Mod (.call 7 (.k (.v 0) (.k (.c (.int 31)) .z))) (.v 2)) .z)))))
 .z)))))⟩
noncomputable def f12:Hp.Fn:=⟨3,8,
 (.k (.set (.n 3) (.op .Mod (.call 7 (.k (.call 5 (.k (.v 0) (.k (.v 1) .z))) (.k (.c (.int 1)) .z))) (.c (.int 4))))
 (.k (.set (.n 4) (.lst .z))
 (.k (.for (.n 5) (.rng (.c (.int 0)) (.v 3))
  (.k (.set (.n 6) (.lst (.k (.call 5 (.k (.v 0) (.k (.op .Add (.op .Add (.v 1) (.c (.int 1))) (.op .Mult (.c (.int 2)) (.v 5))) .z))) (.k (.call 5 (.k (.v 0) (.k (.op .Add (.op .Add (.v 1) (.c (.int 2))) (.op .Mult (.c (.int 2)) (.v 5))) .z))) .z))))
  (.k (.set (.n 6) (.op .Add (.v 6) (.lst (.k (.op .Add (.op .FloorDiv (.idx (.v 6) (.c (.int 0))) (.c (.int 3))) (.idx (.v 6) (.c (.int 1)))) (.k (.op .Add (.op .FloorDiv (.idx (.v 6) (.c (.int 1))) (.c (.int 3))) (.idx (.v 6) (.c (.int 0)))) .z)))))
  (.k (.set (.n 7) (.comp 1 [2,3] (.n 0) (.seq (.v 6)) .z (.call 11 (.k (.v 0) (.k (.v 1) (.k (.op .Add (.v 2) (.c (.int 1))) .z))))))
  (.k (.app 4 (.sli (.v 7) .z (.k (.op .Add (.c (.int 1)) (.op .Mod (.call 7 (.k (.idx (.v 6) (.c (.int 0))) (.k (.c (.int 32)) .z))) (.c (.int 4)))) .z)))
  .z)))))
 (.k (.retv 4)
 .z))))⟩
noncomputable def f13:Hp.Fn:=⟨2,4,
 (.k (.set (.n 2) (.op .Mod (.call 7 (.k (.v 0) (.k (.c (.int 3)) .z))) (.c (.int 5))))
 (.k (.set (.n 3) (.op .Mod (.call 7 (.k (.v 0) (.k (.c (.int 4)) .z))) (.v 1)))
 (.k (.iff (.cmp .Eq (.v 2) (.c (.int 0)))
  (.k (.ret (.tup (.k (.c (.str "is")) (.k (.tup (.k (.c (.str "after")) (.k (.v 3) .z))) (.k (.tup (.k (.c (.str "box")) (.k (.v 3) .z))) .z)))))
  .z)
  .z)
 (.k (.iff (.cmp .Eq (.v 2) (.c (.int 1)))
  (.k (.ret (.tup (.k (.c (.str "not")) (.k (.tup (.k (.c (.str "less")) (.k (.tup (.k (.c (.str "after")) (.k (.v 3) .z))) (.k (.tup (.k (.c (.str "box")) (.k (.v 3) .z))) .z)))) .z))))
  .z)
  .z)
 (.k (.iff (.cmp .Eq (.v 2) (.c (.int 2)))
  (.k (.ret (.tup (.k (.c (.str "yes")) .z)))
  .z)
  .z)
 (.k (.ret (.call 10 (.k (.v 0) (.k (.c (.int 5)) (.k (.v 1) (.k (.c (.bl true)) (.k (.c (.int 1)) .z)))))))
 .z))))))⟩
noncomputable def f14:Hp.Fn:=⟨2,14,
 (.k (.set (.n 2) (.bi .int (.k (.cmp .Eq (.op .Mod (.op .FloorDiv (.call 5 (.k (.v 0) (.k (.c (.int 0)) .z))) (.c (.int 9))) (.c (.int 8))) (.c (.int 5))) .z)))
 (.k (.set (.n 3) (.call 8 (.k (.call 5 (.k (.v 0) (.k (.c (.int 0)) .z))) (.k (.op .Add (.v 1) (.op .Mult (.c (.int 5)) (.v 2))) .z))))
 (.k (.set (.n 4) (.bi .len (.k (.v 3) .z)))
 (.k (.set (.n 5) (.call 10 (.k (.call 5 (.k (.v 0) (.k (.c (.int 1)) .z))) (.k (.c (.int 1)) (.k (.v 4) (.k (.c (.bl false)) (.k (.c (.int 1)) .z)))))))
 (.k (.iff (.cmp .Eq (.op .Mod (.call 7 (.k (.call 5 (.k (.v 0) (.k (.c (.int 1)) .z))) (.k (.c (.int 60)) .z))) (.c (.int 2))) (.c (.int 1)))
  (.k (.set (.n 5) (.tup (.k (.c (.str "is")) (.k (.tup (.k (.c (.str "box")) (.k (.c (.int 0)) .z))) (.k (.tup (.k (.c (.str "number")) (.k (.c (.int 0)) .z))) .z)))))
  .z)
  .z)
 (.k (.set (.n 6) (.lst .z))
 (.k (.set (.n 7) (.lst .z))
 (.k (.set (.n 8) (.lst .z))
 (.k (.for (.n 9) (.rng (.c (.int 0)) (.op .Add (.c (.int 1)) (.op .Mod (.call 7 (.k (.call 5 (.k (.v 0) (.k (.c (.int 2)) .z))) (.k (.c (.int 2)) .z))) (.op .Sub (.c (.int 3)) (.v 2)))))
  (.k (.set (.n 10) (.op .Add (.c (.int 3)) (.op .Mult (.c (.int 9)) (.v 9))))
  (.k (.app 6 (.call 12 (.k (.v 0) (.k (.v 10) (.k (.v 4) .z)))))
  (.k (.app 7 (.call 13 (.k (.call 5 (.k (.v 0) (.k (.op .Add (.v 10) (.c (.int 7))) .z))) (.k (.v 4) .z))))
  (.k (.set (.n 11) (.call 5 (.k (.v 0) (.k (.op .Add (.v 10) (.c (.int 8))) .z))))
  (.k (.set (.n 12) (.lst .z))
  (.k (.for (.n 13) (.rng (.c (.int 0)) (.op .Add (.bi .len (.k (.idx (.v 6) (.v 9)) .z)) (.c (.int 1))))
   (.k (.app 12 (.idx (.lst (.k (.tup (.k (.c (.str "yes")) .z)) (.k (.call 10 (.k (.v 11) (.k (.op .Mult (.c (.int 7)) (.v 13)) (.k (.v 4) (.k (.c (.bl false)) (.k (.c (.int 0)) .z)))))) .z))) (.op .Mod (.call 7 (.k (.v 11) (.k (.v 13) .z))) (.c (.int 2)))))
   .z))
  (.k (.app 8 (.v 12))
  .z))))))))
 (.k (.ret (.tup (.k (.v 3) (.k (.v 5) (.k (.v 6) (.k (.v 7) (.k (.v 8) .z)))))))
 .z))))))))))⟩
noncomputable def f15:Hp.Fn:=⟨3,4,
 (.k (.iff (.cmp .Eq (.idx (.v 0) (.c (.int 0))) (.c (.str "number")))
  (.k (.ret (.idx (.v 0) (.c (.int 1))))
  .z)
  .z)
 (.k (.iff (.cmp .Eq (.idx (.v 0) (.c (.int 0))) (.c (.str "box")))
  (.k (.ret (.idx (.v 1) (.idx (.v 0) (.c (.int 1)))))
  .z)
  .z)
 (.k (.iff (.cmp .Eq (.idx (.v 0) (.c (.int 0))) (.c (.str "after")))
  (.k (.ret (.idx (.v 2) (.idx (.v 0) (.c (.int 1)))))
  .z)
  .z)
 (.k (.set (.n 3) (.call 15 (.k (.idx (.v 0) (.c (.int 1))) (.k (.v 1) (.k (.v 2) .z)))))
 (.k (.ret (.op .Add (.v 3) (.op .Mult (.op .Sub (.c (.int 1)) (.op .Mult (.c (.int 2)) (.bi .int (.k (.cmp .Eq (.idx (.v 0) (.c (.int 0))) (.c (.str "minus"))) .z)))) (.call 15 (.k (.idx (.v 0) (.c (.int 2))) (.k (.v 1) (.k (.v 2) .z)))))))
 .z)))))⟩
noncomputable def f16:Hp.Fn:=⟨3,5,
 (.k (.iff (.cmp .Eq (.idx (.v 0) (.c (.int 0))) (.c (.str "yes")))
  (.k (.ret (.c (.bl true)))
  .z)
  .z)
 (.k (.iff (.cmp .Eq (.idx (.v 0) (.c (.int 0))) (.c (.str "not")))
  (.k (.ret (.nt (.call 16 (.k (.idx (.v 0) (.c (.int 1))) (.k (.v 1) (.k (.v 2) .z))))))
  .z)
  .z)
 (.k (.iff (.cmp .Eq (.idx (.v 0) (.c (.int 0))) (.c (.str "is")))
  (.k (.ret (.cmp .Eq (.call 15 (.k (.idx (.v 0) (.c (.int 1))) (.k (.v 1) (.k (.v 2) .z)))) (.call 15 (.k (.idx (.v 0) (.c (.int 2))) (.k (.v 1) (.k (.v 2) .z))))))
  .z)
  .z)
 (.k (.iff (.cmp .Eq (.idx (.v 0) (.c (.int 0))) (.c (.str "less")))
  (.k (.ret (.cmp .Lt (.call 15 (.k (.idx (.v 0) (.c (.int 1))) (.k (.v 1) (.k (.v 2) .z)))) (.call 15 (.k (.idx (.v 0) (.c (.int 2))) (.k (.v 1) (.k (.v 2) .z))))))
  .z)
  .z)
 (.k (.set (.n 3) (.call 16 (.k (.idx (.v 0) (.c (.int 1))) (.k (.v 1) (.k (.v 2) .z)))))
 (.k (.set (.n 4) (.call 16 (.k (.idx (.v 0) (.c (.int 2))) (.k (.v 1) (.k (.v 2) .z)))))
 (.k (.iff (.cmp .Eq (.idx (.v 0) (.c (.int 0))) (.c (.str "both")))
  (.k (.ret (.an (.v 3) (.v 4)))
  .z)
  .z)
 (.k (.ret (.orr (.v 3) (.v 4)))
 .z))))))))⟩
noncomputable def f17:Hp.Fn:=⟨1,6,
 (.k (.set (.n 1) (.lst (.k (.tup .z) .z)))
 (.k (.for (.t [2,3]) (.seq (.v 0))
  (.k (.set (.n 4) (.lst .z))
  (.k (.for (.n 5) (.seq (.v 1))
   (.k (.ext 4 (.comp 1 [5] (.n 0) (.rng (.c (.int 0)) (.op .Add (.v 3) (.c (.int 1)))) .z (.op .Add (.v 1) (.tup (.k (.v 0) .z)))))
   .z))
  (.k (.mov 1 4)
  .z))))
 (.k (.retv 1)
 .z)))⟩
noncomputable def f18:Hp.Fn:=⟨3,12,
 (.k (.set (.t [3,4]) (.v 1))
 (.k (.iff (.nt (.cmp2 .LtE .Lt (.c (.int 0)) (.idx (.v 2) (.c (.int 0))) (.bi .len (.k (.v 4) .z))))
  (.k (.ret (.c .non))
  .z)
  .z)
 (.k (.set (.n 5) (.idx (.idx (.v 0) (.c (.int 2))) (.idx (.v 2) (.c (.int 0)))))
 (.k (.iff (.orr (.cmp .GtE (.idx (.v 4) (.idx (.v 2) (.c (.int 0)))) (.bi .len (.k (.v 5) .z))) (.nt (.cmp2 .LtE .Lt (.c (.int 0)) (.idx (.v 2) (.c (.int 1))) (.bi .len (.k (.idx (.v 5) (.idx (.v 4) (.idx (.v 2) (.c (.int 0))))) .z)))))
  (.k (.ret (.c .non))
  .z)
  .z)
 (.k (.set (.t [6,7,8]) (.idx (.idx (.v 5) (.idx (.v 4) (.idx (.v 2) (.c (.int 0))))) (.idx (.v 2) (.c (.int 1)))))
 (.k (.iff (.nt (.call 16 (.k (.v 6) (.k (.v 3) (.k (.c .non) .z)))))
  (.k (.ret (.c .non))
  .z)
  .z)
 (.k (.set (.n 9) (.bi .list (.k (.v 3) .z)))
 (.k (.for (.t [10,11]) (.seq (.v 7))
  (.k (.setIx 9 (.v 10) (.call 15 (.k (.v 11) (.k (.v 3) (.k (.c .non) .z)))))
  (.k (.iff (.nt (.cmp2 .LtE .LtE (.c (.int 0)) (.idx (.v 9) (.v 10)) (.idx (.idx (.idx (.v 0) (.c (.int 0))) (.v 10)) (.c (.int 1)))))
   (.k (.ret (.c .non))
   .z)
   .z)
  .z)))
 (.k (.ret (.tup (.k (.bi .tuple (.k (.v 9) .z)) (.k (.op .Add (.op .Add (.sli (.v 4) .z (.k (.idx (.v 2) (.c (.int 0))) .z)) (.tup (.k (.v 8) .z))) (.sli (.v 4) (.k (.op .Add (.idx (.v 2) (.c (.int 0))) (.c (.int 1))) .z) .z)) .z))))
 .z)))))))))⟩
noncomputable def f19:Hp.Fn:=⟨1,13,
 (.k (.set (.n 1) (.call 14 (.k (.v 0) (.k (.c (.int 16)) .z))))
 (.k (.set (.n 2) (.bi .repr (.k (.v 1) .z)))
 (.k (.set (.n 3) (.call 25 (.k (.v 1) .z)))
 (.k (.set (.n 4) (.call 5 (.k (.v 0) (.k (.c (.int 30)) .z))))
 (.k (.set (.n 5) (.call 29 (.k (.v 1) (.k (.v 4) (.k (.v 3) .z)))))
 (.k (.iff (.cmp .NotIn (.v 5) (.v 3))
  (.k (.set (.n 6) (.lst (.k (.c (.bl false)) (.k (.op .Add (.lst (.k (.c (.bl true)) (.k (.c (.bl true)) .z))) (.op .Mult (.lst (.k (.c (.bl false)) .z)) (.c (.int 11)))) (.k (.c .non) .z)))))
  (.k (.ret (.an (.cmp .Eq (.call 28 (.k (.v 1) (.k (.v 5) (.k (.lst .z) .z)))) (.v 6)) (.cmp .Eq (.call 28 (.k (.v 1) (.k (.v 5) (.k (.lst (.k (.tup (.k (.c (.int 0)) (.k (.c (.int 0)) .z))) (.k (.tup (.k (.c (.int 5)) (.k (.c (.int 5)) .z))) .z))) .z)))) (.v 6))))
  .z))
  .z)
 (.k (.set (.t [7,8]) (.call 30 (.k (.v 1) (.k (.v 0) (.k (.v 5) .z)))))
 (.k (.set (.n 9) (.bi .list (.k (.v 8) .z)))
 (.k (.tld 10 28 (.k (.v 1) (.k (.v 5) (.k (.v 9) .z))))
 (.k (.iff (.orr (.nt (.pix 10)) (.orr (.nt (.callP 20 10 (.k (.v 7) .z))) (.cmp .NotEq (.v 9) (.v 8))))
  (.k (.ret (.c (.bl false)))
  .z)
  .z)
 (.k (.set (.n 11) (.op .Mod (.call 7 (.k (.v 4) (.k (.c (.int 7)) .z))) (.op .Add (.bi .len (.k (.v 8) .z)) (.c (.int 1)))))
 (.k (.set (.n 12) (.op .Add (.op .Add (.sli (.v 8) .z (.k (.v 11) .z)) (.lst (.k (.call 31 (.k (.v 1) (.k (.idx (.v 7) (.v 11)) (.k (.v 4) .z)))) .z))) (.sli (.v 8) (.k (.v 11) .z) .z)))
 (.k (.iff (.cmp .NotEq (.call 28 (.k (.v 1) (.k (.v 5) (.k (.v 12) .z)))) (.lst (.k (.c (.bl false)) (.k (.op .Add (.lst (.k (.c (.bl true)) (.k (.c (.bl false)) (.k (.c (.bl true)) .z)))) (.op .Mult (.lst (.k (.c (.bl false)) .z)) (.c (.int 10)))) (.k (.v 11) .z)))))
  (.k (.ret (.c (.bl false)))
  .z)
  .z)
 (.k (.appP 10 (.c .non))
 (.k (.ret (.an (.cmp .Eq (.call 28 (.k (.v 1) (.k (.v 5) (.k (.sli (.v 8) .z (.k (.v 11) .z)) .z)))) (.lst (.k (.c (.bl true)) (.k (.sli (.v 7) .z (.k (.op .Add (.v 11) (.c (.int 1))) .z)) .z)))) (.cmp .Eq (.bi .repr (.k (.v 1) .z)) (.v 2))))
 .z)))))))))))))))⟩
noncomputable def f20:Hp.Fn:=⟨2,3,
 (.k (.iff (.cmp .Is (.v 1) (.c .non))
  (.k (.ret (.cmp .Is (.v 0) (.c .non)))
  .z)
  .z)
 (.k (.iff (.isi (.v 1) [.tInt])
  (.k (.ret (.an (.isi (.v 0) [.tInt]) (.an (.nt (.isi (.v 0) [.tBool])) (.cmp .Eq (.v 0) (.v 1)))))
  .z)
  .z)
 (.k (.iff (.isi (.v 1) [.tStr])
  (.k (.ret (.an (.isi (.v 0) [.tStr]) (.cmp .Eq (.v 0) (.v 1))))
  .z)
  .z)
 (.k (.iff (.an (.isi (.v 1) [.tTuple]) (.nt (.isi (.v 0) [.tTuple])))
  (.k (.ret (.c (.bl false)))
  .z)
  .z)
 (.k (.iff (.an (.isi (.v 1) [.tList]) (.nt (.isi (.v 0) [.tList])))
  (.k (.ret (.c (.bl false)))
  .z)
  .z)
 (.k (.iff (.cmp .NotEq (.bi .len (.k (.v 0) .z)) (.bi .len (.k (.v 1) .z)))
  (.k (.ret (.c (.bl false)))
  .z)
  .z)
 (.k (.for (.n 2) (.rng (.c (.int 0)) (.bi .len (.k (.v 1) .z)))
  (.k (.iff (.nt (.call 20 (.k (.idx (.v 0) (.v 2)) (.k (.idx (.v 1) (.v 2)) .z))))
   (.k (.ret (.c (.bl false)))
   .z)
   .z)
  .z))
 (.k (.ret (.c (.bl true)))
 .z))))))))⟩
noncomputable def f21:Hp.Fn:=⟨3,3,
 (.k (.ret (.an (.call 6 (.k (.v 0) .z)) (.cmp2 .LtE .LtE (.v 1) (.v 0) (.v 2))))
 .z)⟩
noncomputable def f22:Hp.Fn:=⟨2,2,
 (.k (.ret (.tup (.k (.v 1) (.k (.bi .tuple (.k (.comp 1 [] (.n 0) (.seq (.idx (.v 0) (.c (.int 2)))) .z (.c (.int 0))) .z)) .z))))
 .z)⟩
noncomputable def f23:Hp.Fn:=⟨2,2,
 (.k (.iff (.orr (.nt (.isi (.v 1) [.tTuple])) (.cmp .NotEq (.bi .len (.k (.v 1) .z)) (.bi .len (.k (.v 0) .z))))
  (.k (.ret (.c (.bl false)))
  .z)
  .z)
 (.k (.ret (.bi .all (.k (.comp 2 [] (.t [0,1]) (.zip (.v 0) (.v 1)) .z (.call 21 (.k (.v 1) (.k (.c (.int 0)) (.k (.idx (.v 0) (.c (.int 1))) .z))))) .z)))
 .z))⟩
noncomputable def f24:Hp.Fn:=⟨3,7,
 (.k (.iff (.orr (.nt (.call 23 (.k (.idx (.v 0) (.c (.int 0))) (.k (.v 1) .z)))) (.nt (.call 1 (.k (.idx (.v 0) (.c (.int 1))) (.k (.v 1) (.k (.c .non) .z))))))
  (.k (.rse "NoStart" false (.k (.c (.str "a start is a stand of the boxes at which begin holds")) .z))
  .z)
  .z)
 (.k (.set (.n 3) (.call 22 (.k (.v 0) (.k (.v 1) .z))))
 (.k (.set (.n 4) (.lst (.k (.v 3) .z)))
 (.k (.for (.t [5,6]) (.enum (.v 2))
  (.k (.set (.n 3) (.call 4 (.k (.v 0) (.k (.v 3) (.k (.v 6) .z)))))
  (.k (.iff (.cmp .Is (.v 3) (.c .non))
   (.k (.rse "NoStep" true (.k (.v 5) .z))
   .z)
   .z)
  (.k (.app 4 (.v 3))
  .z))))
 (.k (.retv 4)
 .z)))))⟩
noncomputable def f25:Hp.Fn:=⟨1,1,
 (.k (.ret (.comp 1 [0] (.n 0) (.seq (.call 17 (.k (.idx (.v 0) (.c (.int 0))) .z))) (.k (.call 16 (.k (.idx (.v 1) (.c (.int 1))) (.k (.v 0) (.k (.c .non) .z)))) .z) (.v 0)))
 .z)⟩
noncomputable def f26:Hp.Fn:=⟨3,3,
 (.k (.ret (.comp 1 [0] (.n 0) (.rng (.v 1) (.v 2)) .z (.call 5 (.k (.v 1) (.k (.v 0) .z)))))
 .z)⟩
noncomputable def f27:Hp.Fn:=⟨1,2,
 (.k (.set (.n 1) (.lst (.k (.isx (.v 0) [.tValueError]) (.k (.isx (.v 0) [.own "NoStart"]) (.k (.isx (.v 0) [.own "NoStep"]) .z)))))
 (.k (.set (.n 1) (.op .Add (.v 1) (.lst (.k (.isx (.v 0) [.own "NoBoxes"]) (.k (.isx (.v 0) [.own "NoCond"]) (.k (.isx (.v 0) [.own "NoHand"]) .z))))))
 (.k (.set (.n 1) (.op .Add (.v 1) (.lst (.k (.isx (.v 0) [.own "NoHouse"]) (.k (.isx (.v 0) [.own "NoPaper"]) (.k (.isx (.v 0) [.own "NoProgram"]) .z))))))
 (.k (.set (.n 1) (.op .Add (.v 1) (.lst (.k (.isx (.v 0) [.own "NoText"]) (.k (.isx (.v 0) [.own "NoName"]) (.k (.isx (.v 0) [.own "NoRow"]) .z))))))
 (.k (.ret (.op .Add (.v 1) (.lst (.k (.isx (.v 0) [.own "TooMany"]) .z))))
 .z)))))⟩
noncomputable def f28:Hp.Fn:=⟨3,7,
 (.k (.set (.n 3) (.c .non))
 (.k (.set (.n 4) (.c .non))
 (.k (.set (.n 5) (.c .non))
 (.k (.tryF (.k (.set (.n 5) (.call 24 (.k (.v 0) (.k (.v 1) (.k (.v 2) .z)))))
  .z) "NoStep" "PromiseError" 3 6 4)
 (.k (.iff (.cmp .Is (.v 3) (.c .non))
  (.k (.ret (.lst (.k (.c (.bl true)) (.k (.v 5) .z))))
  .z)
  .z)
 (.k (.ret (.lst (.k (.c (.bl false)) (.k (.call 27 (.k (.v 3) .z)) (.k (.v 4) .z)))))
 .z))))))⟩
noncomputable def f29:Hp.Fn:=⟨3,7,
 (.k (.set (.n 3) (.call 17 (.k (.idx (.v 0) (.c (.int 0))) .z)))
 (.k (.set (.n 4) (.idx (.v 3) (.op .Mod (.call 7 (.k (.v 1) (.k (.c (.int 1)) .z))) (.bi .len (.k (.v 3) .z)))))
 (.k (.set (.n 5) (.op .Mod (.call 7 (.k (.v 1) (.k (.c (.int 2)) .z))) (.bi .len (.k (.v 4) .z))))
 (.k (.set (.n 6) (.op .Mod (.call 7 (.k (.v 1) (.k (.c (.int 3)) .z))) (.c (.int 16))))
 (.k (.iff (.cmp .Eq (.v 6) (.c (.int 0)))
  (.k (.ret (.op .Add (.op .Add (.sli (.v 4) .z (.k (.v 5) .z)) (.tup (.k (.op .Add (.op .Add (.idx (.idx (.idx (.v 0) (.c (.int 0))) (.v 5)) (.c (.int 1))) (.c (.int 1))) (.op .Mod (.v 1) (.op .Pow (.c (.int 10)) (.c (.int 40))))) .z))) (.sli (.v 4) (.k (.op .Add (.v 5) (.c (.int 1))) .z) .z)))
  .z)
  .z)
 (.k (.iff (.cmp .Eq (.v 6) (.c (.int 1)))
  (.k (.ret (.op .Add (.op .Add (.sli (.v 4) .z (.k (.v 5) .z)) (.tup (.k (.op .Sub (.neg (.c (.int 1))) (.op .Mod (.v 1) (.op .Pow (.c (.int 10)) (.c (.int 40))))) .z))) (.sli (.v 4) (.k (.op .Add (.v 5) (.c (.int 1))) .z) .z)))
  .z)
  .z)
 (.k (.iff (.cmp .Eq (.v 6) (.c (.int 2)))
  (.k (.ret (.op .Add (.v 4) (.tup (.k (.c (.int 0)) .z))))
  .z)
  .z)
 (.k (.iff (.cmp .Eq (.v 6) (.c (.int 3)))
  (.k (.ret (.sli (.v 4) .z (.k (.neg (.c (.int 1))) .z)))
  .z)
  .z)
 (.k (.iff (.orr (.cmp .Lt (.v 6) (.c (.int 5))) (.cmp .Eq (.v 2) (.lst .z)))
  (.k (.retv 4)
  .z)
  .z)
 (.k (.ret (.idx (.v 2) (.op .Mod (.call 7 (.k (.v 1) (.k (.c (.int 4)) .z))) (.bi .len (.k (.v 2) .z)))))
 .z))))))))))⟩
noncomputable def f30:Hp.Fn:=⟨3,12,
 (.k (.set (.n 3) (.lst (.k (.tup (.k (.v 2) (.k (.op .Mult (.tup (.k (.c (.int 0)) .z)) (.bi .len (.k (.idx (.v 0) (.c (.int 2))) .z))) .z))) .z)))
 (.k (.set (.n 4) (.lst .z))
 (.k (.for (.n 5) (.seq (.call 26 (.k (.v 1) (.k (.c (.int 30)) (.k (.c (.int 63)) .z)))))
  (.k (.set (.n 6) (.lst .z))
  (.k (.for (.n 7) (.rng (.c (.int 0)) (.bi .len (.k (.idx (.v 0) (.c (.int 2))) .z)))
   (.k (.for (.n 8) (.rng (.c (.int 0)) (.c (.int 4)))
    (.k (.set (.n 9) (.call 18 (.k (.v 0) (.k (.idx (.v 3) (.neg (.c (.int 1)))) (.k (.tup (.k (.v 7) (.k (.v 8) .z))) .z)))))
    (.k (.iff (.cmp .IsNot (.v 9) (.c .non))
     (.k (.app 6 (.tup (.k (.tup (.k (.v 7) (.k (.v 8) .z))) (.k (.v 9) .z))))
     .z)
     .z)
    .z)))
   .z))
  (.k (.iff (.cmp .NotEq (.v 6) (.lst .z))
   (.k (.set (.t [10,11]) (.idx (.v 6) (.op .Mod (.call 7 (.k (.v 5) (.k (.c (.int 5)) .z))) (.bi .len (.k (.v 6) .z)))))
   (.k (.app 4 (.v 10))
   (.k (.app 3 (.v 11))
   .z)))
   .z)
  .z))))
 (.k (.ret (.tup (.k (.v 3) (.k (.v 4) .z))))
 .z))))⟩
noncomputable def f31:Hp.Fn:=⟨3,6,
 (.k (.set (.n 3) (.lst (.k (.tup (.k (.neg (.c (.int 1))) (.k (.c (.int 0)) .z))) (.k (.tup (.k (.bi .len (.k (.idx (.v 0) (.c (.int 2))) .z)) (.k (.c (.int 0)) .z))) (.k (.tup (.k (.c (.int 0)) (.k (.neg (.c (.int 1))) .z))) (.k (.tup (.k (.c (.int 0)) (.k (.c (.int 4)) .z))) (.k (.tup (.k (.op .Add (.op .Mod (.v 2) (.op .Pow (.c (.int 10)) (.c (.int 30)))) (.c (.int 3))) (.k (.c (.int 1)) .z))) .z)))))))
 (.k (.for (.n 4) (.rng (.c (.int 0)) (.bi .len (.k (.idx (.v 0) (.c (.int 2))) .z)))
  (.k (.for (.n 5) (.rng (.c (.int 0)) (.c (.int 4)))
   (.k (.iff (.cmp .Is (.call 18 (.k (.v 0) (.k (.v 1) (.k (.tup (.k (.v 4) (.k (.v 5) .z))) .z)))) (.c .non))
    (.k (.set (.n 3) (.op .Add (.v 3) (.op .Mult (.lst (.k (.tup (.k (.v 4) (.k (.v 5) .z))) .z)) (.c (.int 3)))))
    .z)
    .z)
   .z))
  .z))
 (.k (.ret (.idx (.v 3) (.op .Mod (.call 7 (.k (.v 2) (.k (.c (.int 6)) .z))) (.bi .len (.k (.v 3) .z)))))
 .z)))⟩
noncomputable def pg:Hp.Pg:=⟨[f0,f1,f2,f3,f4,f5,f6,f7,f8,f9,f10,f11,f12,f13,f14,f15,f16,f17,f18,f19,f20,f21,f22,f23,f24,f25,f26,f27,f28,f29,f30,f31],[("NoStart",[.own "NoStart",.own "PromiseError",.tValueError]),("NoStep",[.own "NoStep",.own "PromiseError",.tValueError])],[]⟩
end K21
end
noncomputable section
namespace K21
open Hp HpS PySem
def mix(c k:Int):Int:=(c % 99991+1)*(48271+2018*k*k) % 65521
theorem uS(c k:Int):0<=mix c k:=Bl _ (by decide)
theorem bW(n:Nat)(c:Int)(h0:0<=k)(h1:k<=1000):call pg (n+1) 7 [.int c,.int k]=.ok (.int (mix c k),false,false):=by
 have r0:0<=c % 99991:=Bl _ (by decide);have r1:c % 99991<99991:=Be _ (by decide);have m1:opD .Mult (.cl (.int 2018)) (.cl (.int k))=.ok (.cl (.int (2018*k))):=mul_int (by
  simp only[eZ,A9,bA,Am];right;omega)
 have m2:opD .Mult (.cl (.int (2018*k))) (.cl (.int k))=.ok (.cl (.int (2018*k*k))):=mul_int (by
  simp only[eZ,A9,bA,Am];right;omega)
 have m3:opD .Mult (.cl (.int (c % 99991+1))) (.cl (.int (48271+2018*k*k)))=.ok (.cl (.int ((c % 99991+1)*(48271+2018*k*k)))):=mul_int (by
  simp only[eZ,A9,bA,Am];left;omega)
 have d1:∀i:Int,opD .Mod (.cl (.int i)) (.cl (.int 99991))=.ok (.cl (.int (i % 99991))):=λi=>jN (by decide);have d2:∀i:Int,opD .Mod (.cl (.int i)) (.cl (.int 65521))=.ok (.cl (.int (i % 65521))):=λi=>jN (by decide);refine aH (F:=f7) rfl rfl (v:=.cl (.int (mix c k))) ?_;simp only[f7,mC,mN,Dc,C6,aN,cS,cT,bO,cF,bB,gS,gZ,aR,aA,d1,add_int,m1,m2,m3,d2,aT,fO];rfl
def cellAt(ns:List Int)(k:Nat):Int:=if k<ns.length then ns.getD k 0 else 71*(k:Int)*k+7*k
theorem dF(n:Nat)(ns:List Int){k:Nat}(h:k<=1000):call pg (n+1) 5 [.lst (ns.map D.int),.int k]=.ok (.int (cellAt ns k),false,false):=by
 have m1:opD .Mult (.cl (.int 71)) (.cl (.int k))=.ok (.cl (.int (71*k))):=mul_int (by
  simp only[eZ,A9,bA,Am];right;omega)
 have m2:opD .Mult (.cl (.int (71*k))) (.cl (.int k))=.ok (.cl (.int (71*k*k))):=mul_int (by
  simp only[eZ,A9,bA,Am];right;omega)
 have m3:opD .Mult (.cl (.int 7)) (.cl (.int k))=.ok (.cl (.int (7*k))):=mul_int (by
  simp only[eZ,A9,bA,Am];right;omega)
 have hl:((ns.map D.int).length:Int)=(ns.length:Int):=by simp
 refine aH (F:=f5) rfl rfl (v:=.cl (.int (cellAt ns k))) ?_;unfold cellAt;by_cases hk:k<ns.length;have i1:=aBd (v:=⟨.lst (ns.map D.int),false,true,[]⟩) (is:=ns) rfl hk;have hd:decide ((k:Int)<(ns.length:Int))=true:=Aj (by omega);simp only[f5,mC,mN,Dc,C6,aN,cG,bY,fP,aB,aE,cS,cR,bO,cF,bB,gS,gZ,aR,dX,aA,cA,aX,hl,mT,hd,aT,if_true,i1,fO,hk];have hd:decide ((k:Int)<(ns.length:Int))=false:=An (by omega);simp only[f5,mC,mN,Dc,C6,aN,aZ,cG,bY,fP,aB,aE,cS,cT,bO,cF,bB,gS,gZ,aR,dX,aA,cA,aX,hl,mT,hd,aT,bF,if_false,m1,m2,m3,add_int,iT,fO,hk]
section
variable {P:Pg} {cl:Caller} {σ:Sg}
theorem aBe(σ:Sg)(ha:noL a=true)(hb:noL b=true):bT σ (.cl (.tup [a,b])) (.t [i,j])=.ok ((σ.set i (.sh false a)).set j (.sh false b)):=by unfold bT;simp only[aX,lC,lN,if_true,Bd,D9,B2,List.foldl_nil,bR ha,bR hb,cC]
theorem aMB(σ:Sg):bT σ (.cl d) (.n i)=.ok (σ.set i (.sh false d)):=by rw[eF,cC]
theorem uT{x y z:Vl}(h1:ev P cl σ a=.ok x)(h2:ev P cl σ b=.ok y)(h3:ev P cl σ c=.ok z)(hc:cl f [x.d,y.d,z.d]=.ok (.bl k,false,false)):tst P cl σ (.call f (.k a (.k b (.k c .z))))=.ok k:=by
 have e:evs P cl σ (.k a (.k b (.k c .z)))=.ok [x,y,z]:=by rw[aB,h1,aA,aB,h2,aA,aB,h3,aA,aE];rfl
 rw[iU,e,aA,show [x,y,z].map (·.d)=[x.d,y.d,z.d] from rfl,hc];rfl
theorem nN(h:tst P cl σ a=.ok k):tst P cl σ (.nt a)=.ok (!k):=by rw[mR,h];rfl
theorem dB{x y:Vl}(h1:ev P cl σ a=.ok x)(h2:ev P cl σ b=.ok y)(hc:cl f [x.d,y.d]=.ok (d,false,false)):ev P cl σ (.call f (.k a (.k b .z)))=.ok (.cl d):=by
 have e:evs P cl σ (.k a (.k b .z))=.ok [x,y]:=by rw[aB,h1,aA,aB,h2,aA,aE];rfl
 rw[aU,e,aA,show [x,y].map (·.d)=[x.d,y.d] from rfl,hc];rfl
theorem eX(h1:ev P cl σ a=.ok (.cl x))(h2:ev P cl σ b=.ok (.cl y)):ev P cl σ (.tup (.k a (.k b .z)))=.ok (.cl (.tup [x,y])):=by rw[eN,aB,h1,aA,aB,h2];rfl
end
theorem xM{v:Vl}{α:Type}{f:α->D}{xs:List α}{k:Nat}{x:α}(hv:v.d=.lst (xs.map f))(hx:xs[k]? = some x):bK v (.cl (.int (k:Int)))=.ok (Vl.sub v (f x)):=by
 have hk:k<(xs.map f).length:=by rw[lM];exact(Ay.mp hx).1
 have e:(xs.map f)[k]? = some (f x):=by rw[A5,hx];rfl
 unfold bK;simp only[hv,aX,dA hk,e]
section
variable {P:Pg} {cl:Caller} {σ σ':Sg}
theorem aMC{v:Vl}{ds:List D}(h:ev P cl σ e=.ok v)(hi:(freeze σ v.al)[i]? = some (.own pa ds))(hl:ds.length<lim):ex P cl σ (.app i e)=.next ((freeze σ v.al).set i (.own (pa||v.pa) (ds++[v.d]))):=by
 have ll:(ds++[v.d]).length<=lim:=by rw[lA];exact hl
 rw[uI,h];show O.from σ (R.ok v) _=_;rw[aT];unfold put kX;rw[hi];show(if (ds++[v.d]).length<=lim then O.next _ else .bad)=_;rw[if_pos ll]
theorem iZ{v:Vl}{ds ds':List D}(h:ev P cl σ e=.ok v)(hi:(freeze σ v.al)[i]? = some (.own false ds))(hl:ds.length<lim)(hp:v.pa=false)(he:ds'=ds++[v.d]):ex P cl σ (.app i e)=.next ((freeze σ v.al).set i (.own false ds')):=by rw[aMC h hi hl,hp,he];rfl
theorem dY(h:ev P cl σ e=.ok ⟨.lst ds,true,false,[]⟩):ex P cl σ (.set (.n i) e)=.next (σ.set i (.own false ds)):=by rw[cD,h];rfl
theorem aGL(h:tst P cl σ c=.ok true)(r:exs P cl σ a=.next σ'):ex P cl σ (.iff c a b)=.next σ':=by rw[cG,h,aT,if_pos rfl,r]
theorem fM{x y:Vl}(h:ev P cl σ a=.ok x)(g:ev P cl σ b=.ok y)(e:dD o x.d y.d=some k):tst P cl σ (.cmp o a b)=.ok k:=by rw[bY,h,aA,g,aA,e]
end
theorem aMD(h:ex P cl σ s=.ret v):exs P cl σ (.k s ss)=.ret v:=by rw[aN,h];rfl
theorem aBf{x:Vl}(h1:ev P cl σ a=.ok x)(hc:cl f [x.d]=.ok (d,fr,false)):ev P cl σ (.call f (.k a .z))=.ok ⟨d,fr,false,[]⟩:=by
 have e:evs P cl σ (.k a .z)=.ok [x]:=by rw[aB,h1];rfl
 rw[aU,e,aA,show [x].map (·.d)=[x.d] from rfl,hc];rfl
section
variable {P:Pg} {cl:Caller} {σ σ':Sg}
theorem aME(σ:Sg)(ha:noL a=true)(hb:noL b=true)(hc:noL c=true):bT σ (.cl (.tup [a,b,c])) (.t [i,j,k])=.ok (((σ.set i (.sh false a)).set j (.sh false b)).set k (.sh false c)):=by unfold bT;simp only[aX,lC,lN,if_true,Bd,D9,B2,List.foldl_nil,bR ha,bR hb,bR hc,cC]
theorem aEE(h:tst P cl σ a=.ok true):tst P cl σ (.orr a b)=.ok true:=by rw[uH,h];rfl
theorem sC(h:tst P cl σ a=.ok false)(g:tst P cl σ b=.ok k):tst P cl σ (.orr a b)=.ok k:=by rw[uH,h,aA,if_neg bN,g]
theorem fQ{x y z:Vl}(h1:ev P cl σ a=.ok x)(h2:ev P cl σ b=.ok y)(h3:ev P cl σ c=.ok z)(hc:cl f [x.d,y.d,z.d]=.ok (d,true,false)):ev P cl σ (.call f (.k a (.k b (.k c .z))))=.ok ⟨d,true,false,[]⟩:=by
 have e:evs P cl σ (.k a (.k b (.k c .z)))=.ok [x,y,z]:=by rw[aB,h1,aA,aB,h2,aA,aB,h3,aA,aE];rfl
 rw[aU,e,aA,show [x,y,z].map (·.d)=[x.d,y.d,z.d] from rfl,hc];rfl
theorem pU{x y:Vl}(h1:ev P cl σ a=.ok x)(h2:ev P cl σ b=.ok y)(hc:cl f [x.d,y.d]=.ok (d,true,false)):ev P cl σ (.call f (.k a (.k b .z)))=.ok ⟨d,true,false,[]⟩:=by
 have e:evs P cl σ (.k a (.k b .z))=.ok [x,y]:=by rw[aB,h1,aA,aB,h2,aA,aE];rfl
 rw[aU,e,aA,show [x,y].map (·.d)=[x.d,y.d] from rfl,hc];rfl
theorem aBg{x y z w u:Vl}(h1:ev P cl σ a=.ok x)(h2:ev P cl σ b=.ok y)(h3:ev P cl σ c=.ok z)(h4:ev P cl σ e=.ok w)(h5:ev P cl σ g=.ok u)(hc:cl f [x.d,y.d,z.d,w.d,u.d]=.ok (d,false,false)):ev P cl σ (.call f (.k a (.k b (.k c (.k e (.k g .z))))))=.ok (.cl d):=by
 have e:evs P cl σ (.k a (.k b (.k c (.k e (.k g .z)))))=.ok [x,y,z,w,u]:=by rw[aB,h1,aA,aB,h2,aA,aB,h3,aA,aB,h4,aA,aB,h5,aA,aE];rfl
 rw[aU,e,aA,show [x,y,z,w,u].map (·.d)=[x.d,y.d,z.d,w.d,u.d] from rfl,hc];rfl
theorem aAa(h:ev P cl σ e=.ok (.cl d))(k:bT σ (.cl d) t=.ok σ'):ex P cl σ (.set t e)=.next σ':=by rw[cD,h,aT,dU,bZ,k];rfl
theorem aAb(h:ev P cl σ e=.ok ⟨d,false,true,[]⟩):ex P cl σ (.set (.n i) e)=.next (σ.set i (.sh true d)):=by rw[cD,h];rfl
theorem uU(hw:walk P cl σ it=.ok (xs,[])):ex P cl σ (.for t it b)=dP (λσ x=>O.from σ (bT σ x t) λσ'=>exs P cl σ' b) xs σ:=by rw[zW,hw];rfl
theorem xN{x y:Vl}(h1:ev P cl σ a=.ok x)(h2:ev P cl σ b=.ok y)(hc:cl f [x.d,y.d]=.ok (d,false,true))(hp:fA [x,y]=true)(ha:cN [x,y]=[]):ev P cl σ (.call f (.k a (.k b .z)))=.ok ⟨d,false,true,[]⟩:=by
 have e:evs P cl σ (.k a (.k b .z))=.ok [x,y]:=by rw[aB,h1,aA,aB,h2,aA,aE];rfl
 rw[aU,e,aA,show [x,y].map (·.d)=[x.d,y.d] from rfl,hc,aA];show R.ok (⟨d,false,fA [x,y],cN [x,y]⟩:Vl)=_;rw[hp,ha]
theorem aBh{i j:Nat}{k e:E}{acc:List Int}{v:Int}(he:ev P cl σ e=.ok (.cl (.int v)))(hk:ev P cl σ k=.ok (.cl (.int (j:Int))))(hi:σ[i]? = some (.own false (acc.map D.int)))(hj:j<acc.length)(hl:acc.length<=100):ex P cl σ (.setIx i k e)=.next (σ.set i (.own false ((acc.set j v).map D.int))):=by
 have hx:ixN acc.length (j:Int)=some j:=dA hj;have hll:acc.length<=lim:=by unfold lim;omega
 simp only[aEB,he,hk,R.calm,aT,aX,put,dU,bZ,kX,hi,lM,hx,Aw,hll,if_true,aHu,Bool.or_false,List.map_set]
end
theorem aJC[Decidable p][Decidable q](h:¬ (p/\q)):(decide p&&decide q)=false:=by
 cases z:(decide p&&decide q) with
 | false=>rfl|true=>simp only[bA,Am] at z;exact absurd z h
theorem aJD[Decidable p][Decidable q](h:p/\q):(decide p&&decide q)=true:=by rw[Aj h.1,Aj h.2];rfl
theorem xO(st:List Int):biD .list [.cl (aD st)]=.ok ⟨.lst (st.map D.int),true,false,[]⟩:=by show R.ok (Vl.mk (.lst (st.map D.int)) true (false&&!noLs (st.map D.int)) (if noLs (st.map D.int)=true then [] else []))=_;rw[dS];rfl
theorem mX(h0:0<=i)(h:i<1000000):wt (.int i)=10:=by unfold wt;rw[if_pos (by omega)]
theorem aEF:wt (.str "number")=8/\wt (.str "box")=5/\wt (.str "after")=7/\wt (.str "yes")=5/\wt (.str "not")=5:=by decide +kernel
theorem aOo:∀p,wt (.str (qX p))<=7:=by decide +kernel
theorem aOp:∀p,wt (.str (pS p))<=6:=by decide +kernel
theorem aOq:∀p,wt (.str (iY p))<=8:=by decide +kernel
theorem xP(hc:c<=5):∀s:Sm,s.wf c pl->wt s.d<=30*s.sz
 | .num i,w=>by obtain⟨w0,w1⟩:0<=i/\i<=99:=w;show wt (.tup [.str "number",.int i])<=30*1;simp only[wt.eq_5,wts,aEF.1,mX w0 (by omega)];omega|.box k,w=>by have w:k<c:=w;show wt (.tup [.str "box",.int k])<=30*1;simp only[wt.eq_5,wts,aEF.2.1,mX (i:=(k:Int)) (by omega) (by omega)];omega|.aft k,w=>by have w:k<c:=w.1;show wt (.tup [.str "after",.int k])<=30*1;simp only[wt.eq_5,wts,aEF.2.2.1,mX (i:=(k:Int)) (by omega) (by omega)];omega|.two p a b,w=>by have h1:=xP hc a w.1;have h2:=xP hc b w.2;have h3:=aOo p;show wt (.tup [.str (qX p),a.d,b.d])<=30*(1+a.sz+b.sz);simp only[wt.eq_5,wts];omega
theorem pV(hc:c<=5):∀s:Cn,s.wf c pl->wt s.d<=30*s.sz
 | .yes,w=>by show wt (.tup [.str "yes"])<=30*1;simp only[wt.eq_5,wts,aEF.2.2.2.1];omega|.cmp i a b,w=>by have h1:=xP hc a w.1;have h2:=xP hc b w.2;have h3:=aOp i;show wt (.tup [.str (pS i),a.d,b.d])<=30*(1+a.sz+b.sz);simp only[wt.eq_5,wts];omega|.nt x,w=>by have h1:=pV hc x w;show wt (.tup [.str "not",x.d])<=30*(1+x.sz);simp only[wt.eq_5,wts,aEF.2.2.2.2];omega|.two p a b,w=>by have h1:=pV hc a w.1;have h2:=pV hc b w.2;have h3:=aOq p;show wt (.tup [.str (iY p),a.d,b.d])<=30*(1+a.sz+b.sz);simp only[wt.eq_5,wts];omega
theorem dZ(j:Int)(h:0<j):∀i:Int,opD .Mod (.cl (.int i)) (.cl (.int j))=.ok (.cl (.int (i % j))):=λi=>jN h
theorem aEG(i:Int):i % 2=0\/i % 2=1:=by omega
theorem aBi{v:Vl}(hv:v.d=.lst [.str a,.str b])(h:i=0\/i=1):bK v (.cl (.int i))=.ok (.cl (.str (if i=0 then a else b))):=by unfold bK;rw[hv];rcases h with rfl|rfl <;> rfl
theorem aGM(a b:Str):nB [.cl (.str a),.cl (.str b)]=⟨.lst [.str a,.str b],true,false,[]⟩:=rfl
theorem aOr(a b c:Int):nB [.cl (.int a),.cl (.int b),.cl (.int c)]=⟨.lst [.int a,.int b,.int c],true,false,[]⟩:=rfl
theorem aMF{v:Vl}(hv:v.d=.lst [.int a,.int b,.int c])(h0:0<=i)(h:i<3):bK v (.cl (.int i))=.ok (.cl (.int (if i=0 then a else if i=1 then b else c))):=by
 unfold bK;rw[hv];have:i=0\/i=1\/i=2:=by omega
 rcases this with rfl|rfl|rfl <;> rfl
theorem aAc(b:Bool):biD .int [.cl (.bl b)]=.ok (.cl (.int (b2i b))):=rfl
theorem aCp(a b:D):kW [.cl a,.cl b]=.cl (.tup [a,b]):=rfl
theorem aGN(a b c:D):kW [.cl a,.cl b,.cl c]=.cl (.tup [a,b,c]):=rfl
theorem aBj(h1:ev P cl σ a=.ok (.cl (.bl x)))(h2:ev P cl σ b=.ok (.cl (.bl y))):ev P cl σ (.an a b)=.ok (.cl (.bl (x&&y))):=by
 rw[aHt,h1];cases x with
 | true=>exact h2|false=>rfl
theorem pW(n:Nat)(c:Int)(h0:0<=k)(h1:k<=900)(hm:1<=m)(af:Bool)(hd:dp<=0\/mix c k % 7<=3):∃s:Sm,s.wf m (!af)/\s.sz=1/\call pg (n+2) 9 [.int c,.int k,.int m,.bl af,.int dp]=.ok (s.d,false,false):=by
 have x0:=bW n c h0 (by omega);have x1:=bW n c (k:=k+1) (by omega) (by omega);have x2:=bW n c (k:=k+2) (by omega) (by omega);have n1:=uS c (k+1);have mm:=dZ (m:Int) (by omega);have ht:tst pg (call pg (n+1)) [.sh true (.int c),.sh true (.int k),.sh true (.int m),.sh true (.bl af),.sh true (.int dp),.sh false (.int (mix c k % 7)),.x] (.an (.cmp .Gt (.v 4) (.c (.int 0))) (.cmp .Gt (.v 5) (.c (.int 3))))=.ok false:=by
  simp only[kQ,bY,bO,cF,bB,gS,gZ,aR,aA,aX,pP];cases q:decide (0<dp) with
  | false=>rfl|true=>have q:=Au q;rw[if_pos rfl,An (by omega)]
 by_cases hz:mix c k % 7=0;have hz':(mix c k % 7==0)=true:=by rw[hz];rfl
 have p3:=aMF (a:=3) (b:=9) (c:=100) (v:=⟨.lst [.int 3,.int 9,.int 100],true,false,[]⟩) rfl (i:=mix c (k+2) % 3) (by omega) (by omega);have hq:∃q:Int,(if mix c (k+2) % 3=0 then (3:Int) else if mix c (k+2) % 3=1 then 9 else 100)=q/\0<q/\q<=100:=⟨_,rfl,by split <;> (try split) <;> decide,by split <;> (try split) <;> decide⟩
 obtain⟨q,hq,q0,q1⟩:=hq;rw[hq] at p3;refine⟨.num (mix c (k+1) % q),⟨Bl _ (by omega),by have:=Be (mix c (k+1)) q0;omega⟩,rfl,?_⟩;refine aH (F:=f9) rfl rfl (v:=.cl (Sm.d (.num (mix c (k+1) % q)))) ?_;show exs pg (call pg (n+1)) [.sh true (.int c),.sh true (.int k),.sh true (.int m),.sh true (.bl af),.sh true (.int dp),.x,.x] _=_;simp only[f9,aN,aZ,cD,cT,aU,aB,aE,bO,cF,bB,gS,gZ,aR,aA,mC,mN,aX,x0,bS,dZ 7 (by decide),aT,dU,bZ,eF,cC,lS,lZ,iT,cG,ht,bF,if_false,bY,eO,cU,hz',if_true,cS,eN,add_int,x1,x2,dZ 3 (by decide),cR,eW,aOr,p3,dZ q q0,aCp,fO,Sm.d];have hz':(mix c k % 7==0)=false:=Bb.mpr hz;have hb:∃b:Bool,(af&&(mix c k % 7 % 2==1))=b:=⟨_,rfl⟩
 obtain⟨b,hb⟩:=hb;have p2:=aBi (a:= "box") (b:= "after") (v:=⟨.lst [.str "box",.str "after"],true,false,[]⟩) rfl (i:=b2i b) (by cases b <;> simp[b2i]);have hk:mix c (k+1) % (m:Int)=((mix c (k+1) % (m:Int)).toNat:Int):=by rw[Bs (Bl _ (by omega))]
 have hlt:(mix c (k+1) % (m:Int)).toNat<m:=by have:=Be (mix c (k+1)) (show(0:Int)<m by omega);omega
 have hs:∃s:Sm,s.wf m (!af)/\s.sz=1/\D.tup [.str (if b2i b=0 then "box" else "after"),.int (mix c (k+1) % (m:Int))]=s.d:=by
  cases b with
  | false=>exact⟨.box (mix c (k+1) % (m:Int)).toNat,hlt,rfl,by rw[hk];rfl⟩|true=>
   have ha:af=true:=by cases af <;> first|rfl|cases hb
   exact⟨.aft (mix c (k+1) % (m:Int)).toNat,⟨hlt,by rw[ha];rfl⟩,rfl,by rw[hk];rfl⟩
 obtain⟨s,s1,s2,s3⟩:=hs;refine⟨s,s1,s2,?_⟩;have e:ev pg (call pg (n+1)) [.sh true (.int c),.sh true (.int k),.sh true (.int m),.sh true (.bl af),.sh true (.int dp),.sh false (.int (mix c k % 7)),.x] (.an (.v 3) (.cmp .Eq (.op .Mod (.v 5) (.c (.int 2))) (.c (.int 1))))=.ok (.cl (.bl b)):=by rw[<-hb];refine aBj rfl ?_;simp only[uF,cT,bO,cF,bB,gS,gZ,aR,aA,dZ 2 (by decide),aX,eO,cU]
 refine aH (F:=f9) rfl rfl (v:=.cl s.d) ?_;show exs pg (call pg (n+1)) [.sh true (.int c),.sh true (.int k),.sh true (.int m),.sh true (.bl af),.sh true (.int dp),.x,.x] _=_;simp only[f9,aN,aZ,cD,cT,aU,aB,aE,bO,cF,bB,gS,gZ,aR,mS,aA,mC,mN,aX,x0,bS,dZ 7 (by decide),aT,dU,bZ,eF,cC,lS,lZ,iT,cG,ht,bF,if_false,bY,eO,cU,hz',cS,eN,e,add_int,x1,fP,cR,eW,aGM,mm,aAc,p2,aCp,s3,fO]
theorem pX(n:Nat)(c:Int)(h0:0<=k)(h1:k<=800)(hm:1<=m)(af:Bool):∃s:Sm,s.wf m (!af)/\s.sz<=3/\call pg (n+3) 9 [.int c,.int k,.int m,.bl af,.int 1]=.ok (s.d,false,false):=by
 by_cases hb:mix c k % 7<=3;obtain⟨s,a,b,e⟩:=pW (n+1) c h0 (by omega) hm af (dp:=1) (.inr hb);exact⟨s,a,by omega,e⟩;obtain⟨s,s1,s2,s3⟩:=pW n c (k:=k+3) (by omega) (by omega) hm af (dp:=1-1) (.inl (by decide));obtain⟨t,t1,t2,t3⟩:=pW n c (k:=k+7) (by omega) (by omega) hm af (dp:=1-1) (.inl (by decide));have x0:=bW (n+1) c h0 (by omega);have hd:decide ((3:Int)<mix c k % 7)=true:=Aj (by omega);have hd1:decide ((0:Int)<1)=true:=rfl;have p2:=aBi (a:= "plus") (b:= "minus") (v:=⟨.lst [.str "plus",.str "minus"],true,false,[]⟩) rfl (aEG (mix c k % 7));have v6:∀i,Sl.val i (.sh false s.d)=.ok (.cl s.d):=λi=>rfl;have hw:(if mix c k % 7 % 2=0 then ("plus" : Str) else "minus")=qX (decide (mix c k % 7 % 2=0)):=by unfold qX;by_cases h:mix c k % 7 % 2=0 <;> simp[h]
 rw[hw] at p2;refine⟨.two (decide (mix c k % 7 % 2=0)) s t,⟨s1,t1⟩,by show 1+s.sz+t.sz<=3;omega,?_⟩;refine aH (F:=f9) rfl rfl (v:=.cl (Sm.d (.two (decide (mix c k % 7 % 2=0)) s t))) ?_;show exs pg (call pg (n+2)) [.sh true (.int c),.sh true (.int k),.sh true (.int m),.sh true (.bl af),.sh true (.int 1),.x,.x] _=_;simp only[f9,aN,aZ,cD,cT,aU,aB,aE,bO,cF,bB,gS,gZ,aR,mS,dW,aA,mC,mN,aX,x0,bS,dZ 7 (by decide),aT,dU,bZ,eF,cC,lS,lZ,iT,cG,kQ,bY,pP,hd,hd1,if_true,add_int,sub_int,s3,t3,cS,eN,cR,eW,aGM,dZ 2 (by decide),p2,aGN,fO,Sm.d]
def drp:Nat->Ss->Ss
 | 0,s=>s|n+1,.k _ s=>drp n s|_+1,.z=>.z
def hdS:Ss->S
 | .k s _=>s|.z=>.pass
theorem stp(h:ex P cl σ s=.next σ'):exs P cl σ (.k s ss)=exs P cl σ' ss:=by rw[aN,h,iT]
theorem aMG(a:D):kW [.cl a]=.cl (.tup [a]):=rfl
theorem jO(n:Nat)(c:Int)(h0:0<=k)(h1:k<=700)(hm:1<=m)(af:Bool)(hd:dp<=0\/mix c k % 9<=5):∃q:Cn,q.wf m (!af)/\q.sz<=7/\call pg (n+4) 10 [.int c,.int k,.int m,.bl af,.int dp]=.ok (q.d,false,false):=by
 have x0:=bW (n+2) c h0 (by omega);obtain⟨s,s1,s2,s3⟩:=pX n c (k:=k+1) (by omega) (by omega) hm af;obtain⟨t,t1,t2,t3⟩:=pX n c (k:=k+4) (by omega) (by omega) hm af;have ht:tst pg (call pg (n+3)) [.sh true (.int c),.sh true (.int k),.sh true (.int m),.sh true (.bl af),.sh true (.int dp),.sh false (.int (mix c k % 9)),.x] (.an (.cmp .Gt (.v 4) (.c (.int 0))) (.cmp .Gt (.v 5) (.c (.int 5))))=.ok false:=by
  simp only[kQ,bY,bO,cF,bB,gS,gZ,aR,aA,aX,pP];cases q:decide (0<dp) with
  | false=>rfl|true=>have q:=Au q;rw[if_pos rfl,An (by omega)]
 by_cases hz:mix c k % 9=0;have hz':(mix c k % 9==0)=true:=by rw[hz];rfl
 refine⟨.yes,trivial,by decide,?_⟩;refine aH (F:=f10) rfl rfl (v:=.cl (Cn.d .yes)) ?_;show exs pg (call pg (n+3)) [.sh true (.int c),.sh true (.int k),.sh true (.int m),.sh true (.bl af),.sh true (.int dp),.x,.x] _=_;simp only[f10,aN,aZ,cD,cT,aU,aB,aE,bO,cF,bB,gS,gZ,aR,aA,mC,mN,aX,x0,bS,dZ 9 (by decide),aT,dU,bZ,eF,cC,lS,lZ,iT,cG,bY,eO,cU,hz',if_true,cS,eN,aMG,fO,Cn.d];have hz':(mix c k % 9==0)=false:=Bb.mpr hz;have p2:=aBi (a:= "is") (b:= "less") (v:=⟨.lst [.str "is",.str "less"],true,false,[]⟩) rfl (aEG (mix c k % 9));have hw:(if mix c k % 9 % 2=0 then ("is" : Str) else "less")=pS (decide (mix c k % 9 % 2=0)):=by unfold pS;by_cases h:mix c k % 9 % 2=0 <;> simp[h]
 rw[hw] at p2;refine⟨.cmp (decide (mix c k % 9 % 2=0)) s t,⟨s1,t1⟩,by show 1+s.sz+t.sz<=7;omega,?_⟩;refine aH (F:=f10) rfl rfl (v:=.cl (Cn.d (.cmp (decide (mix c k % 9 % 2=0)) s t))) ?_;show exs pg (call pg (n+3)) [.sh true (.int c),.sh true (.int k),.sh true (.int m),.sh true (.bl af),.sh true (.int dp),.x,.x] _=_;simp only[f10,aN,aZ,cD,cT,aU,aB,aE,bO,cF,bB,gS,gZ,aR,mS,dW,aA,mC,mN,aX,x0,bS,dZ 9 (by decide),aT,dU,bZ,eF,cC,lS,lZ,iT,cG,ht,bF,if_false,bY,eO,cU,hz',add_int,s3,t3,cS,eN,cR,eW,aGM,dZ 2 (by decide),p2,aGN,fO,Cn.d]
theorem mY(n:Nat)(c:Int)(h0:0<=k)(h1:k<=600)(hm:1<=m)(af:Bool):∃q:Cn,q.wf m (!af)/\q.sz<=15/\call pg (n+5) 10 [.int c,.int k,.int m,.bl af,.int 1]=.ok (q.d,false,false):=by
 by_cases hb:mix c k % 9<=5;obtain⟨q,a,b,e⟩:=jO (n+1) c h0 (by omega) hm af (dp:=1) (.inr hb);exact⟨q,a,by omega,e⟩;have x0:=bW (n+3) c h0 (by omega);obtain⟨s,s1,s2,s3⟩:=jO n c (k:=k+9) (by omega) (by omega) hm af (dp:=1-1) (.inl (by decide));obtain⟨t,t1,t2,t3⟩:=jO n c (k:=k+23) (by omega) (by omega) hm af (dp:=1-1) (.inl (by decide));have hd:decide ((5:Int)<mix c k % 9)=true:=Aj (by omega);have hd1:decide ((0:Int)<1)=true:=rfl;have hz':(mix c k % 9==0)=false:=Bb.mpr (by omega);by_cases h6:mix c k % 9=6;have h6':(mix c k % 9==6)=true:=by rw[h6];rfl
 refine⟨.nt s,s1,by show 1+s.sz<=15;omega,?_⟩;refine aH (F:=f10) rfl rfl (v:=.cl (Cn.d (.nt s))) ?_;show exs pg (call pg (n+4)) [.sh true (.int c),.sh true (.int k),.sh true (.int m),.sh true (.bl af),.sh true (.int 1),.x,.x] _=_;simp only[f10,aN,aZ,cD,cT,aU,aB,aE,bO,cF,bB,gS,gZ,aR,mS,dW,aA,mC,mN,aX,x0,bS,dZ 9 (by decide),aT,dU,bZ,eF,cC,lS,lZ,iT,cG,kQ,bY,pP,eO,cU,hz',bF,if_false,hd,hd1,if_true,add_int,sub_int,s3,h6',cS,eN,aCp,fO,Cn.d];have h6':(mix c k % 9==6)=false:=Bb.mpr h6;have p2:=aBi (a:= "both") (b:= "either") (v:=⟨.lst [.str "both",.str "either"],true,false,[]⟩) rfl (i:=mix c k % 9-7) (by omega);have hw:(if mix c k % 9-7=0 then ("both" : Str) else "either")=iY (decide (mix c k % 9-7=0)):=by unfold iY;by_cases h:mix c k % 9-7=0 <;> simp[h]
 rw[hw] at p2;refine⟨.two (decide (mix c k % 9-7=0)) s t,⟨s1,t1⟩,by show 1+s.sz+t.sz<=15;omega,?_⟩;refine aH (F:=f10) rfl rfl (v:=.cl (Cn.d (.two (decide (mix c k % 9-7=0)) s t))) ?_;show exs pg (call pg (n+4)) [.sh true (.int c),.sh true (.int k),.sh true (.int m),.sh true (.bl af),.sh true (.int 1),.x,.x] _=_;simp only[f10,aN,aZ,cD,cT,aU,aB,aE,bO,cF,bB,gS,gZ,aR,mS,dW,aA,mC,mN,aX,x0,bS,dZ 9 (by decide),aT,dU,bZ,eF,cC,lS,lZ,iT,cG,kQ,bY,pP,eO,cU,hz',bF,if_false,hd,hd1,if_true,add_int,sub_int,s3,t3,h6',cS,eN,cR,eW,aGM,p2,aGN,fO,Cn.d]
theorem xQ(n:Nat)(c:Int)(hm:1<=m):∃q:Cn,q.wf m false/\q.sz<=15/\call pg (n+6) 13 [.int c,.int m]=.ok (q.d,false,false):=by
 have x3:=bW (n+4) c (k:=3) (by decide) (by decide);have x4:=bW (n+4) c (k:=4) (by decide) (by decide);obtain⟨q,q1,q2,q3⟩:=mY n c (k:=5) (by decide) (by decide) hm true;obtain⟨b,hk,hlt⟩:∃b:Nat,mix c 4 % (m:Int)=(b:Int)/\b<m:=⟨(mix c 4 % (m:Int)).toNat,by rw[Bs (Bl _ (by omega))],by have:=Be (mix c 4) (show(0:Int)<m by omega);omega⟩
 have hr:0<=mix c 3 % 5/\mix c 3 % 5<5:=by omega
 generalize ew:mix c 3 % 5=w at hr;have e:∀(q:Cn),q.wf m false->q.sz<=15->exs pg (call pg (n+5)) [.sh true (.int c),.sh true (.int m),.sh false (.int w),.sh false (.int b)] (drp 2 f13.body)=.ret (.cl q.d)->∃q:Cn,q.wf m false/\q.sz<=15/\call pg (n+6) 13 [.int c,.int m]=.ok (q.d,false,false):=λq a1 a2 h=>⟨q,a1,a2,by
  refine aH (F:=f13) rfl rfl (v:=.cl q.d) ?_;show exs pg (call pg (n+5)) [.sh true (.int c),.sh true (.int m),.x,.x] _=_;refine(stp (σ':=[.sh true (.int c),.sh true (.int m),.sh false (.int w),.x]) ?_).trans ((stp (σ':=[.sh true (.int c),.sh true (.int m),.sh false (.int w),.sh false (.int b)]) ?_).trans h);simp only[cD,cT,aU,aB,aE,bO,cF,bB,gS,gZ,aR,aA,mC,mN,aX,x3,bS,dZ 5 (by decide),ew,aT,dU,bZ,eF,cC,lS,lZ];simp only[cD,cT,aU,aB,aE,bO,cF,bB,gS,gZ,aR,aA,mC,mN,aX,x4,bS,dZ (m:Int) (show(0:Int)<m by omega),hk,aT,dU,bZ,eF,cC,lS,lZ]⟩
 have h:w=0\/w=1\/w=2\/3<=w:=by omega
 rcases h with rfl|rfl|rfl|h;refine e (.cmp true (.aft b) (.box b)) ⟨⟨hlt,rfl⟩,hlt⟩ (by show 1+1+1<=15;decide) ?_;rfl;refine e (.nt (.cmp false (.aft b) (.box b))) ⟨⟨hlt,rfl⟩,hlt⟩ (by show 1+(1+1+1)<=15;decide) ?_;rfl;refine e .yes trivial (by decide) ?_;rfl;refine e q q1 q2 ?_;have e0:(w==0)=false:=Bb.mpr (by omega);have e1:(w==1)=false:=Bb.mpr (by omega);have e2:(w==2)=false:=Bb.mpr (by omega);simp only[drp,f13,aN,aZ,cG,bY,bO,cF,bB,gS,gZ,aR,aA,aX,eO,cU,e0,e1,e2,aT,bF,if_false,iT,cS,mS,aU,aB,aE,mC,mN,q3,bS,fO]
structure Way where
 g:Cn
 ps:List (Nat×Sm)
 nx:Nat
def dC(p:Nat×Sm):D:=.tup [.int p.1,p.2.d]
def Way.d(w:Way):D:=.tup [w.g.d,.tup (w.ps.map dC),.int w.nx]
structure nG (m:Nat) (p:Nat×Sm):Prop where
 box:p.1<m
 wf:p.2.wf m true
 sz:p.2.sz<=3
structure pY (m pl:Nat) (w:Way):Prop where
 g:w.g.wf m true
 gs:w.g.sz<=15
 ps:∀p∈w.ps,nG m p
 len:w.ps.length<=m
 nx:w.nx<pl
theorem aBk(p:Nat×Sm):noL (dC p)=true:=lR rfl p.2.noL
theorem mZ(ps:List (Nat×Sm)):noLs (ps.map dC)=true:=eR aBk ps
theorem nZ(w:Way):noL w.d=true:=by simp[Way.d,noL,noLs,w.g.noL,mZ]
theorem aCq(ws:List Way):noLs (ws.map Way.d)=true:=eR nZ ws
theorem uV(i:Nat)(h:noLs ds=true):biD .tuple [⟨.lst ds,false,false,[i]⟩]=.ok (.cl (.tup ds)):=by show R.ok (Vl.mk (.tup ds) false (false&&!noLs ds) (if noLs ds=true then [] else [i]))=_;rw[h];rfl
theorem aMH{a b c:Sm}(h0:0<=w)(h:w<3):bK ⟨.lst [a.d,b.d,c.d],false,false,[i]⟩ (.cl (.int w))=.ok (.cl (if w=0 then a else if w=1 then b else c).d):=by
 have:w=0\/w=1\/w=2:=by omega
 have ha:=a.noL;have hb:=b.noL;have hc:=c.noL;rcases this with rfl|rfl|rfl;show R.ok (Vl.sub _ a.d)=_;rw[bR ha];rfl;show R.ok (Vl.sub _ b.d)=_;rw[bR hb];rfl;show R.ok (Vl.sub _ c.d)=_;rw[bR hc];rfl
abbrev aAd:Ss:=match hdS (drp 1 f11.body) with|.for _ _ b=>b|_=>.z
theorem aEH(n:Nat)(c:Int)(hm:1<=m)(hm5:m<=5)(hk:k<m){ps:List (Nat×Sm)}(hp:∀p∈ps,nG m p)(hl:ps.length<=k)(s5 s6 s7:Sl) :
 ∃(ps':List (Nat×Sm)) (s5' s6':Sl),(∀p∈ps',nG m p)/\ps'.length<=k+1/\exs pg (call pg (n+5)) [.sh true (.int c),.sh true (.int m),.sh true (.int pl),.own false (ps.map dC),.sh false (.int k),s5,s6,s7] aAd =
  .next [.sh true (.int c),.sh true (.int m),.sh true (.int pl),.own false (ps'.map dC),.sh false (.int k),s5',s6',s7]:=by
 have x0:=bW (n+4) c (k:=40+(k:Int)) (by omega) (by omega);obtain⟨s,s1,s2,s3⟩:=pX (n+2) c (k:=50+9*(k:Int)) (by omega) (by omega) hm false;have m9:opD .Mult (.cl (.int 9)) (.cl (.int k))=.ok (.cl (.int (9*k))):=mul_int (by
  simp only[eZ,A9,bA,Am];right;omega)
 have hr:0<=mix c (40+(k:Int)) % 6:=Bl _ (by decide);generalize ew:mix c (40+(k:Int)) % 6=w at hr
 let a:Sm:=.two true (.box k) (.num 1)
 let b:Sm:=.two false (.box k) (.num 1)
 have e1:ex pg (call pg (n+5)) [.sh true (.int c),.sh true (.int m),.sh true (.int pl),.own false (ps.map dC),.sh false (.int k),s5,s6,s7] (hdS aAd)=.next [.sh true (.int c),.sh true (.int m),.sh true (.int pl),.own false (ps.map dC),.sh false (.int k),.sh false (.int w),s6,s7]:=by simp only[aAd,hdS,drp,f11,cD,cT,aU,aB,aE,bO,cF,bB,gS,gZ,aR,aA,mC,mN,aX,add_int,x0,bS,dZ 6 (by decide),ew,aT,dU,bZ,eF,cC,lS,lZ]
 have e2:ex pg (call pg (n+5)) [.sh true (.int c),.sh true (.int m),.sh true (.int pl),.own false (ps.map dC),.sh false (.int k),.sh false (.int w),s6,s7] (hdS (drp 1 aAd))=.next [.sh true (.int c),.sh true (.int m),.sh true (.int pl),.own false (ps.map dC),.sh false (.int k),.sh false (.int w),.own false [a.d,b.d],s7]:=rfl;have e3:ex pg (call pg (n+5)) [.sh true (.int c),.sh true (.int m),.sh true (.int pl),.own false (ps.map dC),.sh false (.int k),.sh false (.int w),.own false [a.d,b.d],s7] (hdS (drp 2 aAd))=.next [.sh true (.int c),.sh true (.int m),.sh true (.int pl),.own false (ps.map dC),.sh false (.int k),.sh false (.int w),.own false [a.d,b.d,s.d],s7]:=by simp only[aAd,hdS,drp,f11,uI,eQ,cT,aU,aB,aE,bO,cF,bB,gS,gZ,aR,aA,mC,mN,aX,m9,add_int,s3,bS,aT];rfl
 have p3:=aMH (a:=a) (b:=b) (c:=s) (i:=6) (w:=w) hr;by_cases h3:w<3;have hd:decide (w<3)=true:=Aj h3;have p3:=p3 h3;have q:nG m (k,if w=0 then a else if w=1 then b else s):=by by_cases h:w=0;rw[if_pos h];exact⟨hk,⟨hk,show(0:Int)<=1/\(1:Int)<=99 by decide⟩,Ai 3⟩;rw[if_neg h];by_cases h:w=1;rw[if_pos h];exact⟨hk,⟨hk,show(0:Int)<=1/\(1:Int)<=99 by decide⟩,Ai 3⟩;rw[if_neg h];exact⟨hk,s1,s2⟩
 generalize (if w=0 then a else if w=1 then b else s)=z at p3 q;have hll:ps.length+1<=lim:=by unfold lim;omega
 refine⟨ps++[(k,z)],.sh false (.int w),.own false [a.d,b.d,s.d],λp h=>?_,by simp;omega,((stp e1).trans ((stp e2).trans ((stp e3).trans ?_)))⟩;rcases B7.mp h with h|h;exact hp p h;rw[Bw.mp h];exact q;simp only[aN,aZ,cG,bY,bO,cF,bB,gS,gZ,aR,iA,aA,aX,mT,hd,aT,if_true,uI,eQ,eN,aB,aE,cR,p3,aCp,put,dU,bZ,kX,lA,lM,lC,lN,hll,aHu,Bool.or_false,lS,lZ,iT,Bx,mC,mN];rfl;have hd:decide (w<3)=false:=An h3;refine⟨ps,.sh false (.int w),.own false [a.d,b.d,s.d],hp,by omega,((stp e1).trans ((stp e2).trans ((stp e3).trans ?_)))⟩;simp only[aN,aZ,cG,bY,bO,cF,bB,gS,gZ,aR,iA,aA,aX,mT,hd,aT,bF,if_false,iT]
theorem aBl(n:Nat)(c:Int)(hm:1<=m)(hm5:m<=5)(hpl:1<=pl):∃w:Way,pY m pl w/\call pg (n+6) 11 [.int c,.int m,.int pl]=.ok (w.d,false,false):=by
 have hw:walk pg (call pg (n+5)) [.sh true (.int c),.sh true (.int m),.sh true (.int pl),.own false [],.x,.x,.x,.x] (.rng (.c (.int 0)) (.v 1))=.ok ((List.range m).map λ(k:Nat)=>Vl.cl (.int (k:Int)),[]):=cH (v:=.cl (.int m)) rfl rfl (by omega);obtain⟨σ',e,hI⟩:=dR (t:=.n 4) (b:=aAd) (λi σ=>∃(ps:List (Nat×Sm)) (s4 s5 s6:Sl),(∀p∈ps,nG m p)/\ps.length<=i/\σ=[.sh true (.int c),.sh true (.int m),.sh true (.int pl),.own false (ps.map dC),s4,s5,s6,.x]) hw ⟨[],_,_,_,λ_ h=>(nomatch h),Ai _,rfl⟩ (λi hi σ hσ=>by
  obtain⟨ps,s4,s5,s6,h1,h2,rfl⟩:=hσ;have hi':i<m:=by simpa using hi
  obtain⟨ps',s5',s6',g1,g2,g3⟩:=aEH n c (pl:=pl) hm hm5 hi' h1 h2 s5 s6 .x;refine⟨_,_,?_,g3,ps',_,_,_,g1,g2,rfl⟩;simp)
 obtain⟨ps,s4,s5,s6,h1,h2,rfl⟩:=hI;have h2:ps.length<=m:=by simpa using h2
 have x1:=bW (n+4) c (k:=30) (by decide) (by decide);have x2:=bW (n+4) c (k:=31) (by decide) (by decide);obtain⟨q,q1,q2,q3⟩:=mY n c (k:=10) (by decide) (by decide) hm false;obtain⟨nx,hk,hlt⟩:∃b:Nat,mix c 31 % (pl:Int)=(b:Int)/\b<pl:=⟨(mix c 31 % (pl:Int)).toNat,by rw[Bs (Bl _ (by omega))],by have:=Be (mix c 31) (show(0:Int)<pl by omega);omega⟩
 have fin:∀g:Cn,exs pg (call pg (n+5)) [.sh true (.int c),.sh true (.int m),.sh true (.int pl),.own false (ps.map dC),s4,s5,s6,.sh false g.d] (drp 4 f11.body)=.ret (.cl (Way.d ⟨g,ps,nx⟩)):=λg=>by simp only[drp,f11,aN,cS,eN,aB,aE,bO,bB,gS,gZ,dW,iA,aR,aA,fP,uV 3 (mZ ps),cT,aU,cF,mC,mN,aX,x2,bS,dZ (pl:Int) (show(0:Int)<pl by omega),hk,aGN,aT,fO,Way.d]
 have st:∀{v:Vl},exs pg (call pg (n+5)) [.sh true (.int c),.sh true (.int m),.sh true (.int pl),.own false (ps.map dC),s4,s5,s6,.sh false (Cn.d .yes)] (drp 3 f11.body)=.ret v->call pg (n+6) 11 [.int c,.int m,.int pl]=.ok (v.d,v.fr,v.pa):=λ{v} h=>by refine aH (F:=f11) rfl rfl ?_;show exs pg (call pg (n+5)) [.sh true (.int c),.sh true (.int m),.sh true (.int pl),.x,.x,.x,.x,.x] _=_;refine(stp (σ':=[.sh true (.int c),.sh true (.int m),.sh true (.int pl),.own false [],.x,.x,.x,.x]) rfl).trans ((stp e).trans ((stp ?_).trans h));rfl
 have tt:∀{r:Bool},(mix c 30 % 2==1)=r->tst pg (call pg (n+5)) [.sh true (.int c),.sh true (.int m),.sh true (.int pl),.own false (ps.map dC),s4,s5,s6,.sh false (Cn.d .yes)] (.cmp .Eq (.op .Mod (.call 7 (.k (.v 0) (.k (.c (.int 30)) .z))) (.c (.int 2))) (.c (.int 1)))=.ok r:=λ{r} hr=>by simp only[bY,cT,aU,aB,aE,bO,cF,bB,gS,gZ,aR,aA,mC,mN,aX,x1,bS,dZ 2 (by decide),eO,cU,hr]
 cases hb:mix c 30 % 2==1 with
 | true=>refine⟨⟨q,ps,nx⟩,⟨q1,q2,h1,h2,hlt⟩,st (v:=.cl (Way.d ⟨q,ps,nx⟩)) ((stp ?_).trans (fin q))⟩;simp only[cG,tt hb,aT,if_true,aN,aZ,cD,aU,aB,aE,bO,cF,bB,gS,gZ,aR,aA,mC,mN,aX,q3,bS,dU,bZ,eF,cC,lS,lZ,iT]|false=>refine⟨⟨.yes,ps,nx⟩,⟨trivial,(show(1:Nat)<=15 by decide),h1,h2,hlt⟩,st (v:=.cl (Way.d ⟨.yes,ps,nx⟩)) ((stp ?_).trans (fin .yes))⟩;simp only[cG,tt hb,aT,bF,if_false,aZ]
def dO(ws:List Way):D:=.lst (ws.map Way.d)
def bL(rows:List (List Way)):D:=.lst (rows.map dO)
structure aEI (m pl:Nat) (r:List Way):Prop where
 one:1<=r.length
 few:r.length<=4
 all:∀w∈r,pY m pl w
structure pZ (m:Nat) (rows:List (List Way)):Prop where
 few:rows.length<=3
 all:∀r∈rows,aEI m (rows.length+1) r
theorem qB(is:List Int):items v (is.map D.int)=is.map λi=>Vl.cl (.int i):=by unfold items;rw[Bj];exact Cm λi _=>rfl
theorem uW{α:Type}(xs:List α)(k:Nat)(h:k<=xs.length):cut xs none (some (k:Int))=xs.take k:=by unfold cut sIx;simp only[];rw[if_neg (by omega),List.drop_zero];simp[Nat.min_eq_left h]
theorem qD{α:Type}(xs:List α)(k:Nat)(h:k<=xs.length):cut xs (some (k:Int)) none=xs.drop k:=by unfold cut sIx;simp only[];rw[if_neg (by omega),List.take_of_length_le (by rw[Cd];simp[Nat.min_eq_left h])];simp[Nat.min_eq_left h]
abbrev qF:Ss:=match hdS (drp 2 f12.body) with|.for _ _ b=>b|_=>.z
theorem aOs(i:Int):opD .FloorDiv (.cl (.int i)) (.cl (.int 3))=.ok (.cl (.int (i / 3))):=aAZ rfl
theorem aCr(n:Nat)(ns:List Int){a m R:Nat}(ha:a<=100)(hm:1<=m)(hm5:m<=5){k:Nat}(hk:k<4)(rows:List (List Way))(hr:rows.length<=k)(s6 s7:Sl) :
 ∃r s6' s7',aEI m (R+1) r/\exs pg (call pg (n+7)) [.sh true (.lst (ns.map D.int)),.sh true (.int a),.sh true (.int m),.sh false (.int R),.own false (rows.map dO),.sh false (.int k),s6,s7] qF =
  .next [.sh true (.lst (ns.map D.int)),.sh true (.int a),.sh true (.int m),.sh false (.int R),.own false ((rows++[r]).map dO),.sh false (.int k),s6',s7']:=by
 have c1:call pg (n+7) 5 [.lst (ns.map D.int),.int ((a:Int)+1+2*(k:Int))]=_:=dF (n+6) ns (k:=a+1+2*k) (by omega);have c2:call pg (n+7) 5 [.lst (ns.map D.int),.int ((a:Int)+2+2*(k:Int))]=_:=dF (n+6) ns (k:=a+2+2*k) (by omega);generalize cellAt ns (a+1+2*k)=x at c1;generalize cellAt ns (a+2+2*k)=y at c2;have m2:opD .Mult (.cl (.int 2)) (.cl (.int k))=.ok (.cl (.int (2*k))):=mul_int (by
  simp only[eZ,A9,bA,Am];right;omega)
 obtain⟨W,hW⟩:∃W:Int->Way,∀c,pY m (R+1) (W c)/\call pg (n+6+1) 11 [.int c,.int m,.int ((R+1:Nat):Int)]=.ok ((W c).d,false,false):=⟨λc=>Classical.choose (aBl (n+1) c hm hm5 (Nat.le_add_left 1 R)),λc=>Classical.choose_spec (aBl (n+1) c hm hm5 (Nat.le_add_left 1 R))⟩
 have e1:ex pg (call pg (n+7)) [.sh true (.lst (ns.map D.int)),.sh true (.int a),.sh true (.int m),.sh false (.int R),.own false (rows.map dO),.sh false (.int k),s6,s7] (hdS qF)=.next [.sh true (.lst (ns.map D.int)),.sh true (.int a),.sh true (.int m),.sh false (.int R),.own false (rows.map dO),.sh false (.int k),.own false [.int x,.int y],s7]:=by simp only[qF,hdS,drp,f12,cD,eW,aB,aE,aU,cT,bO,cF,bB,gS,gZ,aR,dX,aA,mC,mN,aX,m2,add_int,c1,c2,bS,aT];rfl
 let L:List Int:=[x,y,x / 3+y,y / 3+x]
 have i0:bK ⟨.lst [.int x,.int y],false,false,[6]⟩ (.cl (.int 0))=.ok (.cl (.int x)):=rfl;have i1:bK ⟨.lst [.int x,.int y],false,false,[6]⟩ (.cl (.int 1))=.ok (.cl (.int y)):=rfl;have e2:ex pg (call pg (n+7)) [.sh true (.lst (ns.map D.int)),.sh true (.int a),.sh true (.int m),.sh false (.int R),.own false (rows.map dO),.sh false (.int k),.own false [.int x,.int y],s7] (hdS (drp 1 qF))=.next [.sh true (.lst (ns.map D.int)),.sh true (.int a),.sh true (.int m),.sh false (.int R),.own false (rows.map dO),.sh false (.int k),.own false (L.map D.int),s7]:=by simp only[qF,hdS,drp,f12,cD,cT,eW,aB,aE,cR,bO,cF,bB,gS,gZ,iA,aA,i0,i1,aOs,add_int];rfl
 have hw:walk pg (call pg (n+7)) [.sh true (.lst (ns.map D.int)),.sh true (.int a),.sh true (.int m),.sh false (.int R),.own false (rows.map dO),.sh false (.int k),.own false (L.map D.int),s7] (.seq (.v 6))=.ok (L.map (λi=>Vl.cl (.int i)),[6]):=by simp only[gJ,bO,bB,gS,gZ,iA,aA,qB]
 have hc:=mU (P:=pg) (k:=1) (caps:=[2,3]) (T:=.n 0) (elt:=.call 11 (.k (.v 0) (.k (.v 1) (.k (.op .Add (.v 2) (.c (.int 1))) .z)))) (λi=>Vl.cl (.int i)) (λi=>(W i).d) (λi=>nZ _) hw (by show 4<=lim;decide) λt ht=>by refine⟨[.sh false (.int t),.sh true (.int m),.sh false (.int R)],rfl,?_⟩;have h:=(hW t).2;simp only[aU,aB,aE,cT,bO,cF,bB,gS,gZ,aR,aA,mC,mN,aX,add_int];have h:call pg (n+7) 11 [.int t,.int m,.int ((R:Int)+1)]=_:=h;rw[h,aA,bS]
 let ws:List Way:=L.map W
 have hws:L.map (λi=>(W i).d)=ws.map Way.d:=by simp[ws]
 rw[hws] at hc;have e3:ex pg (call pg (n+7)) [.sh true (.lst (ns.map D.int)),.sh true (.int a),.sh true (.int m),.sh false (.int R),.own false (rows.map dO),.sh false (.int k),.own false (L.map D.int),s7] (hdS (drp 2 qF))=.next [.sh true (.lst (ns.map D.int)),.sh true (.int a),.sh true (.int m),.sh false (.int R),.own false (rows.map dO),.sh false (.int k),.own false (L.map D.int),.own false (ws.map Way.d)]:=by show ex pg (call pg (n+7)) _ (.set (.n 7) _)=_;rw[cD,hc,aT];rfl
 have x0:=bW (n+6) x (k:=32) (by decide) (by decide);obtain⟨j,hj,hlt⟩:∃b:Nat,1+mix x 32 % 4=(b:Int)/\1<=b/\b<=4:=⟨(1+mix x 32 % 4).toNat,by have:=uS x 32;omega,by omega,by omega⟩
 have j0:bK ⟨.lst (L.map D.int),false,false,[6]⟩ (.cl (.int 0))=.ok (.cl (.int x)):=rfl;have sk:aK (j:Int)=true:=hU (by omega);have sl:eG ⟨.lst (ws.map Way.d),false,false,[7]⟩ none (some (j:Int))=.ok ⟨dO (ws.take j),true,false,[]⟩:=by unfold eG dO;simp only[aCq,if_true,Bool.false_and];rw[uW _ _ (show j<=(ws.map Way.d).length from hlt.2),List.map_take]
 have hll:rows.length+1<=lim:=by unfold lim;omega
 refine⟨ws.take j,.own false (L.map D.int),.own false (ws.map Way.d),⟨?_,?_,λw hw=>?_⟩,(stp e1).trans ((stp e2).trans ((stp e3).trans ?_))⟩;rw[A4];show 1<=min j 4;omega;rw[A4];show min j 4<=4;omega;obtain⟨i,_,rfl⟩:=Av.mp (List.mem_of_mem_take hw);exact(hW i).1;show exs pg (call pg (n+7)) _ (.k (.app 4 _) .z)=_;simp only[aN,aZ,uI,eQ,lL,cT,aU,aB,aE,cR,bO,cF,bB,gS,gZ,iA,aA,j0,mC,mN,aX,x0,bS,dZ 4 (by decide),add_int,hj,sk,gB,sl,aT,put,bZ,kX,lA,lM,lC,lN,hll,if_true,Bool.or_false,lS,lZ,iT,Bx]
theorem aEJ(n:Nat)(ns:List Int){a m:Nat}(ha:a<=100)(hm:1<=m)(hm5:m<=5):∃rows,pZ m rows/\call pg (n+8) 12 [.lst (ns.map D.int),.int a,.int m]=.ok (bL rows,true,false):=by
 have c0:=dF (n+6) ns (k:=a) (by omega);have x0:=bW (n+6) (cellAt ns a) (k:=1) (by decide) (by decide);obtain⟨R,hR,hlt⟩:∃b:Nat,mix (cellAt ns a) 1 % 4=(b:Int)/\b<=3:=⟨(mix (cellAt ns a) 1 % 4).toNat,by have:=uS (cellAt ns a) 1;omega,by omega⟩
 have hw:walk pg (call pg (n+7)) [.sh true (.lst (ns.map D.int)),.sh true (.int a),.sh true (.int m),.sh false (.int R),.own false [],.x,.x,.x] (.rng (.c (.int 0)) (.v 3))=.ok ((List.range R).map λ(k:Nat)=>Vl.cl (.int (k:Int)),[]):=cH (v:=.cl (.int R)) rfl rfl (by omega);obtain⟨σ',e,hI⟩:=dR (t:=.n 5) (b:=qF) (λi σ=>∃(rows:List (List Way)) (s5 s6 s7:Sl),(∀r∈rows,aEI m (R+1) r)/\rows.length=i/\σ=[.sh true (.lst (ns.map D.int)),.sh true (.int a),.sh true (.int m),.sh false (.int R),.own false (rows.map dO),s5,s6,s7]) hw ⟨[],_,_,_,λ_ h=>(nomatch h),rfl,rfl⟩ (λi hi σ hσ=>by
  obtain⟨rows,s5,s6,s7,h1,h2,rfl⟩:=hσ;have hi':i<R:=by simpa using hi
  obtain⟨r,s6',s7',g1,g2⟩:=aCr n ns (R:=R) ha hm hm5 (k:=i) (by omega) rows (by omega) s6 s7;refine⟨_,_,?_,g2,rows++[r],_,_,_,λp h=>?_,by simp[h2],rfl⟩;simp;rcases B7.mp h with h|h;exact h1 p h;rw[Bw.mp h];exact g1)
 obtain⟨rows,s5,s6,s7,h1,h2,rfl⟩:=hI;have h2:rows.length=R:=by simpa using h2
 refine⟨rows,⟨by omega,by rw[h2];exact h1⟩,aH (F:=f12) rfl rfl (v:=⟨bL rows,true,false,[]⟩) ?_⟩;show exs pg (call pg (n+7)) [.sh true (.lst (ns.map D.int)),.sh true (.int a),.sh true (.int m),.x,.x,.x,.x,.x] _=_;refine(stp (σ':=[.sh true (.lst (ns.map D.int)),.sh true (.int a),.sh true (.int m),.sh false (.int R),.x,.x,.x,.x]) ?_).trans ((stp (σ':=[.sh true (.lst (ns.map D.int)),.sh true (.int a),.sh true (.int m),.sh false (.int R),.own false [],.x,.x,.x]) rfl).trans ((stp e).trans rfl));simp only[cD,cT,aU,aB,aE,bO,cF,bB,gS,gZ,aR,dX,aA,mC,mN,aX,c0,x0,bS,dZ 4 (by decide),hR,aT,dU,bZ,eF,cC,lS,lZ]
def chD(xs:List Nat):List D:=xs.map λx=>.str ⟨#[x]⟩
theorem xR:∀xs:List Nat,gP (chD xs)=some (xs.map λx=>(⟨#[x]⟩:Str))
 | []=>rfl|x::xs=>by have:=xR xs;unfold chD at this ⊢;simp[gP,this]
theorem aBm(a b:Str):(a++b).cps=a.cps++b.cps:=rfl
theorem aBn:∀xs:List Nat,PySem.Str.join "" (xs.map λx=>(⟨#[x]⟩:Str))=⟨xs.toArray⟩
 | []=>rfl|[x]=>rfl|x::y::xs=>by
  have ih:=aBn (y::xs);show(⟨#[x]⟩:Str)++(("" : String):Str)++PySem.Str.join "" ((y::xs).map λx=>(⟨#[x]⟩:Str))=_;rw[ih];have:∀a b:Str,a.cps=b.cps->a=b:=λa b h=>by cases a;cases b;simp_all
  apply this;rw[aBm,aBm];show #[x]++#[]++(y::xs).toArray=(x::y::xs).toArray;simp
theorem aGO{xs:List Nat}(h:xs.length<=1000):mtD .join (.cl (.str "")) [⟨.lst (chD xs),fr,pa,al⟩]=.ok (.cl (.str ⟨xs.toArray⟩)):=by
 unfold mtD;simp only[aX,xR,lM,Bj];have hs:((xs.map ((λx:Str=>x.length)∘λx=>(⟨#[x]⟩:Str))).sum+xs.length*(("" : String):Str).length)<=lim:=by
  have e1:(xs.map ((λx:Str=>x.length)∘λx=>(⟨#[x]⟩:Str))).sum=xs.length:=by
   clear h
   induction xs with
   | nil=>rfl|cons x xs ih=>simp only[mC,List.sum_cons,ih,Function.comp,lC];show 1+_=_;omega
  have e2:(("" : String):Str).length=0:=rfl;rw[e1,e2];unfold lim;omega
 rw[Aj hs,gB,aBn]
theorem qG{i:Int}(h0:0<=i)(h1:i<26):bK (.cl (.str "abcdefghijklmnopqrstuvwxyz")) (.cl (.int i))=.ok (.cl (.str ⟨#[97+i.toNat]⟩)):=by
 have all:∀k∈List.range 26,("abcdefghijklmnopqrstuvwxyz" : Str).cps.toList[k]? = some (97+k):=by decide +kernel
 have hl:("abcdefghijklmnopqrstuvwxyz" : Str).length=26:=by decide +kernel
 have e:i=((i.toNat:Nat):Int):=by omega
 have hk:i.toNat<26:=by omega
 have h2:=all i.toNat (by rw[C8];exact hk);show R.iff (decide (("abcdefghijklmnopqrstuvwxyz" : Str).length<=lim)) (match ixN ("abcdefghijklmnopqrstuvwxyz" : Str).length i with|some j=>(match ("abcdefghijklmnopqrstuvwxyz" : Str).cps.toList[j]? with|some c=>R.ok (Vl.cl (.str ⟨#[c]⟩))|none=>.bad)|none=>.bad)=_;have hx:ixN 26 i=some i.toNat:=by
  conv=>lhs;rw[e]
  exact dA hk
 rw[hl,hx];simp only[h2];have:decide (26<=lim)=true:=Aj (by unfold lim;omega);rw[this,gB]
noncomputable def tab:List (List Int):=[[1],[2],[1,1],[3],[2,1],[5],[1,2],[1,1,1],[2,2],[3,1],[7],[2,1,1],[3,2],[1,1,2],[5,1],[2,3],[1,1,1,1],[2,2,1],[7,2],[5,3],[1,1,1,2]]
theorem aJE:∀t∈tab,(1<=t.length/\t.length<=4)/\(∀x∈t,1<=x/\x<=7)/\(t.map (·+1)).foldl (·*·) 1<=24:=by decide +kernel
structure aHx (bs:List (Str×Int)):Prop where
 tops:aEC bs
 one:1<=bs.length
 few:bs.length<=4
 nm:∀b∈bs,tM b.1=true/\b.1.length<=8
@[simp] theorem sD (a:E):walk P cl σ (.enum a)=(ev P cl σ a >>= λx=>match gQ x.d with|some as=>.ok (items x (eE 0 as),x.al)|none=>.bad):=id rfl
theorem qH:∀(is:List Int) (j:Int),eE j (is.map D.int)=(List.range is.length).map λ(k:Nat)=>.tup [.int (j+(k:Int)),.int (is.getD k 0)]
 | [],_=>rfl|i::is,j=>by
  rw[mC,eE,qH is (j+1),lC,D6,mC,Bj];refine congr (congrArg _ (by simp)) (Cm λk _=>?_);have:j+1+(k:Int)=j+((k+1:Nat):Int):=by omega
  simp only[Function.comp,this,List.getD_cons_succ]
def sF(xs:List Nat)(a l:Nat):Str:=⟨(xs.take a++[l]++xs.drop a).toArray⟩
theorem aEK(xs:List Nat)(a l:Nat):(sF xs a l).length=xs.length+1:=by show(xs.take a++[l]++xs.drop a).toArray.size=_;rw[Ae,lA,lA,A4,Cd];simp only[lC,lN];omega
theorem aEL(h:∀x∈xs,97<=x/\x<=122)(hl:97<=l/\l<=122):tM (sF xs a l)=true:=by
 unfold tM sF;rw[List.all_toArray,Az];intro x hx;have:97<=x/\x<=122:=by rcases B7.mp hx with hx|hx;rcases B7.mp hx with hx|hx;exact h x (List.mem_of_mem_take hx);rw[Bw.mp hx];exact hl;exact h x (List.mem_of_mem_drop hx)
 simp[this]
theorem aEM{P:Pg}{cl:Caller}{xs:List Nat}(hx:xs.length<=7){a:Nat}(ha:a<=xs.length){k:Nat}(hk:k<=10)(c t:Int) :
 ev P cl [.sh false (.int k),.sh false (.int t),.sh true (.int c),.sh false (.str "abcdefghijklmnopqrstuvwxyz"),.sh false (.str ⟨xs.toArray⟩),.sh false (.int a)]
  (.tup (.k (.op .Add (.op .Add (.sli (.v 4) .z (.k (.v 5) .z)) (.idx (.v 3) (.op .Mod (.op .Add (.op .Mult (.c (.int 3)) (.v 0)) (.v 2)) (.c (.int 26))))) (.sli (.v 4) (.k (.v 5) .z) .z)) (.k (.v 1) .z))) =
 .ok (.cl (box (sF xs a (97+((3*(k:Int)+c) % 26).toNat),t))):=by
 have m3:opD .Mult (.cl (.int 3)) (.cl (.int k))=.ok (.cl (.int (3*k))):=mul_int (by
  simp only[eZ,A9,bA,Am];right;omega)
 have il:=qG (i:=(3*(k:Int)+c) % 26) (Bl _ (by decide)) (Be _ (by decide));have sk:aK (a:Int)=true:=hU (by omega);have sz:((⟨xs.toArray⟩:Str).length)<=lim:=by show xs.toArray.size<=lim;rw[Ae];unfold lim;omega
 have sl1:eG (.cl (.str ⟨xs.toArray⟩)) none (some (a:Int))=.ok (.cl (.str ⟨(xs.take a).toArray⟩)):=by show R.iff (decide ((⟨xs.toArray⟩:Str).length<=lim)) (R.ok (Vl.cl (.str ⟨(cut xs.toArray.toList none (some (a:Int))).toArray⟩)))=_;rw[Aj sz,gB,List.toList_toArray,uW xs a ha]
 have sl2:eG (.cl (.str ⟨xs.toArray⟩)) (some (a:Int)) none=.ok (.cl (.str ⟨(xs.drop a).toArray⟩)):=by show R.iff (decide ((⟨xs.toArray⟩:Str).length<=lim)) (R.ok (Vl.cl (.str ⟨(cut xs.toArray.toList (some (a:Int)) none).toArray⟩)))=_;rw[Aj sz,gB,List.toList_toArray,qD xs a ha]
 have ad:∀(u v:List Nat),u.length+v.length<=100->opD .Add (.cl (.str ⟨u.toArray⟩)) (.cl (.str ⟨v.toArray⟩))=.ok (.cl (.str ⟨(u++v).toArray⟩)):=λu v h=>by
  have hz:(⟨u.toArray⟩:Str).length+(⟨v.toArray⟩:Str).length<=lim:=by show u.toArray.size+v.toArray.size<=lim;rw[Ae,Ae];unfold lim;omega
  have e:(⟨u.toArray⟩:Str)++(⟨v.toArray⟩:Str)=⟨(u++v).toArray⟩:=by show(⟨u.toArray++v.toArray⟩:Str)=_;simp
  show R.iff (decide ((⟨u.toArray⟩:Str).length+(⟨v.toArray⟩:Str).length<=lim)) (R.ok (Vl.cl (.str ((⟨u.toArray⟩:Str)++(⟨v.toArray⟩:Str)))))=_;rw[Aj hz,gB,e]
 have a1:=ad (xs.take a) [97+((3*(k:Int)+c) % 26).toNat] (by rw[A4];simp only[lC,lN];omega);have a2:=ad (xs.take a++[97+((3*(k:Int)+c) % 26).toNat]) (xs.drop a) (by rw[lA,A4,Cd];simp only[lC,lN];omega);simp only[eN,aB,aE,cT,lL,uQ,cR,bO,cF,bB,gS,gZ,dW,aR,aA,aX,sk,gB,sl1,sl2,m3,add_int,dZ 26 (by decide),il];have a1:opD .Add (.cl (.str ⟨(xs.take a).toArray⟩)) (.cl (.str ⟨#[97+((3*(k:Int)+c) % 26).toNat]⟩))=_:=a1;simp only[a1,aA,a2,aCp];rfl
theorem aGP(h:j<tab.length):bK ⟨.lst (tab.map aD),false,false,[2]⟩ (.cl (.int (j:Int)))=.ok (.cl (aD (tab.getD j []))):=by
 unfold bK;have hl:(tab.map aD).length=tab.length:=by rw[lM]
 have e:(tab.map aD)[j]? = some (aD (tab.getD j [])):=by simp[h]
 simp only[aX,hl,dA h,e,Vl.sub,aI,if_true]
theorem aEN(n:Nat)(c:Int)(s1 s2 s3 s6:Sl):∃xs:List Nat,xs.length<=7/\(∀x∈xs,97<=x/\x<=122) /\
 ev pg (call pg (n+1)) [.sh true (.int c),s1,s2,s3,.sh false (.str "abcdefghijklmnopqrstuvwxyz"),.x,s6]
  (.mth .join (.c (.str "")) (.k (.comp 1 [0,4] (.n 0) (.rng (.c (.int 1)) (.op .Add (.c (.int 1)) (.op .Mod (.call 7 (.k (.v 0) (.k (.c (.int 20)) .z))) (.c (.int 8))))) .z (.idx (.v 2) (.op .Mod (.call 7 (.k (.v 1) (.k (.v 0) .z))) (.c (.int 26))))) .z))=.ok (.cl (.str ⟨xs.toArray⟩)):=by
 have x0:=bW n c (k:=20) (by decide) (by decide);obtain⟨j,hj,hlt⟩:∃b:Nat,mix c 20 % 8=(b:Int)/\b<=7:=⟨(mix c 20 % 8).toNat,by have:=uS c 20;omega,by omega⟩
 have sk:aK (1+(j:Int))=true:=aAY (by omega) (by omega);have hr:(fL 1 (1+(j:Int))).map Vl.cl=(List.range j).map λ(k:Nat)=>Vl.cl (.int (1+(k:Int))):=by
  unfold fL;rw[Bj];have:(1+(j:Int)-1).toNat=j:=by omega
  rw[this];rfl
 have hw:walk pg (call pg (n+1)) [.sh true (.int c),s1,s2,s3,.sh false (.str "abcdefghijklmnopqrstuvwxyz"),.x,s6] (.rng (.c (.int 1)) (.op .Add (.c (.int 1)) (.op .Mod (.call 7 (.k (.v 0) (.k (.c (.int 20)) .z))) (.c (.int 8)))))=.ok ((List.range j).map (λ(k:Nat)=>Vl.cl (.int (1+(k:Int)))),[]):=by simp only[pM,cF,cT,aU,aB,aE,bO,bB,gZ,aR,aA,mC,mN,aX,x0,bS,dZ 8 (by decide),hj,add_int,hr];show R.iff (aK 1&&aK (1+(j:Int))) _=_;rw[sk];rfl
 have hc:=mU (P:=pg) (k:=1) (caps:=[0,4]) (T:=.n 0) (elt:=.idx (.v 2) (.op .Mod (.call 7 (.k (.v 1) (.k (.v 0) .z))) (.c (.int 26)))) (λ(k:Nat)=>Vl.cl (.int (1+(k:Int)))) (λk=>.str ⟨#[97+(mix c (1+(k:Int)) % 26).toNat]⟩) (λ_=>rfl) hw (by rw[Cu];unfold lim;omega) λt ht=>by
  have ht:t<j:=by simpa using ht
  have x1:=bW n c (k:=1+(t:Int)) (by omega) (by omega);have il:=qG (i:=mix c (1+(t:Int)) % 26) (Bl _ (by decide)) (Be _ (by decide));refine⟨[.sh false (.int (1+(t:Int))),.sh true (.int c),.sh false (.str "abcdefghijklmnopqrstuvwxyz")],rfl,?_⟩;simp only[cR,cT,aU,aB,aE,bO,cF,bB,gS,gZ,aR,dW,aA,mC,mN,aX,x1,bS,dZ 26 (by decide),il]
 refine⟨(List.range j).map λ(k:Nat)=>97+(mix c (1+(k:Int)) % 26).toNat,by simp;omega,λx hx=>?_,?_⟩;obtain⟨k,_,rfl⟩:=Av.mp hx;have h1:=Be (mix c (1+(k:Int))) (show(0:Int)<26 by decide);omega;have e:(List.range j).map (λ(k:Nat)=>D.str ⟨#[97+(mix c (1+(k:Int)) % 26).toNat]⟩)=chD ((List.range j).map λ(k:Nat)=>97+(mix c (1+(k:Int)) % 26).toNat):=by simp[chD]
 rw[e] at hc;rw[aJv,cF,aA,aB,hc,aA,aE,aA,eQ,aA,aGO (by simp;omega)]
theorem aCs(n:Nat)(c:Int){most:Nat}(h1:1<=most)(h2:most<=21):∃bs,aHx bs/\call pg (n+2) 8 [.int c,.int most]=.ok (.lst (aO bs),true,false):=by
 have x0:=bW n c (k:=0) (by decide) (by decide);have x21:=bW n c (k:=21) (by decide) (by decide);obtain⟨j,hj,hlt⟩:∃b:Nat,mix c 0 % (most:Int)=(b:Int)/\b<21:=⟨(mix c 0 % (most:Int)).toNat,by rw[Bs (Bl _ (by omega))],by have:=Be (mix c 0) (show(0:Int)<most by omega);omega⟩
 have it:=aGP (j:=j) (show j<21 from hlt);have hmem:tab.getD j []∈tab:=by rw[Af,Ad (show j<tab.length from hlt)];exact A7 _
 obtain⟨⟨t1,t2⟩,t3,t4⟩:=aJE _ hmem;generalize tab.getD j []=tops at it t1 t2 t3 t4;obtain⟨xs,y1,y2,y3⟩:=aEN n c (.sh true (.int most)) (.own false (tab.map aD)) (.sh false (aD tops)) .x;have hl:(⟨xs.toArray⟩:Str).length=xs.length:=Ae ..;have ln:biD .len [.cl (.str ⟨xs.toArray⟩)]=.ok (.cl (.int (xs.length:Int))):=by show R.iff (decide ((⟨xs.toArray⟩:Str).length<=lim)) (R.ok (Vl.cl (.int ((⟨xs.toArray⟩:Str).length:Int))))=_;rw[hl,Aj (show xs.length<=lim by unfold lim;omega),gB]
 obtain⟨a,ha,hal⟩:∃b:Nat,mix c 21 % ((xs.length:Int)+1)=(b:Int)/\b<=xs.length:=⟨(mix c 21 % ((xs.length:Int)+1)).toNat,by rw[Bs (Bl _ (by omega))],by have:=Be (mix c 21) (show(0:Int)<(xs.length:Int)+1 by omega);omega⟩
 let σ:Sg:=[.sh true (.int c),.sh true (.int most),.own false (tab.map aD),.sh false (aD tops),.sh false (.str "abcdefghijklmnopqrstuvwxyz"),.sh false (.str ⟨xs.toArray⟩),.sh false (.int a)]
 have hw:walk pg (call pg (n+1)) σ (.enum (.v 3))=.ok ((List.range tops.length).map (λ(k:Nat)=>Vl.cl (.tup [.int (k:Int),.int (tops.getD k 0)])),[]):=by
  have e:=qH tops 0;have e':(List.range tops.length).map (λ(k:Nat)=>D.tup [.int (0+(k:Int)),.int (tops.getD k 0)])=(List.range tops.length).map (λ(k:Nat)=>D.tup [.int (k:Int),.int (tops.getD k 0)]):=Cm λk _=>by rw[Int.zero_add]
  rw[e'] at e;have hi:∀v:Vl,items v ((List.range tops.length).map (λ(k:Nat)=>D.tup [.int (k:Int),.int (tops.getD k 0)]))=(List.range tops.length).map (λ(k:Nat)=>Vl.cl (.tup [.int (k:Int),.int (tops.getD k 0)])):=λv=>mV (g:=λ(k:Nat)=>D.tup [.int (k:Int),.int (tops.getD k 0)]) (λ_=>rfl) _;rw[sD];show(R.ok (Vl.cl (aD tops)) >>= λx=>match gQ x.d with|some as=>R.ok (items x (eE 0 as),x.al)|none=>.bad)=_;rw[aA];show R.ok (items (Vl.cl (aD tops)) (eE 0 (tops.map D.int)),[])=_;rw[e,hi]
 let bx:Nat->Str×Int:=λk=>(sF xs a (97+((3*(k:Int)+c) % 26).toNat),tops.getD k 0)
 have hc:=mU (P:=pg) (σ:=σ) (k:=2) (caps:=[0,4,5,6]) (T:=.t [0,1]) (elt:=.tup (.k (.op .Add (.op .Add (.sli (.v 4) .z (.k (.v 5) .z)) (.idx (.v 3) (.op .Mod (.op .Add (.op .Mult (.c (.int 3)) (.v 0)) (.v 2)) (.c (.int 26))))) (.sli (.v 4) (.k (.v 5) .z) .z)) (.k (.v 1) .z))) (λ(k:Nat)=>Vl.cl (.tup [.int (k:Int),.int (tops.getD k 0)])) (λk=>box (bx k)) (λk=>jM _) hw (by rw[Cu];unfold lim;omega) λt ht=>by
  have ht:t<tops.length:=by simpa using ht
  exact⟨_,aBb rfl rfl,aEM (cl:=call pg (n+1)) y1 hal (k:=t) (by omega) c (tops.getD t 0)⟩
 have eb:(List.range tops.length).map (λk=>box (bx k))=aO ((List.range tops.length).map bx):=by simp[aO]
 rw[eb] at hc;have sec:((List.range tops.length).map bx).map (·.2)=tops:=by rw[Bj];refine List.ext_getElem (by simp) λi h1 h2=>?_;simp[bx,h2]
 have hin:∀b∈(List.range tops.length).map bx,b.2∈tops/\tM b.1=true/\b.1.length<=8:=λb hb=>by refine⟨?_,?_⟩;have:=List.mem_map_of_mem (f:=λp:Str×Int=>p.2) hb;rwa [sec] at this;obtain⟨k,_,rfl⟩:=Av.mp hb;have h1:=Be (3*(k:Int)+c) (show(0:Int)<26 by decide);exact⟨aEL y2 (by omega),by show(sF _ _ _).length<=8;rw[aEK];omega⟩
 refine⟨(List.range tops.length).map bx,⟨⟨by simp;omega,λb hb=>t3 _ (hin b hb).1,?_⟩,by simpa using t1,by simpa using t2,λb hb=>(hin b hb).2⟩,?_⟩;have e:((List.range tops.length).map bx).map (λb=>b.2+1)=tops.map (·+1):=by
  conv=>rhs;rw[<-sec,Bj]
  rfl
 rw[e];exact t4;refine aH (F:=f8) rfl rfl (v:=⟨.lst (aO ((List.range tops.length).map bx)),true,false,[]⟩) ?_;show exs pg (call pg (n+1)) [.sh true (.int c),.sh true (.int most),.x,.x,.x,.x,.x] _=_;refine(stp (σ':=[.sh true (.int c),.sh true (.int most),.own false ((tab.take 13).map aD),.x,.x,.x,.x]) rfl).trans ?_;refine(stp (σ':=[.sh true (.int c),.sh true (.int most),.own false (tab.map aD),.x,.x,.x,.x]) rfl).trans ?_;refine(stp (σ':=[.sh true (.int c),.sh true (.int most),.own false (tab.map aD),.sh false (aD tops),.x,.x,.x]) ?_).trans ?_;simp only[cD,cR,cT,aU,aB,aE,bO,cF,bB,gS,gZ,aR,iA,aA,mC,mN,aX,x0,bS,dZ (most:Int) (show(0:Int)<most by omega),hj,it,aT,dU,bZ,eF,cC,lS,lZ];refine(stp (σ':=[.sh true (.int c),.sh true (.int most),.own false (tab.map aD),.sh false (aD tops),.sh false (.str "abcdefghijklmnopqrstuvwxyz"),.x,.x]) rfl).trans ?_;refine(stp (σ':=[.sh true (.int c),.sh true (.int most),.own false (tab.map aD),.sh false (aD tops),.sh false (.str "abcdefghijklmnopqrstuvwxyz"),.sh false (.str ⟨xs.toArray⟩),.x]) ?_).trans ?_;rw[cD,y3];rfl;refine(stp (σ':=σ) ?_).trans ?_;simp only[cD,cT,aU,fP,aB,aE,bO,cF,bB,gS,gZ,aR,dW,aA,mC,mN,aX,x21,bS,ln,add_int,dZ ((xs.length:Int)+1) (show(0:Int)<(xs.length:Int)+1 by omega),ha,aT,dU,bZ,eF,cC,lS,lZ];rfl;rw[aN,cS,hc,aT,fO]
def nH(ns:List Cn):D:=.lst (ns.map Cn.d)
structure uX (m:Nat) (ns:List Cn):Prop where
 few:ns.length<=4
 all:∀q∈ns,q.wf m true/\q.sz<=7
theorem aMI{a b:Cn}(h:i=0\/i=1):bK ⟨.lst [a.d,b.d],true,false,[]⟩ (.cl (.int i))=.ok (.cl (if i=0 then a else b).d):=by have ha:=a.noL;have hb:=b.noL;rcases h with rfl|rfl;show R.ok (Vl.sub _ a.d)=_;rw[bR ha];rfl;show R.ok (Vl.sub _ b.d)=_;rw[bR hb];rfl
abbrev aAe:Ss:=match hdS (drp 8 f14.body) with|.for _ _ b=>b|_=>.z
abbrev aHy:Ss:=match hdS (drp 5 aAe) with|.for _ _ b=>b|_=>.z
abbrev hoS(L:D)(s1 s2 s3:Sl)(m:Nat)(s5:Sl)(hs:List (List (List Way)))(pr:List Cn)(nt:List (List Cn))(s9 s10 s11 s12 s13:Sl):Sg:=[.sh true L,s1,s2,s3,.sh false (.int (m:Int)),s5,.own false (hs.map bL),.own false (pr.map Cn.d),.own false (nt.map nH),s9,s10,s11,s12,s13]
theorem fR{α β:Type}(f:α->β)(l:List α)(a:α):(l++[a]).map f=l.map f++[f a]:=by rw[Bx];rfl
theorem aCt(n:Nat)(x:Int)(L:D)(s1 s2 s3 s5:Sl){m:Nat}(hm:1<=m)(hs:List (List (List Way)))(pr:List Cn)(nt:List (List Cn)){k:Nat}(hk:k<=10)(ns:List Cn)(hn:ns.length<=10)(s9 s10:Sl) :
 ∃q:Cn,q.wf m true/\q.sz<=7/\exs pg (call pg (n+4)) (hoS L s1 s2 s3 m s5 hs pr nt s9 s10 (.sh false (.int x)) (.own false (ns.map Cn.d)) (.sh false (.int (k:Int)))) aHy =
  .next (hoS L s1 s2 s3 m s5 hs pr nt s9 s10 (.sh false (.int x)) (.own false ((ns++[q]).map Cn.d)) (.sh false (.int (k:Int)))):=by
 obtain⟨q,q1,q2,q3⟩:=jO n x (k:=7*(k:Int)) (by omega) (by omega) hm false (dp:=0) (.inl (Int.le_refl 0));have m7:opD .Mult (.cl (.int 7)) (.cl (.int (k:Int)))=.ok (.cl (.int (7*(k:Int)))):=mul_int (by
  simp only[eZ,A9,bA,Am];right;omega)
 let σ:=hoS L s1 s2 s3 m s5 hs pr nt s9 s10 (.sh false (.int x)) (.own false (ns.map Cn.d)) (.sh false (.int (k:Int)))
 have ec:=aBg (P:=pg) (cl:=call pg (n+4)) (σ:=σ) (f:=10) (a:=.v 11) (x:=.cl (.int x)) rfl (dH (a:=.c (.int 7)) (b:=.v 13) rfl rfl m7) (c:=.v 4) (z:=.cl (.int (m:Int))) rfl (e:=.c (.bl false)) (w:=.cl (.bl false)) rfl (g:=.c (.int 0)) (u:=.cl (.int 0)) rfl q3;have el:ev pg (call pg (n+4)) σ (.lst (.k (.tup (.k (.c (.str "yes")) .z)) (.k (.call 10 (.k (.v 11) (.k (.op .Mult (.c (.int 7)) (.v 13)) (.k (.v 4) (.k (.c (.bl false)) (.k (.c (.int 0)) .z)))))) .z)))=.ok ⟨.lst [Cn.yes.d,q.d],true,false,[]⟩:=by rw[eW,aB,show ev pg (call pg (n+4)) σ (.tup (.k (.c (.str "yes")) .z))=.ok (.cl Cn.yes.d) from rfl,aA,aB,ec];rfl
 refine⟨if mix x (k:Int) % 2=0 then .yes else q,?_,?_,cs (iZ (ds:=ns.map Cn.d) (aM el (dH (dB rfl rfl (bW (n+3) x (by omega) (by omega))) rfl (dZ 2 (by decide) _)) (aMI (a:=.yes) (b:=q) (aEG _))) rfl (by rw[lM];unfold lim;omega) rfl (fR ..)) (aZ ..)⟩ <;> split;trivial;exact q1;exact(by decide:1<=7);exact q2
theorem aAf(n:Nat)(ns:List Int)(hm:1<=m)(hm5:m<=5)(hk:k<3){hs:List (List (List Way))}{pr:List Cn}{nt:List (List Cn)}(l1:hs.length=k)(l2:pr.length=k)(l3:nt.length=k)(s1 s2 s3 s5 s10 s11 s12 s13:Sl) :
 ∃h p t s10' s11' s12' s13',pZ m h/\(p.wf m false/\p.sz<=15)/\(uX m t/\t.length=h.length+1)/\exs pg (call pg (n+8)) (hoS (.lst (ns.map D.int)) s1 s2 s3 m s5 hs pr nt (.sh false (.int (k:Int))) s10 s11 s12 s13) aAe =
  .next (hoS (.lst (ns.map D.int)) s1 s2 s3 m s5 (hs++[h]) (pr++[p]) (nt++[t]) (.sh false (.int (k:Int))) s10' s11' s12' s13'):=by
 have m9:opD .Mult (.cl (.int 9)) (.cl (.int k))=.ok (.cl (.int (9*k))):=mul_int (by
  simp only[eZ,A9,bA,Am];right;omega)
 obtain⟨a,ha,hal⟩:∃a:Nat,(3:Int)+9*(k:Int)=(a:Int)/\a<=30:=⟨3+9*k,by omega,by omega⟩
 obtain⟨h,h1,h2⟩:=aEJ n ns (a:=a) (by omega) hm hm5;have c7:call pg (n+8) 5 [.lst (ns.map D.int),.int ((a:Int)+7)]=_:=dF (n+7) ns (k:=a+7) (by omega);have c8:call pg (n+8) 5 [.lst (ns.map D.int),.int ((a:Int)+8)]=_:=dF (n+7) ns (k:=a+8) (by omega);generalize cellAt ns (a+7)=y at c7;generalize cellAt ns (a+8)=x at c8;obtain⟨p,p1,p2,p3⟩:=xQ (n+2) y hm;have hf:=h1.few
 let L:D:=.lst (ns.map D.int)
 have v0:∀t:Sg,ev pg (call pg (n+8)) (.sh true L::t) (.v 0)=.ok ⟨L,false,true,[]⟩:=λt=>rfl;have hix:bK ⟨.lst ((hs++[h]).map bL),false,false,[6]⟩ (.cl (.int (k:Int)))=.ok ⟨bL h,false,false,[6]⟩:=xM (f:=bL) (xs:=hs++[h]) (k:=k) (x:=h) rfl (by rw[<-l1];simp);have hw:=cH (P:=pg) (cl:=call pg (n+8)) (σ:=hoS L s1 s2 s3 m s5 (hs++[h]) (pr++[p]) nt (.sh false (.int (k:Int))) (.sh false (.int (a:Int))) (.sh false (.int x)) (.own false []) s13) (a:=.op .Add (.bi .len (.k (.idx (.v 6) (.v 9)) .z)) (.c (.int 1))) (v:=.cl (.int ((h.length+1:Nat):Int))) (dH (cX (aM rfl rfl hix) ((cA (h.map dO) ..).trans (by rw[lM]))) rfl (add_int (h.length:Int) 1)) rfl (by omega);obtain⟨σ',e6,t,s13',g1,g2,rfl⟩:=dR (t:=.n 13) (b:=aHy) (λi σ=>∃(t:List Cn) (s13:Sl),(∀q∈t,q.wf m true/\q.sz<=7)/\t.length=i/\σ=hoS L s1 s2 s3 m s5 (hs++[h]) (pr++[p]) nt (.sh false (.int (k:Int))) (.sh false (.int (a:Int))) (.sh false (.int x)) (.own false (t.map Cn.d)) s13) hw ⟨[],_,λ_ h=>(nomatch h),rfl,rfl⟩ (λi hi σ hσ=>by
  obtain⟨t,s13,g1,g2,rfl⟩:=hσ;have hi':i<h.length+1:=by simpa using hi
  obtain⟨q,q1,q2,q3⟩:=aCt (n+4) x L s1 s2 s3 s5 hm (hs++[h]) (pr++[p]) nt (k:=i) (by omega) t (by omega) (.sh false (.int (k:Int))) (.sh false (.int (a:Int)));refine⟨_,_,?_,q3,t++[q],_,λz hz=>?_,by simp[g2],rfl⟩;simp;rcases B7.mp hz with hz|hz;exact g1 z hz;rw[Bw.mp hz];exact⟨q1,q2⟩)
 have g2:t.length=h.length+1:=by simpa using g2
 refine⟨h,p,t,.sh false (.int a),.sh false (.int x),.sh false (nH t),s13',h1,⟨p1,p2⟩,⟨⟨by omega,g1⟩,g2⟩,?_⟩;refine cs (bV (dH rfl (dH rfl rfl m9) ((add_int _ _).trans (by rw[ha])))) (cs (iZ (ds:=hs.map bL) (fQ (v0 _) rfl rfl h2) rfl (by rw[lM];unfold lim;omega) rfl (fR ..)) (cs (iZ (ds:=pr.map Cn.d) (dB (dB (v0 _) (dH rfl rfl (add_int _ _)) c7) rfl p3) rfl (by rw[lM];unfold lim;omega) rfl (fR ..)) (cs (bV (dB (v0 _) (dH rfl rfl (add_int _ _)) c8)) (cs (σ':=hoS L s1 s2 s3 m s5 (hs++[h]) (pr++[p]) nt (.sh false (.int (k:Int))) (.sh false (.int (a:Int))) (.sh false (.int x)) (.own false []) s13) rfl (cs e6 (cs (iZ (ds:=nt.map nH) (v:=⟨.lst (t.map Cn.d),false,false,[12]⟩) rfl rfl (by rw[lM];unfold lim;omega) rfl (fR ..)) (aZ ..)))))))
structure House where
 bs:List (Str×Int)
 bg:Cn
 hs:List (List (List Way))
 pr:List Cn
 nt:List (List Cn)
def House.d(h:House):D:=.tup [.lst (aO h.bs),h.bg.d,.lst (h.hs.map bL),.lst (h.pr.map Cn.d),.lst (h.nt.map nH)]
structure HouseOk (h:House):Prop where
 bs:aHx h.bs
 bg:h.bg.wf h.bs.length true/\h.bg.sz<=15
 one:1<=h.hs.length
 few:h.hs.length<=3
 hs:∀x∈h.hs,pZ h.bs.length x
 pl:h.pr.length=h.hs.length
 pr:∀p∈h.pr,p.wf h.bs.length false/\p.sz<=30
 nl:h.nt.map (·.length)=h.hs.map (·.length+1)
 nt:∀t∈h.nt,uX h.bs.length t
theorem HouseOk.nf{h:House}(o:HouseOk h):h.nt.length=h.hs.length:=by have:=congrArg List.length o.nl;simpa using this
theorem aCu(n:Nat)(ns:List Int):∃h:House,HouseOk h/\call pg (n+9) 14 [.lst (ns.map D.int),.int 16]=.ok (h.d,false,false):=by
 have c0:call pg (n+8) 5 [.lst (ns.map D.int),.int 0]=_:=dF (n+7) ns (k:=0) (by omega);have c1:call pg (n+8) 5 [.lst (ns.map D.int),.int 1]=_:=dF (n+7) ns (k:=1) (by omega);have c2:call pg (n+8) 5 [.lst (ns.map D.int),.int 2]=_:=dF (n+7) ns (k:=2) (by omega);generalize cellAt ns 0=x0 at c0;generalize cellAt ns 1=x1 at c1;generalize cellAt ns 2=x2 at c2;have d9:opD .FloorDiv (.cl (.int x0)) (.cl (.int 9))=.ok (.cl (.int (x0 / 9))):=aAZ rfl;obtain⟨g,hg⟩:∃g,(x0 / 9 % 8==5)=g:=⟨_,rfl⟩
 have m5:opD .Mult (.cl (.int 5)) (.cl (.int (b2i g)))=.ok (.cl (.int (5*b2i g))):=mul_int (by cases g <;> decide);obtain⟨most,hmo,hm1,hm2⟩:∃k:Nat,(16:Int)+5*b2i g=(k:Int)/\1<=k/\k<=21:=⟨if g then 21 else 16,by cases g <;> rfl,by cases g <;> decide,by cases g <;> decide⟩
 obtain⟨bs,hb,eb⟩:=aCs (n+6) x0 hm1 hm2;have hbl:(aO bs).length=bs.length:=by simp[aO]
 obtain⟨q,q1,q2,q3⟩:=mY (n+3) x1 (k:=1) (by decide) (by decide) hb.one false;have y1:=bW (n+7) x1 (k:=60) (by decide) (by decide);have y2:=bW (n+7) x2 (k:=2) (by decide) (by decide);have hm5:bs.length<=5:=by have:=hb.few;omega
 have g0:0<(3:Int)-b2i g:=by cases g <;> decide
 obtain⟨J,hJ,hj1,hj2⟩:∃k:Nat,1+mix x2 2 % (3-b2i g)=(k:Int)/\1<=k/\k<=3:=by
  have h1:=Bl (mix x2 2) (show(3:Int)-b2i g≠0 by omega);have h2:=Be (mix x2 2) g0;have h3:b2i g=0\/b2i g=1:=by cases g <;> simp[b2i]
  exact⟨(1+mix x2 2 % (3-b2i g)).toNat,by omega,by omega,by omega⟩
 let L:D:=.lst (ns.map D.int)
 have v0:∀t:Sg,ev pg (call pg (n+8)) (.sh true L::t) (.v 0)=.ok ⟨L,false,true,[]⟩:=λt=>rfl
 let B:Cn->Sg:=λq=>.sh true L::.sh true (.int 16)::.sh false (.int (b2i g))::.own false (aO bs)::.sh false (.int bs.length)::.sh false q.d::List.replicate 8 .x
 obtain⟨bg,b1,b2,e5⟩:∃bg:Cn,bg.wf bs.length true/\bg.sz<=15/\ex pg (call pg (n+8)) (B q) (hdS (drp 4 f14.body))=.next (B bg):=by
  have tt:=fM (P:=pg) (cl:=call pg (n+8)) (σ:=B q) (o:=.Eq) (a:=.op .Mod (.call 7 (.k (.call 5 (.k (.v 0) (.k (.c (.int 1)) .z))) (.k (.c (.int 60)) .z))) (.c (.int 2))) (dH (dB (dB (v0 _) rfl c1) rfl y1) rfl (dZ 2 (by decide) _)) (b:=.c (.int 1)) (y:=.cl (.int 1)) rfl (cU ..);cases hr:mix x1 60 % 2==1 with
  | true=>rw[hr] at tt;exact⟨.cmp true (.box 0) (.num 0),⟨hb.one,(show(0:Int)<=0/\(0:Int)<=99 by decide)⟩,(show 1+1+1<=15 by decide),aGL tt rfl⟩|false=>rw[hr] at tt;exact⟨q,q1,q2,bQ tt⟩
 have hw:=cH (P:=pg) (cl:=call pg (n+8)) (σ:=hoS L (.sh true (.int 16)) (.sh false (.int (b2i g))) (.own false (aO bs)) bs.length (.sh false bg.d) [] [] [] .x .x .x .x .x) (a:=.op .Add (.c (.int 1)) (.op .Mod (.call 7 (.k (.call 5 (.k (.v 0) (.k (.c (.int 2)) .z))) (.k (.c (.int 2)) .z))) (.op .Sub (.c (.int 3)) (.v 2)))) (v:=.cl (.int (J:Int))) (dH rfl (dH (dB (dB (v0 _) rfl c2) rfl y2) (dH rfl rfl (sub_int _ _)) (dZ _ g0 _)) ((add_int _ _).trans (by rw[hJ]))) rfl (by omega);obtain⟨σ',e9,hs,pr,nt,s9,s10,s11,s12,s13,l1,l2,l3,o1,o2,o3,rfl⟩:=dR (t:=.n 9) (b:=aAe) (λi σ=>∃(hs:List (List (List Way))) (pr:List Cn) (nt:List (List Cn)) (s9 s10 s11 s12 s13:Sl),hs.length=i/\pr.length=i/\nt.map (·.length)=hs.map (·.length+1)/\(∀x∈hs,pZ bs.length x)/\(∀p∈pr,p.wf bs.length false/\p.sz<=15)/\(∀t∈nt,uX bs.length t) /\
  σ=hoS L (.sh true (.int 16)) (.sh false (.int (b2i g))) (.own false (aO bs)) bs.length (.sh false bg.d) hs pr nt s9 s10 s11 s12 s13) hw ⟨[],[],[],_,_,_,_,_,rfl,rfl,rfl,λ_ h=>(nomatch h),λ_ h=>(nomatch h),λ_ h=>(nomatch h),rfl⟩ (λi hi σ hσ=>by
  obtain⟨hs,pr,nt,s9,s10,s11,s12,s13,l1,l2,l3,o1,o2,o3,rfl⟩:=hσ;have hi':i<J:=by simpa using hi
  obtain⟨h,p,t,t10,t11,t12,t13,r1,r2,⟨r3,r5⟩,r4⟩:=aAf n ns hb.one hm5 (k:=i) (by omega) l1 l2 (by have:=congrArg List.length l3;rw[lM,lM] at this;rw[this];exact l1) (.sh true (.int 16)) (.sh false (.int (b2i g))) (.own false (aO bs)) (.sh false bg.d) s10 s11 s12 s13;refine⟨_,_,?_,r4,hs++[h],pr++[p],nt++[t],_,_,_,_,_,by simp[l1],by simp[l2],by simp[l3,r5],λz hz=>?_,λz hz=>?_,λz hz=>?_,rfl⟩
  . simp only[Dn,Dz];exact aMB _
  all_goals rcases B7.mp hz with hz|hz
  exact o1 z hz;rw[Bw.mp hz];exact r1;exact o2 z hz;rw[Bw.mp hz];exact r2;exact o3 z hz;rw[Bw.mp hz];exact r3)
 have l1:hs.length=J:=by simpa using l1
 have l2:pr.length=J:=by simpa using l2
 refine⟨⟨bs,bg,hs,pr,nt⟩,⟨hb,⟨b1,b2⟩,by show 1<=hs.length;omega,by show hs.length<=3;omega,o1,by show pr.length=hs.length;omega,λp hp=>⟨(o2 p hp).1,A1 (o2 p hp).2 (by decide)⟩,l3,o3⟩,?_⟩;refine aH (F:=f14) rfl rfl (v:=⟨House.d ⟨bs,bg,hs,pr,nt⟩,false,false,[3,6,7,8]⟩) ?_;show exs pg (call pg (n+8)) (.sh true L::.sh true (.int 16)::List.replicate 12 .x) _=_;refine cs (σ':=.sh true L::.sh true (.int 16)::.sh false (.int (b2i g))::List.replicate 11 .x) (bV (cX (pQ (dH (dH (dB (v0 _) rfl c0) rfl d9) rfl (dZ 8 (by decide) _)) rfl ((cU ..).trans (by rw[hg]))) (aAc g))) ?_;refine cs (σ':=.sh true L::.sh true (.int 16)::.sh false (.int (b2i g))::.own false (aO bs)::List.replicate 10 .x) (dY (pU (x:=.cl (.int x0)) (dB (v0 _) rfl c0) (y:=.cl (.int (most:Int))) (by rw[<-hmo];exact dH rfl (dH rfl rfl m5) (add_int _ _)) eb)) ?_;refine cs (σ':=.sh true L::.sh true (.int 16)::.sh false (.int (b2i g))::.own false (aO bs)::.sh false (.int bs.length)::List.replicate 9 .x) (bV (cX (x:=⟨.lst (aO bs),false,false,[3]⟩) rfl ((cA ..).trans (by rw[hbl])))) ?_;refine cs (σ':=B q) (bV (aBg (dB (v0 _) rfl c1) rfl rfl rfl rfl q3)) (cs e5 ?_);refine cs (σ':=.sh true L::.sh true (.int 16)::.sh false (.int (b2i g))::.own false (aO bs)::.sh false (.int bs.length)::.sh false bg.d::.own false []::List.replicate 7 .x) rfl (cs (σ':=.sh true L::.sh true (.int 16)::.sh false (.int (b2i g))::.own false (aO bs)::.sh false (.int bs.length)::.sh false bg.d::.own false []::.own false []::List.replicate 6 .x) rfl (cs (σ':=hoS L (.sh true (.int 16)) (.sh false (.int (b2i g))) (.own false (aO bs)) bs.length (.sh false bg.d) [] [] [] .x .x .x .x .x) rfl (cs e9 (bD rfl))))
theorem aEO:∀{ds:List D},(∀d∈ds,wt d<=B)->wts ds<=ds.length*(B+2)
 | [],_=>by simp[wts]|d::ds,h=>by have h1:=h d As;have h2:=aEO (ds:=ds) λx hx=>h x (Ak _ hx);rw[wts,lC,Nat.succ_mul];omega
theorem gC{α:Type}{f:α->D}{B N:Nat}{xs:List α}(hl:xs.length<=N)(h:∀x∈xs,wt (f x)<=B):wts (xs.map f)<=N*(B+2):=by
 have h1:=aEO (B:=B) (ds:=xs.map f) λd hd=>by obtain⟨x,hx,rfl⟩:=Av.mp hd;exact h x hx
 rw[lM] at h1;exact A1 h1 (Nat.mul_le_mul_right _ hl)
theorem uY(ds:List D):wt (.tup ds)=3+wts ds:=by rw[wt]
theorem uZ(ds:List D):wt (.lst ds)=2+wts ds:=by rw[wt]
theorem aJF(hm:m<=5)(h:nG m p):wt (dC p)<=107:=by have h1:=xP hm p.2 h.wf;have h2:=h.sz;have h3:=mX (i:=(p.1:Int)) (by omega) (by have:=h.box;omega);unfold dC;simp only[uY,wts,h3];omega
theorem aJG(hm:m<=5)(hp:pl<=10){w:Way}(h:pY m pl w):wt w.d<=1100:=by have h1:=pV hm w.g h.g;have h2:=h.gs;have h3:=mX (i:=(w.nx:Int)) (by omega) (by have:=h.nx;omega);have h4:=gC (f:=dC) (N:=5) (B:=107) (A1 h.len hm) λp hp=>aJF hm (h.ps p hp);unfold Way.d;simp only[uY,wts,h3];omega
theorem aGQ(hm:m<=5)(h:pZ m r):wt (bL r)<=14000:=by
 have hf:=h.few;have h4:=gC (f:=dO) (N:=3) (B:=4500) h.few λx hx=>by have o:=h.all x hx;have h5:=gC (f:=Way.d) (N:=4) (B:=1100) o.few λw hw=>aJG hm (by omega) (o.all w hw);unfold dO;rw[uZ];omega
 unfold bL;rw[uZ];omega
theorem xS{h:House}(o:HouseOk h):wt h.d<lim:=by
 have hm:h.bs.length<=5:=by have:=o.bs.few;omega
 have b:=gC (f:=box) (N:=4) (B:=30) o.bs.few λx hx=>by
  obtain⟨n1,n2⟩:=o.bs.nm x hx;obtain⟨t1,t2⟩:=o.bs.tops.one x hx;have h3:=mX (i:=x.2) (by omega) (by omega);have h4:wt (.str x.1)=x.1.length+2:=by rw[wt,if_pos n1]
  unfold box;simp only[uY,wts,h3,h4];omega
 have b':wts (aO h.bs)<=4*32:=b;have g:=pV hm h.bg o.bg.1;have gs:=o.bg.2;have hh:=gC (f:=bL) (N:=3) (B:=14000) o.few λx hx=>aGQ hm (o.hs x hx);have pp:=gC (f:=Cn.d) (N:=3) (B:=900) (by rw[o.pl];exact o.few) λx hx=>by have:=pV hm x (o.pr x hx).1;have:=(o.pr x hx).2;omega
 have nn:=gC (f:=nH) (N:=3) (B:=1000) (by rw[o.nf];exact o.few) λx hx=>by
  have z:=gC (f:=Cn.d) (N:=4) (B:=210) (o.nt x hx).few λy hy=>by obtain⟨w1,w2⟩:=(o.nt x hx).all y hy;have:=pV hm y w1;omega
  unfold nH;rw[uZ];omega
 unfold House.d;simp only[uY,uZ,wts];show _<1000000;omega
theorem eA{α:Type}{f:α->D}{B:Nat}:∀{xs:List α},(∀x∈xs,dpt (f x)<=B)->dpts (xs.map f)<=B
 | [],_=>by rw[mN,dpts];exact Dd _|x::xs,h=>by rw[mC,dpts];exact Nat.max_le.mpr ⟨h x As,eA λy hy=>h y (Ak _ hy)⟩
theorem xT:∀s:Sm,dpt s.d<=s.sz
 | .num _=>by simp only[Sm.d,Sm.sz,dpt,dpts];decide|.box _=>by simp only[Sm.d,Sm.sz,dpt,dpts];decide|.aft _=>by simp only[Sm.d,Sm.sz,dpt,dpts];decide|.two _ a b=>by have h1:=xT a;have h2:=xT b;simp only[Sm.d,Sm.sz,dpt,dpts];omega
theorem qJ:∀s:Cn,dpt s.d<=s.sz
 | .yes=>by simp only[Cn.d,Cn.sz,dpt,dpts];decide|.cmp _ a b=>by have h1:=xT a;have h2:=xT b;simp only[Cn.d,Cn.sz,dpt,dpts];omega|.nt a=>by have h1:=qJ a;simp only[Cn.d,Cn.sz,dpt,dpts];omega|.two _ a b=>by have h1:=qJ a;have h2:=qJ b;simp only[Cn.d,Cn.sz,dpt,dpts];omega
theorem xU{h:House}(o:HouseOk h):dpt h.d<=60:=by
 have b:dpts (aO h.bs)<=1:=eA λx _=>by simp only[box,dpt,dpts];decide
 have g:=A1 (qJ h.bg) o.bg.2;have hh:dpts (h.hs.map bL)<=18:=eA λr hr=>by
  have z:dpts (r.map dO)<=17:=eA λx hx=>by
   have z:dpts (x.map Way.d)<=16:=eA λw hw=>by
    have k:=((o.hs r hr).all x hx).all w hw;have z:dpts (w.ps.map dC)<=4:=eA λp hp=>by have z:=A1 (xT p.2) (k.ps p hp).sz;simp only[dC,dpt,dpts];omega
    have z2:=A1 (qJ w.g) k.gs;simp only[Way.d,dpt,dpts];omega
   simp only[dO,dpt];omega
  simp only[bL,dpt];omega
 have pp:dpts (h.pr.map Cn.d)<=30:=eA λx hx=>A1 (qJ x) (o.pr x hx).2;have nn:dpts (h.nt.map nH)<=8:=eA λx hx=>by have z:dpts (x.map Cn.d)<=7:=eA λy hy=>A1 (qJ y) ((o.nt x hx).all y hy).2;simp only[nH,dpt];omega
 simp only[House.d,dpt,dpts];omega
theorem aOt:∀p,(qX p == "minus")=!p:=by decide +kernel
theorem aOu:∀p,(pS p == "less")=!p:=by decide +kernel
theorem aOv:∀p,(iY p == "is")=false:=by decide +kernel
theorem aOw:∀p,(iY p == "less")=false:=by decide +kernel
theorem gL{ah be:List Int}(ha:ah.length=c)(hb:be.length=c)(hn:Hp.noL bd=true)(hbd:pl=false->bd=aD be):∀(s:Sm) (n:Nat),s.wf c pl->call pg (n+s.sz) 15 [s.d,aD ah,bd]=.ok (.int (s.val ah be),false,false)
 | .num k,n,w=>by refine aH (F:=f15) rfl rfl (v:=.cl (.int k)) ?_;exact bX (bH (aM (v0_ rfl) rfl (dL _ _ rfl)) aMl) (bD (aM (v0_ rfl) rfl (gK _ _ _ rfl)))|.box k,n,w=>by have w:k<c:=w;refine aH (F:=f15) rfl rfl (v:=.cl (.int (ah.getD k 0))) ?_;exact cs (bQ (bH (aM (v0_ rfl) rfl (dL _ _ rfl)) aMm)) (bX (bH (aM (v0_ rfl) rfl (dL _ _ rfl)) aMn) (bD (aM (v1_ (aI _)) (aM (v0_ rfl) rfl (gK _ _ _ rfl)) (fD (by omega)))))|.aft k,n,w=>by obtain⟨w1,w2⟩:k<c/\pl=false:=w;have e:=hbd w2;subst e;refine aH (F:=f15) rfl rfl (v:=.cl (.int (be.getD k 0))) ?_;exact cs (bQ (bH (aM (v0_ rfl) rfl (dL _ _ rfl)) aMo)) (cs (bQ (bH (aM (v0_ rfl) rfl (dL _ _ rfl)) aMp)) (bX (bH (aM (v0_ rfl) rfl (dL _ _ rfl)) aMq) (bD (aM (v2_ (aI _)) (aM (v0_ rfl) rfl (gK _ _ _ rfl)) (fD (by omega))))))|.two p a b,n,w=>by
  have c1:=gL ha hb hn hbd a (n+b.sz) w.1;have c2:=gL ha hb hn hbd b (n+a.sz) w.2;rw[show n+b.sz+a.sz=n+a.sz+b.sz by omega] at c1;have e:n+Sm.sz (.two p a b)=n+a.sz+b.sz+1:=by show n+(1+a.sz+b.sz)=_;omega
  rw[e];have m2:opD .Mult (.cl (.int 2)) (.cl (.int (b2i !p)))=.ok (.cl (.int (2*b2i !p))):=mul_int (by cases p <;> decide);have m1:opD .Mult (.cl (.int (1-2*b2i !p))) (.cl (.int (b.val ah be)))=.ok (.cl (.int ((1-2*b2i !p)*b.val ah be))):=mul_int (by
   simp only[eZ,A9,bA,Am];left;cases p <;> decide)
  have e:a.val ah be+(1-2*b2i !p)*b.val ah be=Sm.val ah be (.two p a b):=by
   show _=if p=true then a.val ah be+b.val ah be else a.val ah be-b.val ah be
   cases p;show _+(1-2*1)*_=_-_;omega;show _+(1-2*0)*_=_+_;omega
  refine aH (F:=f15) rfl rfl (v:=.cl (.int (Sm.val ah be (.two p a b)))) ?_;rw[<-e];exact cs (bQ (bH (aM (v0_ (Sm.noL _)) rfl (dL _ _ rfl)) (aMr p))) (cs (bQ (bH (aM (v0_ (Sm.noL _)) rfl (dL _ _ rfl)) (aMs p))) (cs (bQ (bH (aM (v0_ (Sm.noL _)) rfl (dL _ _ rfl)) (aMt p))) (cs (bV (bE (aM (v0_ (Sm.noL _)) rfl (gK _ _ _ a.noL)) (v1_ (aI _)) (v2_ hn) c1)) (bD (dH rfl (dH (dH rfl (dH rfl (cX (aMj (aM (v0_ (Sm.noL _)) rfl (dL _ _ rfl)) (aOt p)) (aAc _)) m2) (sub_int _ _)) (bE (aM (v0_ (Sm.noL _)) rfl (uR _ _ _ _ b.noL)) (v1_ (aI _)) (v2_ hn) c2) m1) (add_int _ _))))))
theorem lU{ah be:List Int}(ha:ah.length=c)(hb:be.length=c)(hn:Hp.noL bd=true)(hbd:pl=false->bd=aD be):∀(s:Cn) (n:Nat),s.wf c pl->call pg (n+s.sz) 16 [s.d,aD ah,bd]=.ok (.bl (s.hold ah be),false,false)
 | .yes,n,w=>by refine aH (F:=f16) rfl rfl (v:=.cl (.bl true)) ?_;exact bX (bH (aM (v0_ rfl) rfl (dL _ _ rfl)) aMu) (bD rfl)|.cmp i a b,n,w=>by
  have c1:=gL ha hb hn hbd a (n+b.sz) w.1;have c2:=gL ha hb hn hbd b (n+a.sz) w.2;rw[show n+b.sz+a.sz=n+a.sz+b.sz by omega] at c1;have e:n+Cn.sz (.cmp i a b)=n+a.sz+b.sz+1:=by show n+(1+a.sz+b.sz)=_;omega
  rw[e];refine aH (F:=f16) rfl rfl (v:=.cl (.bl (Cn.hold ah be (.cmp i a b)))) ?_;refine cs (bQ (bH (aM (v0_ (Cn.noL _)) rfl (dL _ _ rfl)) (aMx i))) (cs (bQ (bH (aM (v0_ (Cn.noL _)) rfl (dL _ _ rfl)) (aMy i))) ?_);cases i with
  | true=>exact bX (bH (aM (v0_ (Cn.noL _)) rfl (dL _ _ rfl)) (aJB true)) (bD (pQ (bE (aM (v0_ (Cn.noL _)) rfl (gK _ _ _ a.noL)) (v1_ (aI _)) (v2_ hn) c1) (bE (aM (v0_ (Cn.noL _)) rfl (uR _ _ _ _ b.noL)) (v1_ (aI _)) (v2_ hn) c2) rfl))|false=>exact cs (bQ (bH (aM (v0_ (Cn.noL _)) rfl (dL _ _ rfl)) (aJB false))) (bX (bH (aM (v0_ (Cn.noL _)) rfl (dL _ _ rfl)) (aOu false)) (bD (pQ (bE (aM (v0_ (Cn.noL _)) rfl (gK _ _ _ a.noL)) (v1_ (aI _)) (v2_ hn) c1) (bE (aM (v0_ (Cn.noL _)) rfl (uR _ _ _ _ b.noL)) (v1_ (aI _)) (v2_ hn) c2) rfl)))
 | .nt x,n,w=>by
  have c1:=lU ha hb hn hbd x n w;have e:n+Cn.sz (.nt x)=n+x.sz+1:=by show n+(1+x.sz)=_;omega
  rw[e];refine aH (F:=f16) rfl rfl (v:=.cl (.bl (Cn.hold ah be (.nt x)))) ?_;exact cs (bQ (bH (aM (v0_ (Cn.noL _)) rfl (dL _ _ rfl)) aMv)) (bX (bH (aM (v0_ (Cn.noL _)) rfl (dL _ _ rfl)) aMw) (bD (aMk (bE (aM (v0_ (Cn.noL _)) rfl (gK _ _ _ x.noL)) (v1_ (aI _)) (v2_ hn) c1))))
 | .two p a b,n,w=>by
  have c1:=lU ha hb hn hbd a (n+b.sz) w.1;have c2:=lU ha hb hn hbd b (n+a.sz) w.2;rw[show n+b.sz+a.sz=n+a.sz+b.sz by omega] at c1;have e:n+Cn.sz (.two p a b)=n+a.sz+b.sz+1:=by show n+(1+a.sz+b.sz)=_;omega
  rw[e];refine aH (F:=f16) rfl rfl (v:=.cl (.bl (Cn.hold ah be (.two p a b)))) ?_;refine cs (bQ (bH (aM (v0_ (Cn.noL _)) rfl (dL _ _ rfl)) (aMz p))) (cs (bQ (bH (aM (v0_ (Cn.noL _)) rfl (dL _ _ rfl)) (aMA p))) (cs (bQ (bH (aM (v0_ (Cn.noL _)) rfl (dL _ _ rfl)) (aOv p))) (cs (bQ (bH (aM (v0_ (Cn.noL _)) rfl (dL _ _ rfl)) (aOw p))) (cs (bV (bE (aM (v0_ (Cn.noL _)) rfl (gK _ _ _ a.noL)) (v1_ (aI _)) (v2_ hn) c1)) (cs (bV (bE (aM (v0_ (Cn.noL _)) rfl (uR _ _ _ _ b.noL)) (v1_ (aI _)) (v2_ hn) c2)) ?_)))));cases p with
  | true=>exact bX (bH (aM (v0_ (Cn.noL _)) rfl (dL _ _ rfl)) (aGK true)) (bD (aGI rfl rfl))|false=>exact cs (bQ (bH (aM (v0_ (Cn.noL _)) rfl (dL _ _ rfl)) (aGK false))) (bD (aHw rfl rfl))
def aAg(bs:List (Str×Int))(k:Nat):Int:=(bs.map (·.2)).getD k 0
noncomputable def sW(bs:List (Str×Int))(st:List Int):List Int->List (Nat×Sm)->Option (List Int)
 | acc,[]=>some acc|acc,p::ps=>if 0<=p.2.val st st/\p.2.val st st<=aAg bs p.1 then sW bs st (acc.set p.1 (p.2.val st st)) ps else none
def behF(bs:List (Str×Int))(w:Way)(st:List Int):Option (List Int):=if w.g.hold st st then sW bs st st w.ps else none
def stD:Option (List Int)->D
 | none=>.non|some r=>aD r
theorem aEP(h1:ev P cl σ a=.ok (.cl (.int x)))(h2:ev P cl σ b=.ok (.cl (.int y))):tst P cl σ (.cmp2 .LtE .LtE (.c (.int 0)) a b)=.ok (decide (0<=x)&&decide (x<=y)):=by
 rw[xH,cF,aA,h1,aA,aX,aX,uN];cases decide (0<=x) with
 | true=>simp only[h2,aA,aX,uN,Bool.true_and]|false=>rfl
theorem qK(h1:ev P cl σ a=.ok (.cl (.int x)))(h2:ev P cl σ b=.ok (.cl (.int y))):tst P cl σ (.cmp2 .LtE .Lt (.c (.int 0)) a b)=.ok (decide (0<=x)&&decide (x<y)):=by
 rw[xH,cF,aA,h1,aA,aX,aX,uN];cases decide (0<=x) with
 | true=>simp only[h2,aA,aX,mT,Bool.true_and]|false=>rfl
theorem vA{bs:List (Str×Int)}(h:k<bs.length):∃b:D,noL b=true/\bK ⟨.lst (aO bs),false,true,[]⟩ (.cl (.int (k:Int)))=.ok (.cl b)/\bK (.cl b) (.cl (.int 1))=.ok (.cl (.int (aAg bs k))):=by
 refine⟨box bs[k],jM _,?_,?_⟩;have hl:(aO bs).length=bs.length:=by simp[aO]
 have e:(aO bs)[k]? = some (box bs[k]):=by simp[aO,h]
 unfold bK;simp only[aX,hl,dA h,e,Vl.sub,jM,if_true];have:=gK (.str bs[k].1) (.int bs[k].2) [] rfl;unfold box aAg;rw[this];simp[h]
theorem aEQ(n:Nat){bs:List (Str×Int)}{st:List Int}(hs:st.length=bs.length){s:Sm}(w:s.wf bs.length true)(z:s.sz<=3):call pg (n+3) 0 [s.d,aD st,.non]=.ok (.int (s.val st st),false,false):=by have:=iX (P:=pg) (f:=0) rfl (ah:=st) (be:=st) (bd:=.non) (c:=bs.length) (pl:=true) hs hs rfl (λh=>nomatch h) s (n+3-s.sz) w;rwa [show n+3-s.sz+s.sz=n+3 by omega] at this
theorem aCv(n:Nat){bs:List (Str×Int)}{st:List Int}(hs:st.length=bs.length){s:Sm}(w:s.wf bs.length true)(z:s.sz<=3):call pg (n+3) 15 [s.d,aD st,.non]=.ok (.int (s.val st st),false,false):=by have:=gL (ah:=st) (be:=st) (bd:=.non) (c:=bs.length) (pl:=true) hs hs rfl (λh=>nomatch h) s (n+3-s.sz) w;rwa [show n+3-s.sz+s.sz=n+3 by omega] at this
theorem xV(n:Nat){bs:List (Str×Int)}{st:List Int}(hs:st.length=bs.length){q:Cn}(w:q.wf bs.length true)(z:q.sz<=15):call pg (n+15) 1 [q.d,aD st,.non]=.ok (.bl (q.hold st st),false,false):=by have:=lT (P:=pg) (v:=0) (f:=1) rfl rfl (ah:=st) (be:=st) (bd:=.non) (c:=bs.length) (pl:=true) hs hs rfl (λh=>nomatch h) q (n+15-q.sz) w;rwa [show n+15-q.sz+q.sz=n+15 by omega] at this
theorem xW(n:Nat){bs:List (Str×Int)}{st:List Int}(hs:st.length=bs.length){q:Cn}(w:q.wf bs.length true)(z:q.sz<=15):call pg (n+15) 16 [q.d,aD st,.non]=.ok (.bl (q.hold st st),false,false):=by have:=lU (ah:=st) (be:=st) (bd:=.non) (c:=bs.length) (pl:=true) hs hs rfl (λh=>nomatch h) q (n+15-q.sz) w;rwa [show n+15-q.sz+q.sz=n+15 by omega] at this
abbrev aOx:Ss:=match hdS (drp 2 f2.body) with|.for _ _ b=>b|_=>.z
theorem put_loop{bs:List (Str×Int)}{f:Sg->Vl->O}(I:List Int->Sg->Prop)(ht:∀acc σ p,I acc σ->nG bs.length p->acc.length=bs.length->if 0<=p.2.val st st/\p.2.val st st<=aAg bs p.1 then ∃σ',f σ (.cl (dC p))=.next σ'/\I (acc.set p.1 (p.2.val st st)) σ' else f σ (.cl (dC p))=.ret (.cl .non)) :
 ∀(ps:List (Nat×Sm)) (acc:List Int) (σ:Sg),(∀p∈ps,nG bs.length p)->acc.length=bs.length->I acc σ->(sW bs st acc ps=none/\dP f (ps.map λp=>Vl.cl (dC p)) σ=.ret (.cl .non))\/∃r σ',sW bs st acc ps=some r/\dP f (ps.map λp=>Vl.cl (dC p)) σ=.next σ'/\I r σ'
 | [],acc,σ,_,_,hI=>.inr ⟨acc,σ,rfl,rfl,hI⟩|p::ps,acc,σ,h,ha,hI=>by have tu:=ht acc σ p hI (h p As) ha;rw[mC,dP,sW];by_cases hv:0<=p.2.val st st/\p.2.val st st<=aAg bs p.1;rw[if_pos hv] at tu ⊢;obtain⟨σ',e,hI'⟩:=tu;rw[e];exact put_loop I ht ps _ σ' (λq hq=>h q (Ak _ hq)) (by rw[Aw];exact ha) hI';rw[if_neg hv] at tu ⊢;rw[tu];exact .inl ⟨rfl,rfl⟩
theorem qL(ps:List (Nat×Sm)):items v (ps.map dC)=ps.map λp=>Vl.cl (dC p):=mV aBk ps
theorem xX(ps:List (Nat×Sm)):noL (.tup (ps.map dC))=true:=by rw[noL];exact mZ _
theorem aJH(w:Way):bK (.cl w.d) (.cl (.int 0))=.ok (.cl w.g.d):=dL _ _ (Cn.noL _)
theorem aJI(w:Way):bK (.cl w.d) (.cl (.int 1))=.ok (.cl (.tup (w.ps.map dC))):=gK _ _ _ (xX _)
theorem aJJ(w:Way):bK (.cl w.d) (.cl (.int 2))=.ok (.cl (.int (w.nx:Int))):=uR _ _ _ _ rfl
theorem aAh(n:Nat){bs:List (Str×Int)}{st:List Int}(hs:st.length=bs.length)(hb:bs.length<=5){w:Way}(o:pY bs.length pl w):call pg (n+16) 2 [.lst (aO bs),w.d,aD st]=.ok (stD (behF bs w st),false,false):=by
 have ch:=xV n hs o.g o.gs;refine aH (F:=f2) rfl rfl (v:=.cl (stD (behF bs w st))) ?_;have v1:∀{s0:Sl} {r:Sg},ev pg (call pg (n+15)) (s0::.sh true w.d::r) (.v 1)=.ok (.cl w.d):=λ{s0 r}=>v1_ (nZ w);have v2:∀{s0 s1:Sl} {r:Sg},ev pg (call pg (n+15)) (s0::s1::.sh true (aD st)::r) (.v 2)=.ok (.cl (aD st)):=λ{s0 s1 r}=>v2_ (aI st);have t:=nN (uT (σ:=[.sh true (.lst (aO bs)),.sh true w.d,.sh true (aD st),.x,.x,.x,.x]) (a:=.idx (.v 1) (.c (.int 0))) (aM v1 rfl (aJH w)) v2 (c:=.c .non) (z:=.cl .non) rfl ch);unfold behF;cases hh:w.g.hold st st with
 | false=>rw[hh] at t;exact bX t (bD rfl)|true=>
  rw[hh] at t;refine cs (bQ t) (cs (dY (cX v2 (xO st))) ?_);have hw:walk pg (call pg (n+15)) [.sh true (.lst (aO bs)),.sh true w.d,.sh true (aD st),.own false (st.map D.int),.x,.x,.x] (.seq (.idx (.v 1) (.c (.int 1))))=.ok (w.ps.map (λp=>Vl.cl (dC p)),[]):=by rw[gJ,aM v1 rfl (aJI w),<-qL (v:=.cl (.tup (w.ps.map dC)))];rfl
  rcases put_loop (bs:=bs) (st:=st) (f:=λσ x=>O.from σ (bT σ x (.t [4,5])) λσ'=>exs pg (call pg (n+15)) σ' aOx) (λacc σ=>∃s4 s5 s6,σ=[.sh true (.lst (aO bs)),.sh true w.d,.sh true (aD st),.own false (acc.map D.int),s4,s5,s6]) (λacc σ p hσ o ha=>by
   obtain⟨s4,s5,s6,rfl⟩:=hσ;have cv:=aEQ (n+12) hs o.wf o.sz;obtain⟨b,b1,b2,b3⟩:=vA (bs:=bs) (k:=p.1) o.box;simp only[dC,aBe _ (show noL (.int (p.1:Int))=true from rfl) p.2.noL,aT];generalize p.2.val st st=v at cv;have tt:=nN (aEP (P:=pg) (cl:=call pg (n+15)) (σ:=[.sh true (.lst (aO bs)),.sh true w.d,.sh true (aD st),.own false (acc.map D.int),.sh false (.int p.1),.sh false p.2.d,.sh false (.int v)]) (a:=.v 6) (b:=.idx (.idx (.v 0) (.v 4)) (.c (.int 1))) (x:=v) (y:=aAg bs p.1) rfl (aM (aM (x:=⟨.lst (aO bs),false,true,[]⟩) rfl rfl b2) rfl b3));split;rename_i hv;rw[aJD hv] at tt;exact⟨_,cs (bV (bE rfl v2 rfl cv)) (cs (bQ tt) (cs (aBh (j:=p.1) rfl rfl rfl (by rw[ha];exact o.box) (by omega)) (aZ ..))),_,_,_,rfl⟩;rename_i hv;rw[aJC hv] at tt;exact cs (bV (bE rfl v2 rfl cv)) (bX tt (bD rfl))) w.ps st [.sh true (.lst (aO bs)),.sh true w.d,.sh true (aD st),.own false (st.map D.int),.x,.x,.x] o.ps hs ⟨_,_,_,rfl⟩ with⟨e1,e2⟩|⟨r,σ',e1,e2,s4,s5,s6,rfl⟩
  rw[if_pos rfl,e1];exact aMD ((uU hw).trans e2);rw[if_pos rfl,e1];exact cs ((uU hw).trans e2) (bD (cX rfl (uV 3 (dS r))))
structure cB (h:House) (st pl:List Int):Prop where
 st:st.length=h.bs.length
 len:pl.length=h.hs.length
 pl:∀(i:Nat) (hi:i<h.hs.length),0<=pl.getD i 0/\pl.getD i 0<=h.hs[i].length
def fS(h:House)(pl:List Int)(i:Nat):List Way:=(h.hs.getD i []).getD (pl.getD i 0).toNat []
def sG(h:House)(pl:List Int)(i k:Nat):Way:=(fS h pl i).getD k ⟨.yes,[],0⟩
def eB(st pl:List Int):D:=.tup [aD st,aD pl]
def jA(x y:Int):D:=.tup [.int x,.int y]
theorem fF(st pl:List Int):noL (eB st pl)=true:=lR (aI _) (aI _)
theorem xY(x y:Int):noL (jA x y)=true:=rfl
abbrev Sta:=List Int×List Int
noncomputable def goneS(h:House)(s:Sta)(i k:Nat):Option Sta:=
 if k<(fS h s.2 i).length then (behF h.bs (sG h s.2 i k) s.1).map λr=>(r,s.2.take i++[((sG h s.2 i k).nx:Int)]++s.2.drop (i+1)) else none
def aAi:Option Sta->D
 | none=>.non|some s=>eB s.1 s.2
theorem aHz(s:Sta):bK (.cl (eB s.1 s.2)) (.cl (.int 0))=.ok (.cl (aD s.1)):=dL _ _ (aI _)
theorem aHA(s:Sta):bK (.cl (eB s.1 s.2)) (.cl (.int 1))=.ok (.cl (aD s.2)):=gK _ _ _ (aI _)
theorem oA(i:Nat)(h:House):Sl.val i (.sh true h.d)=.ok ⟨h.d,false,true,[]⟩:=rfl
theorem eC(h:House):bK ⟨h.d,false,true,[]⟩ (.cl (.int 2))=.ok ⟨.lst (h.hs.map bL),false,true,[]⟩:=rfl
theorem jP(h:House):bK ⟨h.d,false,true,[]⟩ (.cl (.int 0))=.ok ⟨.lst (aO h.bs),false,true,[]⟩:=rfl
theorem jB{h:House}(hi:i<h.hs.length):bK ⟨.lst (h.hs.map bL),false,true,[]⟩ (.cl (.int (i:Int)))=.ok ⟨bL h.hs[i],false,true,[]⟩:=by
 have e:(h.hs.map bL)[i]? = some (bL h.hs[i]):=by simp[hi]
 unfold bK;simp only[aX,dA (show i<(h.hs.map bL).length by rw[lM];exact hi),e];rfl
theorem aBo{rows:List (List Way)}(hj:j<rows.length):bK ⟨bL rows,false,true,[]⟩ (.cl (.int (j:Int)))=.ok ⟨dO rows[j],false,true,[]⟩:=by
 have e:(rows.map dO)[j]? = some (dO rows[j]):=by simp[hj]
 unfold bK bL;simp only[aX,dA (show j<(rows.map dO).length by rw[lM];exact hj),e];rfl
theorem aBp{row:List Way}(hk:k<row.length):bK ⟨dO row,false,true,[]⟩ (.cl (.int (k:Int)))=.ok (.cl row[k].d):=by
 have e:(row.map Way.d)[k]? = some row[k].d:=by simp[hk]
 unfold bK dO;simp only[aX,dA (show k<(row.map Way.d).length by rw[lM];exact hk),e,bR (nZ _)]
theorem aER(n:Nat){rows:List (List Way)}(hj:j<rows.length):call pg (n+1) 3 [bL rows,.int (j:Int)]=.ok (dO rows[j],false,true):=by
 have hv:Sl.val 0 (.sh true (bL rows))=.ok ⟨bL rows,false,true,[]⟩:=rfl;have tt:=qK (P:=pg) (cl:=call pg n) (σ:=[.sh true (bL rows),.sh true (.int (j:Int))]) (a:=.v 1) (b:=.bi .len (.k (.v 0) .z)) (x:=(j:Int)) (y:=(rows.length:Int)) rfl (by
  simp only[fP,aB,aE,bO,bB,gZ,hv,aA];show biD .len [⟨.lst (rows.map dO),false,true,[]⟩]=_;rw[cA,lM])
 refine aH (F:=f3) rfl rfl (v:=⟨dO rows[j],false,true,[]⟩) ?_;show exs pg (call pg n) [.sh true (bL rows),.sh true (.int (j:Int))] (.k (.ret (.ife _ (.idx (.v 0) (.v 1)) _)) .z)=_;rw[aN,cS,zV,tt,Aj (show(0:Int)<=(j:Int) by omega),Aj (show(j:Int)<(rows.length:Int) by omega)];simp only[aA,Bool.and_self,if_true,cR,bO,bB,gS,gZ,hv,aR,aBo hj,aT,fO]
theorem aBq(n:Nat){rows:List (List Way)}(hj:(rows.length:Int)<=j):call pg (n+1) 3 [bL rows,.int j]=.ok (.lst [],true,false):=by
 have hv:Sl.val 0 (.sh true (bL rows))=.ok ⟨bL rows,false,true,[]⟩:=rfl;have tt:=qK (P:=pg) (cl:=call pg n) (σ:=[.sh true (bL rows),.sh true (.int j)]) (a:=.v 1) (b:=.bi .len (.k (.v 0) .z)) (x:=j) (y:=(rows.length:Int)) rfl (by
  simp only[fP,aB,aE,bO,bB,gZ,hv,aA];show biD .len [⟨.lst (rows.map dO),false,true,[]⟩]=_;rw[cA,lM])
 refine aH (F:=f3) rfl rfl (v:=⟨.lst [],true,false,[]⟩) ?_;show exs pg (call pg n) [.sh true (bL rows),.sh true (.int j)] (.k (.ret (.ife _ _ (.lst .z))) .z)=_;rw[aN,cS,zV,tt,An (show ¬ j<(rows.length:Int) by omega),Bool.and_false];rfl
theorem aES(is:List Int)(lo hi:Option Int):cut (is.map D.int) lo hi=(cut is lo hi).map D.int:=by unfold cut;rw[lM,List.map_take,List.map_drop]
theorem xZ(is:List Int)(lo hi:Option Int):eG (.cl (aD is)) lo hi=.ok (.cl (aD (cut is lo hi))):=by show R.ok (Vl.mk (.tup (cut (is.map D.int) lo hi)) false (false&&!noLs (is.map D.int)) (if noLs (is.map D.int)=true then [] else []))=_;rw[dS,aES];rfl
theorem qM(a b:List Int)(h:a.length+b.length<=100):opD .Add (.cl (aD a)) (.cl (aD b))=.ok (.cl (aD (a++b))):=by show R.iff (decide ((a.map D.int).length+(b.map D.int).length<=lim)) (R.ok (Vl.mk (.tup (a.map D.int++b.map D.int)) false false []))=_;rw[lM,lM,Aj (show a.length+b.length<=lim by unfold lim;omega),gB,<-Bx];rfl
theorem iB{pl:List Int}(hl:pl.length<=10)(hi:i<pl.length)(h1:ev P cl σ v=.ok (.cl (aD pl)))(h2:ev P cl σ a=.ok (.cl (.int (i:Int))))(h3:ev P cl σ t=.ok (.cl (.int nx))) :
 ev P cl σ (.op .Add (.op .Add (.sli v .z (.k a .z)) (.tup (.k t .z))) (.sli v (.k (.op .Add a (.c (.int 1))) .z) .z))=.ok (.cl (aD (pl.take i++[nx]++pl.drop (i+1)))):=by have sk:aK (i:Int)=true:=hU (by omega);have sk1:aK ((i:Int)+1)=true:=aAY (by omega) (by omega);have ct:=uW pl i (by omega);have cf:=qD pl (i+1) (by omega);have cf:cut pl (some ((i:Int)+1)) none=pl.drop (i+1):=cf;have a1:=qM (pl.take i) [nx] (by rw[A4];simp only[lC,lN];omega);have a2:=qM (pl.take i++[nx]) (pl.drop (i+1)) (by rw[lA,A4,Cd];simp only[lC,lN];omega);have t1:Vl.cl (.tup [.int nx])=.cl (aD [nx]):=rfl;simp only[cT,lL,uQ,eN,aB,aE,cF,h1,h2,h3,aA,aX,sk,sk1,gB,xZ,ct,cf,add_int,aMG,t1,a1,a2]
theorem row_fact{h:House}(H:HouseOk h){s:Sta}(S:cB h s.1 s.2)(hi:i<h.hs.length):(∃(j:Nat) (hj:j<h.hs[i].length),s.2.getD i 0=(j:Int)/\fS h s.2 i=h.hs[i][j]/\∀w∈h.hs[i][j],pY h.bs.length (h.hs[i].length+1) w)\/((h.hs[i].length:Int)<=s.2.getD i 0/\fS h s.2 i=[]):=by
 obtain⟨p0,p1⟩:=S.pl i hi;have hrows:h.hs.getD i []=h.hs[i]:=by rw[Af,Ad hi];rfl
 by_cases hj:s.2.getD i 0<h.hs[i].length;have hj':(s.2.getD i 0).toNat<h.hs[i].length:=by omega
 refine .inl ⟨(s.2.getD i 0).toNat,hj',by omega,?_,((H.hs _ (A7 hi)).all _ (A7 hj')).all⟩;unfold fS;rw[hrows,Af,Ad hj'];rfl;refine .inr ⟨by omega,?_⟩;unfold fS;rw[hrows,Af,List.getElem?_eq_none (by omega)];rfl
theorem aJK{row:List Way}(e:fS h pl i=row)(hk:k<row.length):sG h pl i k=row[k]:=by unfold sG;rw[e,Af,Ad hk];rfl
theorem sH{h:House}{s:Sta}{row:List Way}(e:fS h s.2 i=row)(hk:k<row.length):goneS h s i k=(behF h.bs row[k] s.1).map λr=>(r,s.2.take i++[(row[k].nx:Int)]++s.2.drop (i+1)):=by unfold goneS;rw[aJK e hk,e,if_pos hk]
theorem jQ{s:Sta}{row:List Way}(e:fS h s.2 i=row)(hk:¬ k<row.length):goneS h s i k=none:=by unfold goneS;rw[e,if_neg hk]
theorem aET(rs:List (List Way)):biD .len [⟨bL rs,false,true,[]⟩]=.ok (.cl (.int (rs.length:Int))):=(cA (rs.map dO) ..).trans (by rw[lM])
theorem vB(r:List Way):biD .len [⟨dO r,false,true,[]⟩]=.ok (.cl (.int (r.length:Int))):=(cA (r.map Way.d) ..).trans (by rw[lM])
theorem aEU{P:Pg}{cl:Caller}{σ:Sg}{a b:E}{i m:Nat}{k:Bool}(h1:ev P cl σ a=.ok (.cl (.int (i:Int))))(h2:ev P cl σ b=.ok (.cl (.int (m:Int))))(hk:decide (i<m)=k):tst P cl σ (.nt (.cmp2 .LtE .Lt (.c (.int 0)) a b))=.ok (!k):=by rw[nN (qK h1 h2),Aj (show(0:Int)<=(i:Int) by omega),Bool.true_and,<-hk,show decide ((i:Int)<(m:Int))=decide (i<m) from decide_eq_decide.mpr (by omega)]
abbrev gnS(h:House)(s:Sta)(i k:Nat)(t:Sg):Sg:=.sh true h.d::.sh true (eB s.1 s.2)::.sh true (jA (i:Int) (k:Int))::t
theorem aEV(n:Nat){h:House}(H:HouseOk h){s:Sta}(S:cB h s.1 s.2){i:Nat}(hi:i<h.hs.length)(k:Nat):call pg (n+17) 4 [h.d,eB s.1 s.2,jA (i:Int) (k:Int)]=.ok (aAi (goneS h s i k),false,false):=by
 have hm:h.bs.length<=5:=by have:=H.bs.few;omega
 have hpl:s.2.length<=10:=by have:=S.len;have:=H.few;omega
 have hl:i<s.2.length:=by rw[S.len];exact hi
 have v1:∀t,ev pg (call pg (n+16)) (gnS h s i k t) (.v 1)=.ok (.cl (eB s.1 s.2)):=λt=>v1_ (fF _ _);have s1:∀t,ev pg (call pg (n+16)) (gnS h s i k t) (.idx (.v 2) (.c (.int 1)))=.ok (.cl (.int (k:Int))):=λt=>rfl;refine aH (F:=f4) rfl rfl (v:=.cl (aAi (goneS h s i k))) ?_;refine cs (σ':=gnS h s i k [.sh false (.int (i:Int)),.x,.x,.x,.x,.x]) rfl (cs (bQ (aEU rfl (cX (aM rfl rfl (eC h)) (by rw[cA,lM])) (Aj hi))) (cs (bV (aM (v1 _) rfl (aHz s))) (cs (bV (aM (v1 _) rfl (aHA s))) ?_)));rcases row_fact H S hi with⟨j,hj,ej,er,ow⟩|⟨hj,er⟩
 have ip:bK (.cl (aD s.2)) (.cl (.int (i:Int)))=.ok (.cl (.int (j:Int))):=by rw[<-ej];exact fD hl
 refine cs (aAb (xN (aM (aM rfl rfl (eC h)) rfl (jB hi)) (aM rfl rfl ip) (aER (n+15) hj) rfl rfl)) ?_;have t6:∀{q:Bool},decide (k<h.hs[i][j].length)=q->_:=λ{q} hq=>aEU (P:=pg) (cl:=call pg (n+16)) (σ:=gnS h s i k [.sh false (.int (i:Int)),.sh false (aD s.1),.sh false (aD s.2),.sh true (dO h.hs[i][j]),.x,.x]) (s1 _) (b:=.bi .len (.k (.v 6) .z)) (cX rfl (vB _)) hq;by_cases hk:k<h.hs[i][j].length;have o:=ow _ (A7 hk);have iw:=aBp hk;rw[sH er hk];generalize h.hs[i][j][k]=w at o iw;refine cs (bQ (t6 (Aj hk))) (cs (bV (aM rfl (s1 _) iw)) (cs (bV (bE (aM rfl rfl (jP h)) rfl rfl (aAh n S.st hm o))) ?_));cases behF h.bs w s.1 with
 | none=>exact bX rfl (bD rfl)|some r=>exact cs (bQ rfl) (bD (eX rfl (iB hpl hl rfl rfl (aM rfl rfl (aJJ w)))))
 rw[jQ er hk];exact bX (t6 (An hk)) (bD rfl);have e6:=dY (P:=pg) (cl:=call pg (n+16)) (σ:=gnS h s i k [.sh false (.int (i:Int)),.sh false (aD s.1),.sh false (aD s.2),.x,.x,.x]) (i:=6) (pU (f:=3) (aM (a:=.idx (.v 0) (.c (.int 2))) (b:=.v 3) (aM rfl rfl (eC h)) rfl (jB hi)) (aM (a:=.v 5) (b:=.v 3) rfl rfl (fD hl)) (aBq (n+15) hj));rw[jQ er (Nat.not_lt_zero k)];exact cs e6 (bX (aEU (k:=false) (s1 _) (m:=0) rfl (An (Nat.not_lt_zero k))) (bD rfl))
abbrev goB:Ss:=match hdS (drp 7 f18.body) with|.for _ _ b=>b|_=>.z
theorem yA(n:Nat){h:House}(H:HouseOk h){s:Sta}(S:cB h s.1 s.2)(hi:i<h.hs.length)(k:Nat):call pg (n+16) 18 [h.d,eB s.1 s.2,jA (i:Int) (k:Int)]=.ok (aAi (goneS h s i k),false,false):=by
 have hm:h.bs.length<=5:=by have:=H.bs.few;omega
 have hpl:s.2.length<=10:=by have:=S.len;have:=H.few;omega
 have hl:i<s.2.length:=by rw[S.len];exact hi
 have s0:∀t,ev pg (call pg (n+15)) (gnS h s i k t) (.idx (.v 2) (.c (.int 0)))=.ok (.cl (.int (i:Int))):=λt=>rfl;have s1:∀t,ev pg (call pg (n+15)) (gnS h s i k t) (.idx (.v 2) (.c (.int 1)))=.ok (.cl (.int (k:Int))):=λt=>rfl;have ip:=fD hl;refine aH (F:=f18) rfl rfl (v:=.cl (aAi (goneS h s i k))) ?_;refine cs (σ':=gnS h s i k [.sh false (aD s.1),.sh false (aD s.2),.x,.x,.x,.x,.x,.x,.x]) (aAa (v1_ (fF _ _)) (aBe _ (aI _) (aI _))) (cs (bQ (aEU (s0 _) (cX rfl ((uP _).trans (by rw[lM,S.len]))) (Aj hi))) (cs (aAb (aM (aM rfl rfl (eC h)) (s0 _) (jB hi))) ?_));have tp:=fM (P:=pg) (cl:=call pg (n+15)) (σ:=gnS h s i k [.sh false (aD s.1),.sh false (aD s.2),.sh true (bL h.hs[i]),.x,.x,.x,.x,.x,.x]) (aM (a:=.v 4) rfl (s0 _) ip) (b:=.bi .len (.k (.v 5) .z)) (cX rfl (aET _)) (aJz ..);rcases row_fact H S hi with⟨j,hj,ej,er,ow⟩|⟨hj,er⟩
 rw[ej] at ip;rw[ej,An (by omega)] at tp;have ir:∀t,ev pg (call pg (n+15)) (gnS h s i k (.sh false (aD s.1)::.sh false (aD s.2)::.sh true (bL h.hs[i])::t)) (.idx (.v 5) (.idx (.v 4) (.idx (.v 2) (.c (.int 0)))))=.ok ⟨dO h.hs[i][j],false,true,[]⟩:=λt=>aM rfl (aM rfl (s0 _) ip) (aBo hj);have t6:∀{q:Bool},decide (k<h.hs[i][j].length)=q->_:=λ{q} hq=>sC tp (aEU (s1 _) (cX (ir _) (vB _)) hq);by_cases hk:k<h.hs[i][j].length;have o:=ow _ (A7 hk);have iw:=aBp hk;rw[sH er hk];generalize h.hs[i][j][k]=w at o iw;have t:=nN (uT (P:=pg) (σ:=gnS h s i k [.sh false (aD s.1),.sh false (aD s.2),.sh true (bL h.hs[i]),.sh false w.g.d,.sh false (.tup (w.ps.map dC)),.sh false (.int w.nx),.x,.x,.x]) (a:=.v 6) (x:=.cl w.g.d) rfl (b:=.v 3) (y:=.cl (aD s.1)) rfl (c:=.c .non) (z:=.cl .non) rfl (xW n S.st o.g o.gs));refine cs (bQ (t6 (Aj hk))) (cs (aAa (aM (ir _) (s1 _) iw) (aME _ (Cn.noL _) (xX _) rfl)) ?_);unfold behF;cases hh:w.g.hold s.1 s.1 with
 | false=>rw[hh] at t;exact bX t (bD rfl)|true=>
  rw[hh] at t;refine cs (bQ t) (cs (dY (cX rfl (xO s.1))) ?_);have hw:walk pg (call pg (n+15)) (gnS h s i k [.sh false (aD s.1),.sh false (aD s.2),.sh true (bL h.hs[i]),.sh false w.g.d,.sh false (.tup (w.ps.map dC)),.sh false (.int w.nx),.own false (s.1.map D.int),.x,.x]) (.seq (.v 7))=.ok (w.ps.map (λp=>Vl.cl (dC p)),[]):=by rw[gJ,<-qL (v:=.cl (.tup (w.ps.map dC)))];rfl
  rcases put_loop (bs:=h.bs) (st:=s.1) (f:=λσ x=>O.from σ (bT σ x (.t [10,11])) λσ'=>exs pg (call pg (n+15)) σ' goB) (λacc σ=>∃s10 s11,σ=gnS h s i k [.sh false (aD s.1),.sh false (aD s.2),.sh true (bL h.hs[i]),.sh false w.g.d,.sh false (.tup (w.ps.map dC)),.sh false (.int w.nx),.own false (acc.map D.int),s10,s11]) (λacc σ p hσ o ha=>by
   obtain⟨s10,s11,rfl⟩:=hσ;have cv:=aCv (n+12) S.st o.wf o.sz;obtain⟨b,b1,b2,b3⟩:=vA (bs:=h.bs) (k:=p.1) o.box;simp only[dC,aBe _ (show noL (.int (p.1:Int))=true from rfl) p.2.noL,aT];generalize p.2.val s.1 s.1=v at cv;have hb:p.1<(acc.set p.1 v).length:=by rw[Aw,ha];exact o.box
   have ig:bK ⟨.lst ((acc.set p.1 v).map D.int),false,false,[9]⟩ (.cl (.int (p.1:Int)))=.ok (.cl (.int v)):=by rw[aBd (is:=acc.set p.1 v) rfl hb,show(acc.set p.1 v).getD p.1 0=v by simp[ha,o.box]]
   have tt:=nN (aEP (P:=pg) (cl:=call pg (n+15)) (σ:=gnS h s i k [.sh false (aD s.1),.sh false (aD s.2),.sh true (bL h.hs[i]),.sh false w.g.d,.sh false (.tup (w.ps.map dC)),.sh false (.int w.nx),.own false ((acc.set p.1 v).map D.int),.sh false (.int p.1),.sh false p.2.d]) (a:=.idx (.v 9) (.v 10)) (b:=.idx (.idx (.idx (.v 0) (.c (.int 0))) (.v 10)) (.c (.int 1))) (x:=v) (y:=aAg h.bs p.1) (aM rfl rfl ig) (aM (aM (aM rfl rfl (jP h)) rfl b2) rfl b3));have e1:=aBh (P:=pg) (cl:=call pg (n+15)) (σ:=gnS h s i k [.sh false (aD s.1),.sh false (aD s.2),.sh true (bL h.hs[i]),.sh false w.g.d,.sh false (.tup (w.ps.map dC)),.sh false (.int w.nx),.own false (acc.map D.int),.sh false (.int p.1),.sh false p.2.d]) (i:=9) (j:=p.1) (k:=.v 10) (e:=.call 15 (.k (.v 11) (.k (.v 3) (.k (.c .non) .z)))) (bE rfl rfl rfl cv) rfl rfl (by rw[ha];exact o.box) (by omega);split;rename_i hv;rw[aJD hv] at tt;exact⟨_,cs e1 (cs (bQ tt) (aZ ..)),_,_,rfl⟩;rename_i hv;rw[aJC hv] at tt;exact cs e1 (bX tt (bD rfl))) w.ps s.1 _ o.ps S.st ⟨_,_,rfl⟩ with⟨e1,e2⟩|⟨r,σ',e1,e2,s10,s11,rfl⟩
  rw[if_pos rfl,e1];exact aMD ((uU hw).trans e2);rw[if_pos rfl,e1];exact cs ((uU hw).trans e2) (bD (eX (cX rfl (uV 9 (dS r))) (iB hpl hl rfl (s0 _) rfl)))
 rw[jQ er hk];exact bX (t6 (An hk)) (bD rfl);rw[Aj hj] at tp;rw[jQ er (Nat.not_lt_zero k)];exact bX (aEE tp) (bD rfl)
theorem yB:∀{ps:List (Nat×Sm)} {acc r:List Int},sW bs st acc ps=some r->r.length=acc.length
 | [],acc,r,h=>by cases h;rfl|p::ps,acc,r,h=>by rw[sW] at h;split at h;rw[yB h,Aw];cases h
theorem aOy{l:List Int}(hi:i<l.length)(a:Int):(l.take i++[a]++l.drop (i+1)).length=l.length:=by rw[lA,lA,A4,Cd,C5];omega
theorem aOz{l:List Int}(hi:i<l.length)(a:Int):(l.take i++[a]++l.drop (i+1)).getD j 0=if j=i then a else l.getD j 0:=by
 have e:l.take i++[a]++l.drop (i+1)=l.set i a:=by rw[List.set_eq_take_append_cons_drop,if_pos hi,Di];rfl
 rw[e,Af,List.getElem?_set,Af];by_cases hj:i=j;rw[if_pos hj,if_pos hj.symm,if_pos hi];rfl;rw[if_neg hj,if_neg (Ne.symm hj)]
theorem aEW{h:House}{s:Sta}(S:cB h s.1 s.2)(hi:i<h.hs.length)(hr:0<(fS h s.2 i).length):∃r∈h.hs[i],fS h s.2 i=r:=by
 have hg:h.hs.getD i []=h.hs[i]:=by rw[Af,Ad hi];rfl
 unfold fS at hr ⊢;rw[hg] at hr ⊢;rw[Af] at hr ⊢;cases e:h.hs[i][(s.2.getD i 0).toNat]? with
 | none=>rw[e] at hr;exact absurd hr (by decide)|some r=>exact⟨r,mG e,rfl⟩
theorem aGR{h:House}(H:HouseOk h){s s':Sta}(S:cB h s.1 s.2)(hi:i<h.hs.length)(e:goneS h s i k=some s'):cB h s'.1 s'.2:=by
 unfold goneS at e;split at e;rename_i hk;obtain⟨r,er,rfl⟩:=Bf.mp e;obtain⟨row,hrow,er2⟩:=aEW S hi (by omega);have hw:pY h.bs.length (h.hs[i].length+1) (sG h s.2 i k):=by refine((H.hs _ (A7 hi)).all row hrow).all _ ?_;unfold sG;rw[Af,Ad hk];show(fS h s.2 i)[k]∈row;rw[<-er2];exact A7 hk
 have hnx:=hw.nx;have hl:i<s.2.length:=by rw[S.len];exact hi
 refine⟨?_,(aOy hl _).trans S.len,λj hj=>?_⟩;unfold behF at er;split at er;exact(yB er).trans S.st;cases er;show 0<=(_++_++_:List Int).getD j 0/\(_++_++_:List Int).getD j 0<=_;rw[aOz hl];split;rename_i z;subst z;omega;exact S.pl j hj;cases e
theorem aGS{h:House}(H:HouseOk h){s:Sta}(S:cB h s.1 s.2)(hi:i<h.hs.length):(fS h s.2 i).length<=4:=by by_cases hr:0<(fS h s.2 i).length;obtain⟨r,h1,h2⟩:=aEW S hi hr;rw[h2];exact((H.hs _ (A7 hi)).all r h1).few;omega
def bM(h:House):List (List Int):=(aJ h.bs).filter λs=>h.bg.hold s s
def jY(h:House):List Int:=List.replicate h.hs.length 0
theorem aAj{h:House}(H:HouseOk h):(aJ h.bs).length<=24:=by have h1:=(pO H.bs.tops h.bs.length (Ai _)).1;rw[Da] at h1;have:=H.bs.tops.room;unfold lP at h1;omega
theorem aJL(h:noLs ds=true):biD .tuple [⟨.lst ds,true,false,[]⟩]=.ok (.cl (.tup ds)):=by show R.ok (Vl.mk (.tup ds) false (false&&!noLs ds) (if noLs ds=true then [] else []))=_;rw[h];rfl
theorem sJ{h:House}(H:HouseOk h){s:List Int}(hs:s∈aJ h.bs):s.length=h.bs.length:=by have:=(pO H.bs.tops h.bs.length (Ai _)).2;rw[Da] at this;exact this s hs
theorem qN(n:Nat){h:House}(H:HouseOk h)(s:List Int):call pg (n+1) 22 [h.d,aD s]=.ok (eB s (jY h),false,false):=by
 have v0:=oA 0 h;have v1:=hZ 1 true (aI s);have hw:walk pg (call pg n) [.sh true h.d,.sh true (aD s)] (.seq (.idx (.v 0) (.c (.int 2))))=.ok (h.hs.map (λx=>Vl.sub ⟨.lst (h.hs.map bL),false,true,[]⟩ (bL x)),[]):=by simp only[gJ,cR,bO,cF,bB,gZ,v0,aA,eC];unfold items;rw[Bj];rfl
 have hc:=mU (P:=pg) (k:=1) (caps:=[]) (T:=.n 0) (elt:=.c (.int 0)) (λx=>Vl.sub ⟨.lst (h.hs.map bL),false,true,[]⟩ (bL x)) (λ_=>.int 0) (λ_=>rfl) hw (by have:=H.few;unfold lim;omega) λt ht=>⟨_,rfl,rfl⟩
 have ez:h.hs.map (λ_=>D.int 0)=(jY h).map D.int:=by unfold jY;rw[List.map_const',List.map_replicate]
 rw[ez] at hc;refine aH (F:=f22) rfl rfl (v:=.cl (eB s (jY h))) ?_;show exs pg (call pg n) [.sh true h.d,.sh true (aD s)] (.k (.ret (.tup (.k (.v 1) (.k (.bi .tuple (.k _ .z)) .z)))) .z)=_;rw[aN,cS,eN,aB,bO];simp only[bB,gS,gZ,v1,aA,aB,aE,fP,hc,aJL (dS _),aCp,aT,fO];rfl
theorem aMJ(h:House):bK ⟨h.d,false,true,[]⟩ (.cl (.int 1))=.ok (.cl h.bg.d):=by show R.ok (Vl.sub ⟨h.d,false,true,[]⟩ h.bg.d)=_;rw[bR h.bg.noL]
theorem aAk(n:Nat){h:House}(H:HouseOk h):call pg (n+16) 25 [h.d]=.ok (.lst ((bM h).map aD),true,false):=by
 have v0:=oA 0 h;have v1:=oA 1 h;have cs:=sB (P:=pg) (f:=17) rfl (n+14) H.bs.tops;have hw:walk pg (call pg (n+15)) [.sh true h.d] (.seq (.call 17 (.k (.idx (.v 0) (.c (.int 0))) .z)))=.ok ((aJ h.bs).map (λs=>Vl.cl (aD s)),[]):=by simp only[gJ,aU,aB,aE,cR,bO,cF,bB,gZ,v0,aA,jP,mC,mN,aX,cs,aJy,lQ]
 have hc:=aJA (P:=pg) (k:=1) (caps:=[0]) (T:=.n 0) (c:=.call 16 (.k (.idx (.v 1) (.c (.int 1))) (.k (.v 0) (.k (.c .non) .z)))) (elt:=.v 0) (λs=>Vl.cl (aD s)) aD (λs=>h.bg.hold s s) aI hw (A1 (aAj H) (by decide)) λs hs=>by have ch:=xW n (sJ H hs) H.bg.1 H.bg.2;refine⟨[.sh false (aD s),.sh true h.d],by simp[bZ,eF],?_,?_⟩;simp only[iU,aB,aE,cR,bO,cF,bB,gS,gZ,v1,dW,aA,aMJ,mC,mN,aX,ch,bS,uM];simp only[bO,bB,gZ,dW]
 refine aH (F:=f25) rfl rfl (v:=⟨.lst ((bM h).map aD),true,false,[]⟩) ?_;show exs pg (call pg (n+15)) [.sh true h.d] (.k (.ret _) .z)=_;rw[aN,cS,hc];rfl
theorem oR:∀m:Nat,(List.replicate m [D.int 0]).flatten=(List.replicate m (0:Int)).map D.int
 | 0=>rfl|m+1=>by rw[Bk,Ch,oR m];rfl
theorem aEX{m:Nat}(h1:1<=m)(h2:m<=1000):opD .Mult (.cl (.tup [.int 0])) (.cl (.int (m:Int)))=.ok (.cl (aD (List.replicate m 0))):=by
 have c:(decide (1<=(m:Int))&&aK (m:Int)&&!([D.int 0]:List D).isEmpty&&decide ([D.int 0].length*(m:Int).toNat<=lim)&&noLs [D.int 0])=true:=by
  have e:aK (m:Int)=true:=by unfold aK;rw[Aj (show -(2:Int) ^ 62<=(m:Int) by omega),Aj (show(m:Int)<2 ^ 62 by omega)];rfl
  rw[Aj (show 1<=(m:Int) by omega),e,Aj (show [D.int 0].length*(m:Int).toNat<=lim by simp only[lC,lN,D7];unfold lim;omega)];rfl
 have e:yR (.cl (.tup [.int 0])) (.cl (.int (m:Int)))=R.iff (decide (1<=(m:Int))&&aK (m:Int)&&!([D.int 0]:List D).isEmpty&&decide ([D.int 0].length*(m:Int).toNat<=lim)&&noLs [D.int 0]) (.ok (.cl (.tup (List.replicate (m:Int).toNat [D.int 0]).flatten))):=by unfold yR;rfl
 refine Eq.trans (b:=yR (.cl (.tup [.int 0])) (.cl (.int (m:Int)))) (by unfold opD;rfl) ?_;rw[e,c,D7,oR];rfl
theorem aGT{h:House}{s:List Int}(hs:s.length=h.bs.length):cB h s (jY h):=by
 refine⟨hs,Ba,λi hi=>?_⟩;have e:(jY h).getD i 0=0:=by unfold jY;rw[Af,Cc,if_pos hi];rfl
 rw[e];omega
def inB:List (Str×Int)->List Int->Bool
 | [],[]=>true|b::bs,x::xs=>(decide (0<=x)&&decide (x<=b.2))&&inB bs xs|_,_=>false
theorem jR:∀{bs:List (Str×Int)} {s:List Int},inB bs s=true->s.length=bs.length
 | [],[],_=>rfl|b::bs,x::xs,h=>by simp only[inB,bA] at h;rw[lC,lC,jR h.2]|[],_::_,h=>by cases h|_::_,[],h=>by cases h
theorem qO:∀{bs:List (Str×Int)} {s:List Int} {b:Str×Int} {x:Int},s.length=bs.length->inB (bs++[b]) (s++[x])=(inB bs s&&(decide (0<=x)&&decide (x<=b.2)))
 | [],[],b,x,_=>by simp[inB]|b'::bs,y::s,b,x,h=>by rw[Dc,Dc,inB,inB,qO (by simpa using h)];simp only[Bool.and_assoc]|[],_::_,_,_,h=>by cases h|_::_,[],_,_,h=>by cases h
theorem sK{bs:List (Str×Int)}:∀i,i<=bs.length->∀s:List Int,s∈aJ (bs.take i)↔inB (bs.take i) s=true
 | 0,_,s=>by
  rw[List.take_zero];cases s with
  | nil=>simp[aJ,inB]|cons x s=>simp[aJ,inB]
 | i+1,hi,s=>by
  have hlt:i<bs.length:=by omega
  have ih:=sK (bs:=bs) i (by omega);rw[fC hlt,Cj hlt];have hlb:(bs.take i).length=i:=by rw[A4];omega
  constructor;intro hs;obtain⟨b,hb,hx⟩:=Dl.mp hs;obtain⟨v,hv,rfl⟩:=Av.mp hx;have hv:=C8.mp hv;have hb:=(ih b).mp hb;rw[qO (jR hb),hb,Aj (show(0:Int)<=(v:Int) by omega),Aj (show(v:Int)<=bs[i].2 by omega)];rfl;intro hs;have hl:=jR hs;rw[lA,hlb] at hl;rcases List.eq_nil_or_concat s with rfl|⟨b,x,rfl⟩
  cases hl;rw[List.concat_eq_append] at hs hl ⊢;rw[lA] at hl;have hl':b.length=(bs.take i).length:=by rw[hlb];simpa using hl
  rw[qO hl',bA,bA] at hs;obtain⟨h1,h2,h3⟩:=hs;have h2:=Au h2;have h3:=Au h3;refine Dl.mpr ⟨b,(ih b).mpr h1,Av.mpr ⟨x.toNat,C8.mpr (by omega),?_⟩⟩;rw[Bs h2]
theorem qP(s:List Int):s∈aJ bs↔inB bs s=true:=by have:=sK (bs:=bs) bs.length (Ai _) s;rwa [Da] at this
theorem aAl(n:Nat)(x y:Int):call pg (n+2) 21 [.int x,.int 0,.int y]=.ok (.bl (decide (0<=x)&&decide (x<=y)),false,false):=by
 have cw:call pg (n+1) 6 [.int x]=.ok (.bl true,false,false):=rfl;refine aH (F:=f21) rfl rfl (v:=.cl (.bl (decide (0<=x)&&decide (x<=y)))) ?_;have a1:ev pg (call pg (n+1)) [.sh true (.int x),.sh true (.int 0),.sh true (.int y)] (.call 6 (.k (.v 0) .z))=.ok (.cl (.bl true)):=by simp only[aU,aB,aE,bO,bB,gZ,aR,aA,mC,mN,aX,cw,bS]
 have a2:ev pg (call pg (n+1)) [.sh true (.int x),.sh true (.int 0),.sh true (.int y)] (.cmp2 .LtE .LtE (.v 1) (.v 0) (.v 2))=.ok (.cl (.bl (decide (0<=x)&&decide (x<=y)))):=by simp only[aGE,bO,bB,gS,gZ,aR,aA,aX,uN];by_cases h:0<=x;rw[Aj h];rfl;rw[An h];rfl
 show exs pg (call pg (n+1)) [.sh true (.int x),.sh true (.int 0),.sh true (.int y)] (.k (.ret (.an _ _)) .z)=_;rw[aN,cS,aBj a1 a2];rfl
theorem sL{α:Type}(f:α->Bool):∀ts:List α,cM (ts.map λt=>D.bl (f t))=some (ts.map f)
 | []=>rfl|t::ts=>by rw[mC,cM,sL f ts];rfl
theorem all_map{α:Type}(f:α->Bool)(ts:List α):biD .all [⟨.lst (ts.map λt=>D.bl (f t)),true,false,[]⟩]=.ok (.cl (.bl (ts.all f))):=by show(match cM (ts.map λt=>D.bl (f t)) with|some bs=>R.ok (Vl.cl (.bl (bs.all id)))|none=>.bad)=_;rw[sL];show R.ok (Vl.cl (.bl ((ts.map f).all id)))=_;rw[List.all_map];rfl
theorem aBr:∀{bs:List (Str×Int)} {s:List Int},s.length=bs.length->((bs.zip s).all λt=>decide (0<=t.2)&&decide (t.2<=t.1.2))=inB bs s
 | [],[],_=>rfl|b::bs,x::s,h=>by rw[Bd,Dr,aBr (by simpa using h),inB]|[],_::_,h=>by cases h|_::_,[],h=>by cases h
theorem jM(b:Str×Int):noL (box b)=true:=rfl
theorem yC(n:Nat)(o:aEC bs)(s:List Int):call pg (n+3) 23 [.lst (aO bs),aD s]=.ok (.bl (inB bs s),false,false):=by
 have v1:=hZ 1 true (aI s);have few:=o.few;have isT:isI [.tTuple] pg (aD s)=some true:=rfl;have l1:biD .len [.cl (aD s)]=.ok (.cl (.int (s.length:Int))):=by have:biD .len [.cl (aD s)]=.ok (.cl (.int ((s.map D.int).length:Int))):=rfl;rw[this,lM]
 have l0:(aO bs).length=bs.length:=by unfold aO;rw[lM]
 have t0:tst pg (call pg (n+2)) [.sh true (.lst (aO bs)),.sh true (aD s)] (.orr (.nt (.isi (.v 1) [.tTuple])) (.cmp .NotEq (.bi .len (.k (.v 1) .z)) (.bi .len (.k (.v 0) .z))))=.ok (!((s.length:Int)==(bs.length:Int))):=by simp only[uH,mR,lO,bY,fP,aB,aE,bO,bB,gS,gZ,dX,v1,aA,aX,isT,Ds,bF,if_false,l1,cA,l0,zY,cU,Dv]
 refine aH (F:=f23) rfl rfl (v:=.cl (.bl (inB bs s))) ?_;show exs pg (call pg (n+2)) [.sh true (.lst (aO bs)),.sh true (aD s)] _=_;by_cases hl:s.length=bs.length;have e0:aO bs=(bs.zip s).map λt=>box t.1:=by
  have:=List.map_fst_zip (l₁:=bs) (l₂:=s) (by omega);unfold aO
  conv=>lhs;rw[<-this]
  rw[Bj];rfl
 have e1:s.map D.int=(bs.zip s).map λt=>D.int t.2:=by
  have:=List.map_snd_zip (l₁:=bs) (l₂:=s) (by omega)
  conv=>lhs;rw[<-this]
  rw[Bj];rfl
 have hw:walk pg (call pg (n+2)) [.sh true (.lst (aO bs)),.sh true (aD s)] (.zip (.v 0) (.v 1))=.ok ((bs.zip s).map (λt=>Vl.cl (.tup [box t.1,.int t.2])),[]):=by
  have z:iI (aO bs) (s.map D.int)=(bs.zip s).map λt=>.tup [box t.1,.int t.2]:=by rw[e0,e1];exact xK (λt=>box t.1) (λt=>D.int t.2) (bs.zip s)
  have sd:gQ (aD s)=some (s.map D.int):=rfl;simp only[aEA,bO,bB,gS,gZ,dX,v1,aA,aX,sd,dU,B8];show R.ok (items _ (iI (aO bs) (s.map D.int)),_)=_;rw[z,mV (g:=λt:(Str×Int)×Int=>.tup [box t.1,.int t.2]) λt=>lR (jM t.1) rfl]
 have hc:=mU (P:=pg) (k:=2) (caps:=[]) (T:=.t [0,1]) (elt:=.call 21 (.k (.v 1) (.k (.c (.int 0)) (.k (.idx (.v 0) (.c (.int 1))) .z)))) (λt:(Str×Int)×Int=>Vl.cl (.tup [box t.1,.int t.2])) (λt=>.bl (decide (0<=t.2)&&decide (t.2<=t.1.2))) (λ_=>rfl) hw (by rw[List.length_zip];unfold lim;omega) λt ht=>⟨_,aBb (jM t.1) rfl,by
  have cw:=aAl n t.2 t.1.2;have i1:bK (.cl (box t.1)) (.cl (.int 1))=.ok (.cl (.int t.1.2)):=gK _ _ _ rfl;simp only[aU,aB,aE,cR,bO,cF,bB,gS,gZ,dW,aA,i1,mC,mN,aX,cw,bS]⟩
 rw[show(!((s.length:Int)==(bs.length:Int)))=false by rw[hl];simp] at t0;refine cs (bQ t0) ?_;show exs pg (call pg (n+2)) _ (.k (.ret (.bi .all (.k _ .z))) .z)=_;rw[aN,cS,fP,aB,hc];simp only[aA,aE,all_map,aBr hl];rfl;have hf:inB bs s=false:=by
  cases q:inB bs s with
  | false=>rfl|true=>exact absurd (jR q) hl
 rw[show(!((s.length:Int)==(bs.length:Int)))=true by simp;omega] at t0;rw[hf];exact bX t0 (bD rfl)
def isSt(h:House)(s:List Int):Bool:=inB h.bs s&&h.bg.hold s s
theorem qQ(s:List Int):s∈bM h↔isSt h s=true:=by unfold bM isSt;rw[List.mem_filter,qP,bA]
def cK(h:House)(s:Sta)(p:Int×Int):Option Sta:=if 0<=p.1/\p.1<h.hs.length/\0<=p.2 then goneS h s p.1.toNat p.2.toNat else none
def stS(s:Sta):D:=eB s.1 s.2
def stP(p:Int×Int):D:=jA p.1 p.2
theorem lV(s:Sta):noL (stS s)=true:=fF _ _
theorem gD(p:Int×Int):noL (stP p)=true:=rfl
abbrev gnI(h:House)(s:Sta)(p:Int×Int)(t:Sg):Sg:=.sh true h.d::.sh true (eB s.1 s.2)::.sh true (jA p.1 p.2)::t
theorem aEY(n:Nat){h:House}(H:HouseOk h){s:Sta}(S:cB h s.1 s.2)(p:Int×Int):call pg (n+17) 4 [h.d,stS s,stP p]=.ok (aAi (cK h s p),false,false):=by
 obtain⟨x,y⟩:=p;have lh:∀{t:Sg},ev pg (call pg (n+16)) (gnI h s (x,y) t) (.bi .len (.k (.idx (.v 0) (.c (.int 2))) .z))=.ok (.cl (.int (h.hs.length:Int))):=λ{t}=>cX (aM rfl rfl (eC h)) (by rw[cA,lM]);have t0:=nN (qK (P:=pg) (cl:=call pg (n+16)) (σ:=gnI h s (x,y) [.sh false (.int x),.x,.x,.x,.x,.x]) (a:=.v 3) (b:=.bi .len (.k (.idx (.v 0) (.c (.int 2))) .z)) (x:=x) rfl lh);by_cases hx:0<=x/\x<h.hs.length;obtain⟨i,rfl⟩:∃i:Nat,x=(i:Int):=⟨x.toNat,by omega⟩
 have hi:i<h.hs.length:=by omega
 by_cases hy:0<=y;obtain⟨k,rfl⟩:∃k:Nat,y=(k:Int):=⟨y.toNat,by omega⟩
 have e:cK h s ((i:Int),(k:Int))=goneS h s i k:=by unfold cK;rw[if_pos ⟨by omega,hx.2,hy⟩];rfl
 rw[e];exact aEV n H S hi k;have e:cK h s ((i:Int),y)=none:=by unfold cK;exact if_neg λz=>hy z.2.2
 rw[e];rw[aJD hx] at t0;have v1:∀t,ev pg (call pg (n+16)) (gnI h s ((i:Int),y) t) (.v 1)=.ok (.cl (eB s.1 s.2)):=λt=>v1_ (fF _ _);have hl:i<s.2.length:=by rw[S.len];exact hi
 refine aH (F:=f4) rfl rfl (v:=.cl .non) ?_;refine cs (σ':=gnI h s ((i:Int),y) [.sh false (.int (i:Int)),.x,.x,.x,.x,.x]) rfl (cs (bQ t0) (cs (bV (aM (v1 _) rfl (aHz s))) (cs (bV (aM (v1 _) rfl (aHA s))) ?_)));have ty:∀{σ:Sg} {m:Nat},ev pg (call pg (n+16)) σ (.idx (.v 2) (.c (.int 1)))=.ok (.cl (.int y))->ev pg (call pg (n+16)) σ (.bi .len (.k (.v 6) .z))=.ok (.cl (.int (m:Int)))->tst pg (call pg (n+16)) σ (.nt (.cmp2 .LtE .Lt (.c (.int 0)) (.idx (.v 2) (.c (.int 1))) (.bi .len (.k (.v 6) .z))))=.ok true:=λh1 h2=>by rw[nN (qK h1 h2),An hy];rfl
 rcases row_fact H S hi with⟨j,hj,ej,er,ow⟩|⟨hj,er⟩
 have ip:bK (.cl (aD s.2)) (.cl (.int (i:Int)))=.ok (.cl (.int (j:Int))):=by rw[<-ej];exact fD hl
 refine cs (aAb (xN (aM (aM rfl rfl (eC h)) rfl (jB hi)) (aM rfl rfl ip) (aER (n+15) hj) rfl rfl)) ?_;exact bX (ty rfl (cX rfl (vB _))) (bD rfl);have ip:bK (.cl (aD s.2)) (.cl (.int (i:Int)))=.ok (.cl (.int (s.2.getD i 0))):=fD hl;refine cs (dY (pU (aM (aM rfl rfl (eC h)) rfl (jB hi)) (aM rfl rfl ip) (aBq (n+15) hj))) ?_;exact bX (ty (m:=0) rfl rfl) (bD rfl);have e:cK h s (x,y)=none:=by unfold cK;exact if_neg λz=>hx ⟨z.1,z.2.1⟩
 rw[e];rw[aJC hx] at t0;refine aH (F:=f4) rfl rfl (v:=.cl .non) ?_;exact cs (σ':=gnI h s (x,y) [.sh false (.int x),.x,.x,.x,.x,.x]) rfl (bX t0 (bD rfl))
theorem aEZ(H:HouseOk h){s s':Sta}(S:cB h s.1 s.2)(e:cK h s p=some s'):cB h s'.1 s'.2:=by unfold cK at e;split at e;exact aGR H S (by omega) e;cases e
structure Wov (h:House) (s0:Sta) (ps:List (Int×Int)) (ss:List Sta):Prop where
 len:ss.length=ps.length+1
 z:ss.getD 0 s0=s0
 go:∀i,i<ps.length->cK h (ss.getD i s0) (ps.getD i (0,0))=some (ss.getD (i+1) s0)
 ok:∀i,cB h (ss.getD i s0).1 (ss.getD i s0).2
theorem eS{α:Type}(l r:List α)(d:α){i:Nat}(h:i<l.length):(l++r).getD i d=l.getD i d:=by rw[Af,Af,Bv h]
theorem jS{α:Type}(l:List α)(x d:α):(l++[x]).getD l.length d=x:=by rw[Af,Bg (Ai _),Nat.sub_self];rfl
theorem Wov.nil{s0:Sta}(so:cB h s0.1 s0.2):Wov h s0 [] [s0]:=⟨rfl,rfl,λi h=>absurd h (Nat.not_lt_zero _),λi=>by
 cases i with
 | zero=>exact so|succ i=>exact so⟩
theorem Wov.snoc(H:HouseOk h){ps:List (Int×Int)}{ss:List Sta}(W:Wov h s0 ps ss)(e:cK h (ss.getD ps.length s0) p=some s'):Wov h s0 (ps++[p]) (ss++[s']):=by
 have hl:=W.len;have so':=aEZ H (W.ok ps.length) e;refine⟨by rw[lA,lA,hl];rfl,by rw[eS _ _ _ (by omega)];exact W.z,λi hi=>?_,λi=>?_⟩;rw[lA,C5] at hi;by_cases hlt:i<ps.length;rw[eS ss _ _ (by omega),eS ps _ _ hlt,eS ss _ _ (by omega)];exact W.go i hlt;have:i=ps.length:=by omega
 subst this;rw[eS ss _ _ (by omega),jS];have e2:=jS ss s' s0;rw[hl] at e2;rw[e2];exact e;by_cases hlt:i<ss.length;rw[eS ss _ _ hlt];exact W.ok i;by_cases he:i=ss.length;subst he;rw[jS];exact so';rw[Af,List.getElem?_eq_none (by simp;omega)];have:=W.ok 0;rw[W.z] at this;exact this
theorem fG{α:Type}(l:List α)(d:α){i m:Nat}(h:i<m):(l.take m).getD i d=l.getD i d:=by rw[Af,Af,List.getElem?_take_of_lt h]
theorem Wov.take{ps:List (Int×Int)}{ss:List Sta}(W:Wov h s0 ps ss)(hm:m<=ps.length):Wov h s0 (ps.take m) (ss.take (m+1)):=by have hl:=W.len;refine⟨by rw[A4,A4];omega,by rw[fG _ _ (by omega)];exact W.z,λi hi=>?_,λi=>?_⟩;rw[A4] at hi;rw[fG _ _ (by omega),fG _ _ (by omega),fG _ _ (by omega)];exact W.go i (by omega);by_cases hi:i<m+1;rw[fG _ _ hi];exact W.ok i;rw[Af,List.getElem?_eq_none (by rw[A4];omega)];have:=W.ok 0;rw[W.z] at this;exact this
abbrev wvB:Ss:=match hdS (drp 3 f24.body) with|.for _ _ b=>b|_=>.z
abbrev wvS(h:House)(s:List Int)(s2:Sl)(t:Sta)(tr:List D)(s5 s6:Sl):Sg:=[.sh true h.d,.sh true (aD s),s2,.sh false (stS t),.own false tr,s5,s6]
theorem aHB(k:Int)(hd:noL d=true):bT [s0,s1,s2,s3,s4,s5,s6] (.cl (.tup [.int k,d])) (.t [5,6])=.ok [s0,s1,s2,s3,s4,.sh false (.int k),.sh false d]:=by have hi:noL (.int k)=true:=rfl;unfold bT;simp only[aX,lC,lN,if_true,Bd,D9,B2,List.foldl_nil,bR hd,bR hi,cC,lS,lZ]
theorem aBs(n:Nat){h:House}(H:HouseOk h){t:Sta}(S:cB h t.1 t.2)(x:Int×Int)(tr:List D)(s:List Int)(s2 s5:Sl) :
 ex pg (call pg (n+17)) (wvS h s s2 t tr s5 (.sh false (stP x))) (.set (.n 3) (.call 4 (.k (.v 0) (.k (.v 3) (.k (.v 6) .z)))))=.next [.sh true h.d,.sh true (aD s),s2,.sh false (aAi (cK h t x)),.own false tr,s5,.sh false (stP x)]:=
 bV (bE (x:=⟨h.d,false,true,[]⟩) (y:=.cl (stS t)) (z:=.cl (stP x)) rfl rfl rfl (aEY n H S x))
theorem aGU(n:Nat)(H:HouseOk h){t u:Sta}(S:cB h t.1 t.2)(e:cK h t x=some u){tr:List D}(hl:tr.length<=1000)(s:List Int)(s2 s5:Sl) :
 exs pg (call pg (n+17)) (wvS h s s2 t tr s5 (.sh false (stP x))) wvB=.next (wvS h s s2 u (tr++[stS u]) s5 (.sh false (stP x))):=by have g:=aBs n H S x tr s s2 s5;rw[e] at g;exact cs g (cs (bQ rfl) (cs (iZ (v:=.cl (stS u)) rfl rfl (by unfold lim;omega) rfl rfl) (aZ ..)))
theorem aFa(n:Nat)(H:HouseOk h){t:Sta}(S:cB h t.1 t.2)(e:cK h t x=none)(tr:List D)(s:List Int)(s2:Sl)(j:Int):∃σ,
 exs pg (call pg (n+17)) (wvS h s s2 t tr (.sh false (.int j)) (.sh false (stP x))) wvB=.exc (.err "NoStep" [.int j]) σ:=by have g:=aBs n H S x tr s s2 (.sh false (.int j));rw[e] at g;exact⟨_,cs g rfl⟩
theorem jZ{α β:Type}(f:α->β)(l:List α)(d:α){i:Nat}(h:i<l.length):(l.take (i+1)).map f=(l.take i).map f++[f (l.getD i d)]:=by rw[List.take_succ,Bx,Ad h,Af,Ad h];rfl
theorem sM{α:Type}(z:α)(f:α->D):∀(xs:List α) (j:Int),eE j (xs.map f)=(List.range xs.length).map λ(k:Nat)=>.tup [.int (j+(k:Int)),f (xs.getD k z)]
 | [],_=>rfl|x::xs,j=>by
  rw[mC,eE,sM z f xs (j+1),lC,D6,mC,Bj];refine congr (congrArg _ (by simp)) (Cm λk _=>?_);have:j+1+(k:Int)=j+((k+1:Nat):Int):=by omega
  simp only[Function.comp,this,List.getD_cons_succ]
theorem aBt(n:Nat)(h:House)(s:List Int)(qs:List (Int×Int))(t:Sta)(tr:List D):walk pg (call pg n) (wvS h s (.sh true (.lst (qs.map stP))) t tr .x .x) (.enum (.v 2))=.ok ((List.range qs.length).map (λ(k:Nat)=>Vl.cl (.tup [.int (k:Int),stP (qs.getD k (0,0))])),[]):=by
 have e:items ⟨.lst (qs.map stP),false,true,[]⟩ (eE 0 (qs.map stP))=(List.range qs.length).map λ(k:Nat)=>Vl.cl (.tup [.int (k:Int),stP (qs.getD k (0,0))]):=by rw[sM (0,0) stP qs 0];unfold items;rw[Bj];refine Cm λk _=>?_;show Vl.sub _ (.tup [.int (0+(k:Int)),stP (qs.getD k (0,0))])=_;rw[Int.zero_add,bR (lR rfl (gD _))]
 have hv:(true&&!noL (.lst (qs.map stP)))=true:=rfl;simp only[sD,bO,bB,gS,gZ,dX,aA,gQ,e]
theorem aBu(n:Nat){h:House}(H:HouseOk h)(s:List Int)(L:Sl):tst pg (call pg (n+17)) [.sh true h.d,.sh true (aD s),L,.x,.x,.x,.x] (.orr (.nt (.call 23 (.k (.idx (.v 0) (.c (.int 0))) (.k (.v 1) .z)))) (.nt (.call 1 (.k (.idx (.v 0) (.c (.int 1))) (.k (.v 1) (.k (.c .non) .z))))))=.ok (!isSt h s):=by
 have ci:=yC (n+14) H.bs.tops s;have v0:=oA 0 h;have v1:=hZ 1 true (aI s);have t1:tst pg (call pg (n+17)) [.sh true h.d,.sh true (aD s),L,.x,.x,.x,.x] (.nt (.call 23 (.k (.idx (.v 0) (.c (.int 0))) (.k (.v 1) .z))))=.ok (!inB h.bs s):=by simp only[mR,iU,aB,aE,cR,bO,cF,bB,gS,gZ,v0,v1,aA,jP,mC,mN,aX,ci,bS,uM]
 unfold isSt;cases hb:inB h.bs s with
 | false=>rw[hb] at t1;exact aEE t1|true=>rw[hb] at t1;refine(sC t1 (nN (uT (aM rfl rfl (aMJ h)) (v1_ (aI s)) rfl (xV (n+2) (jR hb) H.bg.1 H.bg.2)))).trans ?_;rw[Bool.true_and]
theorem aFb(n:Nat){h:House}(H:HouseOk h)(hs:isSt h s=false)(d:D):call pg (n+18) 24 [h.d,aD s,d]=.exc (.err "NoStart" []):=by have t:=aBu n H s (.sh true d);rw[hs] at t;refine xL (F:=f24) rfl rfl (σ:=[.sh true h.d,.sh true (aD s),.sh true d,.x,.x,.x,.x]) ?_;show exs pg (call pg (n+17)) [.sh true h.d,.sh true (aD s),.sh true d,.x,.x,.x,.x] (.k (.iff _ (.k (.rse "NoStart" false _) .z) .z) _)=_;rw[aN,cG,t];rfl
section
variable {h:House} (H:HouseOk h) {s:List Int} (hs:isSt h s=true)
abbrev w0(h:House)(s:List Int):Sta:=(s,jY h)
theorem aBv(n:Nat)(H:HouseOk h)(hs:isSt h s=true)(d:D){ss:Ss}(r:exs pg (call pg (n+17)) (wvS h s (.sh true d) (w0 h s) [stS (w0 h s)] .x .x) (drp 3 f24.body)=o):exs pg (call pg (n+17)) [.sh true h.d,.sh true (aD s),.sh true d,.x,.x,.x,.x] f24.body=o:=by have t:=aBu n H s (.sh true d);rw[hs] at t;exact cs (bQ t) (cs (bV (dB (x:=⟨h.d,false,true,[]⟩) rfl (v1_ (aI s)) (qN (n+16) H s))) (cs (σ':=wvS h s (.sh true d) (w0 h s) [stS (w0 h s)] .x .x) rfl r))
theorem aBw(n:Nat)(H:HouseOk h){ps qs:List (Int×Int)}{ss:List Sta}(W:Wov h (w0 h s) ps ss)(hl:ps.length<=100)(hq:∀i,i<ps.length->qs.getD i (0,0)=ps.getD i (0,0))(L:Sl)(hi:i<ps.length)(hσ:∃s5 s6,σ=wvS h s L (ss.getD i (w0 h s)) ((ss.take (i+1)).map stS) s5 s6) :
 ∃σ1 σ',bT σ (Vl.cl (.tup [.int (i:Int),stP (qs.getD i (0,0))])) (.t [5,6])=.ok σ1/\exs pg (call pg (n+17)) σ1 wvB=.next σ'/\∃s5 s6,σ'=wvS h s L (ss.getD (i+1) (w0 h s)) ((ss.take (i+1+1)).map stS) s5 s6:=by obtain⟨s5,s6,rfl⟩:=hσ;have hsl:=W.len;have g:=W.go i hi;rw[<-hq i hi] at g;have tn:=aGU n H (W.ok i) g (tr:=(ss.take (i+1)).map stS) (by rw[lM,A4];omega) s L (.sh false (.int (i:Int)));rw[<-jZ stS ss (w0 h s) (by omega)] at tn;exact⟨_,_,aHB _ (gD _),tn,_,_,rfl⟩
theorem aBx{ss:List Sta}(W:Wov h (w0 h s) ps ss)(L s5 s6:Sl):wvS h s L (w0 h s) [stS (w0 h s)] s5 s6=wvS h s L (ss.getD 0 (w0 h s)) ((ss.take (0+1)).map stS) s5 s6:=by have hz:=W.z;have e:=jZ stS ss (w0 h s) (i:=0) (by have:=W.len;omega);rw[hz] at e;rw[hz,e];rfl
theorem aCw(n:Nat)(H:HouseOk h)(hs:isSt h s=true){ps:List (Int×Int)}{ss:List Sta}(W:Wov h (w0 h s) ps ss)(hl:ps.length<=100):call pg (n+18) 24 [h.d,aD s,.lst (ps.map stP)]=.ok (.lst (ss.map stS),true,false):=by
 obtain⟨σ',e4,hI⟩:=dR (t:=.t [5,6]) (b:=wvB) (λj σ=>∃s5 s6,σ=wvS h s (.sh true (.lst (ps.map stP))) (ss.getD j (w0 h s)) ((ss.take (j+1)).map stS) s5 s6) (aBt (n+17) h s ps (w0 h s) [stS (w0 h s)]) ⟨_,_,aBx W _ _ _⟩ (λj hj σ hσ=>by
  have hj:j<ps.length:=by simpa using hj
  simp only[Dn,Dz];exact aBw n H W hl (λ_ _=>rfl) _ hj hσ)
 obtain⟨s5,s6,rfl⟩:=hI;have el:(ss.take (ps.length+1)).map stS=ss.map stS:=by rw[<-W.len,Da]
 rw[lM,Cu,el] at e4;refine aH (F:=f24) rfl rfl (v:=⟨.lst (ss.map stS),true,false,[]⟩) ?_;exact aBv (ss:=.z) n H hs _ (cs e4 rfl)
theorem yD(n:Nat)(H:HouseOk h)(hs:isSt h s=true){ps qs:List (Int×Int)}{ss:List Sta}(W:Wov h (w0 h s) ps ss)(hl:ps.length<=100)(e:cK h (ss.getD ps.length (w0 h s)) p=none):call pg (n+18) 24 [h.d,aD s,.lst ((ps++[p]++qs).map stP)]=.exc (.err "NoStep" [.int (ps.length:Int)]):=by
 have q1:∀i,i<ps.length->(ps++[p]++qs).getD i (0,0)=ps.getD i (0,0):=λi hi=>by rw[Di,eS _ _ _ hi]
 have q2:(ps++[p]++qs).getD ps.length (0,0)=p:=by rw[eS _ _ _ (by simp),jS]
 obtain⟨σ',e4⟩:=aGJ (t:=.t [5,6]) (b:=wvB) (e:=.err "NoStep" [.int (ps.length:Int)]) ps.length (λj σ=>∃s5 s6,σ=wvS h s (.sh true (.lst ((ps++[p]++qs).map stP))) (ss.getD j (w0 h s)) ((ss.take (j+1)).map stS) s5 s6) (aBt (n+17) h s (ps++[p]++qs) (w0 h s) [stS (w0 h s)]) ⟨_,_,aBx W _ _ _⟩ (by simp) (λj hj σ hσ=>by
  simp only[Dn,Dz];exact aBw n H W hl q1 _ hj hσ) (λσ hσ=>by
  obtain⟨s5,s6,rfl⟩:=hσ;simp only[Dn,Dz,q2];obtain⟨σ2,e5⟩:=aFa n H (W.ok ps.length) e ((ss.take (ps.length+1)).map stS) s (.sh true (.lst ((ps++[p]++qs).map stP))) (ps.length:Int);exact⟨_,_,aHB _ (gD _),e5⟩)
 refine xL (F:=f24) rfl rfl (σ:=σ') ?_;refine aBv (ss:=.z) n H hs _ ?_;show exs pg (call pg (n+17)) _ (.k (.for _ _ wvB) _)=_;rw[aN,e4];rfl
end
def bls(l:List Bool):List D:=l.map D.bl
abbrev sN:List D:=bls [true,true,false,false,false,false,false,false,false,false,false,false,false]
abbrev qR:List D:=bls [true,false,true,false,false,false,false,false,false,false,false,false,false]
abbrev asS(h:House)(s:List Int)(d:D)(t:Sg):Sg:=.sh true h.d::.sh true (aD s)::.sh true d::t
abbrev asB:Ss:=.k (.set (.n 5) (.call 24 (.k (.v 0) (.k (.v 1) (.k (.v 2) .z))))) .z
abbrev as0(h:House)(s:List Int)(d:D):Sg:=asS h s d [.sh false .non,.sh false .non,.sh false .non,.x]
theorem aGV{h:House}(cl:Caller):evs pg cl (as0 h s (.lst ds)) (.k (.v 0) (.k (.v 1) (.k (.v 2) .z)))=.ok [⟨h.d,false,true,[]⟩,.cl (aD s),⟨.lst ds,false,true,[]⟩]:=by rw[aB,show ev pg cl (as0 h s (.lst ds)) (.v 0)=.ok ⟨h.d,false,true,[]⟩ from rfl,aA,aB,v1_ (aI s),aA,aB,show ev pg cl (as0 h s (.lst ds)) (.v 2)=.ok ⟨.lst ds,false,true,[]⟩ from rfl,aA,aE];rfl
theorem aFc{h:House}(hc:cl 24 [h.d,aD s,.lst ds]=.exc x):exs pg cl (as0 h s (.lst ds)) asB=.exc x (as0 h s (.lst ds)):=by rw[aN,cD,aU,aGV,aA,show([⟨h.d,false,true,[]⟩,.cl (aD s),⟨.lst ds,false,true,[]⟩]:List Vl).map (·.d)=[h.d,aD s,.lst ds] from rfl,hc];rfl
theorem vC(e:ex pg cl (as0 h s d) (.tryF asB "NoStep" "PromiseError" 3 6 4)=.next σ)(r:exs pg cl σ (drp 4 f28.body)=o):exs pg cl (asS h s d [.x,.x,.x,.x]) f28.body=o:=
 cs (σ':=asS h s d [.sh false .non,.x,.x,.x]) rfl (cs (σ':=asS h s d [.sh false .non,.sh false .non,.x,.x]) rfl (cs (σ':=as0 h s d) rfl (cs e r)))
theorem aFd(n:Nat){h:House}(H:HouseOk h)(hs:isSt h s=false)(ds:List D):call pg (n+19) 28 [h.d,aD s,.lst ds]=.ok (.lst [.bl false,.lst sN,.non],true,false):=by
 have e:ex pg (call pg (n+18)) (as0 h s (.lst ds)) (.tryF asB "NoStep" "PromiseError" 3 6 4)=.next (asS h s (.lst ds) [.sh true (.err "NoStart" []),.sh false .non,.sh false .non,.x]):=by rw[zZ,aFc (aFb n H hs (.lst ds))];rfl
 refine aH (F:=f28) rfl rfl (v:=⟨.lst [.bl false,.lst sN,.non],true,false,[]⟩) (vC e ?_);exact cs (bQ rfl) (bD rfl)
theorem aFe(n:Nat){h:House}(H:HouseOk h)(hs:isSt h s=true){ps qs:List (Int×Int)}{ss:List Sta}(W:Wov h (w0 h s) ps ss)(hl:ps.length<=100)(g:cK h (ss.getD ps.length (w0 h s)) p=none):call pg (n+19) 28 [h.d,aD s,.lst ((ps++[p]++qs).map stP)]=.ok (.lst [.bl false,.lst qR,.int (ps.length:Int)],true,false):=by
 have e:ex pg (call pg (n+18)) (as0 h s (.lst ((ps++[p]++qs).map stP))) (.tryF asB "NoStep" "PromiseError" 3 6 4)=.next (asS h s (.lst ((ps++[p]++qs).map stP)) [.sh true (.err "NoStep" [.int (ps.length:Int)]),.sh false (.int (ps.length:Int)),.sh false .non,.x]):=by rw[zZ,aFc (yD n H hs W hl g)];rfl
 refine aH (F:=f28) rfl rfl (v:=⟨.lst [.bl false,.lst qR,.int (ps.length:Int)],true,false,[]⟩) (vC e ?_);exact cs (bQ rfl) (bD rfl)
theorem sO(n:Nat){h:House}(H:HouseOk h)(hs:isSt h s=true){ps:List (Int×Int)}{ss:List Sta}(W:Wov h (w0 h s) ps ss)(hl:ps.length<=100):call pg (n+19) 28 [h.d,aD s,.lst (ps.map stP)]=.ok (.lst [.bl true,.lst (ss.map stS)],true,false):=by
 have e:ex pg (call pg (n+18)) (as0 h s (.lst (ps.map stP))) (.tryF asB "NoStep" "PromiseError" 3 6 4)=.next (asS h s (.lst (ps.map stP)) [.sh false .non,.sh false .non,.own false (ss.map stS),.x]):=by rw[zZ,show exs pg (call pg (n+18)) (as0 h s (.lst (ps.map stP))) asB=.next (asS h s (.lst (ps.map stP)) [.sh false .non,.sh false .non,.own false (ss.map stS),.x]) from cs (dY (fQ (x:=⟨h.d,false,true,[]⟩) (z:=⟨.lst (ps.map stP),false,true,[]⟩) rfl (v1_ (aI s)) rfl (aCw n H hs W hl))) (aZ ..)]
 refine aH (F:=f28) rfl rfl (v:=⟨.lst [.bl true,.lst (ss.map stS)],true,false,[5]⟩) (vC e ?_);exact bX rfl (bD rfl)
theorem iC(ha:ev pg cl σ a=.ok (.cl (.int c)))(he:ev pg cl σ e=.ok (.cl (.int L)))(hm:cl 7 [.int c,.int k]=.ok (.int (mix c k),false,false))(hL:0<L):∃j:Nat,(j:Int)<L/\mix c k % L=(j:Int)/\ev pg cl σ (.op .Mod (.call 7 (.k a (.k (.c (.int k)) .z))) e)=.ok (.cl (.int (j:Int))):=by
 have h0:=Bl (mix c k) (Int.ne_of_gt hL);have h1:=Be (mix c k) hL;obtain⟨j,hj⟩:∃j:Nat,mix c k % L=(j:Int):=⟨(mix c k % L).toNat,by omega⟩
 exact⟨j,by omega,hj,(dH (dB ha rfl hm) he (jN hL)).trans (by rw[hj])⟩
theorem aHC(h:ev pg cl σ a=.ok (.cl (.int w))):tst pg cl σ (.cmp .Eq a (.c (.int k)))=.ok (w==k):=fM h rfl (by rw[aX,aX,eO,cU])
theorem yE:∀{bs:List (Str×Int)},(∀b∈bs,1<=b.2/\b.2<=7)->inB bs (List.replicate bs.length 0)=true
 | [],_=>rfl|b::bs,h=>by rw[lC,Bk,inB,yE λx hx=>h x (Ak _ hx),Aj (show(0:Int)<=0 by decide),Aj (show(0:Int)<=b.2 by have:=h b As;omega)];rfl
theorem aAm{h:House}(H:HouseOk h):0<(aJ h.bs).length:=List.length_pos_of_mem ((qP _).mpr (yE H.bs.tops.one))
theorem aMK:opD .Pow (.cl (.int 10)) (.cl (.int 40))=.ok (.cl (.int (10 ^ 40))):=rfl
theorem aFf{v:Vl}{xs:List (List Int)}(hv:v.d=.lst (xs.map aD))(hk:k<xs.length):bK v (.cl (.int (k:Int)))=.ok (.cl (aD xs[k])):=by rw[xM hv (Ad hk),bR (aI _)]
theorem aBy(h:ev pg cl σ a=.ok (.cl (.int w)))(e:w=k):tst pg cl σ (.cmp .Eq a (.c (.int k)))=.ok true:=(aHC h).trans (by rw[e,Bu])
theorem kA(h:ev pg cl σ a=.ok (.cl (.int w)))(e:w≠k):tst pg cl σ (.cmp .Eq a (.c (.int k)))=.ok false:=(aHC h).trans (by rw[beq_false_of_ne e])
theorem aJM(s:List Int):biD .len [.cl (aD s)]=.ok (.cl (.int (s.length:Int))):=by have:biD .len [.cl (aD s)]=.ok (.cl (.int ((s.map D.int).length:Int))):=rfl;rw[this,lM]
theorem aCx(n:Nat){h:House}(H:HouseOk h)(c:Int):∃st:List Int,call pg (n+2) 29 [h.d,.int c,.lst ((bM h).map aD)]=.ok (aD st,false,false):=by
 have m1:=bW n c (k:=1) (by decide) (by decide);have m2:=bW n c (k:=2) (by decide) (by decide);have m3:=bW n c (k:=3) (by decide) (by decide);have m4:=bW n c (k:=4) (by decide) (by decide)
 let T:Sg->Sg:=λt=>.sh true h.d::.sh true (.int c)::.sh true (.lst ((bM h).map aD))::t
 have ha:∀t,ev pg (call pg (n+1)) (T t) (.v 1)=.ok (.cl (.int c)):=λt=>rfl;obtain⟨j,j1,_,j2⟩:=iC (cl:=call pg (n+1)) (σ:=T [.own false ((aJ h.bs).map aD),.x,.x,.x]) (a:=.v 1) (e:=.bi .len (.k (.v 3) .z)) (c:=c) (k:=1) (L:=(aJ h.bs).length) (ha _) (cX rfl (by rw[cA,lM])) m1 (by have:=aAm H;omega);have j1:j<(aJ h.bs).length:=by omega
 have e1:ex pg (call pg (n+1)) (T [.x,.x,.x,.x]) (.set (.n 3) (.call 17 (.k (.idx (.v 0) (.c (.int 0))) .z)))=.next (T [.own false ((aJ h.bs).map aD),.x,.x,.x]):=dY (aBf (aM rfl rfl (jP h)) (sB (P:=pg) (f:=17) rfl n H.bs.tops));have e2:=bV (i:=4) (aM (a:=.v 3) rfl j2 (aFf rfl j1));have xl:=sJ H (A7 j1);have few:=H.bs.few;have pos:=H.bs.one;generalize (aJ h.bs)[j]=x at e2 xl;obtain⟨i,i1,_,i2⟩:=iC (cl:=call pg (n+1)) (σ:=T [.own false ((aJ h.bs).map aD),.sh false (aD x),.x,.x]) (a:=.v 1) (e:=.bi .len (.k (.v 4) .z)) (c:=c) (k:=2) (L:=x.length) (ha _) (cX rfl (aJM x)) m2 (by omega);have i1:i<x.length:=by omega
 obtain⟨w,w1,_,w2⟩:=iC (cl:=call pg (n+1)) (σ:=T [.own false ((aJ h.bs).map aD),.sh false (aD x),.sh false (.int (i:Int)),.x]) (a:=.v 1) (e:=.c (.int 16)) (c:=c) (k:=3) (L:=16) (ha _) rfl m3 (by decide)
 let τ:Sg:=T [.own false ((aJ h.bs).map aD),.sh false (aD x),.sh false (.int (i:Int)),.sh false (.int (w:Int))]
 have go:∀{v:List Int},exs pg (call pg (n+1)) τ (drp 4 f29.body)=.ret (.cl (aD v))->call pg (n+2) 29 [h.d,.int c,.lst ((bM h).map aD)]=.ok (aD v,false,false):=λ{v} r=>aH (F:=f29) rfl rfl (v:=.cl (aD v)) (cs e1 (cs e2 (cs (bV i2) (cs (bV w2) r))));have v4:ev pg (call pg (n+1)) τ (.v 4)=.ok (.cl (aD x)):=rfl;have v5:ev pg (call pg (n+1)) τ (.v 5)=.ok (.cl (.int (i:Int))):=rfl;have v6:ev pg (call pg (n+1)) τ (.v 6)=.ok (.cl (.int (w:Int))):=rfl;have p10:ev pg (call pg (n+1)) τ (.op .Mod (.v 1) (.op .Pow (.c (.int 10)) (.c (.int 40))))=.ok (.cl (.int (c % 10 ^ 40))):=dH rfl (dH rfl rfl aMK) (jN (by decide));by_cases h0:(w:Int)=0;obtain⟨b,_,b1,b2⟩:=vA (bs:=h.bs) (k:=i) (by omega);exact⟨_,go (bX (aBy v6 h0) (bD (iB (by omega) i1 v4 v5 (dH (dH (aM (aM (aM rfl rfl (jP h)) v5 b1) rfl b2) rfl (add_int _ _)) p10 (add_int _ _)))))⟩;by_cases h1:(w:Int)=1;exact⟨_,go (cs (bQ (kA v6 h0)) (bX (aBy v6 h1) (bD (iB (by omega) i1 v4 v5 (dH (x:=.cl (.int (-1))) rfl p10 (sub_int _ _))))))⟩;by_cases h2:(w:Int)=2;exact⟨_,go (cs (bQ (kA v6 h0)) (cs (bQ (kA v6 h1)) (bX (aBy v6 h2) (bD (dH (y:=.cl (aD [0])) v4 rfl (qM x [0] (by simp only[lC,lN];omega)))))))⟩;by_cases h3:(w:Int)=3;refine⟨cut x none (some (-1)),go (cs (bQ (kA v6 h0)) (cs (bQ (kA v6 h1)) (cs (bQ (kA v6 h2)) (bX (aBy v6 h3) (bD ?_)))))⟩;rw[lL,v4,aA,show ev pg (call pg (n+1)) τ (.neg (.c (.int 1)))=.ok (.cl (.int (-1))) from rfl,aA];show R.iff (aK (-1)) (eG (.cl (aD x)) none (some (-1)))=_;rw[show aK (-1)=true by decide,gB,xZ];have t5:∀{v:List Int},exs pg (call pg (n+1)) τ (drp 8 f29.body)=.ret (.cl (aD v))->exs pg (call pg (n+1)) τ (drp 4 f29.body)=.ret (.cl (aD v)):=λr=>cs (bQ (kA v6 h0)) (cs (bQ (kA v6 h1)) (cs (bQ (kA v6 h2)) (cs (bQ (kA v6 h3)) r)));have tl:tst pg (call pg (n+1)) τ (.cmp .Lt (.v 6) (.c (.int 5)))=.ok (decide ((w:Int)<5)):=fM v6 rfl (mT _ _);by_cases h5:(w:Int)<5;rw[Aj h5] at tl;exact⟨x,go (t5 (bX (aEE tl) rfl))⟩;rw[An h5] at tl;by_cases hs:bM h=[]
 refine⟨x,go (t5 (bX (sC tl (fM (x:=⟨.lst ((bM h).map aD),false,true,[]⟩) (y:=⟨.lst [],true,false,[]⟩) rfl rfl ?_)) rfl))⟩;rw[hs];rfl;have hp:0<(bM h).length:=List.length_pos_iff.mpr hs;obtain⟨k,k1,_,k2⟩:=iC (cl:=call pg (n+1)) (σ:=τ) (a:=.v 1) (e:=.bi .len (.k (.v 2) .z)) (c:=c) (k:=4) (L:=(bM h).length) rfl (cX (x:=⟨.lst ((bM h).map aD),false,true,[]⟩) rfl (by rw[cA,lM])) m4 (by omega);refine⟨_,go (t5 (cs (bQ (sC tl (fM (x:=⟨.lst ((bM h).map aD),false,true,[]⟩) (y:=⟨.lst [],true,false,[]⟩) rfl rfl ?_))) (bD (aM (a:=.v 2) rfl k2 (aFf rfl (show k<_ by omega))))))⟩;show(if ((bM h).map aD).length=([]:List D).length then eqL (eqF 119) ((bM h).map aD) [] else some false)=_;rw[if_neg (by rw[lM];simp;exact hs)]
def goG(h:House)(s:Sta)(i m:Nat):List ((Nat×Nat)×Sta):=(List.range m).filterMap λk=>(goneS h s i k).map λt=>((i,k),t)
def goL(h:House)(s:Sta)(m:Nat):List ((Nat×Nat)×Sta):=(List.range m).flatMap λi=>goG h s i 4
def goD(g:(Nat×Nat)×Sta):D:=.tup [jA (g.1.1:Int) (g.1.2:Int),eB g.2.1 g.2.2]
theorem aFg(h:House)(s:Sta)(i m:Nat):goG h s i (m+1)=goG h s i m++((goneS h s i m).map λt=>((i,m),t)).toList:=by
 unfold goG;rw[List.range_succ,List.filterMap_append]
 congr 1
theorem yF(h:House)(s:Sta)(m:Nat):goL h s (m+1)=goL h s m++goG h s m 4:=by unfold goL;rw[List.range_succ,List.flatMap_append,List.flatMap_cons,List.flatMap_nil,B8]
theorem aBz(h:House)(s:Sta)(i m:Nat):(goG h s i m).length<=m:=by unfold goG;exact A1 (List.length_filterMap_le _ _) (by rw[Cu];exact Ai _)
theorem vD(h:House)(s:Sta):∀m,(goL h s m).length<=4*m
 | 0=>Ai _|m+1=>by rw[yF,lA];have h1:=vD h s m;have h2:=aBz h s m 4;omega
theorem aGW{g:(Nat×Nat)×Sta}(hg:g∈goL h s m):g.1.1<m/\goneS h s g.1.1 g.1.2=some g.2:=by obtain⟨i,hi,hg⟩:=Dl.mp hg;obtain⟨k,_,hk⟩:=Cz.mp hg;obtain⟨t,ht,rfl⟩:=Bf.mp hk;exact⟨C8.mp hi,ht⟩
theorem aJN(g:(Nat×Nat)×Sta):noL (goD g)=true:=lR (xY _ _) (fF _ _)
abbrev lwB:Ss:=match hdS (drp 2 f30.body) with|.for _ _ b=>b|_=>.z
abbrev aJO:Ss:=match hdS (drp 1 lwB) with|.for _ _ b=>b|_=>.z
abbrev aML:Ss:=match hdS aJO with|.for _ _ b=>b|_=>.z
abbrev lwS(h:House)(L:D)(s:List Int)(st:List Sta)(ps:List (Int×Int))(t:Sg):Sg:=.sh true h.d::.sh true L::.sh true (aD s)::.own false (st.map stS)::.own false (ps.map stP)::t
theorem aGX{st:List Sta}(hl:0<st.length)(e:st.getD (st.length-1) x=x):ev pg cl (lwS h L s st ps t) (.idx (.v 3) (.neg (.c (.int 1))))=.ok (.cl (stS x)):=by
 have hx:st[st.length-1]? = some x:=by
  have hlt:st.length-1<st.length:=by omega
  rw[Af,Ad hlt] at e;rw[Ad hlt];exact congrArg some e
 refine aM (x:=⟨.lst (st.map stS),false,false,[3]⟩) (y:=.cl (.int (-1))) rfl rfl ?_;have ixe:ixN (st.map stS).length (-1)=some (st.length-1):=by
  unfold ixN;rw[if_neg (by decide),lM,if_pos (by omega)]
  congr 1
  omega
 unfold bK;simp only[aX,ixe,A5,hx,Dv];rw[bR (lV x)]
section
variable {h:House} {L:D} {s:List Int} {st:List Sta} {ps:List (Int×Int)} {x:Sta}
theorem aFh(n:Nat)(H:HouseOk h)(S:cB h x.1 x.2)(hl:0<st.length)(e:st.getD (st.length-1) x=x)(s5:Sl)(hi:i<h.hs.length)(k:Nat){acc:List ((Nat×Nat)×Sta)}(ha:acc.length<=100)(s9 s10 s11:Sl) :
 exs pg (call pg (n+16)) (lwS h L s st ps [s5,.own false (acc.map goD),.sh false (.int i),.sh false (.int k),s9,s10,s11]) aML =
  .next (lwS h L s st ps [s5,.own false ((acc++((goneS h x i k).map λt=>((i,k),t)).toList).map goD),.sh false (.int i),.sh false (.int k),.sh false (aAi (goneS h x i k)),s10,s11]):=by
 refine cs (bV (bE (x:=⟨h.d,false,true,[]⟩) (y:=.cl (stS x)) rfl (aGX hl e) (eX rfl rfl) (yA n H S hi k))) ?_;cases goneS h x i k with
 | none=>rw[Option.map_none,Option.toList_none,B8];exact cs (bQ rfl) (aZ ..)|some t=>exact cs (aGL rfl (cs (iZ (ds:=acc.map goD) (eX (eX rfl rfl) rfl) rfl (by rw[lM];unfold lim;omega) rfl (fR goD acc ((i,k),t))) (aZ ..))) (aZ ..)
theorem aFi(n:Nat)(H:HouseOk h)(S:cB h x.1 x.2)(hl:0<st.length)(e:st.getD (st.length-1) x=x)(s5:Sl)(hi:i<h.hs.length){acc:List ((Nat×Nat)×Sta)}(ha:acc.length<=50)(s8 s9 s10 s11:Sl):∃t8 t9,
 exs pg (call pg (n+16)) (lwS h L s st ps [s5,.own false (acc.map goD),.sh false (.int i),s8,s9,s10,s11]) aJO =
  .next (lwS h L s st ps [s5,.own false ((acc++goG h x i 4).map goD),.sh false (.int i),t8,t9,s10,s11]):=by
 have hw:=cH (P:=pg) (cl:=call pg (n+16)) (σ:=lwS h L s st ps [s5,.own false (acc.map goD),.sh false (.int i),s8,s9,s10,s11]) (a:=.c (.int 4)) (v:=.cl (.int 4)) (n:=4) rfl rfl (by decide);obtain⟨σ',e1,hI⟩:=dR (t:=.n 8) (b:=aML) (λk σ=>∃t8 t9,σ=lwS h L s st ps [s5,.own false ((acc++goG h x i k).map goD),.sh false (.int i),t8,t9,s10,s11]) hw ⟨s8,s9,by unfold goG;simp⟩ (λk hk σ hσ=>by
  obtain⟨t8,t9,rfl⟩:=hσ;have hk:k<4:=by simpa using hk
  have gl:=aBz h x i k;have g:=aFh (L:=L) (s:=s) (ps:=ps) n H S hl e s5 hi k (acc:=acc++goG h x i k) (by rw[lA];omega) t9 s10 s11;rw[Di,<-aFg] at g;exact⟨_,_,by simp,g,_,_,rfl⟩)
 obtain⟨t8,t9,rfl⟩:=hI;refine⟨t8,t9,(stp e1).trans ?_⟩;simp
end
theorem aFj(σ:Sg)(ha:noL a=true)(hb:noL b=true):bT σ (.cl (.tup [a,b])) (.t [i,j])=.ok ((σ.set i (.sh false a)).set j (.sh false b)):=aBe σ ha hb
theorem aJP{v:Vl}{ds:List D}(h:ev pg cl σ a=.ok v)(hd:v.d=.lst ds):tst pg cl σ (.cmp .NotEq a (.lst .z))=.ok (!ds.isEmpty):=by
 refine fM (y:=⟨.lst [],true,false,[]⟩) h rfl ?_;rw[hd];show((if ds.length=([]:List D).length then eqL (eqF 119) ds [] else some false).map λb=>!b)=_;cases ds with
 | nil=>rfl|cons d ds=>rw[if_neg (by simp)];rfl
theorem aGY{α:Type}(l:List α)(a b:α){i:Nat}(h:i<l.length):l.getD i a=l.getD i b:=by rw[Af,Af,Ad h];rfl
theorem aGZ(n:Nat)(H:HouseOk h){ps:List (Int×Int)}(W:Wov h s0 ps st)(hp:ps.length<=100)(c:Int)(s6 s7 s8 s9 s10 s11:Sl):∃ps' st' t6 t7 t8 t9 t10 t11,Wov h s0 ps' st'/\ps'.length<=ps.length+1 /\
 exs pg (call pg (n+16)) (lwS h L s st ps [.sh false (.int c),s6,s7,s8,s9,s10,s11]) lwB=.next (lwS h L s st' ps' [.sh false (.int c),t6,t7,t8,t9,t10,t11]):=by
 have hsl:=W.len;have lx:∀x,st.getD ps.length s0=x->st.getD (st.length-1) x=x:=λx hx=>by rw[show st.length-1=ps.length by omega,aGY st x s0 (by omega)];exact hx
 have S:=W.ok ps.length;generalize hx:st.getD ps.length s0=x at S;have lx:=lx x hx;have hf:=H.few;have hw:=cH (P:=pg) (cl:=call pg (n+16)) (σ:=lwS h L s st ps [.sh false (.int c),.own false [],s7,s8,s9,s10,s11]) (a:=.bi .len (.k (.idx (.v 0) (.c (.int 2))) .z)) (v:=.cl (.int (h.hs.length:Int))) (n:=h.hs.length) (cX (aM rfl rfl (eC h)) (by rw[cA,lM])) rfl (by omega);obtain⟨σ',e1,hI⟩:=dR (t:=.n 7) (b:=aJO) (λi σ=>∃t7 t8 t9,σ=lwS h L s st ps [.sh false (.int c),.own false ((goL h x i).map goD),t7,t8,t9,s10,s11]) hw ⟨_,_,_,rfl⟩ (λi hi σ hσ=>by
  obtain⟨t7,t8,t9,rfl⟩:=hσ;have hi:i<h.hs.length:=by simpa using hi
  have gl:=vD h x i;obtain⟨u8,u9,g⟩:=aFi (L:=L) (s:=s) (ps:=ps) n H S (by omega) lx (.sh false (.int c)) hi (acc:=goL h x i) (by omega) t8 t9 s10 s11;rw[<-yF] at g;exact⟨_,_,by simp,g,_,_,_,rfl⟩)
 obtain⟨t7,t8,t9,rfl⟩:=hI;rw[lM,Cu] at e1;have gm:∀g∈goL h x h.hs.length,g.1.1<h.hs.length/\goneS h x g.1.1 g.1.2=some g.2:=λg hg=>aGW hg;have gl:=vD h x h.hs.length;generalize goL h x h.hs.length=G at e1 gm gl;have hd:∀{o:O},exs pg (call pg (n+16)) (lwS h L s st ps [.sh false (.int c),.own false (G.map goD),t7,t8,t9,s10,s11]) (drp 2 lwB)=o->exs pg (call pg (n+16)) (lwS h L s st ps [.sh false (.int c),s6,s7,s8,s9,s10,s11]) lwB=o:=λr=>cs (σ':=lwS h L s st ps [.sh false (.int c),.own false [],s7,s8,s9,s10,s11]) rfl (cs e1 r);have tn:=aJP (cl:=call pg (n+16)) (σ:=lwS h L s st ps [.sh false (.int c),.own false (G.map goD),t7,t8,t9,s10,s11]) (a:=.v 6) (v:=⟨.lst (G.map goD),false,false,[6]⟩) rfl rfl;cases hG:G with
 | nil=>subst hG;exact⟨ps,st,_,_,_,_,_,_,W,by omega,hd (cs (bQ tn) (aZ ..))⟩|cons g0 G0=>
  have hpos:0<G.length:=by rw[hG];simp
  have tn:tst pg (call pg (n+16)) (lwS h L s st ps [.sh false (.int c),.own false (G.map goD),t7,t8,t9,s10,s11]) (.cmp .NotEq (.v 6) (.lst .z))=.ok true:=tn.trans (by rw[hG];rfl);obtain⟨j,j1,_,j2⟩:=iC (cl:=call pg (n+16)) (σ:=lwS h L s st ps [.sh false (.int c),.own false (G.map goD),t7,t8,t9,s10,s11]) (a:=.v 5) (e:=.bi .len (.k (.v 6) .z)) (c:=c) (k:=5) (L:=G.length) rfl (cX rfl (by rw[cA,lM])) (bW (n+15) c (by decide) (by decide)) (by omega);have j1:j<G.length:=by omega
  obtain⟨g1,g2⟩:=gm G[j] (A7 j1);have ix:bK ⟨.lst (G.map goD),false,false,[6]⟩ (.cl (.int (j:Int)))=.ok (.cl (goD G[j])):=by rw[xM rfl (Ad j1),bR (aJN _)]
  generalize G[j]=g at g1 g2 ix;have eg:cK h x ((g.1.1:Int),(g.1.2:Int))=some g.2:=by unfold cK;rw[if_pos ⟨by omega,by show(g.1.1:Int)<_;omega,by omega⟩];exact g2
  have W':Wov h s0 (ps++[((g.1.1:Int),(g.1.2:Int))]) (st++[g.2]):=W.snoc H (by rw[hx];exact eg);refine⟨_,_,_,_,_,_,_,_,W',by rw[lA];exact Ai _,hd (cs (aGL tn (cs (aAa (aM (a:=.v 6) rfl j2 ix) (aFj _ (xY _ _) (fF _ _))) (cs (iZ (v:=.cl (stP ((g.1.1:Int),(g.1.2:Int)))) (ds:=ps.map stP) rfl rfl (by rw[lM];unfold lim;omega) rfl (fR stP ps _)) (cs (iZ (v:=.cl (stS g.2)) (ds:=st.map stS) rfl rfl (by rw[lM];unfold lim;omega) rfl (fR stS st _)) (aZ ..))))) (aZ ..))⟩
def fT(ns:List Int):List Int:=(List.range 33).map λk=>cellAt ns (30+k)
theorem aFk(n:Nat)(ns:List Int):call pg (n+2) 26 [.lst (ns.map D.int),.int 30,.int 63]=.ok (.lst ((fT ns).map D.int),true,false):=by
 have hw:walk pg (call pg (n+1)) [.sh true (.lst (ns.map D.int)),.sh true (.int 30),.sh true (.int 63)] (.rng (.v 1) (.v 2))=.ok ((List.range 33).map (λ(k:Nat)=>Vl.cl (.int ((30+k:Nat):Int))),[]):=by simp only[pM,bO,bB,gS,gZ,aR,aA,aX];rfl
 have hc:=mU (P:=pg) (k:=1) (caps:=[0]) (T:=.n 0) (elt:=.call 5 (.k (.v 1) (.k (.v 0) .z))) (λ(k:Nat)=>Vl.cl (.int ((30+k:Nat):Int))) (λk=>.int (cellAt ns (30+k))) (λ_=>rfl) hw (by decide) λt ht=>by
  have ht:t<33:=by simpa using ht
  have ca:=dF n ns (k:=30+t) (by omega);refine⟨[.sh false (.int ((30+t:Nat):Int)),.sh true (.lst (ns.map D.int))],?_,?_⟩;simp[bZ,eF];simp only[aU,aB,aE,bO,bB,gS,gZ,aR,dX,aA,mC,mN,aX,ca,bS]
 refine aH (F:=f26) rfl rfl (v:=⟨.lst ((fT ns).map D.int),true,false,[]⟩) ?_;have e:(List.range 33).map (λk=>D.int (cellAt ns (30+k)))=(fT ns).map D.int:=by simp[fT]
 rw[e] at hc;exact bD hc
theorem aAn(n:Nat){h:House}(H:HouseOk h)(ns:List Int){s:List Int}(hs:s.length=h.bs.length):∃ps st,Wov h (w0 h s) ps st/\ps.length<=33/\call pg (n+17) 30 [h.d,.lst (ns.map D.int),aD s]=.ok (.tup [.lst (st.map stS),.lst (ps.map stP)],false,false):=by
 have hz:(jY h).length<=3:=by unfold jY;rw[Ba];exact H.few
 have e1:ex pg (call pg (n+16)) [.sh true h.d,.sh true (.lst (ns.map D.int)),.sh true (aD s),.x,.x,.x,.x,.x,.x,.x,.x,.x] (hdS f30.body)=.next [.sh true h.d,.sh true (.lst (ns.map D.int)),.sh true (aD s),.own false [stS (w0 h s)],.x,.x,.x,.x,.x,.x,.x,.x]:=by refine dY ?_;rw[eW,aB,eX (v2_ (aI s)) (dH (x:=.cl (.tup [.int 0])) rfl (cX (aM rfl rfl (eC h)) (by rw[cA,lM])) (aEX H.one (by have:=H.few;omega))),aA,aE];rfl
 have hw:walk pg (call pg (n+16)) (lwS h (.lst (ns.map D.int)) s [w0 h s] [] [.x,.x,.x,.x,.x,.x,.x]) (.seq (.call 26 (.k (.v 1) (.k (.c (.int 30)) (.k (.c (.int 63)) .z)))))=.ok ((fT ns).map λi=>Vl.cl (.int i),[]):=by rw[gJ,fQ (x:=⟨.lst (ns.map D.int),false,true,[]⟩) (y:=.cl (.int 30)) (z:=.cl (.int 63)) rfl rfl rfl (aFk (n+14) ns),aA];show R.ok (items _ ((fT ns).map D.int),[])=_;rw[qB]
 obtain⟨σ',e3,hI⟩:=dR (t:=.n 5) (b:=lwB) (λi σ=>∃ps st t5 t6 t7 t8 t9 t10 t11,Wov h (w0 h s) ps st/\ps.length<=i/\σ=lwS h (.lst (ns.map D.int)) s st ps [t5,t6,t7,t8,t9,t10,t11]) hw ⟨[],[w0 h s],_,_,_,_,_,_,_,Wov.nil (aGT hs),Ai _,rfl⟩ (λi hi σ hσ=>by
  obtain⟨ps,st,t5,t6,t7,t8,t9,t10,t11,W,hl,rfl⟩:=hσ;have hi:i<33:=by simpa[fT] using hi
  obtain⟨ps',st',u6,u7,u8,u9,u10,u11,W',hl',g⟩:=aGZ n H (L:=.lst (ns.map D.int)) (s:=s) W (by omega) ((fT ns)[i]'(by simpa[fT] using hi)) t6 t7 t8 t9 t10 t11;refine⟨_,_,?_,g,ps',st',_,_,_,_,_,_,_,W',by omega,rfl⟩;simp only[Dn];rfl)
 obtain⟨ps,st,t5,t6,t7,t8,t9,t10,t11,W,hl,rfl⟩:=hI;rw[lM,show(fT ns).length=33 by simp[fT]] at hl;refine⟨ps,st,W,hl,aH (F:=f30) rfl rfl (v:=⟨.tup [.lst (st.map stS),.lst (ps.map stP)],false,false,[3,4]⟩) ?_⟩;exact cs e1 (cs (σ':=lwS h (.lst (ns.map D.int)) s [w0 h s] [] [.x,.x,.x,.x,.x,.x,.x]) rfl (cs e3 (bD rfl)))
theorem fU(P:List (Int×Int)):noLs (P.map stP)=true:=eR gD P
theorem aJQ{a b:List D}(ha:noLs a=true)(hb:noLs b=true)(hl:a.length+b.length<=lim):opD .Add ⟨.lst a,false,false,[i]⟩ ⟨.lst b,true,false,[]⟩=.ok ⟨.lst (a++b),true,false,[]⟩:=by show R.iff (decide (a.length+b.length<=lim)) (R.ok (Vl.mk (.lst (a++b)) true ((false&&!noLs a)||(false&&!noLs b)) ((if noLs a then [] else [i])++(if noLs b then [] else []))))=_;rw[Aj hl,ha,hb];rfl
noncomputable def bad0(h:House)(c:Int):List (Int×Int):=[(-1,0),((h.hs.length:Int),0),(0,-1),(0,4),(c % 10 ^ 30+3,1)]
theorem aMM:opD .Pow (.cl (.int 10)) (.cl (.int 30))=.ok (.cl (.int (10 ^ 30))):=rfl
theorem aCy(H:HouseOk h){t:Sta}(S:cB h t.1 t.2)(c:Int):∀p∈bad0 h c,cK h t p=none:=by have hm:0<=c % 10 ^ 30:=Bl _ (by decide);have hf:=H.few;have no:∀{x y:Int},¬ (0<=x/\x<h.hs.length/\0<=y)->cK h t (x,y)=none:=λz=>if_neg z;intro p hp;simp only[bad0,A3,List.not_mem_nil,or_false] at hp;rcases hp with rfl|rfl|rfl|rfl|rfl;exact no (by omega);exact no (by omega);exact no (by omega);unfold cK;split;have hr:=aGS H S (i:=0) H.one;show goneS h t 0 4=none;unfold goneS;rw[if_neg (by omega)];rfl;exact no (by omega)
abbrev aJR:Ss:=match hdS (drp 1 f31.body) with|.for _ _ b=>b|_=>.z
abbrev aMN:Ss:=match hdS aJR with|.for _ _ b=>b|_=>.z
abbrev bdS(h:House)(t:Sta)(c:Int)(P:List (Int×Int))(s4 s5:Sl):Sg:=[.sh true h.d,.sh true (stS t),.sh true (.int c),.own false (P.map stP),s4,s5]
theorem aHa(n:Nat){h:House}(H:HouseOk h){t:Sta}(S:cB h t.1 t.2)(c:Int):∃p,cK h t p=none/\call pg (n+17) 31 [h.d,stS t,.int c]=.ok (stP p,false,false):=by
 have hf:=H.few;have lh:∀r,ev pg (call pg (n+16)) (.sh true h.d::r) (.bi .len (.k (.idx (.v 0) (.c (.int 2))) .z))=.ok (.cl (.int (h.hs.length:Int))):=λr=>cX (aM rfl rfl (eC h)) (by rw[cA,lM]);have e1:ex pg (call pg (n+16)) [.sh true h.d,.sh true (stS t),.sh true (.int c),.x,.x,.x] (hdS f31.body)=.next (bdS h t c (bad0 h c) .x .x):=by refine dY ?_;have a2:=eX (b:=.c (.int 0)) (lh [.sh true (stS t),.sh true (.int c),.x,.x,.x]) rfl;have a5:ev pg (call pg (n+16)) [.sh true h.d,.sh true (stS t),.sh true (.int c),.x,.x,.x] (.tup (.k (.op .Add (.op .Mod (.v 2) (.op .Pow (.c (.int 10)) (.c (.int 30)))) (.c (.int 3))) (.k (.c (.int 1)) .z)))=.ok (.cl (.tup [.int (c % 10 ^ 30+3),.int 1])):=eX (dH (dH rfl (dH rfl rfl aMM) (jN (by decide))) rfl (add_int _ _)) rfl;rw[eW,aB,eX (x:=.int (-1)) (y:=.int 0) rfl rfl,aA,aB,a2,aA,aB,eX (x:=.int 0) (y:=.int (-1)) rfl rfl,aA,aB,eX (x:=.int 0) (y:=.int 4) rfl rfl,aA,aB,a5,aA,aE];rfl
 have turn2:∀{i:Nat},i<h.hs.length->∀(k:Nat) {P:List (Int×Int)},(∀p∈P,cK h t p=none)->P.length<=100->∃P',(∀p∈P',cK h t p=none)/\P.length<=P'.length/\P'.length<=P.length+3/\exs pg (call pg (n+16)) (bdS h t c P (.sh false (.int (i:Int))) (.sh false (.int (k:Int)))) aMN=.next (bdS h t c P' (.sh false (.int (i:Int))) (.sh false (.int (k:Int)))):=λ{i} hi k {P} hP hl=>by
  have cg:=bE (P:=pg) (cl:=call pg (n+16)) (σ:=bdS h t c P (.sh false (.int (i:Int))) (.sh false (.int (k:Int)))) (f:=18) (a:=.v 0) (b:=.v 1) (c:=.tup (.k (.v 4) (.k (.v 5) .z))) (x:=⟨h.d,false,true,[]⟩) (y:=.cl (stS t)) rfl (v1_ (lV t)) (eX rfl rfl) (yA n H S hi k);have eg:cK h t ((i:Int),(k:Int))=goneS h t i k:=by unfold cK;rw[if_pos ⟨by omega,by show(i:Int)<_;omega,by omega⟩];rfl
  cases e:goneS h t i k with
  | some u=>rw[e] at cg;exact⟨P,hP,Ai _,by omega,cs (bQ (fM (y:=.cl .non) cg rfl rfl)) (aZ ..)⟩|none=>
   rw[e] at cg eg;refine⟨P++[((i:Int),(k:Int)),((i:Int),(k:Int)),((i:Int),(k:Int))],λp hp=>?_,by simp,by simp,cs (aGL (fM (y:=.cl .non) cg rfl rfl) (cs (dY (dH (x:=⟨.lst (P.map stP),false,false,[3]⟩) (y:=⟨.lst ([((i:Int),(k:Int)),((i:Int),(k:Int)),((i:Int),(k:Int))].map stP),true,false,[]⟩) rfl rfl ((aJQ (fU _) (fU _) (by rw[lM,lM];unfold lim;simp only[lC,lN];omega)).trans (by rw[<-Bx])))) (aZ ..))) (aZ ..)⟩;rcases B7.mp hp with z|z;exact hP p z;have:p=((i:Int),(k:Int)):=by simpa using z
   rw[this];exact eg
 have turn1:∀{i:Nat},i<h.hs.length->∀{P:List (Int×Int)} (s5:Sl),(∀p∈P,cK h t p=none)->P.length<=50->∃P' t5,(∀p∈P',cK h t p=none)/\P.length<=P'.length/\P'.length<=P.length+12/\exs pg (call pg (n+16)) (bdS h t c P (.sh false (.int (i:Int))) s5) aJR=.next (bdS h t c P' (.sh false (.int (i:Int))) t5):=λ{i} hi {P} s5 hP hl=>by
  obtain⟨σ',e,P',t5,q1,q2,q3,rfl⟩:=dR (t:=.n 5) (b:=aMN) (λk σ=>∃P' t5,(∀p∈P',cK h t p=none)/\P.length<=P'.length/\P'.length<=P.length+3*k/\σ=bdS h t c P' (.sh false (.int (i:Int))) t5) (cH (P:=pg) (cl:=call pg (n+16)) (σ:=bdS h t c P (.sh false (.int (i:Int))) s5) (a:=.c (.int 4)) (v:=.cl (.int 4)) (n:=4) rfl rfl (by decide)) ⟨P,s5,hP,Ai _,Ai _,rfl⟩ (λk hk σ hσ=>by
   obtain⟨P',t5,q1,q2,q3,rfl⟩:=hσ;have hk:k<4:=by simpa using hk
   obtain⟨P2,r1,r2,r3,g⟩:=turn2 hi k q1 (by omega);exact⟨_,_,by simp,g,P2,_,r1,by omega,by omega,rfl⟩)
  exact⟨P',t5,q1,q2,by simpa using q3,cs e (aZ ..)⟩
 obtain⟨σ',e2,P,t4,t5,q1,q2,q3,rfl⟩:=dR (t:=.n 4) (b:=aJR) (λi σ=>∃P' t4 t5,(∀p∈P',cK h t p=none)/\5<=P'.length/\P'.length<=5+12*i/\σ=bdS h t c P' t4 t5) (cH (P:=pg) (cl:=call pg (n+16)) (σ:=bdS h t c (bad0 h c) .x .x) (a:=.bi .len (.k (.idx (.v 0) (.c (.int 2))) .z)) (v:=.cl (.int (h.hs.length:Int))) (n:=h.hs.length) (lh _) rfl (by omega)) ⟨bad0 h c,_,_,aCy H S c,Ai _,Ai _,rfl⟩ (λi hi σ hσ=>by
  obtain⟨P',t4,t5,q1,q2,q3,rfl⟩:=hσ;have hi:i<h.hs.length:=by simpa using hi
  obtain⟨P2,u5,r1,r2,r3,g⟩:=turn1 hi t5 q1 (by omega);exact⟨_,_,by simp,g,P2,_,_,r1,by omega,by omega,rfl⟩)
 obtain⟨j,j1,_,j2⟩:=iC (cl:=call pg (n+16)) (σ:=bdS h t c P t4 t5) (a:=.v 2) (e:=.bi .len (.k (.v 3) .z)) (c:=c) (k:=6) (L:=P.length) rfl (cX rfl (by rw[cA,lM])) (bW (n+15) c (by decide) (by decide)) (by omega);have j1:j<P.length:=by omega
 refine⟨P[j],q1 _ (A7 j1),aH (F:=f31) rfl rfl (v:=.cl (stP P[j])) (cs e1 (cs e2 (bD (aM (a:=.v 3) rfl j2 (by rw[xM rfl (Ad j1),bR (gD _)])))))⟩
theorem aCz(n:Nat)(i:Int):call pg (n+1) 20 [.int i,.int i]=.ok (.bl true,false,false):=by
 refine aH (F:=f20) rfl rfl (v:=.cl (.bl true)) ?_;have e:eqD (.int i) (.int i)=some true:=by rw[cU];simp
 show exs pg (call pg n) [.sh true (.int i),.sh true (.int i),.x] _=_;have an1:ev pg (call pg n) [.sh true (.int i),.sh true (.int i),.x] (.an (.isi (.v 0) [.tInt]) (.an (.nt (.isi (.v 0) [.tBool])) (.cmp .Eq (.v 0) (.v 1))))=.ok (.cl (.bl true)):=by refine aBj (x:=true) (y:=true) rfl (aBj (x:=true) (y:=true) rfl ?_);simp only[uF,bO,bB,gS,gZ,aR,aA,aX,eO,e]
 refine(stp (σ':=[.sh true (.int i),.sh true (.int i),.x]) rfl).trans ?_;show exs pg (call pg n) _ (.k (.iff (.isi (.v 1) [.tInt]) (.k (.ret _) .z) .z) _)=_;have t1:tst pg (call pg n) [.sh true (.int i),.sh true (.int i),.x] (.isi (.v 1) [.tInt])=.ok true:=rfl;rw[aN,cG,t1,aT,if_pos rfl,aN,cS,an1];rfl
theorem sP(n:Nat){ds:List D}(hl:ds.length<=1000)(hn:noLs ds=true)(h:∀d∈ds,noL d=true/\call pg (n+1) 20 [d,d]=.ok (.bl true,false,false)):call pg (n+2) 20 [.tup ds,.tup ds]=.ok (.bl true,false,false):=by
 have hv:∀i,Sl.val i (.sh true (.tup ds))=.ok (.cl (.tup ds)):=λi=>hZ i true (by rw[noL];exact hn);have hlen:∀(s2:Sl),ev pg (call pg (n+1)) [.sh true (.tup ds),.sh true (.tup ds),s2] (.bi .len (.k (.v 1) .z))=.ok (.cl (.int (ds.length:Int))):=λs2=>by simp only[fP,aB,aE,bO,bB,gS,gZ,hv,aA,uP]
 have hlen0:∀(s2:Sl),ev pg (call pg (n+1)) [.sh true (.tup ds),.sh true (.tup ds),s2] (.bi .len (.k (.v 0) .z))=.ok (.cl (.int (ds.length:Int))):=λs2=>by simp only[fP,aB,aE,bO,bB,gS,gZ,hv,aA,uP]
 have hw:=cH (P:=pg) (cl:=call pg (n+1)) (σ:=[.sh true (.tup ds),.sh true (.tup ds),.x]) (hlen .x) rfl (n:=ds.length) (by omega);obtain⟨σ',e,hI⟩:=dR (t:=.n 2) (b:=match hdS (drp 6 f20.body) with|.for _ _ b=>b|_=>.z) (λi σ=>∃s2,σ=[.sh true (.tup ds),.sh true (.tup ds),s2]) hw ⟨_,rfl⟩ (λi hi σ hσ=>by
  obtain⟨s2,rfl⟩:=hσ;have hi':i<ds.length:=by simpa using hi
  obtain⟨h1,h2⟩:=h ds[i] (A7 hi');have ix:bK (.cl (.tup ds)) (.cl (.int (i:Int)))=.ok (.cl ds[i]):=by unfold bK;simp only[aX,dA hi',Ad hi',bR h1]
  refine⟨[.sh true (.tup ds),.sh true (.tup ds),.sh false (.int i)],[.sh true (.tup ds),.sh true (.tup ds),.sh false (.int i)],by simp,?_,_,rfl⟩;simp only[hdS,drp,f20,aN,aZ,cG,mR,iU,aB,aE,cR,bO,bB,gS,gZ,hv,aR,aA,ix,mC,mN,aX,h2,bS,uM,Ds,aT,bF,if_false,iT])
 obtain⟨s2,rfl⟩:=hI;have tt:∀{E1:E} {B:Ss},tst pg (call pg (n+1)) [.sh true (.tup ds),.sh true (.tup ds),.x] E1=.ok false->ex pg (call pg (n+1)) [.sh true (.tup ds),.sh true (.tup ds),.x] (.iff E1 B .z)=.next [.sh true (.tup ds),.sh true (.tup ds),.x]:=λh=>by rw[cG,h];rfl
 refine aH (F:=f20) rfl rfl (v:=.cl (.bl true)) ?_;show exs pg (call pg (n+1)) [.sh true (.tup ds),.sh true (.tup ds),.x] _=_;refine(stp (tt ?_)).trans ((stp (tt ?_)).trans ((stp (tt ?_)).trans ((stp (tt ?_)).trans ((stp (tt ?_)).trans ((stp (tt ?_)).trans ((stp e).trans rfl))))));simp only[bY,bO,cF,bB,gS,gZ,hv,aA,aX];rfl;simp only[lO,bO,bB,gS,gZ,hv,aA,aX];rfl;simp only[lO,bO,bB,gS,gZ,hv,aA,aX];rfl;simp only[kQ,mR,lO,bO,bB,gS,gZ,hv,aA,aX];rfl;simp only[kQ,lO,bO,bB,gS,gZ,hv,aA,aX];rfl;rw[bY,hlen0,hlen];simp only[aA,aX,zY,cU,Bu,Dv,Ds]
theorem qS(n:Nat){is:List Int}(h:is.length<=1000):call pg (n+2) 20 [aD is,aD is]=.ok (.bl true,false,false):=
 sP n (by rw[lM];exact h) (dS is) λd hd=>by obtain⟨i,_,rfl⟩:=Av.mp hd;exact⟨rfl,aCz n i⟩
theorem aMO(v:Vl)(d:D):(Vl.sub v d).d=d:=by unfold Vl.sub;split <;> rfl
theorem aCA(n:Nat){ds:List D}(hl:ds.length<=1000000)(h:∀d∈ds,call pg (n+1) 20 [d,d]=.ok (.bl true,false,false)):call pg (n+2) 20 [.lst ds,.lst ds]=.ok (.bl true,false,false):=by
 have hlen:∀(s2:Sl),ev pg (call pg (n+1)) [.sh true (.lst ds),.sh true (.lst ds),s2] (.bi .len (.k (.v 1) .z))=.ok (.cl (.int (ds.length:Int))):=λs2=>by simp only[fP,aB,aE,bO,bB,gS,gZ,dX,aA,cA]
 have hlen0:∀(s2:Sl),ev pg (call pg (n+1)) [.sh true (.lst ds),.sh true (.lst ds),s2] (.bi .len (.k (.v 0) .z))=.ok (.cl (.int (ds.length:Int))):=λs2=>by simp only[fP,aB,aE,bO,bB,gS,gZ,dX,aA,cA]
 have hw:=cH (P:=pg) (cl:=call pg (n+1)) (σ:=[.sh true (.lst ds),.sh true (.lst ds),.x]) (hlen .x) rfl (n:=ds.length) hl;obtain⟨σ',e,hI⟩:=dR (t:=.n 2) (b:=match hdS (drp 6 f20.body) with|.for _ _ b=>b|_=>.z) (λi σ=>∃s2,σ=[.sh true (.lst ds),.sh true (.lst ds),s2]) hw ⟨_,rfl⟩ (λi hi σ hσ=>by
  obtain⟨s2,rfl⟩:=hσ;have hi':i<ds.length:=by simpa using hi
  have h2:=h ds[i] (A7 hi');have ix:bK ⟨.lst ds,false,true,[]⟩ (.cl (.int (i:Int)))=.ok (Vl.sub ⟨.lst ds,false,true,[]⟩ ds[i]):=by unfold bK;simp only[aX,dA hi',Ad hi']
  refine⟨[.sh true (.lst ds),.sh true (.lst ds),.sh false (.int i)],[.sh true (.lst ds),.sh true (.lst ds),.sh false (.int i)],by simp,?_,_,rfl⟩;simp only[hdS,drp,f20,aN,aZ,cG,mR,iU,aB,aE,cR,bO,bB,gS,gZ,dX,aR,aA,ix,mC,mN,aMO,h2,bS,uM,Ds,aT,bF,if_false,iT])
 obtain⟨s2,rfl⟩:=hI;have tt:∀{E1:E} {B:Ss},tst pg (call pg (n+1)) [.sh true (.lst ds),.sh true (.lst ds),.x] E1=.ok false->ex pg (call pg (n+1)) [.sh true (.lst ds),.sh true (.lst ds),.x] (.iff E1 B .z)=.next [.sh true (.lst ds),.sh true (.lst ds),.x]:=λh=>by rw[cG,h];rfl
 refine aH (F:=f20) rfl rfl (v:=.cl (.bl true)) ?_;show exs pg (call pg (n+1)) [.sh true (.lst ds),.sh true (.lst ds),.x] _=_;refine(stp (tt ?_)).trans ((stp (tt ?_)).trans ((stp (tt ?_)).trans ((stp (tt ?_)).trans ((stp (tt ?_)).trans ((stp (tt ?_)).trans ((stp e).trans rfl))))));rfl;rfl;rfl;rfl;rfl;rw[bY,hlen0,hlen];simp only[aA,aX,zY,cU,Bu,Dv,Ds]
theorem vE(n:Nat){ss:List Sta}(hl:ss.length<=1000)(h:∀s∈ss,s.1.length<=1000/\s.2.length<=1000):call pg (n+4) 20 [.lst (ss.map stS),.lst (ss.map stS)]=.ok (.bl true,false,false):=
 aCA (n+2) (by rw[lM];omega) λd hd=>by obtain⟨s,hs,rfl⟩:=Av.mp hd;refine sP (n+1) (ds:=[aD s.1,aD s.2]) (by simp) (by simp[noLs,aI]) λd hd=>?_;rcases A3.mp hd with rfl|hd;exact⟨aI _,qS n (h s hs).1⟩;rw[Bw.mp hd];exact⟨aI _,qS n (h s hs).2⟩
def okE:Nat->D->Bool
 | 0,_=>false|n+1,d=>match d with|.tup ds=>ds.all (okE n)|.lst ds=>ds.all (okE n)|.dic _=>false|.err _ _=>false|_=>true
theorem lW:∀(n:Nat) (d:D),okE n d=true->eqF n d d=some true
 | 0,_,h=>by cases h|n+1,d,h=>by
  have hs:∀ds:List D,ds.all (okE n)=true->fJ n ds ds=some true:=λds=>by
   induction ds with
   | nil=>intro _;rfl|cons x r ih=>intro h;rw[Dr,bA] at h;unfold fJ;rw[lW n x h.1,ih h.2];rfl
  cases d with
  | non=>rfl|bl b=>exact congrArg some (Bu b)|int i=>exact congrArg some (Bu i)|str s=>exact congrArg some (Bu s)|tup ds=>show eqL (eqF n) ds ds=_;rw[tJ,hs ds h]|lst ds=>show(if ds.length=ds.length then eqL (eqF n) ds ds else some false)=_;rw[if_pos rfl,tJ,hs ds h]|dic _=>cases h|err _ _=>cases h
theorem yG(n:Nat)(is:List Int):okE (n+2) (aD is)=true:=by show(is.map D.int).all (okE (n+1))=true;rw[List.all_map,Az];intro _ _;rfl
theorem aAo(n:Nat)(ss:List Sta):okE (n+4) (.lst (ss.map stS))=true:=by show(ss.map stS).all (okE (n+3))=true;rw[List.all_map,Az];intro s _;show(okE (n+2) (aD s.1)&&(okE (n+2) (aD s.2)&&true))=true;rw[yG,yG];rfl
theorem aCB(n:Nat)(ps:List (Int×Int)):okE (n+3) (.lst (ps.map stP))=true:=by show(ps.map stP).all (okE (n+2))=true;rw[List.all_map,Az];intro _ _;rfl
theorem aBA(n:Nat):∀a b:List Int,fJ (n+1) (a.map D.int) (b.map D.int)=some (decide (a=b))
 | [],[]=>rfl|[],_::_=>rfl|_::_,[]=>rfl|x::a,y::b=>by
  rw[mC,mC,fJ,aBA n a b];show(match some (x==y),some (decide (a=b)) with|some x,some y=>some (x&&y)|_,_=>none)=_;show some ((x==y)&&decide (a=b))=_
  congr 1
  by_cases h:x=y;subst h;simp;simp[h]
theorem aMP(a b:List Int):eqD (aD a) (aD b)=some (decide (a=b)):=by show eqL (eqF 119) (a.map D.int) (b.map D.int)=_;rw[tJ,aBA]
theorem aFl(s:List Int):∀xs:List (List Int),nJ (aD s) (xs.map aD)=some (decide (s∈xs))
 | []=>by rw[mN];simp[nJ]|x::xs=>by
  rw[mC,nJ,aFl s xs,aMP];show some (decide (x=s)||decide (s∈xs))=_
  congr 1
  by_cases h:x=s;subst h;simp;simp[h,Ne.symm h]
theorem aFm(s:List Int):eY (aD s)=true:=by
 show noDics (s.map D.int)=true
 induction s with
 | nil=>rfl|cons x s ih=>rw[mC,noDics,ih];rfl
theorem aCC(xs:List (List Int)):noDics (xs.map aD)=true:=by
 induction xs with
 | nil=>rfl|cons x xs ih=>rw[mC,noDics,ih,aFm];rfl
theorem yH(s:List Int)(xs:List (List Int)):dD .NotIn (aD s) (.lst (xs.map aD))=some (!decide (s∈xs)):=by show(if noDics (xs.map aD) then nJ (aD s) (xs.map aD) else none).map (!·)=_;rw[if_pos (aCC xs),aFl];rfl
theorem aJS{σ:Sg}(i f:Nat)(es:Es):ex P cl σ (.tld i f es)=O.from σ (evs P cl σ es).calm λvs=>O.from σ (cl f (vs.map (·.d))).calm λr=>match aDg σ r with|some s=>.next (σ.set i s)|none=>.bad:=id rfl
theorem aFn{a b:List D}(ha:noLs a=true)(hb:noLs b=true)(hl:a.length+b.length<=lim):opD .Add ⟨.lst a,true,false,[]⟩ ⟨.lst b,true,false,[]⟩=.ok ⟨.lst (a++b),true,false,[]⟩:=by show R.iff (decide (a.length+b.length<=lim)) (R.ok (Vl.mk (.lst (a++b)) true ((false&&!noLs a)||(false&&!noLs b)) ((if noLs a then [] else [])++(if noLs b then [] else []))))=_;rw[Aj hl,ha,hb];rfl
theorem aBB{α:Type}(f:α->D)(xs:List α)(lo hi:Option Int):cut (xs.map f) lo hi=(cut xs lo hi).map f:=by unfold cut;rw[lM,List.map_take,List.map_drop]
theorem aAp{cl:Caller}{σ:Sg}{a i:E}{α:Type}{f:α->D}{xs:List α}{j:Nat}(nf:∀t,noL (f t)=true)(h:ev pg cl σ a=.ok (.cl (.lst (xs.map f))))(k:ev pg cl σ i=.ok (.cl (.int (j:Int))))(hj:j<=xs.length)(hl:xs.length<=1000):ev pg cl σ (.sli a .z (.k i .z))=.ok ⟨.lst ((xs.take j).map f),true,false,[]⟩:=by rw[lL,h,aA,k,aA];show R.iff (aK (j:Int)) (R.ok (Vl.mk (.lst (cut (xs.map f) none (some (j:Int)))) true (false&&!noLs (xs.map f)) (if noLs (xs.map f) then [] else [])))=_;rw[hU (by omega),aBB,uW xs j hj,eR nf];rfl
theorem aFo{cl:Caller}{σ:Sg}{a i:E}{α:Type}{f:α->D}{xs:List α}{j:Nat}(nf:∀t,noL (f t)=true)(h:ev pg cl σ a=.ok (.cl (.lst (xs.map f))))(k:ev pg cl σ i=.ok (.cl (.int (j:Int))))(hj:j<=xs.length)(hl:xs.length<=1000):ev pg cl σ (.sli a (.k i .z) .z)=.ok ⟨.lst ((xs.drop j).map f),true,false,[]⟩:=by rw[uQ,h,aA,k,aA];show R.iff (aK (j:Int)) (R.ok (Vl.mk (.lst (cut (xs.map f) (some (j:Int)) none)) true (false&&!noLs (xs.map f)) (if noLs (xs.map f) then [] else [])))=_;rw[hU (by omega),aBB,qD xs j hj,eR nf];rfl
abbrev T5(ns:List Int)(h:House)(c:Int)(st:List Int)(t:Sg):Sg:=.sh true (.lst (ns.map D.int))::.sh false h.d::.sh false (.str (fK h.d))::.own false ((bM h).map aD)::.sh false (.int c)::.sh false (aD st)::t
theorem aFp(ns:List Int)(H:HouseOk h)(c:Int)(hs:isSt h st=false):exs pg (call pg 59) (T5 ns h c st [.x,.x,.x,.x,.x,.x,.x]) (drp 5 f19.body)=.ret (.cl (.bl true)):=by
 have tn:tst pg (call pg 59) (T5 ns h c st [.x,.x,.x,.x,.x,.x,.x]) (.cmp .NotIn (.v 5) (.v 3))=.ok true:=(fM (x:=.cl (aD st)) (y:=⟨.lst ((bM h).map aD),false,false,[3]⟩) rfl rfl (yH st (bM h))).trans (by
  rw[An λz=>by rw[(qQ st).mp z] at hs;cases hs];rfl)
 have e6:ex pg (call pg 59) (T5 ns h c st [.x,.x,.x,.x,.x,.x,.x]) (.set (.n 6) (.lst (.k (.c (.bl false)) (.k (.op .Add (.lst (.k (.c (.bl true)) (.k (.c (.bl true)) .z))) (.op .Mult (.lst (.k (.c (.bl false)) .z)) (.c (.int 11)))) (.k (.c .non) .z)))))=.next (T5 ns h c st [.own false [.bl false,.lst sN,.non],.x,.x,.x,.x,.x,.x]):=dY rfl;have as:∀ds,call pg 59 28 [h.d,aD st,.lst ds]=.ok (.lst [.bl false,.lst sN,.non],true,false):=λds=>aFd 40 H hs ds;exact bX tn (cs e6 (bD (aGI (x:=true) (y:=true) (pQ (y:=⟨.lst [.bl false,.lst sN,.non],false,false,[6]⟩) (fQ (x:=.cl h.d) (y:=.cl (aD st)) (z:=⟨.lst [],true,false,[]⟩) rfl rfl rfl (as [])) rfl rfl) (pQ (y:=⟨.lst [.bl false,.lst sN,.non],false,false,[6]⟩) (fQ (x:=.cl h.d) (y:=.cl (aD st)) (z:=⟨.lst [jA 0 0,jA 5 5],true,false,[]⟩) rfl rfl rfl (as [jA 0 0,jA 5 5])) rfl rfl))))
theorem aCD{x:Vl}(h:ev pg cl σ a=.ok x)(p:vR σ i=.ok (.lst ds))(hc:cl f [.lst ds,x.d]=.ok (.bl b,false,false)):tst pg cl σ (.callP f i (.k a .z))=.ok b:=by show((evs pg cl σ (.k a .z)).calm >>= λvs=>vR σ i >>= λd=>(cl f (d::vs.map (·.d))).calm >>= λr=>iK r >>= λx=>eD x)=_;rw[aB,h,p];show((cl f [.lst ds,x.d]).calm >>= λr=>iK r >>= λx=>eD x)=_;rw[hc];rfl
theorem aCE(H:HouseOk h)(W:Wov h s0 ps ss):∀s∈ss,s.1.length<=1000/\s.2.length<=1000:=λs hs=>by obtain⟨i,hi,rfl⟩:=List.mem_iff_getElem.mp hs;have o:=W.ok i;rw[Af,Ad hi] at o;have o:cB h ss[i].1 ss[i].2:=o;have:=o.st;have:=o.len;have:=H.few;have:=H.bs.few;omega
theorem good(ns:List Int){h:House}(H:HouseOk h)(c:Int){st:List Int}(hs:isSt h st=true):exs pg (call pg 59) (T5 ns h c st [.x,.x,.x,.x,.x,.x,.x]) (drp 5 f19.body)=.ret (.cl (.bl true)):=by
 have hin:inB h.bs st=true:=by unfold isSt at hs;rw[bA] at hs;exact hs.1
 obtain⟨ps,ss,W,hl,cw⟩:=aAn 42 H ns (jR hin);have hsl:=W.len
 let Q:Sl->Sl->Sl->Sl->Sg:=λs9 s10 s11 s12=>T5 ns h c st [.x,.sh false (.lst (ss.map stS)),.sh false (.lst (ps.map stP)),s9,s10,s11,s12]
 let O9:Sl:=.own false (ps.map stP)
 let O10:Sl:=.par (ss.map stS) [.bl true]
 have nS:noLs (ss.map stS)=true:=eR lV ss;have tn:tst pg (call pg 59) (T5 ns h c st [.x,.x,.x,.x,.x,.x,.x]) (.cmp .NotIn (.v 5) (.v 3))=.ok false:=(fM (x:=.cl (aD st)) (y:=⟨.lst ((bM h).map aD),false,false,[3]⟩) rfl rfl (yH st (bM h))).trans (by
  rw[Aj ((qQ st).mpr hs)];rfl)
 have e7:ex pg (call pg 59) (T5 ns h c st [.x,.x,.x,.x,.x,.x,.x]) (.set (.t [7,8]) (.call 30 (.k (.v 1) (.k (.v 0) (.k (.v 5) .z)))))=.next (Q .x .x .x .x):=by rw[cD,bE (x:=.cl h.d) (y:=⟨.lst (ns.map D.int),false,true,[]⟩) (z:=.cl (aD st)) rfl rfl rfl cw];rfl
 have v8:∀s9 s10 s11 s12,ev pg (call pg 59) (Q s9 s10 s11 s12) (.v 8)=.ok (.cl (.lst (ps.map stP))):=λ_ _ _ _=>rfl;have v7:∀s9 s10 s11 s12,ev pg (call pg 59) (Q s9 s10 s11 s12) (.v 7)=.ok (.cl (.lst (ss.map stS))):=λ_ _ _ _=>rfl;have v1:∀s9 s10 s11 s12,ev pg (call pg 59) (Q s9 s10 s11 s12) (.v 1)=.ok (.cl h.d):=λ_ _ _ _=>rfl;have v5:∀s9 s10 s11 s12,ev pg (call pg 59) (Q s9 s10 s11 s12) (.v 5)=.ok (.cl (aD st)):=λ_ _ _ _=>rfl;have e9:ex pg (call pg 59) (Q .x .x .x .x) (.set (.n 9) (.bi .list (.k (.v 8) .z)))=.next (Q O9 .x .x .x):=dY (cX (v8 _ _ _ _) (by
  show R.ok (Vl.mk (.lst (ps.map stP)) true (false&&!noLs (ps.map stP)) (if noLs (ps.map stP) then [] else []))=_;rw[fU];rfl))
 have ca:=sO 40 H hs W (by omega);have e10:ex pg (call pg 59) (Q O9 .x .x .x) (.tld 10 28 (.k (.v 1) (.k (.v 5) (.k (.v 9) .z))))=.next (Q O9 O10 .x .x):=by
  rw[aJS,aB,v1,aA,aB,v5,aA,aB,show ev pg (call pg 59) (Q O9 .x .x .x) (.v 9)=.ok ⟨.lst (ps.map stP),false,false,[9]⟩ from rfl,aA,aE,aA,aA,aA,eQ,aT];show O.from _ (call pg 59 28 [h.d,aD st,.lst (ps.map stP)]).calm _=_;rw[ca,eQ,aT];have tl:aDg (Q O9 .x .x .x) (.lst [.bl true,.lst (ss.map stS)],true,false)=some O10:=by show(if noL (.bl true)&&noLs (ss.map stS)&&aAx (Q O9 .x .x .x) then some (Sl.par (ss.map stS) [.bl true]) else none)=_;rw[nS];rfl
  rw[tl];rfl
 have eqP:eqD (.lst (ps.map stP)) (.lst (ps.map stP))=some true:=lW 120 _ (aCB 117 ps);have t11:tst pg (call pg 59) (Q O9 O10 .x .x) (.orr (.nt (.pix 10)) (.orr (.nt (.callP 20 10 (.k (.v 7) .z))) (.cmp .NotEq (.v 9) (.v 8))))=.ok false:=
  sC (nN (k:=true) rfl) (sC (nN (aCD (v7 _ _ _ _) rfl (vE 55 (by omega) (aCE H W)))) (fM (x:=⟨.lst (ps.map stP),false,false,[9]⟩) rfl (v8 _ _ _ _) (by
   show(eqD (.lst (ps.map stP)) (.lst (ps.map stP))).map (!·)=_;rw[eqP];rfl)))
 obtain⟨j,j1,_,j2⟩:=iC (cl:=call pg 59) (σ:=Q O9 O10 .x .x) (a:=.v 4) (e:=.op .Add (.bi .len (.k (.v 8) .z)) (.c (.int 1))) (c:=c) (k:=7) (L:=(ps.length:Int)+1) rfl (dH (cX (v8 _ _ _ _) (by show biD .len [⟨_,_,_,_⟩]=_;rw[cA,lM])) rfl (add_int _ _)) (bW 58 c (by decide) (by decide)) (by omega);have j1:j<=ps.length:=by omega
 let J:Sl:=.sh false (.int (j:Int))
 have v11:∀s12,ev pg (call pg 59) (Q O9 O10 J s12) (.v 11)=.ok (.cl (.int (j:Int))):=λ_=>rfl;have hj:ss[j]? = some (ss.getD j (w0 h st)):=by rw[Af,Ad (by omega)];rfl
 obtain⟨p,gp,cb⟩:=aHa 42 H (W.ok j) c;have W':=W.take j1;have lt:(ps.take j).length=j:=by rw[A4];omega
 have e12:ex pg (call pg 59) (Q O9 O10 J .x) (.set (.n 12) (.op .Add (.op .Add (.sli (.v 8) .z (.k (.v 11) .z)) (.lst (.k (.call 31 (.k (.v 1) (.k (.idx (.v 7) (.v 11)) (.k (.v 4) .z)))) .z))) (.sli (.v 8) (.k (.v 11) .z) .z)))=.next (Q O9 O10 J (.own false ((ps.take j++[p]++ps.drop j).map stP))):=by
  have b1:=aAp gD (v8 O9 O10 J .x) (v11 _) j1 (by omega);have b3:=aFo gD (v8 O9 O10 J .x) (v11 _) j1 (by omega);have b2:ev pg (call pg 59) (Q O9 O10 J .x) (.lst (.k (.call 31 (.k (.v 1) (.k (.idx (.v 7) (.v 11)) (.k (.v 4) .z)))) .z))=.ok ⟨.lst ([p].map stP),true,false,[]⟩:=by rw[eW,aB,bE (x:=.cl h.d) (y:=.cl (stS (ss.getD j (w0 h st)))) (z:=.cl (.int c)) (v1 _ _ _ _) (aM (v7 _ _ _ _) (v11 _) (by rw[xM rfl hj,bR (lV _)])) rfl cb,aA,aE];rfl
  refine dY (dH (dH b1 b2 (aFn (fU _) (fU _) ?_)) b3 ((aFn ?_ (fU _) ?_).trans ?_));rw[lM,lM,lt];unfold lim;simp only[lC,lN];omega;rw[<-Bx];exact fU _;rw[lA,lM,lM,lM,lt,Cd];unfold lim;simp only[lC,lN];omega;rw[<-Bx,<-Bx]
 have cs':=aFe 40 H hs (qs:=ps.drop j) W' (by omega) (p:=p) (by rw[lt,fG _ _ (by omega)];exact gp);rw[lt] at cs';have t13:tst pg (call pg 59) (Q O9 O10 J (.own false ((ps.take j++[p]++ps.drop j).map stP))) (.cmp .NotEq (.call 28 (.k (.v 1) (.k (.v 5) (.k (.v 12) .z)))) (.lst (.k (.c (.bl false)) (.k (.op .Add (.lst (.k (.c (.bl true)) (.k (.c (.bl false)) (.k (.c (.bl true)) .z)))) (.op .Mult (.lst (.k (.c (.bl false)) .z)) (.c (.int 10)))) (.k (.v 11) .z)))))=.ok false:=fM (y:=⟨.lst [.bl false,.lst qR,.int (j:Int)],true,false,[]⟩) (fQ (x:=.cl h.d) (y:=.cl (aD st)) (z:=⟨.lst ((ps.take j++[p]++ps.drop j).map stP),false,false,[12]⟩) (v1 _ _ _ _) (v5 _ _ _ _) rfl cs') rfl (by
  show(eqD (.lst [.bl false,.lst qR,.int (j:Int)]) (.lst [.bl false,.lst qR,.int (j:Int)])).map (!·)=_;rw[show eqD (.lst [.bl false,.lst qR,.int (j:Int)]) (.lst [.bl false,.lst qR,.int (j:Int)])=some true from lW 120 _ rfl];rfl)
 let Z:Sg:=Q O9 (.par (ss.map stS++[.non]) [.bl true]) J (.own false ((ps.take j++[p]++ps.drop j).map stP))
 have e14:ex pg (call pg 59) (Q O9 O10 J (.own false ((ps.take j++[p]++ps.drop j).map stP))) (.appP 10 (.c .non))=.next Z:=by show(if (ss.map stS).length<lim then O.next Z else .bad)=_;rw[if_pos (by rw[lM];unfold lim;omega)]
 have hr:ev pg (call pg 59) Z (.bi .repr (.k (.v 1) .z))=.ok (.cl (.str (fK h.d))):=by refine cX (v1 _ _ _ _) ?_;show R.iff (decide (wt h.d<lim)&&decide (dpt h.d<=60)) (R.ok (Vl.cl (.str (fK h.d))))=_;rw[Aj (xS H),Aj (xU H)];rfl
 have ca2:=sO 40 H hs W' (by omega);have a1:ev pg (call pg 59) Z (.cmp .Eq (.call 28 (.k (.v 1) (.k (.v 5) (.k (.sli (.v 8) .z (.k (.v 11) .z)) .z)))) (.lst (.k (.c (.bl true)) (.k (.sli (.v 7) .z (.k (.op .Add (.v 11) (.c (.int 1))) .z)) .z))))=.ok (.cl (.bl true)):=by
  have r2:=aAp (j:=j+1) (i:=.op .Add (.v 11) (.c (.int 1))) (σ:=Z) (cl:=call pg 59) lV (v7 _ _ _ _) (dH (x:=.cl (.int (j:Int))) rfl rfl (add_int _ _)) (by omega) (by omega);have r3:ev pg (call pg 59) Z (.lst (.k (.c (.bl true)) (.k (.sli (.v 7) .z (.k (.op .Add (.v 11) (.c (.int 1))) .z)) .z)))=.ok ⟨.lst [.bl true,.lst ((ss.take (j+1)).map stS)],true,false,[]⟩:=by rw[eW,aB,cF,aA,aB,r2,aA,aE];rfl
  refine pQ (fQ (x:=.cl h.d) (y:=.cl (aD st)) (v1 _ _ _ _) (v5 _ _ _ _) (aAp (σ:=Z) (cl:=call pg 59) gD (v8 _ _ _ _) (show ev pg (call pg 59) Z (.v 11)=_ from rfl) j1 (by omega)) ca2) r3 ?_;refine(show eqF 120 (.lst [.bl true,.lst ((ss.take (j+1)).map stS)]) _=_ from lW 120 _ ?_);show(true&&(okE 119 (.lst ((ss.take (j+1)).map stS))&&true))=true;rw[aAo 115];rfl
 have a2:ev pg (call pg 59) Z (.cmp .Eq (.bi .repr (.k (.v 1) .z)) (.v 2))=.ok (.cl (.bl true)):=pQ hr (y:=.cl (.str (fK h.d))) rfl (by show eqD (.str _) (.str _)=_;rw[uO];simp);exact cs (bQ tn) (cs e7 (cs e9 (cs e10 (cs (bQ t11) (cs (bV j2) (cs e12 (cs (bQ t13) (cs e14 (bD (aGI a1 a2))))))))))
theorem pure(ns:List Int)(hl:ns.length<=63):∃fr pa,call pg 60 19 [.lst (ns.map D.int)]=.ok (.bl true,fr,pa):=by
 obtain⟨h,H,ch⟩:=aCu 50 ns;have cs3:=aAk 43 H;obtain⟨st,cst⟩:=aCx 57 H (cellAt ns 30)
 let S0:Sl:=.sh true (.lst (ns.map D.int))
 let S1:Sl:=.sh false h.d
 have e1:ex pg (call pg 59) (S0::List.replicate 12 .x) (.set (.n 1) (.call 14 (.k (.v 0) (.k (.c (.int 16)) .z))))=.next (S0::S1::List.replicate 11 .x):=bV (dB (x:=⟨.lst (ns.map D.int),false,true,[]⟩) (y:=.cl (.int 16)) rfl rfl ch);have e2:ex pg (call pg 59) (S0::S1::List.replicate 11 .x) (.set (.n 2) (.bi .repr (.k (.v 1) .z)))=.next (S0::S1::.sh false (.str (fK h.d))::List.replicate 10 .x):=bV (cX (x:=.cl h.d) rfl (by
  show R.iff (decide (wt h.d<lim)&&decide (dpt h.d<=60)) (R.ok (Vl.cl (.str (fK h.d))))=_;rw[Aj (xS H),Aj (xU H)];rfl))
 have e3:ex pg (call pg 59) (S0::S1::.sh false (.str (fK h.d))::List.replicate 10 .x) (.set (.n 3) (.call 25 (.k (.v 1) .z)))=.next (S0::S1::.sh false (.str (fK h.d))::.own false ((bM h).map aD)::List.replicate 9 .x):=dY (aBf (x:=.cl h.d) rfl cs3);have e4:ex pg (call pg 59) (S0::S1::.sh false (.str (fK h.d))::.own false ((bM h).map aD)::List.replicate 9 .x) (.set (.n 4) (.call 5 (.k (.v 0) (.k (.c (.int 30)) .z))))=.next (S0::S1::.sh false (.str (fK h.d))::.own false ((bM h).map aD)::.sh false (.int (cellAt ns 30))::List.replicate 8 .x):=bV (dB (x:=⟨.lst (ns.map D.int),false,true,[]⟩) (y:=.cl (.int 30)) rfl rfl (dF 58 ns (k:=30) (by decide)));have e5:ex pg (call pg 59) (S0::S1::.sh false (.str (fK h.d))::.own false ((bM h).map aD)::.sh false (.int (cellAt ns 30))::List.replicate 8 .x) (.set (.n 5) (.call 29 (.k (.v 1) (.k (.v 4) (.k (.v 3) .z)))))=.next (T5 ns h (cellAt ns 30) st [.x,.x,.x,.x,.x,.x,.x]):=bV (bE (x:=.cl h.d) (y:=.cl (.int (cellAt ns 30))) (z:=⟨.lst ((bM h).map aD),false,false,[3]⟩) rfl rfl rfl cst);refine⟨false,false,aH (F:=f19) rfl rfl (v:=.cl (.bl true)) (cs e1 (cs e2 (cs e3 (cs e4 (cs e5 ?_)))))⟩;cases hs:isSt h st with
 | true=>exact good ns H _ hs|false=>exact aFp ns H _ hs
end K21
end
noncomputable section
set_option maxRecDepth 100000
set_option maxHeartbeats 0
namespace K21
open PySem PySem.W L2 Hp Hh
noncomputable def ix:List (Nat×List Str):=(20,["one", "ahead", "behind", "word", "left", "right"]) ::
 (21,["cond", "ahead", "behind", "word", "left", "right"]) ::
 (26,["boxes", "way", "stand", "held", "box", "one", "amount"]) ::
 (27,["hand", "place"]) ::
 (32,["house", "state", "step", "hand", "stand", "places", "row", "way", "further"]) ::
 (36,["_law_script", "_law_k"]) ::
 (15,["thing"]) ::
 (38,["_law_cell", "_law_k"]) ::
 (39,["_law_cell", "_law_most", "_law_some", "_law_tops", "_law_letters", "_law_base", "_law_at"]) ::
 (40,["_law_cell", "_law_k", "_law_many", "_law_after", "_law_deep", "_law_way_here", "_law_one"]) ::
 (41,["_law_cell", "_law_k", "_law_many", "_law_after", "_law_deep", "_law_way_here", "_law_one"]) ::
 (42,["_law_cell", "_law_many", "_law_places", "_law_puts", "_law_k", "_law_way_here", "_law_some", "_law_guard"]) ::
 (43,["_law_script", "_law_at", "_law_many", "_law_rows", "_law_hand_here", "_law_k", "_law_cells_here", "_law_some"]) ::
 (44,["_law_cell", "_law_many", "_law_way_here", "_law_box"]) ::
 (45,["_law_script", "_law_most", "_law_great", "_law_boxes_here", "_law_many", "_law_begin", "_law_hands", "_law_promises", "_law_notes", "_law_k", "_law_at", "_law_cell", "_law_some", "_law_place"]) ::
 (46,["_law_one", "_law_ahead", "_law_after", "_law_left"]) ::
 (47,["_law_cond_here", "_law_ahead", "_law_after", "_law_left", "_law_right"]) ::
 (48,["_law_boxes_here", "_law_found", "_law_name", "_law_top", "_law_longer", "_law_stand"]) ::
 (49,["_law_house_here", "_law_state", "_law_step", "_law_stand", "_law_places", "_law_rows", "_law_guard", "_law_puts", "_law_goal", "_law_found", "_law_box", "_law_one"]) ::
 (57,["_law_script", "_law_house_here", "_law_kept", "_law_starts_here", "_law_cell", "_law_start_here", "_law_due", "_law_states", "_law_steps", "_law_handed", "_law_found", "_law_at", "_law_bad_here"]) ::
 (51,["_law_found", "_law_due", "_law_k"]) ::
 (16,["thing", "least", "most"]) ::
 (34,["house", "start"]) ::
 (18,["boxes", "thing"]) ::
 (33,["house", "start", "steps", "state", "states", "number", "step"]) ::
 (50,["_law_house_here"]) ::
 (37,["_law_script", "_law_first", "_law_last"]) ::
 (52,["_law_error", "_law_some"]) ::
 (53,["_law_house_here", "_law_start_here", "_law_steps", "_law_caught", "_law_place", "_law_found", "_law_error"]) ::
 (54,["_law_house_here", "_law_cell", "_law_starts_here", "_law_every_here", "_law_stand", "_law_at", "_law_way_here"]) ::
 (55,["_law_house_here", "_law_script", "_law_start_here", "_law_states", "_law_steps", "_law_cell", "_law_some", "_law_hand_here", "_law_number", "_law_after", "_law_step", "_law_state"]) ::
 (56,["_law_house_here", "_law_state", "_law_cell", "_law_some", "_law_hand_here", "_law_number"])::[]
noncomputable def sn:Sn:=⟨[("GUARD",(.int 0)),("PUTS",(.int 1)),("NEXT",(.int 2)),("BOXES",(.int 0)),("BEGIN",(.int 1)),("HANDS",(.int 2))],[],[("NoStart",[.own "NoStart",.own "PromiseError",.tValueError]),("NoStep",[.own "NoStep",.own "PromiseError",.tValueError])],["PromiseError", "NoBoxes", "NoCond", "NoHand", "NoHouse", "NoStart", "NoStep", "NoPaper", "NoProgram", "NoText", "NoName", "NoRow", "TooMany"],["NoStart"],[("NoStep",7, "NoStep.__init__", "self", "place")]⟩
abbrev pw:=PySem.Challenge.pw_handpromise_k21_weavings_woven
theorem chk:iS ⟨[],[],(ix.map (nP pw)).map (·.x),sn.cns,sn.cls,true,sn.tbs.map (·.1),sn.rsd,sn.pls.map (·.1)⟩ pg.fns (ix.map (nP pw))=true:=by decide +kernel
theorem tw0:(pw.main.body.length != 0)=true:=by k_qdec
theorem lft:LeftO pw (rZ pw) (uE pw) (λ_=>true) (λs=>jL pw sn s.heap) (λw=>mQ pw sn w) 100000:=aJo (by kernel_rfl) rfl (λ_=>by kernel_rfl) λw os=>byRow2 "special-get-raises" (P:=λw=>aMd pw (rZ pw) (uE pw) (λs=>jL pw sn s.heap) 100000 w os=some (true,openGood (rZ pw) (uE pw),mQ pw sn w)) (λw=>by
 have _:=tw0;unfold pw;rw[PySem.W.Fast.te18186980043537280602];kernel_rfl) (λw=>by
 have _:=tw0;unfold pw;rw[PySem.W.Fast.te18186980043537280602];kernel_rfl) w
end K21
end
noncomputable section
open PySem PySem.W PyProof.Rows Hh
set_option maxRecDepth 100000 in
set_option maxHeartbeats 0 in
theorem PySem.Challenge.cw_handpromise_k21_weavings_woven_holds : PySem.Challenge.rw_handpromise_k21_weavings_woven.Holds := by
 w_on; o_law; rename_i said
 refine aJt (l := PySem.Challenge.rw_handpromise_k21_weavings_woven) (k := 59) (f := 19) (x := "_law_script") (sl := ["_law_house_here", "_law_kept", "_law_starts_here", "_law_cell", "_law_start_here", "_law_due", "_law_states", "_law_steps", "_law_handed", "_law_found", "_law_at", "_law_bad_here"]) said K21.lft (by kernel_rfl) (by kernel_rfl) rfl rfl (by decide +kernel) ⟨rfl, rfl, rfl, rfl, rfl, by decide +kernel⟩ ?hw rfl rfl (by decide +kernel) (by decide +kernel) K21.chk rfl (by decide +kernel) rfl (by decide +kernel) ⟨rfl, rfl, by decide, by decide⟩ (by kernel_rfl) rfl K21.pure
 w_witness2
end
